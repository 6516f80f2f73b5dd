import PyProof.Rows.All
import Wide.All
import OpenK.AllK
import Wide.FinOn
import Lean
import PyProof.EqAt
import PyProof.EqKinds
import PyProof.TupleCall
import PyProof.SumAny
import PySem.Challenge.RW_onceways_k16_all_marks
set_option Elab.async false
set_option linter.all false
set_option maxRecDepth 100000
set_option maxHeartbeats 4000000
abbrev EX:=PySem.Value->PySem.Shared->Prop
section
open PySem PySem.Spec PyProof.Rows
theorem Yaa:type_of% @wpAny_bind:=@wpAny_bind
theorem Yab:type_of% @List.length_map:=@List.length_map
theorem Yac:type_of% @wpAny_pure:=@wpAny_pure
theorem Yad:type_of% @wpS_bind:=@wpS_bind
theorem Yae:type_of% @decide_eq_true:=@decide_eq_true
theorem Yaf:type_of% @Nat.le_refl:=@Nat.le_refl
theorem Yag:type_of% @wpS_pure:=@wpS_pure
theorem Yah:type_of% @Heap.lt_size:=@Heap.lt_size
theorem Yai:type_of% @decide_eq_false:=@decide_eq_false
theorem Yaj:type_of% @Heap.get?_push_of_some:=@Heap.get?_push_of_some
theorem Yak:type_of% @W.mg_of:=@W.mg_of
theorem Yal:type_of% @Bool.false_ne_true:=@Bool.false_ne_true
theorem Yam:type_of% @Array.length_toList:=@Array.length_toList
theorem Yan:type_of% @List.map_append:=@List.map_append
theorem Yao:type_of% @Nat.ne_of_lt:=@Nat.ne_of_lt
theorem Yap:type_of% @List.mem_append:=@List.mem_append
theorem Yaq:type_of% @List.length_append:=@List.length_append
theorem Yar:type_of% @W.mg_none_of:=@W.mg_none_of
theorem Yas:type_of% @List.mem_cons:=@List.mem_cons
theorem Yat:type_of% @List.getD_eq_getElem?_getD:=@List.getD_eq_getElem?_getD
theorem Yau:type_of% @List.size_toArray:=@List.size_toArray
theorem Yav:type_of% @Nat.zero_le:=@Nat.zero_le
theorem Yaw:type_of% @List.getElem?_map:=@List.getElem?_map
theorem Yax:type_of% @List.getElem?_eq_getElem:=@List.getElem?_eq_getElem
theorem Yay:type_of% @List.getElem?_eq_some_iff:=@List.getElem?_eq_some_iff
theorem Yaz:type_of% @Array.getElem?_toList:=@Array.getElem?_toList
theorem Yba:type_of% @List.mem_map:=@List.mem_map
theorem Ybb:type_of% @List.mem_of_getElem?:=@List.mem_of_getElem?
theorem Ybc:type_of% @Nat.le_trans:=@Nat.le_trans
theorem Ybd:type_of% @Heap.get?_push_size:=@Heap.get?_push_size
theorem Ybe:type_of% @List.map_cons:=@List.map_cons
theorem Ybf:type_of% @sizeLine_eq:=@sizeLine_eq
theorem Ybg:type_of% @beq_iff_eq:=@beq_iff_eq
theorem Ybh:type_of% @Array.getElem?_eq_getElem:=@Array.getElem?_eq_getElem
theorem Ybi:type_of% @congrArg:=@congrArg
theorem Ybj:type_of% @List.length_take:=@List.length_take
theorem Ybk:type_of% @List.mem_cons_self:=@List.mem_cons_self
theorem Ybl:type_of% @List.append_assoc:=@List.append_assoc
theorem Ybm:type_of% @Nat.lt_of_lt_of_le:=@Nat.lt_of_lt_of_le
theorem Ybn:type_of% @Int.toNat_natCast:=@Int.toNat_natCast
theorem Ybo:type_of% @List.mem_singleton:=@List.mem_singleton
theorem Ybp:type_of% @of_decide_eq_true:=@of_decide_eq_true
theorem Ybq:type_of% @PassesOwn.never:=@PassesOwn.never
theorem Ybr:type_of% @List.mem_cons_of_mem:=@List.mem_cons_of_mem
theorem Ybs:type_of% @List.pairwise_append:=@List.pairwise_append
theorem Ybt:type_of% @List.take_add_one:=@List.take_add_one
theorem Ybu:type_of% @Paired.length:=@Paired.length
theorem Ybv:type_of% @List.mem_range:=@List.mem_range
theorem Ybw:type_of% @Nat.le_of_lt:=@Nat.le_of_lt
theorem Ybx:type_of% @wpAny_mono:=@wpAny_mono
theorem Yby:type_of% @Option.some.inj:=@Option.some.inj
theorem Ybz:type_of% @List.take_length:=@List.take_length
theorem Yca:type_of% @Nat.lt_irrefl:=@Nat.lt_irrefl
theorem Ycb:type_of% @List.mem_filter:=@List.mem_filter
theorem Ycc:type_of% @wpAny_call_entry:=@wpAny_call_entry
theorem Ycd:type_of% @wpS_forRange:=@wpS_forRange
theorem Yce:type_of% @wpAny_holding:=@wpAny_holding
theorem Ycf:type_of% @List.mem_append_right:=@List.mem_append_right
theorem Ycg:type_of% @List.append_nil:=@List.append_nil
theorem Ych:type_of% @List.length_singleton:=@List.length_singleton
theorem Yci:type_of% @Array.size_push:=@Array.size_push
theorem Ycj:type_of% @Bool.and_eq_true:=@Bool.and_eq_true
theorem Yck:type_of% @List.length_cons:=@List.length_cons
theorem Ycl:type_of% @List.pairwise_map:=@List.pairwise_map
theorem Ycm:type_of% @wpS_modify:=@wpS_modify
theorem Ycn:type_of% @wpAny_truthy_bool:=@wpAny_truthy_bool
theorem Yco:type_of% @List.length_drop:=@List.length_drop
theorem Ycp:type_of% @List.length_range:=@List.length_range
theorem Ycq:type_of% @List.getElem_mem:=@List.getElem_mem
theorem Ycr:type_of% @Array.toList_append:=@Array.toList_append
theorem Ycs:type_of% @W.kia_one:=@W.kia_one
theorem Yct:type_of% @List.length_filter_le:=@List.length_filter_le
theorem Ycu:type_of% @codeAny_builtin:=@codeAny_builtin
theorem Ycv:type_of% @Nat.add_sub_cancel':=@Nat.add_sub_cancel'
theorem Ycw:type_of% @Int.emod_nonneg:=@Int.emod_nonneg
theorem Ycx:type_of% @Int.emod_lt_of_pos:=@Int.emod_lt_of_pos
theorem Ycy:type_of% @PySem.mem_of_lookup:=@PySem.mem_of_lookup
theorem Ycz:type_of% @List.Perm.append_left:=@List.Perm.append_left
theorem Yda:type_of% @Nat.min_eq_left:=@Nat.min_eq_left
theorem Ydb:type_of% @List.find?_cons:=@List.find?_cons
theorem Ydc:type_of% @Nat.zero_add:=@Nat.zero_add
theorem Ydd:type_of% @List.getElem_of_mem:=@List.getElem_of_mem
theorem Yde:type_of% @List.take_append_drop:=@List.take_append_drop
theorem Ydf:type_of% @wpAny_rule:=@wpAny_rule
theorem Ydg:type_of% @PySem.F.plainAttrs_list:=@PySem.F.plainAttrs_list
theorem Ydh:type_of% @Nat.ne_of_gt:=@Nat.ne_of_gt
theorem Ydi:type_of% @Heap.get?_update_self:=@Heap.get?_update_self
theorem Ydj:type_of% @Heap.size_push:=@Heap.size_push
theorem Ydk:type_of% @Option.map_eq_some_iff:=@Option.map_eq_some_iff
theorem Ydl:type_of% @Around.under_plainId:=@Around.under_plainId
theorem Ydm:type_of% @List.getElem?_take:=@List.getElem?_take
theorem Ydn:type_of% @List.pairwise_cons:=@List.pairwise_cons
theorem Ydo:type_of% @Nat.lt_succ_of_lt:=@Nat.lt_succ_of_lt
theorem Ydp:type_of% @List.mem_filterMap:=@List.mem_filterMap
theorem Ydq:type_of% @List.getElem?_append_right:=@List.getElem?_append_right
theorem Ydr:type_of% @List.getElem?_append_left:=@List.getElem?_append_left
theorem Yds:type_of% @List.replicate_succ:=@List.replicate_succ
theorem Ydt:type_of% @Nat.le_succ:=@Nat.le_succ
theorem Ydu:type_of% @wpAny_attempt:=@wpAny_attempt
theorem Ydv:type_of% @List.getElem?_drop:=@List.getElem?_drop
theorem Ydw:type_of% @Array.toList_push:=@Array.toList_push
theorem Ydx:type_of% @Heap.SameBut.update:=@Heap.SameBut.update
theorem Ydy:type_of% @List.map_map:=@List.map_map
theorem Ydz:type_of% @PySem.boot_len:=@PySem.boot_len
theorem Yea:type_of% @PySem.F.slot_list_append:=@PySem.F.slot_list_append
theorem Yeb:type_of% @PySem.F.type_list_append:=@PySem.F.type_list_append
theorem Yec:type_of% @wpAny_passesOwn:=@wpAny_passesOwn
theorem Yed:type_of% @plainId_quiet:=@plainId_quiet
theorem Yee:type_of% @Array.getD_eq_getD_getElem?:=@Array.getD_eq_getD_getElem?
theorem Yef:type_of% @List.nodup_append:=@List.nodup_append
theorem Yeg:type_of% @wpAny_isInstance:=@wpAny_isInstance
theorem Yeh:type_of% @getElem?_mirror_all:=@getElem?_mirror_all
theorem Yei:type_of% @List.mem_append_left:=@List.mem_append_left
theorem Yej:type_of% @Bool.eq_false_iff:=@Bool.eq_false_iff
theorem Yek:type_of% @Nat.min_eq_right:=@Nat.min_eq_right
theorem Yel:type_of% @wpAny_callSpecial?_slot:=@wpAny_callSpecial?_slot
theorem Yem:type_of% @Array.toList_extract:=@Array.toList_extract
theorem Yen:type_of% @List.extract_eq_take_drop:=@List.extract_eq_take_drop
theorem Yeo:type_of% @Array.size_extract:=@Array.size_extract
theorem Yep:type_of% @Option.isSome_iff_exists:=@Option.isSome_iff_exists
theorem Yeq:type_of% @List.take_of_length_le:=@List.take_of_length_le
theorem Yer:type_of% @List.drop_of_length_le:=@List.drop_of_length_le
theorem Yes:type_of% @List.drop_eq_getElem_cons:=@List.drop_eq_getElem_cons
theorem Yet:type_of% @List.getElem?_eq_none:=@List.getElem?_eq_none
theorem Yeu:type_of% @List.mem_of_mem_take:=@List.mem_of_mem_take
theorem Yev:type_of% @List.mem_iff_getElem?:=@List.mem_iff_getElem?
theorem Yew:type_of% @PyProof.Rows.callWith_type1:=@PyProof.Rows.callWith_type1
theorem Yex:type_of% @wpAny_typeNameOfWhole_keyiter:=@wpAny_typeNameOfWhole_keyiter
theorem Yey:type_of% @F.slot_dict_keyiterator_next:=@F.slot_dict_keyiterator_next
end
namespace L2
open PySem PySem.Spec PyProof.Rows
noncomputable abbrev Key:=Sum Int Str
noncomputable def WZ:Key->Value->Bool
 | .inl k,v=>Value.isInt k v
 | .inr x,v=>Value.isStrOf x v
noncomputable def Zgw (w:World):Key->Int
 | .inl k=>hashInt k
 | .inr x=>hashStr w x
theorem GW:∀{k:Key}{v:Value},WZ k v=true->(∃i t,k=Sum.inl i/\v=Value.int i t)\/(∃x t,k=Sum.inr x/\v=Value.str x t)
 | .inl i,v,h=>by
  obtain ⟨t,e⟩:=Value.isInt_shape (k:=i) (v:=v) h;exact .inl ⟨i,t,rfl,e⟩
 | .inr x,v,h=>by
  obtain ⟨t,e⟩:=Value.isStrOf_shape (x:=x) (v:=v) h;exact .inr ⟨x,t,rfl,e⟩
theorem Ze (i:Int)(t:Tok):WZ (.inl i) (.int i t)=true:=by simp [WZ,Value.isInt]
theorem Zf (x:Str)(t:Tok):WZ (.inr x) (.str x t)=true:=by simp [WZ,Value.isStrOf]
theorem Zdo (a b:Int):decide ((Sum.inl a:Key)=Sum.inl b)=(a == b):=by
 by_cases e:a=b
 ·subst e;simp
 ·have h:¬ (Sum.inl a:Key)=Sum.inl b:=λq=>e (Sum.inl.inj q);rw [Yai h];exact (beq_eq_false_iff_ne.mpr e).symm
theorem Zdp (a b:Str):decide ((Sum.inr a:Key)=Sum.inr b)=decide (a=b):=by
 by_cases e:a=b
 ·subst e;simp
 ·have h:¬ (Sum.inr a:Key)=Sum.inr b:=λq=>e (Sum.inr.inj q);rw [Yai h,Yai e]
theorem Zdq (a:Int)(b:Str):decide ((Sum.inl a:Key)=Sum.inr b)=false:=Yai (λq=>nomatch q)
theorem Zdr (a:Str)(b:Int):decide ((Sum.inr a:Key)=Sum.inl b)=false:=Yai (λq=>nomatch q)
noncomputable def GL (prog:Program)(w:World):PySem.KeyKind prog w Key where
 is:=WZ
 hash:=Zgw w
 inj:=λv a b ha hb=>by
  rcases GW ha with ⟨i,t,rfl,rfl⟩ | ⟨x,t,rfl,rfl⟩
  ·rcases GW hb with ⟨j,u,rfl,e⟩ | ⟨y,u,rfl,e⟩
   ·injection e with e1 _;rw [e1]
   ·exact nomatch e
  ·rcases GW hb with ⟨j,u,rfl,e⟩ | ⟨y,u,rfl,e⟩
   ·exact nomatch e
   ·injection e with e1 _;rw [e1]
 byValue:=λk v h=>by
  rcases GW h with ⟨i,t,rfl,rfl⟩ | ⟨x,t,rfl,rfl⟩ <;> rfl
 pyHash:=λhv h=>by
  rcases GW hv with ⟨i,t,rfl,rfl⟩ | ⟨x,t,rfl,rfl⟩
  ·exact wpAny_pyHash_int h
  ·exact wpAny_pyHash_str h
 eqBool:=λhu hv h=>by
  rcases GW hu with ⟨i,t,rfl,rfl⟩ | ⟨x,t,rfl,rfl⟩
  ·rcases GW hv with ⟨j,u,rfl,rfl⟩ | ⟨y,u,rfl,rfl⟩
   ·rw [Zdo] at h;exact wpAny_eqBool_int h
   ·rw [Zdq] at h;exact SeqAt.EqAt.int_str i t y u _ _ _ _ h
  ·rcases GW hv with ⟨j,u,rfl,rfl⟩ | ⟨y,u,rfl,rfl⟩
   ·rw [Zdr] at h;exact SeqAt.EqAt.str_int x t j u _ _ _ _ h
   ·rw [Zdp] at h;exact wpAny_eqBool_str h
 «strs»:=λk x t v h=>by
  rcases GW h with ⟨i,u,rfl,e⟩ | ⟨y,u,rfl,e⟩
  ·exact nomatch e
  ·injection e with e1 _
   subst e1;cases v <;> rfl
theorem W0 (prog:Program)(w:World)(i:Int)(t:Tok):(GL prog w).is (.inl i) (.int i t)=true:=Ze i t
theorem W1 (prog:Program)(w:World)(x:Str)(t:Tok):(GL prog w).is (.inr x) (.str x t)=true:=Zf x t
inductive V where
 | non | bl (b:Bool) | int (i:Int) | str (x:Str) | byt (b:Array UInt8) | flt (b:UInt64) | ref (a:Addr) | ty (n:String)
 deriving DecidableEq
noncomputable def RelV:V->Value->Prop
 | .non,u=>u=Value.none
 | .bl b,u=>u=Value.bool b
 | .int i,u=>∃t,u=Value.int i t
 | .str x,u=>∃t,u=Value.str x t
 | .byt b,u=>∃t,u=Value.bytes b t
 | .flt b,u=>∃t,u=Value.float b t
 | .ref a,u=>u=Value.ref a
 | .ty n,u=>u=Value.type n
noncomputable abbrev Vals:List V->List Value->Prop:=Paired RelV
theorem Vals.length {xs:List V}{us:List Value}(r:Vals xs us):xs.length=us.length:=Ybu r
theorem Vals.get:∀{xs:List V}{us:List Value}{i:Nat}{x:V},Vals xs us->xs[i]?=some x->∃u,us[i]?=some u/\RelV x u
 | _,_,_,_,.nil,e=>by simp at e
 | _,_,0,_,.cons r _,e=>by simp at e;subst e;exact ⟨_,rfl,r⟩
 | _,_,i+1,x,.cons _ t,e=>by
  obtain ⟨u,h1,h2⟩:=Vals.get (i:=i) (x:=x) t (by simpa using e);exact ⟨u,by simpa using h1,h2⟩
theorem Vals.set {x:V}{u:Value}(r:RelV x u):∀{xs:List V}{us:List Value}(i:Nat),Vals xs us->Vals (xs.set i x) (us.set i u)
 | _,_,_,.nil=>.nil
 | _,_,0,.cons _ t=>.cons r t
 | _,_,i+1,.cons q t=>.cons q (Vals.set r i t)
theorem Vals.append {xs ys:List V}{us q:List Value}(h:Vals xs us)(s:Vals ys q):Vals (xs++ys) (us++q):=by
 induction h with
 | nil=>exact s
 | cons r _ ih=>exact .cons r ih
theorem Vals.take:∀{xs:List V}{us:List Value}(n:Nat),Vals xs us->Vals (xs.take n) (us.take n)
 | _,_,0,_=>.nil
 | _,_,_+1,.nil=>.nil
 | _,_,n+1,.cons r t=>.cons r (Vals.take n t)
theorem Vals.drop:∀{xs:List V}{us:List Value}(n:Nat),Vals xs us->Vals (xs.drop n) (us.drop n)
 | _,_,0,r=>r
 | _,_,_+1,.nil=>.nil
 | _,_,n+1,.cons _ t=>Vals.drop n t
noncomputable def RelO:Option V->Option Value->Prop
 | some v,some u=>RelV v u
 | none,none=>True
 | _,_=>False
noncomputable def KV {κ:Type}:List (κ×V)->List (κ×Value)->Prop:=Paired λ(p:κ×V) (q:κ×Value)=>p.1=q.1/\RelV p.2 q.2
noncomputable def kV:Key->V
 | .inl i=>.int i
 | .inr x=>.str x
inductive HO where
  | lst (xs:List V)
  | tup (xs:List V)
  | dK (kvs:List (Key×V)) | dT (kvs:List (List Key×V))
  | set (S:Int->Bool) (n:Nat)
  | ins (C dx:Addr) (fs:List (Str×V))
  | own (x:Addr)
  | xd (fs:List (Str×V))
  | met (f x:Addr)
  | rng (lo hi:Int)
  | frz (o:Obj) (u:HO)
  | tbl (ps:Array Value)
  | ext (φ:Heap->Prop)
noncomputable abbrev Hp:=Addr->Option HO
noncomputable def upd (H:Hp)(a:Addr)(o:HO):Hp:=λb=>if b=a then some o else H b
theorem Gb {H:Hp}{a:Addr}{o:HO}:upd H a o a=some o:=by unfold upd;rw [if_pos rfl]
theorem GB {H:Hp}{a b:Addr}{o:HO}(h:b≠a):upd H a o b=H b:=by unfold upd;rw [if_neg h]
theorem Ud {H:Hp}{a:Addr}{o u:HO}:upd (upd H a o) a u=upd H a u:=by
 funext b;unfold upd;split <;> rfl
theorem Ow {H:Hp}{a b:Addr}{o u:HO}(h:H a=some o)(h':H b=some u)(d:o≠u):a≠b:=by
 intro e;subst e;rw [h] at h';exact d (Yby h')
theorem Gh {H:Hp}{a b:Addr}{o:HO}(h:H a=some o)(h':H b=none):a≠b:=by
 intro e;subst e;rw [h] at h';cases h'
section
variable (P:Program)(w:World)
noncomputable def ObjOk (H:Hp)(h:Heap)(a:Addr):HO->Prop
 | .lst xs=>xs.length<=sizeLine/\∃(its:List Value)(n:Nat),Vals xs its/\h.get? a=some { cls:=.type "list", data:=.seq its.toArray n }
 | .tup xs=>xs.length<=sizeLine/\∃its:List Value,Vals xs its/\IsTup h a its.toArray
 | .dK kvs=>kvs.length<=sizeLine/\(a == sysModules)=false/\∃vs,KV kvs vs/\h.DictOf (GL P w) a vs
 | .dT kvs=>kvs.length<=sizeLine/\(a == sysModules)=false/\∃xs:List (List Key×Addr×Value),
   Paired (λ(p:List Key×V) (q:List Key×Addr×Value)=>p.1=q.1/\H q.2.1=some (.tup (p.1.map kV))/\RelV p.2 q.2.2) kvs xs /\
   ∃o es ep,h.get? a=some o/\o.ExactDict/\o.data=.dict es ep/\es.toList=xs.map (entryOfKey (tupleKind (GL P w)))/\(xs.map (·.1)).Nodup
 | .set S n=>h.SetOf (intKind P w) a S n
 | .ins C dx fs=>H dx=some (.own a)/\fs.length<=1000/\dx≠a/\h.get? a=some (W.instObj C dx) /\
   ∃mA,h.Ns1 dx mA/\(∀f,RelO (fs.lookup f) (mA f))/\PySem.Within mA (fs.map (·.1))
 | .own _=>∃o,h.get? a=some o
 | .xd fs=>∃mA,h.Ns1 a mA/\∀f,RelO (fs.lookup f) (mA f)
 | .rng lo hi=>∃t u v,h.get? a=some { cls:=.type "range", data:=.fields #[.int lo t,.int hi u,.int 1 v] }
 | .frz o u=>h.get? a=some o/\ObjOk H h a u
 | .tbl ps=>h.get? a=some { cls:=.none,data:=.fields ps }
 | .met f x=>h.get? a=some (W.methodObj (.ref f) (.ref x))
 | .ext φ=>φ h/\(∃o,h.get? a=some o)/\∀h1 h2:Heap,φ h1->(∀o,h1.get? a=some o->h2.get? a=some o)->φ h2
noncomputable def HOk (H:Hp)(h:Heap):Prop:=∀a o,H a=some o->ObjOk P w H h a o
end
section
variable {P:Program}{w:World}{H H':Hp}{h h':Heap}{a:Addr}{o:HO}
theorem ObjOk.lt (x:ObjOk P w H h a o):a<h.objs.size:=by
 cases o with
 | lst xs=>obtain ⟨_,_,_,_,e⟩:=x;exact Yah e
 | tup xs=>obtain ⟨_,_,_,p⟩:=x;exact p.lt
 | dK kvs=>obtain ⟨_,_,_,_,o,_,_,e,_⟩:=x;exact Yah e
 | dT kvs=>obtain ⟨_,_,_,_,o,_,_,e,_⟩:=x;exact Yah e
 | set S n=>obtain ⟨o,_,_,_,e,_⟩:=x;exact Yah e
 | ins C dx fs=>obtain ⟨_,_,_,e,_⟩:=x;exact Yah e
 | own y=>obtain ⟨_,e⟩:=x;exact Yah e
 | xd fs=>obtain ⟨_,⟨_,_,_,e,_⟩,_⟩:=x;exact Yah e
 | rng lo hi=>obtain ⟨_,_,_,e⟩:=x;exact Yah e
 | frz ob u=>obtain ⟨e,_⟩:=x;exact Yah e
 | tbl ps=>exact Yah (show h.get? a=some _ from x)
 | met f y=>exact Yah (show h.get? a=some _ from x)
 | ext φ=>obtain ⟨_,⟨_,e⟩,_⟩:=x;exact Yah e
theorem Paired.mapP {α β:Type}{F G:α->β->Prop}{q:List α}{B:List β}(h:Paired F q B)(f:∀a b,F a b->G a b):Paired G q B:=by
 induction h with
 | nil=>exact .nil
 | cons r _ ih=>exact .cons (f _ _ r) ih
theorem ObjOk.stay (x:ObjOk P w H h a o)(k:∀b u,(b=a\/H b=some (.own a))->h.get? b=some u->h'.get? b=some u)(G:∀b,H b=some (.own a)->H' b=some (.own a))(L:∀b xs,H b=some (.tup xs)->H' b=some (.tup xs)):ObjOk P w H' h' a o:=by
 induction o with
 | lst xs=>obtain ⟨z,D,n,r,e⟩:=x;exact ⟨z,D,n,r,k _ _ (.inl rfl) e⟩
 | tup xs=>obtain ⟨z,D,r,B,e,c⟩:=x;exact ⟨z,D,r,B,k _ _ (.inl rfl) e,c⟩
 | dK kvs=>obtain ⟨z,y,vs,r,B,es,ep,e,c⟩:=x;exact ⟨z,y,vs,r,B,es,ep,k _ _ (.inl rfl) e,c⟩
 | dT kvs=>
  obtain ⟨z,y,xs,r,B,es,ep,e,c⟩:=x;exact ⟨z,y,xs,Paired.mapP r λp q z=>⟨z.1,L _ _ z.2.1,z.2.2⟩,B,es,ep,k _ _ (.inl rfl) e,c⟩
 | set S n=>obtain ⟨B,es,ep,t,e,c⟩:=x;exact ⟨B,es,ep,t,k _ _ (.inl rfl) e,c⟩
 | ins C dx fs=>
  obtain ⟨d,z,N,e,mA,⟨F,es,ep,O,c⟩,r⟩:=x;exact ⟨G _ d,z,N,k _ _ (.inl rfl) e,mA,⟨F,es,ep,k _ _ (.inr d) O,c⟩,r⟩
 | own y=>obtain ⟨B,e⟩:=x;exact ⟨B,k _ _ (.inl rfl) e⟩
 | xd fs=>obtain ⟨mA,⟨F,es,ep,e,c⟩,r⟩:=x;exact ⟨mA,⟨F,es,ep,k _ _ (.inl rfl) e,c⟩,r⟩
 | rng lo hi=>obtain ⟨t,u,v,e⟩:=x;exact ⟨t,u,v,k _ _ (.inl rfl) e⟩
 | frz B u ih=>obtain ⟨e,q⟩:=x;exact ⟨k _ _ (.inl rfl) e,ih q⟩
 | tbl ps=>
  have e:h.get? a=some { cls:=.none,data:=.fields ps }:=x;show h'.get? a=some { cls:=.none,data:=.fields ps };exact k a _ (.inl rfl) e
 | met f y=>
  have e:h.get? a=some (W.methodObj (.ref f) (.ref y)):=x;show h'.get? a=some (W.methodObj (.ref f) (.ref y));exact k a _ (.inl rfl) e
 | ext φ=>obtain ⟨p,⟨o,e⟩,st⟩:=x;exact ⟨st _ _ p λo q=>k _ _ (.inl rfl) q,⟨o,k _ _ (.inl rfl) e⟩,st⟩
theorem HOk.lt (x:HOk P w H h)(e:H a=some o):a<h.objs.size:=(x a o e).lt
theorem HOk.fresh (x:HOk P w H h)(e:h.objs.size<=a):H a=none:=by
 cases q:H a with
 | none=>rfl
 | some u=>exact absurd (Ybm (x.lt q) e) (Yca _)
theorem HOk.kept (x:HOk P w H h)(k:∀b u,h.get? b=some u->h'.get? b=some u):HOk P w H h':=λa o e=>
 (x a o e).stay (λb u _ q=>k b u q) (λ_ q=>q) λ_ _ q=>q
theorem HOk.laid (x:HOk P w H h)(k:∀b u,h.get? b=some u->h'.get? b=some u)(F:h.objs.size<=a)(new:ObjOk P w (upd H a o) h' a o):HOk P w (upd H a o) h':=λb u e=>by
 have B:=x.fresh F;by_cases D:b=a
 ·subst D;rw [Gb] at e;cases e;exact new
 ·rw [GB D] at e;exact (x b u e).stay (λc v _ q=>k c v q) (λc q=>by rw [GB (Gh q B)];exact q) λc xs q=>by rw [GB (Gh q B)];exact q
end
noncomputable def Rd (H:Hp)(a:Addr)(u:HO):Prop:=H a=some u\/∃o,H a=some (.frz o u)
theorem Rd.ok {P:Program}{w:World}{H:Hp}{h:Heap}{a:Addr}{u:HO}(r:Rd H a u)(x:HOk P w H h):ObjOk P w H h a u:=by
 rcases r with r | ⟨o,r⟩
 ·exact x a u r
 ·obtain ⟨_,q⟩:=x a _ r;exact q
noncomputable def Mut:Option HO->Prop
 | some (.lst _)=>True
 | some (.dK _)=>True
 | some (.dT _)=>True
 | some (.set _ _)=>True
 | some (.ins _ _ _)=>True
 | some (.ext _)=>True
 | _=>False
section
variable {P:Program}{w:World}{H:Hp}{h h':Heap}{x e:Addr}{o':HO}
theorem HOk.write (ok:HOk P w H h)(G:Mut (H x))(U:e=x\/H e=some (.own x))(k:∀b u,b≠e->h.get? b=some u->h'.get? b=some u)(O:∃u,h'.get? e=some u)(new:ObjOk P w (upd H x o') h' x o'):HOk P w (upd H x o') h':=λb u q=>by
 have D:∀c y,H c=some (.own y)->c≠x:=λc y r z=>by subst z;rw [r] at G;exact G
 have F:∀c xs,H c=some (.tup xs)->c≠x:=λc xs r z=>by subst z;rw [r] at G;exact G
 by_cases L:b=x
 ·subst L;rw [Gb] at q;cases q;exact new
 ·rw [GB L] at q;by_cases B:b=e
  ·have Y:H b=some (.own x):=by
    rcases U with z | z
    ·exact absurd (B.trans z) L
    ·rw [B];exact z
   rw [q] at Y;cases Y;obtain ⟨v,Z⟩:=O;exact ⟨v,by rw [B];exact Z⟩
  ·refine (ok b u q).stay (λc v N r=>k c v ?_ r) (λc r=>by rw [GB (D c b r)];exact r) λc xs r=>by rw [GB (F c xs r)];exact r
   rcases N with rfl | N
   ·exact B
   ·rintro rfl;rcases U with z | z
    ·exact D c b N z
    ·rw [N] at z;cases z;exact L rfl
end
structure Un (fs ex:List Addr)(H H':Hp)(h h':Heap):Prop where
 keep:∀b o,h.get? b=some o->H b=none->b ∉ fs->b ∉ ex->h'.get? b=some o
 slot:∀b o,h.get? b=some o->H b=none->b∈fs->b ∉ ex->∃sl,h'.get? b=some { o with slots:=sl }
 free:∀b o,h.get? b=some o->H b=none->b ∉ ex->H' b=none
 there:∀b o,h.get? b=some o->b ∉ ex->∃o',h'.get? b=some o'
 tups:∀b xs,H b=some (.tup xs)->H' b=some (.tup xs)
 frzs:∀b o u,H b=some (.frz o u)->H' b=some (.frz o u)
 tbls:∀b ps,H b=some (.tbl ps)->∃more,H' b=some (.tbl (ps++more))
section
variable {fs fs' ex ex':List Addr}{H H1 H2:Hp}{h h1 h2 h':Heap}{a x e:Addr}{o:HO}
theorem Un.any (u:Un fs ex H H1 h h1){b:Addr}{B:Obj}(q:h.get? b=some B)(n:H b=none)(D:b ∉ ex):∃G,h1.get? b=some { B with slots:=G }:=by
 by_cases F:b∈fs
 ·exact u.slot b B q n F D
 ·exact ⟨B.slots,u.keep b B q n F D⟩
theorem Un.trans (a:Un fs ex H H1 h h1)(b:Un fs ex H1 H2 h1 h2):Un fs ex H H2 h h2 where
 keep:=λc ob q n hc hx=>b.keep c ob (a.keep c ob q n hc hx) (a.free c ob q n hx) hc hx
 slot:=λc ob q n hc hx=>by
  obtain ⟨sl,e1⟩:=a.slot c ob q n hc hx;obtain ⟨sl',e2⟩:=b.slot c _ e1 (a.free c ob q n hx) hc hx;exact ⟨sl',e2⟩
 free:=λc ob q n hx=>by
  obtain ⟨o',e1⟩:=a.there c ob q hx;exact b.free c o' e1 (a.free c ob q n hx) hx
 there:=λc ob q hx=>by
  obtain ⟨o',e1⟩:=a.there c ob q hx;exact b.there c o' e1 hx
 tups:=λc xs q=>b.tups c xs (a.tups c xs q)
 frzs:=λc ob xs q=>b.frzs c ob xs (a.frzs c ob xs q)
 tbls:=λc ps q=>by
  obtain ⟨m1,e1⟩:=a.tbls c ps q;obtain ⟨m2,e2⟩:=b.tbls c _ e1;exact ⟨m1++m2,by rw [e2,Array.append_assoc]⟩
theorem Un.kept (k:∀b u,h.get? b=some u->h'.get? b=some u):Un fs ex H H h h':=
 ⟨λb B q _ _ _=>k b B q,λb B q _ _ _=>⟨B.slots,k b B q⟩,λ_ _ _ n _=>n,λb B q _=>⟨B,k b B q⟩,λ_ _ q=>q,λ_ _ _ q=>q,λ_ ps q=>⟨#[],by rw [q];simp⟩⟩
theorem Un.refl:Un fs ex H H h h:=Un.kept λ_ _ q=>q
theorem Un.laid (k:∀b u,h.get? b=some u->h'.get? b=some u)(hp:h.objs.size<=a)(hn:H a=none):Un fs ex H (upd H a o) h h' where
 keep:=λb u q _ _ _=>k b u q
 slot:=λb u q _ _ _=>⟨u.slots,k b u q⟩
 free:=λb u q n _=>by rw [GB (Yao (Ybm (Yah q) hp))];exact n
 there:=λb u q _=>⟨u,k b u q⟩
 tups:=λb xs q=>by rw [GB (Gh q hn)];exact q
 frzs:=λb u xs q=>by rw [GB (Gh q hn)];exact q
 tbls:=λb ps q=>⟨#[],by rw [GB (Gh q hn),q];simp⟩
theorem Un.write (D:Mut (H x))(O:e=x\/H e=some (.own x))(k:∀b u,b≠e->h.get? b=some u->h'.get? b=some u)(F:∃u,h'.get? e=some u):Un fs ex H (upd H x o) h h':=by
 have L:∀b,H b=none->b≠x:=λb n z=>by subst z;rw [n] at D;exact D
 have N:∀b,H b=none->b≠e:=λb n z=>by
  subst z;rcases O with r | r
  ·exact L b n r
  ·rw [n] at r;cases r
 have G:∀b u,H b=some u->¬ Mut (some u)->b≠x:=λb u q nm z=>by subst z;rw [q] at D;exact nm D
 refine ⟨λb u q n _ _=>k b u (N b n) q,λb u q n _ _=>⟨u.slots,k b u (N b n) q⟩,λb u q n _=>by rw [GB (L b n)];exact n,λb u q _=>?_,
  λb xs q=>by rw [GB (G b _ q λz=>z)];exact q,λb u xs q=>by rw [GB (G b _ q λz=>z)];exact q,λb ps q=>⟨#[],by rw [GB (G b _ q λz=>z),q];simp⟩⟩
 by_cases B:b=e
 ·subst B;exact F
 ·exact ⟨u,k b u B q⟩
theorem Un.mono (u:Un fs ex H H1 h h1)(G:∀b∈fs,b∈fs')(F:∀b∈ex,b∈ex'):Un fs' ex' H H1 h h1:=
 ⟨λb D q n L B=>u.keep b D q n (λz=>L (G b z)) λz=>B (F b z),λ_ _ q n _ B=>u.any q n λz=>B (F _ z),λb D q n B=>u.free b D q n λz=>B (F b z),λb D q B=>u.there b D q λz=>B (F b z),u.tups,u.frzs,u.tbls⟩
end
noncomputable def trk (h:Heap)(H:Hp):List Addr:=(List.range h.objs.size).filter λa=>(H a).isSome
noncomputable def ZaU (h:Heap)(H:Hp):Heap:=W.hideAll h (trk h H)
theorem Zg (h:Heap)(H:Hp):(ZaU h H).objs.size=h.objs.size:=W.hideAll_size _ _
theorem ZaV {h:Heap}{H:Hp}{b:Addr}{o:Obj}(e:h.get? b=some o)(n:H b=none):(ZaU h H).get? b=some o:=
 W.hideAll_get _ e λB=>by
  have q:(H b).isSome=true:=(Ycb.mp B).2;rw [n] at q;simp at q
theorem Zcr {h:Heap}{H:Hp}{b:Addr}{o:Obj}(e:(ZaU h H).get? b=some o):h.get? b=some o/\H b=none:=by
 have B:h.get? b=some o:=W.of_hideAll (trk h H) e;refine ⟨B,?_⟩;cases q:H b with
 | none=>rfl
 | some x=>
  have D:b∈trk h H:=Ycb.mpr ⟨Ybv.mpr (Yah B),by simp [q]⟩;have z:(ZaU h H).get? b=none:=W.hideAll_none (trk h H) D;rw [z] at e;cases e
structure Mod (K:W.Frag)(mg:Str->Option Value)(base:Heap):Prop where
 kin:K.In base
 glob:base.Ns mainGlobals mg
 blt:∃mb,base.Ns builtinsNs mb/\∀x:Str,x ≠ "__name__" -> mb x=bootBuiltins x
 nolimit:base.NoLimit
structure Cx where
 prog:Program
 w:World
 K:W.Frag
 mg:Str->Option Value
 base:Heap
 A:Around
 N:List Str
 s₀:Shared
 H₀:Hp
 env:Env
 outer:List Env
 stack:List Env
 ex:List Addr
 fn:Str->Bool
 calm:Bool
 pn:List (Addr×Obj)
 xe:EX
noncomputable def frs (l:List Env):List Addr:=l.filterMap (·.frame)
noncomputable abbrev Cx.fs (X:Cx):List Addr:=frs X.outer
noncomputable def Vis (q:Scope)(x:Str):Prop:=q.names.lookup x=some .local\/q.names.lookup x=some .cell\/q.names.lookup x=some .free
noncomputable def Loc (q:Scope)(x:Str):Prop:=q.names.lookup x=some .local\/q.names.lookup x=some .cell
noncomputable def Zgx (env:Env)(h:Heap)(m:Str->Option Value)(x:Str)(u:Value):Prop:=
 (env.kindOf x=some .local/\m x=some u)\/((env.kindOf x=some .cell\/env.kindOf x=some .free)/\∃c,env.cells.lookup x=some c/\h.IsCell c (some u))
structure Cx.Ok (X:Cx):Prop where
 mod:Mod X.K X.mg X.base
 kind:X.env.scope.kind=.function
 glob:X.env.globals=mainGlobals
 blt:X.env.builtins=builtinsNs
 above:X.s₀.heap.objs.size<=X.env.locals
 inj:∀x y c,X.env.cells.lookup x=some c->X.env.cells.lookup y=some c->x=y
 has:∀x,(X.env.kindOf x=some .cell\/X.env.kindOf x=some .free)->∃c,X.env.cells.lookup x=some c
 cab:∀x c,X.fn x=true->X.env.cells.lookup x=some c->X.s₀.heap.objs.size<=c
 hd:X.calm=true->X.A.handled=none
 frames:X.A.frames=some X.stack
 stk:X.stack=X.outer\/(X.stack=X.env::X.outer/\X.env.frame=some X.env.locals)
 exf:∀b∈X.ex,b≠X.env.locals/\∀x c,X.env.cells.lookup x=some c->c≠b
 bs:∀b o,X.base.get? b=some o->X.s₀.heap.get? b=some o/\X.H₀ b=none
 bsz:X.base.objs.size<=X.s₀.heap.objs.size
 noex:∀b o,X.base.get? b=some o->b ∉ X.ex
 exfs:∀b∈X.ex,b ∉ X.fs
 funs:X.s₀.heap.FunFrames X.base X.outer
 frf:∀b∈X.fs,X.H₀ b=none
structure Inv (X:Cx)(qQ:List (Addr×Obj))(σ:List (Option V))(H:Hp)(s:Shared):Prop where
 ok:X.Ok
 os:s.os=X.s₀.os
 bare:AllBare s.gens
 base:Un X.fs X.ex X.H₀ H X.s₀.heap s.heap
 loc:∃m,s.heap.Ns X.env.locals m/\∀(i:Nat)(x:Str)(v:V),X.N[i]?=some x->σ[i]?=some (some v)->Vis X.env.scope x->∃u,RelV v u/\Zgx X.env s.heap m x u
 cell:∀x c,X.env.cells.lookup x=some c->∃v,s.heap.IsCell c v
 free:H X.env.locals=none
 freeC:∀x c,X.env.cells.lookup x=some c->H c=none
 pin:∀p∈X.pn++qQ,s.heap.get? p.1=some p.2/\H p.1=none/\p.1≠X.env.locals/\p.1 ∉ X.fs/\∀v,p.2.data≠.cell v
 hok:HOk X.prog X.w H s.heap
 len:σ.length=X.N.length
section
variable {X:Cx}{qQ:List (Addr×Obj)}{σ:List (Option V)}{H H':Hp}{s:Shared}{h':Heap}
theorem Cx.Ok.nofr (ok:X.Ok){b:Addr}{o:Obj}(e:X.base.get? b=some o):b ∉ X.fs:=λq=>by
 have:=(ok.funs.mem q).1;rw [e] at this;cases this
theorem Inv.bs (I:Inv X qQ σ H s):∀b o,X.base.get? b=some o->s.heap.get? b=some o/\H b=none:=λb o e=>
 ⟨I.base.keep b o (I.ok.bs b o e).1 (I.ok.bs b o e).2 (I.ok.nofr e) (I.ok.noex b o e),I.base.free b o (I.ok.bs b o e).1 (I.ok.bs b o e).2 (I.ok.noex b o e)⟩
theorem Inv.bk (I:Inv X qQ σ H s):∀b o,X.base.get? b=some o->s.heap.get? b=some o:=λb o e=>(I.bs b o e).1
theorem Inv.mod (I:Inv X qQ σ H s):Mod X.K X.mg X.base:=I.ok.mod
theorem Inv.kIn (I:Inv X qQ σ H s):X.K.In s.heap:=I.ok.mod.kin.keeps I.bk
theorem Inv.lt (I:Inv X qQ σ H s):X.env.locals<s.heap.objs.size:=let ⟨_,hn,_⟩:=I.loc;hn.lt
theorem Inv.sz (I:Inv X qQ σ H s):X.s₀.heap.objs.size<=s.heap.objs.size:=Ybc I.ok.above (Ybw I.lt)
theorem Inv.nofs (I:Inv X qQ σ H s){a:Addr}(h:s.heap.objs.size<=a):a ∉ X.fs:=λq=>by
 obtain ⟨_,o,B,_⟩:=I.ok.funs.mem q;exact absurd (Ybm (Yah B) (Ybc I.sz h)) (Yca _)
theorem Inv.cne (I:Inv X qQ σ H s):∀x c,X.env.cells.lookup x=some c->c≠X.env.locals:=λx c e z=>by
 obtain ⟨v,o,D,F⟩:=I.cell x c e;obtain ⟨m,⟨o',es,ep,q,B,_⟩,_⟩:=I.loc;rw [z,q] at D;cases D;rw [B] at F;cases F
theorem Inv.funs (I:Inv X qQ σ H s):s.heap.FunFrames X.base X.outer:=by
 have all:∀(l:List Env),(∀b∈frs l,b∈X.fs)->X.s₀.heap.FunFrames X.base l->s.heap.FunFrames X.base l:=by
  intro l
  induction l with
  | nil=>intro _ _;trivial
  | cons env r ih=>
   intro F G;obtain ⟨N,⟨L,o,q,O,U,Y⟩,Z⟩:=G;have B:L∈X.fs:=F L (by unfold frs;rw [List.filterMap_cons,q];exact Ybk);obtain ⟨sl,e⟩:=I.base.slot L o U (I.ok.frf L B) B λz=>I.ok.exfs L z B;exact ⟨N,⟨L,_,q,O,e,Y⟩,ih (λb D=>F b (by unfold frs;rw [List.filterMap_cons,q];exact Ybr _ D)) Z⟩
 exact all X.outer (λ_ D=>D) I.ok.funs
theorem Inv.stack (I:Inv X qQ σ H s):s.heap.FunFrames X.base X.stack:=by
 rcases I.ok.stk with e | ⟨e,q⟩
 ·rw [e];exact I.funs
 ·rw [e];obtain ⟨m,B,_⟩:=I.loc;refine .cons (by rw [I.ok.kind];decide) q B ?_ I.funs;exact Heap.get?_none_of_le (Ybc I.ok.bsz I.ok.above)
theorem Inv.stkSub (I:Inv X qQ σ H s):∀b∈frs X.stack,b∈X.env.locals::X.fs:=λb q=>by
 rcases I.ok.stk with e | ⟨e,B⟩
 ·rw [e] at q;exact Ybr _ q
 ·rw [e] at q;unfold frs at q;rw [List.filterMap_cons,B] at q;exact q
theorem Inv.stkFree (I:Inv X qQ σ H s):∀b∈frs X.stack,H b=none:=λb q=>by
 rcases Yas.mp (I.stkSub b q) with e | q
 ·rw [e];exact I.free
 ·obtain ⟨_,o,B,_⟩:=I.ok.funs.mem q;exact I.base.free b o B (I.ok.frf b q) λz=>I.ok.exfs b z q
theorem Inv.step {g':Array GenState}{t':Nat}{d':Drawn}{ch:List Addr}(I:Inv X qQ σ H s)(D:∀b∈ch,(b∈X.ex\/X.s₀.heap.objs.size<=b)/\b≠X.env.locals/\(∀x c,X.env.cells.lookup x=some c->c≠b)/\∀p∈X.pn++qQ,p.1≠b)(keep:∀b o,b≠X.env.locals->b ∉ X.fs->b ∉ ch->s.heap.get? b=some o->H b=none->h'.get? b=some o)(O:∀b o,b≠X.env.locals->b∈X.fs->b ∉ ch->s.heap.get? b=some o->H b=none->∃sl,h'.get? b=some { o with slots:=sl })(free:∀b o,b ∉ ch->s.heap.get? b=some o->H b=none->H' b=none)(there:∀b o,b ∉ ch->s.heap.get? b=some o->∃o',h'.get? b=some o')(Z:∀b xs,H b=some (.tup xs)->H' b=some (.tup xs))(aa:∀b o u,H b=some (.frz o u)->H' b=some (.frz o u))(ab:∀b ps,H b=some (.tbl ps)->∃more,H' b=some (.tbl (ps++more)))(ns:∀m,s.heap.Ns X.env.locals m->h'.Ns X.env.locals m)(ad:HOk X.prog X.w H' h')(hg:AllBare g') :
  Inv X qQ σ H' { s with heap:=h',gens:=g',drawn:=d',toks:=t' }:=by
 have ac:∀b o,X.s₀.heap.get? b=some o->b≠X.env.locals:=λb o e=>Yao (Ybm (Yah e) I.ok.above);have L:∀b o,X.s₀.heap.get? b=some o->b ∉ X.ex->b ∉ ch:=λb o e B U=>by
  rcases (D b U).1 with z | z
  ·exact B z
  ·exact absurd (Ybm (Yah e) z) (Yca _)
 have F:∀x c,X.env.cells.lookup x=some c->∀v,s.heap.IsCell c v->h'.IsCell c v:=λx c e v ⟨o,Y,hd⟩=>by
  have G:c ∉ ch:=λz=>(D c z).2.2.1 x c e rfl;by_cases hc:c∈X.fs
  ·obtain ⟨sl,q⟩:=O c o (I.cne x c e) hc G Y (I.freeC x c e);exact ⟨_,q,hd⟩
  ·exact ⟨o,keep c o (I.cne x c e) hc G Y (I.freeC x c e),hd⟩
 refine ⟨I.ok,I.os,hg,⟨λb o e n U B=>?_,λb o e n U B=>?_,λb o e n B=>?_,λb o e B=>?_,λb xs e=>Z b xs (I.base.tups b xs e),λb o xs e=>aa b o xs (I.base.frzs b o xs e),λb ps e=>?_⟩,?_,λx c e=>?_,?_,λx c e=>?_,λp hp=>?_,ad,I.len⟩
 ·exact keep b o (ac b o e) U (L b o e B) (I.base.keep b o e n U B) (I.base.free b o e n B)
 ·obtain ⟨sl,N⟩:=I.base.slot b o e n U B;obtain ⟨ae,e2⟩:=O b _ (ac b o e) U (L b o e B) N (I.base.free b o e n B);exact ⟨ae,e2⟩
 ·obtain ⟨o',N⟩:=I.base.there b o e B;exact free b o' (L b o e B) N (I.base.free b o e n B)
 ·obtain ⟨o',N⟩:=I.base.there b o e B;exact there b o' (L b o e B) N
 ·obtain ⟨m1,N⟩:=I.base.tbls b ps e;obtain ⟨m2,e2⟩:=ab b _ N;exact ⟨m1++m2,by rw [e2,Array.append_assoc]⟩
 ·obtain ⟨m,hn,hl⟩:=I.loc;refine ⟨m,ns m hn,λi x v N e2 e3=>?_⟩;obtain ⟨u,r,l⟩:=hl i x v N e2 e3;refine ⟨u,r,?_⟩;rcases l with l | ⟨k,c,e,z⟩
  ·exact .inl l
  ·exact .inr ⟨k,c,e,F x c e _ z⟩
 ·obtain ⟨v,z⟩:=I.cell x c e;exact ⟨v,F x c e v z⟩
 ·obtain ⟨m,⟨o,_,_,Y,_⟩,_⟩:=I.loc;exact free _ o (λz=>(D _ z).2.1 rfl) Y I.free
 ·obtain ⟨v,o,Y,hd⟩:=I.cell x c e;exact free c o (λz=>(D c z).2.2.1 x c e rfl) Y (I.freeC x c e)
 ·obtain ⟨e,n,ne,nf,d⟩:=I.pin p hp;have G:p.1 ∉ ch:=λz=>(D p.1 z).2.2.2 p hp rfl;exact ⟨keep p.1 p.2 ne nf G e n,free p.1 p.2 G e n,ne,nf,d⟩
theorem Inv.un {t':Nat}(I:Inv X qQ σ H s)(u:Un X.fs [] H H' s.heap h')(B:HOk X.prog X.w H' h'):Inv X qQ σ H' { s with heap:=h',toks:=t' }:=by
 obtain ⟨m,⟨o,es,ep,L,r⟩,_⟩:=id I.loc;obtain ⟨Y,N⟩:=u.any L I.free (by simp);exact I.step (g':=s.gens) (d':=s.drawn) (ch:=[]) (λ_ z=>nomatch z) (λb o _ D _ e n=>u.keep b o e n D (by simp)) (λb o _ D _ e n=>u.slot b o e n D (by simp)) (λb o _ e n=>u.free b o e n (by simp)) (λb o _ e=>u.there b o e (by simp)) u.tups u.frzs u.tbls (λZ O=>by
  obtain ⟨o',F,G,q,U⟩:=O;rw [L] at q;cases q;exact ⟨_,F,G,N,U⟩) B I.bare
theorem Inv.call {g':Array GenState}{t':Nat}{d':Drawn}{ch:List Addr}(I:Inv X qQ σ H s)(u:Un (frs X.stack) ch H H' s.heap h')(F:HOk X.prog X.w H' h')(U:AllBare g')(B:∀b∈ch,(b∈X.ex\/X.s₀.heap.objs.size<=b)/\b≠X.env.locals/\(∀x c,X.env.cells.lookup x=some c->c≠b)/\∀p∈X.pn++qQ,p.1≠b) :
  Inv X qQ σ H' { s with heap:=h',gens:=g',drawn:=d',toks:=t' }:=by
 obtain ⟨m,⟨o,es,ep,O,r⟩,_⟩:=id I.loc;obtain ⟨sl,G⟩:=u.any O I.free λz=>(B _ z).2.1 rfl;exact I.step (ch:=ch) B (λb o G Y q e n=>u.keep b o e n (λz=>(Yas.mp (I.stkSub b z)).elim G Y) q) (λb o _ _ q e n=>u.any e n q) (λb o q e n=>u.free b o e n q) (λb o q e=>u.there b o e q) u.tups u.frzs u.tbls (λm' Z=>by
  obtain ⟨o',L,N,D,r'⟩:=Z;rw [O] at D;cases D;exact ⟨_,L,N,G,r'⟩) F U
theorem Inv.turned {t':Nat}{it:Addr}(I:Inv X qQ σ H s)(k:∀b o,b≠it->s.heap.get? b=some o->h'.get? b=some o)(G:H it=none)(F:it≠X.env.locals)(h1:it∈X.ex\/X.s₀.heap.objs.size<=it)(h2:∀x c,X.env.cells.lookup x=some c->c≠it)(L:∀p∈X.pn++qQ,p.1≠it):Inv X qQ σ H { s with heap:=h',toks:=t' }:=by
 have D:∀b u,H b=some u->b≠it:=λb u e z=>by rw [z,G] at e;cases e
 refine I.step (g':=s.gens) (d':=s.drawn) (ch:=[it]) (λb N=>?_) (λb o _ _ B e _=>k b o (λz=>B (by simp [z])) e) (λb o _ _ B e _=>⟨o.slots,k b o (λz=>B (by simp [z])) e⟩) (λ_ _ _ _ n=>n)
  (λb o B e=>⟨o,k b o (λz=>B (by simp [z])) e⟩) (λ_ _ e=>e) (λ_ _ _ e=>e) (λb ps e=>⟨#[],by rw [e];simp⟩) (λm O=>?_) (λb u e=>?_) I.bare
 ·have e:b=it:=by simpa using N
  subst e;exact ⟨h1,F,h2,L⟩
 ·obtain ⟨o,es,ep,U,r⟩:=O;exact ⟨o,es,ep,k _ o (Ne.symm F) U,r⟩
 ·refine (I.hok b u e).stay (λc v B q=>k c v ?_ q) (λ_ q=>q) λ_ _ q=>q;rcases B with z | z
  ·rw [z];exact D b u e
  ·exact D c _ z
theorem Inv.tok (I:Inv X qQ σ H s)(t:Nat):Inv X qQ σ H { s with toks:=t }:=I.un (h':=s.heap) (t':=t) Un.refl I.hok
theorem Inv.kept {t':Nat}(I:Inv X qQ σ H s)(k:∀b u,s.heap.get? b=some u->h'.get? b=some u):Inv X qQ σ H { s with heap:=h',toks:=t' }:=I.un (Un.kept k) (I.hok.kept k)
theorem Inv.laid {a:Addr}{o:HO}{t':Nat}(I:Inv X qQ σ H s)(k:∀b u,s.heap.get? b=some u->h'.get? b=some u)(q:s.heap.objs.size<=a)(new:ObjOk X.prog X.w (upd H a o) h' a o) :
  Inv X qQ σ (upd H a o) { s with heap:=h',toks:=t' }:=I.un (Un.laid k q (I.hok.fresh q)) (I.hok.laid k q new)
theorem Inv.write {x e:Addr}{o:HO}{t':Nat}(I:Inv X qQ σ H s)(B:Mut (H x))(D:e=x\/H e=some (.own x))(k:∀b u,b≠e->s.heap.get? b=some u->h'.get? b=some u)(q:∃u,h'.get? e=some u)(new:ObjOk X.prog X.w (upd H x o) h' x o):Inv X qQ σ (upd H x o) { s with heap:=h',toks:=t' }:=I.un (Un.write B D k q) (I.hok.write B D k q new)
theorem Inv.weak {q:List (Option V)}(I:Inv X qQ σ H s)(B:q.length=σ.length)(w:∀(i:Nat) v,q[i]?=some (some v)->σ[i]?=some (some v)):Inv X qQ q H s:=
 ⟨I.ok,I.os,I.bare,I.base,let ⟨m,hn,hl'⟩:=I.loc;⟨m,hn,λi x v D F G=>hl' i x v D (w i v F) G⟩,I.cell,I.free,I.freeC,I.pin,I.hok,B.trans I.len⟩
theorem Inv.pins_of {q:List (Addr×Obj)}(I:Inv X qQ σ H s)(h:∀p∈q,s.heap.get? p.1=some p.2/\H p.1=none/\p.1≠X.env.locals/\p.1 ∉ X.fs/\∀v,p.2.data≠.cell v):Inv X q σ H s:=
 ⟨I.ok,I.os,I.bare,I.base,I.loc,I.cell,I.free,I.freeC,λp B=>(Yap.mp B).elim (λz=>I.pin p (Yei _ z)) (h p),I.hok,I.len⟩
theorem XM {N:List Str}(q:N.Nodup){i j:Nat}{x:Str}(a:N[i]?=some x)(b:N[j]?=some x):i=j:=by
 obtain ⟨h1,B⟩:=Yay.mp a;obtain ⟨h2,D⟩:=Yay.mp b;exact (List.getElem_inj q).mp (B.trans D.symm)
theorem Wd {M:Model}{A:Around}{E:EX}{i:Nat}{x:Str}{v:V}{u:Value}{Q:Unit->Shared->Prop}(I:Inv X qQ σ H s)(hN:X.N.Nodup)(hi:X.N[i]?=some x)(L:Loc X.env.scope x)(r:RelV v u)(h:∀s',Inv X qQ (σ.set i (some v)) H s'->(∃a,Heap.SameBut a s.heap s'.heap/\(a=X.env.locals\/X.env.cells.lookup x=some a))->Q () s')(hf:X.fn x=true\/X.env.scope.names.lookup x=some .local:=by first | exact .inl rfl | exact .inr rfl | assumption):wpAny M A (storeName X.env x u) Q E s:=by
 obtain ⟨m,hn,hl⟩:=id I.loc;have ab:(X.env.scope.kind == .class || (X.env.scope.kind == .module && X.env.locals != X.env.globals))=false:=by rw [I.ok.kind];rfl
 have ac:i<σ.length:=by rw [I.len];exact (Yay.mp hi).1
 have cne:=I.cne;have D:∀{a:Addr}{h':Heap},(∃o,s.heap.get? a=some o/\H a=none)->Heap.SameBut a s.heap h'->HOk X.prog X.w H h':=λ{a h'} ha B b ob e=>by
  obtain ⟨_,_,O⟩:=ha;refine (I.hok b ob e).stay (λc w' G q=>(B.2 c ?_).trans q) (λ_ q=>q) λ_ _ q=>q;rintro rfl;rcases G with rfl | G
  ·rw [O] at e;cases e
  ·rw [O] at G;cases G
 rcases L with Y | Y
 ·refine wpAny_storeName_local Y hn (λh' ah B=>?_) ab;obtain ⟨oL,_,_,ai,_⟩:=id hn;refine h _ ⟨I.ok,I.os,I.bare,⟨λb o e n Z L=>?_,λb o e n Z L=>?_,I.base.free,λb o e L=>?_,I.base.tups,I.base.frzs,I.base.tbls⟩,⟨_,ah,λj y v' F U e3=>?_⟩,λy c e=>?_,I.free,I.freeC,λp hp=>?_,D ⟨oL,ai,I.free⟩ B,by simpa using I.len⟩ ⟨_,B,.inl rfl⟩
  ·exact (B.2 b (Yao (Ybm (Yah e) I.ok.above))).trans (I.base.keep b o e n Z L)
  ·obtain ⟨sl,F⟩:=I.base.slot b o e n Z L;exact ⟨sl,(B.2 b (Yao (Ybm (Yah e) I.ok.above))).trans F⟩
  ·obtain ⟨o',F⟩:=I.base.there b o e L;exact ⟨o',(B.2 b (Yao (Ybm (Yah e) I.ok.above))).trans F⟩
  ·by_cases hj:j=i
   ·subst hj;rw [hi] at F;cases F;rw [List.getElem?_set_self ac] at U;cases U;exact ⟨u,r,.inl ⟨Y,by simp⟩⟩
   ·rw [List.getElem?_set_ne (Ne.symm hj)] at U;obtain ⟨u',r',q⟩:=hl j y v' F U e3;refine ⟨u',r',?_⟩;rcases q with ⟨k,e⟩ | ⟨k,c,e,z⟩
    ·refine .inl ⟨k,?_⟩;have:y≠x:=λe=>hj (XM hN F (e▸hi));simp [this,e]
    ·exact .inr ⟨k,c,e,z.sameBut B (cne y c e)⟩
  ·obtain ⟨w',z⟩:=I.cell y c e;exact ⟨w',z.sameBut B (cne y c e)⟩
  ·obtain ⟨e,n,ne,nf,d⟩:=I.pin p hp;exact ⟨(B.2 p.1 ne).trans e,n,ne,nf,d⟩
 ·have aa:X.fn x=true:=by
   rcases hf with z | z
   ·exact z
   ·rw [z] at Y;cases Y
  obtain ⟨c,G⟩:=I.ok.has x (.inl Y);obtain ⟨w',z⟩:=I.cell x c G;refine wpAny_storeName_cell I.ok.kind Y G z (λh' ad B=>?_);obtain ⟨oc,ae,af⟩:=id z;refine h { s with heap:=h' } ⟨I.ok,I.os,I.bare,⟨λb o e n Z L=>?_,λb o e n Z L=>?_,I.base.free,λb o e L=>?_,I.base.tups,I.base.frzs,I.base.tbls⟩,⟨m,hn.sameBut B (Ne.symm (cne x c G)),λj y v' F U e3=>?_⟩,λy c' e=>?_,I.free,I.freeC,λp hp=>?_,D ⟨oc,ae,I.freeC x c G⟩ B,by simpa using I.len⟩ ⟨c,B,.inr G⟩
  ·exact (B.2 b (Yao (Ybm (Yah e) (I.ok.cab x c aa G)))).trans (I.base.keep b o e n Z L)
  ·obtain ⟨sl,F⟩:=I.base.slot b o e n Z L;exact ⟨sl,(B.2 b (Yao (Ybm (Yah e) (I.ok.cab x c aa G)))).trans F⟩
  ·obtain ⟨o',F⟩:=I.base.there b o e L;exact ⟨o',(B.2 b (Yao (Ybm (Yah e) (I.ok.cab x c aa G)))).trans F⟩
  ·by_cases hj:j=i
   ·subst hj;rw [hi] at F;cases F;rw [List.getElem?_set_self ac] at U;cases U;exact ⟨u,r,.inr ⟨.inl Y,c,G,ad⟩⟩
   ·rw [List.getElem?_set_ne (Ne.symm hj)] at U;obtain ⟨u',r',q⟩:=hl j y v' F U e3;refine ⟨u',r',?_⟩;rcases q with q | ⟨k,c',e,z'⟩
    ·exact .inl q
    ·refine .inr ⟨k,c',e,z'.sameBut B ?_⟩;rintro rfl;exact hj (XM hN F (I.ok.inj _ _ _ e G▸hi))
  ·by_cases ag:c'=c
   ·subst ag;exact ⟨_,ad⟩
   ·obtain ⟨w2,z2⟩:=I.cell y c' e;exact ⟨w2,z2.sameBut B ag⟩
  ·obtain ⟨e,n,ne,nf,d⟩:=I.pin p hp;refine ⟨(B.2 p.1 ?_).trans e,n,ne,nf,d⟩;intro q;rw [q,ae] at e;have q':oc=p.2:=Yby e;exact d w' (by rw [<-q'];exact af)
theorem XN {M:Model}{A:Around}{E:EX}{i:Nat}{x:Str}{v:V}{u:Value}{Q:Unit->Shared->Prop}(I:Inv X qQ σ H s)(q:X.N.Nodup)(hi:X.N[i]?=some x)(B:Loc X.env.scope x)(r:RelV v u)(h:∀s',Inv X qQ (σ.set i (some v)) H s'->Q () s')(D:X.fn x=true\/X.env.scope.names.lookup x=some .local:=by first | exact .inl rfl | exact .inr rfl | assumption):wpAny M A (storeName X.env x u) Q E s:=
 Wd I q hi B r (λs' F _=>h s' F) D
theorem Inv.call' {s':Shared}{ch:List Addr}(I:Inv X qQ σ H s)(D:s'.os=s.os)(u:Un (frs X.stack) ch H H' s.heap s'.heap)(q:HOk X.prog X.w H' s'.heap)(F:AllBare s'.gens)(B:∀b∈ch,(b∈X.ex\/X.s₀.heap.objs.size<=b)/\b≠X.env.locals/\(∀x c,X.env.cells.lookup x=some c->c≠b)/\∀p∈X.pn++qQ,p.1≠b):Inv X qQ σ H' s':=by
 obtain ⟨h',g',d',t',o'⟩:=s';have e:o'=s.os:=D;subst e;exact I.call (g':=g') (t':=t') (d':=d') u q F B
end
noncomputable abbrev XK:=Value->Option Addr->Hp->Prop
noncomputable abbrev St:=List (Option V)
noncomputable abbrev VK:=V->Hp->Prop
noncomputable abbrev TE:=St->Hp->VK->Prop
noncomputable abbrev TT:=St->Hp->(Bool->Hp->Prop)->Prop
noncomputable abbrev TA:=St->Hp->(List V->Hp->Prop)->Prop
structure Ends where
 nx:St->Hp->Prop
 rt:VK
 bk:St->Hp->Prop:=λ_ _=>False
 ct:St->Hp->Prop:=λ_ _=>False
noncomputable abbrev TS:=Ends->St->Hp->Prop
noncomputable def EP (X:Cx)(qQ:List (Addr×Obj))(σ:St)(Q:VK)(u:Value)(s':Shared):Prop:=∃v H',Inv X qQ σ H' s'/\RelV v u/\Q v H'
noncomputable def TP (X:Cx)(qQ:List (Addr×Obj))(σ:St)(Q:Bool->Hp->Prop)(b:Bool)(s':Shared):Prop:=∃H',Inv X qQ σ H' s'/\Q b H'
noncomputable def AP (X:Cx)(qQ:List (Addr×Obj))(σ:St)(Q:List V->Hp->Prop)(us:List Value)(s':Shared):Prop:=∃vs H',Inv X qQ σ H' s'/\Vals vs us/\Q vs H'
noncomputable def SP (X:Cx)(qQ:List (Addr×Obj))(D:Ends)(f:Flow)(s':Shared):Prop:=
 match f with
 | .next=>∃ q H',Inv X qQ q H' s'/\D.nx q H'
 | .brk=>∃ q H',Inv X qQ q H' s'/\D.bk q H'
 | .cont=>∃ q H',Inv X qQ q H' s'/\D.ct q H'
 | .ret u=>∃v q H',Inv X qQ q H' s'/\RelV v u/\D.rt v H'
noncomputable def PE (X:Cx)(e:Expr)(t:TE):Prop:=
 ∀(qQ:List (Addr×Obj))(s:Shared)(σ:St)(H:Hp)(Q:VK),Inv X qQ σ H s->t σ H Q->wpAny (model X.prog X.w) X.A (eval e X.env) (EP X qQ σ Q) X.xe s
noncomputable def PT (X:Cx)(e:Expr)(t:TT):Prop:=
 ∀(qQ:List (Addr×Obj))(s:Shared)(σ:St)(H:Hp)(Q:Bool->Hp->Prop),Inv X qQ σ H s->t σ H Q->wpAny (model X.prog X.w) X.A (isTrue e X.env (eval e X.env)) (TP X qQ σ Q) X.xe s
noncomputable def PW (X:Cx)(e:Expr)(t:TT):Prop:=
 ∀(q:Sem Value)(qQ:List (Addr×Obj))(s:Shared)(σ:St)(H:Hp)(Q:Bool->Hp->Prop),Inv X qQ σ H s->t σ H Q->wpAny (model X.prog X.w) X.A (isTrue e X.env q) (TP X qQ σ Q) X.xe s
theorem PW.pt {X:Cx}{e:Expr}{t:TT}(h:PW X e t):PT X e t:=h _
noncomputable def PA (X:Cx)(es:List Expr)(t:TA):Prop:=
 ∀(pos:Pos)(qQ:List (Addr×Obj))(s:Shared)(σ:St)(H:Hp)(Q:List V->Hp->Prop),Inv X qQ σ H s->t σ H Q->wpAny (model X.prog X.w) X.A (spliced (backTo pos (starEach es X.env))) (AP X qQ σ Q) X.xe s
noncomputable def PS (X:Cx)(st:Stmt)(t:TS):Prop:=
 ∀(qQ:List (Addr×Obj))(s:Shared)(σ:St)(H:Hp)(D:Ends),Inv X qQ σ H s->t D σ H->wpAny (model X.prog X.w) X.A (exec st X.env) (SP X qQ D) X.xe s
noncomputable def PSs (X:Cx)(st:List Stmt)(t:TS):Prop:=
 ∀(qQ:List (Addr×Obj))(s:Shared)(σ:St)(H:Hp)(D:Ends),Inv X qQ σ H s->t D σ H->wpAny (model X.prog X.w) X.A (execs st X.env) (SP X qQ D) X.xe s
theorem thn {α:Type}{t:Sem α}{Q q:α->Shared->Prop}{M:Model}{A:Around}{E:EX}{s:Shared}(h:wpAny M A t Q E s)(B:∀a s,Q a s->q a s):wpAny M A t q E s:=Ybx h B λ_ _ x=>x
theorem thG {α β:Type}{t:Sem α}{J:Hp->Shared->Prop}{R:β->α->Prop}{C:β->Hp->Prop}{q:α->Shared->Prop}{M:Model}{A:Around}{E:EX}{s:Shared}(h:wpAny M A t (λa s'=>∃v H',J H' s'/\R v a/\C v H') E s)(k:∀a s' v H',J H' s'->R v a->C v H'->q a s'):wpAny M A t q E s:=thn h λa s' h=>by
 obtain ⟨v,H',h1,h2,B⟩:=h;exact k a s' v H' h1 h2 B
theorem thT {α:Type}{t:Sem α}{J:Hp->Shared->Prop}{C:α->Hp->Prop}{q:α->Shared->Prop}{M:Model}{A:Around}{E:EX}{s:Shared}(h:wpAny M A t (λa s'=>∃H',J H' s'/\C a H') E s)(k:∀a s' H',J H' s'->C a H'->q a s'):wpAny M A t q E s:=thn h λa s' h=>by
 obtain ⟨H',h1,B⟩:=h;exact k a s' H' h1 B
section
variable {X:Cx}
noncomputable def ZfX (i:Nat):TE:=λσ H Q=>∃v,σ[i]?=some (some v)/\Q v H
noncomputable def tC (v:V):TE:=λ_ H Q=>Q v H
theorem Zds {i:Nat}{x:Str}{pos:Pos}(L:X.N[i]?=some x)(O:Vis X.env.scope x)(B:(x == ("__debug__" : Str))=false:=by decide)(D:(x == ("__classdict__" : Str))=false:=by decide):PE X (.Name x pos) (ZfX i):=by
 intro qQ s σ H Q I h;obtain ⟨v,e,h⟩:=h;obtain ⟨m,U,Y⟩:=I.loc;obtain ⟨u,r,l⟩:=Y i x v L e O;have fin:EP X qQ σ Q u s:=⟨v,H,I,r,h⟩;rcases l with ⟨q,Z⟩ | ⟨q,c,F,G⟩
 ·exact wpAny_Name (wpAny_loadName_local I.ok.kind q U Z fin) B
 ·rcases q with q | q
  ·exact wpAny_Name (wpAny_loadName_cell I.ok.kind q F G fin) B
  ·exact wpAny_Name (wpAny_loadName_free I.ok.kind q F G fin D) B
theorem Gd {i j pos}:PE X (.Constant (.int i) j pos) (tC (.int i)):=λ_ _ _ H _ I h=>wpAny_Constant_int ⟨.int i,H,I.tok _,⟨_,rfl⟩,h⟩
theorem Uu {b j pos}:PE X (.Constant (.bool b) j pos) (tC (.bl b)):=λ_ _ _ H _ I h=>Constant_bool ⟨.bl b,H,I,rfl,h⟩
theorem Uo {j pos}:PE X (.Constant .none j pos) (tC .non):=λ_ _ _ H _ I h=>Constant_none ⟨.non,H,I,rfl,h⟩
theorem Zh {x j pos}:PE X (.Constant (.str x) j pos) (tC (.str x)):=λ_ _ _ H _ I h=>Calls.Constant_str ⟨.str x,H,I.tok _,⟨_,rfl⟩,h⟩
noncomputable def Gl (X:Cx)(x:Str):Prop:=X.env.kindOf x=some .globalImplicit
theorem Xa {E:EX}{qQ:List (Addr×Obj)}{s:Shared}{σ:St}{H:Hp}{x:Str}{u:Value}{pos:Pos}{Q:EX}(I:Inv X qQ σ H s)(q:Gl X x)(B:X.mg x=some u)(h:Q u s)(D:(x == ("__debug__" : Str))=false:=by decide):wpAny (model X.prog X.w) X.A (eval (.Name x pos) X.env) Q E s:=
 Calls.Name_function_global I.ok.kind q (Calls.loadGlobal_global (by rw [I.ok.glob];exact I.mod.glob.keeps I.bk) B h) D
theorem U7 {E:EX}{qQ:List (Addr×Obj)}{s:Shared}{σ:St}{H:Hp}{x:Str}{u:Value}{pos:Pos}{Q:EX}(I:Inv X qQ σ H s)(q:Gl X x)(B:X.mg x=none)(D:bootBuiltins x=some u)(h:Q u s)(F:x ≠ "__name__" := by decide)(G:(x == ("__debug__" : Str))=false:=by decide):wpAny (model X.prog X.w) X.A (eval (.Name x pos) X.env) Q E s:=by
 obtain ⟨L,h1,h2⟩:=I.mod.blt;exact Calls.Name_function_global I.ok.kind q (Calls.loadGlobal_builtin (by rw [I.ok.glob];exact I.mod.glob.keeps I.bk) B (by rw [I.ok.blt];exact h1.keeps I.bk) ((h2 x F).trans D) h) G
theorem Jc {x:Str}{v:V}{u:Value}{pos:Pos}(q:Gl X x)(B:X.mg x=some u)(r:RelV v u)(D:(x == ("__debug__" : Str))=false:=by decide):PE X (.Name x pos) (tC v):=
 λ_ _ _ H _ I h=>Xa I q B ⟨v,H,I,r,h⟩ D
theorem Zcs {x:Str}{v:V}{u:Value}{pos:Pos}(q:Gl X x)(B:X.mg x=none)(D:bootBuiltins x=some u)(r:RelV v u)(F:x ≠ "__name__" := by decide)(G:(x == ("__debug__" : Str))=false:=by decide):PE X (.Name x pos) (tC v):=
 λ_ _ _ H _ I h=>U7 I q B D ⟨v,H,I,r,h⟩ F G
variable {a b:Expr}{ta tb:TE}{pos:Pos}
noncomputable def PC (X:Cx)(op:CmpOp)(a b:Expr)(t:TE):Prop:=
 ∀(qQ:List (Addr×Obj))(s:Shared)(σ:St)(H:Hp)(Q:VK),Inv X qQ σ H s->t σ H Q ->
  wpAny (model X.prog X.w) X.A (eval a X.env) (λv q=>wpAny (model X.prog X.w) X.A (eval b X.env) (λu B=>wpAny (model X.prog X.w) X.A (compareOp op v u) (EP X qQ σ Q) X.xe B) X.xe q) X.xe s
noncomputable def tB (t:TE):TT:=λσ H Q=>t σ H λx H1=>∃c,x=.bl c/\Q c H1
theorem Zdt {op:CmpOp}{t:TE}(h:PC X op a b t)(h1:behindInMarks op b=false:=by first | exact nobehind _ (by decide) (by decide) | rfl):PT X (.Compare a [op] [b] pos) (tB t):=by
 intro qQ s σ H Q I B;refine wpAny_isTrue_Compare1 (thn (h qQ s σ H _ I B) λv L h1=>thn h1 λu N h2=>thn h2 λc O ⟨x,H1,D,F,G⟩=>?_) h1;obtain ⟨d,rfl,q⟩:=G;cases F;exact Ycn ⟨H1,D,q⟩
theorem Jl {e:Expr}{t:TE}(h:PE X e t)(D:∀B,isTrue e X.env B=(do let v <- B;standAt e.pos;holding [v] (truthy v)):=by intro _;rfl):PT X e (tB t):=by
 intro qQ s σ H Q I F;refine isTrue_plain (thG (h qQ s σ H _ I F) λv O x H1 G L N=>?_) (D _);obtain ⟨d,rfl,q⟩:=N;cases L;exact Ycn ⟨H1,G,q⟩
variable {tA tB':TT}{rest:List Expr}
noncomputable def Zgy (t u:TT):TT:=λσ H Q=>t σ H λc H1=>if c=true then u σ H1 Q else Q false H1
noncomputable def tOr (t u:TT):TT:=λσ H Q=>t σ H λc H1=>if c=true then Q true H1 else u σ H1 Q
noncomputable def Zgz (t:TT):TT:=λσ H Q=>t σ H λc H1=>Q (!c) H1
theorem JA (ha:PT X a tA):PW X (.BoolOp .And [a] pos) tA:=by
 intro q qQ s σ H Q I h;refine isTrue_and (thn (ha qQ s σ H Q I h) λc B e=>?_);cases c with
 | true=>exact isTrue_and_nil e
 | false=>exact e
theorem J5 (ha:PT X a tA):PW X (.BoolOp .Or [a] pos) tA:=by
 intro q qQ s σ H Q I h;refine isTrue_or (thn (ha qQ s σ H Q I h) λc B e=>?_);cases c with
 | false=>exact isTrue_or_nil e
 | true=>exact e
theorem J2 (ha:PT X a tA)(D:PW X (.BoolOp .And (b::rest) pos) tB'):PW X (.BoolOp .And (a::b::rest) pos) (Zgy tA tB'):=by
 intro F qQ s σ H Q I h;refine isTrue_and (thT (ha qQ s σ H _ I h) λc G H1 q B=>?_);cases c with
 | true=>exact D F qQ G σ H1 Q q B
 | false=>exact ⟨H1,q,B⟩
theorem Ox (ha:PT X a tA)(D:PW X (.BoolOp .Or (b::rest) pos) tB'):PW X (.BoolOp .Or (a::b::rest) pos) (tOr tA tB'):=by
 intro F qQ s σ H Q I h;refine isTrue_or (thT (ha qQ s σ H _ I h) λc G H1 q B=>?_);cases c with
 | true=>exact ⟨H1,q,B⟩
 | false=>exact D F qQ G σ H1 Q q B
theorem JB (ha:PT X a tA):PT X (.UnaryOp .Not a pos) (Zgz tA):=by
 intro qQ s σ H Q I h;exact isTrue_not (ha qQ s σ H (λc H1=>Q (!c) H1) I h)
noncomputable def ZeN (ta tb:TE):TE:=λσ H Q=>ta σ H λx H1=>∃c,x=.bl c/\if c=true then tb σ H1 Q else Q (.bl false) H1
noncomputable def ZgA (ta tb:TE):TE:=λσ H Q=>ta σ H λx H1=>∃c,x=.bl c/\if c=true then Q (.bl true) H1 else tb σ H1 Q
noncomputable def ZeO (ta:TE):TE:=λσ H Q=>ta σ H λx H1=>∃c,x=.bl c/\Q (.bl (!c)) H1
theorem Zi {op}{t:TE}(h:PE X a t):PE X (.BoolOp op [a] pos) t:=λqQ s σ H Q I q=>BoolOp_one (h qQ s σ H Q I q)
theorem Zdu (ha:PE X a ta)(D:PE X (.BoolOp .And (b::rest) pos) tb):PE X (.BoolOp .And (a::b::rest) pos) (ZeN ta tb):=by
 intro qQ s σ H Q I h;refine BoolOp_and (thG (ha qQ s σ H _ I h) λv F x H1 B G q=>?_);obtain ⟨c,rfl,q⟩:=q;cases G;refine Ycn ?_;cases c with
 | true=>exact D qQ F σ H1 Q B q
 | false=>exact ⟨.bl false,H1,B,rfl,q⟩
theorem Zdv (ha:PE X a ta)(D:PE X (.BoolOp .Or (b::rest) pos) tb):PE X (.BoolOp .Or (a::b::rest) pos) (ZgA ta tb):=by
 intro qQ s σ H Q I h;refine BoolOp_or (thG (ha qQ s σ H _ I h) λv F x H1 B G q=>?_);obtain ⟨c,rfl,q⟩:=q;cases G;refine Ycn ?_;cases c with
 | false=>exact D qQ F σ H1 Q B q
 | true=>exact ⟨.bl true,H1,B,rfl,q⟩
theorem Zdw (ha:PE X a ta):PE X (.UnaryOp .Not a pos) (ZeO ta):=by
 intro qQ s σ H Q I h;refine UnaryOp_ (thG (ha qQ s σ H _ I h) λv F x H1 B D q=>?_);obtain ⟨c,rfl,q⟩:=q;cases D;exact not_of (Ycn ⟨.bl (!c),H1,B,rfl,q⟩)
noncomputable def tIf (t:TT)(ta tb:TE):TE:=λσ H Q=>t σ H λc H1=>if c=true then ta σ H1 Q else tb σ H1 Q
theorem OL {c:Expr}(F:PT X c tA)(ha:PE X a ta)(G:PE X b tb):PE X (.IfExp c a b pos) (tIf tA ta tb):=by
 intro qQ s σ H Q I h;refine wpAny_IfExp (thT (F qQ s σ H _ I h) λd q H1 B D=>?_);cases d with
 | true=>exact ha qQ q σ H1 Q B D
 | false=>exact G qQ q σ H1 Q B D
end
noncomputable def SqL (K:W.Frag)(H:Hp)(a:Addr)(xs:List V):Prop:=
 Rd H a (.lst xs) \/
  ∃(o:Obj)(its:Array Value)(n:Nat),K.lookup a=some o/\o.cls=.type "list" /\ o.dict=none/\o.data=.seq its n/\its.size<=sizeLine/\Vals xs its.toList
noncomputable def SqT (K:W.Frag)(H:Hp)(a:Addr)(xs:List V):Prop:=
 Rd H a (.tup xs) \/
  ∃(o:Obj)(its:Array Value)(n:Nat),K.lookup a=some o/\o.cls=.type "tuple" /\ o.data=.seq its n/\its.size<=sizeLine/\Vals xs its.toList
noncomputable def ZgB:Value->Option V
 | .none=>some .non
 | .bool b=>some (.bl b)
 | .int i _=>some (.int i)
 | .str x _=>some (.str x)
 | .bytes b _=>some (.byt b)
 | .float b _=>some (.flt b)
 | .ref a=>some (.ref a)
 | .type n=>some (.ty n)
 | _=>none
theorem RelV.abs {x:V}{u:Value}(r:RelV x u):ZgB u=some x:=by
 cases x with
 | non=>cases r;rfl
 | bl _=>cases r;rfl
 | int _=>obtain ⟨t,rfl⟩:=r;rfl
 | str _=>obtain ⟨t,rfl⟩:=r;rfl
 | byt _=>obtain ⟨t,rfl⟩:=r;rfl
 | flt _=>obtain ⟨t,rfl⟩:=r;rfl
 | ref _=>cases r;rfl
 | ty _=>cases r;rfl
theorem RelV.inj {x y:V}{u:Value}(r:RelV x u)(q:RelV y u):x=y:=Yby (r.abs.symm.trans q.abs)
theorem Vals.inj {xs ys:List V}{us:List Value}(h:Vals xs us)(g:Vals ys us):xs=ys:=by
 induction h generalizing ys with
 | nil=>cases g;rfl
 | cons r t ih=>cases g with
  | cons r' t'=>rw [r.inj r',ih t']
section
variable {X:Cx}{qQ:List (Addr×Obj)}{σ:St}{H:Hp}{s:Shared}{a:Addr}{xs ys:List V}
theorem SqL.of {K:W.Frag}(h:H a=some (.lst xs)):SqL K H a xs:=.inl (.inl h)
theorem SqT.of {K:W.Frag}(h:H a=some (.tup xs)):SqT K H a xs:=.inl (.inl h)
theorem Inv.list (I:Inv X qQ σ H s)(h:SqL X.K H a xs):∃q:List Value,Vals xs q/\PlainL s.heap a q.toArray/\xs.length<=sizeLine:=by
 rcases h with h | ⟨o,q,n,B,D,F,G,L,r⟩
 ·obtain ⟨z,q,n,r,e⟩:=h.ok I.hok;exact ⟨q,r,⟨_,n,e,rfl,rfl,rfl⟩,z⟩
 ·refine ⟨q.toList,r,⟨o,n,I.kIn a o B,D,F,by simpa using G⟩,?_⟩;have e:=r.length;simp only [Yam] at e
  lia
theorem Inv.tuple (I:Inv X qQ σ H s)(h:SqT X.K H a xs):∃q:List Value,Vals xs q/\IsTup s.heap a q.toArray/\xs.length<=sizeLine:=by
 rcases h with h | ⟨o,q,n,B,D,F,G,r⟩
 ·obtain ⟨z,q,r,p⟩:=h.ok I.hok;exact ⟨q,r,p,z⟩
 ·refine ⟨q.toList,r,⟨o,I.kIn a o B,D,n,by simpa using F⟩,?_⟩;have e:=r.length;simp only [Yam] at e
  lia
theorem Inv.list_inj (I:Inv X qQ σ H s)(h:SqL X.K H a xs)(h':SqL X.K H a ys):xs=ys:=by
 obtain ⟨B,r,⟨o,n,e,_,_,d⟩,_⟩:=I.list h;obtain ⟨q,G,⟨o',L,D,_,_,F⟩,_⟩:=I.list h';rw [e] at D;cases D;rw [d] at F;injection F with d1 _
 have:B=q:=by simpa using Ybi Array.toList d1
 subst this;exact r.inj G
theorem Inv.tuple_inj (I:Inv X qQ σ H s)(h:SqT X.K H a xs)(h':SqT X.K H a ys):xs=ys:=by
 obtain ⟨B,r,⟨o,e,_,n,d⟩,_⟩:=I.tuple h;obtain ⟨q,G,⟨o',D,_,L,F⟩,_⟩:=I.tuple h';rw [e] at D;cases D;rw [d] at F;injection F with d1 _
 have:B=q:=by simpa using Ybi Array.toList d1
 subst this;exact r.inj G
end
noncomputable abbrev Cx.wish (X:Cx)(E:EX):Cx:={ X with xe:=E }
noncomputable abbrev Cx.nox (X:Cx):Cx:=X.wish λ_ _=>False
theorem Cx.Ok.wish {X:Cx}(ok:X.Ok)(E:EX):(X.wish E).Ok:=
 ⟨ok.mod,ok.kind,ok.glob,ok.blt,ok.above,ok.inj,ok.has,ok.cab,ok.hd,ok.frames,ok.stk,ok.exf,ok.bs,ok.bsz,ok.noex,ok.exfs,ok.funs,ok.frf⟩
theorem Cx.Ok.unwish {X:Cx}{E:EX}(ok:(X.wish E).Ok):X.Ok:=
 ⟨ok.mod,ok.kind,ok.glob,ok.blt,ok.above,ok.inj,ok.has,ok.cab,ok.hd,ok.frames,ok.stk,ok.exf,ok.bs,ok.bsz,ok.noex,ok.exfs,ok.funs,ok.frf⟩
section
variable {X:Cx}{qQ:List (Addr×Obj)}{σ:St}{H:Hp}{s:Shared}{E:EX}
theorem Inv.wish (I:Inv X qQ σ H s)(E:EX):Inv (X.wish E) qQ σ H s:=⟨I.ok.wish E,I.os,I.bare,I.base,I.loc,I.cell,I.free,I.freeC,I.pin,I.hok,I.len⟩
theorem Inv.unwish (I:Inv (X.wish E) qQ σ H s):Inv X qQ σ H s:=⟨I.ok.unwish,I.os,I.bare,I.base,I.loc,I.cell,I.free,I.freeC,I.pin,I.hok,I.len⟩
theorem SP.unwish {D:Ends}{f:Flow}{s':Shared}(h:SP (X.wish E) qQ D f s'):SP X qQ D f s':=by
 cases f with
 | next=>obtain ⟨B,H',I,q⟩:=h;exact ⟨B,H',I.unwish,q⟩
 | brk=>obtain ⟨B,H',I,q⟩:=h;exact ⟨B,H',I.unwish,q⟩
 | cont=>obtain ⟨B,H',I,q⟩:=h;exact ⟨B,H',I.unwish,q⟩
 | ret u=>obtain ⟨v,B,H',I,r,q⟩:=h;exact ⟨v,B,H',I.unwish,r,q⟩
theorem PSs.nox {st:List Stmt}{t:TS}(h:PSs X.nox st t):PSs X st t:=λqQ s σ H D I B=>
 Ybx (h qQ s σ H D (I.wish _) B) (λ_ _ q=>q.unwish) λ_ _ z=>False.elim z
end
section
variable {X:Cx}{st:Stmt}{rest:List Stmt}{t u:TS}{e:Expr}{te:TE}{pos:Pos}
noncomputable def YE:TS:=λD σ H=>D.nx σ H
noncomputable def ZfY (t u:TS):TS:=λD σ H=>t { D with nx:=u D } σ H
theorem Gz:PSs X [] YE:=λ_ _ σ H _ I h=>wpAny_execs_nil ⟨σ,H,I,h⟩
theorem Gc (h1:PS X st t)(h2:PSs X rest u):PSs X (st::rest) (ZfY t u):=by
 intro qQ s σ H D I h;refine wpAny_execs_cons (thn (h1 qQ s σ H { D with nx:=u D } I h) λf B q=>?_);cases f with
 | next=>
  obtain ⟨F,H',G,q⟩:=q;exact h2 qQ B F H' D G q
 | ret v=>exact q
 | brk=>exact q
 | cont=>exact q
theorem Gg (h1:PS X st t):PSs X [st] t:=by
 intro qQ s σ H D I h;refine wpAny_execs_cons (thn (h1 qQ s σ H D I h) λf B q=>?_);cases f with
 | next=>exact wpAny_execs_nil q
 | ret v=>exact q
 | brk=>exact q
 | cont=>exact q
theorem Inv.quiet {qQ:List (Addr×Obj)}{σ:St}{H:Hp}{s:Shared}(I:Inv X qQ σ H s):interactive X.env=false:=by simp [interactive,I.ok.kind]
noncomputable def ZeP (te:TE):TS:=λD σ H=>te σ H λ_ H1=>D.nx σ H1
theorem Jm (q:PE X e te)(B:swapsWith e none pos.line X.env=pure false:=by rfl):PS X (.Expr e pos) (ZeP te):=by
 intro qQ s σ H D I h;exact wpAny_Expr_any (thG (q qQ s σ H _ I h) λv L x H1 F N G=>⟨σ,H1,F,G⟩) I.quiet B
noncomputable def ZgC (te:TE):TS:=λD σ H=>te σ H D.rt
theorem Gy (q:PE X e te):PS X (.Return (some e) pos) (ZgC te):=by
 intro qQ s σ H D I h;exact wpAny_Return_some (thG (q qQ s σ H _ I h) λv L x H1 B F G=>⟨x,σ,H1,B,F,G⟩)
noncomputable def ZgD (c:TT)(t u:TS):TS:=λD σ H=>c σ H λb H1=>if b=true then t D σ H1 else u D σ H1
theorem G4 {c:Expr}{a b:List Stmt}{tc:TT}(G:PT X c tc)(ha:PSs X a t)(L:PSs X b u):PS X (.If c a b pos) (ZgD tc t u):=by
 intro qQ s σ H D I h;refine wpAny_If (thT (G qQ s σ H _ I h) λd q H1 B F=>?_);cases d with
 | true=>exact ha qQ q σ H1 D B F
 | false=>exact L qQ q σ H1 D B F
end
noncomputable abbrev TG:=V->St->Hp->(St->Hp->Prop)->Prop
noncomputable abbrev TGs:=List V->St->Hp->(St->Hp->Prop)->Prop
noncomputable def PG (X:Cx)(qU:Expr)(t:TG):Prop:=
 ∀(qQ:List (Addr×Obj))(s:Shared)(σ:St)(H:Hp)(v:V)(u:Value)(Q:St->Hp->Prop),Inv X qQ σ H s->RelV v u->t v σ H Q ->
  wpAny (model X.prog X.w) X.A (assign qU X.env u) (λ_ s'=>∃ q H',Inv X qQ q H' s'/\Q q H') X.xe s
noncomputable def PGs (X:Cx)(B:List Expr)(t:TGs):Prop:=
 ∀(qQ:List (Addr×Obj))(s:Shared)(σ:St)(H:Hp)(vs:List V)(us:List Value)(Q:St->Hp->Prop),Inv X qQ σ H s->Vals vs us->t vs σ H Q ->
  wpAny (model X.prog X.w) X.A (assignInOrder ((assignEach B X.env).map (·.2)) us) (λ_ s'=>∃ q H',Inv X qQ q H' s'/\Q q H') X.xe s
noncomputable abbrev Zdx:=V->V->V->Hp->(Hp->Prop)->Prop
noncomputable def ZeQ (X:Cx)(t:Zdx):Prop:=
 ∀(qQ:List (Addr×Obj))(s:Shared)(σ:St)(H:Hp)(o i v:V)(ov iv u:Value)(Q:Hp->Prop),Inv X qQ σ H s->RelV o ov->RelV i iv->RelV v u->t o i v H Q ->
  wpAny (model X.prog X.w) X.A (setItem ov iv u) (λ_ s'=>∃H',Inv X qQ σ H' s'/\Q H') X.xe s
noncomputable abbrev TIp:=V->V->Hp->VK->Prop
noncomputable def PIp (X:Cx)(op:Operator)(t:TIp):Prop:=
 ∀(qQ:List (Addr×Obj))(s:Shared)(σ:St)(H:Hp)(x y:V)(v u:Value)(Q:VK),Inv X qQ σ H s->RelV x v->RelV y u->t x y H Q ->
  wpAny (model X.prog X.w) X.A (inplaceOp op v u) (EP X qQ σ Q) X.xe s
section
variable {X:Cx}{pos:Pos}
noncomputable def Jd (i:Nat):TG:=λv σ H Q=>Q (σ.set i (some v)) H
theorem Gj {i:Nat}{x:Str}(q:X.N.Nodup)(hi:X.N[i]?=some x)(B:Loc X.env.scope x)(D:X.fn x=true\/X.env.scope.names.lookup x=some .local:=by first | exact .inl rfl | exact .inr rfl | assumption):PG X (.Name x pos) (Jd i):=by
 intro qQ s σ H v u Q I r h;exact wpAny_assign_Name (XN I q hi B r (λs' F=>⟨_,H,F,h⟩) D)
noncomputable def ZgE:TGs:=λvs σ H Q=>vs=[]/\Q σ H
noncomputable def ZeR (t:TG)(u:TGs):TGs:=λvs σ H Q=>∃v r,vs=v::r/\t v σ H λq H'=>u r q H' Q
theorem J6:PGs X [] ZgE:=by
 intro qQ s σ H vs us Q I r h;obtain ⟨e,h⟩:=h;subst e;cases r;exact assignInOrder_nil ⟨σ,H,I,h⟩
theorem GT {e:Expr}{es:List Expr}{t:TG}{u:TGs}(h1:PG X e t)(h2:PGs X es u)(q:(assignEach (e::es) X.env).map (·.2)=assign e X.env::(assignEach es X.env).map (·.2):=by rfl):PGs X (e::es) (ZeR t u):=by
 intro qQ s σ H vs us Q I r h;obtain ⟨v,N,B,h⟩:=h;subst B;cases r with
 | cons r rr=>
  rw [q];refine assignInOrder_cons (thn (h1 qQ s σ H _ _ _ I r h) λ_ D ⟨F,H1,G,L⟩=>?_);exact h2 qQ D F H1 _ _ Q G rr L
noncomputable def ZfZ (K:W.Frag)(n:Nat)(t:TGs):TG:=λv σ H Q=>∃a xs,v=.ref a/\SqT K H a xs/\xs.length=n/\t xs σ H Q
theorem Zdy {es:List Expr}{k:Nat}{t:TGs}{n:Nat}(F:X.calm=true)(h:PGs X es t)(G:(assignEach es X.env).length=n:=by rfl)(q:(assignEach es X.env).findIdx? (·.1)=none:=by rfl):PG X (.Tuple es k pos) (ZfZ X.K n t):=by
 intro qQ s σ H v u Q I r B;obtain ⟨a,xs,L,N,O,B⟩:=B;subst L;cases r;obtain ⟨U,D,Y,hz⟩:=I.tuple N;refine assign_Tuple_tuple (I.ok.hd F) Y (by simp [G,<-O,D.length]) q λh' Z=>?_;have I1:Inv X qQ σ H { s with heap:=h' }:=I.kept (t':=s.toks) λb o e=>Z b o (Yao (Yah e)) e;exact h qQ _ σ H xs _ Q I1 (by simpa using D) B
noncomputable def ZgF (to q:TE)(t:Zdx):TG:=λv σ H Q=>to σ H λo H1=>q σ H1 λi H2=>t o i v H2 λB=>Q σ B
theorem Up {o i:Expr}{to q:TE}{t:Zdx}(B:PE X o to)(hi:PE X i q)(D:ZeQ X t)(ha:∀v,assign (.Subscript o i pos) X.env v=(do
   let ov <- holding [v] (eval o X.env)
   let iv <- holding [v,ov] (eval i X.env)
   standAt pos
   holding [v,ov,iv] (setItem ov iv v)
   release [v,ov,iv] []):=by intro _;rfl):PG X (.Subscript o i pos) (ZgF to q t):=by
 intro qQ s σ H v u Q I r h;rw [ha];refine Yaa (Yce (thG (B qQ s σ H _ I h) λov F x H1 G L N=>?_));refine Yaa (Yce (thG (hi qQ F σ H1 _ G N) λiv O y H2 U Y Z=>?_));refine Yaa (wpAny_standAt (Yaa (Yce (thT (D qQ O σ H2 x y v ov iv u _ U L Y r Z) λ_ s3 H3 I3 q3=>?_))));exact wpAny_release ⟨σ,H3,I3,q3⟩
noncomputable def ZeS (te:TE)(g:TG):TS:=λD σ H=>te σ H λx H1=>g x σ H1 D.nx
theorem Oz {tg e:Expr}{te:TE}{g:TG}(B:PE X e te)(F:PG X tg g)(G:swapsWithSole [tg] e pos.line X.env=pure false:=by rfl)(L:swappedStores [tg] e X.env=pure none:=by rfl)(h1:(assignEach [tg] X.env).map (·.2)=[assign tg X.env]:=by rfl):PS X (.Assign [tg] e pos) (ZeS te g):=by
 intro qQ s σ H D I h;refine wpAny_Assign_stores (thG (B qQ s σ H _ I h) λv N x H1 O U Y=>?_) G L;rw [h1];exact thn (F qQ N σ H1 x v _ O U Y) λ_ Z q=>q
theorem Go {i:Nat}{x:Str}{e:Expr}{te:TE}{pos':Pos}(q:X.N.Nodup)(hi:X.N[i]?=some x)(B:Loc X.env.scope x)(F:PE X e te)(G:swapsWith e (some (.Name x pos')) pos.line X.env=pure false:=by rfl)(L:X.fn x=true\/X.env.scope.names.lookup x=some .local:=by first | exact .inl rfl | exact .inr rfl | assumption) :
  PS X (.Assign [.Name x pos'] e pos) (ZeS te (Jd i)):=by
 intro qQ s σ H D I h;refine wpAny_Assign_Name (thG (F qQ s σ H _ I h) λv s1 y H1 O U Y=>?_) G;exact XN O q hi B U (λs2 Z=>⟨_,H1,Z,Y⟩) L
noncomputable def ZeT (to G te:TE)(q:V->V->Hp->VK->Prop)(F:TIp)(B:Zdx):TS:=λD σ H=>to σ H λo H1=>G σ H1 λi H2=>q o i H2 λx L=>te σ L λy N=>F x y N λz O=>B o i z O λU=>D.nx σ U
noncomputable def Zf0 (X:Cx)(t:V->V->Hp->VK->Prop):Prop:=
 ∀(qQ:List (Addr×Obj))(s:Shared)(σ:St)(H:Hp)(o i:V)(ov iv:Value)(Q:VK),Inv X qQ σ H s->RelV o ov->RelV i iv->t o i H Q ->
  wpAny (model X.prog X.w) X.A (getItem ov iv) (EP X qQ σ Q) X.xe s
theorem Zj {o i e:Expr}{to O te:TE}{q:V->V->Hp->VK->Prop}{L:TIp}{B:Zdx}{op:Operator}{tpos:Pos}(ho:PE X o to)(hi:PE X i O)(hg:Zf0 X q)(he:PE X e te)(hp:PIp X op L)(hs:ZeQ X B)(ha:∀F G new,augStore i F G new=(do holding [new,F,G] (setItem F G new);release [new,F,G] [];pure .next):=by intros;rfl):PS X (.AugAssign (.Subscript o i tpos) op e pos) (ZeT to O te q L B):=by
 intro qQ s σ H D I h;refine wpAny_AugAssign_SubscriptAny (thG (ho qQ s σ H _ I h) λF s1 U H1 I1 Y q1=>?_) ha;refine thG (hi qQ s1 σ H1 _ I1 q1) λG s2 Z H2 I2 r2 q2=>?_;refine thn (hg qQ s2 σ H2 U Z F G _ I2 Y r2 q2) λN s3 ⟨x3,H3,I3,r3,q3⟩=>?_;refine thG (he qQ s3 σ H3 _ I3 q3) λv s4 x4 H4 I4 r4 q4=>?_;refine thG (hp qQ s4 σ H4 x3 x4 N v _ I4 r3 r4 q4) λnew s5 x5 H5 I5 r5 q5=>?_;exact thT (hs qQ s5 σ H5 U Z x5 F G new _ I5 Y r2 r5 q5) λ_ s6 H6 I6 q6=>⟨σ,H6,I6,q6⟩
noncomputable def ipI (f:Int->Int->Int):TIp:=λx y H Q=>∃i j,x=.int i/\y=.int j/\Q (.int (f i j)) H
theorem ZbV:PIp X .Add (ipI λi j=>i+j):=by
 intro qQ s σ H x y v u Q I B D h;obtain ⟨i,j,F,G,q⟩:=h;subst F;subst G;obtain ⟨t,rfl⟩:=B;obtain ⟨L,rfl⟩:=D;exact iadd_int ⟨.int _,H,I.tok _,⟨_,rfl⟩,q⟩
noncomputable def Zdz (c:TT)(tb:TS):TS:=λD σ H=>∃W:Nat->St->Hp->Prop,(∃m,W m σ H)/\∀m σ H,W m σ H ->
 c σ H λb H1=>if b=true then ∃N:St->Hp->Prop,(∀ q H',N q H'->∃B,B<m/\W B q H')/\tb { D with nx:=N,ct:=N,bk:=D.nx } σ H1 else D.nx σ H1
theorem ZaW {c:Expr}{body:List Stmt}{tc:TT}{tb:TS}(hp:PassesOwn (model X.prog X.w) X.A X.env X.xe)(hc:PT X c tc)(hb:PSs X body tb):PS X (.While c body [] pos) (Zdz tc tb):=by
 intro qQ s σ H D I h;obtain ⟨W,⟨m0,w0⟩,q⟩:=h;refine wpAny_While (codeAny_whileLoop (λn s'=>∃ σ' H',Inv X qQ σ' H' s'/\W n σ' H') ?_ m0 ⟨σ,H,I,w0⟩);rintro n s1 ⟨G,H1,I1,w1⟩;refine Yec hp (thT (hc qQ s1 G H1 _ I1 (q n G H1 w1)) λb s2 H2 I2 L=>?_);cases b with
 | true=>
  obtain ⟨N,hN,L⟩:=L;rw [if_pos rfl];refine Yec hp (thn (hb qQ s2 G H2 _ I2 L) λf s3 O=>?_);cases f with
  | next=>
   obtain ⟨B,F,U,Y⟩:=O;obtain ⟨Z,hm,w3⟩:=hN B F Y;exact ⟨Z,hm,B,F,U,w3⟩
  | cont=>
   obtain ⟨B,F,U,Y⟩:=O;obtain ⟨Z,hm,w3⟩:=hN B F Y;exact ⟨Z,hm,B,F,U,w3⟩
  | brk=>exact O
  | ret v=>exact O
 | false=>
  rw [if_neg Yal];exact wpAny_execs_nil ⟨G,H2,I2,L⟩
end
structure It where
 go:Nat->Hp->Prop
 yld:Nat->Hp->V->Hp->Prop
 stop:Nat->Hp->Prop
noncomputable def ZaP (X:Cx)(qQ:List (Addr×Obj))(H:Hp)(b:Addr):Prop:=
 H b=none/\b≠X.env.locals/\b ∉ X.fs/\(b∈X.ex\/X.s₀.heap.objs.size<=b)/\(∀x c,X.env.cells.lookup x=some c->c≠b)/\∀p∈X.pn++qQ,p.1≠b
theorem Inv.fpOk {X:Cx}{qQ:List (Addr×Obj)}{σ:St}{H H':Hp}{s:Shared}{b:Addr}(I:Inv X qQ σ H s)(B:s.heap.objs.size<=b)(D:H' b=none):ZaP X qQ H' b:=by
 refine ⟨D,Ydh (Ybm I.lt B),I.nofs B,.inr (Ybc I.sz B),λx c e z=>?_,λp F z=>?_⟩
 ·obtain ⟨v,q⟩:=I.cell x c e;exact absurd (Ybm q.lt (by rw [z];exact B)) (Yca _)
 ·exact absurd (Ybm (Yah (I.pin p F).1) (by rw [z];exact B)) (Yca _)
structure ZbW (P:Program)(w:World)(K:W.Frag)(tg:Expr)(J:It)(fp:List Addr)(it:Addr)(tn:Nat->Heap->Prop):Prop where
 mem:it∈fp
 obj:∀i h,tn i h->∀b∈fp,∃o,h.get? b=some o/\∀v,o.data≠.cell v
 keep:∀i h h',tn i h->(∀b∈fp,∀o,h.get? b=some o->h'.get? b=some o)->tn i h'
 item:∀(X:Cx),X.prog=P->X.w=w->X.K=K->X.calm=true->∀(i:Nat)(qQ:List (Addr×Obj))(s:Shared)(σ:St)(H:Hp)(E:EX),Inv X qQ σ H s->(∀b∈fp,ZaP X qQ H b)->tn i s.heap->J.go i H ->
  wpAny (model P w) X.A (pyNext (.ref it)) (λr s1=>∃u,r=some u /\
   wpAny (model P w) X.A (letOwnedTupleGo tg (.ref it) u) (λ_ s2=>∃x H',Inv X qQ σ H' s2/\RelV x u/\J.yld i H x H'/\tn (i+1) s2.heap/\∀b∈fp,H' b=none) E s1) E s
 done:∀(X:Cx),X.prog=P->X.w=w->X.K=K->X.calm=true->∀(i:Nat)(qQ:List (Addr×Obj))(s:Shared)(σ:St)(H:Hp)(E:EX),Inv X qQ σ H s->(∀b∈fp,ZaP X qQ H b)->tn i s.heap->J.stop i H ->
  wpAny (model P w) X.A (pyNext (.ref it)) (λr s1=>r=none/\Inv X qQ σ H s1) E s
 self:∀(A:Around)(i:Nat)(s:Shared)(Q:EX)(E:EX),tn i s.heap->Q (.ref it) s->wpAny (model P w) A (pyIter (.ref it)) Q E s
noncomputable abbrev TI:=St->Hp->(It->Hp->Prop)->Prop
noncomputable def PIE (X:Cx)(qQ:List (Addr×Obj))(σ:St)(tg:Expr)(R:It->Hp->Prop)(q:Value)(B:Shared):Prop:=
 ∃(D:Addr)(fp:List Addr)(tn:Nat->Heap->Prop)(J:It)(H':Hp),q=.ref D/\Inv X qQ σ H' B/\ZbW X.prog X.w X.K tg J fp D tn/\tn 0 B.heap/\(∀b∈fp,ZaP X qQ H' b)/\R J H'
noncomputable def PI (X:Cx)(tg iter:Expr)(wi:TI):Prop:=
 ∀(qQ:List (Addr×Obj))(s:Shared)(σ:St)(H:Hp)(R:It->Hp->Prop),Inv X qQ σ H s->wi σ H R ->
  wpAny (model X.prog X.w) X.A (eval iter X.env) (λv q=>wpAny (model X.prog X.w) X.A (pyIter v) (PIE X qQ σ tg R) X.xe q) X.xe s
theorem Zk {M:Model}{A:Around}{E:EX}{s:Shared}{tg:Expr}{it:Addr}{u:Value}{o:Obj}{n:String}{vs:Array Value}{Q:Unit->Shared->Prop}(B:s.heap.get? it=some o)(D:o.cls=.type n)(F:o.data=.fields vs)(G:["enumerate", "zip", "dict_itemiterator", "dict_reverseitemiterator", "odict_iterator", "itertools.zip_longest", "itertools.pairwise"].contains n=false)(q:Q () s):wpAny M A (letOwnedTupleGo tg (.ref it) u) Q E s:=by
 unfold letOwnedTupleGo;cases tg <;> first
  | exact Yac q
  | (cases u <;> first
    | exact Yac q
    | (refine Yaa (wpAny_load B ?_)
       rw [D,F];show wpAny M A (if (["enumerate", "zip", "dict_itemiterator", "dict_reverseitemiterator", "odict_iterator", "itertools.zip_longest", "itertools.pairwise"].contains n && vs[0]? == some (rawInt _))=true then _ else _) Q E s;rw [if_neg (by intro h;rw [G,Bool.false_and] at h;cases h)];exact Yac q))
noncomputable def Itl (K:W.Frag)(a:Addr):It:=
 ⟨λi H=>∃xs x,SqL K H a xs/\xs[i]?=some x,λi H x H'=>H'=H/\∀xs,SqL K H a xs->xs[i]?=some x,λi H=>∃xs,SqL K H a xs/\xs.length<=i⟩
noncomputable def Itt (K:W.Frag)(a:Addr):It:=
 ⟨λi H=>∃xs x,SqT K H a xs/\xs[i]?=some x,λi H x H'=>H'=H/\∀xs,SqT K H a xs->xs[i]?=some x,λi H=>∃xs,SqT K H a xs/\xs.length<=i⟩
noncomputable def Itr (lo:Int)(n:Nat):It:=⟨λi _=>i<n,λi H x H'=>H'=H/\x=.int (lo+i),λi _=>n<=i⟩
theorem Zl {P:Program}{w:World}{K:W.Frag}{tg:Expr}(a it:Addr):ZbW P w K tg (Itl K a) [it] it (λi h=>h.IsListIter it a i) where
 mem:=by simp
 obj:=λi h st b hb=>by
  have e:b=it:=by simpa using hb
  subst e;obtain ⟨o,e,c,d⟩:=st;exact ⟨o,e,λv z=>by rw [d] at z;cases z⟩
 keep:=λi h h' st k=>st.at λo e=>k it (by simp) o e
 item:=by
  intro X hP hw hK hc i qQ s σ H E I hf st hg;subst hP hw hK;obtain ⟨xs,x,hq,hx⟩:=hg;obtain ⟨its,rv,p,hz⟩:=I.list hq;obtain ⟨u,hu,ru⟩:=rv.get hx;obtain ⟨f0,f1,f2,f3,f4,f5⟩:=hf it (by simp);refine wpAny_pyNext_list_item st p.isList (x:=u) (by simpa using hu) λh' st' sb=>?_;have I1:Inv X qQ σ H { s with heap:=h' }:=I.turned (t':=s.toks) (λb o hb e=>(sb.2 b hb).trans e) f0 f1 f3 f4 f5;obtain ⟨o,e,c,d⟩:=id st';exact ⟨u,rfl,Zk (s:={ s with heap:=h' }) e c d (by decide) ⟨x,H,I1,ru,⟨rfl,λys hy=>by rw [I.list_inj hy hq];exact hx⟩,st',λb hb=>(hf b hb).1⟩⟩
 done:=by
  intro X hP hw hK hc i qQ s σ H E I hf st hg;subst hP hw hK;obtain ⟨xs,hq,hx⟩:=hg;obtain ⟨its,rv,p,hz⟩:=I.list hq;obtain ⟨f0,f1,f2,f3,f4,f5⟩:=hf it (by simp);have hl:=rv.length;exact wpAny_pyNext_list_end (I.ok.hd hc) st p.isList (by simp;lia) λh' eb=>⟨rfl,I.turned (t':=s.toks) (λb o hb e=>eb b o hb e) f0 f1 f3 f4 f5⟩
 self:=λ_ _ _ _ _ st h=>wpAny_pyIter_listiter st h
theorem YF {P:Program}{w:World}{K:W.Frag}{tg:Expr}(a it:Addr):ZbW P w K tg (Itt K a) [it] it (λi h=>h.IsTupleIter it a i) where
 mem:=by simp
 obj:=λi h st b hb=>by
  have e:b=it:=by simpa using hb
  subst e;obtain ⟨o,e,c,d⟩:=st;exact ⟨o,e,λv z=>by rw [d] at z;cases z⟩
 keep:=λi h h' st k=>st.at λo e=>k it (by simp) o e
 item:=by
  intro X hP hw hK hc i qQ s σ H E I hf st hg;subst hP hw hK;obtain ⟨xs,x,hq,hx⟩:=hg;obtain ⟨its,rv,p,hz⟩:=I.tuple hq;obtain ⟨u,hu,ru⟩:=rv.get hx;obtain ⟨f0,f1,f2,f3,f4,f5⟩:=hf it (by simp);refine wpAny_pyNext_tuple_item st (show s.heap.IsTuple a its.toArray from p) (x:=u) (by simpa using hu) λh' st' sb=>?_;have I1:Inv X qQ σ H { s with heap:=h' }:=I.turned (t':=s.toks) (λb o hb e=>(sb.2 b hb).trans e) f0 f1 f3 f4 f5;obtain ⟨o,e,c,d⟩:=id st';exact ⟨u,rfl,Zk (s:={ s with heap:=h' }) e c d (by decide) ⟨x,H,I1,ru,⟨rfl,λys hy=>by rw [I.tuple_inj hy hq];exact hx⟩,st',λb hb=>(hf b hb).1⟩⟩
 done:=by
  intro X hP hw hK hc i qQ s σ H E I hf st hg;subst hP hw hK;obtain ⟨xs,hq,hx⟩:=hg;obtain ⟨its,rv,p,hz⟩:=I.tuple hq;obtain ⟨f0,f1,f2,f3,f4,f5⟩:=hf it (by simp);have hl:=rv.length;exact wpAny_pyNext_tuple_end (I.ok.hd hc) st (show s.heap.IsTuple a its.toArray from p) (by simp;lia) λh' eb=>⟨rfl,I.turned (t':=s.toks) (λb o hb e=>eb b o hb e) f0 f1 f3 f4 f5⟩
 self:=λ_ _ _ _ _ st h=>wpAny_pyIter_tupleiter st h
theorem YG {P:Program}{w:World}{K:PySem.W.Frag}{tg:Expr}(it:Addr)(lo:Int)(n:Nat):ZbW P w K tg (Itr lo n) [it] it (λi h=>IsRangeIter h it (lo+(i:Nat) * 1) ((n:Int)-(i:Nat)) 1) where
 mem:=by simp
 obj:=λi h st b hb=>by
  have e:b=it:=by simpa using hb
  subst e;exact ⟨_,st,λv z=>by
   have z':Data.fields _=Data.cell v:=z;cases z'⟩
 keep:=λi h h' st k=>k it (by simp) _ st
 item:=by
  intro X hP hw hK hc i qQ s σ H E I hf st hg;subst hP hw hK;obtain ⟨f0,f1,f2,f3,f4,f5⟩:=hf it (by simp);have W:=Walks.range (prog:=X.prog) (w:=X.w) (I.ok.hd hc) it lo 1 n;refine W.item i s _ _ hg st λv h' tk hv st' kk=>?_;obtain ⟨t,rfl⟩:=hv;have I1:Inv X qQ σ H { s with heap:=h',toks:=tk }:=I.turned (λb o hb e=>kk b o (by simpa using hb) e) f0 f1 f3 f4 f5;refine ⟨_,rfl,Zk (s:={ s with heap:=h',toks:=tk }) (n := "range_iterator") st' rfl rfl (by decide) ⟨.int (lo+i),H,I1,⟨t,?_⟩,⟨rfl,rfl⟩,st',λb hb=>(hf b hb).1⟩⟩;rw [Int.mul_one]
 done:=by
  intro X hP hw hK hc i qQ s σ H E I hf st hg;subst hP hw hK;obtain ⟨f0,f1,f2,f3,f4,f5⟩:=hf it (by simp);exact wpAny_pyNext_range_end (I.ok.hd hc) st (by have:n<=i:=hg;lia) λh' eb=>⟨rfl,I.turned (t':=s.toks) (λb o hb e=>eb b o hb e) f0 f1 f3 f4 f5⟩
 self:=λ_ _ _ _ _ st h=>wpAny_pyIter_rangeiter st h
section
variable {X:Cx}{tg:Expr}
noncomputable def ZdA (K:W.Frag)(tl:TE):TI:=λσ H R=>tl σ H λx H1=>∃a,x=.ref a/\(∃xs,SqL K H1 a xs)/\R (Itl K a) H1
noncomputable def Zf1 (K:W.Frag)(tl:TE):TI:=λσ H R=>tl σ H λx H1=>∃a,x=.ref a/\(∃xs,SqT K H1 a xs)/\R (Itt K a) H1
theorem Zct {l:Expr}{tl:TE}(F:PE X l tl):PI X tg l (ZdA X.K tl):=by
 intro qQ s σ H R I h;refine thG (F qQ s σ H _ I h) λv B x H1 D G L=>?_;obtain ⟨a,e,⟨xs,N⟩,q⟩:=L;subst e;cases G;obtain ⟨O,Y,p,Z⟩:=D.list N;refine wpAny_pyIter_list p.isList ?_;refine ⟨B.heap.objs.size,[B.heap.objs.size],_,_,H1,rfl,D.kept (t':=B.toks) λb o e=>Yaj _ e,Zl a _,⟨_,Ybd _ rfl,rfl,rfl⟩,λb U=>?_,q⟩;have e:b=B.heap.objs.size:=by simpa using U
 subst e;exact D.fpOk (Yaf _) (D.hok.fresh (Yaf _))
theorem ZdB {l:Expr}{tl:TE}(G:PE X l tl):PI X tg l (Zf1 X.K tl):=by
 intro qQ s σ H R I h;refine thG (G qQ s σ H _ I h) λv B x H1 D L N=>?_;obtain ⟨a,e,⟨xs,O⟩,q⟩:=N;subst e;cases L;obtain ⟨F,Y,p,Z⟩:=D.tuple O;refine wpAny_pyIter_tuple (show B.heap.IsTuple a F.toArray from p) ?_;refine ⟨B.heap.objs.size,[B.heap.objs.size],_,_,H1,rfl,D.kept (t':=B.toks) λb o e=>Yaj _ e,YF a _,⟨_,Ybd _ rfl,rfl,rfl⟩,λb U=>?_,q⟩;have e:b=B.heap.objs.size:=by simpa using U
 subst e;exact D.fpOk (Yaf _) (D.hok.fresh (Yaf _))
theorem XO {qQ:List (Addr×Obj)}{σ:St}{H:Hp}{s:Shared}{R:It->Hp->Prop}{E:EX}{lo hi:Int}{t u v:Tok}{tk:Nat}(I:Inv X qQ σ H s)(h1:-(2 ^ 62)<=lo)(h2:lo<2 ^ 62)(D:-(2 ^ 62)<=hi)(F:hi<2 ^ 62)(q:R (Itr lo (hi-lo).toNat) H):wpAny (model X.prog X.w) X.A (pyIter (.ref s.heap.objs.size)) (PIE X qQ σ tg R) E { s with heap:=s.heap.push { cls:=.type "range", data:=.fields #[.int lo t,.int hi u,.int 1 v] },toks:=tk }:=by
 refine wpAny_pyIter_range (IsRange.new ..) (small_one h1 h2 D F) ?_;have B:Inv X qQ σ H { s with heap:=s.heap.push { cls:=.type "range", data:=.fields #[.int lo t,.int hi u,.int 1 v] },toks:=tk }:=I.kept λb o e=>Yaj _ e;refine ⟨(s.heap.push { cls:=.type "range", data:=.fields #[.int lo t,.int hi u,.int 1 v] }).objs.size,[(s.heap.push { cls:=.type "range", data:=.fields #[.int lo t,.int hi u,.int 1 v] }).objs.size],_,_,H,rfl,
  B.kept (t':=tk) λb o e=>Yaj _ e,YG _ lo (hi-lo).toNat,?_,λb G=>?_,q⟩
 ·have L:lo+((0:Nat):Int) * 1=lo:=by simp
  have N:(((hi-lo).toNat:Nat):Int)-((0:Nat):Int)=Builtin.Range.rangeSize lo hi 1:=by rw [rangeSize_one];split <;> lia
  show IsRangeIter _ _ (lo+((0:Nat):Int) * 1) ((((hi-lo).toNat:Nat):Int)-((0:Nat):Int)) 1;rw [L,N];exact Ybd _ rfl
 ·have e:b=(s.heap.push { cls:=.type "range", data:=.fields #[.int lo t,.int hi u,.int 1 v] }).objs.size:=by simpa using G
  subst e;exact B.fpOk (Yaf _) (B.hok.fresh (Yaf _))
noncomputable def ZeU (ta:TA):TI:=λσ H R=>ta σ H λvs H1=>∃j:Int,vs=[.int j]/\-(2 ^ 62)<=j/\j<2 ^ 62/\R (Itr 0 j.toNat) H1
noncomputable def ZeV (ta:TA):TI:=λσ H R=>ta σ H λvs H1=>∃i j:Int,vs=[.int i,.int j]/\(-(2 ^ 62)<=i/\i<2 ^ 62/\-(2 ^ 62)<=j/\j<2 ^ 62)/\R (Itr i (j-i).toNat) H1
theorem Je {a:Expr}{ta:TA}{p pos:Pos}(D:Gl X "range")(F:X.mg "range" = none)(ha:PA X [a] ta)(G:starEach [a] X.env=[(false,eval a X.env)]:=by rfl):PI X tg (.Call (.Name "range" p) [a] [] pos) (ZeU ta):=by
 intro qQ s σ H R I h;refine Call_ (U7 I D F boot_range (Yew (thG (ha pos qQ s σ H _ I h) λus U vs H1 L N B=>?_) G rfl));obtain ⟨j,e,B,O,q⟩:=B;subst e;cases N with
 | cons r rr=>
  cases rr;obtain ⟨t,rfl⟩:=r;exact call_range_1 (XO L (by lia) (by lia) B O (by simpa using q))
theorem Zm {a b:Expr}{ta:TA}{p pos:Pos}(F:Gl X "range")(G:X.mg "range" = none)(ha:PA X [a,b] ta)(L:starEach [a,b] X.env=[(false,eval a X.env),(false,eval b X.env)]:=by rfl)(B:starEach [b] X.env=[(false,eval b X.env)]:=by rfl) :
  PI X tg (.Call (.Name "range" p) [a,b] [] pos) (ZeV ta):=by
 intro qQ s σ H R I h;refine Call_ (U7 I F G boot_range (Yew (thG (ha pos qQ s σ H _ I h) λus s1 vs H1 N O D=>?_) (by rw [L,B]) (by rw [B];rfl)));obtain ⟨i,j,e,⟨D,U,Y,Z⟩,q⟩:=D;subst e;cases O with
 | cons r rr=>
  cases rr with
  | cons r' rr=>
   cases rr;obtain ⟨t,rfl⟩:=r;obtain ⟨t',rfl⟩:=r';exact call_range_2 (XO N D U Y Z q)
noncomputable def ZgG (wi:TI)(g:TG)(tb:TS):TS:=λD σ H=>wi σ H λJ H1=>∃W:Nat->Nat->St->Hp->Prop,(∃m,W 0 m σ H1)/\∀i m σ H,W i m σ H ->
 (J.stop i H/\D.nx σ H)\/(J.go i H/\∃N:St->Hp->Prop,(∀ q H',N q H'->∃B,B<m/\W (i+1) B q H')/\∀x H',J.yld i H x H'->g x σ H' λF H2=>tb { D with nx:=N,ct:=N,bk:=D.nx } F H2)
noncomputable def We (fp:List Addr)(h:Heap):List (Addr×Obj):=fp.filterMap λb=>(h.get? b).map λo=>(b,o)
theorem Oh {fp:List Addr}{h:Heap}{b:Addr}{o:Obj}(q:b∈fp)(e:h.get? b=some o):(b,o)∈We fp h:=Ydp.mpr ⟨b,q,by rw [e];rfl⟩
theorem Zn {fp:List Addr}{h:Heap}{p:Addr×Obj}(B:p∈We fp h):p.1∈fp/\h.get? p.1=some p.2:=by
 obtain ⟨b,D,e⟩:=Ydp.mp B;cases q:h.get? b with
 | none=>rw [q] at e;cases e
 | some o=>
  rw [q] at e;have F:(b,o)=p:=Yby e;subst F;exact ⟨D,q⟩
theorem Inv.pinned {qQ:List (Addr×Obj)}{σ:St}{H:Hp}{s:Shared}{fp:List Addr}(I:Inv X qQ σ H s)(D:∀b∈fp,ZaP X qQ H b)(F:∀b∈fp,∃o,s.heap.get? b=some o/\∀v,o.data≠.cell v):Inv X (qQ++We fp s.heap) σ H s:=
 I.pins_of λp G=>(Yap.mp G).elim (λz=>I.pin p (Ycf _ z)) λz=>by
  obtain ⟨q,e⟩:=Zn z;obtain ⟨L,N,O,_⟩:=D p.1 q;obtain ⟨o,B,d⟩:=F p.1 q;rw [e] at B;cases B;exact ⟨e,L,N,O,d⟩
theorem Inv.unpinned {qQ q:List (Addr×Obj)}{σ:St}{H:Hp}{s:Shared}(I:Inv X (qQ++q) σ H s):Inv X qQ σ H s:=I.pins_of λp B=>I.pin p (Ycf _ (Yei _ B))
theorem Jf {iter:Expr}{body:List Stmt}{wi:TI}{g:TG}{tb:TS}{pos:Pos}(Z:PassesOwn (model X.prog X.w) X.A X.env X.xe)(hc:X.calm=true)(hi:PI X tg iter wi)(hg:PG X tg g)(q:PSs X body tb)(hs:∀x,foldedSetIterable iter X.env x=pure x:=by intro _;rfl):PS X (.For tg iter body [] pos) (ZgG wi g tb):=by
 intro qQ s σ H D I h;refine wpAny_For (thn (hi qQ s σ H _ I h) λv s1 h1=>thn h1 λah s2 h2=>?_) hs;obtain ⟨it,fp,tn,J,H2,e,I2,T,ae,f2,W,⟨m0,w0⟩,aa⟩:=h2;subst e;have B:∀{H':Hp},(∀b∈fp,H' b=none)->∀b∈fp,ZaP X qQ H' b:=λhn b q=>⟨hn b q,(f2 b q).2⟩;refine codeAny_forLoop_any (λn s'=>∃i σ' H',Inv X qQ σ' H' s'/\tn i s'.heap/\(∀b∈fp,H' b=none)/\W i n σ' H') ?_ m0 ⟨0,σ,H2,I2,ae,λb q=>(f2 b q).1,w0⟩;rintro n s3 ⟨i,σ3,H3,I3,ab,ac,w3⟩;rcases aa i n σ3 H3 w3 with ⟨ad,qn⟩ | ⟨go,N,hN,step⟩
 ·refine Yec Z (thn (T.done X rfl rfl rfl hc i qQ s3 σ3 H3 X.xe I3 (B ac) ab ad) λr s4 ⟨hr,I4⟩=>?_);subst hr;exact wpAny_execs_nil ⟨σ3,H3,I4,qn⟩
 ·refine Yec Z (thn (T.item X rfl rfl rfl hc i qQ s3 σ3 H3 X.xe I3 (B ac) ab go) λr s4 ⟨u,hr,h4⟩=>?_);subst hr;refine Yec Z (thn h4 λ_ s5 ⟨x,H5,I5,r5,y5,Y,af⟩=>?_);have ag:=I5.pinned (B af) (T.obj _ _ Y);refine Yec Z (thn (hg _ s5 σ3 H5 x u _ ag r5 (step x H5 y5)) λ_ s6 ⟨σ6,H6,I6,q6⟩=>?_);refine Yec Z (thn (q _ s6 σ6 H6 _ I6 q6) λf s7 U=>?_);have F:∀{G:St}{L:Hp},Inv X (qQ++We fp s5.heap) G L s7->N G L->∃m,m<n/\∃i σ' H',Inv X qQ σ' H' s7/\tn i s7.heap/\(∀b∈fp,H' b=none)/\W i m σ' H':=λ{G L} O n7=>by
   obtain ⟨m',hm,w7⟩:=hN G L n7;refine ⟨m',hm,i+1,G,L,O.unpinned,T.keep _ _ _ Y λb q o e=>(O.pin (b,o) (Ycf _ (Ycf _ (Oh q e)))).1,λb q=>?_,w7⟩;obtain ⟨o,e,d⟩:=T.obj _ _ Y b q;exact (O.pin (b,o) (Ycf _ (Ycf _ (Oh q e)))).2.1
  cases f with
  | next=>obtain ⟨G,L,O,n7⟩:=U;exact F O n7
  | cont=>obtain ⟨G,L,O,n7⟩:=U;exact F O n7
  | brk=>obtain ⟨G,L,O,U⟩:=U;exact ⟨G,L,O.unpinned,U⟩
  | ret v=>obtain ⟨x7,G,L,O,r7,U⟩:=U;exact ⟨x7,G,L,O.unpinned,r7,U⟩
end
noncomputable abbrev Zo (J:It)(g:TG)(tb:TS)(D:Ends)(σ:St)(H:Hp):Prop:=∃W:Nat->Nat->St->Hp->Prop,(∃m,W 0 m σ H)/\∀i m σ H,W i m σ H ->
   (J.stop i H/\D.nx σ H)\/(J.go i H/\∃N:St->Hp->Prop,(∀ q H',N q H'->∃B,B<m/\W (i+1) B q H')/\∀x H',J.yld i H x H'->g x σ H' λF H2=>tb { D with nx:=N,ct:=N,bk:=D.nx } F H2)
theorem Vs {J:It}{n:Nat}{g:TG}{tb:TS}{D:Ends}{σ:St}{H:Hp}(B:Nat->St->Hp->Prop)(h0:B 0 σ H)(G:∀i σ H,i<=n->B i σ H->(i<n->J.go i H)/\(i=n->J.stop i H))(L:∀i σ H x H',i<n->B i σ H->J.yld i H x H'->g x σ H' λN H2=>tb { D with nx:=B (i+1),ct:=B (i+1),bk:=D.nx } N H2)(O:∀ σ H,B n σ H->D.nx σ H):Zo J g tb D σ H:=by
 refine ⟨λi m σ H=>m=n-i/\i<=n/\B i σ H,⟨_,rfl,Yav _,h0⟩,?_⟩;rintro i m σ H ⟨rfl,hi,p⟩;have q:=G i σ H hi p;by_cases F:i<n
 ·exact .inr ⟨q.1 F,B (i+1),λY H' U=>⟨n-(i+1),by lia,rfl,F,U⟩,λx H' y=>L i σ H x H' F p y⟩
 ·have e:i=n:=by lia
  subst e;exact .inl ⟨q.2 rfl,O σ H p⟩
theorem Jq {K:W.Frag}{a:Addr}{xs:List V}{g:TG}{tb:TS}{D:Ends}{σ:St}{H:Hp}(q:Nat->St->Hp->Prop)(h0:q 0 σ H)(B:∀i σ H,i<=xs.length->q i σ H->SqL K H a xs)(F:∀i x σ H,xs[i]?=some x->q i σ H->g x σ H λG H2=>tb { D with nx:=q (i+1),ct:=q (i+1),bk:=D.nx } G H2)(L:∀ σ H,q xs.length σ H->D.nx σ H) :
  Zo (Itl K a) g tb D σ H:=Vs q h0 (λi s H hi p=>⟨λz=>⟨xs,xs[i],B i s H hi p,by simp [z]⟩,λe=>⟨xs,B i s H hi p,by lia⟩⟩) (λi s H x H' z p y=>by obtain ⟨rfl,y⟩:=y;exact F i x s _ (y xs (B i s _ (Ybw z) p)) p) L
theorem Zcu {K:W.Frag}{a:Addr}{xs:List V}{g:TG}{tb:TS}{D:Ends}{σ:St}{H:Hp}(q:Nat->St->Hp->Prop)(h0:q 0 σ H)(B:∀i σ H,i<=xs.length->q i σ H->SqT K H a xs)(F:∀i x σ H,xs[i]?=some x->q i σ H->g x σ H λG H2=>tb { D with nx:=q (i+1),ct:=q (i+1),bk:=D.nx } G H2)(L:∀ σ H,q xs.length σ H->D.nx σ H) :
  Zo (Itt K a) g tb D σ H:=Vs q h0 (λi s H hi p=>⟨λz=>⟨xs,xs[i],B i s H hi p,by simp [z]⟩,λe=>⟨xs,B i s H hi p,by lia⟩⟩) (λi s H x H' z p y=>by obtain ⟨rfl,y⟩:=y;exact F i x s _ (y xs (B i s _ (Ybw z) p)) p) L
theorem JC {lo:Int}{n:Nat}{g:TG}{tb:TS}{D:Ends}{σ:St}{H:Hp}(q:Nat->St->Hp->Prop)(h0:q 0 σ H)(B:∀i σ H,i<n->q i σ H->g (.int (lo+i)) σ H λF H2=>tb { D with nx:=q (i+1),ct:=q (i+1),bk:=D.nx } F H2)(G:∀ σ H,q n σ H->D.nx σ H) :
  Zo (Itr lo n) g tb D σ H:=Vs q h0 (λi s H hi p=>⟨id,λe=>Nat.le_of_eq e.symm⟩) (λi s H x H' z p y=>by obtain ⟨rfl,rfl⟩:=y;exact B i s _ z p) G
noncomputable abbrev R2:=V->V->Hp->VK->Prop
noncomputable def OpR (X:Cx)(f:Value->Value->Sem Value)(r:R2):Prop:=
 ∀(qQ:List (Addr×Obj))(s:Shared)(σ:St)(H:Hp)(x y:V)(v u:Value)(Q:VK),Inv X qQ σ H s->RelV x v->RelV y u->r x y H Q ->
  wpAny (model X.prog X.w) X.A (f v u) (EP X qQ σ Q) X.xe s
noncomputable def UnR (X:Cx)(f:Value->Sem Value)(r:V->Hp->VK->Prop):Prop:=
 ∀(qQ:List (Addr×Obj))(s:Shared)(σ:St)(H:Hp)(x:V)(v:Value)(Q:VK),Inv X qQ σ H s->RelV x v->r x H Q ->
  wpAny (model X.prog X.w) X.A (f v) (EP X qQ σ Q) X.xe s
noncomputable def JD (X:Cx)(f:Value)(r:List V->Hp->VK->Prop):Prop:=
 ∀(qQ:List (Addr×Obj))(s:Shared)(σ:St)(H:Hp)(xs:List V)(us:List Value)(Q:VK),Inv X qQ σ H s->Vals xs us->r xs H Q ->
  wpAny (model X.prog X.w) X.A (call f us) (EP X qQ σ Q) X.xe s
noncomputable def ZgH (X:Cx)(r:V->Hp->(Bool->Hp->Prop)->Prop):Prop:=
 ∀(qQ:List (Addr×Obj))(s:Shared)(σ:St)(H:Hp)(x:V)(v:Value)(Q:Bool->Hp->Prop),Inv X qQ σ H s->RelV x v->r x H Q ->
  wpAny (model X.prog X.w) X.A (truthy v) (TP X qQ σ Q) X.xe s
noncomputable def tOp (r:R2)(ta tb:TE):TE:=λσ H Q=>ta σ H λx H1=>tb σ H1 λy H2=>r x y H2 Q
noncomputable def tUn (r:V->Hp->VK->Prop)(ta:TE):TE:=λσ H Q=>ta σ H λx H1=>r x H1 Q
noncomputable def rI (C:Int->Int->Prop)(g:Int->Int->V):R2:=λx y H Q=>∃i j,x=.int i/\y=.int j/\C i j/\Q (g i j) H
noncomputable def rI0 (g:Int->Int->V):R2:=λx y H Q=>∃i j,x=.int i/\y=.int j/\Q (g i j) H
noncomputable def rU (g:Int->V):V->Hp->VK->Prop:=λx H Q=>∃i,x=.int i/\Q (g i) H
section
variable {X:Cx}{a b c:Expr}{ta tb tc:TE}{pos:Pos}
theorem ZeW (ha:PE X a ta)(B:PE X b tb){qQ:List (Addr×Obj)}{s:Shared}{σ:St}{H:Hp}{R:V->V->Hp->Prop}(I:Inv X qQ σ H s)(h:ta σ H λx H1=>tb σ H1 λy H2=>R x y H2){Q:EX}{f:Value->Value->Sem Value}(D:∀v u q x y H2,Inv X qQ σ H2 q->RelV x v->RelV y u->R x y H2->wpAny (model X.prog X.w) X.A (f v u) Q X.xe q) :
  wpAny (model X.prog X.w) X.A (eval a X.env) (λv F=>wpAny (model X.prog X.w) X.A (eval b X.env) (λu G=>wpAny (model X.prog X.w) X.A (f v u) Q X.xe G) X.xe F) X.xe s:=by
 refine thG (ha qQ s σ H _ I h) λv L x H1 N O U=>?_;refine thG (B qQ L σ H1 _ N U) λu q y H2 Y Z q2=>?_;exact D v u q x y H2 Y O Z q2
theorem Gw {op:Operator}{r:R2}(B:OpR X (binaryOp op) r)(ha:PE X a ta)(D:PE X b tb):PE X (.BinOp a op b pos) (tOp r ta tb):=by
 intro qQ s σ H Q I h;exact wpAny_BinOp (ZeW ha D I h λv u F x y H2 G L N q=>B qQ F σ H2 x y v u Q G L N q)
theorem Xb {op:UnaryOp}{r:V->Hp->VK->Prop}(q:UnR X (unaryOp op) r)(ha:PE X a ta):PE X (.UnaryOp op a pos) (tUn r ta):=by
 intro qQ s σ H Q I h;exact UnaryOp_ (thG (ha qQ s σ H _ I h) λv B x H1 D F G=>q qQ B σ H1 x v Q D F G)
theorem opI {f:Value->Value->Sem Value}{C:Int->Int->Prop}{g:Int->Int->Int}(B:∀(i j:Int)(t u:Tok)(s:Shared)(Q:EX)(E:EX),C i j->Q (.int (g i j) s.toks) { s with toks:=s.toks+1 }->wpAny (model X.prog X.w) X.A (f (.int i t) (.int j u)) Q E s) :
  OpR X f (rI C λi j=>.int (g i j)):=by
 intro qQ s σ H x y v u Q I D F h;obtain ⟨i,j,rfl,rfl,G,q⟩:=h;obtain ⟨t,rfl⟩:=D;obtain ⟨L,rfl⟩:=F;exact B i j t L s _ _ G ⟨.int (g i j),H,I.tok _,⟨_,rfl⟩,q⟩
theorem Zf2 {f:Value->Value->Sem Value}{g:Int->Int->Int}(B:∀(i j:Int)(t u:Tok)(s:Shared)(Q:EX)(E:EX),Q (.int (g i j) s.toks) { s with toks:=s.toks+1 }->wpAny (model X.prog X.w) X.A (f (.int i t) (.int j u)) Q E s) :
  OpR X f (rI0 λi j=>.int (g i j)):=by
 intro qQ s σ H x y v u Q I D F h;obtain ⟨i,j,rfl,rfl,q⟩:=h;obtain ⟨t,rfl⟩:=D;obtain ⟨G,rfl⟩:=F;exact B i j t G s _ _ ⟨.int (g i j),H,I.tok _,⟨_,rfl⟩,q⟩
theorem ZeH {f:Value->Value->Sem Value}{g:Int->Int->Bool}(B:∀(i j:Int)(t u:Tok)(s:Shared)(Q:EX)(E:EX),Q (.bool (g i j)) s->wpAny (model X.prog X.w) X.A (f (.int i t) (.int j u)) Q E s) :
  OpR X f (rI0 λi j=>.bl (g i j)):=by
 intro qQ s σ H x y v u Q I D F h;obtain ⟨i,j,rfl,rfl,q⟩:=h;obtain ⟨t,rfl⟩:=D;obtain ⟨G,rfl⟩:=F;exact B i j t G s _ _ ⟨.bl (g i j),H,I,rfl,q⟩
noncomputable def ZgI (i j:Int):Prop:=0<=j/\j<=1000000/\i.natAbs<2 ^ 64
noncomputable def CMul (i j:Int):Prop:=(-(2 ^ 64)<i/\i<2 ^ 64)\/(-(2 ^ 64)<j/\j<2 ^ 64)
theorem CMul.ok {i j:Int}(h:CMul i j):IntMulOk i j:=by
 rcases h with ⟨h1,h2⟩ | ⟨h1,h2⟩
 ·exact .of_left (intBits_le_64 h1 h2)
 ·exact .of_right (intBits_le_64 h1 h2)
theorem G0:OpR X (binaryOp .Add) (rI0 λi j=>.int (i+j)):=Zf2 λ_ _ _ _ _ _ _ q=>add_int q
theorem U8:OpR X (binaryOp .Sub) (rI0 λi j=>.int (i-j)):=Zf2 λ_ _ _ _ _ _ _ q=>sub_int q
theorem Uq:OpR X (binaryOp .Mult) (rI CMul λi j=>.int (i * j)):=opI λ_ _ _ _ _ _ _ B q=>mul_int q B.ok
theorem Js:OpR X (binaryOp .Mod) (rI (λ_ j=>0<j) λi j=>.int (i % j)):=opI λi j _ _ _ _ _ B q=>by
 have h1:(0:Int)<j:=B;exact mod_int' (by lia) (by rw [Int.fmod_eq_emod_of_nonneg i (by lia)];exact q)
theorem Wf:OpR X (binaryOp .Pow) (rI ZgI λi j=>.int (i ^ j.toNat)):=opI λ_ _ _ _ _ _ _ B q=>pow_int_small B.1 B.2.1 B.2.2 q
noncomputable def Zf3:V->V->Bool
 | .non,.non=>true | .non,.int _=>true | .int _,.non=>true | .non,.bl _=>true | .bl _,.non=>true | .non,.str _=>true | .str _,.non=>true
 | .int _,.int _=>true | .bl _,.bl _=>true | .str _,.str _=>true | .byt _,.byt _=>true
 | .int _,.str _=>true | .str _,.int _=>true | .bl _,.str _=>true | .str _,.bl _=>true
 | _,_=>false
noncomputable def rEq:R2:=λx y H Q=>Zf3 x y=true/\Q (.bl (decide (x=y))) H
noncomputable def rNe:R2:=λx y H Q=>Zf3 x y=true/\Q (.bl (!decide (x=y))) H
theorem Zp {i j:Int}:decide (V.int i=V.int j)=(i == j):=by
 rw [Bool.eq_iff_iff];simp
theorem ZbX {i j:Bool}:decide (V.bl i=V.bl j)=(i == j):=by
 rw [Bool.eq_iff_iff];simp
theorem Zq {i j:Str}:decide (V.str i=V.str j)=(i == j):=by
 rw [Bool.eq_iff_iff];simp
theorem Zr {i j:Array UInt8}:decide (V.byt i=V.byt j)=(i.toList == j.toList):=by
 rw [Bool.eq_iff_iff];cases i;cases j;simp
theorem GR {qQ:List (Addr×Obj)}{σ:St}{H:Hp}{s:Shared}{Q:VK}{k B:Bool}(I:Inv X qQ σ H s)(q:Q (.bl k) H)(e:k=B):EP X qQ σ Q (.bool B) s:=by
 subst e;exact ⟨.bl k,H,I,rfl,q⟩
theorem JK:OpR X (compareOp .Eq) rEq:=by
 intro qQ s σ H x y v u Q I G B h;obtain ⟨F,q⟩:=h;cases x with
 | non=>
  cases G;cases y with
  | non=>cases B;exact PySem.EqNone.eq_none_none (GR I q (by simp))
  | bl j=>cases B;exact PySem.EqNone.eq_none_bool (GR I q (by simp))
  | int j=>obtain ⟨D,rfl⟩:=B;exact PySem.EqNone.eq_none_int (GR I q (by simp))
  | str j=>obtain ⟨D,rfl⟩:=B;exact PySem.EqNone.eq_none_str (GR I q (by simp))
  | _=>exact absurd (show false=true from F) Yal
 | bl i=>
  cases G;cases y with
  | non=>cases B;exact PySem.EqNone.eq_bool_none (GR I q (by simp))
  | bl j=>cases B;exact eq_bool (GR I q ZbX)
  | str j=>obtain ⟨D,rfl⟩:=B;exact PySem.EqMixed.eq_bool_str (GR I q (by simp))
  | _=>exact absurd (show false=true from F) Yal
 | int i=>
  obtain ⟨t,rfl⟩:=G;cases y with
  | non=>cases B;exact PySem.EqNone.eq_int_none (GR I q (by simp))
  | int j=>obtain ⟨D,rfl⟩:=B;exact eq_int (GR I q Zp)
  | str j=>obtain ⟨D,rfl⟩:=B;exact PySem.EqMixed.eq_int_str (GR I q (by simp))
  | _=>exact absurd (show false=true from F) Yal
 | str i=>
  obtain ⟨t,rfl⟩:=G;cases y with
  | non=>cases B;exact PySem.EqNone.eq_str_none (GR I q (by simp))
  | bl j=>cases B;exact PySem.EqMixed.eq_str_bool (GR I q (by simp))
  | int j=>obtain ⟨D,rfl⟩:=B;exact PySem.EqMixed.eq_str_int (GR I q (by simp))
  | str j=>obtain ⟨D,rfl⟩:=B;exact eq_str (GR I q Zq)
  | _=>exact absurd (show false=true from F) Yal
 | byt i=>
  obtain ⟨t,rfl⟩:=G;cases y with
  | byt j=>obtain ⟨D,rfl⟩:=B;exact W.eq_bytes (GR I q Zr)
  | _=>exact absurd (show false=true from F) Yal
 | _=>cases y <;> exact absurd (show false=true from F) Yal
theorem Zcv:OpR X (compareOp .NotEq) rNe:=by
 intro qQ s σ H x y v u Q I G B h;obtain ⟨F,q⟩:=h;cases x with
 | non=>
  cases G;cases y with
  | non=>cases B;exact PySem.EqNone.ne_none_none (GR I q (by simp))
  | bl j=>cases B;exact PySem.EqNone.ne_none_bool (GR I q (by simp))
  | int j=>obtain ⟨D,rfl⟩:=B;exact PySem.EqNone.ne_none_int (GR I q (by simp))
  | str j=>obtain ⟨D,rfl⟩:=B;exact PySem.EqNone.ne_none_str (GR I q (by simp))
  | _=>exact absurd (show false=true from F) Yal
 | bl i=>
  cases G;cases y with
  | non=>cases B;exact PySem.EqNone.ne_bool_none (GR I q (by simp))
  | bl j=>cases B;exact ne_bool (GR I q (Ybi not ZbX))
  | str j=>obtain ⟨D,rfl⟩:=B;exact PySem.EqMixed.ne_bool_str (GR I q (by simp))
  | _=>exact absurd (show false=true from F) Yal
 | int i=>
  obtain ⟨t,rfl⟩:=G;cases y with
  | non=>cases B;exact PySem.EqNone.ne_int_none (GR I q (by simp))
  | int j=>obtain ⟨D,rfl⟩:=B;exact ne_int (GR I q (Ybi not Zp))
  | str j=>obtain ⟨D,rfl⟩:=B;exact PySem.EqMixed.ne_int_str (GR I q (by simp))
  | _=>exact absurd (show false=true from F) Yal
 | str i=>
  obtain ⟨t,rfl⟩:=G;cases y with
  | non=>cases B;exact PySem.EqNone.ne_str_none (GR I q (by simp))
  | bl j=>cases B;exact PySem.EqMixed.ne_str_bool (GR I q (by simp))
  | int j=>obtain ⟨D,rfl⟩:=B;exact PySem.EqMixed.ne_str_int (GR I q (by simp))
  | str j=>obtain ⟨D,rfl⟩:=B;exact ne_str (GR I q (Ybi not Zq))
  | _=>exact absurd (show false=true from F) Yal
 | byt i=>
  obtain ⟨t,rfl⟩:=G;cases y with
  | byt j=>obtain ⟨D,rfl⟩:=B;exact W.ne_bytes (GR I q (Ybi not Zr))
  | _=>exact absurd (show false=true from F) Yal
 | _=>cases y <;> exact absurd (show false=true from F) Yal
theorem UG:OpR X (compareOp .Lt) (rI0 λi j=>.bl (decide (i<j))):=ZeH λ_ _ _ _ _ _ _ q=>lt_int q
theorem ZaX:OpR X (compareOp .LtE) (rI0 λi j=>.bl (decide (i<=j))):=ZeH λ_ _ _ _ _ _ _ q=>le_int q
theorem Zcw:OpR X (compareOp .Gt) (rI0 λi j=>.bl (decide (j<i))):=ZeH λ_ _ _ _ _ _ _ q=>gt_int q
theorem YH:OpR X (compareOp .GtE) (rI0 λi j=>.bl (decide (j<=i))):=ZeH λ_ _ _ _ _ _ _ q=>ge_int q
theorem ZbY:OpR X (compareOp .Is) (λx y H Q=>y=.non/\Q (.bl (decide (x=.non))) H):=by
 intro qQ s σ H x y v u Q I B D h;obtain ⟨rfl,q⟩:=h;cases D;refine is_none_gen (GR I q ?_);cases x <;> first
  | (cases B;rfl)
  | (obtain ⟨t,rfl⟩:=B;rfl)
theorem Zcx:OpR X (compareOp .IsNot) (λx y H Q=>y=.non/\Q (.bl (!decide (x=.non))) H):=by
 intro qQ s σ H x y v u Q I B D h;obtain ⟨rfl,q⟩:=h;cases D;refine isnot_none_gen (GR I q ?_);cases x <;> first
  | (cases B;rfl)
  | (obtain ⟨t,rfl⟩:=B;rfl)
theorem Gx (b:Expr){op:CmpOp}(h:op≠.In:=by decide)(h2:op≠.NotIn:=by decide):behindInMarks op b=false:=by
 have q:(op == CmpOp.In)=false:=by cases op <;> first | rfl | exact absurd rfl h
 have B:(op == CmpOp.NotIn)=false:=by cases op <;> first | rfl | exact absurd rfl h2
 cases b <;> simp [behindInMarks,q,B]
theorem JW {op:CmpOp}{r:R2}(B:OpR X (compareOp op) r)(ha:PE X a ta)(D:PE X b tb)(F:behindInMarks op b=false):PE X (.Compare a [op] [b] pos) (tOp r ta tb):=by
 intro qQ s σ H Q I h;exact wpAny_Compare1 (ZeW ha D I h λv u G x y H2 L N O q=>B qQ G σ H2 x y v u Q L N O q) F
noncomputable def ZdC (t:TE):TT:=λσ H Q=>t σ H λx H'=>∃k,x=.bl k/\Q k H'
theorem Gm {op:CmpOp}{r:R2}(q:OpR X (compareOp op) r)(ha:PE X a ta)(B:PE X b tb)(D:behindInMarks op b=false):PT X (.Compare a [op] [b] pos) (ZdC (tOp r ta tb)):=by
 intro qQ s σ H Q I h;refine wpAny_isTrue_Compare1 (thG (ha qQ s σ H _ I h) λv F x H1 G L N=>thG (B qQ F σ H1 _ G N) λu O y H2 U Y Z=>
  thG (q qQ O σ H2 x y v u _ U L Y Z) λc s3 z H3 I3 r3 ⟨k,e,q3⟩=>?_) D
 subst e;cases r3;exact Ycn ⟨H3,I3,q3⟩
noncomputable def ZbZ (r B:R2)(ta tb tc:TE):TE:=λσ H Q=>ta σ H λx H1=>tb σ H1 λy H2=>r x y H2 λz q=>∃k,z=.bl k /\
 (if k=true then tc σ q λD F=>B y D F Q else Q (.bl false) q)
theorem ZaY {op q:CmpOp}{r D:R2}(O:OpR X (compareOp op) r)(B:OpR X (compareOp q) D)(ha:PE X a ta)(U:PE X b tb)(Y:PE X c tc)(Z:lastMarks [op,q] [b,c]=false:=by with_unfolding_all rfl):PE X (.Compare a [op,q] [b,c] pos) (ZbZ r D ta tb tc):=by
 intro qQ s σ H Q I h;refine Compare_chain (thG (ha qQ s σ H _ I h) λv s1 x H1 I1 r1 q1=>chain_link (thG (U qQ s1 σ H1 _ I1 q1) λu s2 y H2 I2 F q2=>
  thG (O qQ s2 σ H2 x y v u _ I2 r1 F q2) λd s3 z G L r3 ⟨k,e,N⟩=>?_)) Z
 subst e;cases r3;refine Ycn ?_;cases k with
 | false=>exact ite_ff ⟨.bl false,G,L,rfl,N⟩
 | true=>exact ite_tt (chain_last (thG (Y qQ s3 σ G _ L N) λw' s4 z' H4 I4 r4 q4=>B qQ s4 σ H4 y z' u w' Q I4 F r4 q4))
theorem ZaZ {op q:CmpOp}{r D:R2}(O:OpR X (compareOp op) r)(B:OpR X (compareOp q) D)(ha:PE X a ta)(U:PE X b tb)(Y:PE X c tc)(Z:lastMarks [op,q] [b,c]=false:=by with_unfolding_all rfl):PT X (.Compare a [op,q] [b,c] pos) (ZdC (ZbZ r D ta tb tc)):=by
 intro qQ s σ H Q I h;refine isTrue_chain (thG (ha qQ s σ H _ I h) λv s1 x H1 I1 r1 q1=>test_link (thG (U qQ s1 σ H1 _ I1 q1) λu s2 y H2 I2 F q2=>
  thG (O qQ s2 σ H2 x y v u _ I2 r1 F q2) λd s3 z G L r3 ⟨k,e,N⟩=>?_)) Z
 subst e;cases r3;refine Ycn ?_;cases k with
 | false=>
  obtain ⟨k',e',q'⟩:=N;cases e';exact ite_ff ⟨G,L,q'⟩
 | true=>
  refine ite_tt (test_last (thG (Y qQ s3 σ G _ L N) λw' s4 z' H4 I4 r4 q4=>thG (B qQ s4 σ H4 y z' u w' _ I4 F r4 q4) λd' s5 z2 H5 I5 r5 ⟨k2,e2,q5⟩=>?_));subst e2;cases r5;exact Ycn ⟨H5,I5,q5⟩
noncomputable def Zf4 (K:W.Frag)(x:V)(H:Hp)(k:Bool):Prop:=
 match x with
 | .non=>k=false
 | .bl b=>k=b
 | .int i=>k=(i != 0)
 | .str y=>y.length<=sizeLine/\k=((y.length:Int) != 0)
 | .byt y=>y.size<=sizeLine/\k=((y.size:Int) != 0)
 | .ref p=>(∃xs,SqL K H p xs/\k=!xs.isEmpty)\/(∃xs,SqT K H p xs/\k=!xs.isEmpty)\/∃kvs,H p=some (.dK kvs)/\k=!kvs.isEmpty
 | _=>False
theorem U9 {κ:Type}{kvs:List (κ×V)}{vs:List (κ×Value)}(r:KV kvs vs):(!vs.isEmpty)=!kvs.isEmpty:=by
 cases r <;> rfl
theorem Ue {xs:List V}{its:List Value}(r:Vals xs its):(!its.toArray.isEmpty)=!xs.isEmpty:=by
 cases r <;> simp
theorem Ur:(sizeLine:Nat)<2 ^ 63:=by rw [Ybf];decide
theorem ZdD:ZgH X (λx H Q=>∃k,Zf4 X.K x H k/\Q k H):=by
 intro qQ s σ H x v Q I D h;obtain ⟨k,e,q⟩:=h;have Z:=Ur;have hs:sizeLine=16777216:=Ybf;cases x with
 | non=>
  cases D;have B:k=false:=e;subst B;exact truthy_none ⟨H,I,q⟩
 | bl b=>
  cases D;have B:k=b:=e;subst B;exact Ycn ⟨H,I,q⟩
 | int i=>
  obtain ⟨t,rfl⟩:=D;have B:k=(i != 0):=e;subst B;exact PySem.P.truthy_int ⟨H,I,q⟩
 | str y=>
  obtain ⟨t,rfl⟩:=D;obtain ⟨U,B⟩:y.length<=sizeLine/\k=((y.length:Int) != 0):=e;subst B;exact PySem.P.truthy_str (by lia) ⟨H,I.tok _,q⟩
 | byt y=>
  obtain ⟨t,rfl⟩:=D;obtain ⟨U,B⟩:y.size<=sizeLine/\k=((y.size:Int) != 0):=e;subst B;exact W.truthy_bytes (by lia) ⟨H,I.tok _,q⟩
 | ref p=>
  cases D;have B:(∃xs,SqL X.K H p xs/\k=!xs.isEmpty)\/(∃xs,SqT X.K H p xs/\k=!xs.isEmpty)\/∃kvs,H p=some (.dK kvs)/\k=!kvs.isEmpty:=e;rcases B with ⟨xs,F,B⟩ | ⟨xs,F,B⟩ | ⟨kvs,F,B⟩
  ·subst B;obtain ⟨G,r,L,N⟩:=I.list F;have O:=r.length;exact wpAny_truthy_list L.isList (by simp only [Yau];lia) ⟨H,I.tok _,by rw [Ue r];exact q⟩
  ·subst B;obtain ⟨G,r,L,N⟩:=I.tuple F;have O:=r.length;exact truthy_tuple L (by simp only [Yau];lia) ⟨H,I.tok _,by rw [Ue r];exact q⟩
  ·subst B;obtain ⟨N,Y,vs,r,m⟩:kvs.length<=sizeLine/\(p == sysModules)=false/\∃vs,KV kvs vs/\s.heap.DictOf (GL X.prog X.w) p vs:=I.hok p _ F;have O:kvs.length=vs.length:=Ybu r;exact wpAny_truthy_dict Y m (by lia) ⟨H,I.tok _,by rw [U9 r];exact q⟩
 | _=>exact (show False from e).elim
theorem Oi (ha:PE X a ta)(B:∀q,isTrue a X.env q=(do let v <- q;standAt a.pos;holding [v] (truthy v))) :
  PT X a (λσ H Q=>ta σ H λx H'=>∃k,Zf4 X.K x H' k/\Q k H'):=by
 intro qQ s σ H Q I h;exact isTrue_plain (thG (ha qQ s σ H _ I h) λv D x H1 F G L=>ZdD qQ D σ H1 x v Q F G L) (B _)
theorem Zs {x:V}{us:List Value}(r:Vals [x] us):∃u,us=[u]/\RelV x u:=by
 cases r with
 | cons r1 r2=>cases r2;exact ⟨_,rfl,r1⟩
theorem ZeX {x y:V}{us:List Value}(r:Vals [x,y] us):∃u q,us=[u,q]/\RelV x u/\RelV y q:=by
 cases r with
 | cons r1 r2=>
  cases r2 with
  | cons r3 r4=>cases r4;exact ⟨_,_,rfl,r1,r3⟩
theorem Zt (D:X.calm=true):JD X (.builtin "min") (λxs H Q=>∃i j,xs=[.int i,.int j]/\Q (.int (if j<i then j else i)) H):=by
 intro qQ s σ H xs us Q I r h;obtain ⟨i,j,rfl,q⟩:=h;obtain ⟨u,F,rfl,⟨t,rfl⟩,⟨G,rfl⟩⟩:=ZeX r;refine min_two_ints (I.ok.hd D) λh' tk k=>⟨_,H,I.kept k,?_,q⟩;by_cases B:j<i
 ·rw [if_pos B,if_pos B];exact ⟨_,rfl⟩
 ·rw [if_neg B,if_neg B];exact ⟨_,rfl⟩
theorem Zu:JD X (.type "int") (λxs H Q=>(∃i,xs=[.int i]/\Q (.int i) H)\/∃k,xs=[.bl k]/\Q (.int (if k then 1 else 0)) H):=by
 intro qQ s σ H xs us Q I r h;rcases h with ⟨i,rfl,q⟩ | ⟨k,rfl,q⟩
 ·obtain ⟨u,rfl,t,rfl⟩:=Zs r;exact call_int_int ⟨.int i,H,I,⟨_,rfl⟩,q⟩
 ·obtain ⟨u,rfl,B⟩:=Zs r;cases B;exact call_int_bool ⟨.int (if k then 1 else 0),H,I.tok _,⟨_,rfl⟩,q⟩
end
structure ObjM (h:Heap)(x dx C:Addr)(mA:Str->Option Value):Prop where
 obj:h.get? x=some (W.instObj C dx)
 ns:h.Ns1 dx mA
 ne:dx≠x
theorem Zv {h:Heap}{dx:Addr}{mA:Str->Option Value}(n:h.Ns1 dx mA):∃D,h.get? dx=some D/\∀name,W.lookIn name D=some (mA name):=by
 obtain ⟨o,es,ep,F,G,L,_,N⟩:=n;refine ⟨o,F,λname=>?_⟩;have e:=N name;unfold nsFind findBy at e;rw [<-Array.find?_toList] at e;unfold W.lookIn;rw [G];dsimp only;split
 ·rename_i y q;rw [q] at e;exact Ybi some e
 ·rename_i q;rw [q] at e;have a:es.toList.any (·.refKey)=false:=by
   rw [List.any_eq_false];intro y O;obtain ⟨z,t,B⟩:=L y (Array.mem_toList_iff.mp O);simp [DictEntry.refKey,B]
  have U:¬ es.toList.any (·.refKey)=true:=by rw [a];exact Yal
  rw [if_neg U];exact Ybi some e
theorem ObjM.look {h:Heap}{x dx C:Addr}{mA:Str->Option Value}(I:ObjM h x dx C mA):∃q,W.InstAt h x (W.instObj C dx) C (some q)/\∀name,W.lookIn name q=some (mA name):=
 let ⟨q,ho,hl⟩:=Zv I.ns
 ⟨q,⟨I.obj,rfl,rfl,ho⟩,hl⟩
theorem RelO.some_of {v:V}{o:Option Value}(r:RelO (some v) o):∃u,o=some u/\RelV v u:=by
 cases o with
 | none=>exact (show False from r).elim
 | some u=>exact ⟨u,rfl,r⟩
section
variable {P:Program}{w:World}{H H':Hp}{h h':Heap}{a C dx:Addr}{fs fs':List (Str×V)}
theorem Zcy (B:HOk P w H h)(e:H a=some (.ins C dx fs)):∃mA,ObjM h a dx C mA/\(∀f,RelO (fs.lookup f) (mA f))/\PySem.Within mA (fs.map (·.1))/\fs.length<=1000/\H dx=some (.own a):=by
 obtain ⟨d,z,D,F,mA,n,r,q⟩:=(show ObjOk P w H h a (.ins C dx fs) from B a _ e);exact ⟨mA,⟨F,n,D⟩,r,q,z,d⟩
end
structure Cls (K:W.Frag)(C:Addr):Prop where
 pg:W.plainGet K C Str.empty=true
 hd:W.hasDictIn K C=true
 po:W.plainOver K C=true
 sa:W.findIn K (.ref C) "__setattr__" = some (some (.builtin "object.__setattr__"))
theorem Cls.get {K:W.Frag}{C:Addr}(c:Cls K C)(f:Str):W.plainGet K C f=true:=c.pg
section
variable {X:Cx}{qQ:List (Addr×Obj)}{σ:St}{H:Hp}{s:Shared}{A:Around}{E:EX}{Q:EX}{c:Value}{b:Bool}
inductive YI (K:W.Frag)(H:Hp):V->Value->Prop where
 | non:YI K H .non (.type "NoneType")
 | bl (x:Bool):YI K H (.bl x) (.type "bool")
 | int (i:Int):YI K H (.int i) (.type "int")
 | str (x:Str):YI K H (.str x) (.type "str")
 | flt (x:UInt64):YI K H (.flt x) (.type "float")
 | lst {a:Addr} {xs:List V} (e:H a=some (.lst xs)):YI K H (.ref a) (.type "list")
 | frz {a:Addr} {o:Obj} {xs:List V} (e:H a=some (.frz o (.lst xs))):YI K H (.ref a) (.type "list")
 | tup {a:Addr} {xs:List V} (e:H a=some (.tup xs)):YI K H (.ref a) (.type "tuple")
 | dK {a:Addr} {kvs:List (Key×V)} (e:H a=some (.dK kvs)):YI K H (.ref a) (.type "dict")
 | dT {a:Addr} {kvs:List (List Key×V)} (e:H a=some (.dT kvs)):YI K H (.ref a) (.type "dict")
 | ins {a C dx:Addr} {fs:List (Str×V)} (e:H a=some (.ins C dx fs)) (cl:Cls K C) (ha:W.findIn K (.ref C) "__class__" = some (some (.builtin "object.__class__")))
   (hn:W.specialIn K (.builtin "object.__class__") "__get__" = some (some (.builtin "getset_descriptor.__get__"))) (htk:W.takesIn K (.builtin "object.__class__")=some true)
   (hm:W.mroIn K C (.type "object")=some true):YI K H (.ref a) (.ref C)
theorem Zw {x:V}{u t:Value}(I:Inv X qQ σ H s)(B:RelV x u)(ty:YI X.K H x t)(e:W.kitOne X.K t c=some b)(h:∀tk,Q (.bool b) { s with toks:=tk }) :
  wpAny (model X.prog X.w) A (call (.builtin "isinstance") [u,c]) Q E s:=by
 cases ty with
 | non=>cases (show u=Value.none from B);exact Ycs W.kitx_none I.kIn True.intro e (λz=>nomatch z) h
 | bl y=>cases (show u=Value.bool y from B);exact Ycs W.kitx_bool I.kIn True.intro e (λz=>nomatch z) h
 | int i=>obtain ⟨t,q⟩:=(show ∃t,u=Value.int i t from B);cases q;exact Ycs W.kitx_int I.kIn True.intro e (λz=>nomatch z) h
 | str y=>obtain ⟨t,q⟩:=(show ∃t,u=Value.str y t from B);cases q;exact Ycs W.kitx_str I.kIn True.intro e (λz=>nomatch z) h
 | flt y=>obtain ⟨t,q⟩:=(show ∃t,u=Value.float y t from B);cases q;exact Ycs W.kitx_float I.kIn True.intro e (λz=>nomatch z) h
 | @lst a xs ea=>
  cases (show u=Value.ref a from B);obtain ⟨_,_,n,_,h1⟩:=(show ObjOk X.prog X.w H s.heap a (.lst xs) from I.hok a _ ea);exact Ycs W.kitx_list I.kIn ⟨_,h1,rfl⟩ e (λz=>nomatch z) h
 | @frz a ob xs ea=>
  cases (show u=Value.ref a from B);obtain ⟨_,_,_,n,_,h1⟩:=(show ObjOk X.prog X.w H s.heap a (.frz ob (.lst xs)) from I.hok a _ ea);exact Ycs W.kitx_list I.kIn ⟨_,h1,rfl⟩ e (λz=>nomatch z) h
 | @tup a xs ea=>
  cases (show u=Value.ref a from B);obtain ⟨_,_,_,p⟩:=(show ObjOk X.prog X.w H s.heap a (.tup xs) from I.hok a _ ea);obtain ⟨o,h1,h2,_⟩:=p;exact Ycs W.kitx_tuple I.kIn ⟨o,h1,h2⟩ e (λz=>nomatch z) h
 | @dK a kvs ea=>
  cases (show u=Value.ref a from B);obtain ⟨_,_,vs,_,p⟩:=(show ObjOk X.prog X.w H s.heap a (.dK kvs) from I.hok a _ ea);obtain ⟨o,es,ep,h1,h2,_⟩:=p;exact Ycs W.kitx_dict I.kIn ⟨o,h1,h2.1⟩ e (λz=>nomatch z) h
 | @dT a kvs ea=>
  cases (show u=Value.ref a from B);obtain ⟨_,_,xs,_,o,es,ep,h1,h2,_⟩:=(show ObjOk X.prog X.w H s.heap a (.dT kvs) from I.hok a _ ea);exact Ycs W.kitx_dict I.kIn ⟨o,h1,h2.1⟩ e (λz=>nomatch z) h
 | @ins a C dx fs ea cl ha hn htk hm=>
  cases (show u=Value.ref a from B);obtain ⟨mA,O,_⟩:=Zcy I.hok ea;obtain ⟨D,J,_⟩:=O.look;exact Ycs (W.kitx_own (cl.get _) cl.hd ha hn htk hm) I.kIn J e (λz=>nomatch z) h
end
structure Room (k:Nat)(A:Around):Prop where
 hd:A.handled=none
 dp:A.depth+3 * k+5<recursionLimit
 un:A.units+16 * k+200<cLine
theorem Room.mono {j k:Nat}{A:Around}(r:Room k A)(h:j<=k):Room j A:=⟨r.hd,by have:=r.dp;lia,by have:=r.un;lia⟩
theorem Room.deeper {k:Nat}{A:Around}(r:Room (k+1) A)(env:Env):Room k (A.deeper env):=
 ⟨r.hd,by have:=r.dp;show A.depth+1+3 * k+5<_;lia,by have:=r.un;show A.units+3+16 * k+200<_;lia⟩
theorem Room.depth {k:Nat}{A:Around}(r:Room k A):A.depth<recursionLimit:=by have:=r.dp;lia
theorem Room.units {k:Nat}{A:Around}(r:Room k A):A.units+64<cLine:=by have:=r.un;lia
noncomputable def ZgJ:TA:=λ_ H Q=>Q [] H
noncomputable def ZeY (ta:TE)(q:TA):TA:=λσ H Q=>ta σ H λx H1=>q σ H1 λxs H2=>Q (x::xs) H2
section
variable {X:Cx}{e:Expr}{es:List Expr}{te:TE}{t:TA}{pos:Pos}
theorem Gf:PA X [] ZgJ:=λ_ _ _ _ H Q I h=>Calls.spliced_nil ⟨[],H,I,.nil,h⟩
theorem Ga (ha:PE X e te)(q:PA X es t)(B:starEach (e::es) X.env=(false,eval e X.env)::starEach es X.env:=by rfl):PA X (e::es) (ZeY te t):=by
 intro pos qQ s σ H Q I h;rw [B];show wpAny _ _ (spliced ((false,eval e X.env)::backTo pos (starEach es X.env))) _ _ s;refine Calls.spliced_cons (thG (ha qQ s σ H _ I h) λu D x H1 F G L=>?_);exact thG (q pos qQ D σ H1 _ F L) λus Y xs H2 N O U=>⟨x::xs,H2,N,.cons G O,U⟩
noncomputable def ZgK (t:TA):TE:=λσ H Q=>t σ H λxs H1=>xs.length<=sizeLine/\∀p,H1 p=none->Q (.ref p) (upd H1 p (.tup xs))
noncomputable def ZgL (t:TA):TE:=λσ H Q=>t σ H λxs H1=>xs.length<=sizeLine/\∀p,H1 p=none->Q (.ref p) (upd H1 p (.lst xs))
theorem JE {x1}(h:PA X es t):PE X (.Tuple es x1 pos) (ZgK t):=by
 intro qQ s σ H Q I F;refine wpAny_Tuple_spliced (thG (h pos qQ s σ H _ I F) λus B xs H1 D r ⟨z,q⟩=>⟨by rw [<-r.length];exact z,?_⟩);have G:H1 B.heap.objs.size=none:=D.hok.fresh (Yaf _);refine ⟨.ref B.heap.objs.size,upd H1 B.heap.objs.size (.tup xs),D.laid (t':=B.toks) (λb u e=>Yaj _ e) (Yaf _) ?_,rfl,q _ G⟩;exact ⟨z,us,r,⟨_,Ybd _ rfl,rfl,_,rfl⟩⟩
theorem Jh (h:PA X es t):PE X (.List es pos) (ZgL t):=by
 intro qQ s σ H Q I F;refine wpAny_List_spliced (thG (h pos qQ s σ H _ I F) λus B xs H1 D r ⟨z,q⟩=>⟨by rw [<-r.length];exact z,?_⟩);have G:H1 B.heap.objs.size=none:=D.hok.fresh (Yaf _);refine ⟨.ref B.heap.objs.size,upd H1 B.heap.objs.size (.lst xs),D.laid (t':=B.toks) (λb u e=>Yaj _ e) (Yaf _) ?_,rfl,q _ G⟩;exact ⟨z,us,0,r,Ybd _ rfl⟩
end
noncomputable abbrev Sp:=List V->Hp->VK->XK->Prop
noncomputable abbrev CXT:=List Env->Hp->Shared->XK->Value->Shared->Prop
structure ZeI (P:Program)(w:World)(K:W.Frag)(mg:Str->Option Value)(base:Heap)(A:Around)(outer:List Env)(s:Shared)(H:Hp):Prop where
 frames:A.frames=some outer
 mod:Mod K mg base
 bs:∀b o,base.get? b=some o->s.heap.get? b=some o/\H b=none
 bsz:base.objs.size<=s.heap.objs.size
 funs:s.heap.FunFrames base outer
 frf:∀b∈frs outer,H b=none
 hok:HOk P w H s.heap
 bare:AllBare s.gens
noncomputable def CE (outer:List Env)(P:Program)(w:World)(H:Hp)(s:Shared)(Q:VK)(u:Value)(s':Shared):Prop:=
 ∃v H',s'.os=s.os/\AllBare s'.gens/\Un (frs outer) [] H H' s.heap s'.heap/\HOk P w H' s'.heap/\RelV v u/\Q v H'
noncomputable def CR (CX:CXT)(outer:List Env)(P:Program)(w:World)(H:Hp)(s:Shared)(Q:VK)(E:XK)(r:Result)(s':Shared):Prop:=
 match r with
 | .ok (.ret u)=>CE outer P w H s Q u s'
 | .ok _=>False
 | .error e=>CX outer H s E e s'
structure GV (P:Program)(w:World)(K:W.Frag)(mg:Str->Option Value)(base:Heap)(CX:CXT)(k:Nat)(f:Addr)(fd:FuncData)(ps:List Str)(sp:Sp):Prop where
 len:∀vs H Q E,sp vs H Q E->vs.length=ps.length
 run:∀(A:Around)(outer:List Env)(s:Shared)(H:Hp)(args:Args)(us:List Value)(vs:List V)(Q:VK)(E:XK),Room k A->ZeI P w K mg base A outer s H->BindsTo s fd args (ps.zip us)->Vals vs us->sp vs H Q E ->
  codeAny (model P w) A (.call (.ref f) args) (CR CX outer P w H s Q E) s
section
variable {X:Cx}{qQ:List (Addr×Obj)}{σ:St}{H:Hp}{s s':Shared}
theorem Inv.env0 (I:Inv X qQ σ H s):ZeI X.prog X.w X.K X.mg X.base X.A X.stack s H:=
 ⟨I.ok.frames,I.ok.mod,I.bs,Ybc I.ok.bsz I.sz,I.stack,I.stkFree,I.hok,I.bare⟩
theorem Inv.after {Q:VK}{u:Value}(I:Inv X qQ σ H s)(h:CE X.stack X.prog X.w H s Q u s'):EP X qQ σ Q u s':=by
 obtain ⟨v,H',G,B,un,D,r,q⟩:=h;obtain ⟨L,g,d,t,F⟩:=s';obtain rfl:F=s.os:=G;exact ⟨v,H',I.call (h':=L) (g':=g) (d':=d) (t':=t) (ch:=[]) un D B (λb z=>absurd z (by simp)),r,q⟩
end
noncomputable def ZeZ (sp:Sp)(dvs:List V)(E:XK)(t:TA):TE:=λσ H Q=>t σ H λvs H1=>sp (vs++dvs) H1 Q E
noncomputable def Binds (K:W.Frag)(fd:FuncData)(ps:List Str)(ds:List Value):Prop:=
 ∀(s:Shared)(us:List Value),K.In s.heap->(us++ds).length=ps.length->BindsTo s fd ⟨us,[]⟩ (ps.zip (us++ds))
theorem Binds.all {K:W.Frag}{fd:FuncData}{ps:List Str}(h:∀us:List Value,us.length=ps.length->bindArgs fd ⟨us,[]⟩=pure (ps.zip us)):Binds K fd ps []:=λs us _ q=>by
 rw [Ycg] at q ⊢;exact .of_eq (h us q)
noncomputable def Wg (CX:CXT)(X:Cx)(E:XK):Prop:=∀(qQ:List (Addr×Obj))(σ:St)(H:Hp)(s:Shared)(e:Value)(s':Shared),Inv X qQ σ H s->CX X.stack H s E e s'->X.xe e s'
section
variable {X:Cx}{CX:CXT}{k:Nat}{f C:Addr}{fd:FuncData}{ps:List Str}{sp:Sp}{dvs:List V}{ds:List Value}{E:XK}{x m:Str}{p pos apos:Pos}{e o:Expr}{es:List Expr}{ta:TE}{t:TA}
theorem ZdE {qQ:List (Addr×Obj)}{σ:St}{H:Hp}{s:Shared}{Q:VK}{us:List Value}{vs:List V}(F:GV X.prog X.w X.K X.mg X.base CX k f fd ps sp)(D:Room k X.A)(G:Binds X.K fd ps ds)(L:Vals dvs ds)(N:Wg CX X E)(I:Inv X qQ σ H s)(r:Vals vs us)(h:sp (vs++dvs) H Q E):wpAny (model X.prog X.w) X.A (call (.ref f) us) (EP X qQ σ Q) X.xe s:=by
 have B:Vals (vs++dvs) (us++ds):=r.append L;have O:(us++ds).length=ps.length:=by rw [<-B.length];exact F.len _ _ _ _ h
 refine wpAny_call (codeAny_mono (F.run X.A X.stack s H ⟨us,[]⟩ (us++ds) (vs++dvs) Q E D I.env0 (G s us I.kIn O) B h) λr s' q=>?_);cases r with
 | error e=>exact N qQ σ H s e s' I q
 | ok fl=>
  cases fl with
  | ret u=>exact I.after q
  | next=>exact False.elim q
  | brk=>exact False.elim q
  | cont=>exact False.elim q
theorem Gk (F:GV X.prog X.w X.K X.mg X.base CX k f fd ps sp)(L:Room k X.A)(N:Gl X x)(O:X.mg x=some (.ref f))(U:W.keepIn X.K (.ref f)=true)(Y:Binds X.K fd ps ds)(Z:Vals dvs ds)(hx:Wg CX X E)(ha:PA X (e::es) t)(B:(x == ("__debug__" : Str))=false:=by decide)(he:starEach (e::es) X.env=(false,eval e X.env)::starEach es X.env:=by rfl)(D:(backTo pos (starEach es X.env)).any (·.1)=false:=by rfl) :
  PE X (.Call (.Name x p) (e::es) [] pos) (ZeZ sp dvs E t):=by
 intro qQ s σ H Q I h;refine wpAny_Call_Name_kw (Xa I N O ?_ B);refine W.callWith_K (h₀:=X.base) I.ok.mod.kin U (thG (ha pos qQ s σ H _ I h) λus s1 vs H1 G r q=>⟨G.kIn,?_⟩) he D;exact ZdE F L Y Z hx G r q
end
structure Gu (N P:List Str)(sc:Scope):Prop where
 kind:sc.kind=.function
 co:sc.isCoroutine=false
 gen:sc.isGenerator=false
 nd:N.Nodup
 pre:N.take P.length=P
 par:∀x∈P,sc.names.lookup x=some .local\/sc.names.lookup x=some .cell
 nofree:∀y∈sc.names,y.2≠.free
theorem Wi {q:Str->Option NameKind}{x:Str}:∀{binds:List (Str×Value)}{m:Str->Option Value},(∀v,(x,v) ∉ binds)->bindL q binds m x=m x
 | [],_,_=>rfl
 | (n,v)::r,m,h=>by
  unfold bindL;rw [Wi λw B=>h w (Ybr _ B)];split
  ·have:x≠n:=by rintro rfl;exact h v Ybk
   simp [this]
  ·rfl
theorem Wj {q:Str->Option NameKind}{x:Str}:∀{binds:List (Str×Value)}{m:Str->Option Value},(∀v,(x,v) ∉ binds)->bindC q binds m x=m x
 | [],_,_=>rfl
 | (n,v)::r,m,h=>by
  unfold bindC;rw [Wj λw B=>h w (Ybr _ B)];split
  ·rfl
  ·have:x≠n:=by rintro rfl;exact h v Ybk
   simp [this]
theorem Wk {kindOf:Str->Option NameKind}{x:Str}{v:Value}:∀{P:List Str}{vs:List Value}{i:Nat}{m:Str->Option Value},P.Nodup->P[i]?=some x->vs[i]?=some v->kindOf x=some .local ->
  bindL kindOf (P.zip vs) m x=some v
 | [],_,_,_,_,h,_,_=>by simp at h
 | _::_,[],_,_,_,_,h,_=>by simp at h
 | p::P,w::vs,0,m,nd,h1,h2,hk=>by
  simp at h1 h2;subst h1;subst h2;show bindL kindOf ((p,w)::P.zip vs) m p=_;unfold bindL;rw [Wi λv hv=>(List.nodup_cons.mp nd).1 (List.of_mem_zip hv).1,if_pos hk];simp
 | p::P,w::vs,i+1,m,nd,h1,h2,hk=>by
  show bindL kindOf ((p,w)::P.zip vs) m x=_;unfold bindL;exact Wk (i:=i) (List.nodup_cons.mp nd).2 (by simpa using h1) (by simpa using h2) hk
theorem Wl {kindOf:Str->Option NameKind}{x:Str}{v:Value}:∀{P:List Str}{vs:List Value}{i:Nat}{m:Str->Option Value},P.Nodup->P[i]?=some x->vs[i]?=some v->kindOf x≠some .local ->
  bindC kindOf (P.zip vs) m x=some v
 | [],_,_,_,_,h,_,_=>by simp at h
 | _::_,[],_,_,_,_,h,_=>by simp at h
 | p::P,w::vs,0,m,nd,h1,h2,hk=>by
  simp at h1 h2;subst h1;subst h2;show bindC kindOf ((p,w)::P.zip vs) m p=_;unfold bindC;rw [Wj λv hv=>(List.nodup_cons.mp nd).1 (List.of_mem_zip hv).1,if_neg hk];simp
 | p::P,w::vs,i+1,m,nd,h1,h2,hk=>by
  show bindC kindOf ((p,w)::P.zip vs) m x=_;unfold bindC;exact Wl (i:=i) (List.nodup_cons.mp nd).2 (by simpa using h1) (by simpa using h2) hk
noncomputable def start (N:List Str)(vs:List V):St:=vs.map some++List.replicate (N.length-vs.length) none
noncomputable def ZaQ (CX:CXT)(P:Program)(w:World)(K:W.Frag)(mg:Str->Option Value)(base:Heap)(N:List Str)(qual:Str)(scope:Scope)(f:Addr)(cd:Value)(A:Around)(outer:List Env)(s:Shared)(H:Hp)(E:XK):Cx where
 prog:=P
 w:=w
 K:=K
 mg:=mg
 base:=base
 A:=A.deeper (envOfC qual scope s.heap.objs.size f cd)
 N:=N
 s₀:=s
 H₀:=H
 env:=envOfC qual scope s.heap.objs.size f cd
 outer:=outer
 stack:=envOfC qual scope s.heap.objs.size f cd::outer
 ex:=[]
 calm:=true
 fn:=λ_=>true
 pn:=[]
 xe:=λe s'=>wpAny (model P w) (A.deeper (envOfC qual scope s.heap.objs.size f cd)) (leaving (envOfC qual scope s.heap.objs.size f cd) e) (λ_ s''=>CX outer H s E e s'') (λe' s''=>CX outer H s E e' s'') s'
theorem XQ {B:Scope}{n:Nat}{x:Str}(h:B.names.lookup x=some .cell):∃c,(cellsFrom n B.names []).lookup x=some c:=by
 have q:=W.cellsFrom_some B.names n [] (.inl h);exact Yep.mp q
theorem Zx {CX:CXT}{P:Program}{w:World}{K:W.Frag}{mg:Str->Option Value}{base:Heap}{N ps:List Str}{B:Str}{scope:Scope}{f:Addr}{U:Value}{A:Around}{outer:List Env}{s Y:Shared}{H:Hp}{E:XK}{us:List Value}{vs:List V}(S:Gu N ps scope)(hd:A.handled=none)(D:ZeI P w K mg base A outer s H)(hl:vs.length=ps.length)(r:Vals vs us)(x:InCallC s s.heap.objs.size (bindL (envOfC B scope s.heap.objs.size f U).kindOf (ps.zip us) λ_=>none) (cellsFrom (s.heap.objs.size+1) scope.names []) (bindC (envOfC B scope s.heap.objs.size f U).kindOf (ps.zip us) λ_=>none) Y) :
  Inv (ZaQ CX P w K mg base N B scope f U A outer s H E) [] (start N vs) H Y:=by
 have aa:ps.length<=N.length:=by have:=Ybi List.length S.pre;rw [Ybj] at this;lia
 obtain ⟨h1,tk,rfl,Z⟩:=x.done;have F:∀b:Addr,b ∉ (ZaQ CX P w K mg base N B scope f U A outer s H E).ex:=λb z=>absurd (show b∈([]:List Addr) from z) (by simp);refine ⟨⟨D.mod,S.kind,rfl,rfl,Yaf _,λy z c h1 h2=>?_,λy G=>?_,λy c _ h=>?_,λ_=>hd,Around.frames_deeper D.frames,.inr ⟨rfl,rfl⟩,λb z=>absurd z (F b),D.bs,D.bsz,λb _ _=>F b,λb z=>absurd z (F b),D.funs,D.frf⟩,
  rfl,D.bare,Un.kept Z,⟨_,x.toInCall.ns,λi y v h1 h2 h3=>?_⟩,λy c h=>⟨_,x.cell y c h⟩,D.hok.fresh (Yaf _),λy c h=>?_,λp L=>absurd (show p∈([]:List (Addr×Obj)) from L) (by simp),D.hok.kept Z,?_⟩
 ·exact name_of_addr x.apart (Ycy h1) (Ycy h2)
 ·have G:scope.names.lookup y=some .cell\/scope.names.lookup y=some .free:=G;rcases G with G | G
  ·exact XQ G
  ·exact absurd rfl (S.nofree _ (Ycy G))
 ·exact Ybw (x.above y c (Ycy h))
 ·have hi:i<vs.length:=by
   unfold start at h2;by_cases hi:i<vs.length
   ·exact hi
   ·rw [Ydq (by simpa using hi)] at h2;rw [List.getElem?_replicate] at h2;split at h2 <;> cases h2
  have ha:vs[i]?=some v:=by
   unfold start at h2;rw [Ydr (by simpa using hi),Yaw] at h2;cases e:vs[i]? with
   | none=>rw [e] at h2;cases h2
   | some a=>rw [e] at h2;cases h2;rfl
  obtain ⟨u,hu,rv⟩:=r.get ha;have L:ps[i]?=some y:=by
   rw [<-S.pre,List.getElem?_take_of_lt (by lia)];exact h1
  have O:ps.Nodup:=by rw [<-S.pre];exact S.nd.sublist (List.take_sublist _ _)
  refine ⟨u,rv,?_⟩;rcases S.par y (Ybb L) with k | k
  ·exact .inl ⟨k,Wk O L hu k⟩
  ·obtain ⟨c,e⟩:=XQ (n:=s.heap.objs.size+1) k;refine .inr ⟨.inl k,c,e,?_⟩;have q:=x.cell y c e;rw [Wl O L hu (by show scope.names.lookup y≠_;rw [k];decide)] at q;exact q
 ·exact D.hok.fresh (Ybw (x.above y c (Ycy h)))
 ·unfold start;show _=N.length;rw [Yaq,Yab,List.length_replicate]
  lia
theorem ZdF {CX:CXT}{P:Program}{w:World}{K:W.Frag}{mg:Str->Option Value}{base:Heap}{k:Nat}{f:Addr}{name B:Str}{F:Arguments}{body:List Stmt}{scope:Scope}{dV kV O pm D ct oc:Value}{an od:Option Addr}{aa:Array (Option Value)}{N ps:List Str}{sp:Sp}(lk:K.lookup f=some ⟨oc,od,.func (W.fnOf name B F body scope dV kV O pm an D ct),aa⟩)(ab:W.codeIn K D B=true)(S:Gu N ps scope)(len:∀vs H Q E,sp vs H Q E->vs.length=ps.length)(jZ:∀(A:Around)(outer:List Env)(s:Shared)(H:Hp)(vs:List V)(Q:VK)(E:XK),Room k (A.deeper (envOfC B scope s.heap.objs.size f D))->sp vs H Q E ->
   ∃t,PSs (ZaQ CX P w K mg base N B scope f D A outer s H E) body t/\t { nx:=λ_ H'=>Q .non H',rt:=Q } (start N vs) H) :
  GV P w K mg base CX (k+1) f (W.fnOf name B F body scope dV kV O pm an D ct) ps sp:=by
 refine ⟨len,λA outer s H ad us vs Q E hr U hb r Y=>?_⟩;have hl:=len _ _ _ _ Y;have KX:K.In s.heap:=U.mod.kin.keeps λb o e=>(U.bs b o e).1;have ac:s.heap.NoLimit:=U.mod.nolimit.keeps λb o e=>(U.bs b o e).1;have G:∀y∈ps.zip us,scope.names.lookup y.1=some .local\/(scope.names.lookup y.1=some .cell/\((cellsFrom (s.heap.objs.size+1) scope.names []).lookup y.1).isSome=true):=λ⟨n,v⟩ hy=>by
  rcases S.par n (List.of_mem_zip hy).1 with q | q
  ·exact .inl q
  ·exact .inr ⟨q,W.cellsFrom_some _ _ _ (.inl q)⟩
 refine codeAny_call_function hr.depth (KX _ _ lk) rfl S.co S.gen rfl (W.codeRec_of KX ab) (hb _ _ _ _ ?_);refine wpAny_newFunctionEnv_cells S.kind G λae he s1 x=>?_;subst he;refine ⟨ac.keeps x.toInCall.keep,codeAny_func ?_⟩;obtain ⟨t,ht,hq⟩:=jZ A outer s H vs Q E (hr.deeper _) Y;have I:Inv (ZaQ CX P w K mg base N B scope f D A outer s H E) [] (start N vs) H s1:=Zx S hr.hd U hl r x;refine Ybx (ht [] s1 (start N vs) H _ I hq) (λfl s' L=>?_) λe s' L=>L;have fin:∀{Z:St}{H':Hp}{v:V}{u:Value},Inv (ZaQ CX P w K mg base N B scope f D A outer s H E) [] Z H' s'->RelV v u->Q v H'->CE outer P w H s Q u s':=
  λ{Z H' v u} J rv q=>⟨v,H',J.os,J.bare,J.base,J.hok,rv,q⟩
 cases fl with
 | ret u=>
  obtain ⟨v,Z,H',J,rv,q⟩:=L;exact fin J rv q
 | next=>
  obtain ⟨Z,H',J,q⟩:=L;exact fin (v:=V.non) (u:=Value.none) J rfl q
 | brk=>
  obtain ⟨_,_,_,q⟩:=L;exact False.elim q
 | cont=>
  obtain ⟨_,_,_,q⟩:=L;exact False.elim q
section
variable {X:Cx}{x:Str}{p pos:Pos}{e:Expr}{es:List Expr}{t:TA}{id T:String}{r:List V->Hp->VK->Prop}
noncomputable def tCB (r:List V->Hp->VK->Prop)(t:TA):TE:=λσ H Q=>t σ H λvs H1=>r vs H1 Q
theorem GA (D:JD X (.builtin id) r)(F:Gl X x)(G:X.mg x=none)(L:bootBuiltins x=some (.builtin id))(ha:PA X (e::es) t)(N:x ≠ "__name__" := by decide)(q:(x == ("__debug__" : Str))=false:=by decide)(O:starEach (e::es) X.env=(false,eval e X.env)::starEach es X.env:=by rfl)(B:(backTo pos (starEach es X.env)).any (·.1)=false:=by rfl):PE X (.Call (.Name x p) (e::es) [] pos) (tCB r t):=by
 intro qQ s σ H Q I h;refine wpAny_Call_Name_kw (U7 I F G L ?_ N q);exact PyProof.Rows.callWith_builtin1 (thG (ha pos qQ s σ H _ I h) λus U vs H1 Y Z q1=>D qQ U σ H1 vs us Q Y Z q1) O B
theorem G8 (D:JD X (.type T) r)(F:Gl X x)(G:X.mg x=none)(L:bootBuiltins x=some (.type T))(ha:PA X (e::es) t)(N:x ≠ "__name__" := by decide)(q:(x == ("__debug__" : Str))=false:=by decide)(O:starEach (e::es) X.env=(false,eval e X.env)::starEach es X.env:=by rfl)(B:(backTo pos (starEach es X.env)).any (·.1)=false:=by rfl):PE X (.Call (.Name x p) (e::es) [] pos) (tCB r t):=by
 intro qQ s σ H Q I h;refine wpAny_Call_Name_kw (U7 I F G L ?_ N q);exact Yew (thG (ha pos qQ s σ H _ I h) λus U vs H1 Y Z q1=>D qQ U σ H1 vs us Q Y Z q1) O B
end
end L2
namespace HT
open PySem PyProof.Rows
section
variable {prog:Program}{w:World}{A:Around}{E:EX}{s:Shared}
noncomputable def sIx (n d:Nat):Option Int->Nat
 | none=>d
 | some v=>if v<0 then (v+(n:Int)).toNat else min v.toNat n
theorem sIx_none (n d:Nat):sIx n d none=d:=rfl
theorem sIx_nat (n d k:Nat):sIx n d (some (k:Int))=min k n:=by
 show (if (k:Int)<0 then ((k:Int)+(n:Int)).toNat else min (k:Int).toNat n)=min k n;rw [if_neg (by lia),Ybn]
end
end HT
namespace L2
open PySem PySem.Spec PyProof.Rows
noncomputable abbrev TO:=St->Hp->(Option Int->Hp->Prop)->Prop
noncomputable def PO (X:Cx)(e:Option Expr)(t:TO):Prop:=
 ∀(qQ:List (Addr×Obj))(s:Shared)(σ:St)(H:Hp)(Q:Option Int->Hp->Prop),Inv X qQ σ H s->t σ H Q ->
  wpAny (model X.prog X.w) X.A (evalPart e X.env) (λu s'=>∃o H',Inv X qQ σ H' s'/\IsPart u o/\Q o H') X.xe s
noncomputable def Zcz:TO:=λ_ H Q=>Q none H
noncomputable def Ze0 (t:TE):TO:=λσ H Q=>t σ H λx H1=>∃i,x=.int i/\Q (some i) H1
theorem Oj {ns:List Int}:∀{us:List Value},Vals (ns.map V.int) us->IntsAre us ns:=by
 induction ns with
 | nil=>intro us r;rw [List.map_nil] at r;cases r;exact .nil
 | cons n ns ih=>
  intro us r;rw [Ybe] at r;cases r with
  | cons r1 r2=>
   obtain ⟨t,e⟩:=r1;subst e;exact .cons n t (ih r2)
section
variable {X:Cx}{e:Expr}{te:TE}{lo hi:Option Expr}{tl th:TO}{pos p2:Pos}
theorem Vt:PO X none Zcz:=by
 intro qQ s σ H Q I h;rw [evalPart_none];exact Yac ⟨none,H,I,.none,h⟩
theorem OG (h:PE X e te):PO X (some e) (Ze0 te):=by
 intro qQ s σ H Q I B;rw [evalPart_some];refine thG (h qQ s σ H _ I B) λu L x H1 D F G=>?_;obtain ⟨i,rfl,q⟩:=G;obtain ⟨t,rfl⟩:=F;exact ⟨some i,H1,D,.int i t,q⟩
noncomputable def SlR (X:Cx)(r:V->Option Int->Option Int->Hp->VK->Prop):Prop:=
 ∀(qQ:List (Addr×Obj))(s:Shared)(σ:St)(H:Hp)(x:V)(v vl vu:Value)(lo hi:Option Int)(sl:Addr)(Q:VK),Inv X qQ σ H s->RelV x v->s.heap.IsSliceOf sl vl vu .none->IsPart vl lo->IsPart vu hi->r x lo hi H Q ->
  ∃T id,typeLookup (.type T) "__getitem__" = pure (some (.builtin id))/\s.TypeIs v T/\wpAny (model X.prog X.w) X.A (getItem v (.ref sl)) (EP X qQ σ Q) X.xe s
noncomputable def tSl (r:V->Option Int->Option Int->Hp->VK->Prop)(te:TE)(tl th:TO):TE:=λσ H Q=>te σ H λx H1=>tl σ H1 λl H2=>th σ H2 λu q=>r x l u q Q
theorem OM {r:V->Option Int->Option Int->Hp->VK->Prop}(L:SlR X r)(N:PE X e te)(O:PO X lo tl)(U:PO X hi th):PE X (.Subscript e (.Slice lo hi none p2) pos) (tSl r te tl th):=by
 intro qQ s σ H Q I h;refine Subscript_ (thG (N qQ s σ H _ I h) λv Y x H1 Z r1 q1=>?_);refine wpAny_Slice (thG (O qQ Y σ H1 _ Z q1) λD s2 l H2 I2 pl q2=>thG (U qQ s2 σ H2 _ I2 q2) λF B u G I3 pu q3=>?_);rw [evalPart_none];refine Yac ?_;have I4:Inv X qQ σ G { B with heap:=B.heap.push { cls:=.type "slice", data:=.fields #[D,F,.none] } }:=I3.kept (t':=B.toks) λb ob q=>Yaj _ q;obtain ⟨T,id,hT,ht,hg⟩:=L qQ { B with heap:=B.heap.push { cls:=.type "slice", data:=.fields #[D,F,.none] } } σ G x v D F l u B.heap.objs.size Q I4 r1 (Heap.IsSliceOf.new ..) pl pu q3;show wpAny (model X.prog X.w) X.A (subscriptTail e (.Slice lo hi none p2) v (.ref B.heap.objs.size)) (EP X qQ σ Q) X.xe { B with heap:=B.heap.push { cls:=.type "slice", data:=.fields #[D,F,.none] } };exact tail_any (ops:=[.ref B.heap.objs.size,v]) ht hT hg (by with_unfolding_all rfl)
noncomputable def Uc (xs:List V)(lo hi:Option Int):List V:=(xs.drop (HT.sIx xs.length 0 lo)).take (HT.sIx xs.length xs.length hi-HT.sIx xs.length 0 lo)
theorem Xc (xs:List V)(lo hi:Option Int):(Uc xs lo hi).length<=xs.length:=by
 unfold Uc;rw [Ybj,Yco]
 lia
end
noncomputable def ixN (n:Nat)(i:Int):Option Nat:=if 0<=i then (if i<n then some i.toNat else none) else if -(n:Int)<=i then some (i+n).toNat else none
noncomputable def atI {α:Type}(xs:List α)(i:Int):Option α:=(ixN xs.length i).bind λj=>xs[j]?
theorem Xd {n:Nat}{i:Int}{j:Nat}(h:ixN n i=some j):seqIndex? i n=some j/\j<n/\-(n:Int)<=i/\i<n:=by
 unfold ixN at h;by_cases h0:0<=i
 ·rw [if_pos h0] at h;by_cases h1:i<n
  ·rw [if_pos h1] at h;have e:i.toNat=j:=Yby h;exact ⟨by rw [seqIndex_of h0 h1,e],by lia,by lia,h1⟩
  ·rw [if_neg h1] at h;cases h
 ·rw [if_neg h0] at h;by_cases h1:-(n:Int)<=i
  ·rw [if_pos h1] at h;have e:(i+n).toNat=j:=Yby h;exact ⟨by rw [seqIndex_neg (by lia) h1,e],by lia,h1,by lia⟩
  ·rw [if_neg h1] at h;cases h
theorem Zy {α:Type}{xs:List α}{i:Int}{v:α}(h:atI xs i=some v):∃j,seqIndex? i xs.length=some j/\xs[j]?=some v/\j<xs.length/\-(xs.length:Int)<=i/\i<xs.length:=by
 unfold atI at h;cases e:ixN xs.length i with
 | none=>rw [e] at h;cases h
 | some j=>
  rw [e] at h;obtain ⟨h1,h2,q,B⟩:=Xd e;exact ⟨j,h1,h,h2,q,B⟩
theorem Gi {α:Type}{xs:List α}{j:Nat}{v:α}(h:xs[j]?=some v):atI xs (j:Int)=some v:=by
 have q:j<xs.length:=(Yay.mp h).1;have e:ixN xs.length (j:Int)=some j:=by
  unfold ixN;rw [if_pos (by lia),if_pos (by lia)];simp
 unfold atI;rw [e];exact h
noncomputable def ZcA (b:Expr):Prop:=∀o i,subscripted b false o i=operate [o,i] (getItem o i)
noncomputable def IxR (X:Cx)(r:R2):Prop:=
 ∀(value q:Expr)(qQ:List (Addr×Obj))(s:Shared)(σ:St)(H:Hp)(x y:V)(v u:Value)(Q:VK),Inv X qQ σ H s->RelV x v->RelV y u->r x y H Q ->
  subscripted q false v u=operate [v,u] (getItem v u)->wpAny (model X.prog X.w) X.A (subscriptTail value q v u) (EP X qQ σ Q) X.xe s
noncomputable def MtR (X:Cx)(id:String)(r:V->List V->Hp->VK->Prop):Prop:=
 ∀(qQ:List (Addr×Obj))(s:Shared)(σ:St)(H:Hp)(x:V)(xs:List V)(v:Value)(us:List Value)(Q:VK),Inv X qQ σ H s->RelV x v->Vals xs us->r x xs H Q ->
  wpAny (model X.prog X.w) X.A (call (.builtin id) (v::us)) (EP X qQ σ Q) X.xe s
section
variable {X:Cx}{a b:Expr}{ta tb:TE}{pos:Pos}
theorem Gn {r:R2}(B:IxR X r)(ha:PE X a ta)(D:PE X b tb)(F:ZcA b):PE X (.Subscript a b pos) (tOp r ta tb):=by
 intro qQ s σ H Q I h;exact Subscript_ (ZeW ha D I h λv u G x y H2 L N O q=>B a b qQ G σ H2 x y v u Q L N O q (F _ _))
noncomputable def Zf5 (K:W.Frag):R2:=λx y H Q=>∃p xs i v,x=.ref p/\y=.int i/\SqL K H p xs/\atI xs i=some v/\Q v H
noncomputable def Zf6 (K:W.Frag):R2:=λx y H Q=>∃p xs i v,x=.ref p/\y=.int i/\SqT K H p xs/\atI xs i=some v/\Q v H
theorem ZcB:IxR X (Zf5 X.K):=by
 intro value B qQ s σ H x y v u Q I U Y h N;obtain ⟨p,xs,i,z,rfl,rfl,Z,he,q⟩:=h;cases U;obtain ⟨t,rfl⟩:=Y;obtain ⟨D,r,F,hz⟩:=I.list Z;obtain ⟨j,h1,h2,h3,h4,h5⟩:=Zy he;obtain ⟨w,O,G⟩:=r.get h2;have hl:=r.length;have hn:=Ur;have fin:EP X qQ σ Q w s:=⟨z,H,I,G,q⟩;by_cases h0:0<=i
 ·have L:i.toNat=j:=by
   rw [seqIndex_of h0 h5] at h1;exact Yby h1
  exact item_listR F.isList h0 (by lia) (by rw [L];simpa using O) fin N
 ·have L:(i+(D.toArray.size:Int)).toNat=j:=by
   rw [seqIndex_neg (by lia) h4] at h1;rw [Yau,<-hl];exact Yby h1
  exact subscriptTail_builtinR (x:=w) F.isList.typeIs slot_list_getitem.lookup
   (wpAny_getItem_list_neg (Q:=λr s'=>r=w/\EP X qQ σ Q r s') F.isList (by lia) (by rw [Yau] <;> lia) (by lia) (by rw [L];simpa using O) ⟨rfl,fin⟩) N
theorem ZdG:IxR X (Zf6 X.K):=by
 intro value B qQ s σ H x y v u Q I G L h N;obtain ⟨p,xs,i,z,rfl,rfl,O,U,q⟩:=h;cases G;obtain ⟨t,rfl⟩:=L;obtain ⟨Y,r,F,hz⟩:=I.tuple O;obtain ⟨j,h1,h2,h3,h4,h5⟩:=Zy U;obtain ⟨w,Z,D⟩:=r.get h2;have hl:=r.length;have hn:=Ur;have fin:EP X qQ σ Q w s:=⟨z,H,I,D,q⟩;exact subscriptTail_builtinR (x:=w) F.typeIs slot_tuple_getitem.lookup
  (getItem_tuple (j:=j) (Q:=λr s'=>r=w/\EP X qQ σ Q r s') F (by lia) (by lia) (by rw [Yau,<-hl];exact h1) (by simpa using Z) ⟨rfl,fin⟩) N
theorem YJ (its:List Value)(n j:Nat)(u:Value):Obj.mapSeq (·.setIfInBounds j u) { cls:=.type "list", data:=.seq its.toArray n }={ cls:=.type "list", data:=.seq (its.set j u).toArray n }:=by
 simp [Obj.mapSeq]
theorem Inv.lst {qQ:List (Addr×Obj)}{σ:St}{H:Hp}{s:Shared}{p:Addr}{xs:List V}(I:Inv X qQ σ H s)(h:H p=some (.lst xs)) :
  ∃(q:List Value)(n:Nat),Vals xs q/\s.heap.get? p=some { cls:=.type "list", data:=.seq q.toArray n }/\xs.length<=sizeLine:=by
 obtain ⟨z,q,n,r,e⟩:=I.hok p _ h;exact ⟨q,n,r,e,z⟩
theorem Inv.lstUpd {qQ:List (Addr×Obj)}{σ:St}{H:Hp}{s:Shared}{p:Addr}{xs ys:List V}{its its':List Value}{n B:Nat}{f:Obj->Obj}(I:Inv X qQ σ H s)(h:H p=some (.lst xs))(F:s.heap.get? p=some { cls:=.type "list", data:=.seq its.toArray n })(D:f { cls:=.type "list", data:=.seq its.toArray n }={ cls:=.type "list", data:=.seq its'.toArray B })(r:Vals ys its')(G:ys.length<=sizeLine)(t:Nat) :
  Inv X qQ σ (upd H p (.lst ys)) { s with heap:=s.heap.update p f,toks:=t }:=by
 have e:(s.heap.update p f).get? p=some { cls:=.type "list", data:=.seq its'.toArray B }:=by
  rw [Ydi f F (by rw [D] <;> rfl),D]
 refine I.write (x:=p) (e:=p) (by rw [h];trivial) (.inl rfl) (λb u L q=>(Heap.get?_update_other _ _ (Ne.symm L)).trans q) ⟨_,e⟩ ?_;exact ⟨G,its',B,r,e⟩
noncomputable def Ze1:V->V->V->Hp->(Hp->Prop)->Prop:=λo i v H Q=>∃p xs k j,o=.ref p/\i=.int k/\H p=some (.lst xs)/\ixN xs.length k=some j/\Q (upd H p (.lst (xs.set j v)))
theorem Jr:ZeQ X Ze1:=by
 intro qQ s σ H o i v ov iv u Q I Y Z rv h;obtain ⟨p,xs,k,j,rfl,rfl,L,hj,q⟩:=h;cases Y;obtain ⟨t,rfl⟩:=Z;obtain ⟨B,n,r,D,hz⟩:=I.lst L;obtain ⟨h1,h2,N,O⟩:=Xd hj;have F:=r.length;have hn:=Ur;have U:Inv X qQ σ (upd H p (.lst (xs.set j v))) { s with heap:=s.heap.update p (Obj.mapSeq (·.setIfInBounds j u)) }:=
  I.lstUpd L D (YJ B n j u) (r.set rv j) (by rw [List.length_set];exact hz) s.toks
 by_cases h0:0<=k
 ·have G:k.toNat=j:=by
   rw [seqIndex_of h0 O] at h1;exact Yby h1
  exact W.ki_setAt D h0 (by lia) (by rw [Yau,<-F];exact O) (by rw [G];exact ⟨_,U,q⟩)
 ·have G:(k+(B.toArray.size:Int)).toNat=j:=by
   rw [seqIndex_neg (by lia) N] at h1;rw [Yau,<-F];exact Yby h1
  exact W.ki_setBack D (by lia) (by rw [Yau,<-F];exact N) (by lia) (by rw [G];exact ⟨_,U,q⟩)
theorem Wm (lo hi:Option Int)(n:Nat):(sliceBounds lo hi none n).1=((HT.sIx n 0 lo:Nat):Int)/\(sliceBounds lo hi none n).2.1=((HT.sIx n n hi:Nat):Int)/\(sliceBounds lo hi none n).2.2=1:=by
 refine ⟨?_,?_,rfl⟩
 ·cases lo with
  | none=>simp [sliceBounds,HT.sIx]
  | some i=>
   simp only [sliceBounds,HT.sIx,Option.getD_none,show (1:Int) > 0 by decide,if_true];by_cases h:i<0
   ·simp only [h,if_true] <;> lia
   ·simp only [h,if_false] <;> lia
 ·cases hi with
  | none=>simp [sliceBounds,HT.sIx]
  | some i=>
   simp only [sliceBounds,HT.sIx,Option.getD_none,show (1:Int) > 0 by decide,if_true];by_cases h:i<0
   ·simp only [h,if_true] <;> lia
   ·simp only [h,if_false] <;> lia
theorem Vu (its:List Value)(lo hi:Option Int):slicePick its.toArray lo hi none=((its.drop (HT.sIx its.length 0 lo)).take (HT.sIx its.length its.length hi-HT.sIx its.length 0 lo)).toArray:=by
 obtain ⟨h1,h2,q⟩:=Wm lo hi its.toArray.size;unfold slicePick;rw [h1,h2,q];simp only [sliceRange_one,pick_run,Yau] <;> rfl
noncomputable def Zf7 (K:W.Frag):V->Option Int->Option Int->Hp->VK->Prop:=λx lo hi H Q=>∃a xs,x=.ref a/\SqL K H a xs/\∀p,H p=none->Q (.ref p) (upd H p (.lst (Uc xs lo hi)))
theorem ZcC:SlR X (Zf7 X.K):=by
 intro qQ s σ H x v Z vu lo hi sl Q I D F G L h;obtain ⟨a,xs,rfl,N,q⟩:=h;cases D;obtain ⟨O,r,B,U⟩:=I.list N;have Y:=r.length;refine ⟨"list", _,slot_list_getitem.lookup,B.isList.typeIs,?_⟩;refine wpAny_getItem_list_slice B.isList F G L .none (by simp) ?_ (by rw [Yau] <;> lia);rw [Vu,<-Y];refine ⟨.ref s.heap.objs.size,_,I.laid (t':=s.toks) (o:=.lst (Uc xs lo hi)) (λb ob q=>Yaj _ q) (Yaf _) ?_,rfl,q _ (I.hok.fresh (Yaf _))⟩;exact ⟨Ybc (Xc xs lo hi) U,_,0,(r.drop (HT.sIx xs.length 0 lo)).take (HT.sIx xs.length xs.length hi-HT.sIx xs.length 0 lo),Ybd _ rfl⟩
noncomputable def Wn:V->Bool
 | .non=>true
 | .bl _=>true
 | .int _=>true
 | .str _=>true
 | _=>false
noncomputable def eqV:V->V->Bool
 | .non,.non=>true
 | .bl a,.bl b=>a == b
 | .bl a,.int b=>(if a then 1 else 0) == b
 | .int a,.bl b=>a == (if b then 1 else 0)
 | .int a,.int b=>a == b
 | .str a,.str b=>a == b
 | _,_=>false
theorem ZdH {A:Around}{s:Shared}{y x:V}{u v:Value}(D:RelV y u)(q:RelV x v)(F:Wn y=true)(fx:Wn x=true):SeqAt.EqAt A s u v (eqV y x):=by
 cases y with
 | non=>
  cases D;cases x with
  | non=>cases q;exact SeqAt.EqAt.same _
  | bl b=>cases q;exact SeqAt.EqAt.none_bool b
  | int b=>obtain ⟨t,rfl⟩:=q;exact SeqAt.EqAt.none_int b t
  | str b=>obtain ⟨t,rfl⟩:=q;exact SeqAt.EqAt.none_str b t
  | _=>exact absurd (show false=true from fx) Yal
 | bl a=>
  cases D;cases x with
  | non=>cases q;exact SeqAt.EqAt.bool_none a
  | bl b=>cases q;exact SeqAt.EqAt.bool_bool a b
  | int b=>obtain ⟨t,rfl⟩:=q;exact SeqAt.EqAt.bool_int a b t
  | str b=>obtain ⟨t,rfl⟩:=q;exact SeqAt.EqAt.bool_str a b t
  | _=>exact absurd (show false=true from fx) Yal
 | int a=>
  obtain ⟨B,rfl⟩:=D;cases x with
  | non=>cases q;exact SeqAt.EqAt.int_none a B
  | bl b=>cases q;exact SeqAt.EqAt.int_bool a B b
  | int b=>obtain ⟨t,rfl⟩:=q;exact SeqAt.EqAt.int_int a B b t
  | str b=>obtain ⟨t,rfl⟩:=q;exact SeqAt.EqAt.int_str a B b t
  | _=>exact absurd (show false=true from fx) Yal
 | str a=>
  obtain ⟨B,rfl⟩:=D;cases x with
  | non=>cases q;exact SeqAt.EqAt.str_none a B
  | bl b=>cases q;exact SeqAt.EqAt.str_bool a B b
  | int b=>obtain ⟨t,rfl⟩:=q;exact SeqAt.EqAt.str_int a B b t
  | str b=>obtain ⟨t,rfl⟩:=q;exact SeqAt.EqAt.str_str a B b t
  | _=>exact absurd (show false=true from fx) Yal
 | _=>exact absurd (show false=true from F) Yal
noncomputable def eqU (x:V)(u:Value):Bool:=match u with
 | .none=>eqV .non x
 | .bool b=>eqV (.bl b) x
 | .int i _=>eqV (.int i) x
 | .str z _=>eqV (.str z) x
 | _=>false
theorem Zb0 {x y:V}{u:Value}(r:RelV y u)(f:Wn y=true):eqU x u=eqV y x:=by
 cases y with
 | non=>cases r;rfl
 | bl b=>cases r;rfl
 | int i=>obtain ⟨t,rfl⟩:=r;rfl
 | str z=>obtain ⟨t,rfl⟩:=r;rfl
 | _=>exact absurd (show false=true from f) Yal
theorem UH {x:V}:∀{xs:List V}{us:List Value},Vals xs us->xs.all Wn=true->us.any (eqU x)=xs.any λy=>eqV y x
 | _,_,.nil,_=>rfl
 | y::xs,u::us,.cons r t,f=>by
  rw [List.all_cons,Ycj] at f;rw [List.any_cons,List.any_cons,Zb0 r f.1,UH t f.2]
theorem ON {A:Around}{s:Shared}{x:V}{v:Value}(rx:RelV x v)(fx:Wn x=true):∀{xs:List V}{us:List Value},Vals xs us->xs.all Wn=true->∀u∈us,SeqAt.EqAt A s u v (eqU x u)
 | _,_,.nil,_=>λu hu=>by cases hu
 | y::xs,u::us,.cons r t,f=>λu' hu=>by
  rw [List.all_cons,Ycj] at f;rcases Yas.mp hu with rfl | hu
  ·rw [Zb0 r f.1];exact ZdH r rx f.1 fx
  ·exact ON rx fx t f.2 u' hu
noncomputable def inV (x:V)(xs:List V):Bool:=xs.any λy=>eqV y x
noncomputable def rIn (K:W.Frag)(q:Bool):R2:=λx y H Q=>∃p xs,y=.ref p/\(SqL K H p xs\/SqT K H p xs)/\Wn x=true/\xs.all Wn=true/\Q (.bl (if q then !inV x xs else inV x xs)) H
theorem Zz:OpR X (compareOp .In) (rIn X.K false):=by
 intro qQ s σ H x y v u Q I L N h;obtain ⟨p,xs,rfl,D,fx,fs,q⟩:=h;cases N;rcases D with D | D
 ·obtain ⟨B,r,F,O⟩:=I.list D;refine SeqAt.in_listAt (eqU x) F.isList (λw G=>ON L fx r fs w (by simpa using G)) ⟨.bl _,H,I,rfl,?_⟩;rw [show B.toArray.any (eqU x)=B.any (eqU x) by simp,UH r fs];exact q
 ·obtain ⟨B,r,F,O⟩:=I.tuple D;refine SeqAt.in_tupleAt (eqU x) F (λw G=>ON L fx r fs w (by simpa using G)) ⟨.bl _,H,I,rfl,?_⟩;rw [show B.toArray.any (eqU x)=B.any (eqU x) by simp,UH r fs];exact q
theorem Wo:OpR X (compareOp .NotIn) (rIn X.K true):=by
 intro qQ s σ H x y v u Q I L N h;obtain ⟨p,xs,rfl,D,fx,fs,q⟩:=h;cases N;rcases D with D | D
 ·obtain ⟨B,r,F,O⟩:=I.list D;refine SeqAt.notIn_listAt (eqU x) F.isList (λw G=>ON L fx r fs w (by simpa using G)) ⟨.bl _,H,I,rfl,?_⟩;rw [show B.toArray.any (eqU x)=B.any (eqU x) by simp,UH r fs];exact q
 ·obtain ⟨B,r,F,O⟩:=I.tuple D;refine SeqAt.notIn_tupleAt (eqU x) F (λw G=>ON L fx r fs w (by simpa using G)) ⟨.bl _,H,I,rfl,?_⟩;rw [show B.toArray.any (eqU x)=B.any (eqU x) by simp,UH r fs];exact q
theorem Wp:JD X (.builtin "len") (λxs H Q=>∃p ys,xs=[.ref p]/\(SqL X.K H p ys\/SqT X.K H p ys)/\Q (.int ys.length) H):=by
 intro qQ s σ H xs us Q I r h;obtain ⟨p,ys,rfl,B,q⟩:=h;obtain ⟨u,rfl,N⟩:=Zs r;cases N;have U:=Ur;rcases B with B | B
 ·obtain ⟨D,F,G,O⟩:=I.list B;have L:=F.length;exact Calls.call_len_list G.isList (by simp only [Yau] <;> lia) ⟨.int ys.length,H,I.tok _,⟨s.toks+1,by rw [Yau,L]⟩,q⟩
 ·obtain ⟨D,F,G,O⟩:=I.tuple B;have L:=F.length;exact len_tuple G (by simp only [Yau] <;> lia) ⟨.int ys.length,H,I.tok _,⟨s.toks+1,by rw [Yau,L]⟩,q⟩
theorem Wq:JD X (.type "list") (λxs H Q=>∃p ys,xs=[.ref p]/\(SqL X.K H p ys\/SqT X.K H p ys)/\∀l,H l=none->Q (.ref l) (upd H l (.lst ys))):=by
 intro qQ s σ H xs us Q I r h;obtain ⟨p,ys,rfl,G,q⟩:=h;obtain ⟨u,rfl,rx⟩:=Zs r;cases rx;have fin:∀(B:List Value),Vals ys B->ys.length<=sizeLine->∀(h':Heap)(D:Nat),(∀b o',s.heap.get? b=some o'->h'.get? b=some o') ->
   h'.get? s.heap.objs.size=some { cls:=.type "list", dict:=none,data:=.seq B.toArray D,slots:=#[] }->EP X qQ σ Q (.ref s.heap.objs.size) { s with heap:=h' }:=λB F L h' D N e=>
  ⟨.ref s.heap.objs.size,_,I.laid (t':=s.toks) N (Yaf _) (show ObjOk X.prog X.w _ h' _ (.lst ys) from ⟨L,B,D,F,e⟩),rfl,q _ (I.hok.fresh (Yaf _))⟩
 rcases G with G | G
 ·obtain ⟨B,F,O,L⟩:=I.list G;have qV:=F.length;obtain ⟨o,U,Y,n,Z⟩:=O.isList;exact call_list_seq p (.inl rfl) U Y Z (λh' D N e=>fin B F L h' D N e) (by simp only [Yau] <;> lia)
 ·obtain ⟨B,F,O,L⟩:=I.tuple G;have qV:=F.length;obtain ⟨o,U,Y,n,Z⟩:=O;exact call_list_seq p (.inr rfl) U Y Z (λh' D N e=>fin B F L h' D N e) (by simp only [Yau] <;> lia)
theorem Vv:JD X (.type "tuple") (λxs H Q=>∃p ys,xs=[.ref p]/\((SqL X.K H p ys/\∀l,H l=none->Q (.ref l) (upd H l (.tup ys)))\/(SqT X.K H p ys/\Q (.ref p) H))):=by
 intro qQ s σ H xs us Q I r h;obtain ⟨p,ys,rfl,h⟩:=h;obtain ⟨u,rfl,O⟩:=Zs r;cases O;rcases h with ⟨D,q⟩ | ⟨D,q⟩
 ·obtain ⟨B,F,G,L⟩:=I.list D;have Z:=F.length;refine call_tuple_list G.isList (λh' U=>?_) (by simp only [Yau] <;> lia);have N:Inv X qQ σ H { s with heap:=h' }:=I.kept (t':=s.toks) U;have Y:Inv X qQ σ (upd H h'.objs.size (.tup ys)) { s with heap:=h'.push { cls:=.type "tuple", data:=.seq B.toArray } }:=
   N.laid (t':=s.toks) (λb o e=>Yaj _ e) (Yaf _) (show ObjOk X.prog X.w _ _ _ (.tup ys) from ⟨L,B,F,IsTup.new _ _⟩)
  exact ⟨.ref h'.objs.size,_,Y,rfl,q _ (N.hok.fresh (Yaf _))⟩
 ·obtain ⟨B,F,G,L⟩:=I.tuple D;exact call_tuple_same G ⟨.ref p,H,I,rfl,q⟩
noncomputable def tyV (K:W.Frag)(T:String)(x:V)(H:Hp):Prop:=match x with
 | .str _=>T = "str"
 | .int _=>T = "int"
 | .ref p=>(T = "list" /\ ∃xs,SqL K H p xs)\/(T = "tuple" /\ ∃o,K.lookup p=some o/\o.cls=.type "tuple" /\ o.dict=none) \/
   (T = "dict" /\ ((∃kvs,H p=some (.dK kvs))\/∃kvs,H p=some (.dT kvs)))\/(T = "set" /\ ∃S n,H p=some (.set S n))
 | _=>False
theorem Zb1 {qQ:List (Addr×Obj)}{σ:St}{H:Hp}{s:Shared}{T:String}{x:V}{v:Value}(I:Inv X qQ σ H s)(r:RelV x v)(ty:tyV X.K T x H) :
  s.TypeIs v T/\∀a,v=.ref a->∃F,s.heap.get? a=some F/\F.dict=none:=by
 cases x with
 | str z=>
  obtain ⟨t,rfl⟩:=r;cases (show T = "str" from ty);exact ⟨typeIs_str s z t,λ_ e=>nomatch e⟩
 | int i=>
  obtain ⟨t,rfl⟩:=r;cases (show T = "int" from ty);exact ⟨typeIs_int s i t,λ_ e=>nomatch e⟩
 | ref p=>
  cases r;rcases ty with ⟨rfl,xs,L⟩ | ⟨rfl,o,q,N,B⟩ | ⟨rfl,q⟩ | ⟨rfl,S,n,q⟩
  ·obtain ⟨O,_,G,_⟩:=I.list L;refine ⟨G.isList.typeIs,λa e=>?_⟩;cases e;obtain ⟨o,n,e,c,B,_⟩:=G;exact ⟨o,e,B⟩
  ·refine ⟨⟨o,I.kIn p o q,N⟩,λa e=>?_⟩;cases e;exact ⟨o,I.kIn _ o q,B⟩
  ·have z:∃o,s.heap.get? p=some o/\o.ExactDict:=by
    rcases q with ⟨kvs,q⟩ | ⟨kvs,q⟩
    ·obtain ⟨_,_,_,_,o,_,_,e,ex,_⟩:=I.hok p _ q;exact ⟨o,e,ex⟩
    ·obtain ⟨_,_,_,_,o,_,_,e,ex,_⟩:=I.hok p _ q;exact ⟨o,e,ex⟩
   obtain ⟨o,e,ex⟩:=z;refine ⟨⟨o,e,ex.1⟩,λa D=>?_⟩;cases D;exact ⟨o,e,ex.2.1⟩
  ·obtain ⟨o,_,_,_,e,ex,_⟩:=I.hok p _ q;refine ⟨⟨o,e,ex.1⟩,λa D=>?_⟩;cases D;exact ⟨o,e,ex.2.1⟩
 | _=>exact False.elim ty
noncomputable def ZgM (K:W.Frag)(T:String)(r:V->List V->Hp->VK->Prop)(to:TE):TE:=λσ H Q=>to σ H λx H1=>tyV K T x H1/\r x [] H1 Q
noncomputable def tBM (K:W.Frag)(T:String)(r:V->List V->Hp->VK->Prop)(to:TE)(t:TA):TE:=λσ H Q=>to σ H λx H1=>tyV K T x H1/\t σ H1 λxs H2=>r x xs H2 Q
variable {o e:Expr}{es:List Expr}{to:TE}{t:TA}{name:Str}{apos qG:Pos}{T id:String}{r:V->List V->Hp->VK->Prop}
theorem ZdI (N:PlainAttrs T)(D:Slot T name id)(F:typeOf (.builtin id)=pure (.type "method_descriptor"))(O:MtR X id r)(U:PE X o to)(q:attributeBase o name X.env (eval o X.env)=eval o X.env:=by rfl)(B:(apos.endLine == qG.line)=true:=by rfl):PE X (.Call (.Attribute o name apos) [] [] qG) (ZgM X.K T r to):=by
 intro qQ s σ H Q I h;refine wpAny_Call_method0_late q B (thG (U qQ s σ H _ I h) λv Y x H1 G L ⟨ty,Z⟩=>?_);obtain ⟨h1,h2⟩:=Zb1 G L ty;exact ⟨T,id,N,D,F,h1,h2,Calls.callWith_builtin rfl (PySem.evalArgs_none (O qQ Y σ H1 x [] v [] Q G L .nil Z))⟩
theorem U3 (Y:PlainAttrs T)(F:Slot T name id)(L:typeOf (.builtin id)=pure (.type "method_descriptor"))(Z:MtR X id r)(ho:PE X o to)(ha:PA X (e::es) t)(B:attributeBase o name X.env (eval o X.env)=eval o X.env:=by rfl)(G:((backTo qG (starEach (e::es) X.env)).all (λx=>!x.1) && (backToKw qG (keywordEach [] X.env)).all (λx=>x.1.isSome)
   && decide ((e::es).length+([]:List Keyword).length+(if ([]:List Keyword).isEmpty then 0 else 1)<30))=true:=by rfl)(D:(apos.endLine == qG.line)=true:=by rfl)(hs:starEach (e::es) X.env=(false,eval e X.env)::starEach es X.env:=by rfl)(q:(backTo qG (starEach es X.env)).any (·.1)=false:=by rfl) :
  PE X (.Call (.Attribute o name apos) (e::es) [] qG) (tBM X.K T r to t):=by
 intro qQ s σ H Q I h;refine wpAny_Call_method_late B G D rfl (thG (ho qQ s σ H _ I h) λv s1 x H1 N O ⟨ty,q1⟩=>?_);obtain ⟨h1,h2⟩:=Zb1 N O ty;refine ⟨T,id,Y,F,L,h1,h2,?_⟩;have U:=ha qG qQ s1 σ H1 _ N q1;rw [hs] at U ⊢;refine Calls.callWith_builtin (by show (false || (backTo qG (starEach es X.env)).any (·.1))=false;rw [q] <;> rfl) (Calls.evalArgs_plain ?_);exact thn U λus s2 ⟨vs,H2,I2,r2,q2⟩=>Z qQ s2 σ H2 x vs v us Q I2 O r2 q2
end
noncomputable def MtM (X:Cx)(id:String)(r:V->List V->Hp->VK->Prop):Prop:=
 ∀(qQ:List (Addr×Obj))(s:Shared)(σ:St)(H:Hp)(x:V)(xs:List V)(v:Value)(us:List Value)(Q:VK),Inv X qQ σ H s->RelV x v->Vals xs us->r x xs H Q ->
  wpAny (model X.prog X.w) X.A (call (.builtin id) (v::us)) (EP X qQ σ Q) X.xe s
theorem Vals.one {x:V}{us:List Value}(h:Vals [x] us):∃u,us=[u]/\RelV x u:=by
 cases h with
 | cons r t=>cases t;exact ⟨_,rfl,r⟩
theorem Vals.two {x y:V}{us:List Value}(h:Vals [x,y] us):∃u v,us=[u,v]/\RelV x u/\RelV y v:=by
 cases h with
 | cons r t=>obtain ⟨u,rfl,q⟩:=Vals.one t;exact ⟨_,_,rfl,r,q⟩
theorem Vals.zero:∀{us:List Value},Vals [] us->us=[]
 | _,.nil=>rfl
theorem Vals.eraseIdx:∀{xs:List V}{us:List Value}(i:Nat),Vals xs us->Vals (xs.eraseIdx i) (us.eraseIdx i)
 | _,_,_,.nil=>.nil
 | _,_,0,.cons _ t=>t
 | _,_,i+1,.cons r t=>.cons r (Vals.eraseIdx i t)
theorem Vals.reverse {xs:List V}{us:List Value}(h:Vals xs us):Vals xs.reverse us.reverse:=by
 induction h with
 | nil=>exact .nil
 | cons r t ih=>rw [List.reverse_cons,List.reverse_cons];exact Vals.append ih (.cons r .nil)
theorem Vals.rep {xs:List V}{us:List Value}(h:Vals xs us):∀k:Nat,Vals (List.replicate k xs).flatten (List.replicate k us).flatten
 | 0=>.nil
 | k+1=>by
  rw [Yds,Yds,List.flatten_cons,List.flatten_cons];exact Vals.append h (Vals.rep h k)
theorem Wr {α:Type}:∀(l:List α)(i:Nat),(l.eraseIdx i).length<=l.length
 | [],_=>Yaf _
 | _::_,0=>Ydt _
 | _::r,i+1=>Nat.succ_le_succ (Wr r i)
theorem Ws (its:List Value):∀(k:Nat)(acc:List Value),
  List.foldl (λq B=>q++B) acc.toArray (List.replicate k its.toArray)=(acc++(List.replicate k its).flatten).toArray
 | 0,acc=>by simp
 | k+1,acc=>by
  have e:acc.toArray++its.toArray=(acc++its).toArray:=by simp
  have D:(acc++its)++(List.replicate k its).flatten=acc++(List.replicate (k+1) its).flatten:=by
   rw [Yds,List.flatten_cons,Ybl]
  rw [<-D,<-Ws its k (acc++its),<-e,Yds,List.foldl_cons]
section
variable {X:Cx}{qQ:List (Addr×Obj)}{σ:St}{H:Hp}{s:Shared}{l b:Addr}{xs ys zs:List V}
theorem Inv.lset {its its':List Value}{n:Nat}{f:Array Value->Array Value}{t':Nat}(I:Inv X qQ σ H s)(B:H l=some (.lst xs))(e:s.heap.get? l=some { cls:=.type "list", data:=.seq its.toArray n })(D:f its.toArray=its'.toArray)(F:Vals ys its')(G:ys.length<=sizeLine) :
  Inv X qQ σ (upd H l (.lst ys)) { s with heap:=s.heap.update l (Obj.mapSeq f),toks:=t' }:=by
 have q:=PySem.IsL.update e f;rw [D] at q;refine I.write (x:=l) (e:=l) (by rw [B];exact trivial) (.inl rfl) (λO u L N=>(Heap.get?_update_other s.heap (Obj.mapSeq f) (Ne.symm L)).trans N) ⟨_,q⟩ ?_;exact ⟨G,its',_,F,q⟩
theorem Inv.lnew {its:List Value}{t':Nat}(I:Inv X qQ σ H s)(B:Vals ys its)(D:ys.length<=sizeLine) :
  Inv X qQ σ (upd H s.heap.objs.size (.lst ys)) { s with heap:=s.heap.push { cls:=.type "list", data:=.seq its.toArray },toks:=t' }:=
 I.laid (λ_ _ q=>Yaj _ q) (Yaf _) ⟨D,its,0,B,Ybd _ rfl⟩
theorem Inv.fresh (I:Inv X qQ σ H s):H s.heap.objs.size=none:=I.hok.fresh (Yaf _)
theorem Inv.lstM (I:Inv X qQ σ H s)(B:H l=some (.lst xs)):xs.length<=sizeLine/\∃(q:List Value)(n:Nat),Vals xs q/\xs.length=q.length/\s.heap.get? l=some { cls:=.type "list", data:=.seq q.toArray n }:=by
 obtain ⟨z,q,n,r,e⟩:=I.hok l _ B;exact ⟨z,q,n,r,r.length,e⟩
theorem XR {n:Nat}(h:n<=sizeLine):Builtin.List.listTooLong n=false:=by
 unfold Builtin.List.listTooLong;exact Yai (by lia)
end
section
variable {X:Cx}
noncomputable def ZcD:V->List V->Hp->VK->Prop:=λx vs H Q=>∃l xs y,x=.ref l/\vs=[y]/\H l=some (.lst xs)/\xs.length<sizeLine/\Q .non (upd H l (.lst (xs++[y])))
theorem Ji:MtM X "list.append" ZcD:=by
 intro qQ s σ H x vs v us Q I G L h;obtain ⟨l,xs,y,rfl,rfl,D,O,q⟩:=h;cases G;obtain ⟨u,rfl,N⟩:=L.one;obtain ⟨z,B,n,r,U,e⟩:=I.lstM D;refine call_meets F.slot_list_append ⟨_,e,rfl⟩ F.entry_list_append (F.args_list_append_2 _ _) (PySem.list_append l B.toArray n u (by rw [Yau];lia)) ⟨e,?_⟩;refine ⟨.non,_,I.lset (its':=B++[u]) D e (by simp) (r.append (.cons N .nil)) ?_,rfl,q⟩;rw [Yaq,Ych]
 lia
noncomputable def ZcE:V->List V->Hp->VK->Prop:=λx vs H Q=>∃l b xs zs,x=.ref l/\vs=[.ref b]/\H l=some (.lst xs)/\H b=some (.lst zs)/\xs.length+zs.length<=sizeLine/\Q .non (upd H l (.lst (xs++zs)))
theorem ZA:MtM X "list.extend" ZcE:=by
 intro qQ s σ H x vs v us Q I O U h;obtain ⟨l,b,xs,zs,rfl,rfl,N,Y,hz,q⟩:=h;cases O;obtain ⟨u,rfl,Z⟩:=U.one;cases Z;obtain ⟨z,D,n,r,hl,e⟩:=I.lstM N;obtain ⟨z2,B,n2,r2,aa,e2⟩:=I.lstM Y;have L:D.toArray.size+B.toArray.size<=sizeLine:=by rw [Yau,Yau];lia
 have G:¬ (!D.toArray.isEmpty && Builtin.List.listTooLong (D.toArray.size+B.toArray.size))=true:=by
  rw [XR L,Bool.and_false];exact Yal
 refine call_meets F.slot_list_extend ⟨_,e,rfl⟩ F.entry_list_extend (F.args_list_extend_2 _ _)
  (AutoSeq1.list_extend_list_list_0 l D.toArray n b B.toArray n2 G (by rw [Yau];lia) (by lia)) ⟨e,e2,?_⟩
 refine ⟨.non,_,I.lset (its':=D++B) N e (by simp) (r.append r2) ?_,rfl,q⟩;rw [Yaq]
 lia
noncomputable def ZdJ:V->List V->Hp->VK->Prop:=λx vs H Q=>∃l xs i k y,x=.ref l/\vs=[.int i]/\H l=some (.lst xs)/\-(2 ^ 63)<=i/\i<2 ^ 63/\seqIndex? i xs.length=some k/\xs[k]?=some y/\Q y (upd H l (.lst (xs.eraseIdx k)))
theorem Za0:MtM X "list.pop" ZdJ:=by
 intro qQ s σ H x vs v us Q I L N h;obtain ⟨l,xs,i,k,y,rfl,rfl,G,h1,h2,O,U,q⟩:=h;cases L;obtain ⟨u,rfl,Y⟩:=N.one;obtain ⟨t,rfl⟩:=Y;obtain ⟨z,B,n,r,Z,e⟩:=I.lstM G;obtain ⟨w,hw,D⟩:=r.get U;refine call_meets F.slot_list_pop ⟨_,e,rfl⟩ F.entry_list_pop (F.args_list_pop_2 _ _)
  (MeetsSeq.list_pop_at l B.toArray n i t k w (fitsIndex_both h1 h2) (by rw [Yau,<-Z];exact O) (by rw [<-Yaz];exact hw) (by rw [Yau];lia)) ⟨e,?_⟩
 refine ⟨y,_,I.lset (its':=B.eraseIdx k) G e ?_ (r.eraseIdx k) ?_,D,q⟩
 ·show B.toArray.eraseIdxIfInBounds k=(B.eraseIdx k).toArray;rw [List.eraseIdxIfInBounds_toArray]
 ·have:=Wr xs k
  lia
noncomputable def ZgN:R2:=λx y H Q=>∃l b xs zs,x=.ref l/\y=.ref b/\H l=some (.lst xs)/\H b=some (.lst zs)/\xs.length+zs.length<=sizeLine/\∀p,H p=none->Q (.ref p) (upd H p (.lst (xs++zs)))
theorem Vb:OpR X (binaryOp .Add) ZgN:=by
 intro qQ s σ H x y v u Q I F G h;obtain ⟨l,b,xs,zs,rfl,rfl,L,N,hz,q⟩:=h;cases F;cases G;obtain ⟨z,D,n,r,hl,e⟩:=I.lstM L;obtain ⟨z2,B,n2,O,U,Y⟩:=I.lstM N;refine PySem.P.add_list e Y ?_ (by rw [Yau,Yau];lia);have Z:D.toArray++B.toArray=(D++B).toArray:=by simp
 rw [Z];exact ⟨.ref _,_,I.lnew (t':=s.toks) (r.append O) (by rw [Yaq];lia),rfl,q _ I.fresh⟩
noncomputable def ZgO:R2:=λx y H Q=>∃l k xs,x=.ref l/\y=.int k/\H l=some (.lst xs)/\-(2 ^ 63)<=k/\k<2 ^ 63/\xs.length * k.toNat<=sizeLine /\
 ∀p,H p=none->Q (.ref p) (upd H p (.lst (List.replicate k.toNat xs).flatten))
theorem ZcF {α:Type}(xs:List α)(k:Nat):(List.replicate k xs).flatten.length=k * xs.length:=by
 induction k with
 | zero=>simp
 | succ k ih=>rw [Yds,List.flatten_cons,Yaq,ih,Nat.succ_mul,Nat.add_comm]
theorem ZB:OpR X (binaryOp .Mult) ZgO:=by
 intro qQ s σ H x y v u Q I rx ry h;obtain ⟨l,k,xs,rfl,rfl,hH,h1,h2,Z,q⟩:=h;cases rx;obtain ⟨t,rfl⟩:=ry;obtain ⟨z,B,n,r,hl,e⟩:=I.lstM hH;have qV:B.toArray.size * k.toNat<=sizeLine:=by rw [Yau,<-hl];exact Z
 have G:¬ B.toArray.size * k.toNat > (2 ^ 63-1) / 8:=by
  have:(sizeLine:Nat)<=(2 ^ 63-1) / 8:=by decide
  lia
 have L:¬ (!Builtin.List.listFitsIndex k)=true:=by
  rw [fitsIndex_both h1 h2];exact Yal
 have D:¬ Builtin.List.listTooLong (B.toArray.size * k.toNat)=true:=by
  rw [XR qV];exact Yal
 have N:List.foldl (λO Y=>O++Y) #[] (List.replicate (if B.toArray.isEmpty=true then 0 else k.toNat) B.toArray)=(List.replicate k.toNat B).flatten.toArray:=by
  have f0:∀m:Nat,List.foldl (λO Y=>O++Y) #[] (List.replicate m B.toArray)=(List.replicate m B).flatten.toArray:=λm=>by
   have:=Ws B m [];rw [List.nil_append] at this;exact this
  rw [f0];cases B with
  | nil=>simp
  | cons a r'=>rw [if_neg (by simp)]
 refine wpAny_binaryOp_repeat_ref (T := "list") (U := "int") (by decide) ⟨_,e,rfl⟩ (λs'=>typeIs_int s' k t) noFill_list_mul F.fills_int_mul F.slot_int_rmul repeat_list F.slot_int_index.lookup
  (call_meets F.slot_int_rmul (typeIs_int s k t) F.entry_int_rmul (F.args_int_rmul_2 _ _) (int___rmul___int_list k t l B.toArray n)
   ⟨e,rfl,⟨_,e,rfl⟩,call_meets F.slot_list_mul ⟨_,e,rfl⟩ F.entry_list_mul (F.args_list_mul_2 _ _) (AutoListH.list___mul___list_int_3 l B.toArray n k t L G D) ⟨e,?_⟩⟩)
 rw [N];exact ⟨.ref _,_,I.lnew (t':=s.toks) (r.rep k.toNat) (by rw [ZcF,Nat.mul_comm];exact Z),rfl,q _ I.fresh⟩
end
end L2
namespace Att
open PySem PySem.W PySem.Calls PyProof.Rows
theorem UI {P:Params}{h:Heap}:∀(ns:List Int)(vs:List Value),WellAll P h vs (ns.map WData.int)->IntsAre vs ns:=by
 intro ns
 induction ns with
 | nil=>
  intro vs w;rw [List.map_nil] at w;cases w;exact .nil
 | cons n ns ih=>
  intro vs w;rw [Ybe] at w;cases w with
  | cons a b=>
   cases a;exact .cons _ _ (ih _ b)
theorem ZC {l:OpenLaw}{n:Nat}(U:l.most=some n){P:Params}{h:Heap}{args:List WData}{B:List Value}(D:l.row.toRowW.claim.pre args=true)(L:WellAll P h B args) :
  ∃a vs ns,B=[Value.ref a]/\args=[WData.list (ns.map WData.int)]/\h.get? a=some { cls:=.type "list", data:=.seq vs.toArray }/\IntsAre vs ns/\ns.length<=n:=by
 have N:WShape.hasAll [] args [.list .int]=true:=(pre_splitW D).1;have O:l.pre.holds [] { args:=args }=true:=(pre_splitW D).2;obtain ⟨d,r,rfl,h1,h2⟩:=hasAllW_cons N;obtain rfl:=hasAllW_nil h2;obtain ⟨xs,rfl,Y⟩:=hasW_list h1;obtain ⟨ns,rfl⟩:=items_int Y;have Z:ns.length<=n:=by
  unfold OpenLaw.pre at O;have F:(WTm.not (.lt (.lit (.int (n:Int))) (.len (.arg 0)))).holds [] { args:=[.list (ns.map .int)] }=true:=by
   have F:=(holds_andW O).1;rw [U] at F;exact F
  have G:=condW_of F (w_not (w_lt w_lit (w_len_list (w_arg rfl))));rw [Yab] at G;refine Nat.le_of_not_lt λq=>?_;have q':(n:Int)<((ns.length:Nat):Int):=by lia
  first
   | (rw [Yae q'] at G;exact absurd G (by decide))
   | (simp at G;lia)
 cases L with
 | cons w1 w2=>
  cases w2;cases w1 with
  | list ho qK=>exact ⟨_,_,ns,rfl,rfl,ho,UI ns _ qK,Z⟩
theorem ZD (l:OpenLaw)(args:List WData):l.row.toRowW.claim.post args (.bool true) args=true:=
 postW_of (r:=l.row.toRowW) (X:=(true == true))
  (show WShape.has [] (.bool true) .bool=true by first | rfl | decide | simp [WShape.has,WShape.arms,WShape.armsAll])
  (show (WTm.eq .res (.lit (.bool true))).value [] { args:=args,res:=some (.bool true),after:=args }=some (.bool (true == true)) from w_eq_bool (w_res rfl) w_lit) rfl
theorem attach_call {l:OpenLaw}{n:Nat}{q:Program}{B:List Str}{XP:(Str->Option Value)->Heap->Prop}{YP:World->Heap->Prop}{d:DefRec}(hn:l.most=some n)(N:d.params.defaults=[])(call:∀(w:World)(s₀ s₁:Shared)(mg mb:Str->Option Value)(fa:Addr)(o:Obj)(pm cd doc:Value)(a:Addr)(vs:List Value)(ns:List Int),
   Ground q B [] XP w s₀ mg mb s₁.heap->YP w s₁.heap ->
   s₁.heap.get? fa=some o->o.data=.func (docDef d.name d.params d.body d.scope pm cd doc)->s₁.heap.CodeRec cd d.name->mg d.name=some (.ref fa) ->
   s₁.heap.get? a=some { cls:=.type "list", data:=.seq vs.toArray }->IntsAre vs ns->ns.length<=n->s₁.gens=#[] ->
   codeAny (model l.prog w) callerA (.call (.ref fa) ⟨[.ref a],[]⟩) (λr s'=>r=.ok (.ret (.bool true))/\OldK s₁.heap s'.heap/\s'.os=s₁.os/\AllBare s'.gens) s₁) :
  WalkO q B XP YP l.row.toRowW d [] (λf vs=>PySem.call f vs):=by
 intro w s₀ s₁ mg mb G Y fa o pm cd doc dV kV ho hd O hD U hg aa ab as F ac ad Z ae;obtain rfl:dV=.none:=Dflts.none hD N;obtain rfl:kV=.none:=Dflts.noKw hD;obtain ⟨a,vs,ns,rfl,rfl,L,D,qV⟩:=ZC hn F Z;refine enter_call (codeAny_mono (call w s₀ s₁ mg mb fa o pm cd doc a vs ns G Y ho (fd_plain hd) O U L D qV hg) λr s' hq=>?_);obtain ⟨rfl,h2,h3,h4⟩:=hq;exact ⟨.inl ⟨.bool true,.bool true,[],rfl,λ_=>rfl,.bool true,ZD l _,λ_=>⟨List.Pairwise.nil,λ_ hm=>(nomatch hm)⟩⟩,h2,h3,h4⟩
end Att
namespace L2
open PySem PySem.Spec PyProof.Rows
theorem OO:∀{vs:List Value}{ns:List Int},IntsAre vs ns->Vals (ns.map V.int) vs
 | _,_,.nil=>.nil
 | _,_,.cons n t h=>.cons ⟨t,rfl⟩ (OO h)
noncomputable def Ze2 (H:Hp):Prop:=∀b,H b=none\/∃o xs,H b=some (.frz o (.lst xs))
theorem Za1 {P:Program}{w:World}{K:W.Frag}{mg mb:Str->Option Value}{CX:CXT}{k:Nat}{fa a:Addr}{fd:FuncData}{x:Str}{sp:Sp}{B:Shared}{vs:List Value}{ns:List Int}(KX:K.In B.heap)(U:B.heap.Ns mainGlobals mg)(G:B.heap.Ns builtinsNs mb)(ae:∀x:Str,x ≠ "__name__" -> mb x=bootBuiltins x)(Y:B.heap.NoLimit)(hg:B.gens=#[])(ha:B.heap.get? a=some { cls:=.type "list", data:=.seq vs.toArray })(hi:IntsAre vs ns)(hl:ns.length<=sizeLine)(hr:Room k callerA)(F:∀base:Heap,K.In base->base.Ns mainGlobals mg->GV P w K mg base CX k fa fd [x] sp)(O:∀(s:Shared)(u:Value),BindsTo s fd ⟨[u],[]⟩ [(x,u)])(af:∀H:Hp,Ze2 H->SqL K H a (ns.map V.int)->sp [.ref a] H (λv _=>v=.bl true) λ_ _ _=>False)(ag:∀H e s',CX [] H B (λ_ _ _=>False) e s'->False) :
  codeAny (model P w) callerA (.call (.ref fa) ⟨[.ref a],[]⟩) (λr s'=>r=.ok (.ret (.bool true))/\OldK B.heap s'.heap/\s'.os=B.os/\AllBare s'.gens) B:=by
 have rv:=OO hi;have Z:=hi.length;have N:∀H:Hp,Ze2 H->SqL K H a (ns.map V.int)->HOk P w H B.heap->(∀b,H b≠none->b=a)->(H a≠none->K.lookup a=none) ->
   codeAny (model P w) callerA (.call (.ref fa) ⟨[.ref a],[]⟩) (λr s'=>r=.ok (.ret (.bool true))/\OldK B.heap s'.heap/\s'.os=B.os/\AllBare s'.gens) B:=by
  intro H hO hS aa hA hK;have D:∀{b:Addr}{o:Obj},B.heap.get? b=some o->H b=none->(ZaU B.heap H).get? b=some o:=λe n=>ZaV e n;have ah:∀{b:Addr}{o:Obj}{es:Array DictEntry}{ep:Nat},B.heap.get? b=some o->o.data=.dict es ep->H b=none:=λ{b o es ep} e d=>by
   cases q:H b with
   | none=>rfl
   | some u=>
    have e':b=a:=hA b (by rw [q];simp);subst e';rw [ha] at e;cases e;have d':Data.seq vs.toArray _=Data.dict es ep:=d;cases d'
  have L:∀{b:Addr}{m:Str->Option Value},B.heap.Ns b m->(ZaU B.heap H).Ns b m:=λ{b m} ⟨o,es,ep,e,d,r⟩=>⟨o,es,ep,D e (ah e d),d,r⟩;have ab:K.In (ZaU B.heap H):=λb o e=>D (KX b o e) (by
   cases q:H b with
   | none=>rfl
   | some u=>
    have e':b=a:=hA b (by rw [q];simp);subst e';rw [hK (by rw [q];simp)] at e;cases e)
  have hM:Mod K mg (ZaU B.heap H):=⟨ab,L U,⟨mb,L G,ae⟩,let ⟨mc,h1,h2⟩:=Y;⟨mc,L h1,h2⟩⟩;have e0:ZeI P w K mg (ZaU B.heap H) callerA [] B H:=⟨rfl,hM,λb o e=>Zcr e,Nat.le_of_eq (Zg _ _),trivial,λb G=>absurd (show b∈([]:List Addr) from G) (by simp),aa,.of_eq hg⟩;refine codeAny_mono ((F _ ab (L U)).run callerA [] B H ⟨[.ref a],[]⟩ [.ref a] [.ref a] _ _ hr e0 (O B (.ref a)) (.cons rfl .nil) (af H hO hS)) λr s' h=>?_;cases r with
  | error e=>exact (ag H e s' h).elim
  | ok fl=>
   cases fl with
   | next=>exact False.elim h
   | brk=>exact False.elim h
   | cont=>exact False.elim h
   | ret u=>
    obtain ⟨v,H',os,ac,un,ad,r',q⟩:=h;have q':v=.bl true:=q;subst q';obtain rfl:u=Value.bool true:=r';refine ⟨rfl,OldK.of_keep λb o e=>?_,os,ac⟩;cases q:H b with
    | none=>exact un.keep b o e q (by intro z;exact absurd (show b∈([]:List Addr) from z) (by simp)) (by simp)
    | some u=>
     rcases hO b with z | ⟨ob,xs,z⟩
     ·rw [q] at z;cases z
     ·have z2:=un.frzs b ob _ z;obtain ⟨e1,_⟩:=aa b _ z;obtain ⟨e2,_⟩:=ad b _ z2;rw [e] at e1;cases e1;exact e2
 cases hk:K.lookup a with
 | some o=>
  have e:=KX a o hk;rw [ha] at e;cases e;refine N (λ_=>none) (λ_=>.inl rfl) (.inr ⟨_,vs.toArray,_,hk,rfl,rfl,rfl,by rw [Yau,Z];exact hl,by simpa using rv⟩) (λb u z=>by have z':(none:Option HO)=some u:=z;cases z') (λb z=>absurd rfl z) λz=>absurd rfl z
 | none=>
  refine N (λb=>if b=a then some (.frz { cls:=.type "list", data:=.seq vs.toArray } (.lst (ns.map V.int))) else none) (λb=>?_) (.inl (.inr ⟨{ cls:=.type "list", data:=.seq vs.toArray },if_pos rfl⟩)) (λb u z=>?_) (λb z=>?_) λ_=>hk
  ·by_cases G:b=a
   ·exact .inr ⟨_,_,if_pos G⟩
   ·exact .inl (if_neg G)
  ·by_cases G:b=a
   ·have z':=(if_pos G).symm.trans z;cases z';subst G;exact ⟨ha,by rw [Yab];exact hl,vs,_,rv,ha⟩
   ·have z':=(if_neg G).symm.trans z;cases z'
  ·by_cases G:b=a
   ·exact G
   ·exact absurd (if_neg G) z
theorem walk_of {l:W.OpenLaw}{n k:Nat}{q:Program}{B:List Str}{XP:(Str->Option Value)->Heap->Prop}{YP:World->Heap->Prop}{d:DefRec}{K:Params->W.Frag}{CX:World->CXT}{sp:World->Sp}{x:Str}(hn:l.most=some n)(N:n<=sizeLine)(O:d.params.defaults=[])(hr:Room k callerA)(hY:∀(w:World)(h:Heap),YP w h->(K w.params).In h)(F:∀(w:World)(mg:Str->Option Value)(fa:Addr)(h:Heap),(K w.params).In h->h.Ns mainGlobals mg->mg d.name=some (.ref fa) ->
   ∃fd:FuncData,(∀(s:Shared)(u:Value),BindsTo s fd ⟨[u],[]⟩ [(x,u)]) /\
    ∀base:Heap,(K w.params).In base->base.Ns mainGlobals mg->GV l.prog w (K w.params) mg base (CX w) k fa fd [x] (sp w))(U:∀(w:World)(H:Hp)(a:Addr)(ns:List Int),ns.length<=n->Ze2 H->SqL (K w.params) H a (ns.map V.int)->sp w [.ref a] H (λv _=>v=.bl true) λ_ _ _=>False)(Z:∀(w:World)(H:Hp)(s:Shared)(e:Value)(s':Shared),CX w [] H s (λ_ _ _=>False) e s'->False) :
  W.WalkO q B XP YP l.row.toRowW d [] (λf vs=>PySem.call f vs):=by
 refine Att.attach_call hn O λw s₀ s₁ mg mb fa o pm cd ab a vs ns G Y ho hd ac aa L D qV hg=>?_;have KX:=hY w _ Y;obtain ⟨fd,hb,hF⟩:=F w mg fa _ KX G.T.g aa;exact Za1 KX G.T.g G.T.b G.T.builtins G.T.nolimit hg L D (Ybc qV N) hr hF hb (λH hO hS=>U w H a ns qV hO hS) λH e s'=>Z w H s₁ e s'
noncomputable def Gr (s:Stmt):Arguments:=match s with
 | .FunctionDef _ a _ _ _ _ _ _ _ _=>a
 | _=>{ posonlyargs:=[],args:=[],vararg:=none,kwonlyargs:=[],kw_defaults:=[],kwarg:=none,defaults:=[] }
noncomputable def Gp (s:Stmt):List Stmt:=match s with
 | .FunctionDef _ _ b _ _ _ _ _ _ _=>b
 | _=>[]
noncomputable def Ge (s:Stmt):Scope:=match s with
 | .FunctionDef _ _ _ _ _ _ sc _ _ _=>sc
 | _=>{ kind:=.function,names:=[],isGenerator:=false,isCoroutine:=false }
noncomputable abbrev CX0:CXT:=λ_ _ _ _ _ _=>False
noncomputable abbrev E0:XK:=λ_ _ _=>False
theorem GU {X:Cx}:Wg CX0 X E0:=λ_ _ _ _ _ _ _ h=>h.elim
structure Fun (K:W.Frag)(x qual:Str)(st:Stmt)(f:Addr)(fd:FuncData):Prop where
 ex:∃(oc:Value)(od:Option Addr)(kV doc pm:Value)(an:Option Addr)(cdv ct:Value)(osl:Array (Option Value)),
  fd=W.fnOf x qual (Gr st) (Gp st) (Ge st) .none kV doc pm an cdv ct/\K.lookup f=some ⟨oc,od,.func fd,osl⟩/\W.codeIn K cdv qual=true
 kp:W.keepIn K (.ref f)=true
section
variable {P:Program}{w:World}{K:W.Frag}{mg:Str->Option Value}{base:Heap}
theorem Fun.ok {x B:Str}{st:Stmt}{f:Addr}{fd:FuncData}{N ps:List Str}{k:Nat}{sp:Sp}(F:Fun K x B st f fd)(S:Gu N ps (Ge st))(len:∀vs H Q E,sp vs H Q E->vs.length=ps.length)(O:∀(D:Value)(A:Around)(outer:List Env)(s:Shared)(H:Hp)(vs:List V)(Q:VK)(E:XK),Room k (A.deeper (envOfC B (Ge st) s.heap.objs.size f D))->sp vs H Q E ->
   ∃t,PSs (ZaQ CX0 P w K mg base N B (Ge st) f D A outer s H E).nox (Gp st) t/\t { nx:=λ_ H'=>Q .non H',rt:=Q } (start N vs) H):GV P w K mg base CX0 (k+1) f fd ps sp:=by
 obtain ⟨oc,od,kV,U,pm,an,D,ct,Y,rfl,Z,G⟩:=F.ex;refine ZdF Z G S len λA outer s H vs Q E hr L=>?_;obtain ⟨t,h,q⟩:=O D A outer s H vs Q E hr L;exact ⟨t,h.nox,q⟩
theorem Fun.binds {x q:Str}{st:Stmt}{f:Addr}{fd:FuncData}{ps:List Str}(F:Fun K x q st f fd)(h:∀(kV B D:Value)(an:Option Addr)(cdv ct:Value)(us:List Value),us.length=ps.length->bindArgs (W.fnOf x q (Gr st) (Gp st) (Ge st) .none kV B D an cdv ct) ⟨us,[]⟩=pure (ps.zip us)):Binds K fd ps []:=by
 obtain ⟨N,O,kV,B,D,an,cdv,ct,G,rfl,U,L⟩:=F.ex;exact .all (h kV B D an cdv ct)
theorem GG {x q:Str}{st:Stmt}{f:Addr}{N:Value}{O G:Option Addr}{F:Array (Option Value)}{kV D L B ct:Value}(l:K.lookup f=some ⟨N,O,.func (W.fnOf x q (Gr st) (Gp st) (Ge st) .none kV D L G B ct),F⟩)(c:W.codeIn K B q=true)(k:W.keepIn K (.ref f)=true):Fun K x q st f (W.fnOf x q (Gr st) (Gp st) (Ge st) .none kV D L G B ct):=⟨⟨N,O,kV,D,L,G,B,ct,F,rfl,l,c⟩,k⟩
end
section
variable {X:Cx}
theorem pv (i:Nat){x:Str}{pos:Pos}(B:X.N[i]?=some x:=by rfl)(D:Vis X.env.scope x:=by first | exact Or.inl rfl | exact Or.inr (Or.inl rfl) | exact Or.inr (Or.inr rfl))(F:(x == ("__debug__" : Str))=false:=by decide)(q:(x == ("__classdict__" : Str))=false:=by decide):PE X (.Name x pos) (ZfX i):=Zds B D F q
end
theorem G5 {A B:Prop}(h:B):if false=true then A else B:=by
 rw [if_neg Yal];exact h
theorem GY {A B:Prop}(h:A):if true=true then A else B:=by
 rw [if_pos rfl];exact h
theorem YK {c A B:Prop}[Decidable c](h1:c->A)(h2:¬ c->B):if c then A else B:=by
 by_cases h:c
 ·rw [if_pos h];exact h1 h
 ·rw [if_neg h];exact h2 h
noncomputable def Same (H H':Hp):Prop:=∀b o,H b=some o->H' b=some o
theorem Same.refl (H:Hp):Same H H:=λ_ _ h=>h
theorem Same.trans {H H1 H2:Hp}(a:Same H H1)(b:Same H1 H2):Same H H2:=λc o h=>b c o (a c o h)
theorem Same.free {H H':Hp}(e:Same H H'){l:Addr}(h:H' l=Option.none):H l=Option.none:=by
 cases q:H l with
 | none=>rfl
 | some o=>
  rw [e l o q] at h;cases h
theorem Same.seq {K:W.Frag}{H H':Hp}{a:Addr}{xs:List V}(e:Same H H')(h:SqL K H a xs):SqL K H' a xs:=by
 rcases h with (h | ⟨o,h⟩) | h
 ·exact .inl (.inl (e _ _ h))
 ·exact .inl (.inr ⟨o,e _ _ h⟩)
 ·exact .inr h
section
variable {prog:Program}{w:World}{A:Around}{R:Result->Shared->Prop}{s:Shared}
theorem Wt {elt qU iter:Expr}{ifs:List Expr}{scope:Scope}{pos:Pos}{it acc:Value}{env:Env}(I:Nat->Shared->Prop)(B:∀n s,I n s->wpAny (model prog w) A (pyNext it) (λr F=>match r with
   | none=>R (.ok .next) F
   | some v=>wpAny (model prog w) A (letOwnedTupleGo qU it v) (λ_ D=>wpAny (model prog w) A (assign qU env v) (λ_ N=>
     wpAny (model prog w) A (forIn ifs true λc r=>if r=true then do let ok <- isTrue c env (eval c env);pure (ForInStep.yield ok) else pure (ForInStep.yield r)) (λok G=>
      if ok=true then wpAny (model prog w) A (eval elt env) (λx O=>
       wpAny (model prog w) A (call (.builtin "list.append") [acc,x]) (λ_ U=>∃m,m<n/\I m U) (λ_ _=>False) O) (λ_ _=>False) G
      else ∃m,m<n/\I m G) (λ_ _=>False) N) (λ_ _=>False) D) (λ_ _=>False) F) (λ_ _=>False) s)(n:Nat)(h:I n s) :
  codeAny (model prog w) A (.compLoop (.ListComp elt [⟨qU,iter,ifs,0⟩] scope pos) 0 it acc env) R s:=by
 have q:∀{E:EX},∀(x:Value)(s:Shared),(λ(_:Value) (_:Shared)=>False) x s->E x s:=λ_ _ z=>False.elim z;refine codeAny_loop rfl I (λn s Z=>?_) n h;show wpAny _ A ((compTurn (.ListComp elt [⟨qU,iter,ifs,0⟩] scope pos) 0 it acc env).onRaise (λx=>do noteFrame x env;theTreesLotGoes x)) _ _ s;refine wpAny_noted ?_;rw [compTurn_list];refine Yaa (wpAny_standAt (Yaa (Ybx (B n s Z) (λr F h1=>?_) q)));cases r with
 | none=>exact Yac h1
 | some v=>
  refine Yaa (Ybx h1 (λ_ D L=>?_) q);refine Yaa (Ybx L (λ_ N h2=>Yaa (Ybx h2 (λok G Y=>?_) q)) q);cases ok with
  | false=>exact Yac ⟨rfl,Y⟩
  | true=>
   exact Yaa (Yaa (Ybx Y (λx O h4=>Yaa (Ybx h4 (λ_ U h5=>Yac (Yac ⟨rfl,h5⟩)) q)) q))
end
noncomputable def Cx.comp (X:Cx)(scope:Scope)(cl:List (Str×Addr))(N:List Str)(C:Addr)(s:Shared)(H:Hp)(fp:List Addr):Cx:=
 { X with N:=N,s₀:=s,H₀:=H,env:=compEnvC scope cl C X.env,outer:=X.stack,ex:=fp,fn:=λ_=>false,pn:=[],xe:=λ_ _=>False }
noncomputable def ZdK (X:Cx)(ifs:List Expr)(t:TT):Prop:=
 ∀(qQ:List (Addr×Obj))(s:Shared)(σ:St)(H:Hp)(Q:Bool->Hp->Prop),Inv X qQ σ H s->t σ H Q ->
  wpAny (model X.prog X.w) X.A (forIn ifs true λc r=>if r=true then do let ok <- isTrue c X.env (eval c X.env);pure (ForInStep.yield ok) else pure (ForInStep.yield r)) (TP X qQ σ Q) X.xe s
noncomputable def WW:TT:=λ_ H Q=>Q true H
theorem GZ {X:Cx}:ZdK X [] WW:=λ_ _ _ H _ I h=>wpAny_tests_nil ⟨H,I,h⟩
theorem OP {X:Cx}{c:Expr}{t:TT}(h:PT X c t):ZdK X [c] t:=λqQ s σ H Q I q=>wpAny_tests_one (h qQ s σ H Q I q)
structure JQ (X:Cx)(scope:Scope)(cl:List (Str×Addr))(own:List Str)(fr:List (Str×Nat)):Prop where
 clos:closureFor scope X.env=pure cl
 nocell:∀y∈scope.names,y.2≠.cell
 kind:scope.kind=.function
 names:∀y∈scope.names,y.2=.local->scope.names.lookup y.1=some .local
 cls:∀y c,cl.lookup y=some c->X.env.cells.lookup y=some c
 has:∀y,((relabel scope X.env).names.lookup y=some .cell\/(relabel scope X.env).names.lookup y=some .free)->∃c,cl.lookup y=some c
 free:∀p∈fr,X.N[p.2]?=some p.1/\(X.env.kindOf p.1=some .cell\/X.env.kindOf p.1=some .free)/\((relabel scope X.env).names.lookup p.1=some .cell\/(relabel scope X.env).names.lookup p.1=some .free)
noncomputable def OA (own:List Str)(fr:List (Str×Nat))(σ:St):St:=own.map (λ_=>none)++fr.map λp=>(σ[p.2]?).join
noncomputable def OB:St->St->Prop
 | [],[]=>True
 | none::r,_::r'=>OB r r'
 | some v::r,some v'::r'=>v=v'/\OB r r'
 | _,_=>False
theorem Ol:∀{a b:St},OB a b->∀(i:Nat)(v:V),a[i]?=some (some v)->b[i]?=some (some v)
 | [],[],_,i,v,h=>by simp at h
 | [],_::_,z,_,_,_=>z.elim
 | none::r,[],z,_,_,_=>z.elim
 | some _::r,[],z,_,_,_=>z.elim
 | some _::r,none::_,z,_,_,_=>z.elim
 | none::r,_::r',z,0,v,h=>by simp at h
 | none::r,_::r',z,i+1,v,h=>by
  have:=Ol (a:=r) (b:=r') z i v (by simpa using h);simpa using this
 | some x::r,some x'::r',z,0,v,h=>by
  obtain ⟨e,_⟩:=z;subst e;simpa using h
 | some x::r,some x'::r',z,i+1,v,h=>by
  have:=Ol (a:=r) (b:=r') z.2 i v (by simpa using h);simpa using this
noncomputable def J7 (J:It)(D:Addr)(g:TG)(tc:TT)(te:TE)(F:St)(W:Nat->Nat->List V->Hp->Prop)(R:Hp->Prop):Prop:=
 ∀i m ys H2,W i m ys H2->(J.stop i H2/\R H2)\/(J.go i H2/\∃N:List V->Hp->Prop,(∀q H',N q H'->∃G,G<m/\W (i+1) G q H')/\∀x L,J.yld i H2 x L->g x F L λB Y=>OB F B/\tc B Y λb O=>
  if b=true then te B O λy U=>U D=some (.lst ys)/\ys.length<sizeLine/\N (ys++[y]) (upd U D (.lst (ys++[y])))
  else N ys O)
noncomputable def ZdL (wi:TI)(g:TG)(tc:TT)(te:TE)(own:List Str)(fr:List (Str×Nat)):TE:=λσ H Q=>wi σ H λJ H1=>∀D,H1 D=none ->
 ∃W:Nat->Nat->List V->Hp->Prop,(∃m,W 0 m [] (upd H1 D (.lst [])))/\J7 J D g tc te (OA own fr σ) W λH2=>Q (.ref D) H2
section
variable {X:Cx}{qU iter elt:Expr}{ifs:List Expr}{scope:Scope}{cl:List (Str×Addr)}{own:List Str}{fr:List (Str×Nat)}{pos:Pos}{wi:TI}{g:TG}{tc:TT}{te:TE}
theorem Inv.sub_pins {qQ q:List (Addr×Obj)}{σ:St}{H:Hp}{s:Shared}(I:Inv X qQ σ H s)(h:∀p∈q,p∈qQ):Inv X q σ H s:=I.pins_of λp B=>I.pin p (Ycf _ (h p B))
theorem ZcG {qQ:List (Addr×Obj)}{σ:St}{H:Hp}{s:Shared}{C:Addr}{fp:List Addr}(S:JQ X scope cl own fr)(I:Inv X qQ σ H s)(D:∀b∈fp,ZaP X qQ H b)(G:s.heap.objs.size<=C)(F:∀b∈fp,b<s.heap.objs.size) :
  (X.comp scope cl (own++fr.map (·.1)) C s H fp).Ok:=by
 refine ⟨I.ok.mod,?_,I.ok.glob,I.ok.blt,G,λx y c h1 h2=>I.ok.inj x y c (S.cls x c h1) (S.cls y c h2),S.has,λx c z=>absurd z (by simp [Cx.comp]),I.ok.hd,I.ok.frames,.inl rfl,
  λb B=>⟨Yao (Ybm (F b B) G),λx c h=>(D b B).2.2.2.2.1 x c (S.cls x c h)⟩,I.bs,Ybc I.ok.bsz I.sz,λb o e B=>?_,λb B z=>?_,I.stack,I.stkFree⟩
 ·show (relabel scope X.env).kind=.function;exact S.kind
 ·rcases (D b B).2.2.2.1 with z | z
  ·exact I.ok.noex b o e z
  ·exact absurd (Ybm (Yah e) (Ybc I.ok.bsz z)) (Yca _)
 ·rcases Yas.mp (I.stkSub b z) with q | q
  ·exact (D b B).2.1 q
  ·exact (D b B).2.2.1 q
theorem Vc (own:List Str)(fr:List (Str×Nat))(σ:St):(OA own fr σ).length=(own++fr.map (·.1)).length:=by
 unfold OA;simp
theorem Vd {qQ:List (Addr×Obj)}{σ:St}{H:Hp}{s:Shared}{it:Addr}{fp:List Addr}{tn:Nat->Heap->Prop}{J:It}{E:EX}{RR:Value->Addr->Result->Shared->Prop}{Rf:Addr->Hp->Prop}(hc:X.calm=true)(S:JQ X scope cl own fr)(I:Inv X qQ σ H s)(T:ZbW X.prog X.w X.K qU J fp it tn)(st:tn 0 s.heap)(hf:∀b∈fp,ZaP X qQ H b)(hg:∀C s H fp,PG (X.comp scope cl (own++fr.map (·.1)) C s H fp) qU g)(ht:∀C s H fp,ZdK (X.comp scope cl (own++fr.map (·.1)) C s H fp) ifs tc)(he:∀C s H fp,PE (X.comp scope cl (own++fr.map (·.1)) C s H fp) elt te)(hw:∀D,H D=none->∃W:Nat->Nat->List V->Hp->Prop,(∃m,W 0 m [] (upd H D (.lst [])))/\J7 J D g tc te (OA own fr σ) W (Rf D))(ao:∀D C s' H',s.heap.objs.size<=C->C≠D->(∃m,s'.heap.Ns C m)->H' C=none->Un (frs X.stack) fp H H' s.heap s'.heap->HOk X.prog X.w H' s'.heap->AllBare s'.gens->s'.os=s.os->Rf D H'->RR (.ref D) C (.ok .next) s') :
  wpAny (model X.prog X.w) X.A (newList []) (λacc s3=>wpAny (model X.prog X.w) X.A (newFunctionEnv scope X.env.globals cl [] X.env.qual none .none (some X.env)) (λaa s4=>
   codeAny (model X.prog X.w) X.A (.compStart (.ListComp elt [⟨qU,iter,ifs,0⟩] scope pos) 0 (.ref it) acc { aa with scope:=relabel scope X.env }) (RR acc aa.locals) s4) E s3) E s:=by
 have ae:∀b∈fp,b<s.heap.objs.size:=λb F=>by
  obtain ⟨o,e,_⟩:=T.obj 0 s.heap st b F;exact Yah e
 have hD:H s.heap.objs.size=none:=I.fresh;obtain ⟨W,⟨m0,w0⟩,ab⟩:=hw s.heap.objs.size hD;have I1:Inv X qQ σ (upd H s.heap.objs.size (.lst [])) { s with heap:=s.heap.push { cls:=.type "list", data:=.seq ([]:List Value).toArray },toks:=s.toks }:=I.lnew .nil (Yav _);refine wpAny_newObj_type (wpAny_newFunctionEnv S.nocell (by intro y hy;simp at hy) (λh1 G L=>?_) S.kind);dsimp only at G L ⊢;generalize hH2:s.heap.push { cls:=.type "list", dict:=none,data:=.seq ([]:List Value).toArray }=H2 at G L ⊢ I1;have az:H2.objs.size=s.heap.objs.size+1:=by rw [<-hH2,Ydj]
 have O:s.heap.objs.size<=H2.objs.size:=by lia
 have ag:s.heap.objs.size≠H2.objs.size:=by lia
 have ah:∀b o,H2.get? b=some o->h1.get? b=some o:=λb o e=>L.extBut b o (Yao (Yah e)) (Yaj _ e);have up:∀b o,s.heap.get? b=some o->h1.get? b=some o:=λb o e=>ah b o (hH2▸Yaj _ e);have Z:=ZcG (C:=H2.objs.size) S I hf O ae;have I0:∀tk,Inv (X.comp scope cl (own++fr.map (·.1)) H2.objs.size s H fp) [] (OA own fr σ) (upd H s.heap.objs.size (.lst [])) { s with heap:=h1,toks:=tk }:=by
  intro tk;have ai:HOk X.prog X.w (upd H s.heap.objs.size (.lst [])) h1:=I1.hok.kept ah;refine ⟨Z,rfl,I.bare,⟨λb o e n _ _=>up b o e,λb o e n _ _=>⟨o.slots,up b o e⟩,λb o e n _=>?_,λb o e _=>⟨o,up b o e⟩,λb xs q=>?_,λb o u q=>?_,λb ps q=>⟨#[],?_⟩⟩,
   ⟨_,G,λi x v e1 e2 e3=>?_⟩,λx c e=>?_,?_,λx c e=>?_,λp hp=>?_,ai,Vc own fr σ⟩
  ·have e':s.heap.get? b=some o:=e;show upd H s.heap.objs.size (.lst []) b=none;rw [GB (Yao (Yah e'))];exact n
  ·rw [GB (Gh q hD)];exact q
  ·rw [GB (Gh q hD)];exact q
  ·have q':H b=some (.tbl ps):=q;rw [GB (Gh q' hD),q'];simp
  ·-- the free names
   have B:(OA own fr σ)[i]?=some (some v):=e2;have ac:(own++fr.map (·.1))[i]?=some x:=e1;unfold OA at B;by_cases hi:i<own.length
   ·rw [Ydr (by simpa using hi),Yaw] at B;cases q:own[i]? with
    | none=>rw [q] at B;cases B
    | some y=>rw [q] at B;cases B
   ·rw [Ydq (by simpa using hi),Yab,Yaw] at B;rw [Ydq (by lia),Yaw] at ac;cases q:fr[i-own.length]? with
    | none=>rw [q] at B;cases B
    | some p=>
     rw [q] at ac B;have ex:p.1=x:=Yby ac;have ev:(σ[p.2]?).join=some v:=Yby B;have ap:σ[p.2]?=some (some v):=by
      cases z:σ[p.2]? with
      | none=>rw [z] at ev;cases ev
      | some o=>rw [z] at ev;cases o with
       | none=>cases ev
       | some v'=>have:v'=v:=Yby ev;rw [this]
     obtain ⟨f1,f2,f3⟩:=S.free p (Ybb q);subst ex;obtain ⟨m,hn,hl⟩:=I.loc;have aq:Vis X.env.scope p.1:=by
      rcases f2 with f2 | f2
      ·exact .inr (.inl f2)
      ·exact .inr (.inr f2)
     obtain ⟨u,ru,lk⟩:=hl p.2 p.1 v f1 ap aq;refine ⟨u,ru,?_⟩;rcases lk with ⟨k,_⟩ | ⟨k,c,e,z⟩
     ·rcases f2 with f2 | f2 <;> (rw [f2] at k;cases k)
     ·obtain ⟨c',aj⟩:=S.has p.1 f3;have e':=S.cls _ _ aj;rw [e] at e';cases e';obtain ⟨oc,ho,hd⟩:=z;exact .inr ⟨f3,c,aj,⟨oc,up _ _ ho,hd⟩⟩
  ·obtain ⟨v,oc,ho,hd⟩:=I.cell x c (S.cls x c e);exact ⟨v,oc,up _ _ ho,hd⟩
  ·show upd H s.heap.objs.size (.lst []) H2.objs.size=none;rw [GB (Ne.symm ag)];exact I.hok.fresh O
  ·obtain ⟨v,z⟩:=I.cell x c (S.cls x c e);show upd H s.heap.objs.size (.lst []) c=none;rw [GB (Yao z.lt)];exact I.freeC x c (S.cls x c e)
  ·exact absurd (show p∈([]:List (Addr×Obj)) from hp) (by simp)
 have ar:∀b∈fp,upd H s.heap.objs.size (.lst []) b=none:=λb F=>by rw [GB (Yao (ae b F))];exact (hf b F).1
 have ak:tn 0 h1:=T.keep 0 _ _ st λb F o e=>up b o e;have U:∀{H':Hp},(∀b∈fp,H' b=none)->∀b∈fp,ZaP (X.comp scope cl (own++fr.map (·.1)) H2.objs.size s H fp) [] H' b:=λhn b F=>
  ⟨hn b F,(Z.exf b F).1,Z.exfs b F,.inl F,(Z.exf b F).2,λp hp=>absurd (show p∈([]:List (Addr×Obj)) from hp) (by simp)⟩
 have loop:∀s3:Shared,(∃tk,s3={ s with heap:=h1,toks:=tk }) ->
   codeAny (model X.prog X.w) X.A (.compLoop (.ListComp elt [⟨qU,iter,ifs,0⟩] scope pos) 0 (.ref it) (.ref s.heap.objs.size) (compEnvC scope cl H2.objs.size X.env)) (RR (.ref s.heap.objs.size) H2.objs.size) s3:=by
  rintro s3 ⟨tk,rfl⟩;refine Wt (λn s'=>∃i ys H',Inv (X.comp scope cl (own++fr.map (·.1)) H2.objs.size s H fp) [] (OA own fr σ) H' s'/\tn i s'.heap/\(∀b∈fp,H' b=none)/\W i n ys H') ?_ m0 ⟨0,[],_,I0 tk,ak,ar,w0⟩;rintro n s4 ⟨i,ys,H4,I4,al,am,w4⟩;rcases ab i n ys H4 w4 with ⟨an,q⟩ | ⟨go,N,hN,step⟩
  ·refine thn (T.done (X.comp scope cl (own++fr.map (·.1)) H2.objs.size s H fp) rfl rfl rfl hc i [] s4 _ H4 _ I4 (U am) al an) λr s5 ⟨hr,I5⟩=>?_;subst hr;exact ao _ _ s5 H4 O (Ne.symm ag) ⟨_,I5.loc.choose_spec.1⟩ I5.free I5.base I5.hok I5.bare I5.os q
  ·refine thn (T.item (X.comp scope cl (own++fr.map (·.1)) H2.objs.size s H fp) rfl rfl rfl hc i [] s4 _ H4 _ I4 (U am) al go) λr s5 ⟨u,hr,h5⟩=>?_;subst hr;refine thn h5 λ_ s6 ⟨x,H6,I6,r6,y6,ad,as⟩=>?_;have au:=I6.pinned (U as) (T.obj _ _ ad);refine thn (hg H2.objs.size s H fp _ s6 _ H6 x u _ au r6 (step x H6 y6)) λ_ s7 ⟨σ7,H7,I7,k7,q7⟩=>?_;refine thT (ht H2.objs.size s H fp _ s7 σ7 H7 _ I7 q7) λok s8 H8 I8 q8=>?_;have Y:∀{s9:Shared}{σ9:St}{H9:Hp}{zs:List V},Inv (X.comp scope cl (own++fr.map (·.1)) H2.objs.size s H fp) ([]++We fp s6.heap) σ9 H9 s9->(∀(i:Nat) v,(OA own fr σ)[i]?=some (some v)->σ9[i]?=some (some v))->(∃m',m'<n/\W (i+1) m' zs H9) ->
     ∃m,m<n/\∃i ys H',Inv (X.comp scope cl (own++fr.map (·.1)) H2.objs.size s H fp) [] (OA own fr σ) H' s9/\tn i s9.heap/\(∀b∈fp,H' b=none)/\W i m ys H':=by
    intro s9 σ9 H9 zs I9 hσ ⟨m',hm,w9⟩;refine ⟨m',hm,i+1,zs,H9,(I9.sub_pins (λp hp=>absurd (show p∈([]:List (Addr×Obj)) from hp) (by simp))).weak ?_ hσ,T.keep _ _ _ ad λb F o e=>(I9.pin (b,o) (Ycf _ (Ycf _ (Oh F e)))).1,λb F=>?_,w9⟩
    ·rw [I9.len];exact Vc own fr σ
    ·obtain ⟨o,e,d⟩:=T.obj _ _ ad b F;exact (I9.pin (b,o) (Ycf _ (Ycf _ (Oh F e)))).2.1
   cases ok with
   | false=>exact (if_neg Yal).mpr (Y I8 (Ol k7) (hN _ _ ((if_neg Yal).mp q8)))
   | true=>
    refine (if_pos rfl).mpr ?_;have av:=(if_pos rfl).mp q8;refine thG (he H2.objs.size s H fp _ s8 σ7 H8 _ I8 av) λy s9 yv H9 I9 r9 ⟨aw,hz,q9⟩=>?_;refine thG (Ji _ s9 σ7 H9 (.ref s.heap.objs.size) [yv] (.ref s.heap.objs.size) [y] (λ_ H'=>H'=upd H9 s.heap.objs.size (.lst (ys++[yv]))) I9 rfl (.cons r9 .nil) ⟨_,ys,yv,rfl,rfl,aw,hz,rfl⟩) λ_ a0 _ a1 ax _ ay=>?_;subst ay;exact Y ax (Ol k7) (hN _ _ q9)
 exact codeAny_compStart_list (loop _ ⟨_,rfl⟩) (T.self _ 0 _ _ _ ak (loop _ ⟨_,rfl⟩))
theorem Ve {qQ:List (Addr×Obj)}{σ:St}{H H':Hp}{s s':Shared}{fp:List Addr}(I:Inv X qQ σ H s)(B:∀b∈fp,ZaP X qQ H b)(un:Un (frs X.stack) fp H H' s.heap s'.heap)(F:HOk X.prog X.w H' s'.heap)(q:AllBare s'.gens)(G:s'.os=s.os):Inv X qQ σ H' s':=
 I.call' G un F q λb D=>⟨(B b D).2.2.2.1,(B b D).2.1,(B b D).2.2.2.2.1,(B b D).2.2.2.2.2⟩
theorem XS {qQ:List (Addr×Obj)}{σ q:St}{H H':Hp}{s s':Shared}{C:Addr}{h':Heap}(I:Inv X qQ σ H s)(B:s.heap.objs.size<=C)(D:H' C=none)(F:Inv X qQ q H' s')(G:Heap.SameBut C s'.heap h') :
  Inv X qQ q H' { s' with heap:=h' }:=by
 obtain ⟨L,N,f2,O,U,Y⟩:=I.fpOk B D;exact F.turned (t':=s'.toks) (λb o Z e=>(G.2 b Z).trans e) L N O U Y
theorem Jn (Y:X.calm=true)(S:JQ X scope cl own fr)(hi:PI X qU iter wi)(Z:∀C s H fp,PG (X.comp scope cl (own++fr.map (·.1)) C s H fp) qU g)(ht:∀C s H fp,ZdK (X.comp scope cl (own++fr.map (·.1)) C s H fp) ifs tc)(he:∀C s H fp,PE (X.comp scope cl (own++fr.map (·.1)) C s H fp) elt te)(hs:∀x,foldedSetIterable iter X.env x=pure x:=by intro _;rfl):PE X (.ListComp elt [⟨qU,iter,ifs,0⟩] scope pos) (ZdL wi g tc te own fr):=by
 intro qQ s σ H Q I h;rw [eval_ListComp];refine wpAny_comprehension_free (use:=none) rfl hs S.clos S.kind S.names (thn (hi qQ s σ H _ I h) λv s1 h1=>thn h1 λaa s2 h2=>?_);obtain ⟨it,fp,tn,J,H2,e,F,T,G,U,hw⟩:=h2;subst e;refine Vd (RR:=λacc C=>compPost (model X.prog X.w) X.A X.xe none (EP X qQ σ Q) acc C) Y S F T G U Z ht he hw ?_;rintro D C s' H' hC ab ⟨m,hn⟩ L un N B os q;refine ⟨m,hn,λh' O=>⟨.ref D,H',?_,rfl,q⟩⟩;exact XS (C:=C) (σ:=σ) F hC L (Ve F U un N B os) O
theorem OH {i:Nat}{y:Str}{F B:Pos}(hN:X.N.Nodup)(O:X.N[i]?=some y)(hx:Loc X.env.scope y)(hc:X.calm=true)(S:JQ X scope cl own fr)(hi:PI X qU iter wi)(hg:∀C s H fp,PG (X.comp scope cl (own++fr.map (·.1)) C s H fp) qU g)(ht:∀C s H fp,ZdK (X.comp scope cl (own++fr.map (·.1)) C s H fp) ifs tc)(he:∀C s H fp,PE (X.comp scope cl (own++fr.map (·.1)) C s H fp) elt te)(hf:X.fn y=true\/X.env.scope.names.lookup y=some .local:=by first | exact .inl rfl | exact .inr rfl | assumption)(U:swapsWith (.ListComp elt [⟨qU,iter,ifs,0⟩] scope pos) (some (.Name y F)) B.line X.env=pure true:=by rfl)(hs:∀x,foldedSetIterable iter X.env x=pure x:=by intro _;rfl):PS X (.Assign [.Name y F] (.ListComp elt [⟨qU,iter,ifs,0⟩] scope pos) B) (ZeS (ZdL wi g tc te own fr) (Jd i)):=by
 intro qQ s σ H Dn I h;rw [exec_Assign_Name_used _ _ _ _ U];refine Yaa (wpAny_standAt (Yaa ?_));show wpAny _ X.A (do let _ <- comprehension (.ListComp elt [⟨qU,iter,ifs,0⟩] scope pos) scope X.env _ (newList []) false (eval iter X.env) (some (assign (.Name y F) X.env))) _ _ s;refine Yaa (Ybx (wpAny_comprehension_free (use:=some (assign (.Name y F) X.env)) (Q:=λ_ s'=>SP X qQ Dn .next s') rfl hs S.clos S.kind S.names (thn (hi qQ s σ H _ I h) λv s1 h1=>thn h1 λaf s2 h2=>?_))
  (λ_ s' hq=>Yac (Yac hq)) λ_ _ e=>e)
 obtain ⟨it,fp,tn,J,H2,e,G,T,Y,f2,hw⟩:=h2;subst e;refine Vd (RR:=λacc C=>compPost (model X.prog X.w) X.A X.xe (some (assign (.Name y F) X.env)) (λ_ s'=>SP X qQ Dn .next s') acc C) hc S G T Y f2 hg ht he hw ?_;rintro D C s' H' Z ag ⟨m,hn⟩ aa un ab L os q;have I3:Inv X qQ σ H' s':=Ve G f2 un ab L os;show wpAny _ X.A (assign (.Name y F) X.env (.ref D)) _ _ s';refine wpAny_assign_Name (Wd I3 hN O hx (v:=.ref D) rfl (λs4 I4 ⟨a,ac,ha⟩=>?_) hf);have ad:C≠a:=by
  rcases ha with z | z
  ·rw [z];exact Ydh (Ybm G.lt Z)
  ·obtain ⟨v,q⟩:=G.cell y a z;exact Ydh (Ybm q.lt Z)
 refine ⟨m,hn.sameBut ac ad,λh' ae=>⟨_,H',XS (C:=C) (σ:=σ) G Z aa I4 ae,q⟩⟩
end
noncomputable abbrev XT (J:It)(D:Addr)(g:TG)(tc:TT)(te:TE)(q:St)(R:Hp->Prop)(H1:Hp):Prop:=∃W:Nat->Nat->List V->Hp->Prop,(∃m,W 0 m [] (upd H1 D (.lst [])))/\J7 J D g tc te q W R
theorem Vw {J:It}{n:Nat}{D:Addr}{g:TG}{tc:TT}{te:TE}{G:St}{R:Hp->Prop}{H1:Hp}(B:Nat->List V->Hp->Prop)(h0:B 0 [] (upd H1 D (.lst [])))(U:∀i ys H,i<=n->B i ys H->(i<n->J.go i H)/\(i=n->J.stop i H))(Y:∀i ys H x H',i<n->B i ys H->J.yld i H x H'->g x G H' λL Z=>OB G L/\tc L Z λb N=>if b=true then te L N λy O=>O D=some (.lst ys)/\ys.length<sizeLine/\B (i+1) (ys++[y]) (upd O D (.lst (ys++[y]))) else B (i+1) ys N)(hd:∀ys H,B n ys H->R H):XT J D g tc te G R H1:=by
 refine ⟨λi m ys H=>m=n-i/\i<=n/\B i ys H,⟨_,rfl,Yav _,h0⟩,?_⟩;rintro i m ys H ⟨rfl,hi,p⟩;have q:=U i ys H hi p;by_cases F:i<n
 ·exact .inr ⟨q.1 F,B (i+1),λaa H' p'=>⟨n-(i+1),by lia,rfl,F,p'⟩,λx H' y=>Y i ys H x H' F p y⟩
 ·have e:i=n:=by lia
  subst e;exact .inl ⟨q.2 rfl,hd ys H p⟩
theorem G3 {K:W.Frag}{a D:Addr}{xs:List V}{g:TG}{tc:TT}{te:TE}{B:St}{R:Hp->Prop}{H1:Hp}(q:Nat->List V->Hp->Prop)(h0:q 0 [] (upd H1 D (.lst [])))(F:∀i ys H,i<=xs.length->q i ys H->SqL K H a xs)(O:∀i x ys H,xs[i]?=some x->q i ys H->g x B H λG U=>OB B G/\tc G U λb L=>if b=true then te G L λy N=>N D=some (.lst ys)/\ys.length<sizeLine/\q (i+1) (ys++[y]) (upd N D (.lst (ys++[y]))) else q (i+1) ys L)(Y:∀ys H,q xs.length ys H->R H):XT (Itl K a) D g tc te B R H1:=Vw q h0 (λi s H hi p=>⟨λz=>⟨xs,xs[i],F i s H hi p,by simp [z]⟩,λe=>⟨xs,F i s H hi p,by lia⟩⟩) (λi s H x H' z p y=>by obtain ⟨rfl,y⟩:=y;exact O i x s _ (y xs (F i s _ (Ybw z) p)) p) Y
theorem Om {lo:Int}{n:Nat}{D:Addr}{g:TG}{tc:TT}{te:TE}{B:St}{R:Hp->Prop}{H1:Hp}(q:Nat->List V->Hp->Prop)(h0:q 0 [] (upd H1 D (.lst [])))(N:∀i ys H,i<n->q i ys H->g (.int (lo+i)) B H λF O=>OB B F/\tc F O λb G=>if b=true then te F G λy L=>L D=some (.lst ys)/\ys.length<sizeLine/\q (i+1) (ys++[y]) (upd L D (.lst (ys++[y]))) else q (i+1) ys G)(U:∀ys H,q n ys H->R H):XT (Itr lo n) D g tc te B R H1:=Vw q h0 (λi s H hi p=>⟨id,λe=>Nat.le_of_eq e.symm⟩) (λi s H x H' z p y=>by obtain ⟨rfl,rfl⟩:=y;exact N i s _ z p) U
theorem G9 {X:Cx}{scope:Scope}{own:List Str}(q:∀y∈scope.names,y.2≠.free)(F:∀y∈scope.names,y.2≠.cell)(G:scope.kind=.function)(L:∀y∈scope.names,y.2=.local->scope.names.lookup y.1=some .local):JQ X scope [] own []:=by
 have B:(relabel scope X.env).names=scope.names:=by
  unfold relabel;dsimp only;refine (List.map_congr_left λp D=>?_).trans (List.map_id _);obtain ⟨n,k⟩:=p;have:(k == NameKind.free)=false:=by
   have:=q _ D;cases k <;> first | rfl | exact absurd rfl this
  simp [this]
 refine ⟨closureFor_none q,F,G,L,λy c h=>by simp at h,λy h=>?_,λp D=>by simp at D⟩;rw [B] at h;rcases h with h | h
 ·exact absurd rfl (F _ (Ycy h))
 ·exact absurd rfl (q _ (Ycy h))
noncomputable def Za2 (a C:Addr)(h:Heap):Prop:=∃q vs,h.get? a=some q/\q.cls=.ref C/\q.data=.fields vs
noncomputable def Zf8 (a C:Addr):HO:=.ext (Za2 a C)
theorem ObjOk.there {P:Program}{w:World}{H:Hp}{h:Heap}{a:Addr}{u:HO}(ok:ObjOk P w H h a u):∃v,h.get? a=some v:=by
 cases u with
 | lst xs=>obtain ⟨_,_,_,_,e⟩:=ok;exact ⟨_,e⟩
 | tup xs=>obtain ⟨_,_,_,o,e,_⟩:=ok;exact ⟨_,e⟩
 | dK kvs=>obtain ⟨_,_,_,_,o,_,_,e,_⟩:=ok;exact ⟨_,e⟩
 | dT kvs=>obtain ⟨_,_,_,_,o,_,_,e,_⟩:=ok;exact ⟨_,e⟩
 | set S n=>obtain ⟨o,_,_,_,e,_⟩:=ok;exact ⟨_,e⟩
 | ins C dx fs=>obtain ⟨_,_,_,e,_⟩:=ok;exact ⟨_,e⟩
 | own y=>obtain ⟨_,e⟩:=ok;exact ⟨_,e⟩
 | xd fs=>obtain ⟨_,⟨_,_,_,e,_⟩,_⟩:=ok;exact ⟨_,e⟩
 | rng lo hi=>obtain ⟨_,_,_,e⟩:=ok;exact ⟨_,e⟩
 | frz ob u=>obtain ⟨e,_⟩:=ok;exact ⟨_,e⟩
 | tbl ps=>exact ⟨_,show h.get? a=some _ from ok⟩
 | met f y=>exact ⟨_,show h.get? a=some _ from ok⟩
 | ext φ=>obtain ⟨_,⟨_,e⟩,_⟩:=ok;exact ⟨_,e⟩
noncomputable def Ze3 (P:Program)(w:World)(outer:List Env)(H H':Hp)(s:Shared)(a C:Addr)(s':Shared):Prop:=
 ∃(t:Addr)(B:Heap),s'.os=s.os/\AllBare s'.gens/\Un (frs outer) [] H H' s.heap s'.heap/\HOk P w H' s'.heap/\Heap.FlyingW B outer a (.ref C) (.ref t) s'.heap /\
  (∀b o,s'.heap.get? b=some o->H' b≠none->B.get? b=some o)/\(∀b q o,s.heap.get? b=some q->s'.heap.get? b=some o->b ∉ frs outer->B.get? b=some o)
noncomputable def CXr (P:Program)(w:World):CXT:=λq H s E e s'=>∃(a C:Addr)(H':Hp),e=.ref a/\Ze3 P w q H H' s a C s'/\E (.ref C) none H'
section
variable {X:Cx}{qQ:List (Addr×Obj)}{σ:St}{H:Hp}{s:Shared}
noncomputable def XU (X:Cx)(E:XK):Prop:=∀(qQ:List (Addr×Obj))(σ:St)(H:Hp)(s:Shared)(h':Heap)(a C:Addr)(vs:List Value),Inv X qQ σ H s->Heap.MadeExcOf s.heap h' a (.ref C) vs->E (.ref C) none H->X.xe (.ref a) { s with heap:=h' }
theorem J8 {P:Program}{w:World}{K:W.Frag}{mg:Str->Option Value}{base:Heap}{N:List Str}{B:Str}{scope:Scope}{f:Addr}{L:Value}{A:Around}{outer:List Env}{s:Shared}{H:Hp}{E:XK} :
  XU (ZaQ (CXr P w) P w K mg base N B scope f L A outer s H E) E:=by
 intro qQ σ H1 s1 h' a C vs I hx hE;have ad:=I.ok.frames;have aa:s1.heap.FunFrames base (envOfC B scope s.heap.objs.size f L::outer):=I.stack;have ae:∀Y∈(envOfC B scope s.heap.objs.size f L::outer),∀b,Y.frame=some b->b∈frs (envOfC B scope s.heap.objs.size f L::outer):=λY he b O=>Ydp.mpr ⟨Y,he,O⟩;have D:∀b o,s1.heap.get? b=some o->b ∉ frs (envOfC B scope s.heap.objs.size f L::outer)->(W.hideAll s1.heap (frs (envOfC B scope s.heap.objs.size f L::outer))).get? b=some o:=λb o e n=>W.hideAll_get _ e n;refine wpAny_leaves_madeW (base:=W.hideAll s1.heap (frs (envOfC B scope s.heap.objs.size f L::outer))) ad rfl (λb o q=>W.of_hideAll _ q) (W.funFrames_hide aa ae) hx λh2 t fl tu tn sm=>?_;refine ⟨a,C,H1,rfl,⟨t,_,I.os,I.bare,⟨λb o e n O _=>?_,λb o e n O _=>?_,λb o e n _=>?_,λb o e _=>?_,I.base.tups,I.base.frzs,I.base.tbls⟩,λb u e=>?_,fl,λb o e n=>?_,λb o0 o e0 e nb=>?_⟩,hE⟩
 ·have F:s1.heap.get? b=some o:=I.base.keep b o e n O (by intro z;exact absurd (show b∈([]:List Addr) from z) (by simp));refine fl.1 b o (D b o F λz=>?_);rcases Yas.mp (I.stkSub b z) with q | q
  ·exact absurd (Ybm (Yah e) I.ok.above) (by rw [q];exact Yca _)
  ·exact O q
 ·obtain ⟨sl,F⟩:=I.base.slot b o e n O (by intro z;exact absurd (show b∈([]:List Addr) from z) (by simp));have nf:∀vs,o.data≠.fields vs:=by
   obtain ⟨_,o',G,Z⟩:=I.funs.mem (show b∈(outer.filterMap (·.frame)) from O);rw [F] at G;cases G;exact Z
  obtain ⟨ab,U⟩:=sm b { o with slots:=sl } (hx.keeps b _ F) nf;exact ⟨ab,U⟩
 ·exact I.base.free b o e n (by intro z;exact absurd (show b∈([]:List Addr) from z) (by simp))
 ·obtain ⟨o1,F⟩:=I.base.there b o e (by intro z;exact absurd (show b∈([]:List Addr) from z) (by simp));by_cases O:b∈frs (envOfC B scope s.heap.objs.size f L::outer)
  ·obtain ⟨_,o',G,Z⟩:=aa.mem O;rw [F] at G;cases G;obtain ⟨ab,U⟩:=sm b o1 (hx.keeps b _ F) Z;exact ⟨_,U⟩
  ·exact ⟨o1,fl.1 b o1 (D b o1 F O)⟩
 ·have trk:∀c v,s1.heap.get? c=some v->H1 c≠none->h2.get? c=some v:=λc v q hc=>fl.1 c v (D c v q λz=>hc (I.stkFree c z));refine (I.hok b u e).stay (λc v hc q=>trk c v q ?_) (λ_ q=>q) λ_ _ q=>q;rcases hc with z | z
  ·rw [z,e];simp
  ·rw [z];simp
 ·cases q':H1 b with
  | none=>exact absurd q' n
  | some u=>
   obtain ⟨v,q⟩:=(I.hok b u q').there;have nb:b ∉ frs (envOfC B scope s.heap.objs.size f L::outer):=λz=>n (I.stkFree b z);have U:=fl.1 b v (D b v q nb);rw [e] at U;cases U;exact D b _ q nb
 ·obtain ⟨o1,F⟩:=I.base.there b o0 e0 (by intro z;exact absurd (show b∈([]:List Addr) from z) (by simp));have ac:b ∉ frs (envOfC B scope s.heap.objs.size f L::outer):=λz=>by
   rcases Yas.mp (I.stkSub b z) with q | q
   ·exact absurd (Ybm (Yah e0) I.ok.above) (by rw [q];exact Yca _)
   ·exact nb q
  have U:=fl.1 b o1 (D b o1 F ac);have e':h2.get? b=some o:=e;rw [e'] at U;cases U;exact D b _ F ac
theorem Za3 {P:Program}{w:World}{outer:List Env}{H H':Hp}{s s':Shared}{a C t:Addr}{B h2:Heap}(un:Un (frs outer) [] H H' s.heap s'.heap)(Y:HOk P w H' s'.heap)(fr:s'.heap.FunFrames B outer)(trk:∀b o,s'.heap.get? b=some o->H' b≠none->B.get? b=some o)(N:∀b o0 o,s.heap.get? b=some o0->s'.heap.get? b=some o->b ∉ frs outer->B.get? b=some o)(st:B.StaysIn h2)(sm:s'.heap.UpToSlots h2) :
  Un (frs outer) [] H H' s.heap h2/\HOk P w H' h2:=by
 refine ⟨⟨λb o e n F O=>st b o (N b o o e (un.keep b o e n F O) F),λb o e n F O=>?_,un.free,λb o e O=>?_,un.tups,un.frzs,un.tbls⟩,λb u e=>?_⟩
 ·obtain ⟨sl,L⟩:=un.slot b o e n F O;obtain ⟨_,o',D,G⟩:=fr.mem F;rw [L] at D;cases D;obtain ⟨U,Z⟩:=sm b _ L G;exact ⟨U,Z⟩
 ·obtain ⟨o1,L⟩:=un.there b o e O;by_cases F:b∈frs outer
  ·obtain ⟨_,o',D,G⟩:=fr.mem F;rw [L] at D;cases D;obtain ⟨U,Z⟩:=sm b _ L G;exact ⟨_,Z⟩
  ·exact ⟨o1,st b o1 (N b o o1 e L F)⟩
 ·refine (Y b u e).stay (λc v hc q=>st c v (trk c v q ?_)) (λ_ q=>q) λ_ _ q=>q;rcases hc with z | z
  ·rw [z,e];simp
  ·rw [z];simp
end
abbrev Zf9:List Value:=[.type "ValueError", .type "Exception", .type "BaseException", .type "object"]
abbrev ExcC (K:W.Frag)(C:Addr):Prop:=W.excIn K C Zf9 "ValueError.__new__" = true
theorem Xe {K:W.Frag}{h:Heap}{C:Addr}(Y:K.In h)(ex:ExcC K C):∃B D F,(∃Z aa ab ac ad G ae L N j0 j1 j2 j3 j5,
  h.get? C=some (excClassObj Z aa C D ab B ac ad G ae L N j0 j1 j2 j3 j5 "ValueError.__new__"))/\h.Ns D F/\F "__init__" = none/\OwnTail h Zf9 B:=by
 have ex':=ex;unfold ExcC W.excIn at ex';split at ex'
 ·rename_i N O U lk;have af:=Y _ _ lk;split at ex'
  ·rename_i C' q j0 j1 j2 j3 n' j5 hm hs;rw [Ycj,Ycj,Ycj,Ycj,Ycj,Ybg,Ybg,Ybg] at ex';obtain ⟨⟨⟨⟨⟨z1,z2⟩,z3⟩,z4⟩,z5⟩,z6⟩:=ex';have ag:O.hasDel=false:=by simpa using z3
   subst z1 z2;cases O with
   | mk a1 a2 a3 a4 a5 a6 a7 a8 a9 a10 a11=>
    have ah:a3=.ref C'::q:=hm;have ai:a11=false:=ag;subst ah ai;have es:U=#[j0,j1,j2,j3,some (.builtin "ValueError.__new__"),j5]:=by
     cases U with
     | mk l=>exact Ybi Array.mk hs
    subst es;exact ⟨q,a4,_,⟨_,_,_,_,_,_,_,_,_,_,_,_,_,_,af⟩,.of_isNs (W.isNs_of_in Y z5),W.nsMap_none_of_in Y z5 z6,W.tail_of_in Y z4⟩
  ·cases ex'
 ·cases ex'
section
variable {X:Cx}
noncomputable def ZdM (C:Addr)(E:XK)(t:TA):TS:=λ_ σ H=>t σ H λvs H1=>vs.length<=sizeLine/\E (.ref C) none H1
theorem Vx {C:Addr}{E:XK}{x:Str}{np qG pos:Pos}{e:Expr}{es:List Expr}{t:TA}(hc:X.calm=true)(hR:XU X E)(hg:Gl X x)(U:X.mg x=some (.ref C))(ex:ExcC X.K C)(ha:PA X (e::es) t)(Y:(x == ("__debug__" : Str))=false:=by decide)(he:starEach (e::es) X.env=(false,eval e X.env)::starEach es X.env:=by rfl)(Z:(backTo qG (starEach es X.env)).any (·.1)=false:=by rfl) :
  PS X (.Raise (some (.Call (.Name x np) (e::es) [] qG)) none pos) (ZdM C E t):=by
 intro qQ s σ H D I h;obtain ⟨B,aa,ac,⟨ad,ae,af,ag,ah,G,ai,L,aj,j0,j1,j2,j3,j5,hC⟩,hN,ak,T⟩:=Xe I.mod.kin ex;refine wpAny_Raise_call_subT (C:=C) (nm:=ad) (q:=ae) (N:=aa) (bs:=af) (bm:=B) (hdct:=ag) (sn:=ah) (sub:=G) (ab:=ai) (col:=L) (dd:=aj) (k0:=j0) (k1:=j1) (k2:=j2) (k3:=j3) (k5:=j5)
  PySem.F.excBase_ValueError (mN:=ac) (T.hasType PySem.F.excBase_ValueError.hasBase) (I.ok.hd hc) (by rw [he];show (false || (backTo qG (starEach es X.env)).any (·.1))=false;rw [Z];rfl) ak (Xa I hg U ⟨rfl,?_⟩ Y)
 have hA:=ha qG qQ s σ H _ I h;rw [he] at hA ⊢;refine Calls.evalArgs_plain (thn hA λus s2 ⟨vs,H2,O,r2,hl,q2⟩=>?_);exact ⟨rfl,by rw [<-r2.length];exact hl,O.bk _ _ hC,hN.keeps O.bk,T.keeps O.bk,λh' a U=>hR qQ σ H2 s2 h' a C us O U q2⟩
variable {qQ:List (Addr×Obj)}{σ:St}{H:Hp}{s:Shared}
end
theorem XV {M:Model}{h:Heap}{a C:Addr}(q:Za2 a C h):W.Looks M h (typeOf (.ref a)) (.ref C):=by
 obtain ⟨B,vs,e,c,d⟩:=q;exact c▸(W.Looks.ld e).andThen .now
theorem ZE {K:W.Frag}{prog:Program}{w:World}{A:Around}{E:EX}{Q:Option Value->Shared->Prop}{s:Shared}{a C:Addr}(B:K.In s.heap)(hx:Za2 a C s.heap)(G:W.findIn K (.ref C) "__getattribute__" = some (some (.builtin "BaseException.__getattribute__")))(D:W.findIn K (.ref C) "__getattr__" = some none)(L:W.findIn K (.ref C) "__class__" = some (some (.builtin "object.__class__")))(hm:W.mroIn K C (.type "object")=some true)(hB:W.subIn K (.ref C) (.type "BaseException")=some true)(h:Q (some (.ref C)) { s with toks:=s.toks+1 }):wpAny (model prog w) A (getAttr? (.ref a) "__class__") Q E s:=by
 have q:=XV (M:=model prog w) hx;have L1:=W.looks_findIn (M:=model prog w) B G;have L2:=W.looks_findIn (M:=model prog w) B D;have L3:=W.looks_findIn (M:=model prog w) B L;have L4:=W.looks_subIn (M:=model prog w) B hB;obtain ⟨h0,g,d,t,Z⟩:=s;have f3:=PySem.F.attr_ValueError.ga.bind (.ref a);unfold getAttr? getAttrBy? getAttrBy;refine Yaa (wpAny_mkText (Yaa (Ydu (Yce (Yaa (q.at (Yaa (L1.at ?_))))))));dsimp only;have N:(onTheHeap (Value.ref C) && Value.builtin "BaseException.__getattribute__" == Value.builtin "object.__getattribute__")=false:=by
  have z:(Value.builtin "BaseException.__getattribute__" == Value.builtin "object.__getattribute__")=false:=by decide +kernel
  rw [z,Bool.and_false]
 rw [N];simp only [Bool.false_eq_true,if_false];unfold getAttrByItsOwn
 repeat (any_goals (first | assumption | with_reducible refine q.at ?_ | with_reducible refine L2.at ?_ | wp_step))
 have O:splitId "BaseException.__getattribute__" = some ("BaseException", "__getattribute__"):=by decide +kernel
 have U:builtinKind "BaseException.__getattribute__" = some .slot:=by decide +kernel
 have aa:=PySem.F.args_bexc_ga (.ref a) (.str (Str.ofString "__class__") t);refine codeAny_call_builtin PySem.F.attr_ValueError.ga.plain PySem.F.entry_bexc_ga ?_;show wpAny _ _ (checkBuiltinCall "BaseException.__getattribute__" ⟨[.ref a,.str (Str.ofString "__class__") t],[]⟩) _ _ _;simp only [checkBuiltinCall,U,O];refine Yaa ?_;unfold isInstance;have f5:=PySem.F.typeOf_object_class;have f6:=PySem.F.slot_gs_get.lookup;have f7:=PySem.F.slot_gs_set.lookup;have ab:(⟨h0,g,d,t+1,Z⟩:Shared).TypeIs (.builtin "object.__class__") "getset_descriptor" := PySem.F.typeOf_object_class;refine Yaa (q.at (L4.at ?_))
 repeat (any_goals (first | assumption | with_reducible refine q.at ?_ | with_reducible refine L3.at ?_ | wp_step))
 have Lo:W.Looks (model prog w) h0 (isSubtype (.ref C) (.type (".".intercalate ("object.__class__".cutAt '.').dropLast))) true:=by
  rw [PySem.F.owner_object_class];exact W.looks_mroIn B hm
 have Y:(⟨h0,g,d,t+1,Z⟩:Shared).TypeIs (.builtin "object.__class__") "getset_descriptor" := PySem.F.typeOf_object_class;refine codeAny_call_builtin PySem.F.slot_gs_get.plain PySem.F.entry_gs_get (PySem.F.slot_gs_get.check _ _ _ _ _ _ _ _ Y (PySem.F.args_gs_get _ _ _) ?_)
 repeat (any_goals (first | assumption | with_reducible refine q.at ?_ | with_reducible refine Lo.at ?_ | wp_step))
 refine ⟨Code.quiet_builtin _ (by decide +kernel),Ycu PySem.F.entry_object_class ?_⟩
 repeat (any_goals (first | assumption | with_reducible refine q.at ?_ | wp_step))
structure Ze4 (K:W.Frag)(C:Addr):Prop where
 ex:ExcC K C
 ga:W.findIn K (.ref C) "__getattribute__" = some (some (.builtin "BaseException.__getattribute__"))
 nga:W.findIn K (.ref C) "__getattr__" = some none
 cl:W.findIn K (.ref C) "__class__" = some (some (.builtin "object.__class__"))
 ob:W.mroIn K C (.type "object")=some true
 be:W.subIn K (.ref C) (.type "BaseException")=some true
theorem XW {K:W.Frag}{a C:Addr}(k:Ze4 K C):W.KitX K (.ref a) (.ref C) (Za2 a C) where
 ty:=λ_ _ _ p=>XV p
 it:=λM h KX _=>by
  obtain ⟨_,_,_,⟨_,_,_,_,_,_,_,_,_,_,_,_,_,_,hC⟩,_⟩:=Xe KX k.ex;intro A Q E s kk q;unfold isType loadHead;exact Yaa (wpAny_loadPart (kk _ _ hC) (Yac q))
 ne:=λh tp dd its n sl KX htp=>by
  obtain ⟨_,_,_,⟨_,_,_,_,_,_,_,_,_,_,_,_,_,_,hC⟩,_⟩:=Xe KX k.ex;refine Yej.mpr λq=>?_;have e:C=tp:=Value.ref.inj (Ybg.mp q);rw [<-e,hC] at htp;have z:=Ybi Obj.data (Yby htp);unfold excClassObj at z;cases z
 ca:=λKX p q=>ZE KX p k.ga k.nga k.cl k.ob k.be q
noncomputable def Wu:V->Value
 | .ty n=>.type n
 | .ref a=>.ref a
 | _=>.none
noncomputable def ZG:V->Bool
 | .ty _=>true
 | .ref _=>true
 | _=>false
theorem RelV.cls {c:V}{u:Value}(r:RelV c u)(h:ZG c=true):u=Wu c:=by
 cases c with
 | ty n=>exact r
 | ref a=>exact r
 | _=>cases h
theorem Vals.cls:∀{cs:List V}{us:List Value},Vals cs us->cs.all ZG=true->us=cs.map Wu
 | _,_,.nil,_=>rfl
 | _,_,.cons r t,h=>by
  rw [List.all_cons,Ycj] at h;rw [Ybe,r.cls h.1,Vals.cls t h.2]
noncomputable def Zga (K:W.Frag):List V->Hp->VK->Prop:=λxs H Q=>∃x c b,xs=[x,c]/\Q (.bl b) H /\
 ((∃t,YI K H x t/\ZG c=true/\W.kitOne K t (Wu c)=some b) \/
  (∃a C,x=.ref a/\H a=some (Zf8 a C)/\Ze4 K C/\ZG c=true/\W.kitOne K (.ref C) (Wu c)=some b) \/
  (∃a C q cs,x=.ref a/\H a=some (Zf8 a C)/\Ze4 K C/\c=.ref q/\H q=some (.tup cs)/\cs.all ZG=true/\W.kitAny K (.ref C) (cs.map Wu)=some b))
theorem Za4 {X:Cx}:JD X (.builtin "isinstance") (Zga X.K):=by
 intro qQ s σ H xs us Q I O h;obtain ⟨x,c,b,rfl,q,h⟩:=h;obtain ⟨u,U,rfl,D,F⟩:=O.two;have fin:∀tk,EP X qQ σ Q (.bool b) { s with toks:=tk }:=λtk=>⟨.bl b,H,I.tok tk,rfl,q⟩;rcases h with ⟨t,ty,B,e⟩ | ⟨a,C,rfl,ha,k,B,e⟩ | ⟨a,C,N,cs,rfl,ha,k,rfl,Y,B,e⟩
 ·rw [F.cls B];exact Zw I D ty e fin
 ·rw [F.cls B];cases (show u=Value.ref a from D);obtain ⟨p,_⟩:=I.hok a _ ha;exact Ycs (XW k) I.kIn p e (λz=>nomatch z) fin
 ·cases (show u=Value.ref a from D);cases (show U=Value.ref N from F);obtain ⟨p,_⟩:=I.hok a _ ha;obtain ⟨_,its,r,o,Z,co,n,dn⟩:=I.hok N _ Y;obtain ⟨G,aa,L,ab⟩:=o;cases (show G=.type "tuple" from co);cases (show L=.seq its.toArray n from dn);exact W.kia_tup (its:=its) (XW k) I.kIn p Z (by rw [r.cls B];exact e) (λz=>nomatch z) fin
mutual
inductive DatV (K:W.Frag)(H:Hp):V->PyData->Prop
 | non:DatV K H .non .none
 | bl (b:Bool):DatV K H (.bl b) (.bool b)
 | int (i:Int):DatV K H (.int i) (.int i)
 | str (x:Str):DatV K H (.str x) (.str x)
 | lst {a:Addr} {xs:List V} {ds:List PyData}:SqL K H a xs->DatVs K H xs ds->DatV K H (.ref a) (.list ds)
 | tup {a:Addr} {xs:List V} {ds:List PyData}:SqT K H a xs->DatVs K H xs ds->DatV K H (.ref a) (.tuple ds)
inductive DatVs (K:W.Frag)(H:Hp):List V->List PyData->Prop
 | nil:DatVs K H [] []
 | cons {x:V} {d:PyData} {xs:List V} {ds:List PyData}:DatV K H x d->DatVs K H xs ds->DatVs K H (x::xs) (d::ds)
end
section
variable {X:Cx}{qQ:List (Addr×Obj)}{σ:St}{H:Hp}{s:Shared}
mutual
theorem DatV.reads (I:Inv X qQ σ H s):∀{x:V}{d:PyData}{u:Value},DatV X.K H x d->RelV x u->∃q,Reads s.heap u d q
 | _,_,_,.non,r=>by cases r;exact ⟨_,.none⟩
 | _,_,_,.bl b,r=>by cases r;exact ⟨_,.bool b⟩
 | _,_,_,.int i,r=>by obtain ⟨t,rfl⟩:=r;exact ⟨_,.int i t⟩
 | _,_,_,.str x,r=>by obtain ⟨t,rfl⟩:=r;exact ⟨_,.str x t⟩
 | _,_,_,.lst hq hs,r=>by
  cases r;obtain ⟨B,D,⟨o,n,e,c,L,F⟩,_⟩:=I.list hq;obtain ⟨q,G⟩:=DatVs.reads I hs D;exact ⟨_,.list e c F (by simpa using G)⟩
 | _,_,_,.tup hq hs,r=>by
  cases r;obtain ⟨B,D,⟨o,e,c,n,F⟩,_⟩:=I.tuple hq;obtain ⟨q,G⟩:=DatVs.reads I hs D;exact ⟨_,.tuple e c F (by simpa using G)⟩
theorem DatVs.reads (I:Inv X qQ σ H s):∀{xs:List V}{ds:List PyData}{us:List Value},DatVs X.K H xs ds->Vals xs us->∃q,ReadsAll s.heap us ds q
 | _,_,_,.nil,.nil=>⟨_,.nil⟩
 | _,_,_,.cons h hs,.cons r rs=>by
  obtain ⟨q,ra⟩:=DatV.reads I h r;obtain ⟨bs,B⟩:=DatVs.reads I hs rs;exact ⟨_,.cons ra B⟩
end
end
noncomputable def Zgb (K:W.Frag)(q:Bool):R2:=λx y H Q=>∃B D,DatV K H x B/\DatV K H y D/\SeqAt.shaped B=true/\SeqAt.shaped D=true/\Q (.bl (q != PyData.eqv B D)) H
theorem ZdN {X:Cx}(B:X.A.units+64<cLine):OpR X (compareOp .NotEq) (Zgb X.K true):=by
 intro qQ s σ H x y v u Q I D F h;obtain ⟨G,L,h1,h2,N,O,q⟩:=h;obtain ⟨Z,U⟩:=h1.reads I D;obtain ⟨bs,Y⟩:=h2.reads I F;exact ne_dataH U Y N O B ⟨.bl _,H,I,by cases PyData.eqv G L <;> rfl,q⟩
noncomputable def Lt2 (p:Nat)(a:Int):Prop:=a.natAbs<2 ^ p
theorem Lt2.bits {a:Int}{n:Nat}(h:Lt2 n a):Builtin.Int.intBits a<=n:=by
 unfold Builtin.Int.intBits;by_cases z:a=0
 ·subst z;exact Yav _
 ·have q:a.natAbs≠0:=by lia
  have B:¬ ((a == 0)=true):=by simpa using z
  rw [if_neg B];exact Nat.succ_le_of_lt ((Nat.log2_lt q).mpr h)
noncomputable def Ze5 (i j:Int):Prop:=∃p q,Lt2 p i/\Lt2 q j/\p<=100000/\q<=100000
theorem ZcH {X:Cx}:OpR X (binaryOp .Mult) (rI Ze5 λi j=>.int (i * j)):=opI λi j _ _ _ _ _ B q=>by
 obtain ⟨p,r,h1,h2,D,F⟩:=B;have e:(2:Nat) ^ 20=1048576:=by decide
 exact mul_int q (.of_bits (by have:=h1.bits;lia) (by have:=h2.bits;lia))
noncomputable def Ze6 (i j:Int):Prop:=0<j/\Lt2 9000 j
theorem On {X:Cx}:OpR X (binaryOp .FloorDiv) (rI Ze6 λi j=>.int (i / j)):=opI λi j _ _ _ _ _ B q=>by
 have h1:(0:Int)<j:=B.1;have h2:j.natAbs<2 ^ 9000:=B.2;refine floordiv_int (by lia) (by rw [Int.fdiv_eq_ediv_of_nonneg i (by lia)];exact q) (.inl (PyProof.noPylong_of_log2 ?_));exact (Nat.log2_lt (by lia)).mpr h2
theorem Same.new {H:Hp}{p:Addr}{o:HO}(h:H p=none):Same H (upd H p o):=λb u e=>by rw [GB (Gh e h)];exact e
theorem nwU {H:Hp}{p:Addr}{o:HO}(h:H p=none):∃H1,upd H p o=H1/\Same H H1/\H1 p=some o:=⟨_,rfl,Same.new h,Gb⟩
theorem Same.put {H H1:Hp}{p:Addr}{o:HO}(s:Same H H1)(h:H p=none):Same H (upd H1 p o):=λb u e=>by rw [GB (Gh e h)];exact s b u e
theorem Gv {H:Hp}{p b:Addr}{o u:HO}(h:H b=some u)(n:b≠p):upd H p o b=some u:=by rw [GB n];exact h
inductive Prs (H:Hp):List V->List (Int×Int)->Prop
 | nil:Prs H [] []
 | cons {p:Addr} {a b:Int} {xs:List V} {rs:List (Int×Int)}:H p=some (.tup [.int a,.int b])->Prs H xs rs->Prs H (.ref p::xs) ((a,b)::rs)
theorem Prs.len {H:Hp}{xs:List V}{rs:List (Int×Int)}(h:Prs H xs rs):xs.length=rs.length:=by
 induction h with
 | nil=>rfl
 | cons _ _ ih=>rw [Yck,Yck,ih]
theorem Prs.snoc {H:Hp}{xs:List V}{rs:List (Int×Int)}(h:Prs H xs rs){p:Addr}{a b:Int}(e:H p=some (.tup [.int a,.int b])):Prs H (xs++[.ref p]) (rs++[(a,b)]):=by
 induction h with
 | nil=>exact .cons e .nil
 | cons e1 _ ih=>exact .cons e1 ih
theorem Prs.keep {H H':Hp}{xs:List V}{rs:List (Int×Int)}(h:Prs H xs rs)(k:∀p ys,H p=some (.tup ys)->H' p=some (.tup ys)):Prs H' xs rs:=by
 induction h with
 | nil=>exact .nil
 | cons e1 _ ih=>exact .cons (k _ _ e1) ih
theorem Prs.same {H H':Hp}{xs:List V}{rs:List (Int×Int)}(h:Prs H xs rs)(k:Same H H'):Prs H' xs rs:=h.keep λp ys e=>k p _ e
theorem OQ {H:Hp}{l:Addr}{zs:List V}{o:HO}(h:H l=some (.lst zs)):∀p ys,H p=some (.tup ys)->upd H l o p=some (.tup ys):=λp ys e=>Gv e (Ow e h (λz=>by cases z))
theorem JX {H:Hp}{l:Addr}{o:HO}(h:H l=none):∀p ys,H p=some (.tup ys)->upd H l o p=some (.tup ys):=λp ys e=>Gv e (Gh e h)
noncomputable def prD (r:Int×Int):PyData:=.tuple [.int r.1,.int r.2]
theorem Prs.dats {K:W.Frag}{H:Hp}{xs:List V}{rs:List (Int×Int)}(h:Prs H xs rs):DatVs K H xs (rs.map prD):=by
 induction h with
 | nil=>exact .nil
 | cons e _ ih=>exact .cons (.tup (SqT.of e) (.cons (.int _) (.cons (.int _) .nil))) ih
theorem ZcI (r q:Int×Int):PyData.eqv (prD r) (prD q)=decide (r=q):=by
 obtain ⟨a,b⟩:=r;obtain ⟨c,d⟩:=q;simp only [prD,PyData.eqv,PyData.eqvAll,Prod.mk.injEq];by_cases h1:a=c <;> by_cases h2:b=d <;> simp [h1,h2]
theorem ZH:∀rs qs:List (Int×Int),PyData.eqvAll (rs.map prD) (qs.map prD)=decide (rs=qs)
 | [],[]=>by simp [PyData.eqvAll]
 | [],_::_=>by simp [PyData.eqvAll]
 | _::_,[]=>by simp [PyData.eqvAll]
 | r::rs,q::qs=>by
  rw [Ybe,Ybe];simp only [PyData.eqvAll,ZcI,ZH rs qs];by_cases h1:r=q <;> by_cases h2:rs=qs <;> simp [h1,h2]
theorem Xf:∀rs:List (Int×Int),PyData.canLayAll0 (rs.map prD)=true
 | []=>by simp [PyData.canLayAll0]
 | r::rs=>by
  rw [Ybe];simp [PyData.canLayAll0,prD,PyData.canLay0,Xf rs]
theorem UJ:∀rs:List (Int×Int),PyData.depthAll (rs.map prD)<=2
 | []=>by simp [PyData.depthAll]
 | r::rs=>by
  have ih:=UJ rs;rw [Ybe];simp only [PyData.depthAll,prD,PyData.depth]
  lia
theorem YL (rs:List (Int×Int)):SeqAt.shaped (.list (rs.map prD))=true:=by
 unfold SeqAt.shaped;rw [Ycj];refine ⟨by simp only [PyData.canLay0];exact Xf rs,Yae ?_⟩;have:=UJ rs;simp only [PyData.depth]
 lia
theorem Vf (n:Int)(rs:List (Int×Int)):SeqAt.shaped (.tuple [.int n,.list (rs.map prD)])=true:=by
 unfold SeqAt.shaped;rw [Ycj];have:=UJ rs;refine ⟨by simp only [PyData.canLay0,PyData.canLayAll0,Xf rs,Bool.and_self],Yae ?_⟩;simp only [PyData.depth,PyData.depthAll]
 lia
theorem ZcJ (n m:Int)(rs q:List (Int×Int)):PyData.eqv (.tuple [.int n,.list (rs.map prD)]) (.tuple [.int m,.list (q.map prD)])=(decide (n=m) && decide (rs=q)):=by
 simp only [PyData.eqv,PyData.eqvAll,ZH,Bool.and_true];by_cases h:n=m <;> simp [h]
section
variable {P:Program}{w:World}{K:W.Frag}{mg:Str->Option Value}{base:Heap}
theorem Fun.okR {x B:Str}{st:Stmt}{f:Addr}{fd:FuncData}{N ps:List Str}{k:Nat}{sp:Sp}(F:Fun K x B st f fd)(S:Gu N ps (Ge st))(len:∀vs H Q E,sp vs H Q E->vs.length=ps.length)(O:∀(D:Value)(A:Around)(outer:List Env)(s:Shared)(H:Hp)(vs:List V)(Q:VK)(E:XK),Room k (A.deeper (envOfC B (Ge st) s.heap.objs.size f D))->sp vs H Q E ->
   ∃t,PSs (ZaQ (CXr P w) P w K mg base N B (Ge st) f D A outer s H E) (Gp st) t/\t { nx:=λ_ H'=>Q .non H',rt:=Q } (start N vs) H):GV P w K mg base (CXr P w) (k+1) f fd ps sp:=by
 obtain ⟨oc,od,kV,U,pm,an,D,ct,Y,rfl,Z,G⟩:=F.ex;refine ZdF Z G S len λA outer s H vs Q E hr L=>?_;obtain ⟨t,h,q⟩:=O D A outer s H vs Q E hr L;exact ⟨t,h,q⟩
theorem ZcK {X:Cx}:Wg (CXr X.prog X.w) X E0:=λ_ _ _ _ _ _ _ ⟨_,_,_,_,_,h⟩=>h.elim
end
section
variable {X:Cx}
theorem Wv {x:Str}{T:String}{pos:Pos}(q:X.mg x=none)(B:bootBuiltins x=some (.type T))(D:Gl X x:=by rfl)(F:x ≠ "__name__" := by decide)(G:(x == ("__debug__" : Str))=false:=by decide):PE X (.Name x pos) (tC (.ty T)):=Zcs D q B rfl F G
end
theorem OR:bootBuiltins "isinstance" = some (.builtin "isinstance"):=by first | rfl | decide +kernel
theorem Jo:bootBuiltins "tuple" = some (.type "tuple"):=by first | rfl | decide +kernel
theorem OS:bootBuiltins "list" = some (.type "list"):=by first | rfl | decide +kernel
theorem ZI:bootBuiltins "bool" = some (.type "bool"):=by first | rfl | decide +kernel
theorem XX:bootBuiltins "int" = some (.type "int"):=by first | rfl | decide +kernel
theorem Uy {K:W.Frag}{t:Value}:W.kitOne K t t=some true:=by
 unfold W.kitOne;rw [if_pos (beq_self_eq_true t)]
section
variable {X:Cx}(K:W.Frag)
theorem ZdO (h:X.K=K:=by rfl):JD X (.builtin "isinstance") (Zga K):=h▸Za4
theorem J3 (h:X.K=K:=by rfl):IxR X (Zf5 K):=h▸ZcB
theorem Jg (h:X.K=K:=by rfl):IxR X (Zf6 K):=h▸ZdG
theorem kIn (h:X.K=K:=by rfl):OpR X (compareOp .In) (rIn K false):=h▸Zz
theorem Zb2 (h:X.K=K:=by rfl):OpR X (compareOp .NotIn) (rIn K true):=h▸Wo
theorem Zb3 (h:X.K=K:=by rfl):JD X (.builtin "len") (λxs H Q=>∃p ys,xs=[.ref p]/\(SqL K H p ys\/SqT K H p ys)/\Q (.int ys.length) H):=h▸Wp
theorem Xg (h:X.K=K:=by rfl):JD X (.type "list") (λxs H Q=>∃p ys,xs=[.ref p]/\(SqL K H p ys\/SqT K H p ys)/\∀l,H l=none->Q (.ref l) (upd H l (.lst ys))):=h▸Wq
theorem ZeJ (q:X.A.units+64<cLine)(h:X.K=K:=by rfl):OpR X (compareOp .NotEq) (Zgb K true):=h▸ZdN q
theorem kSl (h:X.K=K:=by rfl):SlR X (Zf7 K):=h▸ZcC
theorem Zb4 {es:List Expr}{k:Nat}{t:TGs}{n:Nat}{pos:Pos}(B:X.calm=true)(h:PGs X es t)(D:X.K=K:=by rfl)(F:(assignEach es X.env).length=n:=by rfl)(q:(assignEach es X.env).findIdx? (·.1)=none:=by rfl):PG X (.Tuple es k pos) (ZfZ K n t):=D▸Zdy B h F q
theorem JL {tg l:Expr}{tl:TE}(q:PE X l tl)(h:X.K=K:=by rfl):PI X tg l (ZdA K tl):=h▸Zct q
end
end L2
namespace L2
open PySem
theorem Vy {H H2:Hp}{l t:Addr}{xs:List V}{rs:List (Int×Int)}{a b:Int}(s:Same H H2)(D:H l=none)(h2:H2 l=some (.lst xs))(F:Prs H2 xs rs)(B:H2 t=none) :
  Same H (upd (upd H2 t (.tup [.int a,.int b])) l (.lst (xs++[.ref t])))/\upd (upd H2 t (.tup [.int a,.int b])) l (.lst (xs++[.ref t])) l=some (.lst (xs++[.ref t])) /\
   Prs (upd (upd H2 t (.tup [.int a,.int b])) l (.lst (xs++[.ref t]))) (xs++[.ref t]) (rs++[(a,b)]):=by
 have q:t≠l:=λz=>by rw [z,h2] at B;cases B
 have G:Same H (upd H2 t (.tup [.int a,.int b])):=s.put (s.free B);refine ⟨G.put D,Gb,?_⟩;have L:=F.keep (JX (o:=.tup [.int a,.int b]) B);have N:=L.keep (OQ (H:=upd H2 t (.tup [.int a,.int b])) (l:=l) (zs:=xs) (o:=.lst (xs++[.ref t])) (Gv h2 (Ne.symm q)));exact N.snoc (by rw [GB q,Gb])
end L2
namespace L2
open PySem PySem.Spec PyProof.Rows
noncomputable def AllP {α:Type}(P:α->Prop):List α->Prop
 | []=>True
 | x::r=>P x/\AllP P r
theorem AllP.mem {α:Type}{P:α->Prop}:∀{l:List α},AllP P l->∀x∈l,P x
 | _::_,h,_,.head _=>h.1
 | _::_,h,x,.tail _ m=>AllP.mem h.2 x m
theorem Gq {X:Cx}{scope:Scope}{cl:List (Str×Addr)}{own:List Str}{fr:List (Str×Nat)}(L:List (Str×NameKind))(q:closureFor scope X.env=pure cl)(F:(relabel scope X.env).names=L)(O:∀y∈scope.names,y.2≠.cell)(U:scope.kind=.function)(Y:∀y∈scope.names,y.2=.local->scope.names.lookup y.1=some .local)(B:AllP (λp=>X.env.cells.lookup p.1=some p.2) cl)(G:AllP (λp=>(p.2=.cell\/p.2=.free)->∃c,cl.lookup p.1=some c) L)(D:AllP (λp=>X.N[p.2]?=some p.1/\(X.env.kindOf p.1=some .cell\/X.env.kindOf p.1=some .free)/\(L.lookup p.1=some .cell\/L.lookup p.1=some .free)) fr):JQ X scope cl own fr:=
 ⟨q,O,U,Y,λy c h=>B.mem (y,c) (Ycy h),λy h=>by
  rw [F] at h;rcases h with h | h
  ·exact G.mem _ (Ycy h) (.inl rfl)
  ·exact G.mem _ (Ycy h) (.inr rfl),λp Z=>by
  rw [F];exact D.mem p Z⟩
theorem G6 {k:NameKind}{P:Prop}(h:k=.cell\/k=.free)(h1:(k == .cell)=false:=by rfl)(h2:(k == .free)=false:=by rfl):P:=by
 rcases h with z | z
 ·subst z;exact absurd h1 (by decide)
 ·subst z;exact absurd h2 (by decide)
noncomputable def GX (n:Int)(rs:List (Int×Int)):Prop:=1<=n/\n<=16/\rs.length<=30/\(∀p∈rs,0<=p.1/\p.1<p.2/\p.2<n)/\rs.Nodup
noncomputable instance (n:Int) (rs:List (Int×Int)):Decidable (GX n rs):=by unfold GX;infer_instance
theorem Prs.get {H:Hp}:∀{xs:List V}{rs:List (Int×Int)},Prs H xs rs->∀{i:Nat}{x:V},xs[i]?=some x->∃t r,x=.ref t/\H t=some (.tup [.int r.1,.int r.2])/\rs[i]?=some r
 | _,_,.nil,_,_,h=>by simp at h
 | _,_,.cons (a:=a) (b:=b) e _,0,_,h=>by
  simp at h;subst h;exact ⟨_,(a,b),rfl,e,rfl⟩
 | _,_,.cons _ r,i+1,x,h=>by
  obtain ⟨t,q,h1,h2,h3⟩:=Prs.get r (i:=i) (x:=x) (by simpa using h);exact ⟨t,q,h1,h2,by simpa using h3⟩
theorem Prs.app {H:Hp}{xs ys:List V}{rs q:List (Int×Int)}(h:Prs H xs rs)(k:Prs H ys q):Prs H (xs++ys) (rs++q):=by
 induction h with
 | nil=>exact k
 | cons e _ ih=>exact .cons e ih
theorem Prs.erase {H:Hp}:∀{xs:List V}{rs:List (Int×Int)},Prs H xs rs->∀i:Nat,Prs H (xs.eraseIdx i) (rs.eraseIdx i)
 | _,_,.nil,_=>.nil
 | _,_,.cons _ r,0=>r
 | _,_,.cons e r,i+1=>.cons e (Prs.erase r i)
theorem GO {t u:TS}{D:Ends}{σ:St}{H:Hp}(B:St->Hp->Prop)(h2:∀ q H',B q H'->u D q H')(h1:(∀ q H',B q H'->u D q H')->t { D with nx:=u D } σ H):ZfY t u D σ H:=h1 h2
theorem Ze7 {n:Nat}{r:Int}(h0:0<=r)(h1:r<n):seqIndex? r n=some r.toNat:=by
 have h:ixN n r=some r.toNat:=by
  unfold ixN;rw [if_pos h0,if_pos h1]
 exact (Xd h).1
theorem Vz {α:Type}:∀(ps rs:List α)(k:Nat)(y:α),ps[k]?=some y->((rs++[y])++ps.eraseIdx k).Perm (rs++ps)
 | [],_,k,y,h=>by simp at h
 | x::r,rs,0,y,h=>by
  simp at h;subst h;rw [Ybl];exact List.Perm.refl _
 | x::r,rs,k+1,y,h=>by
  have ih:=Vz r [] k y (by simpa using h);rw [List.eraseIdx_cons_succ,Ybl];refine Ycz rs ?_;have q:(y::r.eraseIdx k).Perm r:=by simpa using ih
  exact (List.Perm.swap x y _).trans (q.cons x)
theorem XY:∀{xs:List V}{us:List Value},xs.length=us.length->(∀(i:Nat) x u,xs[i]?=some x->us[i]?=some u->RelV x u)->Vals xs us
 | [],[],_,_=>.nil
 | [],_::_,h,_=>by simp at h
 | _::_,[],h,_=>by simp at h
 | x::xs,u::us,h,k=>.cons (k 0 x u rfl rfl) (XY (by simpa using h) λi y v e1 e2=>k (i+1) y v (by simpa using e1) (by simpa using e2))
section
variable {X:Cx}(K:W.Frag)
noncomputable def ZcL:List V->Hp->VK->Prop:=λxs H Q=>∃(p:Addr)(ns:List Int),xs=[.ref p]/\SqL K H p (ns.map V.int)/\ns.length<64/\∀(l:Addr)(ns':List Int),H l=none->ns'.Perm ns->ns'.Pairwise (· <= ·)->Q (.ref l) (upd H l (.lst (ns'.map V.int)))
theorem ZcM (h:X.K=K:=by rfl):JD X (.builtin "sorted") (ZcL K):=by
 subst h;intro qQ s σ H xs us Q I G h;obtain ⟨p,ns,rfl,L,N,q⟩:=h;obtain ⟨u,rfl,O⟩:=G.one;cases O;obtain ⟨D,r,U,Y⟩:=I.list L;have Z:=r.length;rw [Yab] at Z;refine sorted_ints U.isList (Oj r) (by lia) λout B h1 h2 h3=>?_;obtain ⟨e,he⟩:=sortedAll_at s.heap D out;have F:=OO h1;have qV:(B.map V.int).length<=sizeLine:=by
  have:=h2.length_eq;rw [Yab] at Y ⊢
  lia
 refine ⟨.ref _,_,I.laid (a:=s.heap.objs.size+1) (t':=s.toks) (o:=.lst (B.map V.int)) (λb o e=>sortedAll_old e) (Ydt _) ⟨qV,out.toList,e,F,he⟩,rfl,q _ B (I.hok.fresh (Ydt _)) h2 h3⟩
end
section
variable {X:Cx}
theorem OI:UnR X (unaryOp .USub) (rU λi=>.int (-i)):=by
 intro qQ s σ H x v Q I B h;obtain ⟨i,rfl,q⟩:=h;obtain ⟨t,rfl⟩:=B;exact neg_int ⟨.int (-i),H,I.tok _,⟨_,rfl⟩,q⟩
theorem Zb5 {xs:List V}{k:Nat}:Uc xs none (some (k:Int))=xs.take k:=by
 unfold Uc;rw [HT.sIx_none,HT.sIx_nat,List.drop_zero,Nat.sub_zero];by_cases h:k<=xs.length
 ·rw [Yda h]
 ·rw [Yek (by lia),Ybz,Yeq (by lia)]
theorem Za5 {xs:List V}{k:Nat}:Uc xs (some (k:Int)) none=xs.drop k:=by
 unfold Uc;rw [HT.sIx_none,HT.sIx_nat];by_cases h:k<=xs.length
 ·rw [Yda h,Yeq (by rw [Yco];exact Yaf _)]
 ·rw [Yek (by lia),List.drop_length,Yer (by lia),List.take_nil]
theorem UK {K:W.Frag}{H:Hp}:∀ns:List Int,DatVs K H (ns.map V.int) (ns.map PyData.int)
 | []=>.nil
 | n::ns=>.cons (.int n) (UK ns)
theorem VA:∀ns:List Int,PyData.canLayAll0 (ns.map PyData.int)=true
 | []=>by simp [PyData.canLayAll0]
 | n::ns=>by
  rw [Ybe];simp [PyData.canLayAll0,PyData.canLay0,VA ns]
theorem Uf:∀ns:List Int,PyData.depthAll (ns.map PyData.int)<=1
 | []=>by simp [PyData.depthAll]
 | n::ns=>by
  have ih:=Uf ns;rw [Ybe];simp only [PyData.depthAll,PyData.depth]
  lia
theorem UL (ns:List Int):SeqAt.shaped (.list (ns.map PyData.int))=true:=by
 unfold SeqAt.shaped;rw [Ycj];have:=Uf ns;refine ⟨by simp only [PyData.canLay0];exact VA ns,Yae ?_⟩;simp only [PyData.depth]
 lia
theorem VB (ns ms:List Int):PyData.eqv (.list (ns.map PyData.int)) (.list (ms.map PyData.int))=decide (ns=ms):=by
 rw [<-W.ked_eqvAll];simp only [PyData.eqv]
theorem Za6 {P:Program}{w:World}{K:W.Frag}{mg:Str->Option Value}{base:Heap}{N:List Str}{D:Str}{scope:Scope}{f:Addr}{U:Value}{A:Around}{outer:List Env}{s:Shared}{H:Hp}{E:XK} :
  Wg (CXr P w) (ZaQ (CXr P w) P w K mg base N D scope f U A outer s H E) E:=by
 intro qQ σ H1 s1 ev s' I h;obtain ⟨a,C,H',rfl,⟨t,B,os,Y,un,Z,fl,trk,aa⟩,hE⟩:=h;have ad:=I.ok.frames;have nox:∀b:Addr,b ∉ (ZaQ (CXr P w) P w K mg base N D scope f U A outer s H E).ex:=λb z=>absurd (show b∈([]:List Addr) from z) (by simp);refine wpAny_leaves_onW ad rfl fl λh2 G sm=>?_;obtain ⟨u2,k2⟩:=Za3 (t:=t) (a:=a) (C:=C) un Z fl.2.2.1 trk aa G.1 sm;have u1:Un (frs (envOfC D scope s.heap.objs.size f U::outer)) [] H H1 s.heap s1.heap:=Un.mono I.base (λb F=>by
  have ae:b∈frs outer:=F;obtain ⟨L,he,q⟩:=Ydp.mp ae;exact Ydp.mpr ⟨L,Ybr _ he,q⟩) (λb F=>absurd F (nox b))
 have O:=u1.trans u2;have ab:∀b o,s.heap.get? b=some o->b ∉ frs outer->b ∉ frs (envOfC D scope s.heap.objs.size f U::outer):=λb o e F z=>by
  rcases Yas.mp (I.stkSub b z) with q | q
  ·exact absurd (Ybm (Yah e) I.ok.above) (by rw [q];exact Yca _)
  ·exact F q
 have ac:∀b,b∈frs outer->b∈frs (envOfC D scope s.heap.objs.size f U::outer):=λb F=>by
  obtain ⟨L,he,q⟩:=Ydp.mp F;exact Ydp.mpr ⟨L,Ybr _ he,q⟩
 refine ⟨a,C,H',rfl,⟨t,B,os.trans I.os,Y,⟨λb o e n F hx=>O.keep b o e n (ab b o e F) hx,λb o e n F hx=>O.slot b o e n (ac b F) hx,O.free,O.there,O.tups,O.frzs,O.tbls⟩,k2,G,λb o e n=>?_,λb o0 o e0 e nb=>?_⟩,hE⟩
 ·cases q':H' b with
  | none=>exact absurd q' n
  | some u=>
   obtain ⟨v,q⟩:=(Z b u q').there;have e1:=trk b v q n;have e2:=G.1 b v e1;have e':h2.get? b=some o:=e;rw [e'] at e2;cases e2;exact e1
 ·obtain ⟨o1,e1⟩:=u1.there b o0 e0 (by simp);obtain ⟨o2,e2⟩:=un.there b o1 e1 (by simp);have e3:=aa b o1 o2 e1 e2 (ab b o0 e0 nb);have e4:=G.1 b o2 e3;have e':h2.get? b=some o:=e;rw [e'] at e4;cases e4;exact e3
theorem Vals.drop' {xs:List V}{us:List Value}(h:Vals xs us):∀k:Nat,Vals (xs.drop k) (us.drop k):=by
 induction h with
 | nil=>intro k;rw [List.drop_nil,List.drop_nil];exact .nil
 | cons r t ih=>
  intro k;cases k with
  | zero=>exact .cons r t
  | succ k=>rw [List.drop_succ_cons,List.drop_succ_cons];exact ih k
noncomputable def Ite (K:W.Frag)(a:Addr):It:=
 ⟨λi H=>∃xs x,SqL K H a xs/\xs[i]?=some x,λi H x H'=>∃T y,x=.ref T/\H T=none/\H'=upd H T (.tup [.int (i:Nat),y])/\∀xs,SqL K H a xs->xs[i]?=some y,λi H=>∃xs,SqL K H a xs/\xs.length<=i⟩
theorem ZJ {P:Program}{w:World}{K:W.Frag}{elts:List Expr}{k:Nat}{pos:Pos}(a e it:Addr)(hne:e≠it) :
  ZbW P w K (.Tuple elts k pos) (Ite K a) [e,it] e (λi h=>(∃old,IsEnum h e it ((i:Nat):Int) old)/\h.IsListIter it a i) where
 mem:=by simp
 obj:=λi h st b hb=>by
  obtain ⟨⟨old,he⟩,⟨o,ei,c,d⟩⟩:=st;rcases Yas.mp hb with rfl | hb
  ·exact ⟨_,he,λv z=>by
    have z':Data.fields _=Data.cell v:=z;cases z'⟩
  ·have eb:b=it:=by simpa using hb
   subst eb;exact ⟨o,ei,λv z=>by rw [d] at z;cases z⟩
 keep:=λi h h' st q=>by
  obtain ⟨⟨old,he⟩,hi⟩:=st;exact ⟨⟨old,q e (by simp) _ he⟩,hi.at λo ho=>q it (by simp) o ho⟩
 item:=by
  intro X hP hw hK hc i qQ s σ H E I hf st hg;subst hP hw hK;obtain ⟨xs,x,hq,hx⟩:=hg;obtain ⟨its,rv,p,hz⟩:=I.list hq;obtain ⟨u,hu,ru⟩:=rv.get hx;obtain ⟨⟨old,he⟩,hit⟩:=st;refine wpAny_pyNext_enum_item he hit p.isList (x:=u) (by simpa using hu) hne λh1 heo hit1 ht1 hz1 hk1=>?_;refine ⟨_,rfl,wpAny_letOwnedTupleGo_enum (s:={ s with heap:=h1,toks:=s.toks+1 }) heo λh2 he2 hs2=>?_⟩;have hs2':Heap.SameBut e h1 h2:=hs2;have hfr:H s.heap.objs.size=none:=I.fresh;have hel:e<s.heap.objs.size:=Yah he;have kk:∀b o,b ∉ [e,it]->s.heap.get? b=some o->h2.get? b=some o:=λb o hb q=>by
   have n1:b≠e:=λz=>hb (by simp [z]);have n2:b≠it:=λz=>hb (by simp [z]);exact (hs2'.2 b n1).trans (hk1 b o n1 n2 q)
  have nT:∀b o,s.heap.get? b=some o->b≠s.heap.objs.size:=λb o q=>Yao (Yah q);have trk:∀c u,H c=some u->c ∉ [e,it]:=λc u q z=>by
   rw [(hf c z).1] at q;cases q
  refine ⟨.ref s.heap.objs.size,upd H s.heap.objs.size (.tup [.int (i:Nat),x]),I.call' (ch:=[e,it]) rfl ⟨λb o q _ _ hb=>kk b o hb q,λb o q _ _ hb=>⟨o.slots,kk b o hb q⟩,λb o q n _=>by rw [GB (nT b o q)];exact n,
   λb o q hb=>⟨o,kk b o hb q⟩,λb ys q=>by rw [GB (Gh q hfr)];exact q,λb o u q=>by rw [GB (Gh q hfr)];exact q,λb ps q=>⟨#[],by rw [GB (Gh q hfr),q];simp⟩⟩ (λb v q=>?_) I.bare (λb hb=>?_),
   rfl,⟨_,x,rfl,hfr,rfl,λys hy=>by rw [I.list_inj hy hq];exact hx⟩,⟨⟨_,by rw [Int.natCast_add];exact he2⟩,hit1.extBut hs2'.extBut (Ne.symm hne)⟩,λb hb=>?_⟩
  ·by_cases hb:b=s.heap.objs.size
   ·subst hb;rw [Gb] at q;cases q;refine ⟨by have h16:=Ybf.symm;rw [<-h16];show 2<=16777216;lia,[.int (i:Nat) s.toks,u],.cons ⟨_,rfl⟩ (.cons ru .nil),⟨_,(hs2'.2 _ (Ydh hel)).trans ht1,rfl,_,rfl⟩⟩
   ·rw [GB hb] at q;refine (I.hok b v q).stay (λc v' hc z=>kk c v' ?_ z) (λc z=>by rw [GB (Gh z hfr)];exact z) λc ys z=>by rw [GB (Gh z hfr)];exact z
    rcases hc with rfl | hc
    ·exact trk _ _ q
    ·exact trk _ _ hc
  ·obtain ⟨f0,f1,f2,f3,f4,f5⟩:=hf b hb;exact ⟨f3,f1,f4,f5⟩
  ·have ho:∃o,s.heap.get? b=some o:=by
    rcases Yas.mp hb with rfl | hb
    ·exact ⟨_,he⟩
    ·have eb:b=it:=by simpa using hb
     subst eb;obtain ⟨o,ei,_⟩:=hit;exact ⟨o,ei⟩
   obtain ⟨o,ho⟩:=ho;rw [GB (nT b o ho)];exact (hf b hb).1
 done:=by
  intro X hP hw hK hc i qQ s σ H E I hf st hg;subst hP hw hK;obtain ⟨xs,hq,hx⟩:=hg;obtain ⟨its,rv,p,hz⟩:=I.list hq;obtain ⟨⟨old,he⟩,hit⟩:=st;obtain ⟨f0,f1,f2,f3,f4,f5⟩:=hf it (by simp);have hl:=rv.length;exact wpAny_pyNext_enum_end (I.ok.hd hc) he hit p.isList (by simp;lia) λh' eb=>⟨rfl,I.turned (t':=s.toks) (λb o hb q=>eb b o hb q) f0 f1 f3 f4 f5⟩
 self:=λ_ _ _ _ _ ⟨⟨_,he⟩,_⟩ h=>wpAny_pyIter_enum he h
noncomputable def ZdP (K:W.Frag)(ta:TA):TI:=λσ H R=>ta σ H λvs H1=>∃a xs,vs=[.ref a]/\SqL K H1 a xs/\R (Ite K a) H1
theorem ZcN {D:List Expr}{k:Nat}{N:Pos}{l:Expr}{ta:TA}{p pos:Pos}(O:Gl X "enumerate")(U:X.mg "enumerate" = none)(ha:PA X [l] ta)(Y:starEach [l] X.env=[(false,eval l X.env)]:=by rfl) :
  PI X (.Tuple D k N) (.Call (.Name "enumerate" p) [l] [] pos) (ZdP X.K ta):=by
 intro qQ s σ H R I h;refine Call_ (U7 I O U boot_enumerate (Yew (thG (ha pos qQ s σ H _ I h) λus B vs H1 F Z q1=>?_) Y rfl));obtain ⟨a,xs,e,hq,q⟩:=q1;subst e;obtain ⟨u,rfl,ru⟩:=Z.one;cases ru;obtain ⟨aa,rv,pl,hz⟩:=F.list hq;refine call_enumerate_list pl.isList λh' L hI ab hk=>?_;refine wpAny_pyIter_enum L ?_;refine ⟨B.heap.objs.size+1,[B.heap.objs.size+1,B.heap.objs.size],_,_,H1,rfl,F.kept (t':=B.toks) hk,ZJ a _ _ (Nat.succ_ne_self _),⟨⟨_,L⟩,hI⟩,λb G=>?_,q⟩;have e:B.heap.objs.size<=b:=by
  rcases Yas.mp G with rfl | G
  ·exact Ydt _
  ·have eb:b=B.heap.objs.size:=by simpa using G
   rw [eb];exact Yaf _
 exact F.fpOk e (F.hok.fresh e)
theorem ZdQ (K:W.Frag){q:List Expr}{k:Nat}{B:Pos}{l:Expr}{ta:TA}{p pos:Pos}(D:Gl X "enumerate")(F:X.mg "enumerate" = none)(ha:PA X [l] ta)(h:X.K=K:=by rfl)(G:starEach [l] X.env=[(false,eval l X.env)]:=by rfl) :
  PI X (.Tuple q k B) (.Call (.Name "enumerate" p) [l] [] pos) (ZdP K ta):=h▸ZcN D F ha G
end
section
variable {X:Cx}{a b c d:Expr}{ta tb tc td:TE}{pos:Pos}
theorem Uz:bootBuiltins "all" = some (.builtin "all"):=by first | rfl | decide +kernel
theorem XZ:bootBuiltins "set" = some (.type "set"):=by first | rfl | decide +kernel
theorem UM:∀{bs:List Bool}{us:List Value},Vals (bs.map V.bl) us->us=bs.map Value.bool
 | [],_,.nil=>rfl
 | b::bs,_,.cons r t=>by rw [Ybe,<-UM t];cases r;rfl
theorem ZK (bs:List Bool):(List.range bs.length).all (λi=>bs.getD i false)=bs.all id:=by
 induction bs with
 | nil=>rfl
 | cons b bs ih=>
  rw [Yck,List.range_succ_eq_map,List.all_cons,List.all_map,List.all_cons];show (b && _)=(b && _)
  congr 1
theorem Ze8 (K:W.Frag)(O:X.calm=true)(h:X.K=K:=by rfl):JD X (.builtin "all") (λxs H Q=>∃(p:Addr)(bs:List Bool),xs=[.ref p]/\SqL K H p (bs.map V.bl)/\Q (.bl (bs.all id)) H):=by
 subst h;intro qQ s σ H xs us Q I U h;obtain ⟨p,bs,rfl,Y,q⟩:=h;obtain ⟨u,rfl,Z⟩:=U.one;cases Z;obtain ⟨D,r,F,hz⟩:=I.list Y;have e:=UM r;have hh:X.A.in1.handled=none:=I.ok.hd O;obtain ⟨o,eo,_⟩:=id F.isList;have G:p<s.heap.objs.size:=Yah eo;refine call_all_walk (wpAny_pyIter_list F.isList ?_);refine ⟨s.heap.objs.size,_,_,_,_,_,λi=>bs.getD i false,rfl,Walks.list hh s.heap.objs.size p (Yao G) D.toArray,⟨⟨_,Ybd _ rfl,rfl,rfl⟩,F.isList.at λo e=>Yaj _ e⟩,?_,λh' tk hk=>?_⟩
 ·intro i v s' Q' E' hv L;have B:D[i]?=some v:=by simpa using hv
  rw [e,Yaw] at B;cases z:bs[i]? with
  | none=>rw [z] at B;cases B
  | some b=>
   rw [z] at B;cases B;have eb:bs.getD i false=b:=by rw [Yat,z];rfl
   exact Ycn (by rw [<-eb];exact L)
 ·have hl:D.toArray.size=bs.length:=by rw [Yau,e,Yab]
  have I1:Inv X qQ σ H { s with heap:=s.heap.push { cls:=.type "list_iterator", data:=.fields #[.ref p,.int 0 0] } }:=I.kept (t':=s.toks) λb o e=>Yaj _ e;refine ⟨.bl _,H,I.kept λb o N=>hk b o ?_ (Yaj _ N),?_,q⟩
  ·intro z;have:b=s.heap.objs.size:=by simpa using z
   exact absurd (Yah N) (by rw [this];exact Yca _)
  ·show Value.bool _=Value.bool _;rw [hl,ZK]
end
section
variable {κ:Type}[DecidableEq κ]
noncomputable def OC (kvs:List (κ×V))(k:κ):Option V:=(kvs.find? λq=>decide (q.1=k)).map (·.2)
noncomputable def UN (kvs:List (κ×V))(k:κ)(v:V):List (κ×V):=
 if (kvs.any λq=>decide (q.1=k))=true then kvs.map (λq=>if q.1=k then (q.1,v) else q) else kvs++[(k,v)]
theorem VC {k:κ}:OC ([]:List (κ×V)) k=none:=rfl
theorem Ja {p:κ×V}{r:List (κ×V)}{k:κ}(e:p.1=k):OC (p::r) k=some p.2:=by simp [OC,Ydb,e]
theorem G7 {p:κ×V}{r:List (κ×V)}{k:κ}(e:¬ p.1=k):OC (p::r) k=OC r k:=by simp [OC,Ydb,e]
theorem OT (k:κ):∀kvs:List (κ×V),(kvs.any λkv=>decide (kv.1=k))=(OC kvs k).isSome
 | []=>rfl
 | p::r=>by
  rw [List.any_cons];by_cases e:p.1=k
  ·simp only [Ja e,Yae e,Bool.true_or,Option.isSome_some]
  ·rw [G7 e,Yai e,Bool.false_or];exact OT k r
theorem X0 (k j:κ)(y:V):∀kvs:List (κ×V),OC (kvs.map λq=>if q.1=k then (q.1,y) else q) j=(OC kvs j).map λx=>if j=k then y else x
 | []=>rfl
 | p::r=>by
  have ih:=X0 k j y r;rw [Ybe];by_cases h:p.1=k
  ·rw [if_pos h];by_cases e:p.1=j
   ·rw [Ja (p:=(p.1,y)) e,Ja e,Option.map_some,if_pos (e.symm.trans h)]
   ·rw [G7 (p:=(p.1,y)) e,G7 e,ih]
  ·rw [if_neg h];by_cases e:p.1=j
   ·rw [Ja (p:=p) e,Ja e,Option.map_some,if_neg (λz=>h (e.trans z))]
   ·rw [G7 (p:=p) e,G7 e,ih]
theorem Ww (k j:κ)(y:V):∀kvs:List (κ×V),OC kvs k=none->OC (kvs++[(k,y)]) j=if j=k then some y else OC kvs j
 | [],_=>by
  by_cases e:k=j
  ·rw [if_pos e.symm];exact Ja (p:=(k,y)) e
  ·rw [if_neg (λz=>e z.symm)];exact G7 (p:=(k,y)) e
 | p::r,hn=>by
  rw [List.cons_append];have hk:¬ p.1=k:=λz=>by rw [Ja z] at hn;cases hn
  rw [G7 hk] at hn;have q:=Ww k j y r hn;by_cases e:p.1=j
  ·rw [Ja e,Ja e,if_neg (λz=>hk (e.trans z))]
  ·rw [G7 e,G7 e,q]
theorem X1 (kvs:List (κ×V))(k j:κ)(y:V):OC (UN kvs k y) j=if j=k then some y else OC kvs j:=by
 unfold UN;by_cases a:(kvs.any λB=>decide (B.1=k))=true
 ·rw [if_pos a,X0];rw [OT] at a;by_cases e:j=k
  ·obtain ⟨x,D⟩:=Yep.mp a;rw [if_pos e,e,D,Option.map_some,if_pos rfl]
  ·rw [if_neg e];cases OC kvs j with
   | none=>rfl
   | some x=>rw [Option.map_some,if_neg e]
 ·rw [if_neg a];refine Ww k j y kvs ?_;rw [OT] at a;cases q:OC kvs k with
  | none=>rfl
  | some x=>rw [q] at a;exact (a rfl).elim
theorem JF (kvs:List (κ×V))(k:κ)(v:V):(UN kvs k v).length<=kvs.length+1:=by
 unfold UN;split
 ·rw [Yab];lia
 ·rw [Yaq,Yck,List.length_nil];lia
theorem X2 {kvs:List (κ×V)}{k:κ}(v:V)(h:OC kvs k=none):UN kvs k v=kvs++[(k,v)]:=by
 unfold UN;rw [OT,h];exact if_neg (by decide)
theorem RelO.isSome_eq {o:Option V}{u:Option Value}(r:RelO o u):o.isSome=u.isSome:=by
 cases o with
 | none=>cases u with
  | none=>rfl
  | some _=>exact (show False from r).elim
 | some _=>cases u with
  | none=>exact (show False from r).elim
  | some _=>rfl
theorem RelO.getD {o:Option V}{u:Option Value}{d:V}{d':Value}(r:RelO o u)(q:RelV d d'):RelV (o.getD d) (u.getD d'):=by
 cases o with
 | none=>cases u with
  | none=>exact q
  | some _=>exact (show False from r).elim
 | some _=>cases u with
  | none=>exact (show False from r).elim
  | some _=>exact r
theorem KV.val {kvs:List (κ×V)}{vs:List (κ×Value)}(r:KV kvs vs)(k:κ):RelO (OC kvs k) (valueAt vs k):=by
 unfold KV at r
 induction r with
 | nil=>exact True.intro
 | @cons p q ps B h t F=>
  obtain ⟨h1,h2⟩:=h;by_cases e:p.1=k
  ·have D:q.1=k:=h1.symm.trans e;have b:valueAt (q::B) k=some q.2:=by simp [valueAt,Ydb,D]
   rw [Ja e,b];exact h2
  ·have D:¬ q.1=k:=λz=>e (h1.trans z);have b:valueAt (q::B) k=valueAt B k:=by simp [valueAt,Ydb,D]
   rw [G7 e,b];exact F
theorem KV.any {kvs:List (κ×V)}{vs:List (κ×Value)}(r:KV kvs vs)(k:κ):(kvs.any λq=>decide (q.1=k))=vs.any λq=>decide (q.1=k):=by
 unfold KV at r
 induction r with
 | nil=>rfl
 | cons h t ih=>rw [List.any_cons,List.any_cons,ih,h.1]
theorem KV.repl {kvs:List (κ×V)}{vs:List (κ×Value)}(r:KV kvs vs)(k:κ){y:V}{u:Value}(D:RelV y u) :
  KV (kvs.map λB=>if B.1=k then (B.1,y) else B) (vs.map λB=>if B.1=k then (B.1,u) else B):=by
 unfold KV at r ⊢
 induction r with
 | nil=>exact .nil
 | @cons p q ps qs h t ih=>
  rw [Ybe,Ybe];refine .cons ?_ ih;obtain ⟨h1,h2⟩:=h;by_cases e:p.1=k
  ·rw [if_pos e,if_pos (h1.symm.trans e)];exact ⟨h1,D⟩
  ·rw [if_neg e,if_neg (λz=>e (h1.trans z))];exact ⟨h1,h2⟩
theorem KV.put {kvs:List (κ×V)}{vs:List (κ×Value)}(r:KV kvs vs)(k:κ){y:V}{u:Value}(q:RelV y u):KV (UN kvs k y) (stored vs k u):=by
 unfold UN stored;rw [r.any k];by_cases e:(vs.any λB=>decide (B.1=k))=true
 ·rw [if_pos e,if_pos e];exact r.repl k q
 ·rw [if_neg e,if_neg e];exact Paired.snoc r ⟨rfl,q⟩
theorem KV.length {kvs:List (κ×V)}{vs:List (κ×Value)}(r:KV kvs vs):kvs.length=vs.length:=Ybu r
end
theorem YM {P:Program}{w:World}{k:Key}{u:Value}(r:RelV (kV k) u):(GL P w).is k u=true:=by
 cases k with
 | inl i=>obtain ⟨t,e⟩:=(show ∃t,u=Value.int i t from r);subst e;exact W0 P w i t
 | inr x=>obtain ⟨t,e⟩:=(show ∃t,u=Value.str x t from r);subst e;exact W1 P w x t
theorem Wx {P:Program}{w:World}:∀{ks:List Key}{us:List Value},Vals (ks.map kV) us->ItemsAre (GL P w) ks us
 | [],_,r=>by rw [List.map_nil] at r;cases r;exact .nil
 | k::ks,_,r=>by
  rw [Ybe] at r;cases r with
  | cons h t=>exact .cons (YM h) (Wx t)
noncomputable abbrev KT (H:Hp):List (List Key×V)->List (List Key×Addr×Value)->Prop:=Paired λp q=>p.1=q.1/\H q.2.1=some (.tup (p.1.map kV))/\RelV p.2 q.2.2
theorem KT.val {H:Hp}{kvs:List (List Key×V)}{xs:List (List Key×Addr×Value)}(r:KT H kvs xs)(k:List Key):RelO (OC kvs k) ((atKey xs k).map (·.2)):=by
 induction r with
 | nil=>exact True.intro
 | @cons p q ps B h t F=>
  obtain ⟨h1,_,h2⟩:=h;by_cases e:p.1=k
  ·have D:q.1=k:=h1.symm.trans e;have b:atKey (q::B) k=some q.2:=by simp [atKey,Ydb,D]
   rw [Ja e,b];exact h2
  ·have D:¬ q.1=k:=λz=>e (h1.trans z);have b:atKey (q::B) k=atKey B k:=by simp [atKey,Ydb,D]
   rw [G7 e,b];exact F
theorem KT.repl {H:Hp}{kvs:List (List Key×V)}{xs:List (List Key×Addr×Value)}(r:KT H kvs xs)(k:List Key){y:V}{u:Value}(D:RelV y u) :
  KT H (kvs.map λB=>if B.1=k then (B.1,y) else B) (xs.map (putAt k u)):=by
 induction r with
 | nil=>exact .nil
 | @cons p q ps qs h t ih=>
  rw [Ybe,Ybe];refine .cons ?_ ih;obtain ⟨h1,h2,F⟩:=h;unfold putAt;by_cases e:p.1=k
  ·rw [if_pos e,if_pos (h1.symm.trans e)];exact ⟨h1,h2,D⟩
  ·rw [if_neg e,if_neg (λz=>e (h1.trans z))];exact ⟨h1,h2,F⟩
theorem KT.put {H:Hp}{kvs:List (List Key×V)}{xs:List (List Key×Addr×Value)}(r:KT H kvs xs)(k:List Key){b:Addr}{y:V}{u:Value}(D:H b=some (.tup (k.map kV)))(B:RelV y u) :
  KT H (UN kvs k y) (storedH xs k b u):=by
 have e:(kvs.any λF=>decide (F.1=k))=(atKey xs k).isSome:=by
  rw [OT,(r.val k).isSome_eq,Option.isSome_map]
 unfold UN storedH;rw [e];by_cases q:(atKey xs k).isSome=true
 ·rw [if_pos q,if_pos q];exact r.repl k B
 ·rw [if_neg q,if_neg q];exact Paired.snoc r ⟨rfl,D,B⟩
theorem KT.keeps {H H':Hp}{kvs:List (List Key×V)}{xs:List (List Key×Addr×Value)}(r:KT H kvs xs)(q:∀b ys,H b=some (.tup ys)->H' b=some (.tup ys)):KT H' kvs xs:=
 Paired.mapP r λ_ _ z=>⟨z.1,q _ _ z.2.1,z.2.2⟩
section
variable {P:Program}{w:World}{H:Hp}{h:Heap}{a:Addr}
theorem ZdR {u:HO}(ok:HOk P w H h)(e:Rd H a u):ObjOk P w H h a u:=e.ok ok
theorem Xh {kvs:List (Key×V)}(ok:HOk P w H h)(e:Rd H a (.dK kvs)):kvs.length<=sizeLine/\(a == sysModules)=false/\∃vs,KV kvs vs/\h.DictOf (GL P w) a vs:=
 show ObjOk P w H h a (.dK kvs) from ZdR ok e
theorem ZdS {kvs:List (Key×V)}(ok:HOk P w H h)(e:H a=some (.dK kvs)):kvs.length<=sizeLine/\(a == sysModules)=false/\∃vs,KV kvs vs/\h.DictOf (GL P w) a vs:=Xh ok (.inl e)
theorem Wy {ks:List Key}(ok:HOk P w H h)(e:H a=some (.tup (ks.map kV))):(tupleKind (GL P w)).is h ks a:=by
 obtain ⟨_,q,r,o,h1,h2,n,B⟩:=(show ObjOk P w H h a (.tup (ks.map kV)) from ok a _ e);exact ⟨o,q.toArray,n,h1,h2,B,by simpa using Wx r⟩
theorem YN {kvs:List (List Key×V)}(ok:HOk P w H h)(e:Rd H a (.dT kvs)):kvs.length<=sizeLine/\(a == sysModules)=false /\
  ∃xs,KT H kvs xs/\h.DictOfH (tupleKind (GL P w)) a xs:=by
 obtain ⟨z,y,xs,r,o,es,ep,h1,h2,D,F,G⟩:=(show ObjOk P w H h a (.dT kvs) from ZdR ok e);refine ⟨z,y,xs,r,o,es,ep,h1,h2,D,F,λx B=>?_,G⟩;have all:∀{l:List (List Key×V)}{m:List (List Key×Addr×Value)},KT H l m->∀x∈m,(tupleKind (GL P w)).is h x.1 x.2.1:=by
  intro l m q
  induction q with
  | nil=>intro x B;exact nomatch B
  | @cons p q ps qs hq t ih=>
   intro x B;rcases Yas.mp B with e | B
   ·subst e;exact Wy ok (by rw [<-hq.1];exact hq.2.1)
   ·exact ih x B
 exact all r x B
theorem Ze9 {kvs:List (List Key×V)}(ok:HOk P w H h)(e:H a=some (.dT kvs)):kvs.length<=sizeLine/\(a == sysModules)=false /\
  ∃xs,KT H kvs xs/\h.DictOfH (tupleKind (GL P w)) a xs:=YN ok (.inl e)
end
noncomputable def DGet (H:Hp)(a:Addr)(y:V)(r:Option V):Prop:=
 (∃kvs k,Rd H a (.dK kvs)/\y=kV k/\r=OC kvs k)\/∃kvs k b,Rd H a (.dT kvs)/\y=.ref b/\H b=some (.tup (k.map kV))/\r=OC kvs k
noncomputable def DPut (H:Hp)(a:Addr)(y v:V)(H':Hp):Prop:=
 (∃kvs k,H a=some (.dK kvs)/\y=kV k/\kvs.length<sizeLine/\H'=upd H a (.dK (UN kvs k v))) \/
 ∃kvs k b,H a=some (.dT kvs)/\y=.ref b/\H b=some (.tup (k.map kV))/\kvs.length<sizeLine/\H'=upd H a (.dT (UN kvs k v))
theorem DGet.k {H:Hp}{a:Addr}{kvs:List (Key×V)}{k:Key}(e:H a=some (.dK kvs)):DGet H a (kV k) (OC kvs k):=.inl ⟨kvs,k,.inl e,rfl,rfl⟩
theorem DGet.t {H:Hp}{a b:Addr}{kvs:List (List Key×V)}{k:List Key}(e:H a=some (.dT kvs))(q:H b=some (.tup (k.map kV))):DGet H a (.ref b) (OC kvs k):=.inr ⟨kvs,k,b,.inl e,rfl,q,rfl⟩
theorem DPut.k {H:Hp}{a:Addr}{kvs:List (Key×V)}{k:Key}{v:V}(e:H a=some (.dK kvs))(q:kvs.length<sizeLine):DPut H a (kV k) v (upd H a (.dK (UN kvs k v))):=.inl ⟨kvs,k,e,rfl,q,rfl⟩
theorem DPut.t {H:Hp}{a b:Addr}{kvs:List (List Key×V)}{k:List Key}{v:V}(e:H a=some (.dT kvs))(q:H b=some (.tup (k.map kV)))(B:kvs.length<sizeLine) :
  DPut H a (.ref b) v (upd H a (.dT (UN kvs k v))):=.inr ⟨kvs,k,b,e,rfl,q,B,rfl⟩
section
variable {X:Cx}{qQ:List (Addr×Obj)}{σ:St}{H:Hp}{s:Shared}{a:Addr}{y v:V}{u r:Value}{o:Option V}{A:Around}{E:EX}
theorem Inv.big (I:Inv X qQ σ H s):sysModules<s.heap.objs.size:=by
 have h:mainGlobals<s.heap.objs.size:=(I.mod.glob.keeps I.bk).lt;exact Nat.lt_trans (by decide) h
theorem ZL {Q:EX}(U:A.units+1<cLine)(I:Inv X qQ σ H s)(g:DGet H a y (some v))(O:RelV y u)(h:∀D s',Inv X qQ σ H s'->RelV v D->Q D s') :
  wpAny (model X.prog X.w) A (getItem (.ref a) u) Q E s:=by
 rcases g with ⟨kvs,k,e,F,l⟩ | ⟨kvs,k,b,e,F,Y,l⟩
 ·subst F;obtain ⟨z,Z,vs,q,G⟩:=Xh I.hok e;obtain ⟨D,L,B⟩:=RelO.some_of (v:=v) (o:=valueAt vs k) (by rw [l];exact q.val k);exact wpAny_getItem_of (YM O) G.mapOf L (h D _ (I.tok _) B)
 ·subst F;cases (show u=Value.ref b from O);obtain ⟨z,Z,xs,q,G⟩:=YN I.hok e;obtain ⟨D,L,B⟩:=RelO.some_of (v:=v) (o:=(atKey xs k).map (·.2)) (by rw [l];exact q.val k);obtain ⟨p,hp,N⟩:=Ydk.mp L;refine wpAny_getItem_heap (tupleKind_room_in1 U) (Wy I.hok Y) G hp ?_;rw [N];exact h D _ (I.tok _) B
theorem ZgP {Q:EX}(N:A.units+1<cLine)(I:Inv X qQ σ H s)(g:DGet H a y o)(L:RelV y u)(h:∀s',Inv X qQ σ H s'->Q (.bool o.isSome) s') :
  wpAny (model X.prog X.w) A (compareOp .In u (.ref a)) Q E s:=by
 rcases g with ⟨kvs,k,e,D,l⟩ | ⟨kvs,k,b,e,D,O,l⟩
 ·subst D;obtain ⟨z,F,vs,B,G⟩:=Xh I.hok e;refine wpAny_in_of (YM L) F G.mapOf ?_;rw [<-(B.val k).isSome_eq,<-l];exact h _ (I.tok _)
 ·subst D;cases (show u=Value.ref b from L);obtain ⟨z,F,xs,B,G⟩:=YN I.hok e;refine wpAny_in_heap (tupleKind_room_in1 N) (Wy I.hok O) F G ?_;have q:=(B.val k).isSome_eq;rw [Option.isSome_map] at q;rw [<-q,<-l];exact h _ (I.tok _)
theorem Xi {h':Heap}{t':Nat}{B:HO}(I:Inv X qQ σ H s)(D:Mut (H a))(F:Heap.SameBut a s.heap h')(G:∃q,h'.get? a=some q)(new:ObjOk X.prog X.w (upd H a B) h' a B) :
  Inv X qQ σ (upd H a B) { s with heap:=h',toks:=t' }:=
 I.write (x:=a) (e:=a) D (.inl rfl) (λb q L z=>(F.2 b L).trans z) G new
theorem Zb6 {P:Program}{w:World}{H':Hp}{h':Heap}{kvs:List (Key×V)}{vs:List (Key×Value)}(z:kvs.length<=sizeLine)(B:(a == sysModules)=false)(q:KV kvs vs)(dd:h'.DictOf (GL P w) a vs) :
  ObjOk P w H' h' a (.dK kvs):=⟨z,B,vs,q,dd⟩
theorem ZM {H':Hp}{Q:Unit->Shared->Prop}(hu:A.units+1<cLine)(I:Inv X qQ σ H s)(g:DPut H a y v H')(ry:RelV y u)(rv:RelV v r)(h:∀s',Inv X qQ σ H' s'->Q () s') :
  wpAny (model X.prog X.w) A (setItem (.ref a) u r) Q E s:=by
 rcases g with ⟨kvs,k,e,G,l,L⟩ | ⟨kvs,k,b,e,G,eb,l,L⟩
 ·subst G L;obtain ⟨z,N,vs,B,O⟩:=ZdS I.hok e;have U:vs.length<=sizeLine:=by rw [<-B.length];exact z
  have Y:(UN kvs k v).length<=sizeLine:=by have:=JF kvs k v;lia
  refine wpAny_setItem_pairs (hsz:=U) (YM ry) O λh' D Z=>h _ ?_;have he:∃q,h'.get? a=some q:=let ⟨q,_,_,F,_⟩:=D;⟨q,F⟩;exact Xi I (by rw [e];exact True.intro) Z he (Zb6 Y N (B.put k rv) D)
 ·subst G L;cases (show u=Value.ref b from ry);obtain ⟨z,N,xs,B,O⟩:=Ze9 I.hok e;have U:xs.length<=sizeLine:=by rw [<-Ybu B];exact z
  have Y:(UN kvs k v).length<=sizeLine:=by have:=JF kvs k v;lia
  refine wpAny_setItem_heap (hsz:=U) (tupleKind_room_in1 hu) (Wy I.hok eb) O λh' D Z=>h _ ?_;obtain ⟨q,es,ep,F,h2,h3,h4,_,h5⟩:=D;refine Xi I (by rw [e];exact True.intro) Z ⟨q,F⟩ ⟨Y,N,_,(B.put k eb rv).keeps λc ys ec=>?_,q,es,ep,F,h2,h3,h4,h5⟩;rw [GB (Ow ec e (λz=>nomatch z))];exact ec
end
noncomputable def Zgc (i:Expr):Prop:=∀q B,subscripted i false q B=operate [q,B] (getItem q B)
theorem ZcO {prog:Program}{w:World}{A:Around}{E:EX}{s:Shared}{env:Env}{value q:Expr}{pos:Pos}{T id:String}{Q:EX}(N:typeLookup (.type T) "__getitem__" = pure (some (.builtin id)))(O:Zgc q)(h:wpAny (model prog w) A (eval value env) (λo F=>wpAny (model prog w) A (eval q env) (λi B=>B.TypeIs o T/\wpAny (model prog w) A (getItem o i) Q E B) E F) E s) :
  wpAny (model prog w) A (eval (.Subscript value q pos) env) Q E s:=by
 refine Subscript_ (Ybx h (λo F U=>Ybx U (λi B D=>?_) λ_ _ x=>x) λ_ _ x=>x);obtain ⟨G,D⟩:=D;unfold subscriptTail;refine Yaa ?_;rw [getitemInPython_of_ne G.not_modules];refine Yaa (wpAny_specialOf G N ?_);have fin:wpAny (model prog w) A (subscripted q false o i) (λr L=>wpAny (model prog w) A (letTemporaryGo value o r >>= λ_=>pure r) Q E L) E B:=by
  rw [O o i];exact wpAny_operating (Ybx D (λr L Y=>Yaa (wpAny_letTemporaryGo (Yac Y))) λ_ _ x=>x)
 first
  | exact Yac (Yaa fin)
  | exact Yaa (Yac (Yaa fin))
  | exact Yaa fin
theorem Xj {X:Cx}{qQ:List (Addr×Obj)}{σ:St}{H:Hp}{s:Shared}{a:Addr}{y:V}{o:Option V}(I:Inv X qQ σ H s)(g:DGet H a y o):s.TypeIs (.ref a) "dict" := by
 rcases g with ⟨kvs,k,e,_,_⟩ | ⟨kvs,k,b,e,_,_,_⟩
 ·obtain ⟨_,_,vs,_,q⟩:=Xh I.hok e;exact q.typeIs
 ·obtain ⟨_,_,xs,_,q⟩:=YN I.hok e;exact q.typeIs
noncomputable def Zfa (td ty:TE):TE:=λσ H Q=>td σ H λx H1=>ty σ H1 λy H2=>∃a v,x=.ref a/\DGet H2 a y (some v)/\Q v H2
noncomputable def ZgQ (ty td:TE):TE:=λσ H Q=>ty σ H λy H1=>td σ H1 λx H2=>∃a o,x=.ref a/\DGet H2 a y o/\Q (.bl o.isSome) H2
noncomputable def Zfb (td ty tv:TE):TS:=λD σ H=>tv σ H λv H1=>td σ H1 λx H2=>ty σ H2 λy B=>∃a q,x=.ref a/\DPut B a y v q/\D.nx σ q
section
variable {X:Cx}{o i e value:Expr}{pos pos' tpos:Pos}{td ty tv:TE}
theorem Xk (D:X.A.units+1<cLine)(G:PE X o td)(hi:PE X i ty)(L:Zgc i):PE X (.Subscript o i pos) (Zfa td ty):=by
 intro qQ s σ H Q I h;refine ZcO PySem.F.slot_dict_getitem.lookup L (thG (G qQ s σ H _ I h) λu N x H1 O U Y=>thG (hi qQ N σ H1 _ O Y) λiv s2 y H2 B Z ⟨a,v,ex,g,q2⟩=>?_);subst ex;obtain rfl:u=Value.ref a:=U;exact ⟨Xj B g,ZL D B g Z λw' s3 I3 q=>⟨v,H2,I3,q,q2⟩⟩
theorem ZdT (q:X.A.units+1<cLine)(hi:PE X i ty)(B:PE X o td):PC X .In i o (ZgQ ty td):=by
 intro qQ s σ H Q I h;refine thG (hi qQ s σ H _ I h) λiv D y H1 F G L=>thG (B qQ D σ H1 _ F L) λu s2 x H2 N O ⟨a,U,ex,g,Y⟩=>?_;subst ex;obtain rfl:u=Value.ref a:=O;exact ZgP q N g G λs3 Z=>⟨.bl U.isSome,H2,Z,rfl,Y⟩
theorem UO (q:X.A.units+1<cLine)(B:PE X o td)(hi:PE X i ty)(F:PE X value tv)(G:swapsWith value (some (.Subscript o i pos')) pos.line X.env=pure false) :
  PS X (.Assign [.Subscript o i pos'] value pos) (Zfb td ty tv):=by
 intro qQ s σ H D I h;refine wpAny_Assign_Subscript (thG (F qQ s σ H _ I h) λr L v H1 N O U=>thG (B qQ L σ H1 _ N U) λu Y x H2 Z rx q2=>thG (hi qQ Y σ H2 _ Z q2) λiv s3 y H3 I3 ry ⟨a,H4,ex,g,q3⟩=>?_) G;subst ex;obtain rfl:u=Value.ref a:=rx;exact ZM q I3 g ry O λs4 I4=>⟨σ,H4,I4,q3⟩
end
theorem X3 {P:Program}{w:World}{H:Hp}(h:Heap)(q:sysModules<h.objs.size):ObjOk P w H (h.push { cls:=.type "dict", data:=.dict #[] }) h.objs.size (.dK []):=
 ⟨Yav _,beq_eq_false_iff_ne.mpr (Ne.symm (Yao q)),[],.nil,Heap.DictOf.new h⟩
theorem Za7 {P:Program}{w:World}{H:Hp}(h:Heap)(q:sysModules<h.objs.size):ObjOk P w H (h.push { cls:=.type "dict", data:=.dict #[] }) h.objs.size (.dT []):=
 ⟨Yav _,beq_eq_false_iff_ne.mpr (Ne.symm (Yao q)),[],.nil,_,#[],0,Ybd _ rfl,⟨rfl,rfl,rfl⟩,rfl,rfl,List.nodup_nil⟩
noncomputable def ZdU:TE:=λ_ H Q=>∀p,H p=none->Q (.ref p) (upd H p (.dK []))
noncomputable def ZdV:TE:=λ_ H Q=>∀p,H p=none->Q (.ref p) (upd H p (.dT []))
section
variable {X:Cx}{pos:Pos}
theorem Za8:PE X (.Dict [] [] pos) ZdU:=λqQ s σ H Q I h=>
 wpAny_Dict_empty ⟨.ref s.heap.objs.size,_,I.laid (a:=s.heap.objs.size) (o:=.dK []) (t':=s.toks) (λ_ _ q=>Yaj _ q) (Yaf _) (X3 s.heap I.big),rfl,h _ (I.hok.fresh (Yaf _))⟩
theorem VD:PE X (.Dict [] [] pos) ZdV:=λqQ s σ H Q I h=>
 wpAny_Dict_empty ⟨.ref s.heap.objs.size,_,I.laid (a:=s.heap.objs.size) (o:=.dT []) (t':=s.toks) (λ_ _ q=>Yaj _ q) (Yaf _) (Za7 s.heap I.big),rfl,h _ (I.hok.fresh (Yaf _))⟩
end
noncomputable def ZN:List (TE×TE)->St->Hp->(List (V×V)->Hp->Prop)->Prop
 | [],_,H,Q=>Q [] H
 | (tk,tv)::r,σ,H,Q=>tk σ H λx H1=>tv σ H1 λy H2=>ZN r σ H2 λps H3=>Q ((x,y)::ps) H3
noncomputable abbrev VV:List (V×V)->List (Value×Value)->Prop:=Paired λp q=>RelV p.1 q.1/\RelV p.2 q.2
noncomputable def PPs (X:Cx)(pos:Pos)(B:List (Option Expr))(q:List Expr)(D:List (TE×TE)):Prop:=
 ∀(qQ:List (Addr×Obj))(s:Shared)(σ:St)(H:Hp)(Q:List (V×V)->Hp->Prop),Inv X qQ σ H s->ZN D σ H Q ->
  wpAny (model X.prog X.w) X.A (evalPairs (pairTrees B q X.env pos)) (λvs s'=>∃ps H',Inv X qQ σ H' s'/\VV ps vs/\Q ps H') X.xe s
theorem ZcP {X:Cx}{pos:Pos}:PPs X pos [] [] []:=λqQ s σ H Q I h=>pairTrees_nil_walk ⟨[],H,I,.nil,h⟩
theorem X4 {X:Cx}{pos:Pos}{k v:Expr}{ks:List (Option Expr)}{vs:List Expr}{tk tv:TE}{q:List (TE×TE)}(D:PE X k tk)(F:PE X v tv)(G:PPs X pos ks vs q) :
  PPs X pos (some k::ks) (v::vs) ((tk,tv)::q):=λqQ s σ H Q I h=>
 pairTrees_cons_walk (thG (D qQ s σ H _ I h) λu L x H1 N O U=>thG (F qQ L σ H1 _ N U) λw2 Y y H2 Z ry q2=>
  thG (G qQ Y σ H2 _ Z q2) λws s3 ps H3 I3 B q3=>⟨(x,y)::ps,H3,I3,.cons ⟨O,ry⟩ B,q3⟩)
noncomputable def UP (kvs more:List (Key×V)):List (Key×V):=more.foldl (λacc q=>UN acc q.1 q.2) kvs
theorem KV.merge:∀{more:List (Key×V)}{rs:List (Key×Value)}{kvs:List (Key×V)}{vs:List (Key×Value)},KV more rs->KV kvs vs->KV (UP kvs more) (merged vs rs):=by
 intro more rs kvs vs r;unfold KV at r
 induction r generalizing kvs vs with
 | nil=>intro q;exact q
 | @cons p q ps qs h t ih=>
  intro B;have e:KV (UN kvs p.1 p.2) (stored vs q.1 q.2):=by
   have:=B.put p.1 h.2;rw [<-h.1];exact this
  exact ih e
theorem OU:∀(more kvs:List (Key×V)),(UP kvs more).length<=kvs.length+more.length
 | [],kvs=>by show kvs.length<=kvs.length+0;lia
 | p::r,kvs=>by
  have h1:=OU r (UN kvs p.1 p.2);have h2:=JF kvs p.1 p.2;show (UP (UN kvs p.1 p.2) r).length<=_;rw [Yck];lia
theorem Vg {P:Program}{w:World}:∀{kvs:List (Key×V)}{ws:List (Value×Value)},VV (kvs.map λB=>(kV B.1,B.2)) ws->∃rs,Carries (GL P w) ws rs/\KV kvs rs
 | [],_,r=>by rw [List.map_nil] at r;cases r;exact ⟨[],True.intro,.nil⟩
 | p::kvs,_,r=>by
  rw [Ybe] at r;cases r with
  | @cons a b as bs h t=>
   obtain ⟨rs,c,q⟩:=Vg (P:=P) (w:=w) t;obtain ⟨F,D⟩:=b;exact ⟨(p.1,D)::rs,⟨YM h.1,rfl,c⟩,.cons ⟨rfl,h.2⟩ q⟩
structure M2 (X:Cx)(o:Expr)(m:Str)(apos:Pos)(e f:Expr)(qG:Pos):Prop where
 base:attributeBase o m X.env (eval o X.env)=eval o X.env
 few:((backTo qG (starEach [e,f] X.env)).all (λx=>!x.1) && (backToKw qG (keywordEach [] X.env)).all (λx=>x.1.isSome)
  && decide (([e,f]:List Expr).length+([]:List Keyword).length+(if ([]:List Keyword).isEmpty then 0 else 1)<30))=true
 line:(apos.endLine == qG.line)=true
 trees:backTo qG (starEach [e,f] X.env)=[(false,eval e X.env),(false,eval f X.env)]
noncomputable def IsD (H:Hp)(a:Addr):Prop:=(∃kvs,Rd H a (.dK kvs))\/∃kvs,Rd H a (.dT kvs)
theorem ZdW {X:Cx}{qQ:List (Addr×Obj)}{σ:St}{H:Hp}{s:Shared}{a:Addr}(I:Inv X qQ σ H s)(d:IsD H a) :
  s.TypeIs (.ref a) "dict" /\ (∀b,Value.ref a=.ref b->∃B,s.heap.get? b=some B/\B.dict=none)/\(a == sysModules)=false:=by
 rcases d with ⟨kvs,e⟩ | ⟨kvs,e⟩
 ·obtain ⟨_,F,vs,_,D⟩:=Xh I.hok e;refine ⟨D.typeIs,λb q=>?_,F⟩;cases q;obtain ⟨B,_,_,h1,h2,_⟩:=D;exact ⟨B,h1,h2.2.1⟩
 ·obtain ⟨_,F,xs,_,D⟩:=YN I.hok e;refine ⟨D.typeIs,λb q=>?_,F⟩;cases q;obtain ⟨B,_,_,h1,h2,_⟩:=D;exact ⟨B,h1,h2.2.1⟩
section
variable {X:Cx}{qQ:List (Addr×Obj)}{σ:St}{H:Hp}{s:Shared}{a:Addr}{y d:V}{u r:Value}{o:Option V}{A:Around}{E:EX}
theorem ZdX {Q:EX}(U:A.units+1<cLine)(I:Inv X qQ σ H s)(g:DGet H a y o)(L:RelV y u)(N:RelV d r)(h:∀O s',Inv X qQ σ H s'->RelV (o.getD d) O->Q O s') :
  wpAny (model X.prog X.w) A (call (.builtin "dict.get") [.ref a,u,r]) Q E s:=by
 rcases g with ⟨kvs,k,e,D,l⟩ | ⟨kvs,k,b,e,D,Y,l⟩
 ·subst D;obtain ⟨z,G,vs,q,B⟩:=Xh I.hok e;refine call_meetsIn PySem.F.slot_dict_get B.typeIs PySem.F.entry_dict_get (PySem.F.args_dict_get_3 _ _ _) (meets_dict_get_default (GL X.prog X.w) a (YM L) G r) ⟨_,B.mapOf,h _ _ (I.tok _) ?_⟩;rw [l];exact (q.val k).getD N
 ·subst D;cases (show u=Value.ref b from L);obtain ⟨z,G,xs,q,B⟩:=YN I.hok e;refine call_meetsIn PySem.F.slot_dict_get B.typeIs PySem.F.entry_dict_get (PySem.F.args_dict_get_3 _ _ _) (meetsH_dict_get_default (tupleKind (GL X.prog X.w)) a b G r) ⟨tupleKind_room_in1 U,k,xs,Wy I.hok Y,B,h _ _ (I.tok _) ?_⟩;rw [l];exact (q.val k).getD N
end
noncomputable def ZdY (td ty tx:TE):TE:=λσ H Q=>td σ H λx H1=>∃a,x=.ref a/\IsD H1 a/\ty σ H1 λy H2=>tx σ H2 λz q=>∃o,DGet q a y o/\Q (o.getD z) q
section
variable {X:Cx}{o e f:Expr}{apos qG:Pos}{td ty tx:TE}
theorem VE (D:X.A.units+1<cLine)(G:PE X o td)(L:PE X e ty)(N:PE X f tx)(m:M2 X o "get" apos e f qG):PE X (.Call (.Attribute o "get" apos) [e,f] [] qG) (ZdY td ty tx):=by
 intro qQ s σ H Q I h;refine wpAny_Call_method m.base m.few m.line PySem.F.plainAttrs_dict PySem.F.slot_dict_get PySem.F.type_dict_get (thG (G qQ s σ H _ I h) λu O x H1 B U ⟨a,ex,d,Y⟩=>?_);subst ex;obtain rfl:u=Value.ref a:=U;obtain ⟨Z,t2,_⟩:=ZdW B d;refine ⟨Z,t2,?_⟩;rw [m.trees];refine Calls.callWith_builtin rfl (Calls.evalArgs_plain (Calls.spliced_cons (thG (L qQ O σ H1 _ B Y) λiv s2 y H2 I2 ry q2=>
  Calls.spliced_cons (thG (N qQ s2 σ H2 _ I2 q2) λfv s3 z H3 I3 rz ⟨ov,g,q3⟩=>Calls.spliced_nil ?_))))
 exact ZdX D I3 g ry rz λw' s4 I4 q=>⟨_,H3,I4,q,q3⟩
end
noncomputable abbrev Za9 (h:Heap)(S:Addr)(acc:Array Value)(c:Nat):Prop:=h.get? S=some { cls:=.type "list", dict:=none,data:=.seq acc c,slots:=#[] }
structure Fed (prog:Program)(w:World)(A:Around)(I S:Addr)(n:Nat)(St:Nat->Heap->Array Value->Prop)(Fi:Heap->Array Value->Prop):Prop where
 give:∀i (s:Shared) acc (Q:Option Value->Shared->Prop) E,i<n->St i s.heap acc ->
  (∀v h',(∀o,s.heap.get? S=some o->h'.get? S=some o)->St (i+1) h' (acc.push v)->Q (some v) { s with heap:=h' })->wpAny (model prog w) A (pyNext (.ref I)) Q E s
 stop:∀(s:Shared) acc (o:Obj) (Q:Option Value->Shared->Prop) E,s.heap.get? S=some o->St n s.heap acc->(∀h',(∀o,s.heap.get? S=some o->h'.get? S=some o)->Fi h' acc->Q none { s with heap:=h' })->wpAny (model prog w) A (pyNext (.ref I)) Q E s
 aside:∀i h f acc,St i h acc->St i (h.update S f) acc
section
variable {prog:Program}{w:World}{A:Around}{I S:Addr}{n:Nat}{St:Nat->Heap->Array Value->Prop}{Fi:Heap->Array Value->Prop}
theorem Fed.loop (W:Fed prog w A.in1 I S n St Fi)(hn:n<=1000)(res:Value){R:Result->Shared->Prop}:∀(k:Nat)(s:Shared)(acc:Array Value)(c:Nat),acc.size+k=n->St acc.size s.heap acc->Za9 s.heap S acc c ->
  (∀h' acc' c',acc'.size=n->Fi h' acc'->Za9 h' S acc' c'->R (.ok (.ret res)) { s with heap:=h' })->codeAny (model prog w) A (.builtin "list.extend.loop" ⟨[.ref S,.ref I,res],[]⟩) R s
 | 0,s,acc,c,e,st,hS,hR=>Ycu F.entry_extend_loop <| (Ydl F.plain_extend_loop _)▸Yaa (W.stop s acc _ _ _ hS (by rw [Nat.add_zero] at e;exact e▸st) λh' k1 f=>Yac (hR h' acc c e f (k1 _ hS)))
 | k+1,s,acc,c,e,st,hS,hR=>Ycu F.entry_extend_loop <| (Ydl F.plain_extend_loop _)▸Yaa (W.give _ s acc _ _ (by lia) st λv h' k1 st1=>by
   have h16:=Ybf;have hS1:=k1 _ hS;refine Yaa (wpAny_updateSeq (s:={ s with heap:=h' }) (f:=(·.push v)) hS1 rfl (Yac ⟨Yed F.plain_extend_loop _,?_⟩) (by lia) (by rw [Yci];lia));have es:acc.size+1=(acc.push v).size:=(Yci ..).symm;exact W.loop hn res k _ (acc.push v) _ (by lia) (W.aside _ _ _ _ (es▸st1)) (Ydi _ hS1 rfl) hR)
end
theorem X5 {K:W.Frag}{a:Addr}{xs:List V}{g:TG}{tb:TS}{D:Ends}{σ:St}{H:Hp}(q:Nat->St->Hp->Prop)(h0:q 0 σ H)(B:∀i σ H,i<=xs.length->q i σ H->SqL K H a xs)(F:∀i x σ H T,xs[i]?=some x->q i σ H->H T=none->g (.ref T) σ (upd H T (.tup [.int (i:Nat),x])) λG H2=>tb { D with nx:=q (i+1),ct:=q (i+1),bk:=D.nx } G H2)(L:∀ σ H,q xs.length σ H->D.nx σ H) :
  Zo (Ite K a) g tb D σ H:=Vs q h0 (λi s H hi p=>⟨λz=>⟨xs,xs[i],B i s H hi p,by simp [z]⟩,λe=>⟨xs,B i s H hi p,by lia⟩⟩) (λi s H x H' z p y=>by obtain ⟨T,N,rfl,O,rfl,y⟩:=y;exact F i N s H T (y xs (B i s _ (Ybw z) p)) p O) L
theorem VF (its:List Value):∀m:Nat,m<=its.length->((List.range m).map λ(k:Nat)=>((its.length:Int)-1+(-1) * (k:Int)).toNat).filterMap (its.toArray[·]?)=(its.drop (its.length-m)).reverse
 | 0,_=>by simp
 | m+1,h=>by
  have ih:=VF its m (by lia);have hi:its.length-(m+1)<its.length:=by lia
  have q:((its.length:Int)-1+(-1) * (m:Int)).toNat=its.length-(m+1):=by lia
  rw [List.range_succ,Yan,List.filterMap_append,ih,Ybe,List.map_nil,q];rw [Yes hi,show its.length-(m+1)+1=its.length-m by lia,List.reverse_cons]
  congr 1
  have B:its.toArray[its.length-(m+1)]?=some its[its.length-(m+1)]:=by simp [hi]
  rw [List.filterMap_cons,B]
  rfl
theorem VG (its:List Value):slicePick its.toArray none none (some (-1))=its.reverse.toArray:=by
 unfold slicePick sliceBounds sliceRange;simp only [Option.getD_some,Yau,show ¬ ((-1:Int) > 0) by decide,if_false];have e:((if ((its.length:Int)-1 > -1) then (((its.length:Int)-1 - -1 - -1-1) / - -1) else 0:Int)).toNat=its.length:=by
  rw [show (- -1:Int)=1 by decide,Int.ediv_one];split <;> lia
 rw [e,VF its its.length (Yaf _),Nat.sub_self,List.drop_zero]
theorem U4 (its:List Value):slicePick its.toArray none (some 0) (some (-1))=(its.drop 1).reverse.toArray:=by
 unfold slicePick sliceBounds sliceRange;simp only [Option.getD_some,Yau,show ¬ ((-1:Int) > 0) by decide,show ¬ ((0:Int)<0) by decide,if_false];have e:((if ((its.length:Int)-1 > max (-1) (min 0 ((its.length:Int)-1))) then (((its.length:Int)-1-max (-1) (min 0 ((its.length:Int)-1)) - -1-1) / - -1) else 0:Int)).toNat=its.length-1:=by
  rw [show (- -1:Int)=1 by decide,Int.ediv_one];split <;> lia
 rw [e,VF its (its.length-1) (Nat.sub_le _ _)];cases its with
 | nil=>rfl
 | cons a r=>
  rw [show (a::r).length-((a::r).length-1)=1 by simp]
section
variable {X:Cx}
noncomputable def ZeK (hi:Option Int)(xs:List V):List V:=match hi with
 | none=>xs.reverse
 | some _=>(xs.drop 1).reverse
noncomputable def ZgR (K:W.Frag)(te:TE)(th:TO):TE:=λσ H Q=>te σ H λx H1=>th σ H1 λu H2=>∃a xs,x=.ref a/\SqL K H2 a xs/\(u=none\/u=some 0)/\∀p,H2 p=none->Q (.ref p) (upd H2 p (.lst (ZeK u xs)))
theorem ZO {e st:Expr}{hi:Option Expr}{te:TE}{th:TO}{p2 pos:Pos}(K:W.Frag)(Z:PE X e te)(hu:PO X hi th)(G:PE X st (tUn (rU λi=>.int (-i)) (tC (.int 1))))(hK:X.K=K:=by rfl)(ht:∀o r,letTemporaryGo e o r=pure ():=by intro _ _;rfl) :
  PE X (.Subscript e (.Slice none hi (some st) p2) pos) (ZgR K te th):=by
 subst hK;intro qQ s σ H Q I h;refine wpAny_Subscript_Slice_step slot_list_getitem.lookup (thG (Z qQ s σ H _ I h) λv s1 x H1 I1 r1 q1=>?_) ht;refine wpAny_Slice ?_;rw [evalPart_none];refine Yac (thG (hu qQ s1 σ H1 _ I1 q1) λvu s3 u O I3 pu q3=>?_);rw [evalPart_some];refine thG (G qQ s3 σ O (λy L=>y=.int (-1)/\L=O) I3 ⟨1,rfl,rfl,rfl⟩) λvs B y L I4 r4 ⟨ey,eH⟩=>?_;subst ey eH;obtain ⟨U,rfl⟩:=r4;obtain ⟨a,xs,rfl,hx,N,q⟩:=q3;cases r1;have F:Inv X qQ σ L { B with heap:=B.heap.push { cls:=.type "slice", data:=.fields #[.none,vu,.int (-1) U] } }:=I4.kept (t':=B.toks) λb ob q=>Yaj _ q;obtain ⟨aa,r,Y,hz⟩:=F.list hx;have qV:=r.length;refine ⟨Y.isList.typeIs,?_⟩;refine wpAny_getItem_list_slice Y.isList ⟨_,Ybd _ rfl,rfl,rfl⟩ .none pu (.int (-1) U) (by decide) ?_ (by rw [Yau] <;> lia);have D:=F.fresh;rcases N with rfl | rfl
 ·rw [VG];exact ⟨.ref _,_,F.lnew (ys:=xs.reverse) (t':=B.toks) r.reverse (by rw [List.length_reverse];exact hz),rfl,q _ D⟩
 ·rw [U4];exact ⟨.ref _,_,F.lnew (ys:=(xs.drop 1).reverse) (t':=B.toks) (Vals.reverse (Vals.drop' r 1)) (by rw [List.length_reverse,Yco];lia),rfl,q _ D⟩
end
end L2
namespace L2
open PySem
noncomputable def itf (M:Nat):Nat->Nat->Nat
 | 0,x=>x
 | k+1,x=>itf M k ((x * 5+1) % M)
theorem VH (M:Nat):∀(a b x:Nat),itf M (a+b) x=itf M b (itf M a x)
 | 0,b,x=>by rw [Ydc];rfl
 | a+1,b,x=>by rw [Nat.add_right_comm];exact VH M a b _
noncomputable def ZeL (M:Nat):Nat->Nat->Nat->Nat
 | 0,_,m=>m
 | n+1,x,m=>ZeL M n ((x * 5+1) % M) (m ||| 2 ^ x)
theorem X6 {M j:Nat}:∀{n x m:Nat},(ZeL M n x m).testBit j=true->m.testBit j=true\/∃k,k<n/\itf M k x=j
 | 0,x,m,h=>.inl h
 | n+1,x,m,h=>by
  rcases X6 (n:=n) h with z | ⟨k,h1,h2⟩
  ·rw [Nat.testBit_or,Bool.or_eq_true] at z;rcases z with z | z
   ·exact .inl z
   ·rw [Nat.testBit_two_pow,decide_eq_true_eq] at z;exact .inr ⟨0,by lia,z⟩
  ·exact .inr ⟨k+1,by lia,h2⟩
noncomputable def X7 (M:Nat):Bool:=ZeL M M 0 0 == 2 ^ M-1 && itf M M 0 == 0
theorem ZgS:X7 8=true:=by decide +kernel
theorem ZdZ:X7 32=true:=by decide +kernel
theorem Zb7:X7 128=true:=by decide +kernel
theorem Zb8:X7 512=true:=by decide +kernel
theorem ZP:X7 2048=true:=by decide +kernel
theorem ZcQ {M i j:Nat}(h:X7 M=true)(hi:i<M)(q:j<M):∃k,k<M/\itf M k i=j:=by
 unfold X7 at h;rw [Ycj,Ybg,Ybg] at h;obtain ⟨h1,h2⟩:=h;have all:∀j,j<M->∃k,k<M/\itf M k 0=j:=λj q=>by
  have z:(ZeL M M 0 0).testBit j=true:=by rw [h1,Nat.testBit_two_pow_sub_one];exact Yae q
  rcases X6 z with z | z
  ·simp at z
  ·exact z
 obtain ⟨a,ha,D⟩:=all i hi;obtain ⟨b,G,F⟩:=all j q;by_cases B:a<=b
 ·refine ⟨b-a,by lia,?_⟩;rw [<-D,<-VH,Ycv B];exact F
 ·refine ⟨b+M-a,by lia,?_⟩;rw [<-D,<-VH,show a+(b+M-a)=M+b by lia,VH,h2];exact F
noncomputable def adv (mask:Nat)(p:SetTable.Probe):SetTable.Probe:=
 if p.more > 0 then { p with j:=p.j+1,more:=p.more-1 }
 else { p with j:=(SetTable.leap mask p.i p.perturb).1,more:=SetTable.runEnd mask (SetTable.leap mask p.i p.perturb).1-(SetTable.leap mask p.i p.perturb).1,i:=(SetTable.leap mask p.i p.perturb).1,perturb:=(SetTable.leap mask p.i p.perturb).2 }
theorem Zb9 (t:SetTable)(p:SetTable.Probe):t.advance p=adv t.mask p:=rfl
noncomputable def Jw (mask:Nat):Nat->SetTable.Probe->SetTable.Probe
 | 0,p=>p
 | n+1,p=>Jw mask n (adv mask p)
theorem Oo (mask:Nat):∀(a b:Nat)(p:SetTable.Probe),Jw mask (a+b) p=Jw mask b (Jw mask a p)
 | 0,b,p=>by rw [Ydc];rfl
 | a+1,b,p=>by rw [Nat.add_right_comm];exact Oo mask a b _
theorem Wz (mask n:Nat)(p:SetTable.Probe):Jw mask (n+1) p=adv mask (Jw mask n p):=Oo mask n 1 p
theorem ZQ (mask:Nat)(p:SetTable.Probe):(adv mask p).dummy=p.dummy:=by
 unfold adv;split <;> rfl
noncomputable def rs (mask i pt:Nat):SetTable.Probe:={ j:=i,more:=SetTable.runEnd mask i-i,i:=i,perturb:=pt,dummy:=none }
noncomputable def st0 (mask:Nat)(h:Int):SetTable.Probe:=rs mask (SetTable.bits h % (mask+1)) (SetTable.bits h)
theorem Zd0 (t:SetTable)(h:Int):t.probeStart h=st0 t.mask h:=rfl
theorem UQ {mask i:Nat}(h:i<=mask):SetTable.runEnd mask i<=mask:=by
 unfold SetTable.runEnd;split <;> lia
theorem YO (mask i:Nat):SetTable.runEnd mask i-i<=9:=by
 unfold SetTable.runEnd;split <;> lia
theorem UR (mask i:Nat):i<=SetTable.runEnd mask i:=by
 unfold SetTable.runEnd;split <;> lia
theorem Op (mask i pt:Nat):∀k,k<=SetTable.runEnd mask i-i->Jw mask k (rs mask i pt)={ j:=i+k,more:=SetTable.runEnd mask i-i-k,i:=i,perturb:=pt,dummy:=none }
 | 0,_=>rfl
 | k+1,h=>by
  rw [Wz,Op mask i pt k (by lia)];unfold adv;rw [if_pos (by show SetTable.runEnd mask i-i-k > 0;lia)];show SetTable.Probe.mk _ _ _ _ _=_
  congr 1
theorem OV (mask i pt:Nat):Jw mask (SetTable.runEnd mask i-i+1) (rs mask i pt)=rs mask (SetTable.leap mask i pt).1 (SetTable.leap mask i pt).2:=by
 rw [Wz,Op mask i pt _ (Yaf _)];unfold adv;rw [if_neg (by show ¬ (SetTable.runEnd mask i-i-(SetTable.runEnd mask i-i) > 0);lia)]
 rfl
theorem Vh (x mask:Nat):x % (mask+1)<=mask:=Nat.le_of_lt_succ (Nat.mod_lt _ (Nat.succ_pos _))
noncomputable def lps (mask:Nat):Nat->Nat×Nat->Nat×Nat
 | 0,x=>x
 | m+1,x=>lps mask m (SetTable.leap mask x.1 x.2)
theorem ZR (mask:Nat):∀(a b:Nat)(x:Nat×Nat),lps mask (a+b) x=lps mask b (lps mask a x)
 | 0,b,x=>by rw [Ydc];rfl
 | a+1,b,x=>by rw [Nat.add_right_comm];exact ZR mask a b _
theorem X8 (mask:Nat):∀(m:Nat)(x:Nat×Nat),∃n,n<=10 * m/\Jw mask n (rs mask x.1 x.2)=rs mask (lps mask m x).1 (lps mask m x).2
 | 0,x=>⟨0,Yaf _,rfl⟩
 | m+1,x=>by
  obtain ⟨n,h1,h2⟩:=X8 mask m (SetTable.leap mask x.1 x.2);refine ⟨SetTable.runEnd mask x.1-x.1+1+n,?_,?_⟩
  ·have:=YO mask x.1
   lia
  ·rw [Oo,OV];exact h2
theorem X9 (mask:Nat):∀(m i:Nat),lps mask m (i,0)=(itf (mask+1) m i,0)
 | 0,i=>rfl
 | m+1,i=>by
  show lps mask m (SetTable.leap mask i 0)=_;have e:SetTable.leap mask i 0=((i * 5+1) % (mask+1),0):=by unfold SetTable.leap;simp
  rw [e];exact X9 mask m _
theorem Yb (mask:Nat):∀(m i b:Nat),(lps mask m (i,b)).2=b / 32 ^ m
 | 0,i,b=>by simp [lps]
 | m+1,i,b=>by
  show (lps mask m (SetTable.leap mask i b)).2=_;have e:SetTable.leap mask i b=((SetTable.leap mask i b).1,b / 32):=rfl;rw [e,Yb mask m _ _,Nat.div_div_eq_div_mul,Nat.pow_succ,Nat.mul_comm]
theorem Zca (mask:Nat):∀(m i b:Nat),i<=mask->(lps mask m (i,b)).1<=mask
 | 0,i,b,h=>h
 | m+1,i,b,h=>Zca mask m _ _ (Vh _ _)
theorem ZcR (h:Int):SetTable.bits h<2 ^ 64:=by
 unfold SetTable.bits;have h1:=Ycw h (show (2 ^ 64:Int)≠0 by decide);have h2:=Ycx h (show (0:Int)<2 ^ 64 by decide)
 lia
theorem WA {mask j:Nat}(D:X7 (mask+1)=true)(h:Int)(F:j<=mask):∃m,m<mask+14/\(lps mask m (SetTable.bits h % (mask+1),SetTable.bits h)).1=j:=by
 have B:=ZcR h;generalize SetTable.bits h=b at B ⊢;have q:(lps mask 13 (b % (mask+1),b)).2=0:=by
  rw [Yb];exact Nat.div_eq_of_lt (Nat.lt_trans B (by decide))
 have hi:(lps mask 13 (b % (mask+1),b)).1<=mask:=Zca mask 13 _ _ (Vh _ _);obtain ⟨k,L,G⟩:=ZcQ D (Nat.lt_succ_of_le hi) (Nat.lt_succ_of_le F);refine ⟨13+k,by lia,?_⟩;rw [ZR];have e:lps mask 13 (b % (mask+1),b)=((lps mask 13 (b % (mask+1),b)).1,0):=by rw [<-q]
 rw [e,X9];exact G
theorem ZS {mask j:Nat}(q:X7 (mask+1)=true)(h:Int)(B:j<=mask):∃n,n+10<10 * SetTable.turns mask/\(Jw mask n (st0 mask h)).j=j:=by
 obtain ⟨m,G,D⟩:=WA q h B;obtain ⟨n,L,F⟩:=X8 mask m (SetTable.bits h % (mask+1),SetTable.bits h);refine ⟨n,by unfold SetTable.turns;lia,?_⟩;show (Jw mask n (rs mask _ _)).j=j;rw [F];exact D
theorem Zd1 {mask:Nat}{p:SetTable.Probe}(h:p.j+p.more<=mask):(adv mask p).j+(adv mask p).more<=mask:=by
 unfold adv;split
 ·show p.j+1+(p.more-1)<=mask
  lia
 ·have h1:(SetTable.leap mask p.i p.perturb).1<=mask:=Vh _ _;have h2:=UQ h1;have q:=UR mask (SetTable.leap mask p.i p.perturb).1;show (SetTable.leap mask p.i p.perturb).1+(SetTable.runEnd mask (SetTable.leap mask p.i p.perturb).1-(SetTable.leap mask p.i p.perturb).1)<=mask
  lia
theorem ZT {mask:Nat}:∀{n:Nat}{p:SetTable.Probe},p.j+p.more<=mask->(Jw mask n p).j+(Jw mask n p).more<=mask
 | 0,_,h=>h
 | n+1,p,h=>ZT (n:=n) (Zd1 h)
theorem Zd2 (mask:Nat)(h:Int):(st0 mask h).j+(st0 mask h).more<=mask:=by
 have h1:SetTable.bits h % (mask+1)<=mask:=Vh _ _;have h2:=UQ h1;have q:=UR mask (SetTable.bits h % (mask+1));show SetTable.bits h % (mask+1)+(SetTable.runEnd mask (SetTable.bits h % (mask+1))-SetTable.bits h % (mask+1))<=mask
 lia
theorem ZU (mask n:Nat)(h:Int):(Jw mask n (st0 mask h)).j<=mask:=by
 have:=ZT (n:=n) (Zd2 mask h)
 lia
noncomputable def Rise (xs:Array Nat):Prop:=xs.toList.Pairwise (· < ·)
theorem Rise.lt {xs:Array Nat}(h:Rise xs){q r a b:Nat}(B:q<r)(ha:xs[q]?=some a)(D:xs[r]?=some b):a<b:=by
 rw [<-Yaz] at ha D;obtain ⟨h1,F⟩:=Yay.mp ha;obtain ⟨h2,G⟩:=Yay.mp D;have:=List.pairwise_iff_getElem.mp h q r h1 h2 B;rw [F,G] at this;exact this
theorem VI {xs:Array Nat}{j:Nat}(L:Rise xs):∀(B lo hi:Nat),hi-lo<=B->lo<=hi->hi<=xs.size ->
  (∀q a,q<lo->xs[q]?=some a->a<j)->(∀q a,hi<=q->xs[q]?=some a->j<=a) ->
  SetTable.below.go xs j B lo hi<=xs.size/\(∀q a,q<SetTable.below.go xs j B lo hi->xs[q]?=some a->a<j)/\(∀q a,SetTable.below.go xs j B lo hi<=q->xs[q]?=some a->j<=a)
 | 0,lo,hi,h0,h1,h2,hl,hh=>by
  have e:hi=lo:=by lia
  subst e;exact ⟨h2,hl,hh⟩
 | B+1,lo,hi,h0,h1,h2,hl,hh=>by
  unfold SetTable.below.go;by_cases F:lo<hi
  ·rw [if_pos F];have O:(lo+hi) / 2<xs.size:=by lia
   have G:xs[(lo+hi) / 2]?=some xs[(lo+hi) / 2]:=Ybh O;have U:xs.getD ((lo+hi) / 2) j=xs[(lo+hi) / 2]:=by
    rw [Yee,G];rfl
   dsimp only;rw [U];by_cases N:xs[(lo+hi) / 2]<j
   ·rw [if_pos N];refine VI L B _ _ (by lia) (by lia) h2 (λq a Y ha=>?_) hh;by_cases D:q=(lo+hi) / 2
    ·rw [D,G] at ha;cases ha;exact N
    ·exact Nat.lt_trans (L.lt (by lia) ha G) N
   ·rw [if_neg N];refine VI L B _ _ (by lia) (by lia) (by lia) hl (λq a Y ha=>?_);by_cases D:q=(lo+hi) / 2
    ·rw [D,G] at ha;cases ha;lia
    ·have:=L.lt (show (lo+hi) / 2<q by lia) G ha
     lia
  ·rw [if_neg F];have e:hi=lo:=by lia
   subst e;exact ⟨h2,hl,hh⟩
theorem Ug {xs:Array Nat}{j:Nat}(D:Rise xs):SetTable.below xs j<=xs.size/\(∀q a,q<SetTable.below xs j->xs[q]?=some a->a<j)/\(∀q a,SetTable.below xs j<=q->xs[q]?=some a->j<=a):=by
 unfold SetTable.below;refine VI D xs.size 0 xs.size (by lia) (by lia) (Yaf _) (λq a B=>absurd B (Nat.not_lt_zero _)) λq a B ha=>?_;rw [Array.getElem?_eq_none B] at ha;cases ha
theorem Zba {xs:Array Nat}{i j:Nat}(q:Rise xs)(h:xs[i]?=some j):SetTable.below xs j=i:=by
 obtain ⟨h1,h2,D⟩:=Ug (j:=j) q;rcases Nat.lt_trichotomy (SetTable.below xs j) i with z | z | z
 ·have B:SetTable.below xs j<xs.size:=by
   have:=(Array.getElem?_eq_some_iff.mp h).1
   lia
  have:=q.lt z (Ybh B) h;have:=D _ _ (Yaf _) (Ybh B)
  lia
 ·exact z
 ·have:=h2 i j z h
  lia
theorem YQ (t:SetTable)(B:Rise t.place)(D:t.dummies=#[])(j:Nat):(t.slot j=.empty/\j ∉ t.place.toList)\/∃i,t.slot j=.live i/\t.place[i]?=some j:=by
 unfold SetTable.slot;dsimp only;by_cases h:t.place[SetTable.below t.place j]?=some j
 ·refine .inr ⟨SetTable.below t.place j,?_,h⟩;rw [if_pos (by rw [h];exact beq_self_eq_true _)]
 ·refine .inl ⟨?_,λF=>?_⟩
  ·rw [if_neg (by rw [Ybg];exact h),D];have e:SetTable.has #[] j=false:=by unfold SetTable.has;simp
   rw [e]
   rfl
  ·obtain ⟨i,hi,e⟩:=Ydd F;have q:t.place[i]?=some j:=by
    rw [<-Yaz,Yax hi,e]
   rw [Zba B q] at h;exact h q
theorem US {xs:Array Nat}{i j:Nat}(h:xs[i]?=some j):j∈xs.toList:=by
 rw [<-Yaz] at h;exact Ybb h
section
variable {t:SetTable}{ha:Nat->Int}{h:Int}
theorem ZV (N:Rise t.place)(O:t.dummies=#[]):∀(F:Nat)(p:SetTable.Probe),(∃n,n<F/\(Jw t.mask n p).j ∉ t.place.toList) ->
  (∃n,SetTable.probe.go t ha h F p=some (.empty (Jw t.mask n p).j p.dummy)/\(Jw t.mask n p).j ∉ t.place.toList/\∀q,q<n->∃i,t.place[i]?=some (Jw t.mask q p).j/\ha i≠h) \/
  (∃n i,SetTable.probe.go t ha h F p=some (.candidate (Jw t.mask n p).j i (Jw t.mask (n+1) p))/\t.place[i]?=some (Jw t.mask n p).j/\ha i=h/\∀q,q<n->∃i,t.place[i]?=some (Jw t.mask q p).j/\ha i≠h)
 | 0,p,⟨n,hn,_⟩=>absurd hn (Nat.not_lt_zero _)
 | F+1,p,⟨n,hn,hf⟩=>by
  rcases YQ t N O p.j with ⟨e,hm⟩ | ⟨i,e,hi⟩
  ·refine .inl ⟨0,?_,hm,λq B=>absurd B (Nat.not_lt_zero _)⟩;unfold SetTable.probe.go;rw [e]
   rfl
  ·by_cases hh:ha i=h
   ·refine .inr ⟨0,i,?_,hi,hh,λq B=>absurd B (Nat.not_lt_zero _)⟩;unfold SetTable.probe.go;rw [e];dsimp only;rw [if_pos (by rw [hh];exact beq_self_eq_true _),Zb9]
    rfl
   ·have hs:SetTable.probe.go t ha h (F+1) p=SetTable.probe.go t ha h F (adv t.mask p):=by
     rw [SetTable.probe.go,e];dsimp only;rw [if_neg (by rw [Ybg];exact hh),Zb9]
    cases n with
    | zero=>exact absurd (US hi) hf
    | succ n=>
     rw [hs];rcases ZV N O F (adv t.mask p) ⟨n,by lia,hf⟩ with ⟨m,D,G,L⟩ | ⟨m,U,D,G,L,Y⟩
     ·refine .inl ⟨m+1,?_,G,λq B=>?_⟩
      ·rw [D,ZQ];rfl
      ·cases q with
       | zero=>exact ⟨i,hi,hh⟩
       | succ q=>exact L q (by lia)
     ·refine .inr ⟨m+1,U,D,G,L,λq B=>?_⟩;cases q with
      | zero=>exact ⟨i,hi,hh⟩
      | succ q=>exact Y q (by lia)
theorem Vi {mask:Nat}{l:List Nat}(h:l.length<=mask):∃j,j<=mask/\j ∉ l:=by
 apply Classical.byContradiction;intro q;have B:List.range (mask+1) ⊆ l:=λj D=>Classical.byContradiction λF=>q ⟨j,by have:=Ybv.mp D;lia,F⟩;have:=List.Nodup.length_le_of_subset List.nodup_range B;rw [Ycp] at this
 lia
end
theorem isN {q:Array (Option Nat)}{x:Nat}(B:x<q.size):(q.getD x (some 0)).isNone=true↔q[x]?=some none:=by
 rw [Yee,Ybh B];show q[x].isNone=true↔some q[x]=some none;cases q[x] <;> simp
theorem WB {mask:Nat}{B:Array (Option Nat)}(N:B.size=mask+1):∀(F i pt:Nat),i<=mask ->
  (∃m,m<F/\B[(lps mask m (i,pt)).1]?=some none) ->
  ∃n,SetTable.layClean.free mask B F i pt=some (Jw mask n (rs mask i pt)).j/\B[(Jw mask n (rs mask i pt)).j]?=some none/\∀q,q<n->B[(Jw mask q (rs mask i pt)).j]?≠some none
 | 0,i,pt,_,⟨m,hm,_⟩=>absurd hm (Nat.not_lt_zero _)
 | F+1,i,pt,hi,⟨m,hm,em⟩=>by
  have hre:=UQ hi;have O:=UR mask i;unfold SetTable.layClean.free;cases hf:List.find? (λk=>(B.getD (i+k) (some 0)).isNone) (List.range (SetTable.runEnd mask i+1-i)) with
  | some k=>
   obtain ⟨U,p2,Y⟩:=List.find?_range_eq_some.mp hf;have hk:=Ybv.mp p2;refine ⟨k,?_,?_,λq L=>?_⟩
   ·rw [Op mask i pt k (by lia)]
   ·rw [Op mask i pt k (by lia)];show B[i+k]?=some none;exact (isN (by lia)).mp U
   ·rw [Op mask i pt q (by lia)];show B[i+q]?≠some none;intro z;have h1:=Y q L;rw [(isN (by lia)).mpr z] at h1;cases h1
  | none=>
   have Z:=List.find?_eq_none.mp hf;have D:∀q,q<=SetTable.runEnd mask i-i->B[i+q]?≠some none:=λq L z=>Z q (Ybv.mpr (by lia)) ((isN (by lia)).mpr z);cases m with
   | zero=>exact absurd em (D 0 (Yav _))
   | succ m=>
    obtain ⟨n,g1,g2,g3⟩:=WB N F (SetTable.leap mask i pt).1 (SetTable.leap mask i pt).2 (Vh _ _) ⟨m,by lia,em⟩;refine ⟨SetTable.runEnd mask i-i+1+n,?_,?_,λq L=>?_⟩
    ·rw [Oo,OV];exact g1
    ·rw [Oo,OV];exact g2
    ·by_cases G:q<=SetTable.runEnd mask i-i
     ·rw [Op mask i pt q G];exact D q G
     ·have e:q=SetTable.runEnd mask i-i+1+(q-(SetTable.runEnd mask i-i+1)):=by lia
      rw [e,Oo,OV];exact g3 _ (by lia)
noncomputable def Yc (mask:Nat)(acc:Option (Array (Option Nat)×Nat))(h:Int):Option (Array (Option Nat)×Nat):=
 acc.bind λx=>(SetTable.layClean.free mask x.1 (SetTable.turns mask) (SetTable.bits h % (mask+1)) (SetTable.bits h)).bind λj=>some (x.1.setIfInBounds j (some x.2),x.2+1)
theorem VJ (mask:Nat)(q:Array Int):SetTable.layClean mask q=(q.toList.foldl (Yc mask) (some (Array.replicate (mask+1) none,0))).map (·.1):=by
 unfold SetTable.layClean;rw [Array.foldl_toList]
 rfl
structure Lc (mask:Nat)(ow:Array (Option Nat))(js:List Nat)(hs:List Int):Prop where
 sz:ow.size=mask+1
 len:js.length=hs.length
 at_:∀(q j:Nat),js[q]?=some j↔ow[j]?=some (some q)
 rch:∀(q:Nat)(h:Int)(j:Nat),hs[q]?=some h->js[q]?=some j->∃n,(Jw mask n (st0 mask h)).j=j/\∀r,r<n->ow[(Jw mask r (st0 mask h)).j]?≠some none
theorem Lc.nil (mask:Nat):Lc mask (Array.replicate (mask+1) none) [] []:=
 ⟨Array.size_replicate,rfl,λq j=>⟨λz=>by simp at z,λz=>by
  rw [Array.getElem?_replicate] at z;split at z <;> simp at z⟩,λq h j z=>by simp at z⟩
theorem Lc.step {mask:Nat}{D:Array (Option Nat)}{O:List Nat}{B:List Int}(L:Lc mask D O B)(hc:X7 (mask+1)=true)(hl:B.length<=mask)(h:Int) :
  ∃j,Yc mask (some (D,B.length)) h=some (D.setIfInBounds j (some B.length),B.length+1)/\Lc mask (D.setIfInBounds j (some B.length)) (O++[j]) (B++[h]):=by
 have U:=L.len;obtain ⟨j0,ab,ac⟩:=Vi (mask:=mask) (l:=O) (by lia);have e0:D[j0]?=some none:=by
  have Y:j0<D.size:=by rw [L.sz];lia
  rw [Ybh Y];cases q:D[j0] with
  | none=>rfl
  | some k=>
   exact absurd (Ybb ((L.at_ k j0).mpr (by rw [Ybh Y,q]))) ac
 obtain ⟨m,hm,em⟩:=WA hc h ab;obtain ⟨n,g1,g2,g3⟩:=WB L.sz (SetTable.turns mask) (SetTable.bits h % (mask+1)) (SetTable.bits h) (Vh _ _) ⟨m,by unfold SetTable.turns;lia,by rw [em];exact e0⟩;have ad:rs mask (SetTable.bits h % (mask+1)) (SetTable.bits h)=st0 mask h:=rfl;rw [ad] at g1 g2 g3;have G:(Jw mask n (st0 mask h)).j<D.size:=by rw [L.sz];have:=ZU mask n h;lia
 refine ⟨(Jw mask n (st0 mask h)).j,?_,?_⟩
 ·unfold Yc;rw [Option.bind_some,g1]
  rfl
 ·generalize hj:(Jw mask n (st0 mask h)).j=j at g2 G ⊢;have N:∀x,(D.setIfInBounds j (some B.length))[x]?=if j=x then some (some B.length) else D[x]?:=λx=>by
   rw [Array.getElem?_setIfInBounds,if_pos G]
  have ae:j ∉ O:=λhm=>by
   obtain ⟨q,Z,e⟩:=Ydd hm;have:=(L.at_ q j).mp (by rw [Yax Z,e]);rw [g2] at this;cases this
  have aa:∀x,D[x]?≠some none->(D.setIfInBounds j (some B.length))[x]?≠some none:=λx F=>by
   rw [N];split
   ·simp
   ·exact F
  refine ⟨by rw [Array.size_setIfInBounds];exact L.sz,by simp [U],λq x=>?_,λq g x e1 e2=>?_⟩
  ·rw [N];by_cases Z:q<O.length
   ·rw [Ydr Z];by_cases F:j=x
    ·rw [if_pos F];constructor
     ·intro z;exact absurd (F▸Ybb z) ae
     ·intro z;have:B.length=q:=by simpa using z
      lia
    ·rw [if_neg F];exact L.at_ q x
   ·rw [Ydq (by lia)];by_cases F:j=x
    ·rw [if_pos F];by_cases af:q=O.length
     ·subst af;simp [F,U]
     ·constructor
      ·intro z;have:([j]:List Nat)[q-O.length]?=none:=Yet (by simp;lia);rw [this] at z;cases z
      ·intro z;have:B.length=q:=by simpa using z
       lia
    ·rw [if_neg F];constructor
     ·intro z;have:=Ybb z;simp at this;exact absurd this.symm F
     ·intro z;have:=(L.at_ q x).mpr z;rw [Yet (by lia)] at this;cases this
  ·by_cases Z:q<B.length
   ·rw [Ydr Z] at e1;rw [Ydr (by lia)] at e2;obtain ⟨n',r1,r2⟩:=L.rch q g x e1 e2;exact ⟨n',r1,λr hr=>aa _ (r2 r hr)⟩
   ·rw [Ydq (by lia)] at e1 e2;have h1:=Ybb e1;have h2:=Ybb e2;simp at h1 h2;subst h1 h2;exact ⟨n,hj,λr hr=>aa _ (g3 r hr)⟩
theorem ZW {mask:Nat}(F:X7 (mask+1)=true):∀(rest:List Int)(ow:Array (Option Nat))(js:List Nat)(hs:List Int),Lc mask ow js hs->hs.length+rest.length<=mask ->
  ∃q B,rest.foldl (Yc mask) (some (ow,hs.length))=some (q,(hs++rest).length)/\Lc mask q B (hs++rest)
 | [],ow,js,hs,L,_=>⟨ow,js,by simp,by simpa using L⟩
 | h::rest,ow,js,hs,L,hl=>by
  rw [Yck] at hl;obtain ⟨j,e,L'⟩:=L.step F (by lia) h;obtain ⟨q,B,G,D⟩:=ZW F rest _ _ (hs++[h]) L' (by simp;lia);refine ⟨q,B,?_,by simpa using D⟩;rw [List.foldl_cons,e];have N:(hs++[h]).length=hs.length+1:=by simp
  rw [N] at G;rw [G];simp
theorem Us {α β:Type}(f:α->Option β):∀(l:List α),(∀x∈l,(f x).isSome=true)->∀r:Nat,(l.filterMap f)[r]?=(l[r]?).bind f
 | [],_,r=>by simp
 | x::l,h,r=>by
  obtain ⟨y,hy⟩:=Yep.mp (h x (Ybk));rw [List.filterMap_cons_some hy];cases r with
  | zero=>simp [hy]
  | succ r=>
   rw [List.getElem?_cons_succ,List.getElem?_cons_succ];exact Us f l (λz q=>h z (Ybr _ q)) r
structure ZgT (t:SetTable)(od:Array Nat)(mask finger moves:Nat)(led plain:Bool)(qY:Array Int):Prop where
 tm:t.mask=mask
 tl:t.led=led
 tp:t.plain=plain
 td:t.dummies=#[]
 rise:Rise t.place
 le:∀j∈t.place.toList,j<=mask
 perm:od.toList.Perm (List.range qY.size)
 sz:t.place.size=qY.size
 rch:∀(r q j:Nat)(h:Int),od[r]?=some q->t.place[r]?=some j->qY[q]?=some h->∃n,(Jw mask n (st0 mask h)).j=j/\∀r',r'<n->(Jw mask r' (st0 mask h)).j∈t.place.toList
theorem ZX {mask:Nat}(hc:X7 (mask+1)=true)(B D:Nat)(ab F:Bool)(U:Array Int)(hz:U.size<=mask) :
  ∃t od,SetTable.laid mask B D ab F U=some (t,od)/\ZgT t od mask B D ab F U:=by
 obtain ⟨Y,js,e,L⟩:=ZW hc U.toList _ [] [] (Lc.nil mask) (by simpa using hz);simp only [List.nil_append,List.length_nil] at e L;have hn:js.length=U.size:=by rw [L.len,Yam]
 have e':SetTable.layClean mask U=some Y:=by rw [VJ,e];rfl
 generalize hlive:(List.range (mask+1)).filterMap (λj=>(Y.getD j none).map (j,·))=live;have mem:∀j q,(j,q)∈live↔j<=mask/\Y[j]?=some (some q):=by
  intro j q;rw [<-hlive,Ydp];constructor
  ·rintro ⟨a,ha,O⟩;have am:=Ybv.mp ha;have G:a<Y.size:=by rw [L.sz];lia
   rw [Yee,Ybh G] at O;cases Z:Y[a] with
   | none=>rw [Z] at O;cases O
   | some k=>
    rw [Z] at O;have aa:(a,k)=(j,q):=Yby O;cases aa;exact ⟨by lia,by rw [Ybh G,Z]⟩
  ·rintro ⟨h1,h2⟩;refine ⟨j,Ybv.mpr (by lia),?_⟩;rw [Yee,h2]
   rfl
 have ac:(live.map (·.1)).Pairwise (· < ·):=by
  rw [Ycl,<-hlive];refine List.Pairwise.filterMap (R:=(· < ·)) _ (λa a' ad b O b' aa=>?_) List.pairwise_lt_range;obtain ⟨x,_,rfl⟩:=Ydk.mp O;obtain ⟨x',_,rfl⟩:=Ydk.mp aa;exact ad
 have ae:(live.map (·.2)).Nodup:=by
  unfold List.Nodup;rw [Ycl];have:=List.Pairwise.and_mem.mp (Ycl.mp ac);refine this.imp λ{a b} af z=>?_;obtain ⟨ha,O,an⟩:=af;have h1:=(L.at_ a.2 a.1).mpr ((mem a.1 a.2).mp ha).2;have h2:=(L.at_ b.2 b.1).mpr ((mem b.1 b.2).mp O).2;rw [z,h2] at h1;have:=Yby h1
  lia
 have N:(live.map (·.2)).Perm (List.range U.size):=by
  refine (List.perm_ext_iff_of_nodup ae List.nodup_range).mpr λq=>?_;rw [Ybv,Yba];constructor
  ·rintro ⟨⟨j,q'⟩,hm,rfl⟩;have h1:=(L.at_ q' j).mpr ((mem j q').mp hm).2;have:=(Yay.mp h1).1;show q'<_
   lia
  ·intro Z;have ag:q<js.length:=by lia
   have h1:=(L.at_ q js[q]).mp (Yax ag);have h2:=(Array.getElem?_eq_some_iff.mp h1).1;rw [L.sz] at h2;exact ⟨(js[q],q),(mem _ _).mpr ⟨by lia,h1⟩,rfl⟩
 refine ⟨_,_,by unfold SetTable.laid;rw [e'];rfl,rfl,rfl,rfl,rfl,?_,?_,?_,?_,?_⟩
 ·unfold Rise;dsimp only;rw [hlive];exact ac
 ·dsimp only;rw [hlive];intro j hj;obtain ⟨⟨a,q⟩,hm,rfl⟩:=Yba.mp (show j∈live.map (·.1) from hj);exact ((mem a q).mp hm).1
 ·dsimp only;rw [hlive];exact N
 ·dsimp only;rw [hlive,Yau,Yab];have:=N.length_eq;rw [Yab,Ycp] at this;exact this
 ·dsimp only;rw [hlive];intro r q j h e1 e2 e3;rw [List.getElem?_toArray,Yaw] at e1 e2;cases hl:live[r]? with
  | none=>rw [hl] at e1;cases e1
  | some x=>
   rw [hl] at e1 e2;have ah:x.2=q:=Yby e1;have ai:x.1=j:=Yby e2;subst ah ai;have h1:=(L.at_ x.2 x.1).mpr ((mem x.1 x.2).mp (Ybb hl)).2;obtain ⟨n,r1,r2⟩:=L.rch x.2 h x.1 (by rw [Yaz];exact e3) h1;refine ⟨n,r1,λr' aj=>?_⟩;have h2:=r2 r' aj;have ak:=ZU mask r' h;have G:(Jw mask r' (st0 mask h)).j<Y.size:=by rw [L.sz];lia
   rw [Ybh G] at h2;cases Z:Y[(Jw mask r' (st0 mask h)).j] with
   | none=>rw [Z] at h2;exact absurd rfl h2
   | some k=>
    show _∈live.map (·.1);exact Yba.mpr ⟨(_,k),(mem _ _).mpr ⟨ak,by rw [Ybh G,Z]⟩,rfl⟩
noncomputable def ins {α:Type}(l:List α)(p:Nat)(x:α):List α:=l.take p++x::l.drop p
theorem Yd {α:Type}{l:List α}{p:Nat}{x:α}(B:p<=l.length)(i:Nat):(ins l p x)[i]?=if i<p then l[i]? else if i=p then some x else l[i-1]?:=by
 unfold ins;have q:(l.take p).length=p:=by rw [Ybj];lia
 by_cases h:i<p
 ·rw [if_pos h,Ydr (by lia),Ydm,if_pos h]
 ·rw [if_neg h,Ydq (by lia),q];by_cases h':i=p
  ·subst h';simp
  ·rw [if_neg h'];have e:i-p=(i-p-1)+1:=by lia
   rw [e,List.getElem?_cons_succ,Ydv]
   congr 1
   lia
theorem VL {α:Type}{l:List α}{p:Nat}{x:α}(q:p<=l.length):(ins l p x).length=l.length+1:=by
 unfold ins;simp
 lia
theorem ZcS {α β:Type}(f:α->β)(l:List α)(p:Nat)(x:α):(ins l p x).map f=ins (l.map f) p (f x):=by
 unfold ins;simp
theorem ins_mem {α:Type}{l:List α}{p:Nat}{x y:α}:y∈ins l p x↔y=x\/y∈l:=by
 unfold ins;rw [Yap,Yas];constructor
 ·rintro (h | h | h)
  ·exact .inr (Yeu h)
  ·exact .inl h
  ·exact .inr (List.mem_of_mem_drop h)
 ·rintro (h | h)
  ·exact .inr (.inl h)
  ·rw [<-Yde p l,Yap] at h;rcases h with h | h
   ·exact .inl h
   ·exact .inr (.inr h)
structure TOk (t:SetTable)(hs:List Int):Prop where
 mask:t.mask=7\/t.mask=31\/t.mask=127\/t.mask=511\/t.mask=2047
 dum:t.dummies=#[]
 len:t.place.size=hs.length
 rise:Rise t.place
 le:∀j∈t.place.toList,j<=t.mask
 rch:∀(i:Nat)(h:Int)(j:Nat),hs[i]?=some h->t.place[i]?=some j->∃n,(Jw t.mask n (st0 t.mask h)).j=j/\∀q,q<n->(Jw t.mask q (st0 t.mask h)).j∈t.place.toList
theorem TOk.cov {t:SetTable}{q:List Int}(T:TOk t q):X7 (t.mask+1)=true:=by
 rcases T.mask with e | e | e | e | e <;> rw [e]
 ·exact ZgS
 ·exact ZdZ
 ·exact Zb7
 ·exact Zb8
 ·exact ZP
theorem TOk.fill {t:SetTable}{q:List Int}(T:TOk t q):t.fill=q.length:=by
 unfold SetTable.fill;rw [T.dum,T.len]
 rfl
theorem TOk.fits {t:SetTable}{q:List Int}(T:TOk t q)(h:q.length<=t.mask):t.fits q.length=true:=by
 unfold SetTable.fits;rw [Ycj,Ybg,decide_eq_true_eq,T.fill];exact ⟨T.len,h⟩
theorem TOk.fresh (f m:Nat)(q:Bool):TOk (SetTable.fresh f m q) []:=
 ⟨.inl rfl,rfl,rfl,List.Pairwise.nil,λj B=>by simp [SetTable.fresh] at B,λi h j e=>by simp at e⟩
theorem TOk.empty {t:SetTable}{q:List Int}(T:TOk t q)(B:q.length<=t.mask)(h:Int):∃n,n+10<10 * SetTable.turns t.mask/\(Jw t.mask n (st0 t.mask h)).j ∉ t.place.toList:=by
 obtain ⟨j,h1,h2⟩:=Vi (mask:=t.mask) (l:=t.place.toList) (by rw [Yam,T.len];exact B);obtain ⟨n,D,F⟩:=ZS T.cov h h1;exact ⟨n,D,by rw [F];exact h2⟩
theorem Zfc {t:SetTable}{j:Nat}:(t.put j).2=SetTable.below t.place j:=rfl
theorem J9 {t:SetTable}{j:Nat}:(t.put j).1.place.toList=ins t.place.toList (SetTable.below t.place j) j:=by
 show (SetTable.insertAt t.place (SetTable.below t.place j) j).toList=_;rw [SetTable.toList_insertAt]
 rfl
theorem TOk.put {t:SetTable}{Z:List Int}(T:TOk t Z){h:Int}{n:Nat}(hn:(Jw t.mask n (st0 t.mask h)).j ∉ t.place.toList)(hr:∀q,q<n->(Jw t.mask q (st0 t.mask h)).j∈t.place.toList) :
  SetTable.below t.place (Jw t.mask n (st0 t.mask h)).j<=Z.length/\TOk (t.put (Jw t.mask n (st0 t.mask h)).j).1 (ins Z (SetTable.below t.place (Jw t.mask n (st0 t.mask h)).j) h):=by
 have N:=ZU t.mask n h;generalize hj:(Jw t.mask n (st0 t.mask h)).j=j at hn N ⊢;obtain ⟨b1,b2,b3⟩:=Ug (j:=j) T.rise;have hb:SetTable.below t.place j<=Z.length:=by rw [<-T.len];exact b1
 have O:SetTable.below t.place j<=t.place.toList.length:=by rw [Yam];exact b1
 have pm:∀x,x∈t.place.toList->x∈(t.put j).1.place.toList:=λx G=>by rw [J9];exact ins_mem.mpr (.inr G)
 refine ⟨hb,T.mask,?_,?_,?_,λx G=>?_,λi g x D F=>?_⟩
 ·show (if SetTable.has t.dummies j=true then SetTable.eraseAt t.dummies (SetTable.below t.dummies j) else t.dummies)=#[];rw [T.dum];have e:SetTable.has #[] j=false:=by unfold SetTable.has;simp
  rw [e]
  rfl
 ·rw [VL hb,<-Yam,J9,VL O,Yam,T.len]
 ·unfold Rise;rw [J9];unfold ins;rw [Ybs];refine ⟨List.Pairwise.sublist (List.take_sublist _ _) T.rise,?_,λa ha b B=>?_⟩
  ·refine Ydn.mpr ⟨λb B=>?_,List.Pairwise.sublist (List.drop_sublist _ _) T.rise⟩;obtain ⟨k,U,e⟩:=Ydd B;rw [List.getElem_drop] at e;rw [Yco] at U;have L:t.place[SetTable.below t.place j+k]?=some b:=by
    rw [<-Yaz,Yax (by lia),e]
   have h1:=b3 _ _ (Nat.le_add_right _ _) L;have h2:j≠b:=λz=>hn (z▸US L)
   lia
  ·have aa:a<j:=by
    obtain ⟨k,U,e⟩:=Ydd ha;rw [List.getElem_take] at e;rw [Ybj] at U;have L:t.place[k]?=some a:=by rw [<-Yaz,Yax (by lia),e]
    exact b2 k a (by lia) L
   rcases Yas.mp B with rfl | B
   ·exact aa
   ·obtain ⟨k,U,e⟩:=Ydd B;rw [List.getElem_drop] at e;rw [Yco] at U;have L:t.place[SetTable.below t.place j+k]?=some b:=by
     rw [<-Yaz,Yax (by lia),e]
    have h1:=b3 _ _ (Nat.le_add_right _ _) L
    lia
 ·rw [J9] at G;rcases ins_mem.mp G with rfl | G
  ·exact N
  ·exact T.le x G
 ·rw [<-Yaz,J9,Yd O] at F;rw [Yd hb] at D;by_cases c1:i<SetTable.below t.place j
  ·rw [if_pos c1] at D F;obtain ⟨m,r1,r2⟩:=T.rch i g x D (by rw [<-Yaz];exact F);exact ⟨m,r1,λq Y=>pm _ (r2 q Y)⟩
  ·rw [if_neg c1] at D F;by_cases c2:i=SetTable.below t.place j
   ·rw [if_pos c2] at D F;cases D;cases F;exact ⟨n,hj,λq Y=>pm _ (hr q Y)⟩
   ·rw [if_neg c2] at D F;obtain ⟨m,r1,r2⟩:=T.rch (i-1) g x D (by rw [<-Yaz];exact F);exact ⟨m,r1,λq Y=>pm _ (r2 q Y)⟩
noncomputable abbrev ZaR (es:Array (Int×Value)):List Int:=es.toList.map (·.1)
structure SOk (t:SetTable)(es:Array (Int×Value)):Prop where
 T:TOk t (ZaR es)
 room:es.size * 5<t.mask * 3
theorem JY (es:Array (Int×Value)):(ZaR es).length=es.size:=by rw [Yab,Yam]
theorem SOk.le {t:SetTable}{es:Array (Int×Value)}(S:SOk t es):(ZaR es).length<=t.mask:=by
 have:=S.room;rw [JY]
 lia
theorem SOk.fits {t:SetTable}{es:Array (Int×Value)}(S:SOk t es):t.fits es.size=true:=by
 have:=S.T.fits S.le;rw [JY] at this;exact this
theorem SOk.fresh (f m:Nat)(q:Bool):SOk (SetTable.fresh f m q) #[]:=⟨TOk.fresh f m q,by show 0 * 5<7 * 3;decide⟩
theorem Xl (es:Array (Int×Value))(p:Nat)(h:Int)(x:Value):ZaR (SetTable.insertAt es p (h,x))=ins (ZaR es) p h:=by
 unfold ZaR;rw [SetTable.toList_insertAt];exact ZcS (·.1) es.toList p (h,x)
theorem VM (es:Array (Int×Value))(p:Nat)(x:Int×Value):(SetTable.insertAt es p x).size=es.size+1:=by
 rw [<-Yam,(SetTable.insertAt_perm es p x).length_eq,Yam,Yci]
theorem SOk.put {t:SetTable}{es:Array (Int×Value)}(S:SOk t es){h:Int}{n:Nat}(x:Value)(D:(Jw t.mask n (st0 t.mask h)).j ∉ t.place.toList)(F:∀q,q<n->(Jw t.mask q (st0 t.mask h)).j∈t.place.toList) :
  TOk (t.put (Jw t.mask n (st0 t.mask h)).j).1 (ZaR (SetTable.insertAt es (t.put (Jw t.mask n (st0 t.mask h)).j).2 (h,x)))/\(t.put (Jw t.mask n (st0 t.mask h)).j).1.fits (es.size+1)=true:=by
 obtain ⟨h1,h2⟩:=S.T.put D F;rw [Zfc,Xl];refine ⟨h2,?_⟩;have B:=h2.fits (by rw [VL h1,JY];show es.size+1<=t.mask;have:=S.room;rcases S.T.mask with e | e | e | e | e <;> lia);rw [VL h1,JY] at B;exact B
theorem WC {es:Array (Int×Value)}{q:Array Nat}(h:q.toList.Perm (List.range es.size))(r:Nat):(q.filterMap (es[·]?))[r]?=(q[r]?).bind (es[·]?):=by
 rw [<-Yaz,Array.toList_filterMap,Us _ _ (λx B=>?_),Yaz];have:=Ybv.mp (h.mem_iff.mp B);rw [Ybh this]
 rfl
theorem JM {es:Array (Int×Value)}{q:Array Nat}(h:q.toList.Perm (List.range es.size)):(q.filterMap (es[·]?)).toList.Perm es.toList:=by
 rw [Array.toList_filterMap];exact (h.filterMap _).trans (by rw [PySem.filterMap_getElem?_range])
theorem Zbb {t:SetTable}{es:Array (Int×Value)}(T:TOk t (ZaR es))(Y:es.size=5/\t.mask=7\/es.size=19/\t.mask=31\/es.size=77/\t.mask=127\/es.size=307/\t.mask=511) :
  ∃G D,t.relaid (es.map (·.1)) (SetTable.grown es.size)=some (G,D)/\D.toList.Perm (List.range es.size)/\SOk G (D.filterMap (es[·]?))/\G.led=t.led/\G.plain=t.plain/\SetTable.sizeAbove (SetTable.grown es.size)<=2048:=by
 have F:(es.map (·.1)).size=es.size:=Array.size_map;have Z:∃m,SetTable.sizeAbove (SetTable.grown es.size)-1=m/\(m=31\/m=127\/m=511\/m=2047)/\es.size * 5<m * 3/\SetTable.sizeAbove (SetTable.grown es.size)<=2048:=by
  rcases Y with ⟨e,_⟩ | ⟨e,_⟩ | ⟨e,_⟩ | ⟨e,_⟩ <;> rw [e]
  ·exact ⟨31,by decide,.inl rfl,by decide,by decide⟩
  ·exact ⟨127,by decide,.inr (.inl rfl),by decide,by decide⟩
  ·exact ⟨511,by decide,.inr (.inr (.inl rfl)),by decide,by decide⟩
  ·exact ⟨2047,by decide,.inr (.inr (.inr rfl)),by decide,by decide⟩
 obtain ⟨m,e,N,jJ,O⟩:=Z;have hc:X7 (m+1)=true:=by
  rcases N with rfl | rfl | rfl | rfl
  ·exact ZdZ
  ·exact Zb7
  ·exact Zb8
  ·exact ZP
 obtain ⟨G,D,e2,L⟩:=ZX hc t.finger (t.movedTo m) t.led t.plain (es.map (·.1)) (by rw [F];lia);have U:=L.perm;rw [F] at U;refine ⟨G,D,by unfold SetTable.relaid;rw [e];exact e2,U,⟨⟨by rw [L.tm];exact .inr N,L.td,?_,L.rise,by rw [L.tm];exact L.le,λi h j e1 e3=>?_⟩,?_⟩,L.tl,L.tp,O⟩
 ·rw [L.sz,F,JY];have:=(JM U).length_eq;rw [Yam,Yam] at this;exact this.symm
 ·rw [L.tm];have B:((D[i]?).bind (es[·]?)).map (·.1)=some h:=by
   rw [<-WC U,<-Yaz,<-Yaw];exact e1
  cases hq:D[i]? with
  | none=>rw [hq] at B;cases B
  | some q=>
   rw [hq] at B;exact L.rch i q j h hq e3 (by rw [Array.getElem?_map];exact B)
 ·rw [L.tm];have:=(JM U).length_eq;rw [Yam,Yam] at this;rw [this];exact jJ
theorem ZY {t:SetTable}{es:Array (Int×Value)}(S:SOk t es)(G:es.size+1<=1228){B:SetTable}{D:List Int}(F:TOk B D)(L:D.length=es.size+1)(N:B.mask=t.mask) :
  (B.tooFull=true/\(es.size+1=5/\B.mask=7\/es.size+1=19/\B.mask=31\/es.size+1=77/\B.mask=127\/es.size+1=307/\B.mask=511))\/(B.tooFull=false/\(es.size+1) * 5<B.mask * 3):=by
 have O:=S.room;have e:B.tooFull=decide ((es.size+1) * 5>=B.mask * 3):=by
  unfold SetTable.tooFull;rw [F.fill,L]
 rw [e];by_cases h:(es.size+1) * 5>=B.mask * 3
 ·refine .inl ⟨Yae h,?_⟩;rcases F.mask with q | q | q | q | q
  ·left;lia
  ·right;left;lia
  ·right;right;left;lia
  ·right;right;right;lia
  ·lia
 ·exact .inr ⟨Yai h,by lia⟩
theorem ZZ {t:SetTable}{es:Array (Int×Value)}(S:SOk t es)(h:Int)(x:Value) :
  ∃B F,layNew t es h x=(B,F,false,false)/\TOk F (ZaR B)/\F.fits B.size=true/\B.size=es.size+1/\F.mask=t.mask/\F.led=t.led/\F.plain=t.plain:=by
 obtain ⟨L,h0,N⟩:=S.T.empty S.le h;rcases ZV (t:=t) (ha:=λ_=>h+1) (h:=h) S.T.rise S.T.dum (10 * SetTable.turns t.mask) (st0 t.mask h) ⟨L,by lia,N⟩ with ⟨n,O,U,G⟩ | ⟨n,i,_,_,G,_⟩
 ·obtain ⟨Y,p2⟩:=S.put x U λq Z=>by obtain ⟨i,hi,_⟩:=G q Z;exact US hi
  have ef:t.freeSlot h=some ((Jw t.mask n (st0 t.mask h)).j,false):=by
   unfold SetTable.freeSlot SetTable.probe;rw [Zd0,O]
   rfl
  have D:(SetTable.insertAt es (t.put (Jw t.mask n (st0 t.mask h)).j).2 (h,x)).size=es.size+1:=VM _ _ _;refine ⟨_,_,?_,Y,by rw [D];exact p2,D,rfl,rfl,rfl⟩;unfold layNew;rw [ef];dsimp only;unfold SetTable.orStandIn;rw [D,if_pos p2,p2]
  rfl
 ·lia
theorem Xm {t:SetTable}{es:Array (Int×Value)}(T:TOk t (ZaR es))(F:es.size=5/\t.mask=7\/es.size=19/\t.mask=31\/es.size=77/\t.mask=127\/es.size=307/\t.mask=511) :
  ∃q B,relayAll t es (SetTable.grown es.size)=(q,B,false)/\q.toList.Perm es.toList/\SOk B q/\B.led=t.led/\B.plain=t.plain:=by
 obtain ⟨B,G,e,D,S,h1,h2,_⟩:=Zbb T F;refine ⟨_,B,?_,JM D,S,h1,h2⟩;unfold relayAll;rw [e];dsimp only;have L:coversAll G es.size=true:=by unfold coversAll;exact List.isPerm_iff.mpr D
 rw [L,S.fits]
 rfl
end L2
namespace L2
open PySem PySem.Spec PyProof.Rows
theorem sit_slot_next:Slot "set_iterator" "__next__" "set_iterator.__next__" := by
 refine .of (owner := "set_iterator") (n := "__next__") ?_ (by decide +kernel) (by decide +kernel) (by decide +kernel) ?_ ?_
 ·rw [typeLookup_type,builtinLookup_eq_fast];kernel_rfl
 ·first | exact .inl (by decide +kernel) | exact .inr (by decide +kernel)
 ·rw [isSubtype_type];kernel_rfl
theorem OW:Slot "set_iterator" "__iter__" "set_iterator.__iter__" := by
 refine .of (owner := "set_iterator") (n := "__iter__") ?_ (by decide +kernel) (by decide +kernel) (by decide +kernel) ?_ ?_
 ·rw [typeLookup_type,builtinLookup_eq_fast];kernel_rfl
 ·first | exact .inl (by decide +kernel) | exact .inr (by decide +kernel)
 ·rw [isSubtype_type];kernel_rfl
theorem OD:entryFor table "set_iterator.__next__" = some Builtin.«set_iterator.__next__»:=by
 first | exact entryFor_of_tree (by kernel_rfl) | exact entryFor_of_fast (by kernel_rfl)
theorem OX (a:Value):argsOk "set_iterator.__next__" ⟨[a],[]⟩:=by
 unfold argsOk;kernel_rfl
theorem U5:entryFor table "set.__iter__" = some Builtin.«frozenset.__iter__»:=by
 first | exact entryFor_alias (id' := "frozenset.__iter__") (by kernel_rfl) (by decide +kernel) (by decide +kernel) (by kernel_rfl) | exact entryFor_alias (id' := "frozenset.__iter__") (by kernel_rfl) rfl (by decide +kernel) (by kernel_rfl)
theorem VN:entryFor table "set.__and__" = some Builtin.«frozenset.__and__»:=by
 first | exact entryFor_alias (id' := "frozenset.__and__") (by kernel_rfl) (by decide +kernel) (by decide +kernel) (by kernel_rfl) | exact entryFor_alias (id' := "frozenset.__and__") (by kernel_rfl) rfl (by decide +kernel) (by kernel_rfl)
noncomputable def JR (w:World):Bool:=w.params.followText "set-order"
section
variable {P:Program}{w:World}{A:Around}{E:EX}{s:Shared}
theorem Oa {Q:Bool->Shared->Prop}(h:Q (JR w) s):wpAny (model P w) A setsByText Q E s:=by
 unfold setsByText;exact Yaa (wpAny_askSetting (Yac h))
noncomputable def WX (P:Program)(w:World)(e:Int×Value)(n:Int):Prop:=e.1=(intKind P w).hash n/\∃tk,e.2=Value.int n tk
noncomputable def SetI (P:Program)(w:World)(o:Obj)(σ:List Int):Prop:=∃es ep t,o.ExactSet/\o.data=.set es ep t/\Paired (WX P w) es.toList σ/\σ.Nodup/\SOk t es/\t.plain=true/\t.led=!JR w
theorem Zcb {e:Int×Value}{n m:Int}(h:WX P w e n):(intKind P w).is m e.2=decide (m=n):=by
 obtain ⟨_,tk,q⟩:=h;rw [q];exact KeyKind.is_eq_decide (intKind_is _ _ _ _) m
theorem Uh:∀{l:List (Int×Value)}{σ:List Int},Paired (WX P w) l σ->ElemsOf (intKind P w) l
 | _,_,.nil=>λe q=>by simp at q
 | _,_,.cons h t=>λe q=>by
  rcases Yas.mp q with rfl | q
  ·obtain ⟨h1,tk,h2⟩:=h;exact ⟨⟨_,by rw [h2];exact intKind_is _ _ _ _,h1⟩,by rw [h2];rfl⟩
  ·exact Uh t e q
theorem UA:∀{l:List (Int×Value)}{σ:List Int},Paired (WX P w) l σ->∀n:Int,n∈σ↔∃e∈l,(intKind P w).is n e.2=true
 | _,_,.nil,n=>by simp
 | _,_,.cons (a:=a) (b:=b) h t,n=>by
  rw [Yas,UA t n];constructor
  ·rintro (rfl | ⟨e,he,hq⟩)
   ·exact ⟨a,Ybk,by rw [Zcb h];exact Yae rfl⟩
   ·exact ⟨e,Ybr _ he,hq⟩
  ·rintro ⟨e,he,hq⟩;rcases Yas.mp he with rfl | he
   ·rw [Zcb h] at hq;exact .inl (Ybp hq)
   ·exact .inr ⟨e,he,hq⟩
theorem OY {l B:List (Int×Value)}(p:B.Perm l):∀{σ:List Int},Paired (WX P w) l σ->∃ q,Paired (WX P w) B q/\q.Perm σ:=by
 induction p with
 | nil=>intro σ h;cases h;exact ⟨[],.nil,.refl _⟩
 | cons x _ ih=>
  intro σ h;cases h with
  | cons h t=>
   obtain ⟨q,h1,h2⟩:=ih t;exact ⟨_,.cons h h1,h2.cons _⟩
 | swap x y l=>
  intro σ h;cases h with
  | cons h t=>
   cases t with
   | cons h' t=>exact ⟨_,.cons h' (.cons h t),.swap _ _ _⟩
 | trans _ _ ih1 ih2=>
  intro σ h;obtain ⟨G,h1,D⟩:=ih2 h;obtain ⟨F,h2,p2⟩:=ih1 h1;exact ⟨F,h2,p2.trans D⟩
theorem Ye:∀{l k:List (Int×Value)}{σ τ:List Int},Paired (WX P w) l σ->Paired (WX P w) k τ->Paired (WX P w) (l++k) (σ++τ)
 | _,_,_,_,.nil,h=>h
 | _,_,_,_,.cons h t,k=>.cons h (Ye t k)
theorem WD {h:Heap}{a:Addr}{o:Obj}{es:Array (Int×Value)}{ep:Nat}{t:SetTable}(D:h.get? a=some o)(B:o.data=.set es ep t)(q:Array (Int×Value))(t':SetTable) :
  (h.update a (Obj.putSet q t')).get? a=some { o with data:=.set q (ep+1) t' }:=by
 have:=Ydi (Obj.putSet q t') D (by rw [putSet_of q t' B];rfl);rw [putSet_of q t' B] at this;exact this
theorem Z0 {a:Addr}{o:Obj}{σ:List Int}{n:Int}{tk:Tok}{Q:Bool->Shared->Prop}(ho:s.heap.get? a=some o)(hS:SetI P w o σ)(aq:σ.length+1<=1228)(h:∀(b:Bool)(h':Heap)(o':Obj)(σ':List Int),Heap.SameBut a s.heap h'->h'.get? a=some o'->SetI P w o' σ'->σ'.Perm (if n∈σ then σ else σ++[n])->Q b { s with heap:=h' }) :
  wpAny (model P w) A (setAddHashed a (.int n tk) ((intKind P w).hash n)) Q E s:=by
 obtain ⟨es,ep,t,hx,hd,hE,ai,S,N,G⟩:=id hS;have ab:=Uh hE;have qV:=Ybu hE;rw [Yam] at qV;have hf:=S.fits;have aj:scanBound=4096:=rfl;unfold setAddHashed setAddHashedIn;refine Yce (Yaa (wpAny_setState_of ho hd hf ?_));dsimp only;rw [byScan_of (knd:=intKind P w) (x:=.int n tk) rfl (by lia) ab,if_pos rfl];unfold setAddByScan;refine Yaa (Yaa (Ydf (Yaa (wpAny_setScan_of (intKind_is P w n tk) ho hd hf ab ?_))));cases hr:List.findIdx? (λe=>(intKind P w).is n e.2) es.toList with
 | some j=>
  obtain ⟨hj,ak,_⟩:=List.findIdx?_eq_some_iff_getElem.mp hr;have O:n∈σ:=(UA hE n).mpr ⟨_,Ycq hj,ak⟩;refine Yac (Yac ?_);exact h false s.heap o σ (Heap.SameBut.refl a s.heap) ho hS (by rw [if_pos O])
 | none=>
  have B:n ∉ σ:=λO=>by
   obtain ⟨e,he,hq⟩:=(UA hE n).mp O;have:=List.findIdx?_eq_none_iff.mp hr e he;rw [hq] at this;cases this
  obtain ⟨D,t1,eL,T1,ar,U,al,ac,Y⟩:=ZZ S ((intKind P w).hash n) (.int n tk);have q:=layNew_perm t es ((intKind P w).hash n) (.int n tk);dsimp only;rw [eL] at q ⊢;dsimp only at q ⊢;rw [Ydw] at q;have am:Paired (WX P w) (es.toList++[((intKind P w).hash n,Value.int n tk)]) (σ++[n]):=Ye hE (.cons ⟨rfl,tk,rfl⟩ .nil);obtain ⟨σ1,ad,F⟩:=OY q am;have L:(σ++[n]).Nodup:=Yef.mpr ⟨ai,by simp,λa ha b hb=>by
   rw [Ybo] at hb;subst hb;intro z;exact B (z▸ha)⟩
  refine Yaa (Yac ?_);rw [Y,N,if_pos rfl];refine Yaa ?_;rw [hashByValue_scannable 8 (x:=.int n tk) rfl];refine Yac ?_;dsimp only [plainKind];rw [if_pos rfl];have hz:D.size<=sizeLine:=by rw [Ybf];lia
  refine Yaa (wpAny_storeSet_of ho hd ?_ hz);have Z:=WD ho hd D t1;have ae:=Ydx s.heap a (Obj.putSet D t1);rcases ZY S (by lia) T1 (by rw [JY];exact U) al with ⟨hfull,hwhen⟩ | ⟨hfull,jJ⟩
  ·rw [hfull,if_pos (show (!false && true)=true from rfl)];rw [<-U] at hwhen;obtain ⟨aa,t2,eR,af,S2,an,ag⟩:=Xm T1 hwhen;rw [eR];obtain ⟨σ2,ao,ah⟩:=OY af ad;have ap:aa.size=D.size:=by
    have:=af.length_eq;rw [Yam,Yam] at this;exact this
   refine Yaa (Yac ?_);refine Yaa (wpAny_storeSet_of Z rfl ?_ (by rw [ap];exact hz));refine Yac (Yac (h true _ _ σ2 (ae.trans (Ydx _ a _)) (WD Z rfl aa t2) ⟨aa,_,t2,hx,rfl,ao,(ah.trans F).nodup_iff.mpr L,S2,by rw [ag,Y,N],by rw [an,ac,G]⟩ ?_));rw [if_neg B];exact ah.trans F
  ·rw [hfull,if_neg (show ¬ ((!false && false)=true) from Yal)];refine Yac (Yac (h true _ _ σ1 ae Z ⟨D,_,t1,hx,rfl,ad,F.nodup_iff.mpr L,⟨T1,by rw [U];exact jJ⟩,by rw [Y,N],by rw [ac,G]⟩ ?_));rw [if_neg B];exact F
noncomputable def GJ (w:World):Obj:={ cls:=.type "set", dict:=none,data:=.set #[] 0 (.fresh 0 0 (!JR w)) }
theorem Yg (P:Program)(w:World):SetI P w (GJ w) []:=⟨#[],0,_,⟨rfl,rfl,rfl⟩,rfl,.nil,List.nodup_nil,SOk.fresh 0 0 _,rfl,rfl⟩
theorem Zbc (a:Value){Q1:EX}(h:Q1 (.ref s.heap.objs.size) { s with heap:=s.heap.push (GJ w) }) :
  codeAny (model P w) A (.call (.builtin "set.__new__") ⟨[.type "set", a],[]⟩) (wants Q1 E) s:=by
 apply codeAny_of_tree;show wpAny _ A.in1 (checkBuiltinCall "set.__new__" ⟨[.type "set", a],[]⟩ >>= λ_=>again (.builtin "set.__new__" ⟨[.type "set", a],[]⟩)) _ _ s;apply Yaa;apply wpAny_of_eq (F.newCall_set_1 a);refine Yac ⟨Yed F.plain_set_new _,?_⟩;apply Ycu F.entry_set_new;rw [Ydl F.plain_set_new _];unfold Builtin.«set.__new__» Builtin.Frozenset.newClass;have q:=sub_set_self;obtain ⟨B,g,d,tk,D⟩:=s;dsimp only
 wp_walk
 apply wpAny_askSetting;apply Yac;dsimp only;simp only [newObj];apply Yaa;apply wpAny_alloc;apply Yac;apply Yac;exact h
theorem Zbd {I:Addr}{fp wr:List Addr}{G:Array GenState->Array GenState->Prop}{n:Nat}{Pv:Nat->Value->Prop}{St:Nat->Shared->Prop}{R:Result->Shared->Prop}(W:WalksS P w A.in1 I fp wr G n Pv St)(S:Addr)(L:S ∉ fp)(J:Nat->Obj->Prop)(N:Heap->Prop)(hK:∀h h':Heap,N h->(∀b o,b ∉ S::wr->h.get? b=some o->h'.get? b=some o)->N h')(O:∀(i:Nat)(v:Value)(s1:Shared)(o:Obj)(Q:Bool->Shared->Prop)(E1:EX),i<n->Pv i v->N s1.heap->s1.heap.get? S=some o->J i o ->
   (∀(b:Bool)(h':Heap)(tk:Nat)(o':Obj),s1.toks<=tk->Heap.SameBut S s1.heap h'->h'.get? S=some o'->J (i+1) o'->Q b { s1 with heap:=h',toks:=tk })->wpAny (model P w) A.in1 (setAdd S v) Q E1 s1) :
  ∀(k i:Nat)(s:Shared)(o:Obj),n-i=k->i<=n->St i s->N s.heap->s.heap.get? S=some o->J i o ->
   (∀(s':Shared)(o':Obj),Moved (S::wr) G s s'->s'.heap.get? S=some o'->J n o'->R (.ok (.ret .none)) s') ->
   codeAny (model P w) A (.builtin "set.update.loop" ⟨[.ref S,.ref I],[]⟩) R s:=by
 have U:S ∉ wr:=λz=>L (W.sub _ z);have up:∀b∈wr,b∈S::wr:=λb z=>Ybr _ z;intro k
 induction k with
 | zero=>
  intro i s o hk hi st kp ho hj hR;have e:i=n:=by lia
  subst e;apply Ycu PyProof.Rows.F.entry_set_update_loop;rw [Ydl PyProof.Rows.F.plain_set_update_loop _];apply Yaa;refine W.done s _ _ st λs1 D=>?_;apply Yac;exact hR s1 o (D.mono up) (D.heap S _ U ho) hj
 | succ k ih=>
  intro i s o hk hi st kp ho hj hR;have q:i<n:=by lia
  apply Ycu PyProof.Rows.F.entry_set_update_loop;rw [Ydl PyProof.Rows.F.plain_set_update_loop _];apply Yaa;refine W.item i s _ _ q st λv s1 hv aa D=>?_;have ab:=D.heap S _ U ho;have Y:N s1.heap:=hK _ _ kp λb o' B e=>D.heap b o' (λz=>B (up _ z)) e;apply Yaa;apply Yce;refine O i v s1 o _ _ q hv Y ab hj λb h' tk o' Z sb ac ad=>?_;refine Yac ⟨Yed PyProof.Rows.F.plain_set_update_loop _,ih (i+1) _ o' (by lia) q (W.frame _ s1 _ _ aa Z λb B o2 e=>?_) (hK _ _ Y λb o2 B e=>?_) ac ad λs2 o2 ae af ag=>?_⟩
  ·rw [sb.2 b (λz:b=S=>L (z▸B))];exact e
  ·show h'.get? b=some o2;rw [sb.2 b (λz:b=S=>B (by rw [z];exact Ybk))];exact e
  ·refine hR s2 o2 (Moved.trans W.gtrans ((D.mono up).then_heap Z λb o3 B e=>?_) ae) af ag;rw [sb.2 b (λz:b=S=>B (by rw [z];exact Ybk))];exact e
theorem Z1 {l:Addr}{q:Array Value}{Q:EX}(hh:A.handled=none)(hl:s.heap.IsList l q)(J:Nat->Obj->Prop)(Kp:Heap->Prop)(h0:J 0 (GJ w))(ah:∀h':Heap,(∀b o,b<s.heap.objs.size->s.heap.get? b=some o->h'.get? b=some o)->Kp h')(U:∀(i:Nat)(v:Value)(s1:Shared)(o:Obj)(Q:Bool->Shared->Prop)(E1:EX),i<q.size->q[i]?=some v->Kp s1.heap->s1.heap.get? s.heap.objs.size=some o->J i o ->
   (∀(b:Bool)(h':Heap)(tk:Nat)(o':Obj),s1.toks<=tk->Heap.SameBut s.heap.objs.size s1.heap h'->h'.get? s.heap.objs.size=some o'->J (i+1) o'->Q b { s1 with heap:=h',toks:=tk })->wpAny (model P w) A.in1.in1.in1 (setAdd s.heap.objs.size v) Q E1 s1)(h:∀(h':Heap)(tk:Nat)(o':Obj),h'.get? s.heap.objs.size=some o'->J q.size o'->(∀b o,b<s.heap.objs.size->s.heap.get? b=some o->h'.get? b=some o)->Q (.ref s.heap.objs.size) { s with heap:=h',toks:=tk }) :
  wpAny (model P w) A (call (.type "set") [.ref l]) Q E s:=by
 obtain ⟨c,tl,ar⟩:=F.called_set.mro;have ai:=F.called_set.made;have as:=F.called_set.sub;apply wpAny_call;apply codeAny_of_tree;show wpAny _ _ (callAny (.type "set") _) _ _ _;refine Yac ⟨Code.quiet_builtin _ (by decide +kernel),?_⟩;apply Ycu F.entry_type_call;rw [Around.under_plain (weight_type_call_type "set" [.ref l] []) rfl];have h1:=F.called_set.notType;have h2:=F.called_set.canCreate;have ax:=F.typeCall_set_1 (.ref l)
 repeat (any_goals (first | assumption | wp_step))
 refine codeAny_mono (Zbc (.ref l) (E:=E) (Q1:=λY s1=>Y=.ref s.heap.objs.size/\s1={ s with heap:=s.heap.push (GJ w) }) ⟨rfl,rfl⟩) λr s1 hr=>?_;cases r with
 | error e=>exact hr
 | ok fl=>
  cases fl with
  | ret Y=>
   obtain ⟨rfl,rfl⟩:=hr;have hS:(s.heap.push (GJ w)).get? s.heap.objs.size=some (GJ w):=Ybd _ rfl;have hT:Shared.TypeIs { s with heap:=s.heap.push (GJ w) } (.ref s.heap.objs.size) "set" := ⟨_,hS,rfl⟩;have ay:=F.called_set.init.lookup;have az:=F.called_set.init.bind (.ref s.heap.objs.size)
   repeat (any_goals (first | assumption | wp_step))
   refine codeAny_mono (codeAny_call_builtin (R:=wants (λr s2=>r=.none/\∃(h':Heap)(tk:Nat)(o':Obj),s2={ s with heap:=h',toks:=tk }/\h'.get? s.heap.objs.size=some o'/\J q.size o' /\
     (∀b o,b<s.heap.objs.size->s.heap.get? b=some o->h'.get? b=some o)) E) F.called_set.init.plain F.entry_set_init (check_set_init_1 hT ?_)) λr2 s2 D=>?_
   ·obtain ⟨ol,Z,aa,nl,ab⟩:=hl;obtain ⟨au,G,aj,B⟩:=ol;simp only at aa ab;subst aa;subst ab;have ac:(s.heap.push (GJ w)).get? l=some { cls:=.type "list", dict:=G,data:=.seq q nl,slots:=B }:=Yaj _ Z;have av:=F.sub_list_set;have aw:=F.sub_list_frozenset;have a0:(Value.type "list" == Value.type "dict")=false:=by decide
    have ad:(s.heap.push (GJ w)).IsList l q:=⟨_,ac,rfl,nl,rfl⟩;have a1:(s.heap.push (GJ w)).get? s.heap.objs.size=some { cls:=.type "set", dict:=none,data:=.set #[] 0 (.fresh 0 0 (!JR w)) }:=hS;unfold Builtin.«set.__init__» noKeywords Builtin.Frozenset.updateFrom;generalize hPI:pyIter=PI
    wp_walk
    subst hPI;apply wpAny_pyIter_list ad;apply Yaa;apply wpAny_runValue;have ae:l<s.heap.objs.size:=Yah Z;have ak:A.in1.in1.in1.handled=none:=by simp [hh]
    have hz:(s.heap.push (GJ w)).objs.size=s.heap.objs.size+1:=Ydj ..;have af:l≠(s.heap.push (GJ w)).objs.size:=by rw [hz];exact Yao (Ydo ae)
    have al:s.heap.objs.size ∉ [(s.heap.push (GJ w)).objs.size,l]:=by
     rw [hz];intro z;rcases Yas.mp z with z | z
     ·exact Yao (Nat.lt_succ_self _) z
     ·exact Ydh ae (Ybo.mp z)
    have ag:∀b o,b<s.heap.objs.size->s.heap.get? b=some o->((s.heap.push (GJ w)).push { cls:=.type "list_iterator", data:=.fields #[.ref l,.int 0 0] }).get? b=some o:=
     λb o _ e=>Yaj _ (Yaj _ e)
    refine Zbd ((Walks.list ak _ l af q).toS) s.heap.objs.size al J (λh'=>∀b o,b<s.heap.objs.size->s.heap.get? b=some o->h'.get? b=some o) ?_ ?_ (q.size-0) 0 _ (GJ w) (by lia) (Yav _)
     ⟨⟨_,Ybd _ rfl,rfl,rfl⟩,(ad.push _)⟩ ag (Yaj _ hS) h0 ?_
    ·intro ha hb am an b o L e;refine an b o ?_ (am b o L e);intro z;rcases Yas.mp z with z | z
     ·exact Yao L z
     ·exact Yao (Ydo L) ((Ybo.mp z).trans hz)
    ·intro i v s1 o Q1 E1 hi hv kp ho hj hq;exact U i v s1 o Q1 E1 hi hv (ah _ kp) ho hj hq
    ·intro s' o' hm N O;obtain ⟨h',g',d',ao,ap⟩:=s';have eg:g'=s.gens:=hm.gens;have ed:d'=s.drawn:=hm.drawn;have eo:ap=s.os:=hm.os;subst eg;subst ed;subst eo;apply Yac;refine Yac ⟨rfl,h',ao,o',rfl,N,O,λb o hb e=>?_⟩;refine hm.heap b o ?_ (Yaj _ (Yaj _ e));intro z;rcases Yas.mp z with z | z
     ·exact Yao hb z
     ·exact Yao (Ydo hb) ((Ybo.mp z).trans hz)
   ·cases r2 with
    | error e=>exact D
    | ok fl2=>
     cases fl2 with
     | ret r=>
      obtain ⟨rfl,h',tk,o',rfl,N,O,aq⟩:=D
      repeat (any_goals (first | assumption | wp_step))
      exact h _ _ _ N O aq
     | _=>exact D.elim
  | _=>exact hr.elim
theorem Z2 {α:Type}(next:Nat->Nat):∀(B k:Nat)(left:List α)(out:Array α),left.length=B->(pickOrder.go next B k left out).toList.Perm (out.toList++left)
 | 0,k,left,out,h=>by
  have:left=[]:=List.length_eq_zero_iff.mp h;subst this;unfold pickOrder.go;simp
 | B+1,k,left,out,h=>by
  have q:next k % left.length<left.length:=Nat.mod_lt _ (by lia)
  unfold pickOrder.go;rw [Yax q];dsimp only;refine (Z2 next B (k+1) _ _ (by rw [List.length_eraseIdx,if_pos q];lia)).trans ?_;rw [Ydw];exact Vz left out.toList _ _ (Yax q)
theorem Z3 {α:Type}(next:Nat->Nat)(xs:Array α):(pickOrder next xs).toList.Perm xs.toList:=by
 unfold pickOrder;have:=Z2 next xs.size 0 xs.toList #[] (by simp)
 simpa using this
noncomputable def OZ (t:SetTable):Nat->Nat
 | 0=>0
 | i+1=>t.place.getD i 0+1
theorem YR {t:SetTable}(F:Rise t.place){i:Nat}(hi:i<=t.place.size):SetTable.below t.place (OZ t i)=i:=by
 obtain ⟨Y,N,O⟩:=Ug (j:=OZ t i) F;have lo:∀q a,q<i->t.place[q]?=some a->a<OZ t i:=λq a U ha=>by
  cases i with
  | zero=>lia
  | succ i=>
   have B:i<t.place.size:=by lia
   have e:t.place.getD i 0=t.place[i]:=by rw [Yee,Ybh B];rfl
   show a<t.place.getD i 0+1;rw [e];by_cases G:q=i
   ·subst G;rw [Ybh B] at ha;cases ha;exact Nat.lt_succ_self _
   ·have:=F.lt (show q<i by lia) ha (Ybh B)
    lia
 have L:∀q a,i<=q->t.place[q]?=some a->OZ t i<=a:=λq a U ha=>by
  cases i with
  | zero=>exact Yav _
  | succ i=>
   have B:i<t.place.size:=by lia
   have e:t.place.getD i 0=t.place[i]:=by rw [Yee,Ybh B];rfl
   show t.place.getD i 0+1<=a;rw [e];exact F.lt (show i<q by lia) (Ybh B) ha
 rcases Nat.lt_trichotomy (SetTable.below t.place (OZ t i)) i with z | z | z
 ·have D:SetTable.below t.place (OZ t i)<t.place.size:=by lia
  have h1:=lo _ _ z (Ybh D);have h2:=O _ _ (Yaf _) (Ybh D)
  lia
 ·exact z
 ·have D:i<t.place.size:=by lia
  have h1:=L _ _ (Yaf _) (Ybh D);have h2:=N _ _ z (Ybh D)
  lia
noncomputable def SAt (w:World)(h:Heap)(a:Addr)(es:Array (Int×Value))(ep:Nat)(t:SetTable):Prop:=
 (∃o,h.get? a=some o/\o.ExactSet/\o.data=.set es ep t)/\SOk t es/\t.plain=true/\t.led=!JR w
noncomputable def JG (w:World)(a:Addr)(es:Array (Int×Value))(ep:Nat):List (Int×Value):=if JR w then (pickOrder (w.params.setOrder a ep) es).toList else es.toList
theorem Jp (a:Addr)(es:Array (Int×Value))(ep:Nat):(JG w a es ep).Perm es.toList:=by
 unfold JG;split
 ·exact Z3 _ _
 ·exact .refl _
noncomputable def Uv (w:World)(t:SetTable)(i:Nat):Nat:=if JR w then 0 else OZ t i
noncomputable def IsSetIter (w:World)(h:Heap)(it a:Addr)(t:SetTable)(i n ep:Nat):Prop:=
 ∃o,h.get? it=some o/\o.cls=.type "set_iterator" /\ o.data=.fields #[.int (Uv w t i) 0,.int i 0,.ref a,.int n 0,.int ep 0]
theorem IsSetIter.typeIs {it a:Addr}{t:SetTable}{i n ep:Nat}(h:IsSetIter w s.heap it a t i n ep):s.TypeIs (.ref it) "set_iterator" := let ⟨o,h1,h2,_⟩:=h;⟨o,h1,h2⟩
theorem SAt.typeIs {a:Addr}{es:Array (Int×Value)}{ep:Nat}{t:SetTable}(h:SAt w s.heap a es ep t):s.TypeIs (.ref a) "set" := let ⟨⟨o,h1,h2,_⟩,_⟩:=h;⟨o,h1,h2.1⟩
theorem Vj {a:Addr}{es:Array (Int×Value)}{ep:Nat}{t:SetTable}{Q:Array (Int×Value)->Shared->Prop}(h:SAt w s.heap a es ep t)(B:∀r:Array (Int×Value),r.toList=JG w a es ep->Q r s) :
  wpAny (model P w) A (setWalk a) Q E s:=by
 obtain ⟨⟨o,F,O,G⟩,S,D,q⟩:=h;unfold setWalk;apply Yaa;apply wpAny_setState_of F G S.fits;dsimp only;apply Yaa;apply Oa;unfold JG at B;cases hb:JR w with
 | true=>
  rw [hb] at B;rw [if_pos rfl];apply Yaa;apply wpAny_askSetting;exact Yac (B _ rfl)
 | false=>
  rw [hb] at B q;rw [if_neg Yal];have L:(!t.plain && decide (es.size > 1))=false:=by rw [D];rfl
  show wpAny _ _ (if (!t.plain && decide (es.size > 1))=true then _ else _) _ _ s;rw [L,if_neg Yal];apply Yaa;show wpAny _ _ (if (!t.led && decide (es.size > 1))=true then _ else _) _ _ s;have N:(!t.led && decide (es.size > 1))=false:=by rw [q];rfl
  rw [N,if_neg Yal];apply Yac;exact Yac (B es rfl)
theorem Vk {a:Addr}{es:Array (Int×Value)}{ep i:Nat}{t:SetTable}{Q:Option (Value×Nat)->Shared->Prop}(h:SAt w s.heap a es ep t)(hi:i<=es.size)(q:Q (((JG w a es ep)[i]?).map λe=>(e.2,Uv w t (i+1))) s):wpAny (model P w) A (setNext a (Uv w t i) i ep) Q E s:=by
 obtain ⟨⟨o,L,hx,N⟩,S,D,B⟩:=id h;have qV:t.place.size=es.size:=by rw [S.T.len,JY]
 unfold setNext;apply Yaa;apply wpAny_setState_of L N S.fits;dsimp only;apply Yaa;apply Oa;cases hb:JR w with
 | true=>
  rw [if_pos rfl,if_neg (by simp)];apply Yaa;refine Vj h λr O=>?_;refine Yac ?_;have U:∀k,Uv w t k=0:=λk=>by unfold Uv;rw [hb];rfl
  rw [U] at q ⊢;rw [<-Yaz,O];exact q
 | false=>
  rw [hb] at B;rw [if_neg Yal];have Y:(!t.plain && decide (es.size > 1))=false:=by rw [D];rfl
  show wpAny _ _ (if (!t.plain && decide (es.size > 1))=true then _ else _) _ _ s;rw [Y,if_neg Yal];apply Yaa;show wpAny _ _ (if (!t.led && !es.isEmpty)=true then _ else _) _ _ s;have Z:(!t.led && !es.isEmpty)=false:=by rw [B];rfl
  rw [Z,if_neg Yal];apply Yac;have e3:∀k,Uv w t k=OZ t k:=λk=>by unfold Uv;rw [hb];rfl
  rw [e3] at q ⊢;rw [YR S.T.rise (by lia)];have e4:JG w a es ep=es.toList:=by unfold JG;rw [hb];rfl
  rw [e4,Yaz] at q;by_cases F:i<es.size
  ·rw [Ybh F] at q ⊢;have G:i<t.place.size:=by lia
   rw [Ybh G];have e5:OZ t (i+1)=t.place[i]+1:=by
    show t.place.getD i 0+1=_;rw [Yee,Ybh G]
    rfl
   rw [e5] at q;exact Yac q
  ·rw [Array.getElem?_eq_none (by lia)] at q ⊢;exact Yac q
theorem SAt.ext {h h':Heap}{a:Addr}{es:Array (Int×Value)}{ep:Nat}{t:SetTable}(x:SAt w h a es ep t)(k:∀o,h.get? a=some o->h'.get? a=some o):SAt w h' a es ep t:=
 let ⟨⟨o,h1,h2⟩,r⟩:=x;⟨⟨o,k _ h1,h2⟩,r⟩
theorem IsSetIter.ext {h h':Heap}{it a:Addr}{t:SetTable}{i n ep:Nat}(x:IsSetIter w h it a t i n ep)(k:∀o,h.get? it=some o->h'.get? it=some o):IsSetIter w h' it a t i n ep:=
 let ⟨o,h1,h2⟩:=x;⟨o,k _ h1,h2⟩
theorem Xn {it a:Addr}{es:Array (Int×Value)}{ep i:Nat}{t:SetTable}{e:Int×Value}{Q:Option Value->Shared->Prop}(q:IsSetIter w s.heap it a t i es.size ep)(O:SAt w s.heap a es ep t)(U:(JG w a es ep)[i]?=some e)(aa:a≠it)(hq:∀h':Heap,IsSetIter w h' it a t (i+1) es.size ep->Heap.SameBut it s.heap h'->Q (some e.2) { s with heap:=h' }) :
  wpAny (model P w) A (pyNext (.ref it)) Q E s:=by
 obtain ⟨o,G,hc,F⟩:=id q;obtain ⟨⟨oa,L,ab,N⟩,S,ac,Y⟩:=id O;have ad:(JG w a es ep).length=es.size:=by rw [(Jp a es ep).length_eq,Yam]
 have hi:i<es.size:=by
  have:=(Yay.mp U).1
  lia
 unfold pyNext;apply Yaa;apply Ydu;refine Yel (name:=Str.ofString "__next__") q.typeIs sit_slot_next (Ycc sit_slot_next q.typeIs OD ?_ (OX _));unfold Builtin.«set_iterator.__next__»;apply Yaa;apply Yac;apply Yaa;apply wpAny_fieldsOf G F;dsimp only;apply Yaa;apply wpAny_setEntries_of L N S.fits;rw [if_neg (by simp)];apply Yaa;have hn:=λE1=>Vk (P:=P) (A:=A.in1) (E:=E1) (s:=s) (i:=i) O (Ybw hi) (Q:=λr Z=>r=some (e.2,Uv w t (i+1))/\Z=s) ⟨by rw [U];rfl,rfl⟩;refine Ybx (by simpa using hn _) (λr Z hr=>?_) λ_ _ x=>x;obtain ⟨rfl,rfl⟩:=hr;dsimp only;apply Yaa;apply wpAny_setField G F (by simp);have D:=Ydi (Obj.mapFields (·.setIfInBounds 0 (rawInt ((Uv w t (i+1):Nat):Int)))) G (Obj.isFreed_of_fields (Obj.data_mapFields F _));have B:=Obj.data_mapFields F (·.setIfInBounds 0 (rawInt ((Uv w t (i+1):Nat):Int)));apply Yaa;apply wpAny_setField D B (by simp);refine Yac ⟨_,rfl,Yac (hq _ ⟨_,Ydi _ D (Obj.isFreed_of_fields (Obj.data_mapFields B _)),?_,?_⟩ ((Ydx ..).trans (Ydx ..)))⟩
 ·rw [Obj.cls_mapFields,Obj.cls_mapFields];exact hc
 ·rw [Obj.data_mapFields B];simp [rawInt]
theorem YS {it a:Addr}{es:Array (Int×Value)}{ep:Nat}{t:SetTable}{Q:Option Value->Shared->Prop}(U:A.handled=none)(q:IsSetIter w s.heap it a t es.size es.size ep)(F:SAt w s.heap a es ep t)(Y:∀h':Heap,Heap.ExtBut it s.heap h'->Q none { s with heap:=h' }):wpAny (model P w) A (pyNext (.ref it)) Q E s:=by
 obtain ⟨o,G,hc,L⟩:=id q;obtain ⟨⟨oa,B,Z,D⟩,S,aa,N⟩:=id F;have ab:(JG w a es ep).length=es.size:=by rw [(Jp a es ep).length_eq,Yam]
 unfold pyNext;apply Yaa;apply Ydu;refine Yel (name:=Str.ofString "__next__") q.typeIs sit_slot_next (Ycc sit_slot_next q.typeIs OD ?_ (OX _));unfold Builtin.«set_iterator.__next__»;apply Yaa;apply Yac;apply Yaa;apply wpAny_fieldsOf G L;dsimp only;apply Yaa;apply wpAny_setEntries_of B D S.fits;rw [if_neg (by simp)];apply Yaa;have hn:=λE1=>Vk (P:=P) (A:=A.in1) (E:=E1) (s:=s) (i:=es.size) F (Yaf _) (Q:=λr O=>r=none/\O=s) ⟨by rw [Yet (by lia)];rfl,rfl⟩;refine Ybx (by simpa using hn _) (λr O hr=>?_) λ_ _ x=>x;obtain ⟨rfl,rfl⟩:=hr;dsimp only;apply Yaa;apply wpAny_setField G L (by simp);apply Yaa;simp only [newExc,newTuple];apply Yaa;refine wpAny_newObj_type ?_ (by size_fits);refine Yaa (m:=firstArgMember _ _) (wpAny_of_eq (a:=Value.none) (by first | (simp only [firstArgMember];rfl) | rfl) ?_);refine wpAny_newObj_type ?_ (by size_fits);simp only [raiseNew];apply Yaa;apply wpAny_handled;rw [show A.in1.handled=none from U];refine wpAny_throw ?_;apply Yaa;refine Yeg (b:=true) (T := "StopIteration") ⟨_,Ybd _ rfl,rfl⟩ isSubtype_stop ?_;exact Yac (Y _ (((Ydx ..).extBut.push _).push _))
theorem YT {a:Addr}{es:Array (Int×Value)}{ep:Nat}{t:SetTable}{Q:EX}(h:SAt w s.heap a es ep t)(L:Q (.ref s.heap.objs.size) { s with heap:=s.heap.push { cls:=.type "set_iterator", data:=.fields #[.int 0 0,.int 0 0,.ref a,.int es.size 0,.int ep 0] } }):wpAny (model P w) A (pyIter (.ref a)) Q E s:=by
 obtain ⟨⟨o,q,O,B⟩,S,D,G⟩:=id h;refine wpAny_pyIter_slot h.typeIs F.slot_set_iter (Ycc F.slot_set_iter h.typeIs U5 ?_ (F.args_set_iter_1 _));unfold Builtin.«frozenset.__iter__»;apply Yaa;refine Yac ?_;apply Yaa;unfold Builtin.Frozenset.sizeOf;apply Yaa;apply wpAny_setEntries_of q B S.fits;apply Yac;apply Yaa;apply Yaa;apply wpAny_setState_of q B S.fits;dsimp only;apply Yaa;apply Oa;apply Yac;have N:(!JR w && (!t.plain && decide (es.size > 1)))=false:=by rw [D];simp
 show wpAny _ _ (if (!JR w && (!t.plain && decide (es.size > 1)))=true then _ else _) _ _ _;rw [N,if_neg Yal];apply Yaa;apply Yac;apply Yaa;apply wpAny_setEpoch_of q B S.fits;apply Yaa;refine wpAny_newObj_type (Yac ⟨_,rfl, "set_iterator", _,⟨_,Ybd _ rfl,rfl⟩,sit_slot_next.lookup,?_⟩);simpa [rawInt] using L
theorem Zbe {r:Addr}{Q:Bool->Shared->Prop}(q:s.TypeIs (.ref r) "set")(h:Q false s):wpAny (model P w) A (Builtin.List.listLengthHint (.ref r)) Q E s:=by
 unfold Builtin.List.listLengthHint;apply Yaa;refine wpAny_specialOf q F.slot_set_len.lookup ?_;generalize hid:("set.__len__" : String)=nm
 wp_delta
 rw [show splitId nm=some ("set", "__len__") from by subst hid;decide +kernel];subst hid;apply Yaa;refine Yeg (T := "set") (b:=true) q (by rw [isSubtype_type];kernel_rfl) ?_;refine wpAny_ite_split (λz=>absurd z (by decide)) λ_=>?_;refine wpAny_ite_split (λ_=>?_) λz=>absurd (by decide +kernel) z;apply Yaa;apply wpAny_typeOf q;exact Yac h
theorem ZcT {a:Addr}{es:Array (Int×Value)}{ep:Nat}{t:SetTable}:W.KdlSrc P w "set" a a es.size (λi v=>∃e,(JG w a es ep)[i]?=some e/\v=e.2) (λh=>SAt w h a es ep t) where
 type:=λ_ h=>h.typeIs
 there:=λ_ h=>by
  obtain ⟨⟨o,ho,_⟩,_⟩:=h;exact ⟨Yah ho,Yah ho⟩
 keep:=λ_ _ h k=>h.ext λo e=>k a (.inl rfl) o e
 notList:=by decide
 notTuple:=by decide
 hint:=λ_ _ _ _ h q=>Zbe h.typeIs q
 iter:=λA s hh h=>by
  have hlt:a<s.heap.objs.size:=by
   obtain ⟨⟨o,ho,_⟩,_⟩:=h;exact Yah ho
  have hwl:(JG w a es ep).length=es.size:=by rw [(Jp a es ep).length_eq,Yam]
  refine ⟨{ cls:=.type "set_iterator", data:=.fields #[.int 0 0,.int 0 0,.ref a,.int es.size 0,.int ep 0] },λi h'=>IsSetIter w h' s.heap.objs.size a t i es.size ep/\SAt w h' a es ep t,λ_ _ q=>YT h q,?_,?_⟩
  ·refine ⟨λb hb=>?_,λi h1 h2 st k=>⟨st.1.ext λo e=>k _ (by simp) o e,st.2.ext λo e=>k a (by simp) o e⟩,λi s1 Q E hi st hq=>?_,λs1 Q E st hq=>?_,λi s1 Q E st hq=>?_⟩
   ·rw [Ybo.mp hb];exact Ybk
   ·have he:(JG w a es ep)[i]?=some (JG w a es ep)[i]:=Yax (by lia);refine Xn st.1 st.2 he (Yao hlt) λh' hi' sb=>?_;refine hq _ h' s1.toks ⟨_,he,rfl⟩ ⟨hi',st.2.ext λo e=>?_⟩ λb o hb e=>?_
    ·rw [sb.2 a (Yao hlt)];exact e
    ·rw [sb.2 b (λz=>hb (by rw [z];exact Ybk))];exact e
   ·refine YS hh st.1 st.2 λh' he=>hq h' s1.toks λb o hb e=>he b o (λz=>hb (by rw [z];exact Ybk)) e
   ·refine wpAny_pyIter_slot st.1.typeIs OW (Ycc OW st.1.typeIs (b:=Builtin.«dict_keyiterator.__iter__») ?_ ?_ ?_)
    ·exact entryFor_alias (id' := "dict_keyiterator.__iter__") (by kernel_rfl) rfl (by decide +kernel) (by kernel_rfl)
    ·show wpAny _ _ (ret (Value.ref s.heap.objs.size)) _ _ s1;exact Yac ⟨_,rfl, "set_iterator", _,st.1.typeIs,sit_slot_next.lookup,hq⟩
    ·unfold argsOk;kernel_rfl
  ·refine ⟨⟨_,Ybd _ rfl,rfl,?_⟩,h.ext λo e=>Yaj _ e⟩;have:Uv w t 0=0:=by unfold Uv;split <;> rfl
   rw [this]
   rfl
end
noncomputable def VO (P:Program)(w:World)(a:Addr)(ms:List Int):HO:=.ext λh=>∃o σ,h.get? a=some o/\SetI P w o σ/\σ.Perm ms
theorem Z4 {P:Program}{w:World}{H:Hp}{h:Heap}{a:Addr}{ms σ:List Int}{o:Obj}(q:h.get? a=some o)(B:SetI P w o σ)(D:σ.Perm ms):ObjOk P w H h a (VO P w a ms):=
 ⟨⟨o,σ,q,B,D⟩,⟨o,q⟩,λh1 h2 ⟨o',F,e,s',G⟩ k=>⟨o',F,k _ e,s',G⟩⟩
theorem SetI.at_ {P:Program}{w:World}{o:Obj}{σ:List Int}(h:SetI P w o σ){a:Addr}{q:Heap}(B:q.get? a=some o):∃es ep t,SAt w q a es ep t/\Paired (WX P w) es.toList σ/\σ.Nodup:=by
 obtain ⟨es,ep,t,h1,h2,D,F,G,L,N⟩:=h;exact ⟨es,ep,t,⟨⟨o,B,h1,h2⟩,G,L,N⟩,D,F⟩
theorem VP {α:Type}{l:List α}{i:Nat}{x y:α}(h:l[i]?=some x):y∈l.take (i+1)↔y∈l.take i\/y=x:=by
 rw [List.take_succ,h];simp
section
variable {X:Cx}(K:W.Frag)
theorem Zfd (hc:X.calm=true)(h:X.K=K:=by rfl):JD X (.type "set") (λxs H Q=>∃(p:Addr)(ns:List Int),xs=[.ref p]/\SqL K H p (ns.map V.int)/\ns.length<=1228 /\
  ∀(l:Addr)(ms:List Int),H l=none->ms.Nodup->(∀k,k∈ms↔k∈ns)->Q (.ref l) (upd H l (VO X.prog X.w l ms))):=by
 subst h;intro qQ s σ H xs us Q I rv h;obtain ⟨p,ns,rfl,hq,hn,q⟩:=h;obtain ⟨u,rfl,L⟩:=rv.one;cases L;obtain ⟨F,r,pl,hz⟩:=I.list hq;have hl:=r.length;rw [Yab] at hl;have es:F.toArray.size=ns.length:=by rw [Yau];exact hl.symm
 refine Z1 (I.ok.hd hc) pl.isList (λi o=>∃ τ,SetI X.prog X.w o τ/\τ.length<=i/\∀k,k∈τ↔k∈ns.take i) (λ_=>True) ⟨[],Yg _ _,Yaf _,λk=>by simp⟩ (λ_ _=>trivial) ?_ ?_
 ·intro i v s1 o Q1 E1 hi hv _ ho ⟨τ,hτ,N,D⟩ O;have G:i<ns.length:=by lia
  have U:F[i]?=some v:=by rw [List.getElem?_toArray] at hv;exact hv
  obtain ⟨u,eu,L⟩:=r.get (i:=i) (x:=.int ns[i]) (by rw [Yaw,Yax G];rfl);rw [U] at eu;cases eu;obtain ⟨tk,rfl⟩:=L;unfold setAdd;apply Yce;apply Yaa;refine (intKind X.prog X.w).pyHash (k:=ns[i]) (intKind_is _ _ _ _) ?_;refine Z0 (s:={ s1 with toks:=s1.toks+1 }) ho hτ (by lia) λb h' o' τ' sb B hτ' hp=>?_;refine O b h' _ o' (Ydt _) sb B ⟨τ',hτ',?_,λk=>?_⟩
  ·rw [hp.length_eq];split
   ·lia
   ·rw [Yaq,Ych];lia
  ·rw [hp.mem_iff,VP (Yax G)];split
   ·rename_i Y;rw [D k];constructor
    ·exact .inl
    ·rintro (z | rfl)
     ·exact z
     ·exact (D _).mp Y
   ·rw [Yap,D k,Ybo]
 ·intro h' tk o' B ⟨τ,hτ,N,D⟩ hk;rw [es] at D;have Z:τ.Nodup:=by obtain ⟨_,_,_,_,_,_,z,_⟩:=hτ;exact z
  exact ⟨.ref _,_,I.laid (o:=VO X.prog X.w s.heap.objs.size τ) (λb o e=>hk b o (Yah e) e) (Yaf _) (Z4 B hτ (.refl _)),rfl,q _ τ I.fresh Z (λk=>by rw [D k,Ybz])⟩
theorem Zbf (hc:X.calm=true):JD X (.builtin "sorted") (λxs H Q=>∃(p:Addr)(ms:List Int),xs=[.ref p]/\H p=some (VO X.prog X.w p ms)/\ms.length<64 /\
  ∀(l:Addr)(ns':List Int),H l=none->ns'.Perm ms->ns'.Pairwise (· <= ·)->Q (.ref l) (upd H l (.lst (ns'.map V.int)))):=by
 intro qQ s σ H xs us Q I rv h;obtain ⟨p,ms,rfl,hp,ag,q⟩:=h;obtain ⟨u,rfl,ru⟩:=rv.one;cases ru;obtain ⟨⟨o,τ,ho,hτ,D⟩,_⟩:=I.hok p _ hp;obtain ⟨es,ep,t,aa,hE,ah⟩:=hτ.at_ ho;have ai:=Ybf.symm;have qV:=Ybu hE;rw [Yam] at qV;have aj:=D.length_eq;have hh:X.A.in1.handled=none:=I.ok.hd hc;obtain ⟨ρ,O,ab⟩:=OY (Jp (w:=X.w) p es ep) hE;refine Calls.call_function_entry kind_sorted plain_sorted entry_sorted (args_sorted1 _) ?_;unfold Builtin.«sorted»;apply Yaa (m:=checkCount "sorted" 1 1 _);apply Yac;apply Yaa;refine W.kdu_collect (ZcT (P:=X.prog) (es:=es) (ep:=ep) (t:=t)) hh aa (by lia) λh' tk acc G F=>?_;have ac:acc.toList.length=es.size:=by rw [Yam];exact F.1
 have hI:IntsAre acc.toList ρ:=by
  have hρ:=Ybu O;rw [(Jp (w:=X.w) p es ep).length_eq,Yam] at hρ;refine Oj (XY (by rw [Yab];lia) λi x u e1 e2=>?_);rw [Yaz] at e2;obtain ⟨e,e3,e4⟩:=F.2 i u e2;rw [Yaw] at e1;have pg:∀{l:List (Int×Value)}{τ:List Int},Paired (WX X.prog X.w) l τ->∀(i:Nat)(e:Int×Value),l[i]?=some e->∃n,τ[i]?=some n/\WX X.prog X.w e n:=by
   intro l τ ad
   induction ad with
   | nil=>intro i e z;simp at z
   | cons h0 _ ih=>
    intro i e z;cases i with
    | zero=>simp at z;subst z;exact ⟨_,rfl,h0⟩
    | succ i=>exact ih i e (by simpa using z)
  obtain ⟨n,e5,_,ae,e6⟩:=pg O i e e3;rw [e5] at e1;cases e1;exact ⟨ae,by rw [e4,e6]⟩
 apply Yaa;refine wpAny_newList ?_ (by rw [ac];lia);have L:(h'.push (seqObj "list" acc.toList.toArray 0)).get? h'.objs.size=some (seqObj "list" acc.toList.toArray 0):=Ybd _ rfl;apply Yaa;apply Yce;refine Ycc slot_list_sort ⟨_,L,rfl⟩ entry_list_sort (list_sort_tree L hI (by lia) λout ns' a1 a2 a3=>⟨_,rfl,?_⟩) (args_list_sort _);refine Yac ⟨_,rfl,?_⟩;obtain ⟨e,he⟩:=sortedHeap_at (out:=out) L;have B:∀b o,s.heap.get? b=some o->(sortedHeap (h'.push (seqObj "list" acc.toList.toArray 0)) h'.objs.size acc.toList out).get? b=some o:=λb o e=>by
  have N:=G b o e;have U:=Yah N;rw [sortedHeap_old (Yao U) (by rw [Ydj];exact Ydo U)];exact Yaj _ N
 have Y:ns'.Perm ms:=a2.trans (ab.trans D);have af:(ns'.map V.int).length<=sizeLine:=by rw [Yab,Y.length_eq];lia
 have hn:H h'.objs.size=none:=by
  cases zz:H h'.objs.size with
  | none=>rfl
  | some o=>
   obtain ⟨x,ex⟩:∃x,s.heap.get? h'.objs.size=some x:=(I.hok _ _ zz).there;exact absurd (Yah (G _ _ ex)) (Yca _)
 have Z:Same H (upd H h'.objs.size (.lst (ns'.map V.int))):=Same.new hn;refine ⟨.ref h'.objs.size,upd H h'.objs.size (.lst (ns'.map V.int)),I.un (t':=tk) ⟨λb o e _ _ _=>B b o e,λb o e _ _ _=>⟨o.slots,B b o e⟩,λb o e n _=>?_,λb o e _=>⟨o,B b o e⟩,λb ys e=>Z _ _ e,λb o u e=>Z _ _ e,λb ps e=>⟨#[],by rw [Z _ _ e];simp⟩⟩ (λb o N=>?_),rfl,q _ ns' hn Y a3⟩
 ·rw [GB (Yao (Yah (G b o e)))];exact n
 ·by_cases U:b=h'.objs.size
  ·subst U;rw [Gb] at N;cases N;exact ⟨af,out.toList,e,OO a1,he⟩
  ·rw [GB U] at N;exact (I.hok b o N).stay (λc v _ x=>B c v x) (λd x=>Z _ _ x) λd ys x=>Z _ _ x
end
section
variable {P:Program}{w:World}{A:Around}{E:EX}{s:Shared}
theorem SetI.setOf {o:Obj}{σ:List Int}(h:SetI P w o σ){a:Addr}{F:Heap}(L:F.get? a=some o):F.SetOf (intKind P w) a (λk=>decide (k∈σ)) σ.length:=by
 obtain ⟨es,ep,t,h1,h2,q,O,B,U,Y⟩:=h;have G:=Ybu q;rw [Yam] at G;have N:es.size<=1228:=by
  have:=B.room;rcases B.T.mask with z | z | z | z | z <;> lia
 have D:scanBound=4096:=rfl;exact ⟨o,es,ep,t,L,h1,h2,Uh q,λk=>by rw [decide_eq_true_eq];exact UA q k,by lia,B.fits,G⟩
theorem VQ {a:Addr}{Q:Bool->Shared->Prop}(q:s.TypeIs (.ref a) "set")(h:Q true s):wpAny (model P w) A (Builtin.Frozenset.isAnySet (.ref a)) Q E s:=by
 unfold Builtin.Frozenset.isAnySet;show wpAny _ _ (isInstance (.ref a) (.type "set") >>= _) _ _ s;apply Yaa;refine Yeg (b:=true) q sub_set_self ?_;exact Yac h
theorem VR {a:Addr}{es:Array (Int×Value)}{ep:Nat}{t:SetTable}{B:List Addr}{F:Option Addr}{Q:Array (Int×Value)->Shared->Prop}(h:SAt w s.heap a es ep t)(G:∀r:Array (Int×Value),r.toList=JG w a es ep->Q r s) :
  wpAny (model P w) A (setWalkUnseen a B F) Q E s:=by
 obtain ⟨⟨o,L,U,N⟩,S,D,q⟩:=id h;unfold setWalkUnseen;apply Yaa;apply wpAny_setState_of L N S.fits;dsimp only;apply Yaa;apply Oa;have O:(JR w || (t.led && t.plain) || decide (es.size<=1))=true:=by rw [D,q];cases JR w <;> rfl
 rw [O,if_pos rfl];exact Vj h G
theorem Zbg {a b:Addr}{oa ob:Obj}{σ τ:List Int}{nm:String}{Q:EX}(ay:b≠a)(ha:s.heap.get? a=some oa)(hσ:SetI P w oa σ)(hb:s.heap.get? b=some ob)(hτ:SetI P w ob τ)(hq:∀(h':Heap)(o':Obj)(ρ:List Int),(∀c o,c<s.heap.objs.size->s.heap.get? c=some o->h'.get? c=some o)->h'.get? s.heap.objs.size=some o'->SetI P w o' ρ->(∀k,k∈ρ↔k∈σ/\k∈τ)->Q (.ref s.heap.objs.size) { s with heap:=h' }) :
  wpAny (model P w) A (Builtin.Frozenset.intersection nm a (.ref b)) Q E s:=by
 have az:s.TypeIs (.ref a) "set" := (hσ.at_ ha).elim λes h=>h.elim λep h=>h.elim λt h=>h.1.typeIs;have a0:(Value.ref b == Value.ref a)=false:=by
  cases q:(Value.ref b == Value.ref a) with
  | false=>rfl
  | true=>have:=eq_of_beq q;injection this with z;exact absurd z ay
 unfold Builtin.Frozenset.intersection;rw [a0,if_neg Yal];apply Yaa;unfold Builtin.Frozenset.baseOf;apply Yaa;refine Yeg (b:=true) az sub_set_self ?_;rw [if_pos rfl];apply Yac;apply Yaa;unfold newSet;apply Yaa;apply Oa;dsimp only;simp only [newObj];apply Yaa;apply wpAny_alloc;apply Yac;show wpAny _ _ _ _ _ { s with heap:=s.heap.push (GJ w) };apply Yaa;apply Yac;have hS:(s.heap.push (GJ w)).get? s.heap.objs.size=some (GJ w):=Ybd _ rfl;have ka:(s.heap.push (GJ w)).get? a=some oa:=Yaj _ ha;have kb:(s.heap.push (GJ w)).get? b=some ob:=Yaj _ hb;have ai:=Yah ha;have aj:=Yah hb;apply Yaa;apply Yce;apply Yaa;apply VQ ((hτ.at_ kb).elim λes h=>h.elim λep h=>h.elim λt h=>h.1.typeIs);rw [if_pos rfl];apply Yaa;apply Yac;apply Yaa;obtain ⟨ak,a1,t2,al,a2,aB⟩:=hτ.at_ kb;obtain ⟨am,a3,t1,an,a4,aC⟩:=hσ.at_ ka;obtain ⟨⟨o2,a5,ab,a6⟩,S2,_⟩:=id al;obtain ⟨⟨L,a7,ac,a8⟩,S1,_⟩:=id an;unfold Builtin.Frozenset.sizeOf;apply Yaa;apply wpAny_setEntries_of a5 a6 S2.fits;apply Yac;apply Yaa;apply Yaa;apply wpAny_setEntries_of a7 a8 S1.fits;apply Yac;have key:∀(c d:Addr)(oc:Obj)(γ δ:List Int)(N:Array (Int×Value))(O:Nat)(td:SetTable),c<s.heap.objs.size->d<s.heap.objs.size->(s.heap.push (GJ w)).get? c=some oc->SetI P w oc γ ->
   SAt w (s.heap.push (GJ w)) d N O td->Paired (WX P w) N.toList δ->(∀k,k∈δ/\k∈γ↔k∈σ/\k∈τ) ->
   wpAny (model P w) A (do
    let was <- setEpoch d
    let l <- setWalkUnseen d [c,s.heap.objs.size] (some s.heap.objs.size)
    forIn l PUnit.unit λx _=>do
     holding [x.snd] do
      let f <- setFind c x.snd x.fst
      if f.isSome=true then do
       let _ <- setAddHashed s.heap.objs.size x.snd x.fst
       pure ()
      else pure ()
     Builtin.Frozenset.unchanged nm d was
     pure (ForInStep.yield PUnit.unit)
    pure ()) (λ_ s'=>wpAny (model P w) A (pure (Value.ref s.heap.objs.size)) Q E s') E { s with heap:=s.heap.push (GJ w) }:=by
  intro c d oc γ δ N O td ao ad ae hγ aa ap aq;obtain ⟨⟨od,U,aD,ar⟩,Sd,_⟩:=id aa;apply Yaa;refine wpAny_setEpoch_of U ar Sd.fits ?_;apply Yaa;refine VR aa λl hl=>?_;apply Yaa;rw [<-Array.forIn_toList,hl];obtain ⟨ε,hEε,hpε⟩:=OY (Jp (w:=w) d N O) ap;have hεl:ε.length<=1228:=by
   have h1:=Ybu ap;have h2:=hpε.length_eq;have h3:=Sd.room;rw [Yam] at h1;rcases Sd.T.mask with z | z | z | z | z <;> lia
  refine wpAny_forIn_list _ (λrest _ s1=>∃(h1:Heap)(L:Obj)(ρ B rs:List Int),s1={ s with heap:=h1 }/\(∀e o,e<s.heap.objs.size->s.heap.get? e=some o->h1.get? e=some o)/\h1.get? s.heap.objs.size=some L/\SetI P w L ρ /\
   Paired (WX P w) rest rs/\B++rs=ε/\ρ.length<=B.length/\∀k,k∈ρ↔k∈B/\k∈γ) _ ?_ ?_ _ _ ⟨s.heap.push (GJ w),GJ w,[],[],ε,rfl,λe o _ z=>Yaj _ z,hS,Yg _ _,hEε,rfl,Yaf _,λk=>by simp⟩
  ·rintro x rest _ s1 ⟨h1,L,ρ,B,rs,rfl,keep,Y,hρ,af,F,a9,hm⟩;cases af with
   | @cons _ n _ rs' hx hEr'=>
    obtain ⟨ac,tk,ab⟩:=hx;have aE:B.length+1<=1228:=by
     have:=Ybi List.length F;rw [Yaq,Yck] at this
     lia
    have as:h1.get? c=some oc:=by
     cases q:s.heap.get? c with
     | none=>
      have ag:c≠s.heap.objs.size:=Yao ao;rw [Heap.get?_push_ne _ _ _ ag,q] at ae;cases ae
     | some o'=>
      have e1:=Yaj (GJ w) q;rw [ae] at e1;cases e1;exact keep c oc ao q
    have au:h1.get? d=some od:=by
     cases q:s.heap.get? d with
     | none=>
      have ag:d≠s.heap.objs.size:=Yao ad;rw [Heap.get?_push_ne _ _ _ ag,q] at U;cases U
     | some o'=>
      have e1:=Yaj (GJ w) q;rw [U] at e1;cases e1;exact keep d od ad q
    have fin:∀(h2:Heap)(o2:Obj)(ρ2:List Int),Heap.SameBut s.heap.objs.size h1 h2->h2.get? s.heap.objs.size=some o2->SetI P w o2 ρ2->ρ2.length<=B.length+1->(∀k,k∈ρ2↔k∈B++[n]/\k∈γ) ->
      wpAny (model P w) A (do Builtin.Frozenset.unchanged nm d O;pure (ForInStep.yield PUnit.unit)) (λr s'=>match r with
       | .yield _=>∃(h1:Heap)(L:Obj)(ρ B rs:List Int),s'={ s with heap:=h1 }/\(∀e o,e<s.heap.objs.size->s.heap.get? e=some o->h1.get? e=some o)/\h1.get? s.heap.objs.size=some L/\SetI P w L ρ/\Paired (WX P w) rest rs/\B++rs=ε/\ρ.length<=B.length/\∀k,k∈ρ↔k∈B/\k∈γ
       | .done _=>wpAny (model P w) A (pure ()) (λ_ s'=>wpAny (model P w) A (pure (Value.ref s.heap.objs.size)) Q E s') E s') E { s with heap:=h2 }:=by
     intro h2 o2 ρ2 sb ah hρ2 av aA;have aw:h2.get? d=some od:=by rw [sb.2 d (Yao ad)];exact au
     apply Yaa;unfold Builtin.Frozenset.unchanged;apply Yaa;refine wpAny_setEpoch_of aw ar Sd.fits ?_;rw [if_neg (by simp)];apply Yac;refine Yac ⟨h2,o2,ρ2,B++[n],rs',rfl,λe o he z=>?_,ah,hρ2,hEr',by rw [Ybl];exact F,by rw [Yaq,Ych];exact av,aA⟩;rw [sb.2 e (Yao he)];exact keep e o he z
    obtain ⟨xh,xv⟩:=x;dsimp only at ac ab;subst ac ab;apply Yaa;apply Yce;apply Yaa;refine wpAny_setFind_of (knd:=intKind P w) (k:=n) (intKind_is _ _ _ _) rfl (hγ.setOf as) λr hr=>?_;by_cases Z:n∈γ
    ·rw [hr,if_pos (Yae Z)];apply Yaa;refine Z0 (s:={ s with heap:=h1 }) Y hρ (by lia) λ_ h2 o2 ρ2 sb ah hρ2 hp=>?_;apply Yac;refine Ybx (fin h2 o2 ρ2 sb ah hρ2 ?_ λk=>?_) (λr s' hr=>by cases r <;> exact hr) λ_ _ x=>x
     ·rw [hp.length_eq];split
      ·lia
      ·rw [Yaq,Ych];lia
     ·rw [hp.mem_iff,Yap,Ybo];split
      ·rename_i hnρ;rw [hm k];constructor
       ·rintro ⟨G,D⟩;exact ⟨.inl G,D⟩
       ·rintro ⟨G | rfl,D⟩
        ·exact ⟨G,D⟩
        ·exact (hm _).mp hnρ
      ·rw [Yap,Ybo,hm k];constructor
       ·rintro (⟨G,D⟩ | rfl)
        ·exact ⟨.inl G,D⟩
        ·exact ⟨.inr rfl,Z⟩
       ·rintro ⟨G | rfl,D⟩
        ·exact .inl ⟨G,D⟩
        ·exact .inr rfl
    ·rw [hr,if_neg (by rw [Yai Z];exact Yal)];apply Yac;refine Ybx (fin h1 L ρ (Heap.SameBut.refl _ _) Y hρ (by lia) λk=>?_) (λr s' hr=>by cases r <;> exact hr) λ_ _ x=>x;rw [hm k,Yap,Ybo];constructor
     ·rintro ⟨G,D⟩;exact ⟨.inl G,D⟩
     ·rintro ⟨G | rfl,D⟩
      ·exact ⟨G,D⟩
      ·exact absurd D Z
  ·rintro _ s1 ⟨h1,L,ρ,B,rs,rfl,keep,Y,hρ,af,F,a9,hm⟩;cases af;rw [Ycg] at F;subst F;apply Yac;apply Yac;exact hq h1 L ρ keep Y hρ λk=>by rw [hm k,<-aq k,hpε.mem_iff]
 by_cases ax:ak.size > am.size
 ·rw [if_pos ax];exact key b a ob τ σ am a3 t1 aj ai kb hτ an a4 λk=>Iff.rfl
 ·rw [if_neg ax];exact key a b oa σ τ ak a1 t2 ai aj ka hσ al a2 λk=>And.comm
end
section
variable {X:Cx}
theorem Zfe:OpR X (binaryOp .BitAnd) (λx y H Q=>∃(a b:Addr)(ms ns:List Int),x=.ref a/\y=.ref b/\b≠a/\H a=some (VO X.prog X.w a ms)/\H b=some (VO X.prog X.w b ns) /\
  ∀(l:Addr)(ks:List Int),H l=none->ks.Nodup->(∀k,k∈ks↔k∈ms/\k∈ns)->Q (.ref l) (upd H l (VO X.prog X.w l ks))):=by
 intro qQ s σ H x y v u Q I rx ry h;obtain ⟨a,b,ms,ns,rfl,rfl,Z,aa,ab,q⟩:=h;cases rx;cases ry;obtain ⟨⟨oa,σa,D,G,L⟩,_⟩:=I.hok a _ aa;obtain ⟨⟨ob,σb,N,O,U⟩,_⟩:=I.hok b _ ab;have B:s.TypeIs (.ref a) "set" := (G.at_ D).elim λes h=>h.elim λep h=>h.elim λt h=>h.1.typeIs;have Y:s.TypeIs (.ref b) "set" := (O.at_ N).elim λes h=>h.elim λep h=>h.elim λt h=>h.1.typeIs;refine wpAny_binaryOp_same (op:=.BitAnd) (T := "set") B Y F.fills_set_and F.slot_set_and ?_;refine Ycc F.slot_set_and B VN ?_ (F.args_set_and_2 _ _);show wpAny _ _ (pure (Value.ref a,Value.ref b) >>= _) _ _ s;apply Yaa;apply Yac;show wpAny _ _ ((Builtin.Frozenset.isAnySet (.ref a) <&&> Builtin.Frozenset.isAnySet (.ref b)) >>= _) _ _ s;apply Yaa;show wpAny _ _ (Builtin.Frozenset.isAnySet (.ref a) >>= _) _ _ s;apply Yaa;apply VQ B;apply VQ Y;rw [if_neg (by decide)];apply Yaa;apply Yac;apply Yaa;refine Zbg Z D G N O λh' o' ρ hk ac hρ hm=>?_;have ad:ρ.Nodup:=by obtain ⟨_,_,_,_,_,_,z,_⟩:=hρ;exact z
 exact Yac ⟨_,rfl,(by intro z;cases z),.ref _,_,I.laid (t':=s.toks) (o:=VO X.prog X.w s.heap.objs.size ρ) (λb o e=>hk b o (Yah e) e) (Yaf _) (Z4 ac hρ (.refl _)),rfl,q _ ρ I.fresh ad (λk=>by rw [hm k,L.mem_iff,U.mem_iff])⟩
end
section
variable {X:Cx}(P:Program)(w:World)(K:W.Frag)
theorem Zcc (q:X.calm=true)(h:X.K=K:=by rfl)(B:X.prog=P:=by rfl)(D:X.w=w:=by rfl):JD X (.type "set") (λxs H Q=>∃(p:Addr)(ns:List Int),xs=[.ref p]/\SqL K H p (ns.map V.int)/\ns.length<=1228 /\
  ∀(l:Addr)(ms:List Int),H l=none->ms.Nodup->(∀k,k∈ms↔k∈ns)->Q (.ref l) (upd H l (VO P w l ms))):=by
 subst B D;exact Zfd K q h
theorem Zd3 (q:X.prog=P:=by rfl)(B:X.w=w:=by rfl):OpR X (binaryOp .BitAnd) (λx y H Q=>∃(a b:Addr)(ms ns:List Int),x=.ref a/\y=.ref b/\b≠a/\H a=some (VO P w a ms)/\H b=some (VO P w b ns) /\
  ∀(l:Addr)(ks:List Int),H l=none->ks.Nodup->(∀k,k∈ks↔k∈ms/\k∈ns)->Q (.ref l) (upd H l (VO P w l ks))):=by
 subst q B;exact Zfe
theorem Z5 (q:X.calm=true)(B:X.prog=P:=by rfl)(D:X.w=w:=by rfl):JD X (.builtin "sorted") (λxs H Q=>∃(p:Addr)(ms:List Int),xs=[.ref p]/\H p=some (VO P w p ms)/\ms.length<64 /\
  ∀(l:Addr)(ns':List Int),H l=none->ns'.Perm ms->ns'.Pairwise (· <= ·)->Q (.ref l) (upd H l (.lst (ns'.map V.int)))):=by
 subst B D;exact Zbf q
end
noncomputable def Ob:Bool->Keyed->Array Keyed->Nat->Nat->Nat->StateT SortSt Sem (Option Nat):=sortPriv% PySem.Builtin.gallop
noncomputable def VS:Array Keyed->Array Keyed->StateT SortSt Sem (Array Keyed):=sortPriv% PySem.Builtin.mergeLo
noncomputable def VT:Array Keyed->Array Keyed->StateT SortSt Sem (Array Keyed):=sortPriv% PySem.Builtin.mergeHi
noncomputable def UT:Nat->StateT SortSt Sem Unit:=sortPriv% PySem.Builtin.setMinGallop
noncomputable def Ui (left:Bool)(key:Keyed)(arr:Array Keyed)(base i:Nat):StateT SortSt Sem (Option Bool):=do
 let x <- elem' arr (base+i)
 if left then lt' x key else return (<- lt' key x).map (!·)
noncomputable def O0 (left:Bool)(key:Keyed)(arr:Array Keyed)(base n lo hi:Nat):StateT SortSt Sem (Option Nat):=do
 let mut lo:=lo
 let mut hi:=hi
 for _ in [:n] do
  if lo>=hi then break
  let m:=lo+(hi-lo) / 2
  let some more <- Ui left key arr base m | return none
  if more then lo:=m+1
  else hi:=m
 return some hi
noncomputable def VU (left:Bool)(key:Keyed)(arr:Array Keyed)(base n hint:Nat):StateT SortSt Sem (Option Nat):=do
 let mut lastofs:=0
 let mut ofs:=1
 let maxofs:=n-hint
 for _ in [:n] do
  if ofs>=maxofs then break
  let some more <- Ui left key arr base (hint+ofs) | return none
  if !more then break
  lastofs:=ofs
  ofs:=2 * ofs+1
 O0 left key arr base n (hint+lastofs+1) (hint+min ofs maxofs)
noncomputable def Uj (left:Bool)(key:Keyed)(arr:Array Keyed)(base n hint:Nat):StateT SortSt Sem (Option Nat):=do
 let mut lastofs:=0
 let mut ofs:=1
 let maxofs:=hint+1
 for _ in [:n] do
  if ofs>=maxofs then break
  let some found <- Ui left key arr base (hint-ofs) | return none
  if found then break
  lastofs:=ofs
  ofs:=2 * ofs+1
 O0 left key arr base n (hint+1-min ofs maxofs) (hint-lastofs)
theorem YU (left:Bool)(key:Keyed)(arr:Array Keyed)(base n hint:Nat):Ob left key arr base n hint=(do
  let some right <- Ui left key arr base hint | return none
  if right then VU left key arr base n hint else Uj left key arr base n hint):=rfl
section
variable {M:Model}{A:Around}{E:EX}{s:Shared}{kd:SortKind}{b:Keyed->Keyed->Bool}{good:Keyed->Prop}
structure WO (b:Keyed->Keyed->Bool):Prop where
 irr:∀x,b x x=false
 tr:∀x y z,b x y=true->b y z=true->b x z=true
 neg:∀x y z,b x z=true->b x y=true\/b y z=true
noncomputable def Uw (M:Model)(A:Around)(E:EX)(s:Shared)(kd:SortKind)(b:Keyed->Keyed->Bool)(good:Keyed->Prop):Prop:=
 ∀(x y:Keyed)(st:SortSt)(Q:Option Bool->SortSt->Prop),good x->good y->kindOf st=kd->Q (some (b x y)) st->wpS M A E s (lt' x y) Q st
theorem GE {arr:Array Keyed}{i:Nat}{x:Keyed}{st:SortSt}{Q:Keyed->SortSt->Prop}(h:arr[i]?=some x)(q:Q x st):wpS M A E s (elem' arr i) Q st:=by
 rw [elem'_eq,h];exact Yag q
noncomputable def byd (b:Keyed->Keyed->Bool)(left:Bool)(key:Keyed)(arr:Array Keyed)(base i:Nat):Bool:=match arr[base+i]? with
 | some x=>if left then b x key else !b key x
 | none=>false
theorem Oq {left:Bool}{key:Keyed}{arr:Array Keyed}{base i:Nat}{x:Keyed}{st:SortSt}{Q:Option Bool->SortSt->Prop}(L:Uw M A E s kd b good)(B:good key)(D:arr[base+i]?=some x)(F:good x)(G:kindOf st=kd)(q:Q (some (byd b left key arr base i)) st):wpS M A E s (Ui left key arr base i) Q st:=by
 unfold Ui;refine Yad (GE D ?_);unfold byd at q;rw [D] at q;cases left with
 | true=>exact L x key st Q F B G q
 | false=>exact Yad (L key x st _ B F G (Yag q))
section
variable {left:Bool}{key:Keyed}{arr:Array Keyed}{base n hint:Nat}{st:SortSt}{Q:Option Nat->SortSt->Prop}
structure Gal (b:Keyed->Keyed->Bool)(good:Keyed->Prop)(left:Bool)(key:Keyed)(arr:Array Keyed)(base n:Nat):Prop where
 gk:good key
 it:∀i,i<n->∃x,arr[base+i]?=some x/\good x
 mono:∀i j,i<=j->j<n->byd b left key arr base j=true->byd b left key arr base i=true
theorem Jb {lo hi:Nat}(L:Uw M A E s kd b good)(G:Gal b good left key arr base n)(O:kindOf st=kd)(h1:lo<=hi)(h2:hi<=n)(D:∀i,i<lo->byd b left key arr base i=true)(F:∀i,hi<=i->i<n->byd b left key arr base i=false)(q:∀k,k<=n->(∀i,i<k->byd b left key arr base i=true)->(∀i,k<=i->i<n->byd b left key arr base i=false)->Q (some k) st):wpS M A E s (O0 left key arr base n lo hi) Q st:=by
 unfold O0;refine Yad (Ycd (λk c B=>B=st/\∃lo hi,c=(none,lo,hi)/\lo<=hi/\hi<=n/\hi-lo<=n-k/\(∀i,i<lo->byd b left key arr base i=true)/\(∀i,hi<=i->i<n->byd b left key arr base i=false)) ?_ ?_ ⟨rfl,lo,hi,rfl,h1,h2,by lia,D,F⟩)
 ·rintro k c B _ hk ⟨rfl,lo,hi,rfl,h1,h2,N,D,F⟩;dsimp only;split
  ·rename_i U;have:lo=hi:=by lia
   subst this;refine Yag ?_;dsimp only;exact Yag (q lo h2 D F)
  ·rename_i U;obtain ⟨x,Y,Z⟩:=G.it (lo+(hi-lo) / 2) (by lia);refine Yad (Oq L G.gk Y Z O ?_);dsimp only;cases hb:byd b left key arr base (lo+(hi-lo) / 2) with
   | true=>
    refine Yag ⟨rfl,_,_,rfl,by lia,h2,by lia,λi aa=>G.mono i (lo+(hi-lo) / 2) (by lia) (by lia) hb,F⟩
   | false=>
    refine Yag ⟨rfl,_,_,rfl,by lia,by lia,by lia,D,λi h8 h9=>?_⟩;cases hc:byd b left key arr base i with
    | false=>rfl
    | true=>rw [G.mono _ i h8 h9 hc] at hb;cases hb
 ·rintro c B ⟨rfl,lo,hi,rfl,h1,h2,N,D,F⟩;have:lo=hi:=by simp at N;lia
  subst this;exact Yag (q lo h2 D F)
theorem Jz (L:Uw M A E s kd b good)(G:Gal b good left key arr base n)(N:kindOf st=kd)(hn:hint<n)(q:∀k,k<=n->(∀i,i<k->byd b left key arr base i=true)->(∀i,k<=i->i<n->byd b left key arr base i=false)->Q (some k) st):wpS M A E s (Ob left key arr base n hint) Q st:=by
 rw [YU];obtain ⟨x,hx,gx⟩:=G.it hint hn;have F:∀i j,byd b left key arr base i=false->i<=j->j<n->byd b left key arr base j=false:=λi j h1 h2 h3=>by
  cases hc:byd b left key arr base j with
  | false=>rfl
  | true=>rw [G.mono _ j h2 h3 hc] at h1;cases h1
 refine Yad (Oq L G.gk hx gx N ?_);cases hb:byd b left key arr base hint with
 | true=>
  show wpS M A E s (VU left key arr base n hint) Q st;unfold VU;refine Yad (Ycd (λk c D=>D=st/\∃last B,c=(none,last,B)/\last<B/\k+1<=B/\hint+last<n/\byd b left key arr base (hint+last)=true) ?_ ?_ ⟨rfl,0,1,rfl,by lia,by lia,hn,hb⟩)
  ·rintro k c D _ hk ⟨rfl,last,B,rfl,h1,h2,h3,O⟩;dsimp only;split
   ·rename_i U;refine Yag ?_;dsimp only;rw [Yek U];exact Jb L G N (by lia) (by lia) (λi hi=>G.mono i _ (show i<=hint+last by lia) h3 O) (λi Y Z=>by lia) q
   ·rename_i U;obtain ⟨y,hy,gy⟩:=G.it (hint+B) (by lia);refine Yad (Oq L G.gk hy gy N ?_);dsimp only;cases hb2:byd b left key arr base (hint+B) with
    | true=>exact Yag ⟨rfl,_,_,rfl,by lia,by lia,by lia,hb2⟩
    | false=>
     refine Yag ?_;dsimp only;rw [Yda (by lia)];exact Jb L G N (by lia) (by lia) (λi hi=>G.mono i _ (show i<=hint+last by lia) h3 O) (λi Y Z=>F _ i hb2 Y Z) q
  ·rintro c D ⟨rfl,last,B,rfl,h1,h2,h3,O⟩;dsimp only;have U:n-hint<=B:=by simp at h2;lia
   rw [Yek U];exact Jb L G N (by lia) (by lia) (λi hi=>G.mono i _ (show i<=hint+last by lia) h3 O) (λi Y Z=>by lia) q
 | false=>
  show wpS M A E s (Uj left key arr base n hint) Q st;unfold Uj;refine Yad (Ycd (λk c D=>D=st/\∃last B,c=(none,last,B)/\last<B/\k+1<=B/\last<=hint/\byd b left key arr base (hint-last)=false) ?_ ?_ ⟨rfl,0,1,rfl,by lia,by lia,by lia,hb⟩)
  ·rintro k c D _ hk ⟨rfl,last,B,rfl,h1,h2,h3,O⟩;dsimp only;split
   ·rename_i U;refine Yag ?_;dsimp only;rw [Yek U];exact Jb L G N (by lia) (by lia) (λi hi=>by lia) (λi Y Z=>F _ i O Y Z) q
   ·rename_i U;obtain ⟨y,hy,gy⟩:=G.it (hint-B) (by lia);refine Yad (Oq L G.gk hy gy N ?_);dsimp only;cases hb2:byd b left key arr base (hint-B) with
    | false=>exact Yag ⟨rfl,_,_,rfl,by lia,by lia,by lia,hb2⟩
    | true=>
     refine Yag ?_;dsimp only;rw [Yda (by lia)];exact Jb L G N (by lia) (by lia) (λi hi=>G.mono i (hint-B) (by lia) (by lia) hb2) (λi Y Z=>F _ i O Y Z) q
  ·rintro c D ⟨rfl,last,B,rfl,h1,h2,h3,O⟩;dsimp only;have U:hint+1<=B:=by simp at h2;lia
   rw [Yek U];exact Jb L G N (by lia) (by lia) (λi hi=>by lia) (λi Y Z=>F _ i O Y Z) q
end
end
noncomputable abbrev MLs:=Option (Array Keyed)×Array Keyed×Nat×Nat×Nat×Nat
noncomputable abbrev MLt:=Option (Array Keyed)×Array Keyed×Nat×Nat×Nat×Nat×Nat
noncomputable def OE (a b out:Array Keyed)(ia ib:Nat):Array Keyed:=out++a.extract ia++b.extract ib
noncomputable def Vl (a b out:Array Keyed)(ia ib:Nat):Array Keyed:=out++b.extract ib++a.extract ia
noncomputable def Zbh (a b:Array Keyed)(mg:Nat):Nat->MLs->StateT SortSt Sem (ForInStep MLs):=λ_ r=>
 let out:=r.2.1;let ia:=r.2.2.1;let ib:=r.2.2.2.1;let qZ:=r.2.2.2.2.1;let qX:=r.2.2.2.2.2
 do
 let x <- elem' b ib
 let y <- elem' a ia
 match <- lt' x y with
 | some bWins=>
  if bWins=true then do
   let z <- elem' b ib
   let out:=out.push z
   let ib:=ib+1
   let qX:=qX+1
   let qZ:=0
   if (ib == b.size)=true then pure (.done (some (OE a b out ia ib),out,ia,ib,qZ,qX))
   else if qX>=mg then pure (.done (none,out,ia,ib,qZ,qX))
   else pure (.yield (none,out,ia,ib,qZ,qX))
  else do
   let z <- elem' a ia
   let out:=out.push z
   let ia:=ia+1
   let qZ:=qZ+1
   let qX:=0
   if (ia+1 == a.size)=true then pure (.done (some (Vl a b out ia ib),out,ia,ib,qZ,qX))
   else if qZ>=mg then pure (.done (none,out,ia,ib,qZ,qX))
   else pure (.yield (none,out,ia,ib,qZ,qX))
 | _=>pure (.done (some (OE a b out ia ib),out,ia,ib,qZ,qX))
noncomputable def mlD (a b:Array Keyed)(B q k:Nat)(out:Array Keyed)(ia ib:Nat):StateT SortSt Sem (ForInStep MLt):=do
 let qX:=k
 let z <- elem' a ia
 let out:=out.push z
 let ia:=ia+1
 if (ia+1 == a.size)=true then pure (.done (some (Vl a b out ia ib),out,ia,ib,B,q,qX))
 else if (decide (q<7) && decide (qX<7))=true then pure (.done (none,out,ia,ib,B,q,qX))
 else pure (.yield (none,out,ia,ib,B,q,qX))
noncomputable def mlC (a b:Array Keyed)(q B D:Nat)(out:Array Keyed)(ia ib:Nat):StateT SortSt Sem (ForInStep MLt):=do
 let z <- elem' b ib
 let out:=out.push z
 let ib:=ib+1
 if (ib == b.size)=true then pure (.done (some (OE a b out ia ib),out,ia,ib,q,B,D))
 else do
  let y <- elem' a ia
  match <- Ob true y b ib (b.size-ib) 0 with
  | some k=>
   let D:=k
   if k > 0 then
    let out:=out++b.extract ib (ib+k)
    let ib:=ib+k
    if (ib == b.size)=true then pure (.done (some (OE a b out ia ib),out,ia,ib,q,B,D))
    else mlD a b q B k out ia ib
   else mlD a b q B k out ia ib
  | _=>pure (.done (some (OE a b out ia ib),out,ia,ib,q,B,D))
noncomputable def mlB (a b:Array Keyed)(q B D:Nat)(out:Array Keyed)(ia ib:Nat):StateT SortSt Sem (ForInStep MLt):=do
 UT q
 let x <- elem' b ib
 match <- Ob false x a ia (a.size-ia) 0 with
 | some k=>
  let B:=k
  if k > 0 then
   let out:=out++a.extract ia (ia+k)
   let ia:=ia+k
   if (ia+1 == a.size)=true then pure (.done (some (Vl a b out ia ib),out,ia,ib,q,B,D))
   else if (ia == a.size)=true then pure (.done (some (OE a b out ia ib),out,ia,ib,q,B,D))
   else mlC a b q B D out ia ib
  else mlC a b q B D out ia ib
 | _=>pure (.done (some (OE a b out ia ib),out,ia,ib,q,B,D))
noncomputable def Zbi (a b:Array Keyed):Nat->MLt->StateT SortSt Sem (ForInStep MLt):=λ_ r=>
 let out:=r.2.1;let ia:=r.2.2.1;let ib:=r.2.2.2.1;let qJ:=r.2.2.2.2.1;let qZ:=r.2.2.2.2.2.1;let qX:=r.2.2.2.2.2.2
 if qJ > 1 then mlB a b (qJ-1) qZ qX out ia ib else mlB a b qJ qZ qX out ia ib
noncomputable abbrev MLo:=Option (Array Keyed)×Array Keyed×Nat×Nat×Nat
noncomputable def Zbj (a b:Array Keyed):Nat->MLo->StateT SortSt Sem (ForInStep MLo):=λ_ r=>
 let out:=r.2.1;let ia:=r.2.2.1;let ib:=r.2.2.2.1;let qJ:=r.2.2.2.2
 do
 let r <- forIn [:a.size+b.size] ((none,out,ia,ib,0,0):MLs) (Zbh a b qJ)
 match r.1 with
 | some x=>pure (.done (some x,r.2.1,r.2.2.1,r.2.2.2.1,qJ))
 | none=>do
  liftM (rule "list.sort.gallop")
  let r <- forIn [:a.size+b.size] ((none,r.2.1,r.2.2.1,r.2.2.2.1,qJ+1,r.2.2.2.2.1,r.2.2.2.2.2):MLt) (Zbi a b)
  match r.1 with
  | some x=>pure (.done (some x,r.2.1,r.2.2.1,r.2.2.2.1,r.2.2.2.2.1))
  | none=>do
   UT (r.2.2.2.2.1+1)
   pure (.yield (none,r.2.1,r.2.2.1,r.2.2.2.1,r.2.2.2.2.1+1))
theorem Jk {α β:Type}{m:StateT SortSt Sem α}{f g:α->StateT SortSt Sem β}(h:∀x,f x=g x):m >>= f=m >>= g:=by rw [funext h]
theorem VW {α:Type}{c:Prop}[Decidable c]{x y u v:α}(h1:x=y)(h2:u=v):(if c then x else u)=if c then y else v:=by rw [h1,h2]
theorem UU {β:Type}{r:Std.Legacy.Range}{c:β}{f g:Nat->β->StateT SortSt Sem (ForInStep β)}(h:∀i x,f i x=g i x):forIn r c f=forIn r c g:=by rw [funext λi=>funext (h i)]
theorem Xo (a b:Array Keyed):VS a b=(do
  liftM (rule "list.sort.merge-lo")
  let x <- elem' b 0
  let out:=#[x]
  if (1 == b.size)=true then pure (OE a b out 0 1)
  else if (0+1 == a.size)=true then pure (Vl a b out 0 1)
  else do
   let st <- get
   let r <- forIn [:a.size+b.size] ((none,out,0,1,gallopOf st):MLo) (Zbj a b)
   match r.1 with
   | some r=>pure r
   | none=>liftM (unsupported "internal:list.sort.merge-bound")):=by
 refine Jk (m:=liftM (rule "list.sort.merge-lo")) λ_=>?_;refine Jk (m:=elem' b 0) λx=>?_;refine VW (c:=(1 == b.size)=true) rfl ?_;refine VW (c:=(0+1 == a.size)=true) rfl ?_;refine Jk (m:=get) λst=>?_;refine (Ybi (λm:StateT SortSt Sem MLo=>m >>= _) (UU (r:=[:a.size+b.size]) (c:=((none,#[x],0,1,gallopOf st):MLo)) (g:=Zbj a b) λi r=>?_)).trans ?_;rotate_left
 ·refine Jk λr=>?_;obtain ⟨D,G⟩:=r;cases D <;> rfl
 unfold Zbj;refine (Ybi (λm:StateT SortSt Sem MLs=>m >>= _) (UU (r:=[:a.size+b.size]) (g:=Zbh a b r.2.2.2.2) λi r=>rfl)).trans ?_;refine Jk λq=>?_;obtain ⟨B,F⟩:=q;cases B with
 | some z=>rfl
 | none=>
  refine Jk (m:=liftM (rule "list.sort.gallop")) λ_=>?_;refine (Ybi (λm:StateT SortSt Sem MLt=>m >>= _) (UU (r:=[:a.size+b.size]) (g:=Zbi a b) λi r=>rfl)).trans ?_;refine Jk λq=>?_;obtain ⟨B,F⟩:=q;cases B <;> rfl
section
variable {b:Keyed->Keyed->Bool}
noncomputable abbrev kle (b:Keyed->Keyed->Bool)(x y:Keyed):Prop:=b y x=false
theorem WO.le_trans (W:WO b){x y z:Keyed}(h1:kle b x y)(h2:kle b y z):kle b x z:=by
 cases h:b z x with
 | false=>exact h
 | true=>
  rcases W.neg z y x h with q | q
  ·rw [show b z y=false from h2] at q;cases q
  ·rw [show b y x=false from h1] at q;cases q
theorem WO.le_of_lt (W:WO b){x y:Keyed}(h:b x y=true):kle b x y:=by
 cases q:b y x with
 | false=>exact q
 | true=>
  have:=W.tr _ _ _ h q;rw [W.irr] at this;cases this
theorem WO.le_refl (W:WO b)(x:Keyed):kle b x x:=W.irr x
structure Mrg (b:Keyed->Keyed->Bool)(all out ra rb:List Keyed):Prop where
 perm:(out++ra++rb).Perm all
 so:out.Pairwise (kle b)
 le:∀x∈out,∀y∈ra++rb,kle b x y
 sa:ra.Pairwise (kle b)
 sb:rb.Pairwise (kle b)
theorem Mrg.len {all out q B:List Keyed}(h:Mrg b all out q B):out.length+q.length+B.length=all.length:=by
 have:=h.perm.length_eq;rw [Yaq,Yaq] at this;exact this
theorem Mrg.moveA {all out u D F:List Keyed}(h:Mrg b all out (u++D) F)(L:∀x∈u,∀y∈F,kle b x y):Mrg b all (out++u) D F:=by
 have G:=Ybs.mp h.sa;refine ⟨by rw [Ybl out u D];exact h.perm,Ybs.mpr ⟨h.so,G.1,λx B y q=>h.le x B y (by simp [q])⟩,λx B y q=>?_,G.2.1,h.sb⟩;rcases Yap.mp B with B | B
 ·refine h.le x B y ?_;rcases Yap.mp q with q | q
  ·simp [q]
  ·simp [q]
 ·rcases Yap.mp q with q | q
  ·exact G.2.2 x B y q
  ·exact L x B y q
theorem Mrg.moveB {all out u D G:List Keyed}(h:Mrg b all out D (u++G))(L:∀x∈u,∀y∈D,kle b x y):Mrg b all (out++u) D G:=by
 have F:=Ybs.mp h.sb;refine ⟨?_,Ybs.mpr ⟨h.so,F.1,λx B y q=>h.le x B y (by simp [q])⟩,λx B y q=>?_,h.sa,F.2.1⟩
 ·refine List.Perm.trans ?_ h.perm;simp only [Ybl];refine Ycz _ ?_;rw [<-Ybl,<-Ybl];exact List.Perm.append_right _ List.perm_append_comm
 ·rcases Yap.mp B with B | B
  ·refine h.le x B y ?_;rcases Yap.mp q with q | q
   ·simp [q]
   ·simp [q]
  ·rcases Yap.mp q with q | q
   ·exact L x B y q
   ·exact F.2.2 x B y q
noncomputable def Jt (b:Keyed->Keyed->Bool)(all r:List Keyed):Prop:=r.Perm all/\r.Pairwise (kle b)
theorem Mrg.endA {all out q B:List Keyed}(h:Mrg b all out q B)(D:∀x∈q,∀y∈B,kle b x y):Jt b all (out++q++B):=by
 refine ⟨h.perm,?_⟩;rw [Ybl];exact Ybs.mpr ⟨h.so,Ybs.mpr ⟨h.sa,h.sb,D⟩,h.le⟩
theorem Mrg.endB {all out B D:List Keyed}(h:Mrg b all out B D)(F:∀x∈D,∀y∈B,kle b x y):Jt b all (out++D++B):=by
 refine ⟨?_,?_⟩
 ·refine List.Perm.trans ?_ h.perm;rw [Ybl,Ybl];exact Ycz _ List.perm_append_comm
 ·rw [Ybl];exact Ybs.mpr ⟨h.so,Ybs.mpr ⟨h.sb,h.sa,F⟩,λx G y q=>h.le x G y (by
   rcases Yap.mp q with q | q <;> simp [q])⟩
end
theorem UB (a:Array Keyed)(i:Nat):(a.extract i).toList=a.toList.drop i:=by
 rw [Yem,Yen,Yeq];rw [Yco];exact Yaf _
theorem Yh (a:Array Keyed)(i k:Nat):(a.extract i (i+k)).toList=(a.toList.drop i).take k:=by
 rw [Yem,Yen,Nat.add_sub_cancel_left]
theorem JH {a:Array Keyed}{i:Nat}{x:Keyed}(h:a[i]?=some x):a.toList.drop i=x::a.toList.drop (i+1):=by
 rw [<-Yaz] at h;obtain ⟨h1,h2⟩:=Yay.mp h;rw [Yes h1,h2]
noncomputable def SameG (st q:SortSt):Prop:=kindOf q=kindOf st/\arrOf q=arrOf st/\pendingOf q=pendingOf st/\failedOf q=failedOf st
theorem SameG.refl (st:SortSt):SameG st st:=⟨rfl,rfl,rfl,rfl⟩
theorem SameG.trans {st B q:SortSt}(h:SameG st B)(k:SameG B q):SameG st q:=⟨k.1.trans h.1,k.2.1.trans h.2.1,k.2.2.1.trans h.2.2.1,k.2.2.2.trans h.2.2.2⟩
section
variable {M:Model}{A:Around}{E:EX}{s:Shared}{kd:SortKind}{b:Keyed->Keyed->Bool}{good:Keyed->Prop}
theorem Os {g:Nat}{st:SortSt}{Q:Unit->SortSt->Prop}(q:∀B,SameG st B->Q () B):wpS M A E s (UT g) Q st:=by
 refine Ycm (f:=λs=>SortSt.mk' (kindOf s) (arrOf s) (pendingOf s) g (failedOf s)) (q _ ⟨rfl,rfl,rfl,rfl⟩)
structure Two (b:Keyed->Keyed->Bool)(good:Keyed->Prop)(a c:Array Keyed):Prop where
 ga:∀x∈a.toList,good x
 gc:∀x∈c.toList,good x
 sa:a.toList.Pairwise (kle b)
 sc:c.toList.Pairwise (kle b)
 na:0<a.size
 nc:0<c.size
 first:∀x,c[0]?=some x->∀y∈a.toList,kle b x y
 last:∀z,a[a.size-1]?=some z->∀y∈c.toList,kle b y z
variable {a c:Array Keyed}
theorem Two.at (T:Two b good a c){i:Nat}(h:i<a.size):∃x,a[i]?=some x/\good x:=⟨a[i],by simp [h],T.ga _ (by simp)⟩
theorem Two.ct (T:Two b good a c){i:Nat}(h:i<c.size):∃x,c[i]?=some x/\good x:=⟨c[i],by simp [h],T.gc _ (by simp)⟩
noncomputable def ML (b:Keyed->Keyed->Bool)(a c out:Array Keyed)(ia ib:Nat):Prop:=Mrg b (a.toList++c.toList) out.toList (a.toList.drop ia) (c.toList.drop ib)
theorem ML.done {out:Array Keyed}{ia ib:Nat}(h:ML b a c out ia ib)(e:ib=c.size\/ia=a.size):Jt b (a.toList++c.toList) (OE a c out ia ib).toList:=by
 unfold OE;rw [Ycr,Ycr,UB,UB];refine Mrg.endA h λx q y B=>?_;rcases e with e | e
 ·rw [Yer (by rw [e,Yam];exact Yaf _)] at B;cases B
 ·rw [Yer (by rw [e,Yam];exact Yaf _)] at q;cases q
theorem ML.last {out:Array Keyed}{ia ib:Nat}(T:Two b good a c)(h:ML b a c out ia ib)(e:ia+1=a.size):Jt b (a.toList++c.toList) (Vl a c out ia ib).toList:=by
 unfold Vl;rw [Ycr,Ycr,UB,UB];refine Mrg.endB h λx D y q=>?_;obtain ⟨z,B,_⟩:=T.at (i:=ia) (by lia);rw [JH B,Yer (by rw [Yam];lia)] at q;have:y=z:=by simpa using q
 subst this;exact T.last y (by rw [<-e];exact B) x (List.mem_of_mem_drop D)
theorem ML.pushB {out:Array Keyed}{ia ib:Nat}{x:Keyed}(h:ML b a c out ia ib)(q:c[ib]?=some x)(B:∀y∈a.toList.drop ia,kle b x y):ML b a c (out.push x) ia (ib+1):=by
 unfold ML at h ⊢;rw [Ydw];rw [JH q] at h;exact Mrg.moveB (u:=[x]) h λz D y F=>by
  have:z=x:=by simpa using D
  subst this;exact B y F
theorem ML.pushA {out:Array Keyed}{ia ib:Nat}{x:Keyed}(h:ML b a c out ia ib)(q:a[ia]?=some x)(B:∀y∈c.toList.drop ib,kle b x y):ML b a c (out.push x) (ia+1) ib:=by
 unfold ML at h ⊢;rw [Ydw];rw [JH q] at h;exact Mrg.moveA (u:=[x]) h λz D y F=>by
  have:z=x:=by simpa using D
  subst this;exact B y F
theorem ML.takeA {out:Array Keyed}{ia ib k:Nat}(h:ML b a c out ia ib)(q:∀x∈(a.toList.drop ia).take k,∀y∈c.toList.drop ib,kle b x y):ML b a c (out++a.extract ia (ia+k)) (ia+k) ib:=by
 unfold ML at h ⊢;rw [Ycr,Yh];rw [<-Yde k (a.toList.drop ia),List.drop_drop] at h;exact Mrg.moveA h q
theorem ML.takeB {out:Array Keyed}{ia ib k:Nat}(h:ML b a c out ia ib)(q:∀x∈(c.toList.drop ib).take k,∀y∈a.toList.drop ia,kle b x y):ML b a c (out++c.extract ib (ib+k)) ia (ib+k):=by
 unfold ML at h ⊢;rw [Ycr,Yh];rw [<-Yde k (c.toList.drop ib),List.drop_drop] at h;exact Mrg.moveB h q
theorem VX {l:List Keyed}{x:Keyed}(W:WO b)(h:(x::l).Pairwise (kle b)):∀y∈x::l,kle b x y:=λy q=>by
 rcases Yas.mp q with rfl | q
 ·exact W.le_refl _
 ·exact (Ydn.mp h).1 y q
theorem Z6 (W:WO b)(L:Uw M A E s kd b good)(T:Two b good a c){out:Array Keyed}{ia ib mg:Nat}{st:SortSt}(hs:kindOf st=kd)(h:ML b a c out ia ib)(h1:ia+1<a.size)(h2:ib<c.size){Q:MLs->SortSt->Prop}(q1:∀r y F,SameG st F->Jt b (a.toList++c.toList) r.toList->Q (some r,y) F)(q2:∀q B D O U F,SameG st F->ML b a c q B D->B+1<a.size->D<c.size->out.size<q.size->Q (none,q,B,D,O,U) F) :
  wpS M A E s (forIn [:a.size+c.size] ((none,out,ia,ib,0,0):MLs) (Zbh a c mg)) Q st:=by
 refine Ycd (λk r F=>SameG st F/\∃q B D O U,r=(none,q,B,D,O,U)/\ML b a c q B D/\B+1<a.size/\D<c.size/\out.size+k<=q.size) ?_ ?_ ⟨SameG.refl _,_,_,_,_,_,rfl,h,h1,h2,Yaf _⟩
 ·rintro k r N _ hk ⟨G,q,B,D,O,U,rfl,h,h1,h2,h3⟩;have aa:kindOf N=kd:=G.1.trans hs;unfold Zbh;dsimp only;obtain ⟨x,Y,gx⟩:=T.ct h2;obtain ⟨y,Z,gy⟩:=T.at (i:=B) (by lia);refine Yad (GE Y (Yad (GE Z (Yad (L x y N _ gx gy aa ?_)))));have sA:(a.toList.drop B).Pairwise (kle b):=h.sa;have sB:(c.toList.drop D).Pairwise (kle b):=h.sb;rw [JH Z] at sA;rw [JH Y] at sB;dsimp only;cases hb:b x y with
  | true=>
   rw [if_pos rfl];refine Yad (GE Y ?_);have h':=h.pushB Y λz hz=>by
    rw [JH Z] at hz;exact W.le_trans (W.le_of_lt hb) (VX W sA z hz)
   split
   ·rename_i e;exact Yag (q1 _ _ _ G (h'.done (.inl (eq_of_beq e))))
   ·rename_i e;have e:D+1<c.size:=by
     have:D+1≠c.size:=λz=>e (Ybg.mpr z)
     lia
    split
    ·exact Yag (q2 _ _ _ _ _ _ G h' h1 e (by rw [Yci];lia))
    ·exact Yag ⟨G,_,_,_,_,_,rfl,h',h1,e,by rw [Yci];lia⟩
  | false=>
   rw [if_neg Yal];refine Yad (GE Z ?_);have h':=h.pushA Z λz hz=>by
    rw [JH Y] at hz;exact W.le_trans hb (VX W sB z hz)
   split
   ·rename_i e;exact Yag (q1 _ _ _ G (h'.last T (eq_of_beq e)))
   ·rename_i e;have e:B+1+1<a.size:=by
     have:B+1+1≠a.size:=λz=>e (Ybg.mpr z)
     lia
    split
    ·exact Yag (q2 _ _ _ _ _ _ G h' e h2 (by rw [Yci];lia))
    ·exact Yag ⟨G,_,_,_,_,_,rfl,h',e,h2,by rw [Yci];lia⟩
 ·rintro r N ⟨G,q,B,D,O,U,rfl,h,h1,h2,h3⟩;exact q2 _ _ _ _ _ _ G h h1 h2 (by have:=T.na;simp at h3;lia)
end
noncomputable def Rng (b:Keyed->Keyed->Bool)(arr:Array Keyed)(lo hi:Nat):Prop:=∀i j x y,lo<=i->i<=j->j<hi->arr[i]?=some x->arr[j]?=some y->kle b x y
section
variable {M:Model}{A:Around}{E:EX}{s:Shared}{kd:SortKind}{b:Keyed->Keyed->Bool}{good:Keyed->Prop}
theorem Zbk (W:WO b):∀{l:List Keyed}{i j:Nat}{x y:Keyed},l.Pairwise (kle b)->i<=j->l[i]?=some x->l[j]?=some y->kle b x y
 | [],_,_,_,_,_,_,h,_=>by simp at h
 | z::l,0,0,x,y,_,_,h1,h2=>by
  simp at h1 h2;subst h1 h2;exact W.le_refl _
 | z::l,0,j+1,x,y,h,_,h1,h2=>by
  simp at h1 h2;subst h1;exact (Ydn.mp h).1 y (Ybb h2)
 | z::l,i+1,0,_,_,_,h,_,_=>by lia
 | z::l,i+1,j+1,x,y,h,hij,h1,h2=>by
  simp at h1 h2;exact Zbk W (Ydn.mp h).2 (by lia) h1 h2
theorem Zcd (W:WO b){arr:Array Keyed}{lo:Nat}(h:(arr.toList.drop lo).Pairwise (kle b)):Rng b arr lo arr.size:=λi j x y h1 h2 D q B=>by
 refine Zbk (i:=i-lo) (j:=j-lo) W h (by lia) ?_ ?_
 ·rw [Ydv,Ycv h1,Yaz];exact q
 ·rw [Ydv,Ycv (Ybc h1 h2),Yaz];exact B
theorem Vm (W:WO b){left:Bool}{key:Keyed}{arr:Array Keyed}{base n:Nat}(L:good key)(D:∀i,i<n->∃x,arr[base+i]?=some x/\good x)(h:Rng b arr base (base+n)):Gal b good left key arr base n:=by
 refine ⟨L,D,λi j h1 h2 q=>?_⟩;obtain ⟨x,F,_⟩:=D i (by lia);obtain ⟨y,G,_⟩:=D j h2;have B:=h (base+i) (base+j) x y (by lia) (by lia) (by lia) F G;unfold byd at q ⊢;rw [G] at q;rw [F];dsimp only at q ⊢;cases left with
 | true=>
  rw [if_pos rfl] at q ⊢;rcases W.neg y x key q with z | z
  ·rw [show b y x=false from B] at z;cases z
  ·exact z
 | false=>
  rw [if_neg Yal] at q ⊢;rw [Bool.not_eq_true'] at q ⊢;exact W.le_trans (x:=x) (y:=y) (z:=key) B q
variable {a c:Array Keyed}
theorem Yi {arr:Array Keyed}{base k:Nat}{x:Keyed}(h:x∈(arr.toList.drop base).take k):∃i,i<k/\arr[base+i]?=some x:=by
 obtain ⟨i,hi⟩:=Yev.mp h;rw [Ydm] at hi;split at hi
 ·rw [Ydv,Yaz] at hi;exact ⟨i,by assumption,hi⟩
 ·cases hi
theorem Yj {arr:Array Keyed}{base:Nat}{x:Keyed}(h:x∈arr.toList.drop base):∃i,base+i<arr.size/\arr[base+i]?=some x:=by
 obtain ⟨i,hi⟩:=Yev.mp h;rw [Ydv,Yaz] at hi;exact ⟨i,(Array.getElem?_eq_some_iff.mp hi).1,hi⟩
section
variable {out:Array Keyed}{ia ib:Nat}{st:SortSt}{Q:ForInStep MLt->SortSt->Prop}
structure Zbl (b:Keyed->Keyed->Bool)(a c:Array Keyed)(n:Nat)(st:SortSt)(Q:ForInStep MLt->SortSt->Prop):Prop where
 fin:∀r y st',SameG st st'->Jt b (a.toList++c.toList) r.toList->Q (.done (some r,y)) st'
 brk:∀out' ia' ib' y st',SameG st st'->ML b a c out' ia' ib'->ia'+1<a.size->ib'<c.size->n<=out'.size->Q (.done (none,out',ia',ib',y)) st'
 go:∀out' ia' ib' y st',SameG st st'->ML b a c out' ia' ib'->ia'+1<a.size->ib'<c.size->n<=out'.size->Q (.yield (none,out',ia',ib',y)) st'
theorem Z7 (T:Two b good a c){mg D k n:Nat}(R:Zbl b a c n st Q)(h:ML b a c out ia ib)(h1:ia+1<a.size)(h2:ib<c.size)(G:n<=out.size)(F:∀x,a[ia]?=some x->∀y∈c.toList.drop ib,kle b x y) :
  wpS M A E s (mlD a c mg D k out ia ib) Q st:=by
 unfold mlD;obtain ⟨x,B,L⟩:=T.at (i:=ia) (by lia);refine Yad (GE B ?_);have h':=h.pushA B (F x B);have q:n<=(out.push x).size:=by rw [Yci];lia
 dsimp only;split
 ·rename_i e;exact Yag (R.fin _ _ _ (SameG.refl _) (h'.last T (eq_of_beq e)))
 ·rename_i e;have e:ia+1+1<a.size:=by
   have:ia+1+1≠a.size:=λz=>e (Ybg.mpr z)
   lia
  split
  ·exact Yag (R.brk _ _ _ _ _ (SameG.refl _) h' e h2 q)
  ·exact Yag (R.go _ _ _ _ _ (SameG.refl _) h' e h2 q)
theorem Z8 (W:WO b)(L:Uw M A E s kd b good)(T:Two b good a c){mg ac bc n:Nat}(R:Zbl b a c n st Q)(hs:kindOf st=kd)(h:ML b a c out ia ib)(h1:ia+1<a.size)(h2:ib<c.size)(hn:n<=out.size)(hl:∀x,c[ib]?=some x->∀y∈a.toList.drop ia,kle b x y):wpS M A E s (mlC a c mg ac bc out ia ib) Q st:=by
 unfold mlC;obtain ⟨x,U,gx⟩:=T.ct h2;obtain ⟨y,D,gy⟩:=T.at (i:=ia) (by lia);refine Yad (GE U ?_);have h':=h.pushB U (hl x U);have F:n<=(out.push x).size:=by rw [Yci];lia
 generalize out.push x=N at h' F;dsimp only;split
 ·rename_i e;exact Yag (R.fin _ _ _ (SameG.refl _) (h'.done (.inl (eq_of_beq e))))
 ·rename_i e;have e:ib+1<c.size:=by
   have:ib+1≠c.size:=λz=>e (Ybg.mpr z)
   lia
  refine Yad (GE D ?_);have sB:Rng b c (ib+1) c.size:=Zcd W h'.sb;have Z:(a.toList.drop ia).Pairwise (kle b):=h'.sa;rw [JH D] at Z;have G:Gal b good true y c (ib+1) (c.size-(ib+1)):=Vm W gy (λi hi=>T.ct (by lia)) (by rw [Ycv (by lia)];exact sB);refine Yad (Jz L G hs (by lia) λk hk k1 k2=>?_);dsimp only;have tk:∀z∈(c.toList.drop (ib+1)).take k,∀v∈a.toList.drop ia,kle b z v:=λz hz v B=>by
   obtain ⟨i,hi,ez⟩:=Yi hz;have:=k1 i hi;unfold byd at this;rw [ez] at this;dsimp only at this;rw [if_pos rfl] at this;rw [JH D] at B;exact W.le_trans (W.le_of_lt this) (VX W Z v B)
  have tr:∀v∈c.toList.drop (ib+1+k),kle b y v:=λv B=>by
   obtain ⟨i,hi,ev⟩:=Yj B;have:=k2 (k+i) (by lia) (by lia);unfold byd at this;rw [show ib+1+(k+i)=ib+1+k+i by lia,ev] at this;dsimp only at this;rw [if_pos rfl] at this;exact this
  split
  ·have h3:=h'.takeB tk;have Y:n<=(N++c.extract (ib+1) (ib+1+k)).size:=by rw [Array.size_append];lia
   split
   ·rename_i O;exact Yag (R.fin _ _ _ (SameG.refl _) (h3.done (.inl (eq_of_beq O))))
   ·rename_i O;have O:ib+1+k<c.size:=by
     have:ib+1+k≠c.size:=λz=>O (Ybg.mpr z)
     lia
    exact Z7 T R h3 h1 O Y λx' q v B=>by
     rw [D] at q;cases q;exact tr v B
  ·rename_i aa;have:k=0:=by lia
   subst this;exact Z7 T R h' h1 e F λx' q v B=>by
    rw [D] at q;cases q;exact tr v B
theorem ZcU (W:WO b)(L:Uw M A E s kd b good)(T:Two b good a c){mg ac bc n:Nat}(R:∀F,SameG st F->Zbl b a c n F Q)(hs:kindOf st=kd)(h:ML b a c out ia ib)(h1:ia+1<a.size)(h2:ib<c.size)(hn:n<=out.size) :
  wpS M A E s (mlB a c mg ac bc out ia ib) Q st:=by
 unfold mlB;refine Yad (Os λN sg=>?_);have R:=R N sg;have D:kindOf N=kd:=sg.1.trans hs;obtain ⟨x,O,gx⟩:=T.ct h2;refine Yad (GE O ?_);have sA:Rng b a ia a.size:=Zcd W h.sa;have sB:(c.toList.drop ib).Pairwise (kle b):=h.sb;rw [JH O] at sB;have G:Gal b good false x a ia (a.size-ia):=Vm W gx (λi hi=>T.at (by lia)) (by rw [Ycv (by lia)];exact sA);refine Yad (Jz L G D (by lia) λk hk k1 k2=>?_);dsimp only;have tk:∀z∈(a.toList.drop ia).take k,∀v∈c.toList.drop ib,kle b z v:=λz hz v B=>by
  obtain ⟨i,hi,ez⟩:=Yi hz;have:=k1 i hi;unfold byd at this;rw [ez] at this;dsimp only at this;rw [if_neg Yal,Bool.not_eq_true'] at this;rw [JH O] at B;exact W.le_trans this (VX W sB v B)
 have tr:∀v∈a.toList.drop (ia+k),kle b x v:=λv B=>by
  obtain ⟨i,hi,ev⟩:=Yj B;have:=k2 (k+i) (by lia) (by lia);unfold byd at this;rw [show ia+(k+i)=ia+k+i by lia,ev] at this;dsimp only at this;rw [if_neg Yal,Bool.not_eq_false'] at this;exact W.le_of_lt this
 split
 ·have U:=h.takeA tk;have Y:n<=(out++a.extract ia (ia+k)).size:=by rw [Array.size_append];lia
  split
  ·rename_i Z;exact Yag (R.fin _ _ _ (SameG.refl _) (U.last T (eq_of_beq Z)))
  ·rename_i Z;split
   ·rename_i e3;exact Yag (R.fin _ _ _ (SameG.refl _) (U.done (.inr (eq_of_beq e3))))
   ·rename_i e3;have e4:ia+k+1<a.size:=by
     have:ia+k+1≠a.size:=λz=>Z (Ybg.mpr z);have:ia+k≠a.size:=λz=>e3 (Ybg.mpr z)
     lia
    exact Z8 W L T R D U e4 h2 Y λx' q v B=>by
     rw [O] at q;cases q;exact tr v B
 ·have:k=0:=by lia
  subst this;exact Z8 W L T R D h h1 h2 hn λx' q v B=>by
   rw [O] at q;cases q;exact tr v B
end
theorem Z9 (W:WO b)(L:Uw M A E s kd b good)(T:Two b good a c){out:Array Keyed}{ia ib n:Nat}{y:Nat×Nat×Nat}{st:SortSt}(hs:kindOf st=kd)(h:ML b a c out ia ib)(h1:ia+1<a.size)(h2:ib<c.size){Q:MLt->SortSt->Prop}(q1:∀r y B,SameG st B->Jt b (a.toList++c.toList) r.toList->Q (some r,y) B)(q2:∀q D F y B,SameG st B->ML b a c q D F->D+1<a.size->F<c.size->out.size<=q.size->Q (none,q,D,F,y) B) :
  wpS M A E s (forIn [:n] ((none,out,ia,ib,y):MLt) (Zbi a c)) Q st:=by
 refine Ycd (λk r B=>SameG st B/\∃q D F y,r=(none,q,D,F,y)/\ML b a c q D F/\D+1<a.size/\F<c.size/\out.size<=q.size) ?_ ?_ ⟨SameG.refl _,_,_,_,_,rfl,h,h1,h2,Yaf _⟩
 ·rintro k r G _ hk ⟨U,q,D,F,y,rfl,h,h1,h2,Y⟩;have Z:kindOf G=kd:=U.1.trans hs;have R:∀B,SameG G B->Zbl b a c out.size B (λr B=>match r with
   | .done c'=>Q c' B
   | .yield c'=>SameG st B/\∃q D F y,c'=(none,q,D,F,y)/\ML b a c q D F/\D+1<a.size/\F<c.size/\out.size<=q.size):=λB O=>
   ⟨λr y N g m=>q1 r y N ((U.trans O).trans g) m,λo i j y N g m p1 p2 p3=>q2 o i j y N ((U.trans O).trans g) m p1 p2 p3,λo i j y N g m p1 p2 p3=>⟨(U.trans O).trans g,o,i,j,y,rfl,m,p1,p2,p3⟩⟩
  unfold Zbi;dsimp only;have mono:∀mg,wpS M A E s (mlB a c mg y.2.1 y.2.2 q D F) _ G:=λmg=>ZcU W L T R Z h h1 h2 Y;split
  ·exact wpS_mono (mono _) λr B hr=>by cases r <;> exact hr
  ·exact wpS_mono (mono _) λr B hr=>by cases r <;> exact hr
 ·rintro r G ⟨U,q,D,F,y,rfl,h,h1,h2,Y⟩;exact q2 _ _ _ _ _ U h h1 h2 Y
theorem Xp (W:WO b)(L:Uw M A E s kd b good)(T:Two b good a c){st:SortSt}(hs:kindOf st=kd){Q:Array Keyed->SortSt->Prop}(q:∀r G,SameG st G->Jt b (a.toList++c.toList) r.toList->Q r G):wpS M A E s (VS a c) Q st:=by
 rw [Xo];refine Yad (wpS_lift (Ydf ⟨rfl,?_⟩));obtain ⟨x,hx,gx⟩:=T.ct T.nc;refine Yad (GE hx ?_);have h0:ML b a c #[x] 0 1:=by
  have z:ML b a c #[] 0 0:=⟨by simp,by simp,by simp,by simpa using T.sa,by simpa using T.sc⟩;exact z.pushB hx λy hy=>T.first x hx y (by simpa using hy)
 have hc:=T.nc;have ha:=T.na;dsimp only;split
 ·rename_i e;exact Yag (q _ _ (SameG.refl _) (h0.done (.inl (eq_of_beq e))))
 ·rename_i e;have e:1<c.size:=by
   have:1≠c.size:=λz=>e (Ybg.mpr z)
   lia
  split
  ·rename_i N;exact Yag (q _ _ (SameG.refl _) (h0.last T (eq_of_beq N)))
  ·rename_i N;have N:0+1<a.size:=by
    have:0+1≠a.size:=λz=>N (Ybg.mpr z)
    lia
   refine Yad (wpS_get ?_);refine Yad (Ycd (λk r G=>SameG st G/\∃B D F mg,r=(none,B,D,F,mg)/\ML b a c B D F/\D+1<a.size/\F<c.size/\k<B.size) ?_ ?_ ⟨SameG.refl _,_,_,_,_,rfl,h0,N,e,by simp⟩)
   ·rintro k r O _ hk ⟨U,B,D,F,mg,rfl,h,h1,h2,h3⟩;have Y:kindOf O=kd:=U.1.trans hs;unfold Zbj;dsimp only;refine Yad (Z6 W L T Y h h1 h2 (λr y Z g m=>?_) (λo i j ac bc Z g m p1 p2 p3=>?_))
    ·refine Yag ?_;dsimp only;exact Yag (q r Z (U.trans g) m)
    ·dsimp only;refine Yad (wpS_lift (Ydf ⟨rfl,?_⟩));refine Yad (Z9 W L T (g.1.trans Y) m p1 p2 (λr y aa g3 m3=>?_) (λo3 i3 j3 y3 aa g3 m3 r1 r2 r3=>?_))
     ·refine Yag ?_;dsimp only;exact Yag (q r aa ((U.trans g).trans g3) m3)
     ·dsimp only;refine Yad (Os λab g4=>?_);exact Yag ⟨((U.trans g).trans g3).trans g4,_,_,_,_,rfl,m3,r1,r2,by lia⟩
   ·rintro r O ⟨U,B,D,F,mg,rfl,h,h1,h2,h3⟩;exfalso;have:=Mrg.len h;rw [Yaq,Yco,Yco,Yam,Yam,Yam] at this;simp at h3
    lia
end
noncomputable abbrev MHs:=Option (Array Keyed)×Nat×Nat×Array Keyed×Nat×Nat
noncomputable abbrev MHt:=Option (Array Keyed)×Nat×Nat×Array Keyed×Nat×Nat×Nat
noncomputable abbrev MHo:=Option (Array Keyed)×Nat×Nat×Array Keyed×Nat
noncomputable def OF (a b out:Array Keyed)(na nb:Nat):Array Keyed:=a.extract 0 na++b.extract 0 nb++out.reverse
noncomputable def Uk (a b out:Array Keyed)(na nb:Nat):Array Keyed:=b.extract 0 nb++a.extract 0 na++out.reverse
noncomputable def Zbm (a b:Array Keyed)(mg:Nat):Nat->MHs->StateT SortSt Sem (ForInStep MHs):=λ_ r=>
 let na:=r.2.1;let nb:=r.2.2.1;let out:=r.2.2.2.1;let qZ:=r.2.2.2.2.1;let qX:=r.2.2.2.2.2
 do
 let x <- elem' b (nb-1)
 let y <- elem' a (na-1)
 match <- lt' x y with
 | some aWins=>
  if aWins=true then do
   let na:=na-1
   let z <- elem' a na
   let out:=out.push z
   let qZ:=qZ+1
   let qX:=0
   if (na == 0)=true then pure (.done (some (OF a b out na nb),na,nb,out,qZ,qX))
   else if qZ>=mg then pure (.done (none,na,nb,out,qZ,qX))
   else pure (.yield (none,na,nb,out,qZ,qX))
  else do
   let nb:=nb-1
   let z <- elem' b nb
   let out:=out.push z
   let qX:=qX+1
   let qZ:=0
   if (nb == 1)=true then pure (.done (some (Uk a b out na nb),na,nb,out,qZ,qX))
   else if qX>=mg then pure (.done (none,na,nb,out,qZ,qX))
   else pure (.yield (none,na,nb,out,qZ,qX))
 | _=>pure (.done (some (OF a b out na nb),na,nb,out,qZ,qX))
noncomputable def mhD (a b:Array Keyed)(D q B:Nat)(na nb:Nat)(out:Array Keyed):StateT SortSt Sem (ForInStep MHt):=do
 let na:=na-1
 let z <- elem' a na
 let out:=out.push z
 if (na == 0)=true then pure (.done (some (OF a b out na nb),na,nb,out,D,q,B))
 else if (decide (q<7) && decide (B<7))=true then pure (.done (none,na,nb,out,D,q,B))
 else pure (.yield (none,na,nb,out,D,q,B))
noncomputable def mhC (a b:Array Keyed)(B D q:Nat)(na nb:Nat)(out:Array Keyed):StateT SortSt Sem (ForInStep MHt):=do
 let nb:=nb-1
 let z <- elem' b nb
 let out:=out.push z
 if (nb == 1)=true then pure (.done (some (Uk a b out na nb),na,nb,out,B,D,q))
 else do
  let y <- elem' a (na-1)
  match <- Ob true y b 0 nb (nb-1) with
  | some at_=>
   let k:=nb-at_
   let q:=k
   if k > 0 then
    let out:=out++(b.extract at_ nb).reverse
    let nb:=at_
    if (nb == 1)=true then pure (.done (some (Uk a b out na nb),na,nb,out,B,D,q))
    else if (nb == 0)=true then pure (.done (some (OF a b out na nb),na,nb,out,B,D,q))
    else mhD a b B D q na nb out
   else mhD a b B D q na nb out
  | _=>pure (.done (some (OF a b out na nb),na,nb,out,B,D,q))
noncomputable def mhB (a b:Array Keyed)(q B D:Nat)(na nb:Nat)(out:Array Keyed):StateT SortSt Sem (ForInStep MHt):=do
 UT q
 let x <- elem' b (nb-1)
 match <- Ob false x a 0 na (na-1) with
 | some at_=>
  let k:=na-at_
  let B:=k
  if k > 0 then
   let out:=out++(a.extract at_ na).reverse
   let na:=at_
   if (na == 0)=true then pure (.done (some (OF a b out na nb),na,nb,out,q,B,D))
   else mhC a b q B D na nb out
  else mhC a b q B D na nb out
 | _=>pure (.done (some (OF a b out na nb),na,nb,out,q,B,D))
noncomputable def Zbn (a b:Array Keyed):Nat->MHt->StateT SortSt Sem (ForInStep MHt):=λ_ r=>
 let na:=r.2.1;let nb:=r.2.2.1;let out:=r.2.2.2.1;let qJ:=r.2.2.2.2.1;let qZ:=r.2.2.2.2.2.1;let qX:=r.2.2.2.2.2.2
 if qJ > 1 then mhB a b (qJ-1) qZ qX na nb out else mhB a b qJ qZ qX na nb out
noncomputable def Zbo (a b:Array Keyed):Nat->MHo->StateT SortSt Sem (ForInStep MHo):=λ_ r=>
 let na:=r.2.1;let nb:=r.2.2.1;let out:=r.2.2.2.1;let qJ:=r.2.2.2.2
 do
 let r <- forIn [:a.size+b.size] ((none,na,nb,out,0,0):MHs) (Zbm a b qJ)
 match r.1 with
 | some x=>pure (.done (some x,r.2.1,r.2.2.1,r.2.2.2.1,qJ))
 | none=>do
  liftM (rule "list.sort.gallop")
  let r <- forIn [:a.size+b.size] ((none,r.2.1,r.2.2.1,r.2.2.2.1,qJ+1,r.2.2.2.2.1,r.2.2.2.2.2):MHt) (Zbn a b)
  match r.1 with
  | some x=>pure (.done (some x,r.2.1,r.2.2.1,r.2.2.2.1,r.2.2.2.2.1))
  | none=>do
   UT (r.2.2.2.2.1+1)
   pure (.yield (none,r.2.1,r.2.2.1,r.2.2.2.1,r.2.2.2.2.1+1))
theorem Xq (a b:Array Keyed):VT a b=(do
  liftM (rule "list.sort.merge-hi")
  let x <- elem' a (a.size-1)
  let out:=#[x]
  if (a.size-1 == 0)=true then pure (OF a b out (a.size-1) b.size)
  else if (b.size == 1)=true then pure (Uk a b out (a.size-1) b.size)
  else do
   let st <- get
   let r <- forIn [:a.size+b.size] ((none,a.size-1,b.size,out,gallopOf st):MHo) (Zbo a b)
   match r.1 with
   | some r=>pure r
   | none=>liftM (unsupported "internal:list.sort.merge-bound")):=by
 refine Jk (m:=liftM (rule "list.sort.merge-hi")) λ_=>?_;refine Jk (m:=elem' a (a.size-1)) λx=>?_;refine VW (c:=(a.size-1 == 0)=true) rfl ?_;refine VW (c:=(b.size == 1)=true) rfl ?_;refine Jk (m:=get) λst=>?_;refine (Ybi (λm:StateT SortSt Sem MHo=>m >>= _) (UU (r:=[:a.size+b.size]) (c:=((none,a.size-1,b.size,#[x],gallopOf st):MHo)) (g:=Zbo a b) λi r=>?_)).trans ?_;rotate_left
 ·refine Jk λr=>?_;obtain ⟨D,G⟩:=r;cases D <;> rfl
 unfold Zbo;refine (Ybi (λm:StateT SortSt Sem MHs=>m >>= _) (UU (r:=[:a.size+b.size]) (g:=Zbm a b r.2.2.2.2) λi r=>rfl)).trans ?_;refine Jk λq=>?_;obtain ⟨B,F⟩:=q;cases B with
 | some z=>rfl
 | none=>
  refine Jk (m:=liftM (rule "list.sort.gallop")) λ_=>?_;refine (Ybi (λm:StateT SortSt Sem MHt=>m >>= _) (UU (r:=[:a.size+b.size]) (g:=Zbn a b) λi r=>rfl)).trans ?_;refine Jk λq=>?_;obtain ⟨B,F⟩:=q;cases B <;> rfl
section
variable {b:Keyed->Keyed->Bool}
structure MrgH (b:Keyed->Keyed->Bool)(all out ra rb:List Keyed):Prop where
 perm:(ra++rb++out).Perm all
 so:out.Pairwise (kle b)
 le:∀x∈ra++rb,∀y∈out,kle b x y
 sa:ra.Pairwise (kle b)
 sb:rb.Pairwise (kle b)
theorem MrgH.len {all out q B:List Keyed}(h:MrgH b all out q B):q.length+B.length+out.length=all.length:=by
 have:=h.perm.length_eq;rw [Yaq,Yaq] at this;exact this
theorem MrgH.moveB {all out u D G:List Keyed}(h:MrgH b all out D (G++u))(L:∀x∈u,∀y∈D,kle b y x):MrgH b all (u++out) D G:=by
 have F:=Ybs.mp h.sb;refine ⟨?_,Ybs.mpr ⟨F.2.1,h.so,λx q y B=>h.le x (by simp [q]) y B⟩,λx q y B=>?_,h.sa,F.1⟩
 ·have:=h.perm;simp only [Ybl] at this ⊢;exact this
 ·rcases Yap.mp B with B | B
  ·rcases Yap.mp q with q | q
   ·exact L y B x q
   ·exact F.2.2 x q y B
  ·refine h.le x ?_ y B;rcases Yap.mp q with q | q <;> simp [q]
theorem MrgH.moveA {all out u G D:List Keyed}(h:MrgH b all out (G++u) D)(L:∀x∈u,∀y∈D,kle b y x):MrgH b all (u++out) G D:=by
 have F:=Ybs.mp h.sa;refine ⟨?_,Ybs.mpr ⟨F.2.1,h.so,λx q y B=>h.le x (by simp [q]) y B⟩,λx q y B=>?_,F.1,h.sb⟩
 ·refine List.Perm.trans ?_ h.perm;simp only [Ybl];refine Ycz _ ?_;rw [<-Ybl,<-Ybl];exact List.Perm.append_right _ List.perm_append_comm
 ·rcases Yap.mp B with B | B
  ·rcases Yap.mp q with q | q
   ·exact F.2.2 x q y B
   ·exact L y B x q
  ·refine h.le x ?_ y B;rcases Yap.mp q with q | q <;> simp [q]
theorem MrgH.endA {all out q B:List Keyed}(h:MrgH b all out q B)(D:∀x∈q,∀y∈B,kle b x y):Jt b all (q++B++out):=
 ⟨h.perm,Ybs.mpr ⟨Ybs.mpr ⟨h.sa,h.sb,D⟩,h.so,h.le⟩⟩
theorem MrgH.endB {all out B D:List Keyed}(h:MrgH b all out B D)(F:∀x∈D,∀y∈B,kle b x y):Jt b all (D++B++out):=by
 refine ⟨List.Perm.trans (List.Perm.append_right _ List.perm_append_comm) h.perm,Ybs.mpr ⟨Ybs.mpr ⟨h.sb,h.sa,F⟩,h.so,λx q y G=>h.le x ?_ y G⟩⟩;rcases Yap.mp q with q | q <;> simp [q]
end
theorem Yk (a:Array Keyed)(k:Nat):(a.extract 0 k).toList=a.toList.take k:=by
 rw [Yem,Yen,List.drop_zero,Nat.sub_zero]
theorem Zaa (a:Array Keyed){i j:Nat}(h:i<=j):a.toList.take j=a.toList.take i++(a.extract i j).toList:=by
 rw [Yem,Yen];have:=Yde i (a.toList.take j);rw [List.take_take,Yda h,List.drop_take] at this;exact this.symm
theorem Zab {a:Array Keyed}{i:Nat}{x:Keyed}(h:a[i]?=some x):a.toList.take (i+1)=a.toList.take i++[x]:=by
 rw [<-Yaz] at h;rw [Ybt,h]
 rfl
theorem taken {arr:Array Keyed}{k:Nat}{x:Keyed}(h:x∈arr.toList.take k):∃i,i<k/\arr[i]?=some x:=by
 obtain ⟨i,hi⟩:=Yev.mp h;rw [Ydm] at hi;split at hi
 ·rw [Yaz] at hi;exact ⟨i,by assumption,hi⟩
 ·cases hi
theorem Xr {arr:Array Keyed}{i j:Nat}{x:Keyed}(h:x∈(arr.extract i j).toList):∃k,i<=k/\k<j/\arr[k]?=some x:=by
 rw [Yem,Yen] at h;obtain ⟨k,q⟩:=Yev.mp h;rw [Ydm] at q;split at q
 ·rw [Ydv,Yaz] at q;exact ⟨i+k,by lia,by lia,q⟩
 ·cases q
section
variable {M:Model}{A:Around}{E:EX}{s:Shared}{kd:SortKind}{b:Keyed->Keyed->Bool}{good:Keyed->Prop}{a c:Array Keyed}
noncomputable def MH (b:Keyed->Keyed->Bool)(a c:Array Keyed)(na nb:Nat)(out:Array Keyed):Prop:=MrgH b (a.toList++c.toList) out.toList.reverse (a.toList.take na) (c.toList.take nb)
theorem Zac (W:WO b){arr:Array Keyed}{hi:Nat}(h:(arr.toList.take hi).Pairwise (kle b)):Rng b arr 0 (0+hi):=λi j x y h1 h2 D q B=>by
 refine Zbk (i:=i) (j:=j) W h h2 ?_ ?_
 ·rw [Ydm,if_pos (by lia),Yaz];exact q
 ·rw [Ydm,if_pos (by lia),Yaz];exact B
theorem MH.done {out:Array Keyed}{na nb:Nat}(h:MH b a c na nb out)(e:na=0\/nb=0):Jt b (a.toList++c.toList) (OF a c out na nb).toList:=by
 unfold OF;rw [Ycr,Ycr,Yk,Yk,Array.toList_reverse];refine MrgH.endA h λx q y B=>?_;rcases e with e | e
 ·rw [e] at q;simp at q
 ·rw [e] at B;simp at B
theorem MH.first {out:Array Keyed}{na nb:Nat}(T:Two b good a c)(h:MH b a c na nb out)(e:nb=1):Jt b (a.toList++c.toList) (Uk a c out na nb).toList:=by
 unfold Uk;rw [Ycr,Ycr,Yk,Yk,Array.toList_reverse];refine MrgH.endB h λx q y B=>?_;obtain ⟨i,hi,ex⟩:=taken q;have:i=0:=by lia
 subst this;exact T.first x ex y (Yeu B)
theorem MH.pushB {out:Array Keyed}{na nb:Nat}{x:Keyed}(h:MH b a c na (nb+1) out)(q:c[nb]?=some x)(B:∀y∈a.toList.take na,kle b y x):MH b a c na nb (out.push x):=by
 unfold MH at h ⊢;rw [Ydw,List.reverse_append];rw [Zab q] at h;exact MrgH.moveB (u:=[x]) h λz D y F=>by
  have:z=x:=by simpa using D
  subst this;exact B y F
theorem MH.pushA {out:Array Keyed}{na nb:Nat}{x:Keyed}(h:MH b a c (na+1) nb out)(q:a[na]?=some x)(B:∀y∈c.toList.take nb,kle b y x):MH b a c na nb (out.push x):=by
 unfold MH at h ⊢;rw [Ydw,List.reverse_append];rw [Zab q] at h;exact MrgH.moveA (u:=[x]) h λz D y F=>by
  have:z=x:=by simpa using D
  subst this;exact B y F
theorem MH.takeA {out:Array Keyed}{na nb k:Nat}(h:MH b a c na nb out)(q:k<=na)(B:∀x∈(a.extract k na).toList,∀y∈c.toList.take nb,kle b y x):MH b a c k nb (out++(a.extract k na).reverse):=by
 unfold MH at h ⊢;rw [Ycr,Array.toList_reverse,List.reverse_append,List.reverse_reverse];rw [Zaa a q] at h;exact MrgH.moveA h B
theorem MH.takeB {out:Array Keyed}{na nb k:Nat}(h:MH b a c na nb out)(q:k<=nb)(B:∀x∈(c.extract k nb).toList,∀y∈a.toList.take na,kle b y x):MH b a c na k (out++(c.extract k nb).reverse):=by
 unfold MH at h ⊢;rw [Ycr,Array.toList_reverse,List.reverse_append,List.reverse_reverse];rw [Zaa c q] at h;exact MrgH.moveB h B
theorem VY (W:WO b){arr:Array Keyed}{k:Nat}{x:Keyed}(h:(arr.toList.take (k+1)).Pairwise (kle b))(q:arr[k]?=some x):∀y∈arr.toList.take (k+1),kle b y x:=λy B=>by
 obtain ⟨i,hi,D⟩:=taken B;exact Zac W h i k y x (Yav _) (by lia) (by lia) D q
theorem Zad (W:WO b)(L:Uw M A E s kd b good)(T:Two b good a c){out:Array Keyed}{na nb mg:Nat}{st:SortSt}(hs:kindOf st=kd)(h:MH b a c na nb out)(h1:0<na/\na<=a.size)(h2:1<nb/\nb<=c.size){Q:MHs->SortSt->Prop}(q1:∀r y F,SameG st F->Jt b (a.toList++c.toList) r.toList->Q (some r,y) F)(q2:∀q B D O U F,SameG st F->MH b a c q B D->(0<q/\q<=a.size)->(1<B/\B<=c.size)->out.size<D.size->Q (none,q,B,D,O,U) F) :
  wpS M A E s (forIn [:a.size+c.size] ((none,na,nb,out,0,0):MHs) (Zbm a c mg)) Q st:=by
 refine Ycd (λk r F=>SameG st F/\∃q B D O U,r=(none,q,B,D,O,U)/\MH b a c q B D/\(0<q/\q<=a.size)/\(1<B/\B<=c.size)/\out.size+k<=D.size) ?_ ?_ ⟨SameG.refl _,_,_,_,_,_,rfl,h,h1,h2,Yaf _⟩
 ·rintro k r N _ hk ⟨G,q,B,D,O,U,rfl,h,h1,h2,h3⟩;have aa:kindOf N=kd:=G.1.trans hs;obtain ⟨q,rfl⟩:∃n,q=n+1:=⟨q - 1,by lia⟩;obtain ⟨B,rfl⟩:∃n,B=n+1:=⟨B - 1,by lia⟩;unfold Zbm;dsimp only [Nat.add_sub_cancel];obtain ⟨x,Y,gx⟩:=T.ct (i:=B) (by lia);obtain ⟨y,Z,gy⟩:=T.at (i:=q) (by lia);refine Yad (GE Y (Yad (GE Z (Yad (L x y N _ gx gy aa ?_)))));dsimp only;cases hb:b x y with
  | true=>
   rw [if_pos rfl];refine Yad (GE Z ?_);have h':=h.pushA Z λz hz=>W.le_trans (VY W h.sb Y z hz) (W.le_of_lt hb);split
   ·rename_i e;exact Yag (q1 _ _ _ G (h'.done (.inl (eq_of_beq e))))
   ·rename_i e;have e:0<q:=by
     have:q≠0:=λz=>e (Ybg.mpr z)
     lia
    split
    ·exact Yag (q2 _ _ _ _ _ _ G h' ⟨e,by lia⟩ h2 (by rw [Yci];lia))
    ·exact Yag ⟨G,_,_,_,_,_,rfl,h',⟨e,by lia⟩,h2,by rw [Yci];lia⟩
  | false=>
   rw [if_neg Yal];refine Yad (GE Y ?_);have h':=h.pushB Y λz hz=>W.le_trans (VY W h.sa Z z hz) hb;split
   ·rename_i e;exact Yag (q1 _ _ _ G (h'.first T (eq_of_beq e)))
   ·rename_i e;have e:1<B:=by
     have:B≠1:=λz=>e (Ybg.mpr z)
     lia
    split
    ·exact Yag (q2 _ _ _ _ _ _ G h' h1 ⟨e,by lia⟩ (by rw [Yci];lia))
    ·exact Yag ⟨G,_,_,_,_,_,rfl,h',h1,⟨e,by lia⟩,by rw [Yci];lia⟩
 ·rintro r N ⟨G,q,B,D,O,U,rfl,h,h1,h2,h3⟩;exact q2 _ _ _ _ _ _ G h h1 h2 (by have:=T.na;simp at h3;lia)
section
variable {out:Array Keyed}{na nb:Nat}{st:SortSt}{Q:ForInStep MHt->SortSt->Prop}
structure Zbp (b:Keyed->Keyed->Bool)(a c:Array Keyed)(n:Nat)(st:SortSt)(Q:ForInStep MHt->SortSt->Prop):Prop where
 fin:∀r y st',SameG st st'->Jt b (a.toList++c.toList) r.toList->Q (.done (some r,y)) st'
 brk:∀na' nb' out' y st',SameG st st'->MH b a c na' nb' out'->(0<na'/\na'<=a.size)->(1<nb'/\nb'<=c.size)->n<=out'.size->Q (.done (none,na',nb',out',y)) st'
 go:∀na' nb' out' y st',SameG st st'->MH b a c na' nb' out'->(0<na'/\na'<=a.size)->(1<nb'/\nb'<=c.size)->n<=out'.size->Q (.yield (none,na',nb',out',y)) st'
theorem Zae (T:Two b good a c){mg D F n:Nat}(R:Zbp b a c n st Q)(h:MH b a c (na+1) nb out)(h1:na+1<=a.size)(h2:1<nb/\nb<=c.size)(L:n<=out.size)(G:∀x,a[na]?=some x->∀y∈c.toList.take nb,kle b y x) :
  wpS M A E s (mhD a c mg D F (na+1) nb out) Q st:=by
 unfold mhD;dsimp only [Nat.add_sub_cancel];obtain ⟨x,B,N⟩:=T.at (i:=na) (by lia);refine Yad (GE B ?_);have h':=h.pushA B (G x B);have q:n<=(out.push x).size:=by rw [Yci];lia
 split
 ·rename_i e;exact Yag (R.fin _ _ _ (SameG.refl _) (h'.done (.inl (eq_of_beq e))))
 ·rename_i e;have e:0<na:=by
   have:na≠0:=λz=>e (Ybg.mpr z)
   lia
  split
  ·exact Yag (R.brk _ _ _ _ _ (SameG.refl _) h' ⟨e,by lia⟩ h2 q)
  ·exact Yag (R.go _ _ _ _ _ (SameG.refl _) h' ⟨e,by lia⟩ h2 q)
theorem Zaf (W:WO b)(L:Uw M A E s kd b good)(T:Two b good a c){mg ac bc n:Nat}(R:Zbp b a c n st Q)(hs:kindOf st=kd)(h:MH b a c (na+1) (nb+1) out)(h1:na+1<=a.size)(h2:0<nb/\nb+1<=c.size)(hn:n<=out.size)(hl:∀x,c[nb]?=some x->∀y∈a.toList.take (na+1),kle b y x):wpS M A E s (mhC a c mg ac bc (na+1) (nb+1) out) Q st:=by
 unfold mhC;dsimp only [Nat.add_sub_cancel];obtain ⟨x,O,gx⟩:=T.ct (i:=nb) (by lia);obtain ⟨y,N,gy⟩:=T.at (i:=na) (by lia);refine Yad (GE O ?_);have h':=h.pushB O (hl x O);have D:n<=(out.push x).size:=by rw [Yci];lia
 generalize out.push x=F at h' D;split
 ·rename_i e;exact Yag (R.fin _ _ _ (SameG.refl _) (h'.first T (eq_of_beq e)))
 ·rename_i e;have e:1<nb:=by
   have:nb≠1:=λz=>e (Ybg.mpr z)
   lia
  refine Yad (GE N ?_);have G:Gal b good true y c 0 nb:=Vm W gy (λi hi=>by rw [Ydc];exact T.ct (by lia)) (Zac W h'.sb);refine Yad (Jz L G hs (by lia) λk hk k1 k2=>?_);dsimp only;have tk:∀z∈(c.extract k nb).toList,∀v∈a.toList.take (na+1),kle b v z:=λz hz v B=>by
   obtain ⟨i,hi,hj,ez⟩:=Xr hz;have:=k2 i hi hj;unfold byd at this;rw [Ydc,ez] at this;dsimp only at this;rw [if_pos rfl] at this;exact W.le_trans (VY W h'.sa N v B) this
  have tr:∀v∈c.toList.take k,kle b v y:=λv B=>by
   obtain ⟨i,hi,ev⟩:=taken B;have:=k1 i hi;unfold byd at this;rw [Ydc,ev] at this;dsimp only at this;rw [if_pos rfl] at this;exact W.le_of_lt this
  split
  ·have U:=h'.takeB hk tk;have Y:n<=(F++(c.extract k nb).reverse).size:=by rw [Array.size_append];lia
   split
   ·rename_i Z;exact Yag (R.fin _ _ _ (SameG.refl _) (U.first T (eq_of_beq Z)))
   ·rename_i Z;split
    ·rename_i e3;exact Yag (R.fin _ _ _ (SameG.refl _) (U.done (.inr (eq_of_beq e3))))
    ·rename_i e3;have e4:1<k:=by
      have:k≠1:=λz=>Z (Ybg.mpr z);have:k≠0:=λz=>e3 (Ybg.mpr z)
      lia
     exact Zae T R U h1 ⟨e4,by lia⟩ Y λx' q v B=>by
      rw [N] at q;cases q;exact tr v B
  ·have:k=nb:=by lia
   subst this;exact Zae T R h' h1 ⟨e,by lia⟩ D λx' q v B=>by
    rw [N] at q;cases q;exact tr v B
theorem ZcV (W:WO b)(L:Uw M A E s kd b good)(T:Two b good a c){mg ac bc n:Nat}(R:∀F,SameG st F->Zbp b a c n F Q)(hs:kindOf st=kd)(h:MH b a c na (nb+1) out)(h1:0<na/\na<=a.size)(h2:0<nb/\nb+1<=c.size)(hn:n<=out.size) :
  wpS M A E s (mhB a c mg ac bc na (nb+1) out) Q st:=by
 unfold mhB;refine Yad (Os λN Z=>?_);have R:=R N Z;have B:kindOf N=kd:=Z.1.trans hs;dsimp only [Nat.add_sub_cancel];obtain ⟨x,O,gx⟩:=T.ct (i:=nb) (by lia);refine Yad (GE O ?_);have G:Gal b good false x a 0 na:=Vm W gx (λi hi=>by rw [Ydc];exact T.at (by lia)) (Zac W h.sa);refine Yad (Jz L G B (by lia) λk hk k1 k2=>?_);dsimp only;have tk:∀z∈(a.extract k na).toList,∀v∈c.toList.take (nb+1),kle b v z:=λz hz v D=>by
  obtain ⟨i,hi,hj,ez⟩:=Xr hz;have:=k2 i hi hj;unfold byd at this;rw [Ydc,ez] at this;dsimp only at this;rw [if_neg Yal,Bool.not_eq_false'] at this;exact W.le_trans (VY W h.sb O v D) (W.le_of_lt this)
 have tr:∀v∈a.toList.take k,kle b v x:=λv D=>by
  obtain ⟨i,hi,ev⟩:=taken D;have:=k1 i hi;unfold byd at this;rw [Ydc,ev] at this;dsimp only at this;rw [if_neg Yal,Bool.not_eq_true'] at this;exact this
 split
 ·have h3:=h.takeA hk tk;have U:n<=(out++(a.extract k na).reverse).size:=by rw [Array.size_append];lia
  split
  ·rename_i Y;exact Yag (R.fin _ _ _ (SameG.refl _) (h3.done (.inl (eq_of_beq Y))))
  ·rename_i Y;have:k≠0:=λz=>Y (Ybg.mpr z);obtain ⟨k,rfl⟩:∃n,k=n+1:=⟨k-1,by lia⟩;exact Zaf W L T R B h3 (by lia) h2 U λx' q v D=>by
    rw [O] at q;cases q;exact tr v D
 ·have:k=na:=by lia
  subst this;obtain ⟨k,rfl⟩:∃n,k=n+1:=⟨k-1,by lia⟩;exact Zaf W L T R B h (by lia) h2 hn λx' q v D=>by
   rw [O] at q;cases q;exact tr v D
end
theorem Zag (W:WO b)(L:Uw M A E s kd b good)(T:Two b good a c){out:Array Keyed}{na nb n:Nat}{y:Nat×Nat×Nat}{st:SortSt}(hs:kindOf st=kd)(h:MH b a c na nb out)(h1:0<na/\na<=a.size)(h2:1<nb/\nb<=c.size){Q:MHt->SortSt->Prop}(q1:∀r y F,SameG st F->Jt b (a.toList++c.toList) r.toList->Q (some r,y) F)(q2:∀D B q y F,SameG st F->MH b a c D B q->(0<D/\D<=a.size)->(1<B/\B<=c.size)->out.size<=q.size->Q (none,D,B,q,y) F) :
  wpS M A E s (forIn [:n] ((none,na,nb,out,y):MHt) (Zbn a c)) Q st:=by
 refine Ycd (λk r F=>SameG st F/\∃D B q y,r=(none,D,B,q,y)/\MH b a c D B q/\(0<D/\D<=a.size)/\(1<B/\B<=c.size)/\out.size<=q.size) ?_ ?_ ⟨SameG.refl _,_,_,_,_,rfl,h,h1,h2,Yaf _⟩
 ·rintro k r G _ hk ⟨U,D,B,q,y,rfl,h,h1,h2,Y⟩;have Z:kindOf G=kd:=U.1.trans hs;have R:∀F,SameG G F->Zbp b a c out.size F (λr F=>match r with
   | .done c'=>Q c' F
   | .yield c'=>SameG st F/\∃D B q y,c'=(none,D,B,q,y)/\MH b a c D B q/\(0<D/\D<=a.size)/\(1<B/\B<=c.size)/\out.size<=q.size):=λF O=>
   ⟨λr y N g m=>q1 r y N ((U.trans O).trans g) m,λo i j y N g m p1 p2 p3=>q2 o i j y N ((U.trans O).trans g) m p1 p2 p3,λo i j y N g m p1 p2 p3=>⟨(U.trans O).trans g,o,i,j,y,rfl,m,p1,p2,p3⟩⟩
  unfold Zbn;dsimp only;obtain ⟨B,rfl⟩:∃n,B=n+1:=⟨B - 1,by lia⟩;have mono:∀mg,wpS M A E s (mhB a c mg y.2.1 y.2.2 D (B+1) q) _ G:=λmg=>ZcV W L T R Z h h1 ⟨by lia,h2.2⟩ Y;split
  ·exact wpS_mono (mono _) λr F hr=>by cases r <;> exact hr
  ·exact wpS_mono (mono _) λr F hr=>by cases r <;> exact hr
 ·rintro r G ⟨U,D,B,q,y,rfl,h,h1,h2,Y⟩;exact q2 _ _ _ _ _ U h h1 h2 Y
theorem Xs (W:WO b)(L:Uw M A E s kd b good)(T:Two b good a c){st:SortSt}(hs:kindOf st=kd){Q:Array Keyed->SortSt->Prop}(q:∀r G,SameG st G->Jt b (a.toList++c.toList) r.toList->Q r G):wpS M A E s (VT a c) Q st:=by
 rw [Xq];refine Yad (wpS_lift (Ydf ⟨rfl,?_⟩));have hc:=T.nc;have ha:=T.na;obtain ⟨x,hx,gx⟩:=T.at (i:=a.size-1) (by lia);refine Yad (GE hx ?_);have h0:MH b a c (a.size-1) c.size #[x]:=by
  have z:MH b a c (a.size-1+1) c.size #[]:=by
   unfold MH;rw [Nat.sub_add_cancel (by lia),Yeq (by simp),Yeq (by simp)];exact ⟨by simp,by simp,by simp,T.sa,T.sc⟩
  exact z.pushA hx λy hy=>T.last x hx y (Yeu hy)
 dsimp only;split
 ·rename_i e;exact Yag (q _ _ (SameG.refl _) (h0.done (.inl (eq_of_beq e))))
 ·rename_i e;have e:0<a.size-1:=by
   have:a.size-1≠0:=λz=>e (Ybg.mpr z)
   lia
  split
  ·rename_i N;exact Yag (q _ _ (SameG.refl _) (h0.first T (eq_of_beq N)))
  ·rename_i N;have N:1<c.size:=by
    have:c.size≠1:=λz=>N (Ybg.mpr z)
    lia
   refine Yad (wpS_get ?_);refine Yad (Ycd (λk r G=>SameG st G/\∃D F B mg,r=(none,D,F,B,mg)/\MH b a c D F B/\(0<D/\D<=a.size)/\(1<F/\F<=c.size)/\k<B.size) ?_ ?_ ⟨SameG.refl _,_,_,_,_,rfl,h0,⟨e,by lia⟩,⟨N,Yaf _⟩,by simp⟩)
   ·rintro k r O _ hk ⟨U,D,F,B,mg,rfl,h,h1,h2,h3⟩;have Y:kindOf O=kd:=U.1.trans hs;unfold Zbo;dsimp only;refine Yad (Zad W L T Y h h1 h2 (λr y Z g m=>?_) (λo i j ac bc Z g m p1 p2 p3=>?_))
    ·refine Yag ?_;dsimp only;exact Yag (q r Z (U.trans g) m)
    ·dsimp only;refine Yad (wpS_lift (Ydf ⟨rfl,?_⟩));refine Yad (Zag W L T (g.1.trans Y) m p1 p2 (λr y aa g3 m3=>?_) (λo3 i3 j3 y3 aa g3 m3 r1 r2 r3=>?_))
     ·refine Yag ?_;dsimp only;exact Yag (q r aa ((U.trans g).trans g3) m3)
     ·dsimp only;refine Yad (Os λab g4=>?_);exact Yag ⟨((U.trans g).trans g3).trans g4,_,_,_,_,rfl,m3,r1,r2,by lia⟩
   ·rintro r O ⟨U,D,F,B,mg,rfl,h,h1,h2,h3⟩;exfalso;have:=MrgH.len h;rw [Yaq,Ybj,Ybj,List.length_reverse,Yam,Yam,Yam] at this;simp at h3
    lia
end
noncomputable abbrev Asc:=Option (Option Nat)×Nat
noncomputable abbrev Dsc:=Option (Option Nat)×Nat×Nat
noncomputable def ZcW (lo:Nat):Nat->Asc->StateT SortSt Sem (ForInStep Asc):=λ_ r=>do
 match <- ltAt' (lo+r.2) (lo+r.2-1) with
 | some smaller=>if smaller=true then pure (.done (none,r.2)) else pure (.yield (none,r.2+1))
 | _=>pure (.done (some none,r.2))
noncomputable def ZeM (lo:Nat):Nat->Dsc->StateT SortSt Sem (ForInStep Dsc):=λ_ r=>do
 match <- ltAt' (lo+r.2.1) (lo+r.2.1-1) with
 | some smaller=>
  if smaller=true then
   if r.2.2 > 0 then do
    reverseSlice' (lo+r.2.1-(r.2.2+1)) (lo+r.2.1)
    pure (.yield (none,r.2.1+1,0))
   else pure (.yield (none,r.2.1+1,0))
  else do
   match <- ltAt' (lo+r.2.1-1) (lo+r.2.1) with
   | some larger=>if larger=true then pure (.done (none,r.2.1,r.2.2)) else pure (.yield (none,r.2.1+1,r.2.2+1))
   | _=>pure (.done (some none,r.2.1,r.2.2))
 | _=>pure (.done (some none,r.2.1,r.2.2))
noncomputable def WE (lo n q:Nat):StateT SortSt Sem (Option Nat):=do
 reverseSlice' lo (lo+n)
 let r <- forIn [n:q] ((none,n):Asc) (ZcW lo)
 match r.1 with
 | some x=>pure x
 | none=>pure (some r.2)
noncomputable def YV (lo n q:Nat):StateT SortSt Sem (Option Nat):=do
 liftM (rule "list.sort.descending-run")
 let r <- forIn [n+1:q] ((none,n+1,0):Dsc) (ZeM lo)
 match r.1 with
 | some x=>pure x
 | none=>(if r.2.2 > 0 then (do
   reverseSlice' (lo+r.2.1-(r.2.2+1)) (lo+r.2.1)
   WE lo r.2.1 q) else WE lo r.2.1 q)
theorem Xu (lo B:Nat):countRun' lo B=(do
  let r <- forIn [1:B] ((none,1):Asc) (ZcW lo)
  match r.1 with
  | some x=>pure x
  | none=>(if (r.2 == B)=true then pure (some r.2) else (if r.2 > 1 then (do
    match <- ltAt' lo (lo+r.2-1) with
    | some rose=>(if rose=true then pure (some r.2) else (do
      reverseSlice' lo (lo+r.2)
      YV lo r.2 B))
    | _=>pure none)
   else YV lo r.2 B))):=by
 rw [countRun'_eq];refine (Ybi (λm:StateT SortSt Sem Asc=>m >>= _) (UU (r:=[1:B]) (c:=((none,1):Asc)) (g:=ZcW lo) λi r=>rfl)).trans ?_;refine Jk λr=>?_;obtain ⟨D,q⟩:=r;cases D with
 | some z=>rfl
 | none=>
  refine VW (c:=(q == B)=true) rfl ?_;refine VW (c:=q > 1) ?_ ?_
  ·refine Jk λz=>?_;cases z with
   | none=>rfl
   | some z=>
    refine VW (c:=z=true) rfl ?_;refine Jk λ_=>?_;unfold YV;refine Jk λ_=>?_;refine (Ybi (λm:StateT SortSt Sem Dsc=>m >>= _) (UU (r:=[q+1:B]) (c:=((none,q+1,0):Dsc)) (g:=ZeM lo) λi r=>rfl)).trans ?_;refine Jk λr=>?_;obtain ⟨D,q,F⟩:=r;cases D with
    | some z=>rfl
    | none=>
     refine VW (c:=F > 0) (Jk λ_=>?_) ?_
     all_goals
      unfold WE;refine Jk λ_=>?_;refine (Ybi (λm:StateT SortSt Sem Asc=>m >>= _) (UU (r:=[q:B]) (c:=((none,q):Asc)) (g:=ZcW lo) λi r=>rfl)).trans ?_;refine Jk λr=>?_;obtain ⟨D,q⟩:=r;cases D <;> rfl
  ·unfold YV;refine Jk λ_=>?_;refine (Ybi (λm:StateT SortSt Sem Dsc=>m >>= _) (UU (r:=[q+1:B]) (c:=((none,q+1,0):Dsc)) (g:=ZeM lo) λi r=>rfl)).trans ?_;refine Jk λr=>?_;obtain ⟨D,q,F⟩:=r;cases D with
   | some z=>rfl
   | none=>
    refine VW (c:=F > 0) (Jk λ_=>?_) ?_
    all_goals
     unfold WE;refine Jk λ_=>?_;refine (Ybi (λm:StateT SortSt Sem Asc=>m >>= _) (UU (r:=[q:B]) (c:=((none,q):Asc)) (g:=ZcW lo) λi r=>rfl)).trans ?_;refine Jk λr=>?_;obtain ⟨D,q⟩:=r;cases D <;> rfl
structure Ah (lo:Nat)(st st':SortSt):Prop where
 kd:kindOf st'=kindOf st
 pe:pendingOf st'=pendingOf st
 fa:failedOf st'=failedOf st
 pm:(arrOf st').Perm (arrOf st)
 lw:∀i,i<lo->(arrOf st')[i]?=(arrOf st)[i]?
theorem Ah.refl (lo:Nat)(st:SortSt):Ah lo st st:=⟨rfl,rfl,rfl,.refl _,λ_ _=>rfl⟩
theorem Ah.trans {lo:Nat}{st B q:SortSt}(h:Ah lo st B)(k:Ah lo B q):Ah lo st q:=
 ⟨k.kd.trans h.kd,k.pe.trans h.pe,k.fa.trans h.fa,k.pm.trans h.pm,λi hi=>(k.lw i hi).trans (h.lw i hi)⟩
theorem Ah.size {lo:Nat}{st q:SortSt}(h:Ah lo st q):(arrOf q).size=(arrOf st).size:=h.pm.size_eq
noncomputable def AllG (good:Keyed->Prop)(arr:Array Keyed):Prop:=∀x∈arr.toList,good x
theorem AllG.perm {good:Keyed->Prop}{a c:Array Keyed}(h:AllG good a)(p:c.Perm a):AllG good c:=λx q=>h x (p.toList.mem_iff.mp q)
theorem AllG.at {good:Keyed->Prop}{a:Array Keyed}(h:AllG good a){i:Nat}(hi:i<a.size):∃x,a[i]?=some x/\good x:=⟨a[i],by simp [hi],h _ (by simp)⟩
noncomputable def ZaS (b:Keyed->Keyed->Bool)(arr:Array Keyed)(lo hi:Nat):Prop:=∀i j x y,lo<=i->i<=j->j<hi->arr[i]?=some x->arr[j]?=some y->kle b y x
section
variable {M:Model}{A:Around}{E:EX}{s:Shared}{kd:SortKind}{b:Keyed->Keyed->Bool}{good:Keyed->Prop}
theorem O1 {st:SortSt}{i j:Nat}{Q:Option Bool->SortSt->Prop}(L:Uw M A E s kd b good)(F:kindOf st=kd)(G:AllG good (arrOf st))(hi:i<(arrOf st).size)(N:j<(arrOf st).size)(q:∀x y,(arrOf st)[i]?=some x->(arrOf st)[j]?=some y->Q (some (b x y)) st):wpS M A E s (ltAt' i j) Q st:=by
 obtain ⟨x,B,O⟩:=G.at hi;obtain ⟨y,D,U⟩:=G.at N;rw [ltAt'_eq];refine Yad (wpS_get ?_);exact Yad (GE B (Yad (GE D (L x y st Q O U F (q x y B D)))))
theorem ZcX (arr:Array Keyed)(W:WO b)(lo:Nat):Rng b arr lo (lo+1):=λi j x y h1 h2 D B q=>by
 have:i=j:=by lia
 subst this;rw [B] at q;cases q;exact W.le_refl _
theorem Zbq {arr:Array Keyed}(W:WO b){lo n:Nat}{x y:Keyed}(h:Rng b arr lo (lo+n))(N:0<n)(G:arr[lo+n-1]?=some x)(F:arr[lo+n]?=some y)(B:kle b x y):Rng b arr lo (lo+n+1):=λi j u v h1 h2 O q D=>by
 by_cases L:j<lo+n
 ·exact h i j u v h1 h2 L q D
 ·have:j=lo+n:=by lia
  subst this;rw [F] at D;cases D;by_cases hi:i=lo+n
  ·subst hi;rw [F] at q;cases q;exact W.le_refl _
  ·exact W.le_trans (h i (lo+n-1) u x h1 (by lia) (by lia) q G) B
theorem Oc {arr:Array Keyed}(W:WO b){lo n:Nat}{x y:Keyed}(h:ZaS b arr lo (lo+n))(N:0<n)(G:arr[lo+n-1]?=some x)(F:arr[lo+n]?=some y)(B:kle b y x):ZaS b arr lo (lo+n+1):=λi j u v h1 h2 O q D=>by
 by_cases L:j<lo+n
 ·exact h i j u v h1 h2 L q D
 ·have:j=lo+n:=by lia
  subst this;rw [F] at D;cases D;by_cases hi:i=lo+n
  ·subst hi;rw [F] at q;cases q;exact W.le_refl _
  ·exact W.le_trans B (h i (lo+n-1) u x h1 (by lia) (by lia) q G)
theorem Zah (W:WO b)(L:Uw M A E s kd b good){st:SortSt}{lo a B:Nat}{Q:Asc->SortSt->Prop}(hs:kindOf st=kd)(G:AllG good (arrOf st))(hn:lo+B<=(arrOf st).size)(h1:1<=a)(h2:a<=B)(h3:Rng b (arrOf st) lo (lo+a))(q:∀n,a<=n->n<=B->Rng b (arrOf st) lo (lo+n)->(n=B\/∃x y,(arrOf st)[lo+n-1]?=some x/\(arrOf st)[lo+n]?=some y/\b y x=true)->Q (none,n) st):wpS M A E s (forIn [a:B] ((none,a):Asc) (ZcW lo)) Q st:=by
 refine Ycd (λk r D=>D=st/\r=(none,k)/\a<=k/\k<=B/\Rng b (arrOf st) lo (lo+k)) ?_ ?_ ⟨rfl,rfl,Yaf _,h2,h3⟩
 ·rintro k r D _ hk ⟨rfl,rfl,O,U,F⟩;unfold ZcW;refine Yad (O1 L hs G (by show lo+k<_;lia) (by show lo+k-1<_;lia) λy x Y Z=>?_);dsimp only;split
  ·rename_i N;exact Yag (q k O U F (.inr ⟨x,y,Z,Y,N⟩))
  ·rename_i N;exact Yag ⟨rfl,rfl,by lia,by lia,Zbq W F (by lia) Z Y (Yej.mpr N)⟩
 ·rintro r D ⟨rfl,rfl,O,U,F⟩;rw [Nat.max_eq_right h2] at F ⊢;exact q B h2 (Yaf _) F (.inl rfl)
noncomputable def Zai (b:Keyed->Keyed->Bool)(arr:Array Keyed)(lo hi:Nat):Prop:=∀i j x y,lo<=i->i<hi->lo<=j->j<hi->arr[i]?=some x->arr[j]?=some y->kle b x y
theorem O2 {st:SortSt}{lo i j:Nat}(h:lo<=i)(q:j<=(arrOf st).size):Ah lo st (setArr st (mirror (arrOf st) i j ((j-i) / 2))):=by
 refine ⟨rfl,rfl,rfl,mirror_perm _ _ _ _,λk B=>?_⟩;show (mirror (arrOf st) i j ((j-i) / 2))[k]?=_;rw [Yeh q,if_neg (by lia)]
theorem YW {arr:Array Keyed}{lo hi:Nat}(D:hi<=arr.size)(h:ZaS b arr lo hi):Rng b (mirror arr lo hi ((hi-lo) / 2)) lo hi:=λi j x y h1 h2 F q B=>by
 rw [Yeh D,if_pos (by lia)] at q B;exact h (lo+hi-1-j) (lo+hi-1-i) y x (by lia) (by lia) (by lia) B q
theorem OJ {arr:Array Keyed}{lo hi i j:Nat}(O:j<=arr.size)(h1:lo<=i)(h2:i<=j)(Z:j<=hi)(U:Zai b arr i j)(h:ZaS b arr lo hi):ZaS b (mirror arr i j ((j-i) / 2)) lo hi:=λp q x y G Y L D B=>by
 rw [Yeh O] at D B;by_cases N:i<=p/\p<j
 ·rw [if_pos N] at D;by_cases F:i<=q/\q<j
  ·rw [if_pos F] at B;exact U (i+j-1-q) (i+j-1-p) y x (by lia) (by lia) (by lia) (by lia) B D
  ·rw [if_neg F] at B;exact h _ q x y (by lia) (by lia) L D B
 ·rw [if_neg N] at D;by_cases F:i<=q/\q<j
  ·rw [if_pos F] at B;exact h p _ x y G (by lia) (by lia) D B
  ·rw [if_neg F] at B;exact h p q x y G Y L D B
noncomputable def Zff (b:Keyed->Keyed->Bool)(lo B:Nat)(st:SortSt)(Q:Option Nat->SortSt->Prop):Prop:=∀m q,Ah lo st q->1<=m->m<=B->Rng b (arrOf q) lo (lo+m)->Q (some m) q
theorem WF (W:WO b)(L:Uw M A E s kd b good){st:SortSt}{lo n F:Nat}{Q:Option Nat->SortSt->Prop}(N:kindOf st=kd)(G:AllG good (arrOf st))(O:lo+F<=(arrOf st).size)(h1:1<=n)(h2:n<=F)(U:ZaS b (arrOf st) lo (lo+n))(q:Zff b lo F st Q):wpS M A E s (WE lo n F) Q st:=by
 unfold WE;rw [reverseSlice'_eq];refine Yad (Ycm ?_);have B:=O2 (st:=st) (lo:=lo) (i:=lo) (j:=lo+n) (Yaf _) (by lia);have r:=YW (arr:=arrOf st) (lo:=lo) (hi:=lo+n) (by lia) U;generalize hst:setArr st (mirror (arrOf st) lo (lo+n) ((lo+n-lo) / 2))=D at B;have Y:arrOf D=mirror (arrOf st) lo (lo+n) ((lo+n-lo) / 2):=by rw [<-hst]
 rw [<-Y] at r;refine Yad (Zah W L (B.kd.trans N) (G.perm B.pm) (by rw [B.size];exact O) h1 h2 r λm k1 Z k3 _=>?_);dsimp only;exact Yag (q m D B (by lia) Z k3)
theorem WG (W:WO b)(L:Uw M A E s kd b good){st:SortSt}{lo n N:Nat}{Q:Option Nat->SortSt->Prop}(hs:kindOf st=kd)(G:AllG good (arrOf st))(hn:lo+N<=(arrOf st).size)(h2:n+1<=N)(h3:ZaS b (arrOf st) lo (lo+(n+1)))(q:Zff b lo N st Q):wpS M A E s (YV lo n N) Q st:=by
 unfold YV;refine Yad (wpS_lift (Ydf ⟨rfl,?_⟩));have fin:∀m B D,Ah lo st D->n+1<=m->m<=N->ZaS b (arrOf D) lo (lo+m)->B+1<=m->Zai b (arrOf D) (lo+m-(B+1)) (lo+m) ->
   wpS M A E s (if B > 0 then (do reverseSlice' (lo+m-(B+1)) (lo+m);WE lo m N) else WE lo m N) Q D:=by
  intro m B D F k1 k2 Y k4 k5;have G1:=G.perm F.pm;have ad:lo+N<=(arrOf D).size:=by rw [F.size];exact hn
  split
  ·rw [reverseSlice'_eq];refine Yad (Ycm ?_);have O:=O2 (st:=D) (lo:=lo) (i:=lo+m-(B+1)) (j:=lo+m) (by lia) (by lia);have r:=OJ (arr:=arrOf D) (lo:=lo) (hi:=lo+m) (i:=lo+m-(B+1)) (j:=lo+m) (by lia) (by lia) (by lia) (Yaf _) k5 Y;generalize hst:setArr D (mirror (arrOf D) (lo+m-(B+1)) (lo+m) ((lo+m-(lo+m-(B+1))) / 2))=aa at O;have e1:arrOf aa=mirror (arrOf D) (lo+m-(B+1)) (lo+m) ((lo+m-(lo+m-(B+1))) / 2):=by rw [<-hst]
   rw [<-e1] at r;have Z:=F.trans O;exact WF W L (Z.kd.trans hs) (G.perm Z.pm) (by rw [Z.size];exact hn) (by lia) k2 r λm' ab a'=>q m' ab (Z.trans a')
  ·exact WF W L (F.kd.trans hs) G1 ad (by lia) k2 Y λm' ab a'=>q m' ab (F.trans a')
 have ac:∀(arr:Array Keyed) m,Zai b arr (lo+m-(0+1)) (lo+m):=λarr m i j x y i1 i2 i3 i4 e1 e2=>by
  have:i=j:=by lia
  subst this;rw [e1] at e2;cases e2;exact W.le_refl _
 refine Yad (Ycd (λk r D=>Ah lo st D/\∃B,r=(none,k,B)/\n+1<=k/\k<=N/\ZaS b (arrOf D) lo (lo+k)/\B+1<=k/\Zai b (arrOf D) (lo+k-(B+1)) (lo+k)) ?_ ?_ ⟨Ah.refl _ _,0,rfl,Yaf _,h2,h3,by lia,ac _ _⟩)
 ·rintro k r D _ hk ⟨F,B,rfl,k1,k2,Y,k4,k5⟩;have G1:=G.perm F.pm;have ad:lo+N<=(arrOf D).size:=by rw [F.size];exact hn
  have ae:=F.kd.trans hs;unfold ZeM;refine Yad (O1 L ae G1 (by show lo+k<_;lia) (by show lo+k-1<_;lia) λy x hy hx=>?_);dsimp only;split
  ·rename_i hb;have U:=W.le_of_lt hb;split
   ·rw [reverseSlice'_eq];refine Yad (Ycm ?_);have O:=O2 (st:=D) (lo:=lo) (i:=lo+k-(B+1)) (j:=lo+k) (by lia) (by lia);have r:=OJ (arr:=arrOf D) (lo:=lo) (hi:=lo+k) (i:=lo+k-(B+1)) (j:=lo+k) (by lia) (by lia) (by lia) (Yaf _) k5 Y;have e3:(mirror (arrOf D) (lo+k-(B+1)) (lo+k) ((lo+k-(lo+k-(B+1))) / 2))[lo+k]?=some y:=by rw [Yeh (by lia),if_neg (by lia)];exact hy
    have e4:∃z,(mirror (arrOf D) (lo+k-(B+1)) (lo+k) ((lo+k-(lo+k-(B+1))) / 2))[lo+k-1]?=some z/\kle b y z:=by
     obtain ⟨z,hz,_⟩:=G1.at (i:=lo+k-(B+1)) (by lia);refine ⟨z,?_,W.le_trans U (Y (lo+k-(B+1)) (lo+k-1) z x (by lia) (by lia) (by lia) hz hx)⟩;rw [Yeh (by lia),if_pos (by lia),<-hz]
     congr 1
     lia
    generalize hst:setArr D (mirror (arrOf D) (lo+k-(B+1)) (lo+k) ((lo+k-(lo+k-(B+1))) / 2))=aa at O;have e1:arrOf aa=mirror (arrOf D) (lo+k-(B+1)) (lo+k) ((lo+k-(lo+k-(B+1))) / 2):=by rw [<-hst]
    rw [<-e1] at r e3 e4;obtain ⟨z,hz,aj⟩:=e4;exact Yag ⟨F.trans O,0,rfl,by lia,by lia,Oc W r (by lia) hz e3 aj,by lia,ac _ _⟩
   ·exact Yag ⟨F,0,rfl,by lia,by lia,Oc W Y (by lia) hx hy U,by lia,ac _ _⟩
  ·rename_i hb;have ak:kle b x y:=Yej.mpr hb;refine Yad (O1 L ae G1 (by show lo+k-1<_;lia) (by show lo+k<_;lia) λx' y' af ag=>?_);rw [hx] at af;cases af;rw [hy] at ag;cases ag;dsimp only;split
   ·refine Yag ?_;dsimp only;exact fin k B D F k1 k2 Y k4 k5
   ·rename_i al;have U:kle b y x:=Yej.mpr al;refine Yag ⟨F,B+1,rfl,by lia,by lia,Oc W Y (by lia) hx hy U,by lia,λi j u v i1 i2 i3 i4 e1 e2=>?_⟩;have ai:∀i u,lo+k-(B+1)<=i->i<lo+(k+1)->(arrOf D)[i]?=some u->kle b u x/\kle b x u:=λi u p1 p2 e=>by
     by_cases hi:i<lo+k
     ·exact ⟨k5 i (lo+k-1) u x p1 hi (by lia) (by lia) e hx,k5 (lo+k-1) i x u (by lia) (by lia) p1 hi hx e⟩
     ·have:i=lo+k:=by lia
      subst this;rw [hy] at e;cases e;exact ⟨U,ak⟩
    exact W.le_trans (ai i u (by lia) i2 e1).1 (ai j v (by lia) i4 e2).2
 ·rintro r D ⟨F,B,rfl,k1,k2,Y,k4,k5⟩;dsimp only;rw [Nat.max_eq_right h2] at *;exact fin N B D F k1 k2 Y k4 k5
theorem VZ (W:WO b)(L:Uw M A E s kd b good){st:SortSt}{lo F:Nat}{Q:Option Nat->SortSt->Prop}(Y:kindOf st=kd)(G:AllG good (arrOf st))(hn:lo+F<=(arrOf st).size)(h1:1<=F)(q:Zff b lo F st Q):wpS M A E s (countRun' lo F) Q st:=by
 rw [Xu];refine Yad (Zah W L Y G hn (Yaf _) h1 (ZcX _ W _) λn k1 k2 Z k4=>?_);dsimp only;split
 ·exact Yag (q n st (Ah.refl _ _) k1 k2 Z)
 ·rename_i e;have e:n≠F:=λz=>e (Ybg.mpr z);obtain ⟨x,y,hx,hy,hb⟩:=k4.resolve_left e;have N:=W.le_of_lt hb;split
  ·rename_i B;refine Yad (O1 L Y G (by lia) (by lia) λu v hu hv=>?_);rw [hx] at hv;cases hv;dsimp only;split
   ·exact Yag (q n st (Ah.refl _ _) k1 k2 Z)
   ·rename_i aa;have O:kle b x u:=Yej.mpr aa;have al:Zai b (arrOf st) lo (lo+n):=λi j p r i1 i2 i3 i4 B D=>
     W.le_trans (Z i (lo+n-1) p x i1 (by lia) (by lia) B hx) (W.le_trans O (Z lo j u r (Yaf _) i3 i4 hu D))
    have ni:ZaS b (arrOf st) lo (lo+n):=λi j p r i1 i2 i3 B D=>al j i r p (by lia) i3 i1 (by lia) D B;rw [reverseSlice'_eq];refine Yad (Ycm ?_);have U:=O2 (st:=st) (lo:=lo) (i:=lo) (j:=lo+n) (Yaf _) (by lia);have r:=OJ (arr:=arrOf st) (lo:=lo) (hi:=lo+n) (i:=lo) (j:=lo+n) (by lia) (Yaf _) (by lia) (Yaf _) al ni;have e3:(mirror (arrOf st) lo (lo+n) ((lo+n-lo) / 2))[lo+n]?=some y:=by rw [Yeh (by lia),if_neg (by lia)];exact hy
    have e4:(mirror (arrOf st) lo (lo+n) ((lo+n-lo) / 2))[lo+n-1]?=some u:=by
     rw [Yeh (by lia),if_pos (by lia),<-hu]
     congr 1
     lia
    generalize hst:setArr st (mirror (arrOf st) lo (lo+n) ((lo+n-lo) / 2))=ab at U;have B:arrOf ab=mirror (arrOf st) lo (lo+n) ((lo+n-lo) / 2):=by rw [<-hst]
    rw [<-B] at r e3 e4;exact WG W L (U.kd.trans Y) (G.perm U.pm) (by rw [U.size];exact hn) (by lia) (Oc W r (by lia) e4 e3 (W.le_trans N O)) λm' ac a'=>q m' ac (U.trans a')
  ·have:n=1:=by lia
   subst this;refine WG W L Y G hn (by lia) (Oc W (λi j p r i1 i2 i3 B D=>?_) (by lia) hx hy N) q;have:i=j:=by lia
   subst this;rw [B] at D;cases D;exact W.le_refl _
theorem YX (W:WO b){arr:Array Keyed}{lo k l:Nat}{p:Keyed}(Z:lo+k<arr.size)(hl:l<=k)(h:Rng b arr lo (lo+k))(hp:arr[lo+k]?=some p)(h1:∀i x,i<l->arr[lo+i]?=some x->kle b x p)(h2:∀i x,l<=i->i<k->arr[lo+i]?=some x->kle b p x) :
  Rng b (bubble arr (lo+k) (lo+k-(lo+l))) lo (lo+(k+1)):=by
 have e0:lo+k-(lo+k-(lo+l))=lo+l:=by lia
 have at_:∀q,(bubble arr (lo+k) (lo+k-(lo+l)))[q]?=if q=lo+l then some p else if lo+l<q/\q<=lo+k then arr[q-1]? else arr[q]?:=λq=>by
  rw [getElem?_bubble Z _ (by lia),e0,hp]
 intro i j x y i1 i2 i3 D B;rw [at_] at D B;have L:∀q z,lo<=q->q<lo+l->arr[q]?=some z->kle b z p:=λq z N q2 e=>h1 (q-lo) z (by lia) (by rw [Ycv N];exact e);have F:∀q z,lo+l<=q->q<lo+k->arr[q]?=some z->kle b p z:=λq z N q2 e=>h2 (q-lo) z (by lia) (by lia) (by rw [Ycv (by lia)];exact e);by_cases O:i=lo+l
 ·rw [if_pos O] at D;cases D;by_cases G:j=lo+l
  ·rw [if_pos G] at B;cases B;exact W.le_refl _
  ·rw [if_neg G,if_pos (by lia)] at B;exact F (j-1) y (by lia) (by lia) B
 ·rw [if_neg O] at D;by_cases U:lo+l<i/\i<=lo+k
  ·rw [if_pos U] at D;rw [if_neg (by lia),if_pos (by lia)] at B;exact h (i-1) (j-1) x y (by lia) (by lia) (by lia) D B
  ·rw [if_neg U] at D;by_cases G:j=lo+l
   ·rw [if_pos G] at B;cases B;exact L i x i1 (by lia) D
   ·rw [if_neg G] at B;by_cases Y:lo+l<j/\j<=lo+k
    ·rw [if_pos Y] at B;exact h i (j-1) x y i1 (by lia) (by lia) D B
    ·rw [if_neg Y] at B;exact h i j x y i1 i2 (by lia) D B
theorem Zaj {st:SortSt}{lo src d:Nat}(h1:src<(arrOf st).size)(h2:d<=src)(q:lo<=src-d):Ah lo st (setArr st (bubble (arrOf st) src d)):=by
 refine ⟨rfl,rfl,rfl,bubble_perm _ _ _,λk B=>?_⟩;show (bubble (arrOf st) src d)[k]?=_;rw [getElem?_bubble h1 _ h2,if_neg (by lia),if_neg (by lia)]
theorem YY (W:WO b)(L:Uw M A E s kd b good){st:SortSt}{lo n ok:Nat}{Q:Bool->SortSt->Prop}(hs:kindOf st=kd)(G:AllG good (arrOf st))(hn:lo+n<=(arrOf st).size)(h1:1<=ok)(h2:ok<=n)(h3:Rng b (arrOf st) lo (lo+ok))(q:∀D,Ah lo st D->Rng b (arrOf D) lo (lo+n)->Q true D):wpS M A E s (binarySort' lo n ok) Q st:=by
 rw [binarySort'_eq,Nat.max_eq_left h1];refine Yad (Ycd (λk r B=>Ah lo st B/\r=(none,())/\ok<=k/\k<=n/\Rng b (arrOf B) lo (lo+k)) ?_ ?_ ⟨Ah.refl _ _,rfl,Yaf _,h2,h3⟩)
 ·rintro k r B _ hk ⟨F,rfl,k1,k2,N⟩;have G1:=G.perm F.pm;have ac:lo+n<=(arrOf B).size:=by rw [F.size];exact hn
  have aa:=F.kd.trans hs;obtain ⟨p,hp,gp⟩:=G1.at (i:=lo+k) (by lia);have fin:∀l,l<=k->(∀i x,i<l->(arrOf B)[lo+i]?=some x->kle b x p)->(∀i x,l<=i->i<k->(arrOf B)[lo+i]?=some x->kle b p x) ->
    wpS M A E s (do moveDown' (lo+k) (lo+l);pure (ForInStep.yield ((none,()):Option Bool×Unit))) (λr D=>match r with
     | .done c'=>False
     | .yield c'=>Ah lo st D/\c'=(none,())/\ok<=k+1/\k+1<=n/\Rng b (arrOf D) lo (lo+(k+1))) B:=by
   intro l hl g1 O;rw [moveDown'_eq];refine Yad (Ycm ?_);have ab:=Zaj (st:=B) (lo:=lo) (src:=lo+k) (d:=lo+k-(lo+l)) (by lia) (by lia) (by lia);exact Yag ⟨F.trans ab,rfl,by lia,by lia,YX W (by lia) hl N hp g1 O⟩
  dsimp only;refine Yad (Ycd (λi c D=>D=B/\∃l r,c=(none,l,r)/\l<=r/\r<=k/\r-l<=k-i/\(∀i x,i<l->(arrOf B)[lo+i]?=some x->kle b x p)/\(∀i x,r<=i->i<k->(arrOf B)[lo+i]?=some x->kle b p x)) ?_ ?_ ⟨rfl,0,k,rfl,by lia,by lia,by lia,λi x hi=>by lia,λi x h1 h2=>by lia⟩)
  ·rintro i c D _ hi ⟨rfl,l,r,rfl,g1,O,g3,Z,g5⟩;dsimp only;split
   ·have:l=r:=by lia
    subst this;refine Yag ?_;dsimp only;exact wpS_mono (fin l O Z g5) λr D U=>by
     cases r with
     | done z=>exact False.elim U
     | yield z=>exact U
   ·refine Yad (O1 L aa G1 (by lia) (by lia) λp' m Y hm=>?_);rw [hp] at Y;cases Y;dsimp only;split
    ·rename_i hb;refine Yag ⟨rfl,_,_,rfl,by lia,by lia,by lia,Z,λj x j1 j2 e=>?_⟩;exact W.le_trans (W.le_of_lt hb) (N _ (lo+j) m x (by lia) (by lia) (by lia) hm e)
    ·rename_i hb;refine Yag ⟨rfl,_,_,rfl,by lia,by lia,by lia,λj x j1 e=>?_,g5⟩;exact W.le_trans (N (lo+j) _ x m (by lia) (by lia) (by lia) e hm) (Yej.mpr hb)
  ·rintro c D ⟨rfl,l,r,rfl,g1,O,g3,Z,g5⟩;have:l=r:=by simp at g3;lia
   subst this;dsimp only;exact wpS_mono (fin l O Z g5) λr D U=>by
     cases r with
     | done z=>exact False.elim U
     | yield z=>exact U
 ·rintro r B ⟨F,rfl,k1,k2,N⟩;dsimp only;rw [Nat.max_eq_right h2] at N;exact Yag (q B F N)
noncomputable def O3 (arr:Array Keyed)(base:Nat)(l:List Keyed):Array Keyed:=List.foldl (λa (x:Keyed×Nat)=>a.setIfInBounds (base+x.2) x.1) arr l.zipIdx
noncomputable def Zbr (B:Nat)(q:Array Keyed):StateT SortSt Sem Bool:=do
 modify λs=>setArr s (O3 (arrOf s) B q.toList)
 let s <- get
 pure (failedOf s).isNone
noncomputable def Zd4 (st:SortSt)(B na q nb:Nat):StateT SortSt Sem Bool:=(if (nb == 0)=true then pure true else (if na<=nb then (do
  let m <- VS ((arrOf st).extract B q) ((arrOf st).extract q (q+nb))
  Zbr B m) else (do
  let m <- VT ((arrOf st).extract B q) ((arrOf st).extract q (q+nb))
  Zbr B m)))
noncomputable def Zd5 (st:SortSt)(q na B nb:Nat):StateT SortSt Sem Bool:=(if (na == 0)=true then pure true else (do
  let y <- elem' (arrOf st) (q+na-1)
  match <- Ob true y (arrOf st) B nb (nb-1) with
  | some nb=>Zd4 st q na B nb
  | _=>pure false))
theorem Xv (i:Nat):mergeAt' i=(do
  let st <- get
  match (pendingOf st)[i]?,(pendingOf st)[i+1]? with
  | some (sa,na,power),some (sb,nb,_)=>do
   set (setPending st (((pendingOf st).setIfInBounds i (sa,na+nb,power)).eraseIdxIfInBounds (i+1)))
   let x <- elem' (arrOf st) sb
   match <- Ob false x (arrOf st) sa na 0 with
   | some k=>Zd5 st (sa+k) (na-k) sb nb
   | _=>pure false
  | _,_=>liftM (unsupported "internal:list.sort.pending")):=by
 refine Jk (m:=get) λst=>?_;cases (pendingOf st)[i]? with
 | none=>rfl
 | some p=>
  cases (pendingOf st)[i+1]? with
  | none=>rfl
  | some q=>
   obtain ⟨sa,na,D⟩:=p;obtain ⟨sb,nb,B⟩:=q
   rfl
theorem Zce:∀(l:List Keyed)(arr:Array Keyed)(base n i:Nat),base+n+l.length<=arr.size ->
  (List.foldl (λa (x:Keyed×Nat)=>a.setIfInBounds (base+x.2) x.1) arr (l.zipIdx n))[i]?=if base+n<=i/\i<base+n+l.length then l[i-(base+n)]? else arr[i]?
 | [],arr,base,n,i,_=>by
  rw [if_neg (by simp)]
  rfl
 | x::l,arr,base,n,i,h=>by
  rw [List.zipIdx_cons,List.foldl_cons];rw [Yck] at h;have ih:=Zce l (arr.setIfInBounds (base+n) x) base (n+1) i (by rw [Array.size_setIfInBounds];lia);refine ih.trans ?_;rw [Yck];by_cases h1:base+(n+1)<=i/\i<base+(n+1)+l.length
  ·rw [if_pos h1,if_pos (by lia)];rw [show i-(base+n)=(i-(base+(n+1)))+1 by lia,List.getElem?_cons_succ]
  ·rw [if_neg h1,Array.getElem?_setIfInBounds];by_cases h2:base+n=i
   ·subst h2;rw [if_pos rfl,if_pos (by lia),if_pos (by lia),Nat.sub_self]
    rfl
   ·rw [if_neg h2,if_neg (by lia)]
theorem Zcf {arr:Array Keyed}{base:Nat}{l:List Keyed}(h:base+l.length<=arr.size)(i:Nat):(O3 arr base l)[i]?=if base<=i/\i<base+l.length then l[i-base]? else arr[i]?:=Zce l arr base 0 i h
theorem Zbs {arr:Array Keyed}{base:Nat}{l:List Keyed}(h:base+l.length<=arr.size)(p:l.Perm ((arr.toList.drop base).take l.length)):(O3 arr base l).Perm arr:=by
 have e:(O3 arr base l).toList=arr.toList.take base++l++arr.toList.drop (base+l.length):=by
  refine List.ext_getElem? λi=>?_;have q:arr.toList.length=arr.size:=Yam;rw [Yaz,Zcf h];rw [Ybl,List.getElem?_append,Ybj,q,Yda (by lia)];by_cases h1:i<base
  ·rw [if_neg (by lia),if_pos h1,Ydm,if_pos h1,Yaz]
  ·rw [if_neg h1,List.getElem?_append];by_cases h2:i<base+l.length
   ·rw [if_pos (by lia),if_pos (by lia)]
   ·rw [if_neg (by lia),if_neg (by lia),Ydv,Yaz]
    congr 1
    lia
 have B:arr.toList=arr.toList.take base++(arr.toList.drop base).take l.length++arr.toList.drop (base+l.length):=by
  rw [Ybl,<-List.drop_drop,Yde,Yde]
 rw [Array.perm_iff_toList_perm,e];exact ((Ycz _ p).append_right _).trans (.of_eq B.symm)
theorem UC {arr:Array Keyed}{lo mid hi:Nat}(h1:Rng b arr lo mid)(h2:Rng b arr mid hi)(F:∀i j x y,lo<=i->i<mid->mid<=j->j<hi->arr[i]?=some x->arr[j]?=some y->kle b x y):Rng b arr lo hi:=λi j x y i1 i2 D q B=>by
 by_cases G:j<mid
 ·exact h1 i j x y i1 i2 G q B
 ·by_cases L:i<mid
  ·exact F i j x y i1 L (by lia) D q B
  ·exact h2 i j x y (by lia) i2 D q B
theorem Zcg {arr:Array Keyed}{lo hi:Nat}(q:hi<=arr.size)(h:Rng b arr lo hi):(arr.extract lo hi).toList.Pairwise (kle b):=by
 rw [List.pairwise_iff_getElem];intro i j B D F;have sz:(arr.extract lo hi).toList.length=hi-lo:=by rw [Yam,Yeo,Yda q]
 refine h (lo+i) (lo+j) _ _ (by lia) (by lia) (by lia) ?_ ?_
 ·simp [Array.getElem_extract]
 ·simp [Array.getElem_extract]
noncomputable def MgQ (b:Keyed->Keyed->Bool)(st:SortSt)(lo hi:Nat)(Q:Bool->SortSt->Prop):Prop:=∀q,kindOf q=kindOf st->pendingOf q=pendingOf st->failedOf q=failedOf st->(arrOf q).Perm (arrOf st) ->
 (∀i,i<lo\/hi<=i->(arrOf q)[i]?=(arrOf st)[i]?)->Rng b (arrOf q) lo hi->Q true q
structure GalF (b:Keyed->Keyed->Bool)(arr:Array Keyed)(sa k sb nb hi:Nat):Prop where
 k0:sa<=k
 k1:k<sb
 n0:0<nb
 n1:sb+nb<=hi
 ra:Rng b arr sa sb
 rb:Rng b arr sb hi
 lowA:∀i x y,sa<=i->i<k->arr[i]?=some x->arr[sb]?=some y->kle b x y
 highA:∀i x y,k<=i->i<sb->arr[i]?=some x->arr[sb]?=some y->kle b y x
 lowB:∀i x y,sb<=i->i<sb+nb->arr[i]?=some x->arr[sb-1]?=some y->kle b x y
 highB:∀i x y,sb+nb<=i->i<hi->arr[i]?=some x->arr[sb-1]?=some y->kle b y x
theorem GalF.two {arr:Array Keyed}{sa k D nb hi:Nat}(F:GalF b arr sa k D nb hi)(hh:hi<=arr.size)(G:AllG good arr):Two b good (arr.extract k D) (arr.extract D (D+nb)):=by
 have h0:=F.k0;have h1:=F.k1;have h2:=F.n0;have h3:=F.n1;have B:∀{i j x},x∈(arr.extract i j).toList->good x:=λ{i j x} L=>by
  obtain ⟨q,_,_,e⟩:=Xr L;rw [<-Yaz] at e;exact G x (Ybb e)
 refine ⟨λx=>B,λx=>B,Zcg (by lia) λi j x y i1 i2 Y=>F.ra i j x y (by lia) i2 Y,Zcg (by lia) λi j x y i1 i2 Y=>F.rb i j x y i1 i2 (by lia),by rw [Yeo];lia,by rw [Yeo];lia,λx L y O=>?_,λz N y O=>?_⟩
 ·have L:arr[D]?=some x:=by
   rw [Array.getElem?_extract,if_pos (by lia)] at L;exact L
  obtain ⟨q,U,Z,e⟩:=Xr O;exact F.highA q y x U Z e L
 ·have N:arr[D-1]?=some z:=by
   rw [Yeo,Array.getElem?_extract,if_pos (by lia)] at N;rw [<-N]
   congr 1
   lia
  obtain ⟨q,U,Z,e⟩:=Xr O;exact F.lowB q y z U (by lia) e N
theorem GalF.fin (W:WO b){st:SortSt}{sa k B nb hi:Nat}{Q:Bool->SortSt->Prop}(F:GalF b (arrOf st) sa k B nb hi)(hh:hi<=(arrOf st).size)(q:MgQ b st sa hi Q)(hf:failedOf st=none){m:Array Keyed}{L:SortSt}(O:SameG st L)(hm:Jt b (((arrOf st).extract k B).toList++((arrOf st).extract B (B+nb)).toList) m.toList):wpS M A E s (Zbr k m) Q L:=by
 have h0:=F.k0;have h1:=F.k1;have h2:=F.n0;have h3:=F.n1;unfold Zbr;refine Yad (Ycm (Yad (wpS_get (Yag ?_))));show Q (failedOf L).isNone _;rw [O.2.2.2,hf];have hl:m.toList.length=B+nb-k:=by
  have:=hm.1.length_eq;rw [Yaq,Yam,Yam,Yam,Yeo,Yeo] at this;rw [Yam]
  lia
 have hb:k+m.toList.length<=(arrOf st).size:=by lia
 have D:((arrOf st).toList.drop k).take m.toList.length=((arrOf st).extract k B).toList++((arrOf st).extract B (B+nb)).toList:=by
  have x1:((arrOf st).extract k (B+nb)).toList=((arrOf st).toList.drop k).take m.toList.length:=by
   rw [hl,Yem,Yen]
  rw [<-x1,<-Ycr,Array.extract_append_extract]
  congr 2 <;> lia
 have at_:=Zcf (arr:=arrOf st) (base:=k) (l:=m.toList) hb;have mem:∀i x,k<=i->i<B+nb->(O3 (arrOf st) k m.toList)[i]?=some x->(∃j,k<=j/\j<B/\(arrOf st)[j]?=some x)\/(∃j,B<=j/\j<B+nb/\(arrOf st)[j]?=some x):=λi x i1 i2 e=>by
  rw [at_,if_pos (by lia)] at e;have Z:=hm.1.mem_iff.mp (Ybb e);rcases Yap.mp Z with Z | Z
  ·exact .inl (Xr Z)
  ·exact .inr (Xr Z)
 obtain ⟨b0,U⟩:∃x,(arrOf st)[B]?=some x:=⟨_,Ybh (by lia)⟩;obtain ⟨aL,aa⟩:∃x,(arrOf st)[B-1]?=some x:=⟨_,Ybh (by lia)⟩;refine q _ O.1 O.2.2.1 ?_ ?_ (λi ab=>?_) ?_
 ·show failedOf L=failedOf st;exact O.2.2.2
 ·show (O3 (arrOf L) k m.toList).Perm (arrOf st);rw [O.2.1];exact Zbs hb (hm.1.trans (.of_eq D.symm))
 ·show (O3 (arrOf L) k m.toList)[i]?=_;rw [O.2.1,at_,if_neg (by lia)]
 ·show Rng b (O3 (arrOf L) k m.toList) sa hi;rw [O.2.1];have N:∀i,i<k\/B+nb<=i->(O3 (arrOf st) k m.toList)[i]?=(arrOf st)[i]?:=λi ab=>by rw [at_,if_neg (by lia)]
  refine UC (mid:=k) (λi j x y i1 i2 Y D G=>?_) (UC (mid:=B+nb) (λi j x y i1 i2 Y D G=>?_) (λi j x y i1 i2 Y D G=>?_) (λi j x y i1 i2 Y i4 D G=>?_)) (λi j x y i1 i2 Y i4 D G=>?_)
  ·rw [N i (by lia)] at D;rw [N j (by lia)] at G;exact F.ra i j x y i1 i2 (by lia) D G
  ·rw [at_,if_pos (by lia)] at D G;exact Zbk W hm.2 (by lia) D G
  ·rw [N i (by lia)] at D;rw [N j (by lia)] at G;exact F.rb i j x y (by lia) i2 Y D G
  ·rw [N j (by lia)] at G;rcases mem i x i1 i2 D with ⟨p,p1,p2,e⟩ | ⟨p,p1,p2,e⟩
   ·exact W.le_trans (F.ra p (B-1) x aL (by lia) (by lia) (by lia) e aa) (F.highB j y aL Y i4 G aa)
   ·exact F.rb p j x y p1 (by lia) i4 e G
  ·rw [N i (by lia)] at D;have xb:=F.lowA i x b0 i1 i2 D U;by_cases cj:j<B+nb
   ·rcases mem j y Y cj G with ⟨p,p1,p2,e⟩ | ⟨p,p1,p2,e⟩
    ·exact F.ra i p x y i1 (by lia) p2 D e
    ·exact W.le_trans xb (F.rb B p b0 y (Yaf _) p1 (by lia) U e)
   ·rw [N j (by lia)] at G;exact W.le_trans xb (F.rb B j b0 y (Yaf _) (by lia) i4 U G)
theorem Xw (W:WO b)(L:Uw M A E s kd b good){st:SortSt}{i D na sb nb pw ae:Nat}{Q:Bool->SortSt->Prop}(hs:kindOf st=kd)(hf:failedOf st=none)(G:AllG good (arrOf st))(p1:(pendingOf st)[i]?=some (D,na,pw))(p2:(pendingOf st)[i+1]?=some (sb,nb,ae))(e:sb=D+na)(af:0<na)(al:0<nb)(hh:sb+nb<=(arrOf st).size)(ra:Rng b (arrOf st) D sb)(rb:Rng b (arrOf st) sb (sb+nb))(q:MgQ b (setPending st (((pendingOf st).setIfInBounds i (D,na+nb,pw)).eraseIdxIfInBounds (i+1))) D (sb+nb) Q):wpS M A E s (mergeAt' i) Q st:=by
 subst e;rw [Xv];refine Yad (wpS_get ?_);rw [p1,p2];dsimp only;refine Yad ?_;show wpS M A E s (set _) _ st;refine (show wpS M A E s (modify λ_=>setPending st (((pendingOf st).setIfInBounds i (D,na+nb,pw)).eraseIdxIfInBounds (i+1))) _ st from Ycm ?_);generalize hst:setPending st (((pendingOf st).setIfInBounds i (D,na+nb,pw)).eraseIdxIfInBounds (i+1))=B at q;have ea:arrOf B=arrOf st:=by rw [<-hst]
 have ek:kindOf B=kd:=by rw [<-hst];exact hs
 have ef:failedOf B=none:=by rw [<-hst];exact hf
 rw [<-ea] at G hh ra rb ⊢;obtain ⟨b0,U,ag⟩:=G.at (i:=D+na) (by lia);obtain ⟨aL,Y,ah⟩:=G.at (i:=D+na-1) (by lia);refine Yad (GE U ?_);have G1:Gal b good false b0 (arrOf B) D na:=Vm W ag (λi hi=>G.at (by lia)) ra;refine Yad (Jz L G1 ek af λk hk k1 k2=>?_);have ab:∀i x y,D<=i->i<D+k->(arrOf B)[i]?=some x->(arrOf B)[D+na]?=some y->kle b x y:=λi x y i1 i2 N O=>by
  rw [U] at O;cases O;have:=k1 (i-D) (by lia);unfold byd at this;rw [Ycv i1,N] at this;dsimp only at this;rw [if_neg Yal,Bool.not_eq_true'] at this;exact this
 have ac:∀i x y,D+k<=i->i<D+na->(arrOf B)[i]?=some x->(arrOf B)[D+na]?=some y->kle b y x:=λi x y i1 i2 N O=>by
  rw [U] at O;cases O;have:=k2 (i-D) (by lia) (by lia);unfold byd at this;rw [Ycv (by lia),N] at this;dsimp only at this;rw [if_neg Yal,Bool.not_eq_false'] at this;exact W.le_of_lt this
 dsimp only;unfold Zd5;rw [show arrOf st=arrOf B from ea.symm];split
 ·rename_i e0;have e0:na-k=0:=eq_of_beq e0;refine Yag (q B rfl rfl rfl (.refl _) (λ_ _=>rfl) (UC ra rb λi j x y i1 i2 i3 i4 N O=>?_));exact W.le_trans (ab i x b0 i1 (by lia) N U) (rb (D+na) j b0 y (Yaf _) i3 i4 U O)
 ·rename_i e0;have e0:na-k≠0:=λz=>e0 (Ybg.mpr z);refine Yad (GE (show (arrOf B)[D+k+(na-k)-1]?=some aL by rw [<-Y];congr 1;lia) ?_);have G2:Gal b good true aL (arrOf B) (D+na) nb:=Vm W ah (λi hi=>G.at (by lia)) rb;refine Yad (Jz L G2 ek (by lia) λZ am ai aj=>?_);have ad:∀i x y,D+na<=i->i<D+na+Z->(arrOf B)[i]?=some x->(arrOf B)[D+na-1]?=some y->kle b x y:=λi x y i1 i2 N O=>by
   rw [Y] at O;cases O;have:=ai (i-(D+na)) (by lia);unfold byd at this;rw [Ycv i1,N] at this;dsimp only at this;rw [if_pos rfl] at this;exact W.le_of_lt this
  have aa:∀i x y,D+na+Z<=i->i<D+na+nb->(arrOf B)[i]?=some x->(arrOf B)[D+na-1]?=some y->kle b y x:=λi x y i1 i2 N O=>by
   rw [Y] at O;cases O;have:=aj (i-(D+na)) (by lia) (by lia);unfold byd at this;rw [Ycv (by lia),N] at this;dsimp only at this;rw [if_pos rfl] at this;exact this
  dsimp only;unfold Zd4;split
  ·rename_i N;have N:Z=0:=eq_of_beq N;refine Yag (q B rfl rfl rfl (.refl _) (λ_ _=>rfl) (UC ra rb λi j x y i1 i2 i3 i4 f1 f2=>?_));exact W.le_trans (ra i (D+na-1) x aL i1 (by lia) (by lia) f1 Y) (aa j y aL (by lia) i4 f2 Y)
  ·rename_i N;have N:Z≠0:=λz=>N (Ybg.mpr z);have F:GalF b (arrOf B) D (D+k) (D+na) Z (D+na+nb):=⟨by lia,by lia,by lia,by lia,ra,rb,ab,ac,ad,aa⟩;have T:=F.two hh G;split
   ·refine Yad ?_;rw [show arrOf st=arrOf B from ea.symm];exact Xp W L T ek λr ak sg m=>F.fin W hh q ef sg m
   ·refine Yad ?_;rw [show arrOf st=arrOf B from ea.symm];exact Xs W L T ek λr ak sg m=>F.fin W hh q ef sg m
end
noncomputable def Runs (b:Keyed->Keyed->Bool)(arr:Array Keyed):Nat->List (Nat×Nat×Nat)->Nat->Prop
 | s,[],e=>s=e
 | s,x::rest,e=>x.1=s/\0<x.2.1/\Rng b arr s (s+x.2.1)/\Runs b arr (s+x.2.1) rest e
section
variable {b:Keyed->Keyed->Bool}{arr arr':Array Keyed}
theorem Runs.le:∀{p:List (Nat×Nat×Nat)}{s e:Nat},Runs b arr s p e->s+p.length<=e
 | [],s,e,h=>by have h:s=e:=h;simp [h]
 | x::p,s,e,h=>by
  have:=Runs.le h.2.2.2;have:=h.2.1;rw [Yck]
  lia
theorem Runs.app:∀{u v:List (Nat×Nat×Nat)}{s e:Nat},Runs b arr s (u++v) e↔∃m,Runs b arr s u m/\Runs b arr m v e
 | [],v,s,e=>⟨λh=>⟨s,rfl,h⟩,λ⟨m,h1,h2⟩=>by have h1:s=m:=h1;rw [h1];exact h2⟩
 | x::u,v,s,e=>by
  constructor
  ·rintro ⟨h1,h2,h3,h4⟩;obtain ⟨m,k1,k2⟩:=Runs.app.mp h4;exact ⟨m,⟨h1,h2,h3,k1⟩,k2⟩
  ·rintro ⟨m,⟨h1,h2,h3,k1⟩,k2⟩;exact ⟨h1,h2,h3,Runs.app.mpr ⟨m,k1,k2⟩⟩
theorem Runs.keep:∀{p:List (Nat×Nat×Nat)}{s e:Nat},Runs b arr s p e->(∀i,s<=i->i<e->arr'[i]?=arr[i]?)->Runs b arr' s p e
 | [],_,_,h,_=>h
 | x::p,s,e,h,k=>by
  have:=Runs.le h.2.2.2;refine ⟨h.1,h.2.1,λi j u v i1 i2 D q B=>?_,Runs.keep h.2.2.2 λi i1 i2=>k i (by lia) i2⟩;rw [k i i1 (by lia)] at q;rw [k j (by lia) (by lia)] at B;exact h.2.2.1 i j u v i1 i2 D q B
theorem Runs.push {p:List (Nat×Nat×Nat)}{s lo n q:Nat}(h:Runs b arr s p lo)(B:0<n)(D:Rng b arr lo (lo+n)):Runs b arr s (p++[(lo,n,q)]) (lo+n):=
 Runs.app.mpr ⟨lo,h,rfl,B,D,rfl⟩
theorem Runs.two {p:List (Nat×Nat×Nat)}{i e q na F B nb D:Nat}(h:Runs b arr 0 p e)(h1:p[i]?=some (q,na,F))(h2:p[i+1]?=some (B,nb,D)) :
  B=q+na/\0<na/\0<nb/\B+nb<=e/\Rng b arr q B/\Rng b arr B (B+nb) /\
   ((∀i,i<q\/B+nb<=i->arr'[i]?=arr[i]?)->Rng b arr' q (B+nb)->Runs b arr' 0 ((p.set i (q,na+nb,F)).eraseIdx (i+1)) e):=by
 obtain ⟨l1,e1⟩:=Yay.mp h1;obtain ⟨l2,e2⟩:=Yay.mp h2;have d:p=p.take i++(q,na,F)::(B,nb,D)::p.drop (i+2):=by
  conv=>lhs;rw [<-Yde i p,Yes l1,e1,Yes l2,e2]
 have L:(p.take i).length=i:=by rw [Ybj];lia
 generalize p.take i=u at d L;generalize p.drop (i+2)=v at d;subst d;obtain ⟨m,k1,N,O,U,Y,Z,k7,G⟩:=Runs.app.mp h;have N:q=m:=N;have O:0<na:=O;have Y:B=m+na:=Y;have Z:0<nb:=Z;have U:Rng b arr m (m+na):=U;have k7:Rng b arr (m+na) (m+na+nb):=k7;have G:Runs b arr (m+na+nb) v e:=G;subst N Y;have k9:q+na+nb+v.length<=e:=G.le;refine ⟨rfl,O,Z,by lia,U,k7,λho hr=>?_⟩;have es:((u++(q,na,F)::(q+na,nb,D)::v).set i (q,na+nb,F)).eraseIdx (i+1)=u++(q,na+nb,F)::v:=by
  rw [List.set_append,if_neg (by lia),L,Nat.sub_self,List.set_cons_zero,List.eraseIdx_append_of_length_le (by lia),L,Nat.add_sub_cancel_left]
  rfl
 rw [es];refine Runs.app.mpr ⟨q,k1.keep λj j1 j2=>ho j (.inl j2),rfl,by show 0<na+nb;lia,by show Rng b arr' q (q+(na+nb));rw [<-Nat.add_assoc];exact hr,?_⟩;show Runs b arr' (q+(na+nb)) v e;rw [<-Nat.add_assoc];exact G.keep λj j1 j2=>ho j (.inr j1)
theorem Runs.pow:∀{p:List (Nat×Nat×Nat)}{s e:Nat}(i:Nat)(f:Nat×Nat×Nat->Nat×Nat×Nat),(∀x,(f x).1=x.1/\(f x).2.1=x.2.1)->Runs b arr s p e->Runs b arr s (p.modify i f) e
 | [],_,_,i,f,_,h=>by cases i <;> exact h
 | x::p,s,e,0,f,hf,h=>by
  rw [List.modify_zero_cons];obtain ⟨q1,q2⟩:=hf x;refine ⟨q1.trans h.1,by rw [q2];exact h.2.1,by rw [q2];exact h.2.2.1,by rw [q2];exact h.2.2.2⟩
 | x::p,s,e,i+1,f,hf,h=>by
  rw [List.modify_succ_cons];exact ⟨h.1,h.2.1,h.2.2.1,Runs.pow i f hf h.2.2.2⟩
theorem Runs.one (W:WO b){p:List (Nat×Nat×Nat)}{e:Nat}(h:Runs b arr 0 p e)(q:p.length<=1):Rng b arr 0 e:=by
 match p,h,q with
 | [],h,_=>
  have h:0=e:=h;subst h;intro i j x y i1 i2 D
  lia
 | [x],h,_=>
  have B:0+x.2.1=e:=h.2.2.2;rw [<-B];exact h.2.2.1
end
section
variable {M:Model}{A:Around}{E:EX}{s:Shared}{kd:SortKind}{b:Keyed->Keyed->Bool}{good:Keyed->Prop}
structure SI (b:Keyed->Keyed->Bool)(kd:SortKind)(st0 st:SortSt)(lo:Nat):Prop where
 ki:kindOf st=kd
 fa:failedOf st=none
 pm:(arrOf st).Perm (arrOf st0)
 ru:Runs b (arrOf st) 0 (pendingOf st).toList lo
theorem SI.size {st0 st:SortSt}{lo:Nat}(h:SI b kd st0 st lo):(arrOf st).size=(arrOf st0).size:=h.pm.size_eq
theorem SI.merge (W:WO b)(L:Uw M A E s kd b good){st0 st:SortSt}{lo i:Nat}{Q:Bool->SortSt->Prop}(G:AllG good (arrOf st0))(h:SI b kd st0 st lo)(Z:lo<=(arrOf st0).size)(hi:i+1<(pendingOf st).size)(q:∀B,SI b kd st0 B lo->(pendingOf B).size+1=(pendingOf st).size->(∀i,lo<=i->(arrOf B)[i]?=(arrOf st)[i]?)->Q true B):wpS M A E s (mergeAt' i) Q st:=by
 obtain ⟨⟨D,na,F⟩,O⟩:∃x,(pendingOf st)[i]?=some x:=⟨_,Ybh (by lia)⟩;obtain ⟨⟨sb,nb,aa⟩,p2⟩:∃x,(pendingOf st)[i+1]?=some x:=⟨_,Ybh hi⟩;have two:=λarr'=>Runs.two (arr':=arr') h.ru (by rw [Yaz];exact O) (by rw [Yaz];exact p2);obtain ⟨t1,t2,t3,t4,t5,t6,_⟩:=two (arrOf st);have ab:=h.size;refine Xw W L h.ki h.fa (G.perm h.pm) O p2 t1 t2 t3 (by lia) t5 t6 λB k1 k2 k3 U N k6=>?_;have e0:arrOf (setPending st (((pendingOf st).setIfInBounds i (D,na+nb,F)).eraseIdxIfInBounds (i+1)))=arrOf st:=rfl;rw [e0] at U N;have e1:pendingOf B=((pendingOf st).setIfInBounds i (D,na+nb,F)).eraseIdxIfInBounds (i+1):=k2;have Y:(pendingOf B).toList=((pendingOf st).toList.set i (D,na+nb,F)).eraseIdx (i+1):=by
  rw [e1,Array.toList_eraseIdxIfInBounds,Array.toList_setIfInBounds]
 refine q B ⟨k1.trans h.ki,k3.trans h.fa,U.trans h.pm,?_⟩ ?_ λj hj=>N j (.inr (by lia))
 ·rw [Y];exact (two (arrOf B)).2.2.2.2.2.2 N k6
 ·have:=Ybi List.length Y;rw [Yam,List.length_eraseIdx,List.length_set,Yam,if_pos hi] at this
  lia
theorem Ux (W:WO b)(L:Uw M A E s kd b good){st:SortSt}{Q:Unit->SortSt->Prop}(hs:kindOf st=kd)(hf:failedOf st=none)(hp:pendingOf st=#[])(G:AllG good (arrOf st))(q:∀ac,(arrOf ac).Perm (arrOf st)->failedOf ac=none->Rng b (arrOf ac) 0 (arrOf st).size->Q () ac):wpS M A E s sortRuns' Q st:=by
 rw [sortRuns'_eq];refine Yad (wpS_get ?_);dsimp only;generalize hsz:(arrOf st).size=size at q;generalize minRun' size size 0=U;refine Yad (wpS_mono (Q:=λr Z=>r=(none,size)/\SI b kd st Z size) (Ycd (λk r Z=>∃lo,r=(none,lo)/\k<=lo/\lo<=size/\SI b kd st Z lo) ?_ ?_ ⟨0,rfl,Yaf _,Yav _,hs,hf,.refl _,by rw [hp];rfl⟩) ?_)
 ·rintro k r Z _ hk ⟨lo,rfl,k1,k2,I⟩;dsimp only;split
  ·have:lo=size:=by lia
   subst this;exact Yag ⟨rfl,I⟩
  ·rename_i aj;have s1:(arrOf Z).size=size:=I.size.trans hsz;refine Yad (VZ W L I.ki (G.perm I.pm) (by lia) (by lia) λn F ah n1 n2 n3=>?_);have Y:SI b kd st F lo:=⟨ah.kd.trans I.ki,ah.fa.trans I.fa,ah.pm.trans I.pm,by rw [ah.pe];exact I.ru.keep λi _ hi=>ah.lw i hi⟩;dsimp only;have O:∀D n,SI b kd st D lo->0<n->Rng b (arrOf D) lo (lo+n)->SI b kd st (setPending D ((pendingOf D).push (lo,n,0))) (lo+n):=by
    intro D n I3 n1 n3;refine ⟨I3.ki,I3.fa,I3.pm,?_⟩;show Runs b (arrOf D) 0 ((pendingOf D).push (lo,n,0)).toList (lo+n);rw [Ydw];exact I3.ru.push n1 n3
   have pow:∀D pw,SI b kd st D lo->SI b kd st (setPending D ((pendingOf D).modify ((pendingOf D).size-1) λx=>(x.1,x.2.1,pw))) lo:=by
    intro D pw I3;refine ⟨I3.ki,I3.fa,I3.pm,?_⟩;show Runs b (arrOf D) 0 ((pendingOf D).modify ((pendingOf D).size-1) λx=>(x.1,x.2.1,pw)).toList lo;rw [Array.toList_modify];exact I3.ru.pow _ _ λx=>⟨rfl,rfl⟩
   split
   ·rename_i ad;refine Yad (wpS_lift (Ydf ⟨rfl,?_⟩));have s2:(arrOf F).size=size:=Y.size.trans hsz;refine Yad (YY W L Y.ki (G.perm Y.pm) (by lia) n1 (by lia) n3 λD ab r3=>?_);have I3:SI b kd st D lo:=⟨ab.kd.trans Y.ki,ab.fa.trans Y.fa,ab.pm.trans Y.pm,by rw [ab.pe];exact Y.ru.keep λi _ hi=>ab.lw i hi⟩;rw [show (!true)=false from rfl,if_neg Yal];have hN:1<=min (size-lo) U/\lo+min (size-lo) U<=size:=by lia
    clear ad;generalize min (size-lo) U=N at r3 hN;refine Yad (wpS_get ?_);cases hbk:(pendingOf D).back? with
    | none=>exact Yad (Ycm (Yag ⟨_,rfl,by lia,by lia,O D _ I3 (by lia) r3⟩))
    | some x=>
     obtain ⟨s1,n1,ae⟩:=x;dsimp only;refine Yad (wpS_mono (Q:=λr B=>r=(none,())/\SI b kd st B lo/\∀i,lo<=i->(arrOf B)[i]?=(arrOf D)[i]?) (Ycd (λ_ r B=>r=(none,())/\SI b kd st B lo/\∀i,lo<=i->(arrOf B)[i]?=(arrOf D)[i]?) ?_ (λ_ _ z=>z) ⟨rfl,I3,λ_ _=>rfl⟩) ?_)
     ·rintro k' r B _ af ⟨rfl,I4,same⟩;refine Yad (wpS_get ?_);by_cases hz:(pendingOf B).size > 1
      ·obtain ⟨⟨z1,z2,z3⟩,pz⟩:∃x,(pendingOf B)[(pendingOf B).size-2]?=some x:=⟨_,Ybh (by lia)⟩;rw [if_pos hz,pz];dsimp only;split
       ·exact Yag ⟨rfl,I4,same⟩
       ·refine Yad (I4.merge W L G (by lia) (by lia) λag I5 _ aa=>?_);rw [show (!true)=false from rfl,if_neg Yal];exact Yag ⟨rfl,I5,λi hi=>(aa i hi).trans (same i hi)⟩
      ·rw [if_neg hz];exact Yag ⟨rfl,I4,same⟩
     ·rintro r B ⟨rfl,I4,same⟩;dsimp only;refine Yad (Ycm (Yad (Ycm (Yag ⟨_,rfl,by lia,by lia,?_⟩))));refine O _ _ (pow B _ I4) (by lia) λi j x y i1 i2 i3 e1 e2=>?_;have e1:(arrOf B)[i]?=some x:=e1;have e2:(arrOf B)[j]?=some y:=e2;rw [same i i1] at e1;rw [same j (by lia)] at e2;exact r3 i j x y i1 i2 i3 e1 e2
   ·have hN:1<=n/\lo+n<=size:=by lia
    refine Yad (wpS_get ?_);cases hbk:(pendingOf F).back? with
    | none=>exact Yad (Ycm (Yag ⟨_,rfl,by lia,by lia,O F _ Y (by lia) n3⟩))
    | some x=>
     obtain ⟨s1,n1,ae⟩:=x;dsimp only;refine Yad (wpS_mono (Q:=λr B=>r=(none,())/\SI b kd st B lo/\∀i,lo<=i->(arrOf B)[i]?=(arrOf F)[i]?) (Ycd (λ_ r B=>r=(none,())/\SI b kd st B lo/\∀i,lo<=i->(arrOf B)[i]?=(arrOf F)[i]?) ?_ (λ_ _ z=>z) ⟨rfl,Y,λ_ _=>rfl⟩) ?_)
     ·rintro k' r B _ af ⟨rfl,I4,same⟩;refine Yad (wpS_get ?_);by_cases hz:(pendingOf B).size > 1
      ·obtain ⟨⟨z1,z2,z3⟩,pz⟩:∃x,(pendingOf B)[(pendingOf B).size-2]?=some x:=⟨_,Ybh (by lia)⟩;rw [if_pos hz,pz];dsimp only;split
       ·exact Yag ⟨rfl,I4,same⟩
       ·refine Yad (I4.merge W L G (by lia) (by lia) λag I5 _ aa=>?_);rw [show (!true)=false from rfl,if_neg Yal];exact Yag ⟨rfl,I5,λi hi=>(aa i hi).trans (same i hi)⟩
      ·rw [if_neg hz];exact Yag ⟨rfl,I4,same⟩
     ·rintro r B ⟨rfl,I4,same⟩;dsimp only;refine Yad (Ycm (Yad (Ycm (Yag ⟨_,rfl,by lia,by lia,?_⟩))));refine O _ _ (pow B _ I4) (by lia) λi j x y i1 i2 i3 e1 e2=>?_;have e1:(arrOf B)[i]?=some x:=e1;have e2:(arrOf B)[j]?=some y:=e2;rw [same i i1] at e1;rw [same j (by lia)] at e2;exact n3 i j x y i1 i2 i3 e1 e2
 ·rintro r Z ⟨lo,rfl,k1,k2,I⟩;have:lo=size:=by simp at k1;lia
  subst this;exact ⟨rfl,I⟩
 ·rintro r Z ⟨rfl,I⟩;dsimp only;refine Yad (wpS_mono (Q:=λr F=>r=(none,())/\SI b kd st F size/\(pendingOf F).size<=1) (Ycd (λk r F=>r=(none,())/\SI b kd st F size/\(pendingOf F).size+k<=size+1) ?_ ?_ ⟨rfl,I,?_⟩) ?_)
  ·rintro k r F _ hk ⟨rfl,Y,hz⟩;refine Yad (wpS_get ?_);split
   ·rename_i h1;exact Yag ⟨rfl,Y,h1⟩
   ·rename_i h1;generalize hi:(if Option.any _ _=true then (pendingOf F).size-2-1 else (pendingOf F).size-2)=i;have ai:i+1<(pendingOf F).size:=by
     rw [<-hi];have key:∀(c:Prop)[Decidable c](m:Nat),(if c then m-1 else m)<=m:=λc _ m=>by split <;> lia
     refine Nat.lt_of_le_of_lt (Nat.succ_le_succ (key _ ((pendingOf F).size-2))) ?_
     lia
    refine Yad (Y.merge W L G (by lia) ai λD I3 h3 _=>?_);rw [show (!true)=false from rfl,if_neg Yal];exact Yag ⟨rfl,I3,by lia⟩
  ·rintro r F ⟨rfl,Y,hz⟩;exact ⟨rfl,Y,by simp at hz;lia⟩
  ·have:=I.ru.le;rw [Yam] at this
   lia
  ·rintro r F ⟨rfl,Y,h1⟩;refine Yag (q F Y.pm Y.fa ?_);exact Y.ru.one W (by rw [Yam];exact h1)
end
section
variable {prog:Program}{w:World}{A:Around}{E:EX}{s:Shared}{kd:SortKind}{b:Keyed->Keyed->Bool}{good:Keyed->Prop}
noncomputable def Od (s:Shared)(a:Addr)(vs:List Value):Shared:={ s with heap:=((s.heap.update a (Obj.mapSeq λ_=>#[])).push (seqObj "tuple" vs.toArray 0)).push (seqObj "list" #[] 0) }
theorem Zak (W:WO b){arr:Array Keyed}(h:arr.size<2):Rng b arr 0 arr.size:=λi j x y i1 i2 D B q=>by
 have:i=j:=by lia
 subst this;rw [B] at q;cases q;exact W.le_refl _
theorem O4 {a:Addr}{vs:List Value}{n:Nat}{P:PySem.Fin->Shared->Prop}(W:WO b)(ha:s.heap.get? a=some (seqObj "list" vs.toArray n))(Z:vs.length<=sizeLine)(hg:∀v∈vs,good (v,v))(hk:2<=vs.length->∀{E':EX}{R:SortKind->Shared->Prop},R kd (Od s a vs)->wpAny (model prog w) A (keyKind' vs.toArray) R E' (Od s a vs))(L:Uw (model prog w) A E (Od s a vs) kd b good)(q:∀out:Array Keyed,out.Perm (pairsOf vs)->Rng b out 0 vs.length->P (.done (.ret .none)) { s with heap:=sortedHeap s.heap a vs (out.map (·.2)) }) :
  wpAny (model prog w) A (Builtin.«list.sort» { pos:=[.ref a] }) P E s:=by
 rw [list_sort_plain];refine Yaa (listItems_at ha rfl ?_);refine Yaa (listUpdate_at ha rfl ?_ (by rw [Yau];exact Z) (Yav _));have D:=get?_update_seq ha (λ_=>#[]);generalize (if ((#[]:Array Value).size == vs.toArray.size)=true then n else n+1)=n1 at D;refine Yaa (seqEpoch_at D rfl ?_);refine Yaa (wpAny_newTuple ?_ Z);refine Yaa (wpAny_newList ?_ (Yav _));refine Yce ?_;have B:(Od s a vs).heap.get? a=some (seqObj "list" #[] n1):=Yaj _ (Yaj _ D);show wpAny (model prog w) A _ P E (Od s a vs);have G:(pairsOf vs).size=vs.length:=pairsOf_size vs;dsimp only [Yau];split
 ·rename_i h2;have h2:vs.length<2:=by simpa using h2
  refine Yaa (Yac ?_);refine Yaa (Ybx (Q:=λr s'=>s'=Od s a vs/\failedOf r.2=none/\(arrOf r.2).Perm (pairsOf vs)/\Rng b (arrOf r.2) 0 vs.length) (Yac ⟨rfl,rfl,.refl _,?_⟩) ?_ (λ_ _ z=>z))
  ·have:=Zak W (arr:=pairsOf vs) (by lia);rw [G] at this;exact this
  ·rintro ⟨_,st⟩ s' ⟨rfl,F,N,U⟩;dsimp only;refine Yaa (seqEpoch_at B rfl ?_);have F:failedOf st=none:=F;have Y:((arrOf st).map (·.2)).size<=sizeLine+1:=by
    have this:(arrOf st).size=(pairsOf vs).size:=N.size_eq;rw [pairsOf_size] at this;rw [Array.size_map]
    lia
   refine Yaa (listUpdate_at B rfl ?_ (Yav _) Y);have:(n1 != n1)=false:=by simp
   rw [this,F];exact Yac (q (arrOf st) N U)
 ·rename_i h2;have h2:¬ vs.length<2:=by simpa using h2
  refine Yaa (hk (by lia) ?_);refine Yaa (Ybx (Q:=λr s'=>s'=Od s a vs/\failedOf r.2=none/\(arrOf r.2).Perm (pairsOf vs)/\Rng b (arrOf r.2) 0 vs.length) ?_ ?_ (λ_ _ z=>z))
  ·refine Ux (st:=SortSt.mk' kd (vs.toArray.zip vs.toArray) #[] 7 none) (Q:=λ_ st=>failedOf st=none/\(arrOf st).Perm (pairsOf vs)/\Rng b (arrOf st) 0 vs.length) W L rfl rfl rfl (λx O=>?_) λaa k1 k2 k3=>⟨k2,k1,?_⟩
   ·have O:x∈(pairsOf vs).toList:=O;rw [pairsOf_toList] at O;obtain ⟨e,hm⟩:=mem_zip_self O;obtain ⟨x1,x2⟩:=x;have e:x1=x2:=e;subst e;exact hg _ hm
   ·have e:(arrOf (SortSt.mk' kd (vs.toArray.zip vs.toArray) #[] 7 none)).size=vs.length:=G;rw [e] at k3;exact k3
  ·rintro ⟨_,st⟩ s' ⟨rfl,F,N,U⟩;dsimp only;refine Yaa (seqEpoch_at B rfl ?_);have F:failedOf st=none:=F;have Y:((arrOf st).map (·.2)).size<=sizeLine+1:=by
    have this:(arrOf st).size=(pairsOf vs).size:=N.size_eq;rw [pairsOf_size] at this;rw [Array.size_map]
    lia
   refine Yaa (listUpdate_at B rfl ?_ (Yav _) Y);have:(n1 != n1)=false:=by simp
   rw [this,F];exact Yac (q (arrOf st) N U)
theorem JZ {h:Heap}{a c:Addr}{o:Obj}{f:Obj->Obj}(q:c≠a)(e:h.get? c=some o):(h.update a f).get? c=some o:=(Heap.get?_update_ne h c a f q).trans e
theorem YZ {l:Addr}{vs:List Value}{Q:EX}(W:WO b)(G:s.heap.IsList l vs.toArray)(D:vs.length<=sizeLine)(N:∀v∈vs,good (v,v))(O:∀h':Heap,(∀c o,s.heap.get? c=some o->h'.get? c=some o)->2<=vs.length->∀{U:EX}{R:SortKind->Shared->Prop},R kd { s with heap:=h' }->wpAny (model prog w) A.in1.in1 (keyKind' vs.toArray) R U { s with heap:=h' })(L:∀h':Heap,(∀c o,s.heap.get? c=some o->h'.get? c=some o)->Uw (model prog w) A.in1.in1 E { s with heap:=h' } kd b good)(q:∀out:Array Keyed,out.Perm (pairsOf vs)->Rng b out 0 vs.length->Q (.ref (s.heap.objs.size+1)) { s with heap:=sortedAll s.heap vs (out.map (·.2)) }) :
  wpAny (model prog w) A (call (.builtin "sorted") [.ref l]) Q E s:=by
 refine Calls.call_function_entry kind_sorted plain_sorted entry_sorted (args_sorted1 _) ?_;unfold Builtin.sorted;refine Yaa (Yac ?_);refine Yaa (collect_list G ?_ D);refine Yaa (wpAny_newList ?_ D);refine Yaa (Yce ?_);generalize hh1:(s.heap.push (seqObj "list" #[] 0)).update s.heap.objs.size (Obj.mapSeq λx=>x++vs.toArray)=h1;have B:h1.objs.size=s.heap.objs.size+1:=by rw [<-hh1,Heap.size_update,Ydj]
 have Y:∀c o,s.heap.get? c=some o->h1.get? c=some o:=λc o e=>by
  rw [<-hh1];exact JZ (Yao (Yah e)) (Yaj _ e)
 generalize hh2:h1.push { cls:=Value.type "list", data:=Data.seq vs.toArray }=h2;have ha:h2.get? h1.objs.size=some (seqObj "list" vs.toArray 0):=by rw [<-hh2];exact Ybd _ rfl
 have Z:∀c o,s.heap.get? c=some o->h2.get? c=some o:=λc o e=>by
  rw [<-hh2];exact Yaj _ (Y c o e)
 have F:∀c o,s.heap.get? c=some o->(Od { s with heap:=h2 } h1.objs.size vs).heap.get? c=some o:=λc o e=>by
  unfold Od;refine Yaj _ (Yaj _ (JZ ?_ (Z c o e)));have:=Yah e;rw [B];exact Yao (Ydo this)
 refine Ycc (s:={ s with heap:=h2 }) slot_list_sort ⟨_,ha,rfl⟩ entry_list_sort ?_ (args_list_sort _);refine O4 (s:={ s with heap:=h2 }) W ha D N (λh=>O _ F h) (L _ F) λout p r=>⟨.none,rfl,Yac ⟨_,rfl,?_⟩⟩;have e:({ s with heap:=sortedHeap h2 h1.objs.size vs (out.map (·.2)) }:Shared)={ s with heap:=sortedAll s.heap vs (out.map (·.2)) }:=by
  unfold sortedAll;rw [B,<-hh2,<-hh1]
 show Q (.ref h1.objs.size) { s with heap:=sortedHeap h2 h1.objs.size vs (out.map (·.2)) };rw [e,B];exact q out p r
end
section
variable {X:Cx}(K:W.Frag)
theorem ZcY {tg:Expr}{l:Expr}{tl:TE}(q:PE X l tl)(h:X.K=K:=by rfl):PI X tg l (Zf1 K tl):=h▸ZdB q
end
theorem Yl {K:W.Frag}{a D:Addr}{xs:List V}{g:TG}{tc:TT}{te:TE}{B:St}{R:Hp->Prop}{H1:Hp}(q:Nat->List V->Hp->Prop)(h0:q 0 [] (upd H1 D (.lst [])))(F:∀i ys H,i<=xs.length->q i ys H->SqT K H a xs)(O:∀i x ys H,xs[i]?=some x->q i ys H->g x B H λG U=>OB B G/\tc G U λb L=>if b=true then te G L λy N=>N D=some (.lst ys)/\ys.length<sizeLine/\q (i+1) (ys++[y]) (upd N D (.lst (ys++[y]))) else q (i+1) ys L)(Y:∀ys H,q xs.length ys H->R H):XT (Itt K a) D g tc te B R H1:=Vw q h0 (λi s H hi p=>⟨λz=>⟨xs,xs[i],F i s H hi p,by simp [z]⟩,λe=>⟨xs,F i s H hi p,by lia⟩⟩) (λi s H x H' z p y=>by obtain ⟨rfl,y⟩:=y;exact O i x s _ (y xs (F i s _ (Ybw z) p)) p) Y
section
variable {X:Cx}
theorem ZgU (K:W.Frag)(hc:X.calm=true)(h:X.K=K:=by rfl):JD X (.builtin "max") (λxs H Q=>∃(p:Addr)(ns:List Int),xs=[.ref p]/\SqL K H p (ns.map V.int)/\ns≠[]/\∀m,m∈ns->(∀n∈ns,n<=m)->Q (.int m) H):=by
 subst h;intro qQ s σ H xs us Q I rv h;obtain ⟨p,ns,rfl,hq,O,q⟩:=h;obtain ⟨u,rfl,U⟩:=rv.one;cases U;obtain ⟨B,r,Y,hz⟩:=I.list hq;have hh:X.A.in1.handled=none:=I.ok.hd hc;have hl:=r.length;rw [Yab] at hl;have hpos:0<ns.length:=List.length_pos_iff.mpr O;obtain ⟨o,eo,_⟩:=id Y.isList;have G:p<s.heap.objs.size:=Yah eo;have D:∀(i:Nat)(v:Value),B.toArray[i]?=some v->∃t,v=Value.int (ns.getD i 0) t:=λi v Z=>by
  have F:B[i]?=some v:=by simpa using Z
  have hi:i<B.length:=(Yay.mp F).1;have ex:(ns.map V.int)[i]?=some (.int (ns[i]'(by lia))):=by rw [Yaw,Yax (by lia)];rfl
  obtain ⟨u,gu,U⟩:=r.get ex;rw [gu] at F;cases F;obtain ⟨t,rfl⟩:=U;exact ⟨t,by rw [Yat,Yax (by lia)];rfl⟩
 refine call_max_walk (wpAny_pyIter_list Y.isList ?_);refine ⟨s.heap.objs.size,_,_,_,_,_,_,rfl,Walks.list hh s.heap.objs.size p (Yao G) B.toArray,⟨⟨_,Ybd _ rfl,rfl,rfl⟩,Y.isList.at λo e=>Yaj _ e⟩,?_,by rw [Yau];lia,CmpOf.ints_gt (λi=>ns.getD i 0) D,λv h' tk Z hk=>?_⟩
 ·intro b hb;have e:b=s.heap.objs.size\/b=p:=by simpa using hb
  have L:(s.heap.push { cls:=.type "list_iterator", data:=.fields #[.ref p,.int 0 0] }).objs.size=s.heap.objs.size+1:=Ydj ..;show b<(s.heap.push { cls:=.type "list_iterator", data:=.fields #[.ref p,.int 0 0] }).objs.size;rw [L];rcases e with e | e
  ·rw [e];exact Nat.lt_succ_self _
  ·rw [e];exact Ydo G
 ·obtain ⟨t,rfl⟩:=D _ v Z;have hA:=argBest_gt (λi=>ns.getD i 0) (B.toArray.size-1);have L:B.toArray.size=ns.length:=by rw [Yau];exact hl.symm
  generalize hg:argBest (λi j=>decide (ns.getD i 0 > ns.getD j 0)) (B.toArray.size-1)=g at hA ⊢;have N:g<ns.length:=by lia
  have eg:ns.getD g 0=ns[g]:=by rw [Yat,Yax N];rfl
  refine ⟨.int (ns.getD g 0),H,I.kept λb o e'=>hk b o ?_ (Yaj _ e'),⟨t,rfl⟩,q _ (by rw [eg];exact Ycq N) λn hn=>?_⟩
  ·intro z;have:b=s.heap.objs.size:=by simpa using z
   exact absurd (Yah e') (by rw [this];exact Yca _)
  ·obtain ⟨j,hj,rfl⟩:=Ydd hn;have:=hA.2 j (by lia);have ej:ns.getD j 0=ns[j]:=by rw [Yat,Yax hj];rfl
   rw [<-ej];exact this
end
end L2
namespace L2
open PySem PySem.Spec PyProof.Rows
section
variable {prog:Program}{w:World}{A:Around}{E:EX}{s:Shared}
theorem lt_int {x y:Int}{t u:Tok}{Q:EX}(h:Q (.bool (decide (x<y))) s):wpAny (model prog w) A (richCompare .Lt (.int x t) (.int y u)) Q E s:=
 CmpOf.ints_lt (P:=λi v=>∃t,v=.int (if i=0 then x else y) t) (λi=>if i=0 then x else y) (λ_ _ p=>p) 0 1 _ _ s Q E ⟨t,rfl⟩ ⟨u,rfl⟩ h
end
noncomputable def Ot:List Int->List Int->Bool
 | [],[]=>false
 | [],_::_=>true
 | _::_,[]=>false
 | x::xs,y::ys=>if x=y then Ot xs ys else decide (x<y)
section
variable {prog:Program}{w:World}{A:Around}{E:EX}{s:Shared}
theorem Ym {its:List Value}{ns:List Int}(h:IntsAre its ns):its.length=ns.length:=by
 induction h with
 | nil=>rfl
 | cons n t h ih=>simp [ih]
end
end L2
namespace L2
open PySem PySem.Spec PyProof.Rows Classical
theorem V0:∀xs:List Int,Ot xs xs=false
 | []=>rfl
 | x::xs=>by
  unfold Ot;rw [if_pos rfl];exact V0 xs
theorem Zal:∀{xs ys zs:List Int},Ot xs ys=true->Ot ys zs=true->Ot xs zs=true
 | [],[],_,h,_=>by simp [Ot] at h
 | [],_::_,[],_,h=>by simp [Ot] at h
 | [],_::_,_::_,_,_=>rfl
 | _::_,[],_,h,_=>by simp [Ot] at h
 | _::_,_::_,[],_,h=>by simp [Ot] at h
 | x::xs,y::ys,z::zs,h1,h2=>by
  unfold Ot at h1 h2 ⊢;by_cases e1:x=y
  ·rw [if_pos e1] at h1;by_cases e2:y=z
   ·rw [if_pos e2] at h2;rw [if_pos (e1.trans e2)];exact Zal h1 h2
   ·rw [if_neg e2] at h2;rw [if_neg (by rw [e1];exact e2),e1];exact h2
  ·rw [if_neg e1] at h1;have h1:=Ybp h1;by_cases e2:y=z
   ·rw [if_neg (by rw [<-e2];exact e1),<-e2];exact Yae h1
   ·rw [if_neg e2] at h2;have h2:=Ybp h2;rw [if_neg (by lia)];exact Yae (by lia)
theorem Yn:∀{xs ys:List Int},Ot xs ys=false->Ot ys xs=false->xs=ys
 | [],[],_,_=>rfl
 | [],_::_,h,_=>by simp [Ot] at h
 | _::_,[],_,h=>by simp [Ot] at h
 | x::xs,y::ys,h1,h2=>by
  unfold Ot at h1 h2;by_cases e:x=y
  ·rw [if_pos e] at h1;rw [if_pos e.symm] at h2;rw [e,Yn h1 h2]
  ·rw [if_neg e] at h1;rw [if_neg (Ne.symm e)] at h2;have h1:=of_decide_eq_false h1;have h2:=of_decide_eq_false h2
   lia
theorem Zd6 {α:Type}{κ:Keyed->α}{lt:α->α->Bool}(q:∀a,lt a a=false)(D:∀{a b c},lt a b=true->lt b c=true->lt a c=true)(B:∀{a b},lt a b=false->lt b a=false->a=b):WO (λx y=>lt (κ x) (κ y)):=by
 refine ⟨λx=>q _,λx y z=>D,λx y z h=>?_⟩;cases h1:lt (κ x) (κ y) with
 | true=>exact .inl rfl
 | false=>
  cases h2:lt (κ y) (κ x) with
  | true=>exact .inr (D h2 h)
  | false=>
   rw [<-B h1 h2];exact .inr h
theorem WH {α β:Type}{f:α->β}:∀{l:List β}{zs:List α},l.Perm (zs.map f)->∃q:List α,q.Perm zs/\q.map f=l:=by
 intro l zs h;generalize hm:zs.map f=m at h
 induction h generalizing zs with
 | nil=>exact ⟨zs,.refl _,by rw [hm]⟩
 | @cons x l1 l2 _ ih=>
  cases zs with
  | nil=>simp at hm
  | cons z zs=>
   simp at hm;obtain ⟨q,h1,h2⟩:=ih hm.2;exact ⟨z::q,h1.cons z,by rw [Ybe,h2,hm.1]⟩
 | swap x y l=>
  cases zs with
  | nil=>simp at hm
  | cons z zs=>
   cases zs with
   | nil=>simp at hm
   | cons z2 zs=>
    simp at hm;exact ⟨z2::z::zs,.swap _ _ _,by simp [hm.1,hm.2.1,hm.2.2]⟩
 | trans _ _ ih1 ih2=>
  obtain ⟨D,h1,h2⟩:=ih2 hm;obtain ⟨B,F,G⟩:=ih1 h2;exact ⟨B,F.trans h1,G⟩
theorem Ut {b:Keyed->Keyed->Bool}{out:Array Keyed}{n:Nat}(h:Rng b out 0 n)(D:out.size=n):out.toList.Pairwise (kle b):=by
 rw [List.pairwise_iff_getElem];intro i j hi q B;rw [Yam] at hi q;exact h i j _ _ (Yav _) (by lia) (by lia) (by simp [hi]) (by simp [q])
theorem Yo {vs:List Value}{out:Array Keyed}(h:out.Perm (pairsOf vs)):(out.map (·.2)).toList.Perm vs/\(∀x∈out.toList,x.1=x.2/\x.1∈vs)/\out.size=vs.length:=by
 have p:out.toList.Perm (vs.zip vs):=by
  have:=h.toList;rw [pairsOf_toList] at this;exact this
 refine ⟨?_,λx q=>mem_zip_self (p.mem_iff.mp q),by rw [h.size_eq,pairsOf_size]⟩;rw [Array.toList_map];have:=p.map (λx:Keyed=>x.2);rw [show (vs.zip vs).map (λx:Keyed=>x.2)=vs from List.map_snd_zip (Yaf _)] at this;exact this
theorem Zbt {its:List Value}{ns ms:List Int}(h:IntsAre its ns)(k:IntsAre its ms):ns=ms:=by
 induction h generalizing ms with
 | nil=>cases k;rfl
 | cons n t h ih=>cases k with
  | cons _ _ k=>rw [ih k]
end L2
namespace L2
open PySem PySem.Spec PyProof.Rows
section
variable {X:Cx}
theorem Inv.freeze {qQ:List (Addr×Obj)}{σ:St}{H:Hp}{s:Shared}{a:Addr}{kvs:List (Key×V)}(I:Inv X qQ σ H s)(e:H a=some (.dK kvs)):∃o,Inv X qQ σ (upd H a (.frz o (.dK kvs))) s:=by
 have B:ObjOk X.prog X.w H s.heap a (.dK kvs):=I.hok a _ e;obtain ⟨z,D,vs,r,o,es,ep,h1,h2⟩:=id B;refine ⟨o,?_⟩;have:=I.write (x:=a) (e:=a) (o:=.frz o (.dK kvs)) (h':=s.heap) (t':=s.toks) (by rw [e];exact True.intro) (.inl rfl) (λb u _ q=>q) ⟨_,h1⟩ ⟨h1,B⟩;exact this
noncomputable def Zd7 (q:List (TE×TE)):TE:=λσ H Q=>∀p,H p=none->ZN q σ (upd H p (.dK [])) λps H2=>H2 p=some (.dK [])/\∃kvs:List (Key×V),ps=kvs.map (λB=>(kV B.1,B.2))/\kvs.length<=15/\∀o,Q (.ref p) (upd H2 p (.frz o (.dK (UP [] kvs))))
theorem Zbu {pos:Pos}{B:List (Option Expr)}{D:List Expr}{F:List (TE×TE)}(h:PPs X pos B D F)(Y:B.all (·.isSome)=true)(Z:B.length=D.length)(h0:B≠[])(L:B.length<=15):PE X (.Dict B D pos) (Zd7 F):=by
 intro qQ s σ H Q I q;have hn:=I.hok.fresh (Yaf s.heap.objs.size);have I1:=I.laid (a:=s.heap.objs.size) (o:=.dK []) (h':=s.heap.push { cls:=.type "dict", data:=.dict #[] }) (t':=s.toks) (λ_ _ q=>Yaj _ q) (Yaf _) (X3 s.heap I.big);refine wpAny_Dict_walk (knd:=GL X.prog X.w) Y Z h0 L (thG (h qQ _ σ _ _ I1 (q _ hn)) λws s2 ps H2 O N ⟨e,kvs,ep,lk,q2⟩=>?_);subst ep;obtain ⟨rs,c,rk⟩:=Vg (P:=X.prog) (w:=X.w) N;obtain ⟨z,hd,aa,r0,dd⟩:=ZdS O.hok e;cases r0;refine ⟨rs,c,dd,λh' G hs=>?_⟩;have hz:(UP [] kvs).length<=sizeLine:=by
  have h1:=OU kvs [];rw [List.length_nil] at h1;rw [Ybf];lia
 have he:∃q,h'.get? s.heap.objs.size=some q:=let ⟨q,_,_,hq,_⟩:=G;⟨q,hq⟩;have I3:=Xi (t':=s2.toks+ws.length) O (by rw [e];exact True.intro) hs he (Zb6 hz hd (rk.merge .nil) G);obtain ⟨o,U⟩:=I3.freeze Gb;rw [Ud] at U;exact ⟨.ref s.heap.objs.size,_,U,rfl,q2 o⟩
noncomputable def ItD (a:Addr)(o:Obj)(kvs:List (Key×V)):It:=
 ⟨λi H=>H a=some (.frz o (.dK kvs))/\i<kvs.length,λi H x H'=>H'=H/\∃k v,kvs[i]?=some (k,v)/\x=kV k,λi H=>H a=some (.frz o (.dK kvs))/\kvs.length<=i⟩
theorem Zch:∀{kvs:List (Key×V)}{vs:List (Key×Value)}{i:Nat}{k:Key}{v:V},KV kvs vs->kvs[i]?=some (k,v)->∃u,vs[i]?=some (k,u)
 | _,_,i,k,v,.nil,e=>by simp at e
 | p::ps,q::qs,0,k,v,.cons r t,e=>by
  simp at e;subst e;obtain ⟨q1,q2⟩:=q;have:k=q1:=r.1;subst this;exact ⟨q2,rfl⟩
 | p::ps,q::qs,i+1,k,v,.cons _ t,e=>by
  obtain ⟨u,h⟩:=Zch (i:=i) t (by simpa using e);exact ⟨u,by simpa using h⟩
theorem Zd8 {P:Program}{w:World}{k:Key}{u:Value}(h:(GL P w).is k u=true):RelV (kV k) u:=by
 rcases GW (show WZ k u=true from h) with ⟨i,t,rfl,rfl⟩ | ⟨x,t,rfl,rfl⟩
 ·exact ⟨t,rfl⟩
 ·exact ⟨t,rfl⟩
theorem Xx {qQ:List (Addr×Obj)}{σ:St}{H:Hp}{s:Shared}{a:Addr}{o:Obj}{kvs:List (Key×V)}{es:Array DictEntry}{ep:Nat}(I:Inv X qQ σ H s)(e:H a=some (.frz o (.dK kvs)))(q:o.data=.dict es ep) :
  ∃vs,KV kvs vs/\s.heap.DictAt (GL X.prog X.w) a vs ep:=by
 obtain ⟨h1,z,U,vs,r,o',D,F,h2,G,B,L,N,O⟩:=(show ObjOk X.prog X.w H s.heap a (.frz o (.dK kvs)) from I.hok a _ e);rw [h1] at h2;cases h2;rw [q] at B;cases B;exact ⟨vs,r,o,es,h1,G,q,L,N,O⟩
theorem Zam {P:Program}{w:World}{K:W.Frag}{tg:Expr}(a it:Addr)(o:Obj)(kvs:List (Key×V))(es:Array DictEntry)(ep:Nat)(ho:o.data=.dict es ep) :
  ZbW P w K tg (ItD a o kvs) [it] it (λi h=>h.IsKeyIter it a i kvs.length ep) where
 mem:=by simp
 obj:=λi h st b hb=>by
  have e:b=it:=by simpa using hb
  subst e;obtain ⟨o,e,c,d⟩:=st;exact ⟨o,e,λv z=>by rw [d] at z;cases z⟩
 keep:=λi h h' st k=>by
  obtain ⟨o,e,c,d⟩:=st;exact ⟨o,k it (by simp) o e,c,d⟩
 item:=by
  intro X hP hw hK hc i qQ s σ H E I hf st hg;subst hP hw hK;obtain ⟨hq,hi⟩:=hg;obtain ⟨vs,r,da⟩:=Xx I hq ho;have qV:kvs.length=vs.length:=Ybu r;obtain ⟨⟨k,v⟩,hx⟩:∃x,kvs[i]?=some x:=⟨_,Yax hi⟩;obtain ⟨u,hu⟩:=Zch r hx;obtain ⟨f0,f1,f2,f3,f4,f5⟩:=hf it (by simp);refine wpAny_pyNext_dict_item (knd:=GL X.prog X.w) (kvs:=vs) (by rw [<-qV];exact st) da hu λkey h' hk st' sb=>?_;have I1:Inv X qQ σ H { s with heap:=h' }:=I.turned (t':=s.toks) (λb o hb e=>(sb.2 b hb).trans e) f0 f1 f3 f4 f5;obtain ⟨o',e,c,d⟩:=id st';exact ⟨key,rfl,Zk (s:={ s with heap:=h' }) e c d (by decide) ⟨kV k,H,I1,Zd8 hk,⟨rfl,k,v,hx,rfl⟩,by rw [qV];exact st',λb hb=>(hf b hb).1⟩⟩
 done:=by
  intro X hP hw hK hc i qQ s σ H E I hf st hg;subst hP hw hK;obtain ⟨hq,hi⟩:=hg;obtain ⟨vs,r,da⟩:=Xx I hq ho;have qV:kvs.length=vs.length:=Ybu r;obtain ⟨f0,f1,f2,f3,f4,f5⟩:=hf it (by simp);exact wpAny_pyNext_dict_end (knd:=GL X.prog X.w) (I.ok.hd hc) (by rw [<-qV];exact st) da (List.getElem?_eq_none_iff.mpr (by lia)) λh' eb=>⟨rfl,I.turned (t':=s.toks) (λb o hb e=>eb b o hb e) f0 f1 f3 f4 f5⟩
 self:=λ_ _ _ _ _ st h=>wpAny_pyIter_keyiter st h
noncomputable def Zd9 (tl:TE):TI:=λσ H R=>tl σ H λx H1=>∃a o kvs,x=.ref a/\H1 a=some (.frz o (.dK kvs))/\R (ItD a o kvs) H1
theorem Zbv {tg l:Expr}{tl:TE}(L:PE X l tl):PI X tg l (Zd9 tl):=by
 intro qQ s σ H R I h;refine thG (L qQ s σ H _ I h) λv B x H1 D N O=>?_;obtain ⟨a,o,kvs,e,F,q⟩:=O;subst e;cases N;obtain ⟨h1,z,U,Y,r0,o',es,ep,h2,h3,G,h5⟩:=(show ObjOk X.prog X.w H1 B.heap a (.frz o (.dK kvs)) from D.hok a _ F);rw [h1] at h2;cases h2;obtain ⟨vs,r,Z⟩:=Xx D F G;have qV:kvs.length=vs.length:=Ybu r;refine wpAny_pyIter_dict (knd:=GL X.prog X.w) U Z ?_;refine ⟨B.heap.objs.size,[B.heap.objs.size],_,_,H1,rfl,D.kept (t':=B.toks) λb o e=>Yaj _ e,Zam a _ o kvs es ep G,⟨_,Ybd _ rfl,rfl,by rw [qV];rfl⟩,λb hb=>?_,q⟩;have e:b=B.heap.objs.size:=by simpa using hb
 subst e;exact D.fpOk (Yaf _) (D.hok.fresh (Yaf _))
theorem Y0 {a D:Addr}{o:Obj}{kvs:List (Key×V)}{g:TG}{tc:TT}{te:TE}{G:St}{R:Hp->Prop}{H1:Hp}(B:Nat->List V->Hp->Prop)(h0:B 0 [] (upd H1 D (.lst [])))(U:∀i ys H,i<=kvs.length->B i ys H->H a=some (.frz o (.dK kvs)))(Y:∀i k v ys H,kvs[i]?=some (k,v)->B i ys H->g (kV k) G H λL Z=>OB G L/\tc L Z λb N=>if b=true then te L N λy O=>O D=some (.lst ys)/\ys.length<sizeLine/\B (i+1) (ys++[y]) (upd O D (.lst (ys++[y]))) else B (i+1) ys N)(hd:∀ys H,B kvs.length ys H->R H):∃W:Nat->Nat->List V->Hp->Prop,(∃m,W 0 m [] (upd H1 D (.lst [])))/\J7 (ItD a o kvs) D g tc te G W R:=by
 refine ⟨λi m ys H=>m=kvs.length-i/\i<=kvs.length/\B i ys H,⟨_,rfl,Yav _,h0⟩,?_⟩;rintro i m ys H ⟨rfl,hi,p⟩;have q:=U i ys H hi p;by_cases F:i<kvs.length
 ·refine .inr ⟨⟨q,F⟩,B (i+1),λaa H' p'=>⟨kvs.length-(i+1),by lia,rfl,F,p'⟩,λx H' y=>?_⟩;obtain ⟨e,k,v,ek,rfl⟩:=y;subst e;exact Y i k v ys _ ek p
 ·have e:i=kvs.length:=by lia
  subst e;exact .inl ⟨⟨q,Yaf _⟩,hd ys H p⟩
theorem ZgV {qQ:List (Addr×Obj)}{σ:St}{H:Hp}{s:Shared}{a:Addr}{kvs:List (Key×V)}{A:Around}{E:EX}{Q:Bool->Shared->Prop}(I:Inv X qQ σ H s)(e:Rd H a (.dK kvs))(q:∀s',Inv X qQ σ H s'->Q (!kvs.isEmpty) s'):wpAny (model X.prog X.w) A (truthy (.ref a)) Q E s:=by
 obtain ⟨D,B,vs,r,m⟩:=Xh I.hok e;have F:=Ur;have G:kvs.length=vs.length:=Ybu r;exact wpAny_truthy_dict B m (by lia) (by rw [U9 r];exact q _ (I.tok _))
theorem Zan {a:Expr}{ta:TE}(ha:PE X a ta)(B:∀q,isTrue a X.env q=(do let v <- q;standAt a.pos;holding [v] (truthy v))) :
  PT X a (λσ H Q=>ta σ H λx H'=>∃p kvs,x=.ref p/\Rd H' p (.dK kvs)/\Q (!kvs.isEmpty) H'):=by
 intro qQ s σ H Q I h;refine isTrue_plain (thG (ha qQ s σ H _ I h) λv O x H1 D F ⟨p,kvs,e,G,L⟩=>?_) (B _);subst e;cases F;exact ZgV D G λs' N=>⟨H1,N,L⟩
theorem Zao {prog:Program}{w:World}{A:Around}{I:Addr}{fp wr:List Addr}{n:Nat}{P:Nat->Value->Prop}{St:Nat->Heap->Prop}{J:Heap->Prop}{R:Result->Shared->Prop}(W:Walks prog w A.in1 I fp wr n P St)(D:Nat->Bool)(Y:∀(s:Shared)(i:Nat)(v:Value)(Q:Bool->Shared->Prop)(E:EX),J s.heap->P i v->(∀tk,Q (D i) { s with toks:=tk })->wpAny (model prog w) A.in1 (truthy v) Q E s)(q:∀h h':Heap,J h->(∀b o,b ∉ wr->h.get? b=some o->h'.get? b=some o)->J h') :
  ∀(k i:Nat)(s:Shared),n-i=k->i<=n->St i s.heap->J s.heap->(∀h' tk,(∀b o,b ∉ wr->s.heap.get? b=some o->h'.get? b=some o)->R (.ok (.ret (.bool (((List.range n).drop i).all D)))) { s with heap:=h',toks:=tk }) ->
  codeAny (model prog w) A (.builtin "all.loop" ⟨[.ref I],[]⟩) R s:=by
 intro k
 induction k with
 | zero=>
  intro i s Z hi st j B;have en:i=n:=by lia
  subst en;refine Ycu F.entry_all_loop ?_;rw [Ydl F.plain_all_loop _];unfold Builtin.«all.loop»;refine Yaa (W.done s _ _ st λh' tk kept=>?_);refine Yaa (Ydf ?_);have:=B h' tk kept;rw [Yer (by rw [Ycp];exact Yaf _)] at this;exact Yac this
 | succ k ih=>
  intro i s Z hi st j B;refine Ycu F.entry_all_loop ?_;rw [Ydl F.plain_all_loop _];unfold Builtin.«all.loop»;refine Yaa (W.item i s _ _ (by lia) st λv h' tk pv G kept=>?_);have O:=q _ _ j kept;refine Yaa (Yce (Y _ i v _ _ O pv λL=>Yaa (wpAny_letGo ?_)));have U:(List.range n).drop i=i::(List.range n).drop (i+1):=by
   rw [Yes (by rw [Ycp];lia),List.getElem_range]
  cases hb:D i with
  | true=>
   rw [if_pos rfl];refine Yac ⟨Yed F.plain_all_loop _,ih (i+1) _ (by lia) (by lia) G O λh2 N k2=>?_⟩;have:=B h2 N λb o nb e=>k2 b o nb (kept b o nb e);rw [U,List.all_cons,hb,Bool.true_and] at this;exact this
  | false=>
   rw [if_neg Yal];refine Yaa (Ydf ?_);have:=B h' L kept;rw [U,List.all_cons,hb,Bool.false_and] at this;exact Yac this
theorem Zfg (K:PySem.W.Frag)(hc:X.calm=true)(h:X.K=K:=by rfl):JD X (.builtin "all") (λxs H Q=>∃(p:Addr)(zs:List (Addr×List V)),xs=[.ref p]/\SqL K H p (zs.map λz=>V.ref z.1)/\(∀z∈zs,SqL K H z.1 z.2)/\Q (.bl (zs.all λz=>!z.2.isEmpty)) H):=by
 subst h;intro qQ s σ H xs us Q I rv h;obtain ⟨p,zs,rfl,hq,hz,q⟩:=h;obtain ⟨u,rfl,ru⟩:=rv.one;cases ru;obtain ⟨G,r,Z,aa⟩:=I.list hq;have hh:X.A.in1.handled=none:=I.ok.hd hc;obtain ⟨o,eo,_⟩:=id Z.isList;have ab:p<s.heap.objs.size:=Yah eo;have qV:=r.length;rw [Yab] at qV;have ge:∀(i:Nat)(v:Value),G.toArray[i]?=some v->∃z,zs[i]?=some z/\v=.ref z.1:=λi v hv=>by
  have U:G[i]?=some v:=by simpa using hv
  have hi:i<G.length:=(Yay.mp U).1;obtain ⟨z,e⟩:∃z,zs[i]?=some z:=⟨_,Yax (by lia)⟩;obtain ⟨u,hu,ru⟩:=r.get (show (zs.map λz=>V.ref z.1)[i]?=some (V.ref z.1) by rw [Yaw,e];rfl);rw [U] at hu;cases hu;exact ⟨z,e,ru⟩
 refine call_function_tree PySem.F.kind_all PySem.F.plain_all PySem.F.entry_all (PySem.F.args_all1 _) ?_;show wpAny _ _ (oneArg "all" ⟨[.ref p],[]⟩ >>= _) _ _ s;refine Yaa (Yaa (Yac (Yac ?_)));refine Yaa (wpAny_pyIter_list Z.isList ?_);refine Yac ⟨Yed F.plain_all_loop _,?_⟩;have kz:∀z∈zs,∃D:List Value,Vals z.2 D/\s.heap.IsList z.1 D.toArray/\z.2.length<=sizeLine:=λz B=>by
  obtain ⟨D,N,L,O⟩:=I.list (hz z B);exact ⟨D,N,L.isList,O⟩
 have Y:∀z∈zs,z.1<s.heap.objs.size:=λz B=>by
  obtain ⟨D,_,L,_⟩:=kz z B;obtain ⟨o,e,_⟩:=L;exact Yah e
 have W:=Walks.list (prog:=X.prog) (w:=X.w) hh s.heap.objs.size p (Yao ab) G.toArray;refine Zao (J:=λh=>∀z∈zs,∃D:List Value,Vals z.2 D/\h.IsList z.1 D.toArray/\z.2.length<=sizeLine/\z.1<s.heap.objs.size) W (λi=>match zs[i]? with | some z=>!z.2.isEmpty | none=>true) (λs' i v Q' E' j pv q'=>?_) (λh h' j k z B=>?_) G.toArray.size 0 _ rfl (Yav _)
  ⟨⟨_,Ybd _ rfl,rfl,rfl⟩,Z.isList.at λo e=>Yaj _ e⟩ (λz B=>?_) (λh' tk hk=>?_)
 ·obtain ⟨z,ez,rfl⟩:=ge i v pv;obtain ⟨D,N,L,O,_⟩:=j z (Ybb ez);rw [ez] at q';have hl:=Ur;have:=N.length;exact wpAny_truthy_list L (by simp only [Yau];lia) (by rw [Ue N];exact q' _)
 ·obtain ⟨D,N,L,O,zl⟩:=j z B;refine ⟨D,N,L.at λo e=>k _ o ?_ e,O,zl⟩;intro y;have:z.1=s.heap.objs.size:=by simpa using y
  exact absurd zl (by rw [this];exact Yca _)
 ·obtain ⟨D,N,L,O⟩:=kz z B;exact ⟨D,N,L.at λo e=>Yaj _ e,O,Y z B⟩
 ·refine ⟨.bl _,H,I.kept λb o e'=>hk b o ?_ (Yaj _ e'),?_,q⟩
  ·intro z;have:b=s.heap.objs.size:=by simpa using z
   exact absurd (Yah e') (by rw [this];exact Yca _)
  ·show Value.bool _=Value.bool _
   congr 1
   rw [Yau,<-qV,List.drop_zero];clear hk W kz Y ge qV aa Z r hq hz q
   induction zs with
   | nil=>rfl
   | cons z zs ih=>
    rw [Yck,List.range_succ_eq_map,List.all_cons,List.all_map,List.all_cons]
    congr 1
theorem Zgd (K:W.Frag)(Z:X.calm=true)(h:X.K=K:=by rfl):JD X (.builtin "any") (λxs H Q=>∃(p:Addr)(bs:List Bool),xs=[.ref p]/\SqL K H p (bs.map V.bl)/\Q (.bl (bs.any id)) H):=by
 subst h;intro qQ s σ H xs us Q I rv h;obtain ⟨p,bs,rfl,N,q⟩:=h;obtain ⟨u,rfl,ru⟩:=rv.one;cases ru;obtain ⟨D,r,F,hz⟩:=I.list N;have e:=UM r;have hh:X.A.in1.handled=none:=I.ok.hd Z;obtain ⟨o,eo,_⟩:=id F.isList;have G:p<s.heap.objs.size:=Yah eo;refine call_any_walk (wpAny_pyIter_list F.isList ?_);refine ⟨s.heap.objs.size,_,_,_,_,_,λi=>bs.getD i false,rfl,Walks.list hh s.heap.objs.size p (Yao G) D.toArray,⟨⟨_,Ybd _ rfl,rfl,rfl⟩,F.isList.at λo e=>Yaj _ e⟩,?_,λh' tk O=>?_⟩
 ·intro i v s' Q' E' hv L;have B:D[i]?=some v:=by simpa using hv
  rw [e,Yaw] at B;cases z:bs[i]? with
  | none=>rw [z] at B;cases B
  | some b=>
   rw [z] at B;cases B;have eb:bs.getD i false=b:=by rw [Yat,z];rfl
   exact Ycn (by rw [<-eb];exact L)
 ·have U:D.toArray.size=bs.length:=by rw [Yau,e,Yab]
  refine ⟨.bl _,H,I.kept λb o Y=>O b o ?_ (Yaj _ Y),?_,q⟩
  ·intro z;have:b=s.heap.objs.size:=by simpa using z
   exact absurd (Yah Y) (by rw [this];exact Yca _)
  ·show Value.bool _=Value.bool _
   congr 1
   rw [U];clear O U hz F r N e q
   induction bs with
   | nil=>rfl
   | cons b bs ih=>
    rw [Yck,List.range_succ_eq_map,List.any_cons,List.any_map,List.any_cons];show (b || _)=(b || _)
    congr 1
theorem Yp:bootBuiltins "any" = some (.builtin "any"):=by first | rfl | decide +kernel
theorem Zea (K:W.Frag)(h:X.K=K:=by rfl):Zf0 X (λx y H Q=>∃p xs i v,x=.ref p/\y=.int i/\SqL K H p xs/\0<=i/\xs[i.toNat]?=some v/\Q v H):=by
 subst h;intro qQ s σ H x y v u Q I F G h;obtain ⟨p,xs,i,z,rfl,rfl,L,h0,D,q⟩:=h;cases F;obtain ⟨t,rfl⟩:=G;obtain ⟨N,r,O,Y⟩:=I.list L;obtain ⟨w,U,B⟩:=r.get D;have Z:=r.length;have hn:=Ur;have hi:i.toNat<xs.length:=(Yay.mp D).1;exact wpAny_getItem_list O.isList h0 (by lia) (by simpa using U) ⟨z,H,I,B,q⟩
end
mutual
inductive Th (H:Hp):V->PyData->Prop
 | non:Th H .non .none
 | bl (b:Bool):Th H (.bl b) (.bool b)
 | int (i:Int):Th H (.int i) (.int i)
 | str (x:Str):Th H (.str x) (.str x)
 | lst {a:Addr} {xs:List V} {ds:List PyData}:H a=some (.lst xs)->xs.length<=1000->Ths H xs ds->Th H (.ref a) (.list ds)
 | tup {a:Addr} {xs:List V} {ds:List PyData}:H a=some (.tup xs)->xs.length<=1000->Ths H xs ds->Th H (.ref a) (.tuple ds)
inductive Ths (H:Hp):List V->List PyData->Prop
 | nil:Ths H [] []
 | cons {x:V} {d:PyData} {xs:List V} {ds:List PyData}:Th H x d->Ths H xs ds->Ths H (x::xs) (d::ds)
end
mutual
theorem Th.same {H H':Hp}(s:Same H H'):∀{v:V}{d:PyData},Th H v d->Th H' v d
 | _,_,.non=>.non
 | _,_,.bl b=>.bl b
 | _,_,.int i=>.int i
 | _,_,.str x=>.str x
 | _,_,.lst e z h=>.lst (s _ _ e) z (Ths.same s h)
 | _,_,.tup e z h=>.tup (s _ _ e) z (Ths.same s h)
theorem Ths.same {H H':Hp}(s:Same H H'):∀{vs:List V}{ds:List PyData},Ths H vs ds->Ths H' vs ds
 | _,_,.nil=>.nil
 | _,_,.cons h t=>.cons (Th.same s h) (Ths.same s t)
end
section
variable {X:Cx}{a:Expr}{ta:TE}{pos:Pos}
theorem WI (K:W.Frag)(h:X.K=K:=by rfl):JD X (.type "tuple") (λxs H Q=>∃p ys,xs=[.ref p]/\((SqL K H p ys/\∀l,H l=none->Q (.ref l) (upd H l (.tup ys)))\/(SqT K H p ys/\Q (.ref p) H))):=h▸Vv
end
section
variable {prog:Program}{w:World}{A:Around}{E:EX}{s:Shared}
theorem Zap {it d:Addr}{i ep:Nat}{es:Array DictEntry}{o:Obj}{e:DictEntry}{Q:EX}(D:s.heap.IsKeyIter it d i es.size ep)(N:s.heap.get? d=some o)(O:o.data=.dict es ep)(hi:es[i]?=some e)(q:∀h',h'.IsKeyIter it d (i+1) es.size ep->Heap.SameBut it s.heap h'->Q e.key { s with heap:=h' }):wpAny (model prog w) A (Builtin.«dict_keyiterator.__next__» ⟨[.ref it],[]⟩) (λfin s'=>∃v,fin=.done (.ret v)/\Q v s') E s:=by
 obtain ⟨⟨c0,d0,t0,Z⟩,B,F,G⟩:=id D;subst F G;have T:=D.typeIs
 wp_walk using wpAny_fieldsOf B rfl,wpAny_dictEntries N O,wpAny_dictEpoch N O,Yex T,wpAny_isOneOf_keyiter T
 rw [if_neg (by lia),Ybn,hi]
 wp_walk using Yex T,wpAny_isOneOf_keyiter T,wpAny_setField B rfl
 case hi=>exact (by decide:(0:Nat)+1<4)
 case h=>
  have L:(s.heap.update it (Obj.mapFields (·.setIfInBounds 1 (rawInt ((i:Int)+1))))).IsKeyIter it d (i+1) es.size ep:=by
   exact ⟨_,Ydi _ B rfl,rfl,rfl⟩
  have U:Heap.SameBut it s.heap (s.heap.update it (Obj.mapFields (·.setIfInBounds 1 (rawInt ((i:Int)+1))))):=Ydx ..;have Y:=L.typeIs (s:={ s with heap:=s.heap.update it (Obj.mapFields (·.setIfInBounds 1 (rawInt ((i:Int)+1)))) });show wpAny _ _ _ _ _ { s with heap:=s.heap.update it (Obj.mapFields (·.setIfInBounds 1 (rawInt ((i:Int)+1)))) };generalize s.heap.update it (Obj.mapFields (·.setIfInBounds 1 (rawInt ((i:Int)+1))))=h1 at L U Y ⊢
  wp_walk using wpAny_isOneOf_keyiter Y
  exact ⟨_,rfl,q _ L U⟩
theorem Zaq {it d:Addr}{i ep:Nat}{es:Array DictEntry}{o:Obj}{Q:EX}(U:A.handled=none)(B:s.heap.IsKeyIter it d i es.size ep)(L:s.heap.get? d=some o)(N:o.data=.dict es ep)(hi:es[i]?=none)(q:∀h' e,(∀c o,c≠it->s.heap.get? c=some o->h'.get? c=some o)->(∃o,h'.get? e=some o/\o.cls=.type "StopIteration")->E (.ref e) { s with heap:=h' }):wpAny (model prog w) A (Builtin.«dict_keyiterator.__next__» ⟨[.ref it],[]⟩) (λfin s'=>∃v,fin=.done (.ret v)/\Q v s') E s:=by
 obtain ⟨⟨Z,d0,t0,Y⟩,D,F,G⟩:=id B;subst F G;have T:=B.typeIs
 wp_walk using wpAny_fieldsOf D rfl,wpAny_dictEntries L N,wpAny_dictEpoch L N,Yex T,wpAny_isOneOf_keyiter T
 rw [if_neg (by lia),Ybn,hi]
 wp_walk using Yex T,wpAny_setField D rfl
 case hi=>exact (by decide:(0:Nat)<4)
 case h=>
  have O:Heap.SameBut it s.heap (s.heap.update it (Obj.mapFields (·.setIfInBounds 0 Value.none))):=Ydx ..;show wpAny _ _ _ _ _ { s with heap:=s.heap.update it (Obj.mapFields (·.setIfInBounds 0 Value.none)) };generalize s.heap.update it (Obj.mapFields (·.setIfInBounds 0 Value.none))=h1 at O ⊢
  wp_walk using wpAny_raiseNew_none U
  exact q _ _ (λc o n e=>Yaj _ (Yaj _ (by rw [O.2 c n];exact e))) ⟨_,Ybd _ rfl,rfl⟩
theorem Zar {it d:Addr}{i ep:Nat}{es:Array DictEntry}{o:Obj}{e:DictEntry}{Q:Option Value->Shared->Prop}(B:s.heap.IsKeyIter it d i es.size ep)(D:s.heap.get? d=some o)(G:o.data=.dict es ep)(hi:es[i]?=some e)(q:∀h',h'.IsKeyIter it d (i+1) es.size ep->Heap.SameBut it s.heap h'->Q (some e.key) { s with heap:=h' }):wpAny (model prog w) A (pyNext (.ref it)) Q E s:=by
 refine Yaa (Ydu (Yel B.typeIs Yey (Ycc Yey B.typeIs F.entry_dict_keyiterator_next (Zap B D G hi λh' k b=>?_) (F.args_dict_keyiterator_next_1 _))))
 wp_walk
 exact q h' k b
theorem Zas {it d:Addr}{i ep:Nat}{es:Array DictEntry}{o:Obj}{Q:Option Value->Shared->Prop}(D:A.in1.handled=none)(B:s.heap.IsKeyIter it d i es.size ep)(G:s.heap.get? d=some o)(L:o.data=.dict es ep)(hi:es[i]?=none)(q:∀h',(∀c o,c≠it->s.heap.get? c=some o->h'.get? c=some o)->Q none { s with heap:=h' }):wpAny (model prog w) A (pyNext (.ref it)) Q E s:=by
 refine Yaa (Ydu (Yel B.typeIs Yey (Ycc Yey B.typeIs F.entry_dict_keyiterator_next (Zaq D B G L hi ?_) (F.args_dict_keyiterator_next_1 _))));rintro h' e k ⟨o',N,O⟩;exact Yaa (Yeg ⟨o',N,O⟩ isSubtype_stop (Yac (q h' k)))
theorem Zat {d:Addr}{ep:Nat}{es:Array DictEntry}{o:Obj}{Q:EX}(L:(d == sysModules)=false)(B:s.heap.get? d=some o)(G:o.ExactDict)(D:o.data=.dict es ep)(q:∀h',h'.IsKeyIter s.heap.objs.size d 0 es.size ep->(∀c o,s.heap.get? c=some o->h'.get? c=some o)->Q (.ref s.heap.objs.size) { s with heap:=h' }):wpAny (model prog w) A (pyIter (.ref d)) Q E s:=by
 have T:s.TypeIs (.ref d) "dict" := ⟨o,B,G.1⟩;refine wpAny_pyIter_slot T F.slot_dict_iter (Ycc F.slot_dict_iter T F.entry_dict_iter ?_ (F.args_dict_iter_1 _))
 wp_walk using wpAny_notOrdered_dict T,wpAny_dictEntries B D,wpAny_dictEpoch B D
 exact ⟨_,rfl, "dict_keyiterator", _,⟨_,Ybd _ rfl,rfl⟩,F.slot_dict_keyiterator_next.lookup,q _ ⟨_,Ybd _ rfl,rfl,rfl⟩ λc o e=>Yaj _ e⟩
end
section
variable {X:Cx}
theorem Inv.freezeT {qQ:List (Addr×Obj)}{σ:St}{H:Hp}{s:Shared}{a:Addr}{kvs:List (List Key×V)}(I:Inv X qQ σ H s)(e:H a=some (.dT kvs)):∃o,Inv X qQ σ (upd H a (.frz o (.dT kvs))) s:=by
 have B:ObjOk X.prog X.w H s.heap a (.dT kvs):=I.hok a _ e;obtain ⟨z,D,xs,r,o,es,ep,h1,h2⟩:=id B;have F:∀b ys,H b=some (.tup ys)->upd H a (.frz o (.dT kvs)) b=some (.tup ys):=λb ys q=>by rw [GB (Ow q e (λz=>by cases z))];exact q
 refine ⟨o,I.write (x:=a) (e:=a) (o:=.frz o (.dT kvs)) (h':=s.heap) (t':=s.toks) (by rw [e];exact True.intro) (.inl rfl) (λb u _ q=>q) ⟨_,h1⟩ ⟨h1,z,D,xs,Paired.mapP r λp q y=>⟨y.1,F _ _ y.2.1,y.2.2⟩,o,es,ep,h1,h2⟩⟩
noncomputable def ItT (a:Addr)(o:Obj)(kvs:List (List Key×V)):It:=
 ⟨λi H=>H a=some (.frz o (.dT kvs))/\i<kvs.length,λi H x H'=>H'=H/\∃k v b,kvs[i]?=some (k,v)/\x=.ref b/\H b=some (.tup (k.map kV)),λi H=>H a=some (.frz o (.dT kvs))/\kvs.length<=i⟩
theorem Yq {α β:Type}{F:α->β->Prop}{l:List α}{m:List β}(h:Paired F l m):∀{i:Nat}{x:α},l[i]?=some x->∃y,m[i]?=some y/\F x y:=by
 induction h with
 | nil=>intro i x e;simp at e
 | @cons p q _ _ r _ ih=>
  intro i x e;cases i with
  | zero=>simp at e;subst e;exact ⟨q,by simp,r⟩
  | succ i=>simp at e;obtain ⟨y,h1,h2⟩:=ih e;exact ⟨y,by simpa using h1,h2⟩
theorem V1 {qQ:List (Addr×Obj)}{σ:St}{H:Hp}{s:Shared}{a:Addr}{o:Obj}{kvs:List (List Key×V)}(I:Inv X qQ σ H s)(e:H a=some (.frz o (.dT kvs))) :
  (a == sysModules)=false/\s.heap.get? a=some o/\o.ExactDict/\∃es ep,o.data=.dict es ep/\es.size=kvs.length/\∀(i:Nat) k v,kvs[i]?=some (k,v)->∃(q:DictEntry)(b:Addr),es[i]?=some q/\q.key=.ref b/\H b=some (.tup (k.map kV)):=by
 obtain ⟨h1,z,D,xs,r,o',es,ep,h2,F,G,B,U⟩:=(show ObjOk X.prog X.w H s.heap a (.frz o (.dT kvs)) from I.hok a _ e);rw [h1] at h2;cases h2;refine ⟨D,h1,F,es,ep,G,?_,λi k v hi=>?_⟩
 ·rw [<-Yam,B,Yab,Ybu r]
 ·obtain ⟨⟨L,b,u⟩,N,Y,O,_⟩:=Yq r hi;refine ⟨entryOfKey (tupleKind (GL X.prog X.w)) (L,b,u),b,?_,rfl,O⟩;rw [<-Yaz,B,Yaw,N]
  rfl
theorem Y1 {P:Program}{w:World}{K:W.Frag}{tg:Expr}(a it:Addr)(o:Obj)(kvs:List (List Key×V))(es:Array DictEntry)(ep:Nat)(ho:o.data=.dict es ep)(hsz:es.size=kvs.length) :
  ZbW P w K tg (ItT a o kvs) [it] it (λi h=>h.IsKeyIter it a i es.size ep) where
 mem:=by simp
 obj:=λi h st b hb=>by
  have e:b=it:=by simpa using hb
  subst e;obtain ⟨o,e,c,d⟩:=st;exact ⟨o,e,λv z=>by rw [d] at z;cases z⟩
 keep:=λi h h' st k=>by
  obtain ⟨o,e,c,d⟩:=st;exact ⟨o,k it (by simp) o e,c,d⟩
 item:=by
  intro X hP hw hK hc i qQ s σ H E I hf st hg;subst hP hw hK;obtain ⟨hq,hi⟩:=hg;obtain ⟨hd,h1,h2,es',ep',h3,h4,h5⟩:=V1 I hq;rw [ho] at h3;cases h3;obtain ⟨⟨k,v⟩,hx⟩:∃x,kvs[i]?=some x:=⟨_,Yax hi⟩;obtain ⟨de,b,hde,hkey,hb⟩:=h5 i k v hx;obtain ⟨f0,f1,f2,f3,f4,f5⟩:=hf it (by simp);refine Zar st h1 ho hde λh' st' sb=>?_;have I1:Inv X qQ σ H { s with heap:=h' }:=I.turned (t':=s.toks) (λb o hb e=>(sb.2 b hb).trans e) f0 f1 f3 f4 f5;obtain ⟨o',e,c,d⟩:=id st';exact ⟨de.key,rfl,Zk (s:={ s with heap:=h' }) e c d (by decide) ⟨.ref b,H,I1,hkey,⟨rfl,k,v,b,hx,rfl,hb⟩,st',λb hb=>(hf b hb).1⟩⟩
 done:=by
  intro X hP hw hK hc i qQ s σ H E I hf st hg;subst hP hw hK;obtain ⟨hq,hi⟩:=hg;obtain ⟨hd,h1,h2,es',ep',h3,h4,h5⟩:=V1 I hq;rw [ho] at h3;cases h3;obtain ⟨f0,f1,f2,f3,f4,f5⟩:=hf it (by simp);exact Zas (I.ok.hd hc) st h1 ho (Array.getElem?_eq_none (by lia)) λh' eb=>⟨rfl,I.turned (t':=s.toks) (λb o hb e=>eb b o hb e) f0 f1 f3 f4 f5⟩
 self:=λ_ _ _ _ _ st h=>wpAny_pyIter_keyiter st h
noncomputable def Zeb (tl:TE):TI:=λσ H R=>tl σ H λx H1=>∃a kvs,x=.ref a/\((H1 a=some (.dT kvs)/\∀o,R (ItT a o kvs) (upd H1 a (.frz o (.dT kvs))))\/∃o,H1 a=some (.frz o (.dT kvs))/\R (ItT a o kvs) H1)
theorem Yr {tg l:Expr}{tl:TE}(L:PE X l tl):PI X tg l (Zeb tl):=by
 intro qQ s σ H R I h;refine thG (L qQ s σ H _ I h) λv D x H1 F N O=>?_;obtain ⟨a,kvs,e,q⟩:=O;subst e;cases N;obtain ⟨o,H2,B,U,Y⟩:∃o H2,Inv X qQ σ H2 D/\H2 a=some (.frz o (.dT kvs))/\R (ItT a o kvs) H2:=by
  rcases q with ⟨e,q⟩ | ⟨o,e,q⟩
  ·obtain ⟨o,B⟩:=F.freezeT e;exact ⟨o,_,B,Gb,q o⟩
  ·exact ⟨o,H1,F,e,q⟩
 obtain ⟨Z,h1,h2,es,ep,G,h4,h5⟩:=V1 B U;refine Zat Z h1 h2 G λh' st kp=>?_;refine ⟨D.heap.objs.size,[D.heap.objs.size],_,_,H2,rfl,B.kept (t':=D.toks) kp,Y1 a _ o kvs es ep G h4,st,λb hb=>?_,Y⟩;have e:b=D.heap.objs.size:=by simpa using hb
 subst e;exact B.fpOk (Yaf _) (B.hok.fresh (Yaf _))
theorem Zau {a:Addr}{o:Obj}{kvs:List (List Key×V)}{g:TG}{tb:TS}{D:Ends}{σ:St}{H:Hp}(B:Nat->St->Hp->Prop)(h0:B 0 σ H)(U:∀i σ H,i<=kvs.length->B i σ H->H a=some (.frz o (.dT kvs)))(Y:∀i k v b σ H,kvs[i]?=some (k,v)->H b=some (.tup (k.map kV))->B i σ H->g (.ref b) σ H λG H2=>tb { D with nx:=B (i+1),ct:=B (i+1),bk:=D.nx } G H2)(Z:∀ σ H,B kvs.length σ H->D.nx σ H) :
  ∃W:Nat->Nat->St->Hp->Prop,(∃m,W 0 m σ H)/\∀i m σ H,W i m σ H ->
   ((ItT a o kvs).stop i H/\D.nx σ H)\/((ItT a o kvs).go i H/\∃N:St->Hp->Prop,(∀ L H',N L H'->∃O,O<m/\W (i+1) O L H')/\∀x H',(ItT a o kvs).yld i H x H'->g x σ H' λG H2=>tb { D with nx:=N,ct:=N,bk:=D.nx } G H2):=by
 refine ⟨λi m σ H=>m=kvs.length-i/\i<=kvs.length/\B i σ H,⟨_,rfl,Yav _,h0⟩,?_⟩;rintro i m σ H ⟨rfl,hi,p⟩;have q:=U i σ H hi p;by_cases F:i<kvs.length
 ·refine .inr ⟨⟨q,F⟩,B (i+1),λL H' p'=>⟨kvs.length-(i+1),by lia,rfl,F,p'⟩,λx H' y=>?_⟩;obtain ⟨e,k,v,b,ek,rfl,eb⟩:=y;subst e;exact Y i k v b σ _ ek eb p
 ·have e:i=kvs.length:=by lia
  subst e;exact .inl ⟨⟨q,Yaf _⟩,Z σ H p⟩
theorem Y2 {a D:Addr}{o:Obj}{kvs:List (List Key×V)}{g:TG}{tc:TT}{te:TE}{G:St}{R:Hp->Prop}{H1:Hp}(B:Nat->List V->Hp->Prop)(h0:B 0 [] (upd H1 D (.lst [])))(U:∀i ys H,i<=kvs.length->B i ys H->H a=some (.frz o (.dT kvs)))(Y:∀i k v b ys H,kvs[i]?=some (k,v)->H b=some (.tup (k.map kV))->B i ys H->g (.ref b) G H λL Z=>OB G L/\tc L Z λc N=>if c=true then te L N λy O=>O D=some (.lst ys)/\ys.length<sizeLine/\B (i+1) (ys++[y]) (upd O D (.lst (ys++[y]))) else B (i+1) ys N)(hd:∀ys H,B kvs.length ys H->R H):∃W:Nat->Nat->List V->Hp->Prop,(∃m,W 0 m [] (upd H1 D (.lst [])))/\J7 (ItT a o kvs) D g tc te G W R:=by
 refine ⟨λi m ys H=>m=kvs.length-i/\i<=kvs.length/\B i ys H,⟨_,rfl,Yav _,h0⟩,?_⟩;rintro i m ys H ⟨rfl,hi,p⟩;have q:=U i ys H hi p;by_cases F:i<kvs.length
 ·refine .inr ⟨⟨q,F⟩,B (i+1),λaa H' p'=>⟨kvs.length-(i+1),by lia,rfl,F,p'⟩,λx H' y=>?_⟩;obtain ⟨e,k,v,b,ek,rfl,eb⟩:=y;subst e;exact Y i k v b ys _ ek eb p
 ·have e:i=kvs.length:=by lia
  subst e;exact .inl ⟨⟨q,Yaf _⟩,hd ys H p⟩
end
noncomputable def V2 (S:Addr)(h:Heap)(it d:Addr)(i n ep:Nat):Prop:=∃(q:Value)(f1:Bool)(ok ov:Value),h.get? it=some { cls:=.type "dict_itemiterator", data:=.fields #[q,.bool f1,.ref d,.int i 0,.int n 0,.int ep 0,ok,ov] }/\(q=.none\/∃(a:Addr)(oa:Obj),q=rawInt a/\h.get? a=some oa/\a≠it/\a≠S)
section
variable {prog:Program}{w:World}{A:Around}{E:EX}{s:Shared}
theorem Y3 {S it d:Addr}{i ep:Nat}{es:Array DictEntry}{o:Obj}{e:DictEntry}{Q:EX}(st:V2 S s.heap it d i es.size ep)(ho:s.heap.get? d=some o)(hd:o.data=.dict es ep)(hi:es[i]?=some e)(hS:s.heap.objs.size≠S)(q:∀h',V2 S h' it d (i+1) es.size ep->h'.get? s.heap.objs.size=some { cls:=.type "tuple", data:=.seq #[e.key,e.val] }->h'.objs.size=s.heap.objs.size+1->(∀b o,b≠it->s.heap.get? b=some o->h'.get? b=some o)->Q (.ref s.heap.objs.size) { s with heap:=h' }) :
  wpAny (model prog w) A (Builtin.«dict_itemiterator.__next__» ⟨[.ref it],[]⟩) (λfin s'=>∃v,fin=.done (.ret v)/\Q v s') E s:=by
 obtain ⟨f0,Y,ok,Z,F,hf⟩:=st;have T:s.TypeIs (.ref it) "dict_itemiterator" := ⟨_,F,rfl⟩
 wp_walk using wpAny_fieldsOf F rfl,wpAny_dictEntries ho hd,wpAny_dictEpoch ho hd,wpAny_typeNameOfWhole_itemiter T,wpAny_isOneOf_itemiter T
 rw [if_neg (by lia),Ybn,hi]
 wp_walk using wpAny_typeNameOfWhole_itemiter T,wpAny_isOneOf_itemiter T,wpAny_setField F rfl
 case hi=>exact (by decide:(2:Nat)+1<8)
 case h=>
  have B1:Heap.SameBut it s.heap (s.heap.update it (Obj.mapFields (·.setIfInBounds 3 (rawInt ((i:Int)+1))))):=Ydx ..;have G:(s.heap.update it (Obj.mapFields (·.setIfInBounds 3 (rawInt ((i:Int)+1))))).get? it=some { cls:=.type "dict_itemiterator", data:=.fields #[f0,.bool Y,.ref d,.int ((i+1:Nat):Int) 0,.int es.size 0,.int ep 0,ok,Z] }:=Ydi _ F rfl;show wpAny _ _ _ _ _ { s with heap:=s.heap.update it (Obj.mapFields (·.setIfInBounds 3 (rawInt ((i:Int)+1)))) };generalize s.heap.update it (Obj.mapFields (·.setIfInBounds 3 (rawInt ((i:Int)+1))))=h1 at B1 G ⊢;have T1:Shared.TypeIs { s with heap:=h1 } (.ref it) "dict_itemiterator" := ⟨_,G,rfl⟩
  wp_walk using wpAny_isOneOf_itemiter T1
  have hz:h1.objs.size=s.heap.objs.size:=B1.1;have D:(h1.push { cls:=.type "tuple", data:=.seq #[e.key,e.val] }).get? it=some { cls:=.type "dict_itemiterator", data:=.fields #[f0,.bool Y,.ref d,.int ((i+1:Nat):Int) 0,.int es.size 0,.int ep 0,ok,Z] }:=Yaj _ G;have tp:(h1.push { cls:=.type "tuple", data:=.seq #[e.key,e.val] }).get? s.heap.objs.size=some { cls:=.type "tuple", data:=.seq #[e.key,e.val] }:=by rw [<-hz];exact Ybd _ rfl
  have sz:(h1.push { cls:=.type "tuple", data:=.seq #[e.key,e.val] }).objs.size=s.heap.objs.size+1:=by rw [Ydj,hz]
  have kp:∀b o,b≠it->s.heap.get? b=some o->(h1.push { cls:=.type "tuple", data:=.seq #[e.key,e.val] }).get? b=some o:=λb o n z=>Yaj _ ((B1.2 b n).trans z);have ni:s.heap.objs.size≠it:=Ydh (Yah F);rw [hz];generalize h1.push { cls:=.type "tuple", data:=.seq #[e.key,e.val] }=h2 at D tp sz kp ⊢;have fin:∀L:Heap,Heap.SameBut it h2 L->V2 S L it d (i+1) es.size ep->Q (.ref s.heap.objs.size) { s with heap:=L }:=λL B st=>q L st ((B.2 _ ni).trans tp) (B.1.trans sz) λb o n z=>(B.2 b n).trans (kp b o n z);rcases hf with rfl | ⟨a,oa,rfl,ha,N,U⟩
  ·refine Yac ?_;refine Yaa (wpAny_field D rfl (x:=ok) rfl ?_);refine Yaa (wpAny_field D rfl (x:=Z) rfl ?_);refine Yaa (wpAny_setField_rec D (by simp) λL e3 b3=>?_);refine Yaa (wpAny_setField_rec e3 (by simp) λh4 e4 b4=>?_);refine Yaa (wpAny_setField_rec e4 (by simp) λh5 e5 b5=>?_);refine Yaa (wpAny_setField_rec e5 (by simp) λh6 e6 b6=>?_);refine Yaa (wpAny_letGo ?_);have B:Heap.SameBut it h2 h6:=((b3.trans b4).trans b5).trans b6;exact Yac (Yac ⟨_,rfl,fin h6 B ⟨_,_,_,_,e6,.inr ⟨s.heap.objs.size,_,rfl,(B.2 _ ni).trans tp,ni,hS⟩⟩⟩)
  ·have O:=kp a oa N ha;refine Yaa (W.kdx_alive (by rw [Ybn];exact O) ?_);refine Yaa (wpAny_field D rfl (x:=.bool Y) rfl ?_);cases Y with
   | true=>exact Yac (Yac (Yac ⟨_,rfl,fin h2 (Heap.SameBut.refl _ _) ⟨_,_,_,_,D,.inr ⟨a,oa,rfl,O,N,U⟩⟩⟩))
   | false=>
    refine Yaa (wpAny_setField_rec D (by simp) λL e3 b3=>?_);have B:Heap.SameBut it h2 L:=b3;exact Yac (Yac (Yac ⟨_,rfl,fin L B ⟨_,_,_,_,e3,.inr ⟨a,oa,rfl,(B.2 a N).trans O,N,U⟩⟩⟩))
theorem Y4 {S it d:Addr}{i ep:Nat}{es:Array DictEntry}{o:Obj}{Q:EX}(G:A.handled=none)(st:V2 S s.heap it d i es.size ep)(D:s.heap.get? d=some o)(F:o.data=.dict es ep)(hi:es[i]?=none)(q:∀h' e,(∀c o,c≠it->s.heap.get? c=some o->h'.get? c=some o)->(∃o,h'.get? e=some o/\o.cls=.type "StopIteration")->E (.ref e) { s with heap:=h' }):wpAny (model prog w) A (Builtin.«dict_itemiterator.__next__» ⟨[.ref it],[]⟩) (λfin s'=>∃v,fin=.done (.ret v)/\Q v s') E s:=by
 obtain ⟨L,N,ok,O,B,U⟩:=st;have T:s.TypeIs (.ref it) "dict_itemiterator" := ⟨_,B,rfl⟩
 wp_walk using wpAny_fieldsOf B rfl,wpAny_dictEntries D F,wpAny_dictEpoch D F,wpAny_typeNameOfWhole_itemiter T,wpAny_isOneOf_itemiter T
 rw [if_neg (by lia),Ybn,hi]
 wp_walk using wpAny_typeNameOfWhole_itemiter T,wpAny_raiseNew_none G
 exact q _ _ (λc o n e=>Yaj _ (Yaj _ ((Heap.get?_update_ne _ _ _ _ n).trans e))) ⟨_,Ybd _ rfl,rfl⟩
theorem Y5 {S it d:Addr}{i ep:Nat}{es:Array DictEntry}{o:Obj}{e:DictEntry}{Q:Option Value->Shared->Prop}(st:V2 S s.heap it d i es.size ep)(B:s.heap.get? d=some o)(D:o.data=.dict es ep)(hi:es[i]?=some e)(G:s.heap.objs.size≠S)(q:∀h',V2 S h' it d (i+1) es.size ep->h'.get? s.heap.objs.size=some { cls:=.type "tuple", data:=.seq #[e.key,e.val] }->h'.objs.size=s.heap.objs.size+1->(∀b o,b≠it->s.heap.get? b=some o->h'.get? b=some o)->Q (some (.ref s.heap.objs.size)) { s with heap:=h' }) :
  wpAny (model prog w) A (pyNext (.ref it)) Q E s:=by
 have T:s.TypeIs (.ref it) "dict_itemiterator" := let ⟨_,_,_,_,e,_⟩:=st;⟨_,e,rfl⟩;refine Yaa (Ydu (Yel T F.slot_dict_itemiterator_next (Ycc F.slot_dict_itemiterator_next T F.entry_dict_itemiterator_next (Y3 st B D hi G λh' a b c d=>?_) (F.args_dict_itemiterator_next_1 _))))
 wp_walk
 exact q h' a b c d
theorem Y6 {S it d:Addr}{i ep:Nat}{es:Array DictEntry}{o:Obj}{Q:Option Value->Shared->Prop}(B:A.in1.handled=none)(st:V2 S s.heap it d i es.size ep)(D:s.heap.get? d=some o)(G:o.data=.dict es ep)(hi:es[i]?=none)(q:∀h',(∀c o,c≠it->s.heap.get? c=some o->h'.get? c=some o)->Q none { s with heap:=h' }):wpAny (model prog w) A (pyNext (.ref it)) Q E s:=by
 have T:s.TypeIs (.ref it) "dict_itemiterator" := let ⟨_,_,_,_,e,_⟩:=st;⟨_,e,rfl⟩;refine Yaa (Ydu (Yel T F.slot_dict_itemiterator_next (Ycc F.slot_dict_itemiterator_next T F.entry_dict_itemiterator_next (Y4 B st D G hi ?_) (F.args_dict_itemiterator_next_1 _))));rintro h' e k ⟨o',L,N⟩;exact Yaa (Yeg ⟨o',L,N⟩ isSubtype_stop (Yac (q h' k)))
theorem Y7 {S v d:Addr}{ep:Nat}{es:Array DictEntry}{o:Obj}{Q:EX}(G:s.heap.IsItemsView v d)(L:s.heap.get? d=some o)(N:o.data=.dict es ep)(q:∀h',V2 S h' s.heap.objs.size d 0 es.size ep->h'.objs.size=s.heap.objs.size+1->(∀c o,s.heap.get? c=some o->h'.get? c=some o)->Q (.ref s.heap.objs.size) { s with heap:=h' }):wpAny (model prog w) A (pyIter (.ref v)) Q E s:=by
 have T:=G.typeIs;obtain ⟨U,B,O,D⟩:=id G;refine wpAny_pyIter_slot T F.slot_dict_items_iter (Ycc F.slot_dict_items_iter T F.entry_dict_items_iter ?_ (F.args_dict_items_iter_1 _))
 wp_walk using wpAny_dictEntries L N,wpAny_dictEpoch L N,wpAny_field B D (x:=.ref d) rfl
 exact ⟨_,rfl, "dict_itemiterator", _,⟨_,Ybd _ rfl,rfl⟩,F.slot_dict_itemiterator_next.lookup,q _ ⟨.none,false,.none,.none,Ybd _ rfl,.inl rfl⟩ (Ydj ..) λc o e=>Yaj _ e⟩
theorem Y8 {d:Addr}{ep:Nat}{es:Array DictEntry}{o:Obj}{Q:EX}(G:(d == sysModules)=false)(B:s.heap.get? d=some o)(D:o.ExactDict)(L:o.data=.dict es ep)(q:Q (.ref s.heap.objs.size) { s with heap:=s.heap.push { cls:=.type "dict_items", data:=.fields #[.ref d] } }):wpAny (model prog w) A (call (.builtin "dict.items") [.ref d]) Q E s:=by
 have T:s.TypeIs (.ref d) "dict" := ⟨o,B,D.1⟩;refine Ycc F.slot_dict_items T F.entry_dict_items ?_ (F.args_dict_items_1 _)
 wp_walk using wpAny_notOrdered_dict T
 exact ⟨_,rfl,q⟩
structure Zec (h0:Heap)(it d S:Addr)(es:Array DictEntry)(ep i:Nat)(h:Heap)(acc:Array Value):Prop where
 st:V2 S h it d i es.size ep
 out:∃as:List Addr,acc.toList=as.map Value.ref/\as.length=i/\(∀a∈as,h0.objs.size<=a/\a≠S/\a≠it)/\as.Nodup/\∀(j:Nat)(a:Addr),as[j]?=some a->∃e,es[j]?=some e/\h.get? a=some { cls:=.type "tuple", data:=.seq #[e.key,e.val] }
 old:∀b o,h0.get? b=some o->h.get? b=some o
 sz:S<h.objs.size/\it<h.objs.size
theorem Zav {prog:Program}{w:World}{A:Around}{h0:Heap}{it d S:Addr}{es:Array DictEntry}{ep:Nat}{o:Obj}(hh:A.in1.handled=none)(ho:h0.get? d=some o)(hd:o.data=.dict es ep)(hS:h0.objs.size<=S)(aa:h0.objs.size<=it)(L:S≠it) :
  Fed prog w A it S es.size (Zec h0 it d S es ep) (λh acc=>∃F:List Addr,acc.toList=F.map Value.ref/\F.length=es.size/\(∀a∈F,h0.objs.size<=a/\a≠S)/\F.Nodup/\(∀(j:Nat)(a:Addr),F[j]?=some a->∃e,es[j]?=some e/\h.get? a=some { cls:=.type "tuple", data:=.seq #[e.key,e.val] })/\∀b o,h0.get? b=some o->h.get? b=some o):=by
 refine ⟨λi s acc Q E hi st q=>?_,λs acc oS Q E eS st q=>?_,λi h f acc st=>?_⟩
 ·obtain ⟨st,⟨F,a1,Y,G,a4,Z⟩,B,sz⟩:=st;obtain ⟨e,he⟩:∃e,es[i]?=some e:=⟨_,Ybh hi⟩;refine Y5 st (B _ _ ho) hd he (Ydh sz.1) λh' ab tp hz N=>q _ h' (λo y=>N S o L y) ⟨ab,⟨F++[s.heap.objs.size],by rw [Ydw,a1,Yan];rfl,by rw [Yaq,Y];rfl,λa ha=>?_,?_,λj a D=>?_⟩,λb o y=>N b o (Yao (Ybm (Yah y) aa)) (B b o y),hz▸Ydo sz.1,hz▸Ydo sz.2⟩
  ·rcases Yap.mp ha with ha | ha
   ·exact G a ha
   ·rw [Ybo.mp ha];exact ⟨Ybw (Nat.lt_of_le_of_lt hS sz.1),Ydh sz.1,Ydh sz.2⟩
  ·rw [Yef];refine ⟨a4,by simp,λa ha b hb z=>?_⟩;rw [Ybo.mp hb] at z;subst z;obtain ⟨j,D⟩:=Yev.mp ha;obtain ⟨e',_,O⟩:=Z j _ D;exact Yca _ (Yah O)
  ·by_cases ac:j<F.length
   ·rw [Ydr ac] at D;obtain ⟨e',U,O⟩:=Z j a D;exact ⟨e',U,N a _ (G a (Ybb D)).2.2 O⟩
   ·rw [Ydq (by lia)] at D;have:j-F.length=0:=by
     have:=(Yay.mp D).1;simp at this;exact this
    rw [this] at D;cases D;exact ⟨e,by rw [<-he,<-Y];congr 1;lia,tp⟩
 ·obtain ⟨st,⟨F,a1,Y,G,a4,Z⟩,B,sz⟩:=st;refine Y6 hh st (B _ _ ho) hd (Array.getElem?_eq_none (Yaf _)) λh' N=>q h' (λo y=>N S o L y) ⟨F,a1,Y,λa ha=>⟨(G a ha).1,(G a ha).2.1⟩,a4,λj a D=>?_,λb o y=>N b o (Yao (Ybm (Yah y) aa)) (B b o y)⟩;obtain ⟨e',U,O⟩:=Z j a D;exact ⟨e',U,N a _ (G a (Ybb D)).2.2 O⟩
 ·obtain ⟨⟨f0,f1,ok,ov,U,hf⟩,⟨F,a1,Y,G,a4,Z⟩,B,sz⟩:=st;have up:∀b o,b≠S->h.get? b=some o->(h.update S f).get? b=some o:=λb o n y=>(Heap.get?_update_ne _ _ _ _ n).trans y;refine ⟨⟨f0,f1,ok,ov,up _ _ (Ne.symm L) U,hf.imp id λ⟨a,oa,y1,y2,y3,y4⟩=>⟨a,oa,y1,up _ _ y4 y2,y3,y4⟩⟩,⟨F,a1,Y,G,a4,λj a D=>?_⟩,λb o y=>up b o (Yao (Ybm (Yah y) hS)) (B b o y),by rw [Heap.size_update];exact sz⟩;obtain ⟨e',U,O⟩:=Z j a D;exact ⟨e',U,up a _ (G a (Ybb D)).2.1 O⟩
theorem V3 {v d:Addr}{es:Array DictEntry}{ep:Nat}{o:Obj}{Q:List Value->Shared->Prop}(hh:A.in1.in1.in1.handled=none)(Z:s.heap.IsItemsView v d)(ho:s.heap.get? d=some o)(hd:o.data=.dict es ep)(hn:es.size<=1000)(q:∀(h':Heap)(as:List Addr),as.length=es.size->(∀a∈as,s.heap.objs.size<=a)->as.Nodup->(∀(j:Nat)(a:Addr),as[j]?=some a->∃e,es[j]?=some e/\h'.get? a=some { cls:=.type "tuple", data:=.seq #[e.key,e.val] })->(∀b o,s.heap.get? b=some o->h'.get? b=some o)->s.heap.objs.size<h'.objs.size->Q (as.map Value.ref) { s with heap:=h' }) :
  wpAny (model prog w) A (collect (.ref v)) Q E s:=by
 refine Yaa (wpAny_runValue (Ycu F.entry_proto_collect ?_));rw [Ydl F.plain_proto_collect _];refine Yaa (wpAny_newList ?_ (Yav _));refine Yac ⟨Yed F.plain_list_iadd _,Ycu F.entry_list_iadd ?_⟩;rw [Ydl F.plain_list_iadd _];have hS:Za9 (s.heap.push { cls:=.type "list", data:=.seq #[] }) s.heap.objs.size #[] 0:=Ybd _ rfl;have B:(s.heap.push { cls:=.type "list", data:=.seq #[] }).IsItemsView v d:=let ⟨o,a,r⟩:=Z;⟨o,Yaj _ a,r⟩;have nv:s.heap.objs.size≠v:=λe=>by obtain ⟨o,a,_⟩:=Z;rw [<-e] at a;exact Yca _ (Yah a)
 have T1:=B.typeIs (s:={ s with heap:=s.heap.push { cls:=.type "list", data:=.seq #[] } });show wpAny _ _ _ _ _ { s with heap:=s.heap.push { cls:=.type "list", data:=.seq #[] } }
 wp_walk
 rw [if_neg (by simp [Builtin.List.listSameRef,nv])];have L:(s.heap.push { cls:=.type "list", data:=.seq #[] }).get? d=some o:=Yaj _ ho;have D:(s.heap.push { cls:=.type "list", data:=.seq #[] }).objs.size=s.heap.objs.size+1:=Ydj ..;have k1:∀b o,s.heap.get? b=some o->(s.heap.push { cls:=.type "list", data:=.seq #[] }).get? b=some o:=λb o e=>Yaj _ e;generalize s.heap.push { cls:=.type "list", data:=.seq #[] }=h1 at *;refine Yaa (Y7 (S:=s.heap.objs.size) (s:={ s with heap:=h1 }) B L hd λh2 N O U=>?_);have T2:Shared.TypeIs { s with heap:=h2 } (.ref v) "dict_items" := let ⟨o,a,b,_⟩:=B;⟨o,U _ _ a,b⟩;refine Yaa (Yce (PySem.W.kdx_hint T2 ?_));have G:Za9 h2 s.heap.objs.size #[] 0:=U _ _ hS;have Y:s.heap.objs.size<h2.objs.size:=Yah G;have W:=Zav (prog:=prog) (w:=w) (A:=A.in1) (h0:=s.heap) (it:=h1.objs.size) (d:=d) (S:=s.heap.objs.size) hh ho hd (Yaf _) (by rw [D];exact Ydt _) (by rw [D];exact Yao (Nat.lt_succ_self _));have on:Zec s.heap h1.objs.size d s.heap.objs.size es ep 0 h2 #[]:=⟨N,⟨[],rfl,rfl,by simp,by simp,by simp⟩,λb o e=>U _ _ (k1 _ _ e),Y,by rw [O];exact Nat.lt_succ_self _⟩
 wp_walk
 refine ⟨Yed F.plain_extend_loop _,W.loop hn (.ref s.heap.objs.size) es.size _ #[] _ (by simp) (W.aside _ _ _ _ (W.aside _ _ _ _ on)) (Ydi _ (Ydi _ G rfl) rfl) λh' acc c e f l=>?_⟩;obtain ⟨as,a1,a2,a3,a4,a5,a6⟩:=f;refine Yaa (wpAny_load l (Yac ?_));rw [a1];exact q h' as a2 (λa ha=>(a3 a ha).1) a4 a5 a6 (Yah l)
end
end L2
namespace L2
open PySem PySem.Spec PyProof.Rows Classical
section
variable {prog:Program}{w:World}{A:Around}{E:EX}{s:Shared}{b:Keyed->Keyed->Bool}{good:Keyed->Prop}
theorem UV {h:Heap}{a:Addr}{xs ys:Array Value}(h1:h.IsTuple a xs)(h2:h.IsTuple a ys):xs=ys:=by
 obtain ⟨o,e,_,n,d⟩:=h1;obtain ⟨o',q,_,D,B⟩:=h2;rw [e] at q;cases q;rw [d] at B;cases B
 rfl
end
section
variable {prog:Program}{w:World}{A:Around}{E:EX}{s:Shared}
theorem Zaw {β:Type}{f:Value×Value->β->Sem (ForInStep β)}{c0:β}{cR:Bool->β}{Q:β->Shared->Prop}(feq:∀(x:Int)(t u:Tok){Q:ForInStep β->Shared->Prop},Q (.yield c0) s->wpAny (model prog w) A (f (.int x t,.int x u) c0) Q E s)(fne:∀(x y:Int)(t u:Tok){Q:ForInStep β->Shared->Prop},x≠y->Q (.done (cR (decide (x<y)))) s->wpAny (model prog w) A (f (.int x t,.int y u) c0) Q E s) :
  ∀{xs ys:List Value}{ns ms:List Int},IntsAre xs ns->IntsAre ys ms->Q (cR (Ot ns ms)) s->(decide (ns.length<ms.length)=Ot ns ms->Q c0 s)->wpAny (model prog w) A (forIn (xs.zip ys) c0 f) Q E s
 | _,_,_,_,.nil,hy,_,q=>by
  rw [List.zip_nil_left,List.forIn_nil];refine Yac (q ?_);cases hy <;> simp [Ot]
 | _,_,_,_,.cons n t hx,.nil,_,q=>by
  rw [List.zip_nil_right,List.forIn_nil];exact Yac (q (by simp [Ot]))
 | _,_,_,_,.cons n t hx,.cons m u hy,q1,q2=>by
  rw [List.zip_cons_cons,List.forIn_cons];by_cases e:n=m
  ·subst e;refine Yaa (feq n t u ?_);dsimp only;unfold Ot at q1 q2;rw [if_pos rfl] at q1 q2;exact Zaw feq fne hx hy q1 λz=>q2 (by rw [<-z];simp)
  ·refine Yaa (fne n m t u e ?_);dsimp only;unfold Ot at q1;rw [if_neg e] at q1;exact Yac q1
theorem Ys {a b:Addr}{xs ys:Array Value}{ns ms:List Int}{P:PySem.Fin->Shared->Prop}(ha:s.heap.IsTuple a xs)(L:s.heap.IsTuple b ys)(D:IntsAre xs.toList ns)(F:IntsAre ys.toList ms)(h:P (.done (.ret (.bool (Ot ns ms)))) s) :
  wpAny (model prog w) A (Builtin.«tuple.__lt__» ⟨[.ref a,.ref b],[]⟩) P E s:=by
 obtain ⟨oa,N,ca,na,O⟩:=ha;obtain ⟨U,G,Y,nb,Z⟩:=L;show wpAny _ _ (isInstance (.ref b) (.type "tuple") >>= _) _ _ s;refine Yaa (Yeg (T := "tuple") ⟨U,G,Y⟩ isSubtype_tuple_tuple ?_);simp only [Bool.not_true,Bool.false_eq_true,if_false];refine Yaa (wpAny_tupleItemsOf N O (Yaa (wpAny_tupleItemsOf G Z (Yaa ?_))));refine Zaw (cR:=λc=>(some (PySem.Fin.done (.ret (.bool c))),())) ?_ ?_ D F ?_ ?_
 ·intro x t u Q q;refine Yaa (wpAny_eqBool_int ?_);rw [show (x == x)=true from beq_self_eq_true _];simp only [Bool.not_true,Bool.false_eq_true,if_false];exact Yac q
 ·intro x y t u Q B q;refine Yaa (wpAny_eqBool_int ?_);rw [show (x == y)=false by rw [beq_eq_false_iff_ne];exact B];simp only [Bool.not_false,if_true];exact Yaa (Ydf (Yaa (lt_int (Yaa (Yac (Yac q))))))
 ·exact Yac h
 ·intro z;refine Yac ?_;have e:Builtin.Tuple.tupleCompareSizes .Lt xs.size ys.size=.bool (Ot ns ms):=by
   rw [<-z,<-Ym D,<-Ym F,Yam,Yam]
   rfl
  show P (.done (.ret (Builtin.Tuple.tupleCompareSizes .Lt xs.size ys.size))) s;rw [e];exact h
theorem Zed {a b:Addr}{xs ys:Array Value}{ns ms:List Int}{Q:EX}(ha:s.heap.IsTuple a xs)(q:s.heap.IsTuple b ys)(D:IntsAre xs.toList ns)(G:IntsAre ys.toList ms)(L:A.units<cLine)(h:Q (.bool (Ot ns ms)) s):wpAny (model prog w) A (richCompare .Lt (.ref a) (.ref b)) Q E s:=by
 have B:s.TypeIs (.ref a) "tuple" := ha.elim λo z=>⟨o,z.1,z.2.1⟩;have N:s.TypeIs (.ref b) "tuple" := q.elim λo z=>⟨o,z.1,z.2.1⟩;exact wpAny_richCompare_same_room (op:=.Lt) B N F.slot_tuple_lt (Ycc F.slot_tuple_lt B F.entry_tuple_lt (Ys ha q D G ⟨_,rfl,(λe=>nomatch e),h⟩) (F.args_tuple_lt_2 _ _)) L
theorem Zax {o:Bool}{a c:Addr}{xs ys:Array Value}{ns ms:List Int}{Q:Bool->Shared->Prop}(ha:s.heap.IsTuple a xs)(q:s.heap.IsTuple c ys)(B:IntsAre xs.toList ns)(D:IntsAre ys.toList ms)(G:A.units<cLine)(h:Q (Ot ns ms) s) :
  wpAny (model prog w) A (oneLt' o (.ref a) (.ref c)) Q E s:=by
 cases o with
 | true=>
  rw [oneLt'_eq];dsimp only;rw [if_pos rfl];refine Yaa (wpAny_cRoom G ?_);have L:s.TypeIs (.ref a) "tuple" := ha.elim λo z=>⟨o,z.1,z.2.1⟩;refine Yaa (wpAny_callSpecialIfBound?_slot L F.slot_tuple_lt (Ycc F.slot_tuple_lt L F.entry_tuple_lt (Ys ha q B D ⟨_,rfl,?_⟩) (F.args_tuple_lt_2 _ _)));show wpAny _ A (truthOfDropped (.bool (Ot ns ms))) Q E s;exact Ycn h
 | false=>exact W.kat_one _ _ (Zed ha q B D G h)
theorem Zay {kd:SortKind}{b:Keyed->Keyed->Bool}{good:Keyed->Prop}(h:∀x y,good x->good y->∀{B:EX}{Q:Bool->Shared->Prop},Q (b x y) s->wpAny (model prog w) A (keyLt' kd x.1 y.1) Q B s):Uw (model prog w) A E s kd b good:=by
 intro x y st Q D F G q;rw [lt'_eq];refine Yad (wpS_get ?_);refine Yad (wpS_lift ?_);rw [G];exact Ydu (h x y D F ⟨rfl,Yag q⟩)
end
end L2
namespace L2
open PySem PySem.Spec PyProof.Rows Classical
noncomputable def Ul (a b:List Int×Int):Bool:=Ot a.1 b.1 || (decide (a.1=b.1) && decide (a.2<b.2))
theorem tlt_iff {a b:List Int×Int}:Ul a b=true↔Ot a.1 b.1=true\/(a.1=b.1/\a.2<b.2):=by simp [Ul]
theorem Zaz (a:List Int×Int):Ul a a=false:=by simp [Ul,V0]
theorem Zee {a b c:List Int×Int}(h1:Ul a b=true)(h2:Ul b c=true):Ul a c=true:=by
 rcases tlt_iff.mp h1 with h1 | ⟨h1,q⟩ <;> rcases tlt_iff.mp h2 with h2 | ⟨h2,B⟩
 ·exact tlt_iff.mpr (.inl (Zal h1 h2))
 ·exact tlt_iff.mpr (.inl (h2▸h1))
 ·exact tlt_iff.mpr (.inl (h1▸h2))
 ·exact tlt_iff.mpr (.inr ⟨h1.trans h2,by lia⟩)
theorem ZaA {a b:List Int×Int}(h1:Ul a b=false)(h2:Ul b a=false):a=b:=by
 have h1:(Ot a.1 b.1=true\/(a.1=b.1/\a.2<b.2))->False:=λz=>by rw [tlt_iff.mpr z] at h1;cases h1
 have h2:(Ot b.1 a.1=true\/(b.1=a.1/\b.2<a.2))->False:=λz=>by rw [tlt_iff.mpr z] at h2;cases h2
 have e:a.1=b.1:=by
  cases k1:Ot a.1 b.1 with
  | true=>exact (h1 (.inl k1)).elim
  | false=>
   cases k2:Ot b.1 a.1 with
   | true=>exact (h2 (.inl k2)).elim
   | false=>exact Yn k1 k2
 refine Prod.ext e ?_;rcases Int.lt_trichotomy a.2 b.2 with h | h | h
 ·exact (h1 (.inr ⟨e,h⟩)).elim
 ·exact h
 ·exact (h2 (.inr ⟨e.symm,h⟩)).elim
noncomputable def IsTI (h:Heap)(a:Addr)(x:List Int×Int):Prop:=∃(b:Addr)(t:Tok)(its:Array Value),h.IsTuple a #[.ref b,.int x.2 t]/\h.IsTuple b its/\IntsAre its.toList x.1
theorem IsTI.one {h:Heap}{a:Addr}{x y:List Int×Int}(h1:IsTI h a x)(h2:IsTI h a y):x=y:=by
 obtain ⟨b,t,q,B,p2,D⟩:=h1;obtain ⟨c,u,F,G,L,N⟩:=h2;have e:=UV B G;simp only [Array.mk.injEq,List.cons.injEq,Value.int.injEq,Value.ref.injEq,and_true] at e;obtain ⟨rfl,O,_⟩:=e;have:=UV p2 L;subst this;exact Prod.ext (Zbt D N) O
noncomputable def Zbw (h:Heap)(v:Value):List Int×Int:=if q:∃x a,v=.ref a/\IsTI h a x then choose q else ([],0)
theorem Oe {h:Heap}{a:Addr}{x:List Int×Int}(D:IsTI h a x):Zbw h (.ref a)=x:=by
 have q:∃x B,Value.ref a=.ref B/\IsTI h B x:=⟨x,a,rfl,D⟩;unfold Zbw;rw [dif_pos q];obtain ⟨B,e,h1⟩:=choose_spec q;cases e;exact h1.one D
theorem Zef (h:Heap):WO (λx y=>Ul (Zbw h x.1) (Zbw h y.1)):=Zd6 (κ:=λx:Keyed=>Zbw h x.1) (lt:=Ul) Zaz Zee ZaA
theorem IsTI.keep {h h':Heap}{a:Addr}{x:List Int×Int}(k:∀c o,h.get? c=some o->h'.get? c=some o)(p:IsTI h a x):IsTI h' a x:=by
 obtain ⟨b,t,q,⟨o,e,r⟩,⟨o',B,D⟩,F⟩:=p;exact ⟨b,t,q,⟨o,k _ _ e,r⟩,⟨o',k _ _ B,D⟩,F⟩
theorem O5 {h:Heap}:∀{vs:List Value}{ns:List Int},IntsAre vs ns->∃as,ReadsAll h vs (ns.map PyData.int) as
 | _,_,.nil=>⟨_,.nil⟩
 | _,_,.cons n t hx=>(O5 hx).elim λas r=>⟨_,.cons (.int n t) r⟩
theorem Vn {h:Heap}{b:Addr}{its:Array Value}{ns:List Int}(B:h.IsTuple b its)(hi:IntsAre its.toList ns):∃q,Reads h (.ref b) (.tuple (ns.map PyData.int)) q:=by
 obtain ⟨o,e,c,n,d⟩:=B;obtain ⟨q,r⟩:=O5 (h:=h) hi;exact ⟨_,.tuple e c d r⟩
theorem UW (ns:List Int):SeqAt.shaped (.tuple (ns.map PyData.int))=true:=by
 have h:=UL ns;unfold SeqAt.shaped at h ⊢;simpa [PyData.canLay0,PyData.depth] using h
theorem Zbx (ns ms:List Int):PyData.eqv (.tuple (ns.map PyData.int)) (.tuple (ms.map PyData.int))=decide (ns=ms):=by
 have h:=VB ns ms;simpa [PyData.eqv] using h
section
variable {prog:Program}{w:World}{A:Around}{E:EX}{s:Shared}
theorem Zby {a b:Addr}{xs ys:Array Value}{ns ms:List Int}(D:s.heap.IsTuple a xs)(hi:IntsAre xs.toList ns)(q:s.heap.IsTuple b ys)(B:IntsAre ys.toList ms)(F:A.in1.units+64<cLine):SeqAt.EqAt A.in1 s (.ref a) (.ref b) (decide (ns=ms)):=by
 obtain ⟨N,G⟩:=Vn D hi;obtain ⟨bs,L⟩:=Vn q B;have x:=W.keq_at (A:=A) G L (UW ns) (UW ms) F;rw [Zbx] at x;exact x
theorem Zeg {a c:Addr}{x y:List Int×Int}{Q:Bool->Shared->Prop}(O:IsTI s.heap a x)(U:IsTI s.heap c y)(Y:A.in1.units+64<cLine)(q:Q (Ul x y) s):wpAny (model prog w) A.in1 (keyLt' (tuples' false) (.ref a) (.ref c)) Q E s:=by
 obtain ⟨b1,t1,i1,⟨o1,Z,_,n1,d1⟩,G,L⟩:=O;obtain ⟨b2,t2,i2,⟨o2,g2,_,n2,d2⟩,N,p2⟩:=U;refine W.kat_lt Z d1 g2 d2 ?_;refine W.kat_cons (Zby (A:=A) G L N p2 Y prog w _ _ (W.kat_go (λF=>W.kat_yes (W.kat_cons (wpAny_eqBool_int (W.kat_go (λB=>W.kat_yes (W.kat_nil ?_)) λB=>W.kat_no ?_)))) λF=>W.kat_no ?_))
 ·have D:x.1=y.1:=Ybp F;have e2:x.2=y.2:=by simpa using B
  have:Ul x y=false:=by rw [Prod.ext D e2];exact Zaz y
  rw [this] at q;simpa using q
 ·have D:x.1=y.1:=Ybp F;have:Ul x y=decide (x.2<y.2):=by simp [Ul,D,V0]
  rw [this] at q;exact W.kat_one _ _ (PyProof.Rows.lt_int q)
 ·have D:x.1≠y.1:=of_decide_eq_false F;have:Ul x y=Ot x.1 y.1:=by simp [Ul,D]
  rw [this] at q;exact Zax G N L p2 (by lia) q
end
noncomputable abbrev TI2:=Addr×Addr×(List Int×Int)
section
variable {X:Cx}(K:W.Frag)
noncomputable def ZcZ:List V->Hp->VK->Prop:=λxs H Q=>∃(p:Addr)(zs:List TI2),xs=[.ref p]/\SqL K H p (zs.map λz=>V.ref z.1)/\(∀z∈zs,SqT K H z.1 [.ref z.2.1,.int z.2.2.2]/\SqT K H z.2.1 (z.2.2.1.map V.int)) /\
 ∀(l:Addr)(zs':List TI2),H l=none->zs'.Perm zs->(zs'.map (·.2.2)).Pairwise (λa b=>Ul b a=false)->Q (.ref l) (upd H l (.lst (zs'.map λz=>V.ref z.1)))
theorem ZaB:∀{zs:List TI2}{its:List Value},Vals (zs.map λz=>V.ref z.1) its->its=zs.map λz=>Value.ref z.1
 | [],_,h=>by cases h;rfl
 | z::zs,_,h=>by
  cases h with
  | cons r h=>
   cases r;rw [ZaB h]
   rfl
theorem Xy:∀(zs:List TI2),Vals (zs.map λz=>V.ref z.1) (zs.map λz=>Value.ref z.1)
 | []=>.nil
 | z::zs=>.cons rfl (Xy zs)
theorem Zc0 (hu:X.A.units+71<cLine)(h:X.K=K:=by rfl):JD X (.builtin "sorted") (ZcZ K):=by
 subst h;intro qQ s σ H xs us Q I rv h;obtain ⟨p,zs,rfl,hq,hz,q⟩:=h;obtain ⟨u,rfl,ru⟩:=rv.one;cases ru;obtain ⟨F,r,pl,L⟩:=I.list hq;have hl:=r.length;rw [Yab] at hl L;have ei:=ZaB r;have key:∀z∈zs,IsTI s.heap z.1 z.2.2:=λz B=>by
  obtain ⟨iz,rz,pz,_⟩:=I.tuple (hz z B).1;obtain ⟨il,rl,aa,_⟩:=I.tuple (hz z B).2;obtain ⟨u,v,rfl,ru,⟨t,rfl⟩⟩:=rz.two;cases ru;exact ⟨z.2.1,t,il.toArray,pz,aa,Oj rl⟩
 have N:∀v∈F,∃a x,v=.ref a/\IsTI s.heap a x:=λv Z=>by
  rw [ei] at Z;obtain ⟨z,B,rfl⟩:=Yba.mp Z;exact ⟨z.1,_,rfl,key z B⟩
 have O:∀(h':Heap),(∀c o,s.heap.get? c=some o->h'.get? c=some o)->∀vs:List Value,(∀v∈vs,∃a x,v=.ref a/\IsTI s.heap a x)->∃fs:List Value,W.KatTups h' vs fs/\fs.length=vs.length/\∀f∈fs,∃(b:Addr)(o:Obj),f=.ref b/\h'.get? b=some o/\o.cls=.type "tuple" := by
  intro h' k vs
  induction vs with
  | nil=>intro _;exact ⟨[],.nil,rfl,λf U=>by cases U⟩
  | cons v vs ih=>
   intro h;obtain ⟨fs,h1,h2,h3⟩:=ih λx Y=>h x (Ybr _ Y);obtain ⟨a,x,rfl,px⟩:=h v (Ybk ..);obtain ⟨b,t,it,⟨o,e,c,n,d⟩,⟨o2,e2,c2,_⟩,_⟩:=px.keep k;refine ⟨.ref b::fs,.cons e c d rfl h1,by simp [h2],λf U=>?_⟩;rcases Yas.mp U with rfl | U
   ·exact ⟨b,o2,rfl,e2,c2⟩
   ·exact h3 f U
 refine YZ (kd:=tuples' false) (good:=λx=>∃a y,x.1=.ref a/\IsTI s.heap a y) (Zef s.heap) pl.isList (by lia) N (λh' k h2 E' R q=>?_) (λh' k=>Zay λx y gx gy E' Q q=>?_) λout hp hr=>?_
 ·obtain ⟨fs,t1,t2,t3⟩:=O h' k F N;exact W.kat_kind (T:=.type "tuple") t1 (by lia) (λv Z=>by obtain ⟨b,o,rfl,e,c⟩:=t3 v Z;exact c▸(W.Looks.ld e).andThen .now) rfl q
 ·obtain ⟨a,y1,e1,h1⟩:=gx;obtain ⟨c,y2,e2,h2⟩:=gy;simp only [e1,e2,Oe h1,Oe h2] at q ⊢;exact Zeg (A:=X.A.in1) (h1.keep k) (h2.keep k) (by rw [Around.in1_units,Around.in1_units];lia) q
 ·obtain ⟨o1,o2,o3⟩:=Yo hp;obtain ⟨e,he⟩:=sortedAll_at s.heap F (out.map (·.2));rw [ei] at o1;obtain ⟨G,p1,p2⟩:=WH o1;have ps:(G.map (·.2.2)).Pairwise (λa b=>Ul b a=false):=by
   have a1:=Ut hr o3;have a2:(out.toList.map (·.2)).Pairwise (λu v=>Ul (Zbw s.heap v) (Zbw s.heap u)=false):=by
    rw [Ycl];refine a1.imp_of_mem λ{x y} Y hy D=>?_;rw [<-(o2 x Y).1,<-(o2 y hy).1];exact D
   rw [Array.toList_map] at p2;rw [<-p2,Ycl] at a2;rw [Ycl];refine a2.imp_of_mem λ{x y} Y hy D=>?_;rw [Oe (key x (p1.mem_iff.mp Y)),Oe (key y (p1.mem_iff.mp hy))] at D;exact D
  refine ⟨.ref _,_,I.laid (a:=s.heap.objs.size+1) (t':=s.toks) (o:=.lst (G.map λz=>V.ref z.1)) (λb o e=>sortedAll_old e) (Ydt _) ⟨by rw [Yab,p1.length_eq];exact L,(out.map (·.2)).toList,e,by rw [<-p2];exact Xy G,he⟩,rfl,q _ _ (I.hok.fresh (Ydt _)) p1 ps⟩
noncomputable def IVw (v d:Addr):HO:=.ext λh=>h.IsItemsView v d
noncomputable abbrev kvI (x:List Int×Int):List Key×V:=(x.1.map Sum.inl,.int x.2)
noncomputable def Zdm (H:Hp):List TI2->Hp
 | []=>H
 | z::zs=>upd (Zdm H zs) z.1 (.tup [.ref z.2.1,.int z.2.2.2])
theorem Xz {H:Hp}{b:Addr}:∀{zs:List TI2},b ∉ zs.map (·.1)->Zdm H zs b=H b
 | [],_=>rfl
 | z::zs,h=>by
  rw [Ybe,Yas] at h;rw [Zdm,GB (λe=>h (.inl e)),Xz λe=>h (.inr e)]
theorem ZaC {H:Hp}:∀{zs:List TI2},(zs.map (·.1)).Nodup->∀z∈zs,Zdm H zs z.1=some (.tup [.ref z.2.1,.int z.2.2.2])
 | x::zs,nd,z,hz=>by
  rw [Ybe,List.nodup_cons] at nd;rcases Yas.mp hz with rfl | hz
  ·exact Gb
  ·rw [Zdm,GB (λe=>nd.1 (by rw [<-e];exact Yba.mpr ⟨z,hz,rfl⟩))];exact ZaC nd.2 z hz
theorem UX (ns:List Int):(ns.map (Sum.inl:Int->Key)).map kV=ns.map V.int:=by rw [Ydy];rfl
theorem Zeh {H:Hp}{h:Heap}:∀{ks:List (List Int×Int)}{xs:List (List Key×Addr×Value)}{as:List Addr},Paired (λ(p:List Key×V) (q:List Key×Addr×Value)=>p.1=q.1/\H q.2.1=some (.tup (p.1.map kV))/\RelV p.2 q.2.2) (ks.map kvI) xs->as.length=xs.length ->
  (∀(j:Nat) a x,as[j]?=some a->xs[j]?=some x->h.get? a=some { cls:=.type "tuple", data:=.seq #[.ref x.2.1,x.2.2] }) ->
  ∃zs:List TI2,zs.map (·.1)=as/\zs.map (·.2.2)=ks/\∀z∈zs,(∃t,h.get? z.1=some { cls:=.type "tuple", data:=.seq #[.ref z.2.1,.int z.2.2.2 t] })/\H z.2.1=some (.tup (z.2.2.1.map V.int))
 | [],_,as,.nil,hl,_=>⟨[],(List.eq_nil_of_length_eq_zero hl).symm,rfl,by simp⟩
 | k::ks,x::xs,a::as,.cons ⟨_,r2,t,r3⟩ r,hl,g=>by
  obtain ⟨zs,z1,z2,z3⟩:=Zeh (ks:=ks) r (by simpa using hl) λj a x h1 h2=>g (j+1) a x (by simpa using h1) (by simpa using h2);refine ⟨(a,x.2.1,k)::zs,by rw [Ybe,z1],by rw [Ybe,z2],λz B=>?_⟩;rcases Yas.mp B with rfl | B
  ·refine ⟨⟨t,?_⟩,by rw [r2,UX]⟩;rw [g 0 a x rfl rfl,r3]
  ·exact z3 z B
theorem Zbz:MtR X "dict.items" (λx xs H Q=>∃d kvs,x=.ref d/\xs=[]/\H d=some (.dT kvs)/\∀v,H v=none->Q (.ref v) (upd H v (IVw v d))):=by
 intro qQ s σ H x xs v us Q I F G h;obtain ⟨d,kvs,rfl,rfl,L,q⟩:=h;cases F;have B:=G.zero;subst B;obtain ⟨_,N,ys,_,o,es,ep,h1,h2,O,_⟩:=(show ObjOk X.prog X.w H s.heap d (.dT kvs) from I.hok d _ L);have U:H s.heap.objs.size=none:=I.hok.fresh (Yaf _);refine Y8 N h1 h2 O ⟨.ref s.heap.objs.size,upd H s.heap.objs.size (IVw s.heap.objs.size d),I.laid (t':=s.toks) (λb u e=>Yaj _ e) (Yaf _) ?_,rfl,q _ U⟩;have D:(s.heap.push { cls:=.type "dict_items", data:=.fields #[.ref d] }).get? s.heap.objs.size=some { cls:=.type "dict_items", data:=.fields #[.ref d] }:=Ybd _ rfl;exact ⟨⟨_,D,rfl,rfl⟩,⟨_,D⟩,λY Z ⟨o,e,r⟩ k=>⟨o,k _ e,r⟩⟩
noncomputable def Zc1:List V->Hp->VK->Prop:=λxs H Q=>∃(v d:Addr)(ks:List (List Int×Int)),xs=[.ref v]/\H v=some (IVw v d)/\H d=some (.dT (ks.map kvI))/\ks.length<=1000 /\
 ∀(l:Addr)(zs:List TI2)(H':Hp),Same H H'->H l=none->H' l=some (.lst (zs.map λz=>V.ref z.1))->(∀z∈zs,H' z.1=some (.tup [.ref z.2.1,.int z.2.2.2])/\H' z.2.1=some (.tup (z.2.2.1.map V.int)))->(zs.map (·.2.2)).Perm ks->(zs.map (·.2.2)).Pairwise (λa b=>Ul b a=false)->Q (.ref l) H'
theorem Zc2 (hc:X.calm=true)(hu:X.A.units+71<cLine)(h:X.K=K:=by rfl):JD X (.builtin "sorted") (Zc1):=by
 subst h;intro qQ s σ H xs us Q I rv h;obtain ⟨v,d,ks,rfl,ev,ed,hn,q⟩:=h;obtain ⟨u,rfl,ru⟩:=rv.one;cases ru;have hh:X.A.in1.in1.in1.in1.handled=none:=I.ok.hd hc;obtain ⟨hv,_⟩:=(show ObjOk X.prog X.w H s.heap v (IVw v d) from I.hok v _ ev);obtain ⟨_,_,ys,pr,o,es,ep,h1,h2,h3,h4,h5⟩:=(show ObjOk X.prog X.w H s.heap d (.dT (ks.map kvI)) from I.hok d _ ed);have yl:ys.length=ks.length:=by have:=pr.length;rw [Yab] at this;exact this.symm
 have el:es.size=ys.length:=by rw [<-Yam,h4,Yab]
 refine Calls.call_function_entry kind_sorted plain_sorted entry_sorted (args_sorted1 _) ?_;unfold Builtin.«sorted»;apply Yaa (m:=checkCount "sorted" 1 1 _);apply Yac;apply Yaa;refine V3 (A:=X.A.in1) hh hv h1 h3 (by lia) λh' as a1 a2 a3 a4 k1 aa=>?_;have al:as.length=ys.length:=by lia
 obtain ⟨zs,z1,z2,z3⟩:=Zeh (h:=h') pr al λj a x e1 e2=>by
  obtain ⟨e,G,N⟩:=a4 j a e1;have:es.toList[j]?=some (entryOfKey (tupleKind (GL X.prog X.w)) x):=by rw [h4,Yaw,e2];rfl
  rw [Yaz,G] at this;cases this;exact N
 have ae:as.map Value.ref=zs.map λz=>Value.ref z.1:=by rw [<-z1,Ydy];rfl
 rw [ae];have zl:(zs.map λz=>Value.ref z.1).length=ks.length:=by rw [Yab,<-z2,Yab]
 have key:∀z∈zs,IsTI h' z.1 z.2.2:=λz B=>by
  obtain ⟨⟨t,G⟩,N⟩:=z3 z B;obtain ⟨il,rl,af,_⟩:=I.tuple (SqT.of (K:=X.K) N);obtain ⟨o',e',r'⟩:=af;exact ⟨z.2.1,t,il.toArray,⟨_,G,rfl,_,rfl⟩,⟨o',k1 _ _ e',r'⟩,Oj rl⟩
 have ab:∀v∈zs.map (λz=>Value.ref z.1),∃a x,v=.ref a/\IsTI h' a x:=λv hv=>by
  obtain ⟨z,B,rfl⟩:=Yba.mp hv;exact ⟨z.1,_,rfl,key z B⟩
 have ak:=Ybf;apply Yaa;refine wpAny_newList ?_ (by lia);generalize hvs:(zs.map λz=>Value.ref z.1)=vs at *;have U:(h'.push (seqObj "list" vs.toArray 0)).get? h'.objs.size=some (seqObj "list" vs.toArray 0):=Ybd _ rfl;apply Yaa;apply Yce;have k3:∀(T:Nat) c o,h'.get? c=some o->(Od { s with heap:=h'.push (seqObj "list" vs.toArray 0),toks:=T } h'.objs.size vs).heap.get? c=some o:=λT c o e=>by
  unfold Od;exact Yaj _ (Yaj _ (JZ (Yao (Yah e)) (Yaj _ e)))
 have ac:∀(g:Heap),(∀c o,h'.get? c=some o->g.get? c=some o)->∀us:List Value,(∀v∈us,∃a x,v=.ref a/\IsTI h' a x)->∃fs:List Value,W.KatTups g us fs/\fs.length=us.length/\∀f∈fs,∃(b:Addr)(o:Obj),f=.ref b/\g.get? b=some o/\o.cls=.type "tuple" := by
  intro g k us
  induction us with
  | nil=>intro _;exact ⟨[],.nil,rfl,λf hf=>by cases hf⟩
  | cons v us ih=>
   intro hu;obtain ⟨fs,G,N,g3⟩:=ih λx hx=>hu x (Ybr _ hx);obtain ⟨a,x,rfl,px⟩:=hu v (Ybk ..);obtain ⟨b,t,it,⟨o,e,c,n,d⟩,⟨o2,e2,c2,_⟩,_⟩:=px.keep k;refine ⟨.ref b::fs,.cons e c d rfl G,by simp [N],λf hf=>?_⟩;rcases Yas.mp hf with rfl | hf
   ·exact ⟨b,o2,rfl,e2,c2⟩
   ·exact g3 f hf
 refine Ycc slot_list_sort ⟨_,U,rfl⟩ entry_list_sort (O4 (kd:=tuples' false) (good:=λx=>∃a y,x.1=.ref a/\IsTI h' a y) (Zef h') U (by lia) ab (λN E' R q'=>?_) (Zay λx y gx gy E' Q q'=>?_) λout ag hr=>⟨_,rfl,?_⟩) (args_list_sort _)
 ·obtain ⟨fs,t1,t2,t3⟩:=ac _ (k3 _) vs ab;exact W.kat_kind (T:=.type "tuple") t1 (by lia) (λv hv=>by obtain ⟨b,o,rfl,e,c⟩:=t3 v hv;exact c▸(W.Looks.ld e).andThen .now) rfl q'
 ·obtain ⟨a,y1,e1,G⟩:=gx;obtain ⟨c,y2,e2,N⟩:=gy;simp only [e1,e2,Oe G,Oe N] at q' ⊢;exact Zeg (A:=X.A.in1) (G.keep (k3 _)) (N.keep (k3 _)) (by rw [Around.in1_units,Around.in1_units];lia) q'
 ·obtain ⟨o1,o2,o3⟩:=Yo ag;refine Yac ⟨_,rfl,?_⟩;obtain ⟨e,he⟩:=sortedHeap_at (out:=out.map (·.2)) U;have F:∀b o,h'.get? b=some o->(sortedHeap (h'.push (seqObj "list" vs.toArray 0)) h'.objs.size vs (out.map (·.2))).get? b=some o:=λb o e=>by
   have hb:=Yah e;rw [sortedHeap_old (Yao hb) (by rw [Ydj];exact Ydo hb)];exact Yaj _ e
  generalize sortedHeap (h'.push (seqObj "list" vs.toArray 0)) h'.objs.size vs (out.map (·.2))=hF at he F ⊢;rw [<-hvs] at o1;obtain ⟨L,Z,p2⟩:=WH o1;have ps:(L.map (·.2.2)).Pairwise (λa b=>Ul b a=false):=by
   have a1:=Ut hr o3;have a2:(out.toList.map (·.2)).Pairwise (λu v=>Ul (Zbw h' v) (Zbw h' u)=false):=by
    rw [Ycl];refine a1.imp_of_mem λ{x y} hx hy O=>?_;rw [<-(o2 x hx).1,<-(o2 y hy).1];exact O
   rw [Array.toList_map] at p2;rw [<-p2,Ycl] at a2;rw [Ycl];refine a2.imp_of_mem λ{x y} hx hy O=>?_;rw [Oe (key x (Z.mem_iff.mp hx)),Oe (key y (Z.mem_iff.mp hy))] at O;exact O
  have lt:∀b u,H b=some u->b<s.heap.objs.size:=λb u e=>by
   obtain ⟨o,g⟩:=(I.hok b u e).there;exact Yah g
  have nd:(zs.map (·.1)).Nodup:=by rw [z1];exact a3
  have ah:∀z∈zs,s.heap.objs.size<=z.1:=λz B=>a2 z.1 (by rw [<-z1];exact Yba.mpr ⟨z,B,rfl⟩);have ai:∀z∈zs,z.1≠h'.objs.size:=λz B=>by
   obtain ⟨⟨t,G⟩,_⟩:=z3 z B;exact Yao (Yah G)
  have k:∀b o,s.heap.get? b=some o->hF.get? b=some o:=λb o e=>F b o (k1 b o e);generalize hH':upd (Zdm H zs) h'.objs.size (.lst (L.map λz=>V.ref z.1))=H';have ao:∀b,b<s.heap.objs.size->H' b=H b:=λb hb=>by
   rw [<-hH',GB (Yao (Nat.lt_trans hb aa)),Xz];intro hm;obtain ⟨z,B,e⟩:=Yba.mp hm;have aj:z.1<s.heap.objs.size:=e▸hb;exact absurd aj (Nat.not_lt_of_le (ah z B))
  have at_:∀z∈zs,H' z.1=some (.tup [.ref z.2.1,.int z.2.2.2]):=λz B=>by
   rw [<-hH',GB (ai z B)];exact ZaC nd z B
  have ad:H' h'.objs.size=some (.lst (L.map λz=>V.ref z.1)):=by rw [<-hH'];exact Gb
  have Y:Same H H':=λb u e=>(ao b (lt b u e)).trans e;have I':Inv X qQ σ H' { s with heap:=hF,toks:=s.toks }:=by
   refine I.un ⟨λb o e n _ _=>k b o e,λb o e n _ _=>⟨o.slots,k b o e⟩,λb o e n _=>(ao b (Yah e)).trans n,λb o e _=>⟨o,k b o e⟩,λb ys e=>Y b _ e,λb o u e=>Y b _ e,λb ps e=>⟨#[],by rw [Y b _ e];simp⟩⟩ λb u e=>?_;by_cases c1:b=h'.objs.size
   ·subst c1;rw [ad] at e;cases e;exact ⟨by rw [Yab,Z.length_eq];rw [<-hvs,Yab] at zl;lia,(out.map (·.2)).toList,_,by rw [<-p2];exact Xy L,he⟩
   ·by_cases c2:b∈zs.map (·.1)
    ·obtain ⟨z,B,rfl⟩:=Yba.mp c2;rw [at_ z B] at e;cases e;obtain ⟨⟨t,G⟩,_⟩:=z3 z B;exact ⟨by show 2<=sizeLine;lia,[.ref z.2.1,.int z.2.2.2 t],.cons rfl (.cons ⟨t,rfl⟩ .nil),⟨_,F _ _ G,rfl,_,rfl⟩⟩
    ·rw [<-hH',GB c1,Xz c2] at e;exact (I.hok b u e).stay (λc v _ q=>k c v q) (λc q=>Y c _ q) λc xs q=>Y c _ q
  exact ⟨.ref _,H',I',rfl,q _ L H' Y (I.hok.fresh (Ybw aa)) ad (λz B=>⟨at_ z (Z.mem_iff.mp B),Y _ _ (z3 z (Z.mem_iff.mp B)).2⟩) (by rw [<-z2];exact Z.map _) ps⟩
end
end L2
namespace M
open PySem L2
noncomputable def top (i:Nat):Stmt:=PySem.Challenge.pw_onceways_k16_all_marks.main.body.getD i (.Pass ⟨0,0,0,0⟩)
noncomputable abbrev sIs:Stmt:=top 6
noncomputable abbrev Zc3:Stmt:=top 7
noncomputable abbrev Zc4:Stmt:=top 8
noncomputable abbrev Zc5:Stmt:=top 9
noncomputable abbrev sMe:Stmt:=top 17
noncomputable abbrev sLr:Stmt:=top 18
noncomputable abbrev sSo:Stmt:=top 19
noncomputable abbrev sFm:Stmt:=top 20
noncomputable abbrev sId:Stmt:=top 21
noncomputable abbrev sIl:Stmt:=top 22
noncomputable abbrev sIf:Stmt:=top 23
noncomputable abbrev sIm:Stmt:=top 24
noncomputable abbrev sFe:Stmt:=top 25
noncomputable abbrev sWr:Stmt:=top 26
noncomputable abbrev sLb:Stmt:=top 27
noncomputable abbrev sDe:Stmt:=top 28
noncomputable abbrev Zc6:Stmt:=top 30
noncomputable abbrev Zci:Stmt:=top 32
noncomputable abbrev Zc7:Stmt:=top 33
noncomputable abbrev sWi:Stmt:=top 34
noncomputable abbrev sBs:Stmt:=top 35
noncomputable abbrev sNb:Stmt:=top 36
noncomputable abbrev sWs:Stmt:=top 37
noncomputable abbrev Zc8:Stmt:=top 39
noncomputable abbrev ZbA:Stmt:=top 40
noncomputable abbrev Zc9:Stmt:=top 41
noncomputable abbrev sGd:Stmt:=top 42
noncomputable abbrev sEn:Stmt:=top 43
noncomputable abbrev Zda:Stmt:=top 44
noncomputable abbrev sLa:Stmt:=top 45
noncomputable abbrev sDg:Stmt:=top 46
noncomputable abbrev sPi:Stmt:=top 47
noncomputable abbrev sLh:Stmt:=top 48
noncomputable abbrev sMk:Stmt:=top 49
noncomputable abbrev sRw:Stmt:=top 50
noncomputable abbrev sAs:Stmt:=top 51
noncomputable abbrev ZbB:Stmt:=top 52
section
variable {P:Program}{w:World}{K:W.Frag}{mg:Str->Option Value}{base:Heap}
theorem JS:2<=sizeLine:=by decide
theorem OK {p:Nat}{a:Int}(h:a.natAbs<2 ^ p:=by decide +kernel):Lt2 p a:=h
theorem Zfh {n:Int}(h:n.natAbs<1024):Lt2 9000 n:=Ybm (show n.natAbs<2 ^ 10 by lia) (Nat.pow_le_pow_right (by decide) (by decide))
theorem XA {ns:List Int}{i:Nat}(h:i<ns.length):ns.getD i 0=ns[i]:=by
 rw [Yat,Yax h]
 rfl
theorem ZbC {ns:List Int}{i:Nat}(h:i<ns.length):ns.getD i 0∈ns:=by
 rw [XA h];exact Ycq h
theorem JI {ns:List Int}{i:Int}(h0:0<=i)(h1:i<ns.length):atI (ns.map V.int) i=some (.int (ns.getD i.toNat 0)):=by
 obtain ⟨k,rfl⟩:=Int.eq_ofNat_of_zero_le h0;have q:k<ns.length:=by lia
 refine Gi ?_;show (ns.map V.int)[k]?=some (.int (ns.getD k 0));rw [Yaw,Yat,Yax q]
 rfl
theorem ZbD {xs:List V}{a b:Nat}(q:b<=xs.length)(ha:a<=b):Uc xs (some (a:Int)) (some (b:Int))=(xs.drop a).take (b-a):=by
 unfold Uc;rw [HT.sIx_nat,HT.sIx_nat,Yda q,Yda (Ybc ha q)]
noncomputable def Zei (K:W.Frag):Sp:=λvs H Q _=>∃(a:Addr)(ns:List Int)(k:Nat),vs=[.ref a,.int (k:Int)]/\SqL K H a (ns.map V.int)/\∀z:Int,Q (.int z) H
theorem Zfi:Gu ["script", "k"] ["script", "k"] (Ge Zc8):=⟨rfl,rfl,rfl,by decide +kernel,rfl,by decide +kernel,by decide +kernel⟩
theorem Zej {f:Addr}{fd:FuncData}(F:Fun K "_law_cell_at" "_law_cell_at" Zc8 f fd)(B:mg "len" = none):GV P w K mg base CX0 1 f fd ["script", "k"] (Zei K):=by
 refine F.ok Zfi (λvs H Q E h=>?_) (λL A D s H vs Q E O h=>?_)
 ·obtain ⟨_,_,_,rfl,_⟩:=h
  rfl
 ·obtain ⟨a,ns,k,rfl,G,q⟩:=h;refine ⟨_,Gc (G4 (Gm UG (pv 1) (GA (Zb3 K) rfl B Ydz (Ga (pv 0) Gf)) (Gx _)) (Gg (Gy (Gn (J3 K) (pv 0) (pv 1) (λ_ _=>rfl)))) Gz)
    (Gg (Gy Gd)),?_⟩
  refine ⟨_,rfl,_,rfl,a,_,rfl,.inl G,_,_,rfl,rfl,_,rfl,?_⟩;rw [Yab];refine YK (λz=>?_) (λ_=>q 0);have N:=Ybp z;exact ⟨_,rfl,_,rfl,a,_,_,_,rfl,rfl,G,JI (by lia) N,q _⟩
noncomputable def ZbE:Sp:=λvs H Q _=>∃(c b:Int)(m:Nat),vs=[.int c,.int (m:Int),.int b]/\m<=40/\0<b/\b<=1000/\∀(l:Addr)(row:List Int)(H':Hp),Same H H'->H l=none->H' l=some (.lst (row.map V.int))->row.length=m->(∀x∈row,0<=x/\x<b)->Q (.ref l) H'
theorem scNum:Gu ["cell", "many", "base", "row", "rest", "k", "stir"] ["cell", "many", "base"] (Ge ZbA):=⟨rfl,rfl,rfl,by decide +kernel,rfl,by decide +kernel,by decide +kernel⟩
theorem Zcj {f:Addr}{fd:FuncData}(F:Fun K "_law_numbers" "_law_numbers" ZbA f fd)(D:mg "range" = none):GV P w K mg base CX0 1 f fd ["cell", "many", "base"] ZbE:=by
 refine F.ok scNum (λvs H Q E h=>?_) (λaa A O s H vs Q E hr h=>?_)
 ·obtain ⟨_,_,_,rfl,_⟩:=h
  rfl
 ·obtain ⟨c,b,m,rfl,hm,L,b1,q⟩:=h;have ab:=Ybf.symm;refine ⟨_,Gc (Go (i:=0) scNum.nd rfl (Or.inl rfl) (Gw Js (pv 0) (Gw ZcH (Gw Wf Gd Gd) (Gw Wf Gd Gd))))
    (Gc (Go (i:=3) scNum.nd rfl (Or.inl rfl) (Jh Gf))
    (Gc (Go (i:=4) scNum.nd rfl (Or.inl rfl) (Gw U8 (pv 0) (Gw Wf Gd Gd)))
    (Gc (Jf Ybq rfl (Je rfl D (Ga (pv 1) Gf)) (Gj (i:=5) scNum.nd rfl (Or.inl rfl))
    (Gc (Go (i:=6) scNum.nd rfl (Or.inl rfl) (Gw Js (Gw Uq (Gw G0 (Gw G0 (pv 0) (Gw Uq Gd (pv 5))) Gd) Gd) Gd))
    (Gc (Go (i:=6) scNum.nd rfl (Or.inl rfl) (Gw Js (Gw Uq (pv 6) (pv 6)) Gd))
    (Gc (Go (i:=6) scNum.nd rfl (Or.inl rfl) (Gw On (Gw Js (Gw Uq (Gw G0 (pv 6) (Gw Uq Gd (Gw G0 (pv 5) Gd))) Gd) Gd) Gd))
    (Gc (G4 (Gm YH (pv 0) (Gw Wf Gd Gd) (Gx _)) (Gc (Go (i:=6) scNum.nd rfl (Or.inl rfl) (pv 4))
    (Gg (Go (i:=4) scNum.nd rfl (Or.inl rfl) (Gw On (pv 4) (pv 2))))) Gz)
    (Gg (Jm (U3 Ydg Yea Yeb Ji (pv 3) (Ga (Gw Js (pv 6) (pv 2)) Gf)))))))))
    (Gg (Gy (pv 3)))))),?_⟩
  refine ⟨_,rfl,_,_,rfl,rfl,⟨by decide,by decide,by decide⟩,_,_,rfl,rfl,⟨by decide,by decide,by decide⟩,_,_,rfl,rfl,⟨200,200,OK,OK,by decide,by decide⟩,_,_,rfl,rfl,(by show (0:Int)<10 ^ (45:Int).toNat * 10 ^ (45:Int).toNat;decide),?_⟩;refine ⟨Yav _,λl U=>?_⟩;refine ⟨_,rfl,_,_,rfl,rfl,⟨by decide,by decide,by decide⟩,_,_,rfl,rfl,?_⟩;refine ⟨_,rfl,_,rfl,by lia,by lia,?_⟩;rw [Ybn];refine JC (lo:=0) (n:=m) (λi σ H2=>∃(B:List Int)(G r:Int)(Y Z:Option V),σ=[some (.int G),some (.int (m:Int)),some (.int b),some (.ref l),some (.int r),Y,Z]/\Same H H2/\H2 l=some (.lst (B.map V.int))/\B.length=i/\∀x∈B,0<=x/\x<b) ⟨[],_,_,none,none,rfl,Same.new U,Gb,rfl,λx hx=>(by cases hx)⟩ ?_ ?_
  ·rintro i σ H2 hi ⟨B,G,r,Y,Z,rfl,s2,N,rl,rb⟩;rw [Int.zero_add];refine ⟨_,rfl,_,rfl,_,_,rfl,rfl,.inl ⟨by decide,by decide⟩,_,_,rfl,rfl,_,_,rfl,rfl,_,_,rfl,rfl,.inr ⟨by decide,by decide⟩,_,_,rfl,rfl,(by show (0:Int)<2147483647;decide),?_⟩;refine ⟨_,rfl,_,rfl,_,_,rfl,rfl,.inl ⟨by lia,by lia⟩,_,_,rfl,rfl,(by show (0:Int)<2147483629;decide),?_⟩;refine ⟨_,rfl,_,rfl,_,_,rfl,rfl,_,_,rfl,rfl,.inl ⟨by decide,by decide⟩,_,_,rfl,rfl,_,_,rfl,rfl,.inr ⟨by decide,by decide⟩,_,_,rfl,rfl,(by show (0:Int)<2147483563;decide),_,_,rfl,rfl,⟨by decide,OK⟩,?_⟩
   try dsimp only [Jd]
   refine GO (λσ' H'=>∃(x r:Int),σ'=[some (.int G),some (.int (m:Int)),some (.int b),some (.ref l),some (.int r),some (.int (i:Int)),some (.int x)]/\H'=H2) ?snd ?fst
   case fst=>
    intro hk;refine ⟨_,rfl,_,_,rfl,rfl,⟨by decide,by decide,by decide⟩,_,_,rfl,rfl,_,rfl,?_⟩;refine YK (λ_=>?_) (λ_=>hk _ _ ⟨_,r,rfl,rfl⟩);refine ⟨_,rfl,?_⟩;refine ⟨_,rfl,_,rfl,_,_,rfl,rfl,⟨L,Zfh (by lia)⟩,?_⟩;exact hk _ _ ⟨_,_,rfl,rfl⟩
   case snd=>
    rintro σ' H' ⟨x,r',rfl,rfl⟩;refine ⟨_,rfl,.inl ⟨rfl,_,SqL.of N⟩,_,rfl,_,rfl,_,_,rfl,rfl,L,l,_,_,rfl,rfl,N,by rw [Yab];lia,?_⟩;refine ⟨B++[x % b],G,r',_,_,rfl,s2.put U,by rw [Gb,Yan];rfl,by rw [Yaq,Ych,rl],λy hy=>?_⟩;rcases Yap.mp hy with h | h
    ·exact rb y h
    ·rw [Ybo] at h;subst h;exact ⟨Ycw x (Int.ne_of_gt L),Ycx x L⟩
  ·rintro σ H2 ⟨B,G,r,Y,Z,rfl,s2,N,rl,rb⟩;exact ⟨_,rfl,q l B H2 s2 U N rl rb⟩
structure PrsOk (n:Int)(ps:List (Int×Int)):Prop where
 ok:∀p∈ps,0<=p.1/\p.1<p.2/\p.2<n
 nd:ps.Nodup
theorem PrsOk.sub {n:Int}{ps q:List (Int×Int)}(h:PrsOk n ps)(s:q.Sublist ps):PrsOk n q:=⟨λp B=>h.ok p (s.subset B),h.nd.sublist s⟩
noncomputable def Zdn (n:Nat):Nat->List (Int×Int)
 | 0=>[]
 | i+1=>Zdn n i++(List.range (n-(i+1))).map λj=>((i:Int),(i:Int)+1+((j:Nat):Int))
theorem XB (n:Nat):∀i,i<=n->PrsOk (n:Int) (Zdn n i)/\(∀p∈Zdn n i,p.1<(i:Int))/\(Zdn n i).length<=i * n
 | 0,_=>⟨⟨λp B=>(by cases B),List.nodup_nil⟩,λp B=>(by cases B),Yav _⟩
 | i+1,h=>by
  obtain ⟨h1,h2,h3⟩:=XB n i (by lia);refine ⟨⟨λp B=>?_,?_⟩,λp B=>?_,?_⟩
  ·rcases Yap.mp B with B | B
   ·exact h1.ok p B
   ·obtain ⟨j,D,rfl⟩:=Yba.mp B;have:=Ybv.mp D;dsimp only
    lia
  ·refine Yef.mpr ⟨h1.nd,?_,λp B q G z=>?_⟩
   ·refine Ycl.mpr (List.Pairwise.imp ?_ List.nodup_range);intro a b F z;have:=Ybi Prod.snd z;dsimp only at this;exact F (by lia)
   ·subst z;obtain ⟨j,D,rfl⟩:=Yba.mp G;have:=h2 _ B;dsimp only at this
    lia
  ·rcases Yap.mp B with B | B
   ·have:=h2 p B
    push_cast
    lia
   ·obtain ⟨j,D,rfl⟩:=Yba.mp B
    push_cast
    lia
  ·show (Zdn n i++_).length<=_;rw [Yaq,Yab,Ycp,Nat.succ_mul]
   lia
noncomputable def Zek:Sp:=λvs H Q _=>∃(c:Int)(least most mr:Nat),vs=[.int c,.int (least:Int),.int (most:Int),.int (mr:Int)]/\1<=least/\least<=most/\most<=16/\mr<=30 /\
 ∀(p l:Addr)(xs:List V)(k:Int)(rs:List (Int×Int))(H':Hp),Same H H'->H p=none->H l=none->H' p=some (.tup [.int k,.ref l])->H' l=some (.lst xs)->Prs H' xs rs->GX k rs->(least:Int)<=k->Q (.ref p) H'
theorem scWeb:Gu ["cell", "least", "most", "most_roads", "row", "places", "many", "left", "a", "roads", "number"] ["cell", "least", "most", "most_roads"] (Ge Zc9):=⟨rfl,rfl,rfl,by decide +kernel,rfl,by decide +kernel,by decide +kernel⟩
theorem Zel {f fN:Addr}{fd ap:FuncData}(F:Fun K "_law_web" "_law_web" Zc9 f fd)(FN:Fun K "_law_numbers" "_law_numbers" ZbA fN ap)(bN:Binds K ap ["cell", "many", "base"] [])(mN:mg "_law_numbers" = some (.ref fN))(O:mg "range" = none)(au:mg "len" = none):GV P w K mg base CX0 2 f fd ["cell", "least", "most", "most_roads"] Zek:=by
 have GN:GV P w K mg base CX0 1 fN ap ["cell", "many", "base"] ZbE:=Zcj FN O;refine F.ok scWeb (λvs H Q E h=>?_) (λaO A a9 s H vs Q E hr h=>?_)
 ·obtain ⟨_,_,_,_,rfl,_⟩:=h
  rfl
 ·obtain ⟨c,least,most,Z,rfl,l1,l2,l3,l4,q⟩:=h;have hu:=hr.units;have aP:=Ybf.symm;refine ⟨_,Gc (Go (i:=4) scWeb.nd rfl (Or.inl rfl) (Gk GN (hr.mono (by decide)) rfl mN FN.kp bN .nil GU (Ga (pv 0) (Ga (Gw G0 (pv 3) Gd) (Ga Gd Gf)))))
    (Gc (Go (i:=5) scWeb.nd rfl (Or.inl rfl) (Gw G0 (pv 1) (Gw Js (Gn (J3 K) (pv 4) Gd (λ_ _=>rfl)) (Gw U8 (Gw G0 (pv 2) Gd) (pv 1)))))
    (Gc (Go (i:=6) scWeb.nd rfl (Or.inl rfl) (Gw Js (Gn (J3 K) (pv 4) Gd (λ_ _=>rfl)) (Gw G0 (pv 3) Gd)))
    (Gc (G4 (Gm YH (Gn (J3 K) (pv 4) Gd (λ_ _=>rfl)) Gd (Gx _)) (Gg (Go (i:=6) scWeb.nd rfl (Or.inl rfl) (Gw U8 (pv 3) (Gw On (pv 6) Gd)))) Gz)
    (Gc (Go (i:=7) scWeb.nd rfl (Or.inl rfl) (Jh Gf))
    (Gc (Jf Ybq rfl (Je rfl O (Ga (pv 5) Gf)) (Gj (i:=8) scWeb.nd rfl (Or.inr rfl))
    (Gg (Jm (U3 Ydg PySem.F.slot_list_extend PySem.F.type_list_extend ZA (pv 7) (Ga (Jn (own:=["b"]) rfl (Gq (fr:=[("a", 8)]) [(".0", .local),("b", .local),("a", .cell)] rfl rfl (by decide +kernel) rfl (by decide +kernel) ⟨rfl,trivial⟩ ⟨λh=>G6 h,λh=>G6 h,λ_=>⟨_,rfl⟩,trivial⟩ ⟨⟨rfl,.inl rfl,.inl rfl⟩,trivial⟩) (Zm rfl O (Ga (Gw G0 (pv 8) Gd) (Ga (pv 5) Gf))) (λ_ _ _ _=>Gj (i:=0) (show List.Nodup (["b", "a"]:List Str) by decide +kernel) rfl (Or.inl rfl)) (λ_ _ _ _=>GZ) (λ_ _ _ _=>JE (Ga (pv 1) (Ga (pv 0) Gf)))) Gf)))))
    (Gc (Go (i:=9) scWeb.nd rfl (Or.inl rfl) (Jh Gf))
    (Gc (Jf Ybq rfl (JL K (OM (kSl K) (pv 4) (OG Gd) (OG (Gw G0 Gd (pv 6))))) (Gj (i:=10) scWeb.nd rfl (Or.inl rfl))
    (Gg (G4 (Gm (ZeJ K hu) (pv 7) (Jh Gf) (Gx _)) (Gg (Jm (U3 Ydg Yea Yeb Ji (pv 9) (Ga (U3 Ydg PySem.F.slot_list_pop PySem.F.type_list_pop Za0 (pv 7) (Ga (Gw Js (pv 10) (GA (Zb3 K) rfl au Ydz (Ga (pv 7) Gf))) Gf)) Gf)))) Gz)))
    (Gg (Gy (JE (Ga (pv 5) (Ga (pv 9) Gf)))))))))))),?_⟩
  refine ⟨_,rfl,_,rfl,_,_,rfl,rfl,c,120,Z+2,by rw [show ((Z+2:Nat):Int)=(Z:Int)+2 by push_cast;rfl];rfl,by lia,by decide,by decide,λro B H1 s1 aQ ac rl rb=>?_⟩
  try dsimp only [Jd]
  refine GO (λσ' H'=>∃np:Nat,least<=np/\np<=16/\σ'=[some (.int c),some (.int (least:Int)),some (.int (most:Int)),some (.int (Z:Int)),some (.ref ro),some (.int (np:Int)),none,none,none,none,none]/\H'=H1) ?pl2 ?pl1
  case pl1=>
   intro hk;refine ⟨_,rfl,_,rfl,ro,_,_,_,rfl,rfl,SqL.of ac,JI (i:=0) (by decide) (by lia),_,rfl,_,_,rfl,rfl,_,rfl,_,_,rfl,rfl,_,_,rfl,rfl,(by show (0:Int)<(most:Int)+1-(least:Int);lia),_,_,rfl,rfl,?_⟩;have p0:=Ycw (B.getD (0:Int).toNat 0) (show ((most:Int)+1-(least:Int))≠0 by lia);have p1:=Ycx (B.getD (0:Int).toNat 0) (show (0:Int)<(most:Int)+1-(least:Int) by lia);obtain ⟨np,aA⟩:=Int.eq_ofNat_of_zero_le (show 0<=(least:Int)+B.getD (0:Int).toNat 0 % ((most:Int)+1-(least:Int)) by lia);exact hk _ _ ⟨np,by lia,by lia,by rw [<-aA];rfl,rfl⟩
  rintro σ' H' ⟨np,aR,aq,rfl,rfl⟩;refine GO (λσ' ar=>∃mn:Int,0<=mn/\mn<(Z:Int)+1/\σ'=[some (.int c),some (.int (least:Int)),some (.int (most:Int)),some (.int (Z:Int)),some (.ref ro),some (.int (np:Int)),some (.int mn),none,none,none,none]/\ar=H') ?mn2 ?mn1
  case mn1=>
   intro hk;refine ⟨_,rfl,ro,_,_,_,rfl,rfl,SqL.of ac,JI (i:=1) (by decide) (by lia),_,rfl,_,_,rfl,rfl,_,_,rfl,rfl,(by show (0:Int)<(Z:Int)+1;lia),?_⟩;exact hk _ _ ⟨_,Ycw _ (show ((Z:Int)+1)≠0 by lia),Ycx _ (show (0:Int)<(Z:Int)+1 by lia),rfl,rfl⟩
  rintro σ' ar ⟨mn,q0,q1,rfl,rfl⟩;refine GO (λσ' H1=>∃m:Nat,m<=Z/\σ'=[some (.int c),some (.int (least:Int)),some (.int (most:Int)),some (.int (Z:Int)),some (.ref ro),some (.int (np:Int)),some (.int (m:Int)),none,none,none,none]/\H1=ar) ?after ?many
  case many=>
   intro hk;refine ⟨_,rfl,ro,_,_,_,rfl,rfl,SqL.of ac,JI (i:=1) (by decide) (by lia),_,_,rfl,rfl,_,rfl,?_⟩;refine YK (λ_=>?_) (λ_=>hk _ _ ⟨mn.toNat,by lia,by rw [show ((mn.toNat:Nat):Int)=mn by lia],rfl⟩);refine ⟨_,rfl,_,rfl,_,_,rfl,rfl,⟨by decide,OK⟩,_,_,rfl,rfl,?_⟩;have e1:=Int.ediv_nonneg q0 (show (0:Int)<=4 by decide);have e2:mn / 4<=mn:=Int.ediv_le_self 4 q0;exact hk _ _ ⟨((Z:Int)-mn / 4).toNat,by lia,by rw [show ((((Z:Int)-mn / 4).toNat:Nat):Int)=(Z:Int)-mn / 4 by lia];rfl,rfl⟩
  case after=>
   rintro σ' H' ⟨m,hm,rfl,rfl⟩;refine ⟨Yav _,λU ai=>?_⟩;have s2:=s1.put (o:=.lst []) (s1.free ai);have am:=s1.free ai;have e2:upd H' U (.lst []) U=some (.lst []):=Gb;have an:upd H' U (.lst []) ro=some (.lst (B.map V.int)):=Gv ac (Gh ac ai);have aB:ro≠U:=Gh ac ai;generalize upd H' U (.lst [])=H2 at s2 e2 an ⊢;refine ⟨_,rfl,_,rfl,by lia,by lia,?_⟩;rw [Ybn];refine JC (lo:=0) (n:=np) (λi σ H3=>∃(xs:List V)(v8:Option V),σ=[some (.int c),some (.int (least:Int)),some (.int (most:Int)),some (.int (Z:Int)),some (.ref ro),some (.int (np:Int)),some (.int (m:Int)),some (.ref U),v8,none,none]/\Same H H3/\H3 ro=some (.lst (B.map V.int))/\H3 U=some (.lst xs)/\Prs H3 xs (Zdn np i)) ⟨[],none,rfl,s2,an,e2,.nil⟩ ?_ ?_
   ·rintro i σ H3 hi ⟨xs,v8,rfl,s3,ab,e3,p3⟩;rw [Int.zero_add];refine ⟨_,rfl,.inl ⟨rfl,_,SqL.of e3⟩,?_⟩;refine ⟨_,rfl,_,_,rfl,rfl,_,rfl,_,_,rfl,⟨by lia,by lia,by lia,by lia⟩,λD hD=>?_⟩;have hn:((np:Int)-((i:Int)+1)).toNat=np-(i+1):=by lia
    rw [hn];refine Om (lo:=(i:Int)+1) (n:=np-(i+1)) (λj ys H4=>Same H3 H4/\H4 D=some (.lst ys)/\Prs H4 ys ((List.range j).map λj=>((i:Int),(i:Int)+1+((j:Nat):Int)))) ⟨Same.new hD,Gb,.nil⟩ ?_ ?_
    ·rintro j ys H4 hj ⟨s4,af,p4⟩;refine ⟨⟨rfl,trivial⟩,?_⟩;unfold WW;refine GY ?_;refine ⟨_,rfl,_,rfl,JS,λt ht=>?_⟩;have aC:D≠t:=Gh af ht;have aD:ys.length<sizeLine:=by
      have:=p4.len;rw [Yab,Ycp] at this
      lia
     obtain ⟨a1,a2,a3⟩:=Vy (a:=(i:Int)) (b:=(i:Int)+1+(j:Int)) s4 hD af p4 ht;refine ⟨Gv af aC,aD,a1,a2,?_⟩;rw [List.range_succ,Yan];exact a3
    ·rintro ys H4 ⟨s4,af,p4⟩;have e4:=s4 _ _ e3;have aS:=p3.len;have aE:=p4.len;rw [Yab,Ycp] at aE;have hb:=(XB np i (by lia)).2.2;have aF:i * np<=16 * 16:=Nat.mul_le_mul (by lia) aq;refine ⟨U,D,_,_,rfl,rfl,e4,af,by lia,?_⟩;refine ⟨_,_,rfl,(s3.trans s4).put am,Gv (s4 _ _ ab) aB,Gb,?_⟩;exact ((p3.same s4).keep (OQ e4)).app (p4.keep (OQ e4))
   ·rintro σ H3 ⟨xs,v8,rfl,s3,ab,e3,p3⟩;obtain ⟨aG,_,aM⟩:=XB np np (Yaf _);have aF:np * np<=16 * 16:=Nat.mul_le_mul aq aq;refine ⟨Yav _,λrd aj=>?_⟩;have ag:=s3.free aj;have ak:U≠rd:=Gh e3 aj;have s4:=s3.put (o:=.lst []) ag;have e4:upd H3 rd (.lst []) U=some (.lst xs):=Gv e3 ak;have r4:upd H3 rd (.lst []) rd=some (.lst []):=Gb;have ao:upd H3 rd (.lst []) ro=some (.lst (B.map V.int)):=Gv ab (Gh ab aj);have p4:=p3.keep (JX (o:=.lst []) aj);generalize upd H3 rd (.lst [])=H4 at s4 e4 r4 ao p4 ⊢;refine ⟨_,rfl,_,rfl,_,rfl,_,_,rfl,rfl,_,rfl,ro,_,rfl,SqL.of ao,λcu ad=>?_⟩;have aH:Uc (B.map V.int) (some 2) (some (2+(m:Int)))=((B.drop 2).take m).map V.int:=by
     have:=ZbD (xs:=B.map V.int) (a:=2) (b:=2+m) (by rw [Yab];lia) (by lia);rw [show ((2:Nat):Int)=2 by rfl,show ((2+m:Nat):Int)=2+(m:Int) by push_cast;rfl] at this;rw [this,List.map_take,List.map_drop,show 2+m-2=m by lia]
    have av:=s4.free ad;have aw:cu≠rd:=λz=>by rw [z,r4] at ad;cases ad
    have ax:cu≠U:=λz=>by rw [z,e4] at ad;cases ad
    refine ⟨cu,rfl,⟨_,SqL.of Gb⟩,?_⟩;have s5:=s4.put (o:=.lst (Uc (B.map V.int) (some 2) (some (2+(m:Int))))) av;have e5:=Gv (o:=.lst (Uc (B.map V.int) (some 2) (some (2+(m:Int))))) e4 (Ne.symm ax);have r5:=Gv (o:=.lst (Uc (B.map V.int) (some 2) (some (2+(m:Int))))) r4 (Ne.symm aw);have c5:upd H4 cu (.lst (Uc (B.map V.int) (some 2) (some (2+(m:Int))))) cu=some (.lst (((B.drop 2).take m).map V.int)):=by rw [Gb,aH]
    have p5:=p4.keep (JX (o:=.lst (Uc (B.map V.int) (some 2) (some (2+(m:Int))))) ad);generalize upd H4 cu (.lst (Uc (B.map V.int) (some 2) (some (2+(m:Int)))))=H5 at s5 e5 r5 c5 p5 ⊢;have aT:=p5.len;refine Jq (K:=K) (a:=cu) (xs:=((B.drop 2).take m).map V.int) (λi σ H6=>∃(G L:List V)(Y N:List (Int×Int))(as:Option V),σ=[some (.int c),some (.int (least:Int)),some (.int (most:Int)),some (.int (Z:Int)),some (.ref ro),some (.int (np:Int)),some (.int (m:Int)),some (.ref U),v8,some (.ref rd),as]/\Same H H6/\H6 cu=some (.lst (((B.drop 2).take m).map V.int)) /\
      H6 U=some (.lst G)/\Prs H6 G Y/\H6 rd=some (.lst L)/\Prs H6 L N/\PrsOk (np:Int) (N++Y)/\N.length<=i/\G.length<=16 * 16) ⟨xs,[],_,[],none,rfl,s5,c5,e5,p5,r5,.nil,aG,Yav _,by lia⟩ (by rintro i σ H6 _ ⟨_,_,_,_,_,_,_,z,_⟩;exact SqL.of z) ?_ ?_
    ·rintro i x σ H6 ah ⟨G,L,Y,N,as,rfl,s6,c6,e6,pL,r6,pR,pk,ay,az⟩;rw [Yaw] at ah;cases hz:((B.drop 2).take m)[i]? with
     | none=>rw [hz] at ah;cases ah
     | some nu=>
      rw [hz] at ah;cases ah;have aI:i<((B.drop 2).take m).length:=(Yay.mp hz).1;have aN:i<m:=by rw [Ybj] at aI;lia
      refine ⟨_,rfl,Yav _,λem ae=>?_⟩;have a0:U≠em:=Gh e6 ae;have a4:rd≠em:=Gh r6 ae;have a5:cu≠em:=Gh c6 ae;have s7:=s6.put (o:=.lst []) (s6.free ae);have e7:upd H6 em (.lst []) U=some (.lst G):=Gv e6 a0;have r7:upd H6 em (.lst []) rd=some (.lst L):=Gv r6 a4;have c7:upd H6 em (.lst []) cu=some (.lst (((B.drop 2).take m).map V.int)):=Gv c6 a5;have aa:=pL.keep (JX (o:=.lst []) ae);have al:=pR.keep (JX (o:=.lst []) ae);have a6:upd H6 em (.lst []) em=some (.lst []):=Gb;generalize upd H6 em (.lst [])=H7 at s7 e7 r7 c7 aa al a6 ⊢;refine ⟨.list (Y.map prD),.list [],.lst (SqL.of e7) aa.dats,.lst (SqL.of a6) .nil,YL _,by decide,_,rfl,?_⟩;have aJ:=aa.len;have aU:=al.len;cases hps:Y with
      | nil=>
       refine G5 ?_;rw [hps] at aa pk;exact ⟨G,L,[],N,_,rfl,s7,c7,e7,aa,r7,al,pk,by lia,az⟩
      | cons p0 ps0=>
       have hpos:0<G.length:=by rw [aJ,hps];exact Nat.succ_pos _
       have a7:(true != PyData.eqv (.list ((p0::ps0).map prD)) (.list []))=true:=by rfl
       rw [<-hps];rw [<-hps] at a7;rw [a7];refine GY ?_;refine ⟨_,rfl,.inl ⟨rfl,_,SqL.of r7⟩,_,rfl,.inl ⟨rfl,_,SqL.of e7⟩,_,rfl,_,rfl,U,_,rfl,.inl (SqL.of e7),_,_,rfl,rfl,(by show (0:Int)<(G.length:Int);lia),?_⟩;have k0:=Ycw nu (show (G.length:Int)≠0 by lia);have k1:=Ycx nu (show (0:Int)<(G.length:Int) by lia);generalize ekk:nu % (G.length:Int)=kk at k0 k1;have hk:kk.toNat<G.length:=by lia
       have hy:G[kk.toNat]?=some G[kk.toNat]:=Yax hk;obtain ⟨t,r,et,aK,er⟩:=aa.get hy;refine ⟨U,G,kk,kk.toNat,_,rfl,(by rw [<-ekk]),e7,by lia,by lia,Ze7 k0 k1,hy,?_⟩;refine ⟨rd,L,_,rfl,rfl,Gv r7 (Ne.symm ak),by lia,?_⟩;have q1:=OQ (o:=.lst (G.eraseIdx kk.toNat)) e7;have q2:=OQ (H:=upd H7 U (.lst (G.eraseIdx kk.toNat))) (l:=rd) (zs:=L) (o:=.lst (L++[G[kk.toNat]])) (Gv r7 (Ne.symm ak));refine ⟨G.eraseIdx kk.toNat,L++[G[kk.toNat]],Y.eraseIdx kk.toNat,N++[r],_,rfl,(s7.put am).put ag,Gv (Gv c7 ax) aw,Gv Gb ak,((aa.erase _).keep q1).keep q2,Gb,?_,?_,?_,?_⟩
       ·rw [et];rw [et] at q2;exact ((al.keep q1).keep q2).snoc (q2 _ _ (q1 _ _ aK))
       ·have pm:=Vz Y N kk.toNat r er;exact ⟨λp hp=>pk.ok p (pm.mem_iff.mp hp),pm.nodup_iff.mpr pk.nd⟩
       ·rw [Yaq,Ych];lia
       ·rw [List.length_eraseIdx_of_lt hk];lia
    ·rintro σ H6 ⟨G,L,Y,N,as,rfl,s6,c6,e6,pL,r6,pR,pk,ay,az⟩;rw [Yab,Ybj] at ay;refine ⟨_,rfl,_,rfl,JS,λp hp=>?_⟩;have aL:rd≠p:=Gh r6 hp;have a8:PrsOk (np:Int) N:=pk.sub (List.sublist_append_left _ _);exact q p rd L np N _ (s6.put (s6.free hp)) (s6.free hp) ag Gb (Gv r6 aL) (pR.keep (JX hp)) ⟨by lia,by lia,by lia,a8.ok,a8.nd⟩ (by lia)
structure WebAt (H:Hp)(wb l:Addr)(k:Int)(xs:List V)(rs:List (Int×Int)):Prop where
 w:H wb=some (.tup [.int k,.ref l])
 l:H l=some (.lst xs)
 p:Prs H xs rs
theorem WebAt.same {H H':Hp}{q l:Addr}{k:Int}{xs:List V}{rs:List (Int×Int)}(h:WebAt H q l k xs rs)(s:Same H H'):WebAt H' q l k xs rs:=⟨s _ _ h.w,s _ _ h.l,h.p.same s⟩
noncomputable def Zdb (C:Addr):Sp:=λvs H Q E=>∃(q l:Addr)(k i:Int)(xs:List V),vs=[.ref q,.int i]/\H q=some (.tup [.int k,.ref l])/\H l=some (.lst xs)/\(((0<=i/\i<=xs.length)/\Q .non H)\/(¬ (0<=i/\i<=xs.length)/\E (.ref C) none H))
theorem Zfj:Gu ["web", "i"] ["web", "i"] (Ge Zci):=⟨rfl,rfl,rfl,by decide +kernel,rfl,by decide +kernel,by decide +kernel⟩
theorem Zem {f C:Addr}{fd:FuncData}(F:Fun K "check_step" "check_step" Zci f fd)(O:mg "NoStep" = some (.ref C))(U:ExcC K C)(L:mg "len" = none):GV P w K mg base (CXr P w) 1 f fd ["web", "i"] (Zdb C):=by
 refine F.okR Zfj (λvs H Q E h=>?_) (λY A N s H vs Q E hr h=>?_)
 ·obtain ⟨_,_,_,_,_,rfl,_⟩:=h
  rfl
 ·obtain ⟨Z,l,k,i,xs,rfl,hw,hl,h⟩:=h;refine ⟨_,Gg (G4 (JB (ZaZ ZaX ZaX Gd (pv 1) (GA (Zb3 K) rfl L Ydz (Ga (Gn (Jg K) (pv 0) Gd (λ_ _=>rfl)) Gf)))) (Gg (Vx (E:=E) rfl J8 rfl O U (Ga Zh Gf))) Gz),?_⟩;refine ⟨_,rfl,_,_,rfl,rfl,_,rfl,YK (λh0=>?_) (λh0=>?_)⟩
  ·have D:=Ybp h0;refine ⟨_,rfl,Z,_,_,_,rfl,rfl,SqT.of hw,Gi (j:=1) rfl,l,_,rfl,.inl (SqL.of hl),_,_,rfl,rfl,_,rfl,?_⟩;rcases h with ⟨G,q⟩ | ⟨B,q⟩
   ·rw [Yae G.2];exact G5 q
   ·rw [Yai λz=>B ⟨D,z⟩];exact GY ⟨by decide,q⟩
  ·have D:¬ 0<=i:=λz=>h0 (Yae z);refine ⟨_,rfl,?_⟩;rcases h with ⟨G,q⟩ | ⟨B,q⟩
   ·exact absurd G.1 D
   ·exact GY ⟨by decide,q⟩
noncomputable def Zfk:Sp:=λvs H Q _=>∃(q l:Addr)(k p:Int),vs=[.ref q,.int p]/\H q=some (.tup [.int k,.ref l])/\Q (.bl (decide (0<=p/\p<k))) H
theorem ZgW:Gu ["web", "place"] ["web", "place"] (Ge sIs):=⟨rfl,rfl,rfl,by decide +kernel,rfl,by decide +kernel,by decide +kernel⟩
theorem Zen {f:Addr}{fd:FuncData}(F:Fun K "is_place" "is_place" sIs f fd):GV P w K mg base CX0 1 f fd ["web", "place"] Zfk:=by
 refine F.ok ZgW (λvs H Q E h=>?_) (λG A D s H vs Q E O h=>?_)
 ·obtain ⟨_,_,_,_,rfl,_⟩:=h
  rfl
 ·obtain ⟨L,l,k,p,rfl,N,q⟩:=h;refine ⟨_,Gg (Gy (ZaY ZaX UG Gd (pv 1) (Gn (Jg K) (pv 0) Gd (λ_ _=>rfl)))),?_⟩;refine ⟨_,rfl,_,_,rfl,rfl,_,rfl,YK (λh0=>?_) (λh0=>?_)⟩
  ·refine ⟨_,rfl,L,_,_,_,rfl,rfl,SqT.of N,Gi (j:=0) rfl,_,_,rfl,rfl,?_⟩;have B:=Ybp h0;have e:decide (p<k)=decide (0<=p/\p<k):=by
    by_cases h1:p<k
    ·rw [Yae h1,Yae (⟨B,h1⟩:0<=p/\p<k)]
    ·rw [Yai h1,Yai λz=>h1 z.2]
   show Q (.bl (decide (p<k))) H;rw [e];exact q
  ·have B:¬ 0<=p:=λz=>h0 (Yae z);have e:decide (0<=p/\p<k)=false:=Yai λz=>B z.1;rw [e] at q;exact q
noncomputable def Zeo (C:Addr):Sp:=λvs H Q E=>∃(q l:Addr)(k p:Int),vs=[.ref q,.int p]/\H q=some (.tup [.int k,.ref l])/\(((0<=p/\p<k)/\Q .non H)\/(¬ (0<=p/\p<k)/\E (.ref C) none H))
theorem Zfl:Gu ["web", "place"] ["web", "place"] (Ge Zc3):=⟨rfl,rfl,rfl,by decide +kernel,rfl,by decide +kernel,by decide +kernel⟩
theorem Zep {f G C:Addr}{fd B:FuncData}(F:Fun K "check_place" "check_place" Zc3 f fd)(O:Fun K "is_place" "is_place" sIs G B)(U:Binds K B ["web", "place"] [])(Y:mg "is_place" = some (.ref G))(Z:mg "NoPlace" = some (.ref C))(xC:ExcC K C) :
  GV P w K mg base (CXr P w) 2 f fd ["web", "place"] (Zeo C):=by
 have GI:GV P w K mg base CX0 1 G B ["web", "place"] Zfk:=Zen O;refine F.okR Zfl (λvs H Q E h=>?_) (λaa A L s H vs Q E hr h=>?_)
 ·obtain ⟨_,_,_,_,rfl,_⟩:=h
  rfl
 ·obtain ⟨wb,l,k,p,rfl,hw,h⟩:=h;refine ⟨_,Gg (G4 (JB (Jl (Gk GI (hr.mono (by decide)) rfl Y O.kp U .nil GU (Ga (pv 0) (Ga (pv 1) Gf))))) (Gg (Vx (E:=E) rfl J8 rfl Z xC (Ga Zh Gf))) Gz),?_⟩;refine ⟨_,rfl,_,rfl,wb,l,k,p,rfl,hw,⟨_,rfl,?_⟩⟩;rcases h with ⟨N,q⟩ | ⟨D,q⟩
  ·rw [Yae N];refine G5 ?_;exact q
  ·rw [Yai D];refine GY ?_;exact ⟨by decide,q⟩
noncomputable def O6 (r:Int×Int)(p:Int):Bool:=decide (r.1=p\/r.2=p)
theorem Zfm (p a b:Int):inV (.int p) [.int a,.int b]=O6 (a,b) p:=by
 unfold inV O6;by_cases h1:a=p <;> by_cases h2:b=p <;> simp [eqV,h1,h2]
noncomputable def ZaT (rs:List (Int×Int))(p:Int):List Int:=(rs.filter λr=>O6 r p).map λr=>r.1+r.2-p
theorem ZbF (rs:List (Int×Int))(p:Int):(ZaT rs p).length<=rs.length:=by
 unfold ZaT;rw [Yab];exact Yct _ _
theorem ZaD (rs:List (Int×Int))(p:Int)(i:Nat){r:Int×Int}(h:rs[i]?=some r):ZaT (rs.take (i+1)) p=ZaT (rs.take i) p++(if O6 r p=true then [r.1+r.2-p] else []):=by
 unfold ZaT;rw [Ybt,h];show List.map _ (List.filter _ (rs.take i++[r]))=_;rw [List.filter_append,Yan,List.filter_cons,List.filter_nil];by_cases z:O6 r p=true
 ·rw [if_pos z,if_pos z];rfl
 ·rw [if_neg z,if_neg z];rfl
noncomputable def Zeq (C:Addr):Sp:=λvs H Q E=>∃(q l:Addr)(k p:Int)(xs:List V)(rs:List (Int×Int)),vs=[.ref q,.int p]/\WebAt H q l k xs rs/\xs.length<=60 /\
 (((0<=p/\p<k)/\∀(r:Addr)(ns:List Int)(H':Hp),Same H H'->H r=none->H' r=some (.lst (ns.map V.int))->ns.Perm (ZaT rs p)->ns.Pairwise (· <= ·)->Q (.ref r) H')\/(¬ (0<=p/\p<k)/\E (.ref C) none H))
theorem Zfn:Gu ["web", "place"] ["web", "place"] (Ge Zc4):=⟨rfl,rfl,rfl,by decide +kernel,rfl,by decide +kernel,by decide +kernel⟩
theorem Zer {f fH C:Addr}{fd L:FuncData}(F:Fun K "beside" "beside" Zc4 f fd)(FH:Fun K "check_place" "check_place" Zc3 fH L)(bH:Binds K L ["web", "place"] [])(mH:mg "check_place" = some (.ref fH))(GH:GV P w K mg base (CXr P w) 2 fH L ["web", "place"] (Zeo C))(N:mg "sorted" = none):GV P w K mg base (CXr P w) 3 f fd ["web", "place"] (Zeq C):=by
 refine F.okR Zfn (λvs H Q E h=>?_) (λac A aa s H vs Q E Z h=>?_)
 ·obtain ⟨_,_,_,_,_,_,rfl,_⟩:=h
  rfl
 ·obtain ⟨wb,l,k,p,xs,rs,rfl,W,hx,h⟩:=h;have ad:=Ybf.symm;refine ⟨_,Gc (Jm (Gk GH (Z.mono (by decide)) rfl mH FH.kp bH .nil Za6 (Ga (pv 0) (Ga (pv 1) Gf))))
    (Gg (Gy (GA (ZcM K) rfl N PyProof.Rows.boot_sorted (Ga (Jn (own:=["a", "b"]) rfl (Gq (fr:=[("place", 1)]) [(".0", .local),("a", .local),("b", .local),("place", .cell)] rfl rfl (by decide +kernel) rfl (by decide +kernel) ⟨rfl,trivial⟩ ⟨λh=>G6 h,λh=>G6 h,λh=>G6 h,λ_=>⟨_,rfl⟩,trivial⟩ ⟨⟨rfl,.inl rfl,.inl rfl⟩,trivial⟩) (JL K (Gn (Jg K) (pv 0) Gd (λ_ _=>rfl))) (λ_ _ _ _=>Zb4 K (n:=2) rfl (GT (Gj (i:=0) (show List.Nodup (["a", "b", "place"]:List Str) by decide +kernel) rfl (Or.inl rfl)) (GT (Gj (i:=1) (show List.Nodup (["a", "b", "place"]:List Str) by decide +kernel) rfl (Or.inl rfl)) J6))) (λ_ _ _ _=>OP (Gm (kIn K) (pv 2) (JE (Ga (pv 0) (Ga (pv 1) Gf))) (by with_unfolding_all rfl))) (λ_ _ _ _=>Gw U8 (Gw G0 (pv 0) (pv 1)) (pv 2))) Gf)))),?_⟩
  rcases h with ⟨ab,q⟩ | ⟨O,q⟩
  ·refine ⟨_,rfl,_,rfl,wb,l,k,p,rfl,W.w,.inl ⟨ab,?_⟩⟩;refine ⟨_,rfl,wb,_,_,_,rfl,rfl,SqT.of W.w,Gi (j:=1) rfl,l,rfl,⟨_,SqL.of W.l⟩,λD hD=>?_⟩;refine G3 (K:=K) (a:=l) (xs:=xs) (λi ys H2=>Same H H2/\H2 D=some (.lst ys)/\ys=(ZaT (rs.take i) p).map V.int) ⟨Same.new hD,Gb,rfl⟩ (by rintro i ys H2 _ ⟨G,_⟩;exact SqL.of (G _ _ W.l)) ?_ ?_
   ·rintro i x ys H2 U ⟨G,B,rfl⟩;obtain ⟨t,r,rfl,et,er⟩:=W.p.get U;have hi:i<xs.length:=(Yay.mp U).1;refine ⟨t,_,rfl,SqT.of (G _ _ et),rfl,_,_,rfl,_,_,rfl,rfl,⟨rfl,trivial⟩,?_⟩;refine ⟨_,rfl,_,rfl,_,rfl,JS,λT hT=>⟨T,_,rfl,.inr (SqT.of Gb),rfl,rfl,_,rfl,?_⟩⟩;show if (inV (.int p) [.int r.1,.int r.2])=true then _ else _
    have sc:=ZaD rs p i er;have s3:Same H (upd H2 T (.tup [.int r.1,.int r.2])):=G.put (G.free hT);have Y:D≠T:=Gh B hT;rw [Zfm];refine YK (λz=>?_) (λz=>?_)
    ·rw [if_pos z] at sc;refine ⟨_,rfl,_,rfl,_,_,rfl,rfl,_,rfl,_,_,rfl,rfl,Gv B Y,?_,s3.put hD,Gb,by rw [sc,Yan];rfl⟩;rw [Yab];have:=ZbF (rs.take i) p;rw [Ybj] at this
     lia
    ·rw [if_neg z,Ycg] at sc;exact ⟨s3,Gv B Y,by rw [sc]⟩
   ·rintro ys H2 ⟨G,B,rfl⟩;rw [W.p.len,Ybz] at B;refine ⟨D,_,rfl,SqL.of B,?_,λr ns Z hp hs=>q r ns _ (G.put (G.free Z)) (G.free Z) Gb hp hs⟩;unfold ZaT;rw [Yab];have:=Yct (λr=>O6 r p) rs;have:=W.p.len
    lia
  ·exact ⟨_,rfl,_,rfl,wb,l,k,p,rfl,W.w,.inr ⟨O,q⟩⟩
noncomputable def Ends (k p q:Int):Prop:=(0<=p/\p<k)/\(0<=q/\q<k)/\p≠q
noncomputable def Zes (C:Addr):Sp:=λvs H Q E=>∃(B l:Addr)(k p q:Int),vs=[.ref B,.int p,.int q]/\H B=some (.tup [.int k,.ref l])/\((Ends k p q/\Q .non H)\/(¬ Ends k p q/\E (.ref C) none H))
theorem Zfo:Gu ["web", "one", "other"] ["web", "one", "other"] (Ge Zc6):=⟨rfl,rfl,rfl,by decide +kernel,rfl,by decide +kernel,by decide +kernel⟩
theorem Zet {f D C:Addr}{fd B:FuncData}(F:Fun K "check_ends" "check_ends" Zc6 f fd)(G:Fun K "is_place" "is_place" sIs D B)(O:Binds K B ["web", "place"] [])(U:mg "is_place" = some (.ref D))(mC:mg "NoEnds" = some (.ref C))(xC:ExcC K C) :
  GV P w K mg base (CXr P w) 2 f fd ["web", "one", "other"] (Zes C):=by
 have Y:GV P w K mg base CX0 1 D B ["web", "place"] Zfk:=Zen G;refine F.okR Zfo (λvs H Q E h=>?_) (λaa A L s H vs Q E Z h=>?_)
 ·obtain ⟨_,_,_,_,_,rfl,_⟩:=h
  rfl
 ·obtain ⟨wb,l,k,p,q,rfl,hw,h⟩:=h;refine ⟨_,Gg (G4 (PW.pt (Ox (JB (Jl (Gk Y (Z.mono (by decide)) rfl U G.kp O .nil GU (Ga (pv 0) (Ga (pv 1) Gf))))) (Ox (JB (Jl (Gk Y (Z.mono (by decide)) rfl U G.kp O .nil GU (Ga (pv 0) (Ga (pv 2) Gf))))) (J5 (Gm JK (pv 1) (pv 2) (Gx _)))))) (Gg (Vx (E:=E) rfl J8 rfl mC xC (Ga Zh Gf))) Gz),?_⟩;refine ⟨_,rfl,_,rfl,wb,l,k,p,rfl,hw,⟨_,rfl,?_⟩⟩;by_cases h1:0<=p/\p<k
  ·rw [Yae h1];refine G5 ?_;refine ⟨_,rfl,_,rfl,wb,l,k,q,rfl,hw,⟨_,rfl,?_⟩⟩;by_cases h2:0<=q/\q<k
   ·rw [Yae h2];refine G5 ?_;refine ⟨_,rfl,_,rfl,rfl,_,rfl,?_⟩;by_cases N:p=q
    ·subst N;rw [Yae rfl];refine GY ?_;rcases h with ⟨g,_⟩ | ⟨_,e⟩
     ·exact absurd rfl g.2.2
     ·exact ⟨by decide,e⟩
    ·rw [Yai λe=>N (V.int.inj e)];refine G5 ?_;rcases h with ⟨_,y⟩ | ⟨g,_⟩
     ·exact y
     ·exact absurd ⟨h1,h2,N⟩ g
   ·rw [Yai h2];refine GY ?_;rcases h with ⟨g,_⟩ | ⟨_,e⟩
    ·exact absurd g.2.1 h2
    ·exact ⟨by decide,e⟩
  ·rw [Yai h1];refine GY ?_;rcases h with ⟨g,_⟩ | ⟨_,e⟩
   ·exact absurd g.1 h1
   ·exact ⟨by decide,e⟩
end
section
noncomputable def JU (rs:List (Int×Int))(c:Int):Int×Int:=rs.getD c.toNat (0,0)
noncomputable def JP (r:Int×Int)(d:Int->Nat):Int->Nat:=λx=>(if x=r.1 then 1 else 0)+(if x=r.2 then 1 else 0)+d x
noncomputable def JN (r:Int×Int)(lab:Int->Int):Int->Int:=λx=>if lab x=lab r.1 then lab r.2 else lab x
noncomputable def degF (rs:List (Int×Int))(c:List Int):Int->Nat:=c.foldl (λd q=>JP (JU rs q) d) (λ_=>0)
noncomputable def UD (rs:List (Int×Int))(c:List Int):Option (Int->Int):=c.foldl (λl q=>l.bind λlab=>if lab (JU rs q).1=lab (JU rs q).2 then none else some (JN (JU rs q) lab)) (some id)
theorem JT (rs:List (Int×Int))(c:List Int)(q:Int):degF rs (c++[q])=JP (JU rs q) (degF rs c):=by
 unfold degF;rw [List.foldl_append]
 rfl
theorem O7 (rs:List (Int×Int))(c:List Int)(q:Int):UD rs (c++[q])=(UD rs c).bind λlab=>if lab (JU rs q).1=lab (JU rs q).2 then none else some (JN (JU rs q) lab):=by
 unfold UD;rw [List.foldl_append]
 rfl
structure Mt (d:Int->Nat)(lab mate:Int->Int):Prop where
 m:∀x,d x=1->d (mate x)=1/\mate x≠x/\lab (mate x)=lab x
 u:∀x y,d x=1->d y=1->lab x=lab y->y=x\/y=mate x
 z:∀x y,d x=0->lab x=lab y->y=x
 e:∀x,d x≠0->∃y,d y=1/\lab y=lab x
theorem Mt.start:Mt (λ_=>0) id id:=⟨λx h=>(by cases h),λx y h=>(by cases h),λx y _ h=>h.symm,λx h=>absurd rfl h⟩
noncomputable def farO (d:Int->Nat)(mate:Int->Int)(a:Int):Int:=if d a=0 then a else mate a
noncomputable def Oy (q B:Int)(mate:Int->Int):Int->Int:=λx=>if x=q then B else if x=B then q else mate x
theorem Jj {r:Int×Int}{d:Int->Nat}{x:Int}(h1:x≠r.1)(h2:x≠r.2):JP r d x=d x:=by
 unfold JP;rw [if_neg h1,if_neg h2]
 lia
theorem JO (r:Int×Int)(d:Int->Nat)(x:Int):d x<=JP r d x:=by
 unfold JP
 lia
theorem Ju {r:Int×Int}{d:Int->Nat}(h:r.1≠r.2):JP r d r.1=1+d r.1:=by
 unfold JP;rw [if_pos rfl,if_neg h]
theorem Jx {r:Int×Int}{d:Int->Nat}(h:r.1≠r.2):JP r d r.2=1+d r.2:=by
 unfold JP;rw [if_pos rfl,if_neg (Ne.symm h)]
theorem V4 {r:Int×Int}{lab:Int->Int}{x y:Int}(h:lab x=lab y):JN r lab x=JN r lab y:=by
 unfold JN;rw [h]
section
variable {d:Int->Nat}{lab mate:Int->Int}{r:Int×Int}
theorem Mt.far (h:Mt d lab mate)(D:r.1≠r.2)(N:lab r.1≠lab r.2)(ha:d r.1<=1)(hb:d r.2<=1) :
  (lab (farO d mate r.1)=lab r.1/\JP r d (farO d mate r.1)=1/\(∀x,JP r d x=1->lab x=lab r.1->x=farO d mate r.1)) /\
  (lab (farO d mate r.2)=lab r.2/\JP r d (farO d mate r.2)=1/\(∀x,JP r d x=1->lab x=lab r.2->x=farO d mate r.2)):=by
 constructor
 ·unfold farO;by_cases h0:d r.1=0
  ·rw [if_pos h0];refine ⟨rfl,by rw [Ju D,h0],λx _ q=>h.z _ _ h0 q.symm⟩
  ·rw [if_neg h0];have h1:d r.1=1:=by lia
   obtain ⟨O,U,F⟩:=h.m _ h1;have Y:mate r.1≠r.2:=λz=>N (by rw [<-F,z]);refine ⟨F,by rw [Jj U Y,O],λx q B=>?_⟩;have G:x≠r.2:=λz=>N (by rw [<-B,z]);by_cases L:x=r.1
   ·subst L;rw [Ju D] at q
    lia
   ·rw [Jj L G] at q;exact (h.u _ _ h1 q B.symm).resolve_left L
 ·unfold farO;by_cases h0:d r.2=0
  ·rw [if_pos h0];refine ⟨rfl,by rw [Jx D,h0],λx _ q=>h.z _ _ h0 q.symm⟩
  ·rw [if_neg h0];have h1:d r.2=1:=by lia
   obtain ⟨O,U,F⟩:=h.m _ h1;have Z:mate r.2≠r.1:=λz=>N (by rw [<-F,z]);refine ⟨F,by rw [Jj Z U,O],λx q B=>?_⟩;have L:x≠r.1:=λz=>N (by rw [<-B,z]);by_cases G:x=r.2
   ·subst G;rw [Jx D] at q
    lia
   ·rw [Jj L G] at q;exact (h.u _ _ h1 q B.symm).resolve_left G
theorem Mt.add (h:Mt d lab mate)(U:r.1≠r.2)(hl:lab r.1≠lab r.2)(ha:d r.1<=1)(hb:d r.2<=1) :
  Mt (JP r d) (JN r lab) (Oy (farO d mate r.1) (farO d mate r.2) mate):=by
 obtain ⟨⟨Y,a2,a3⟩,⟨b1,b2,b3⟩⟩:=h.far U hl ha hb;generalize farO d mate r.1=fa at *;generalize farO d mate r.2=fb at *;have N:fa≠fb:=λz=>hl (by rw [<-Y,<-b1,z]);have O:∀x,lab x=lab r.1->JN r lab x=lab r.2:=λx B=>by unfold JN;rw [if_pos B]
 have Lb:∀x,lab x=lab r.2->JN r lab x=lab r.2:=λx B=>by
  unfold JN;rw [if_neg (by rw [B];exact Ne.symm hl),B]
 have Lc:∀x,lab x≠lab r.1->JN r lab x=lab x:=λx B=>by unfold JN;rw [if_neg B]
 have G:∀x,lab x≠lab r.1->lab x≠lab r.2->JP r d x=d x:=λx h1 h2=>Jj (λz=>h1 (by rw [z])) (λz=>h2 (by rw [z]));have mO:∀x,lab x≠lab r.1->lab x≠lab r.2->Oy fa fb mate x=mate x:=λx h1 h2=>by
  unfold Oy;rw [if_neg (λz=>h1 (by rw [z,Y])),if_neg (λz=>h2 (by rw [z,b1]))]
 refine ⟨λx B=>?_,λx y B Z q=>?_,λx y B q=>?_,λx B=>?_⟩
 ·by_cases D:lab x=lab r.1
  ·have:=a3 x B D;subst this;unfold Oy;rw [if_pos rfl];exact ⟨b2,Ne.symm N,by rw [Lb _ b1,O _ Y]⟩
  ·by_cases F:lab x=lab r.2
   ·have:=b3 x B F;subst this;unfold Oy;rw [if_neg (Ne.symm N),if_pos rfl];exact ⟨a2,N,by rw [Lb _ b1,O _ Y]⟩
   ·rw [mO x D F];rw [G x D F] at B;obtain ⟨m1,m2,m3⟩:=h.m x B;exact ⟨by rw [G _ (by rw [m3];exact D) (by rw [m3];exact F),m1],m2,V4 m3⟩
 ·by_cases D:lab x=lab r.1
  ·have ex:=a3 x B D;subst ex;rw [O _ D] at q;by_cases L:lab y=lab r.1
   ·exact .inl (a3 y Z L)
   ·rw [Lc _ L] at q;right;unfold Oy;rw [if_pos rfl];exact b3 y Z q.symm
  ·by_cases F:lab x=lab r.2
   ·have ex:=b3 x B F;subst ex;rw [Lb _ F] at q;by_cases L:lab y=lab r.1
    ·right;unfold Oy;rw [if_neg (Ne.symm N),if_pos rfl];exact a3 y Z L
    ·rw [Lc _ L] at q;exact .inl (b3 y Z q.symm)
   ·rw [Lc _ D] at q;have L:lab y≠lab r.1:=λz=>F (by rw [q,O _ z]);rw [Lc _ L] at q;rw [mO x D F];rw [G x D F] at B;rw [G y L (by rw [<-q];exact F)] at Z;exact h.u x y B Z q
 ·have xa:x≠r.1:=λz=>by rw [z,Ju U] at B;lia
  have xb:x≠r.2:=λz=>by rw [z,Jx U] at B;lia
  rw [Jj xa xb] at B;have D:lab x≠lab r.1:=λz=>xa (h.z _ _ B z).symm;rw [Lc _ D] at q;have L:lab y≠lab r.1:=λz=>by
   rw [O _ z] at q;exact xb (h.z _ _ B q).symm
  rw [Lc _ L] at q;exact h.z _ _ B q
 ·by_cases D:lab x=lab r.1
  ·exact ⟨fa,a2,by rw [O _ Y,O _ D]⟩
  ·by_cases F:lab x=lab r.2
   ·exact ⟨fa,a2,by rw [O _ Y,Lb _ F]⟩
   ·rw [G x D F] at B;obtain ⟨y,L,y2⟩:=h.e x B;exact ⟨y,by rw [G y (by rw [y2];exact D) (by rw [y2];exact F),L],V4 y2⟩
end
theorem V5 {α:Type}{P:List α->Prop}(h0:P [])(h1:∀c q,P c->P (c++[q])):∀c,P c:=λc=>by
 have key:∀l:List α,P l.reverse:=λl=>by
  induction l with
  | nil=>exact h0
  | cons x l ih=>rw [List.reverse_cons];exact h1 _ _ ih
 have:=key c.reverse
 rwa [List.reverse_reverse] at this
theorem ZbG (rs:List (Int×Int)):∀(c:List Int)(lab:Int->Int),(∀q∈c,(JU rs q).1≠(JU rs q).2)->UD rs c=some lab->(∀x,degF rs c x<=2)->∃mate,Mt (degF rs c) lab mate:=by
 intro c;refine V5 (P:=λc=>∀(lab:Int->Int),(∀q∈c,(JU rs q).1≠(JU rs q).2)->UD rs c=some lab->(∀x,degF rs c x<=2)->∃mate,Mt (degF rs c) lab mate) ?_ ?_ c
 ·intro lab _ h _;cases h;exact ⟨id,Mt.start⟩
 ·intro c q L lab G h D;rw [O7] at h;rw [JT] at D ⊢;cases hl:UD rs c with
  | none=>rw [hl] at h;cases h
  | some lab0=>
   rw [hl] at h;have h:(if lab0 (JU rs q).1=lab0 (JU rs q).2 then none else some (JN (JU rs q) lab0))=some lab:=h;by_cases F:lab0 (JU rs q).1=lab0 (JU rs q).2
   ·rw [if_pos F] at h;cases h
   ·rw [if_neg F] at h;cases h;obtain ⟨mate,M⟩:=L lab0 (λp N=>G p (Yei _ N)) hl (λx=>Ybc (JO _ _ x) (D x));have B:=G q (Ycf _ (Ybo.mpr rfl));have O:=D (JU rs q).1;have U:=D (JU rs q).2;rw [Ju B] at O;rw [Jx B] at U;exact ⟨_,M.add B F (by lia) (by lia)⟩
noncomputable def JJ (rs:List (Int×Int))(x:Int):Nat->Int
 | 0=>-1
 | j+1=>if (rs.getD j (0,0)).1=x\/(rs.getD j (0,0)).2=x then (j:Int) else JJ rs x j
theorem V6 (rs:List (Int×Int))(x:Int):∀j:Nat,-1<=JJ rs x j/\JJ rs x j<(j:Int)
 | 0=>⟨Int.le_refl _,by unfold JJ;decide⟩
 | j+1=>by
  unfold JJ;have:=V6 rs x j;split
  ·lia
  ·lia
theorem Yt (rs:List (Int×Int))(x:Int){i:Nat}(h:(rs.getD i (0,0)).1=x\/(rs.getD i (0,0)).2=x):∀j:Nat,i<j->(i:Int)<=JJ rs x j
 | 0,hi=>by lia
 | j+1,hi=>by
  unfold JJ;split
  ·lia
  ·rename_i hn;rcases Nat.lt_or_ge i j with q | q
   ·exact Yt rs x h j q
   ·have:i=j:=by lia
    subst this;exact absurd h hn
theorem UE (rs:List (Int×Int))(x:Int):∀(j i:Nat),JJ rs x j=(i:Int)->(rs.getD i (0,0)).1=x\/(rs.getD i (0,0)).2=x
 | 0,i,h=>by unfold JJ at h;lia
 | j+1,i,h=>by
  unfold JJ at h;split at h
  ·rename_i hn;have:i=j:=by lia
   subst this;exact hn
  ·exact UE rs x j i h
noncomputable def Gs (rs:List (Int×Int))(x:Int):Int:=JJ rs x rs.length
structure HopB (rs:List (Int×Int))(k s t i:Int)(d:Int->Nat)(lab:Int->Int):Prop where
 two:∀x,d x<=2
 en:∀e,(e=s\/e=t)->d e<=1/\¬ (Gs rs e<i/\d e=0)
 no:∀x,0<=x->x<k->x≠s->x≠t->¬ (Gs rs x<i/\d x=1)
 dn:d s≠0->lab s=lab t->∀x,0<=x->x<k->d x=0\/lab x=lab s
theorem HopB.down {rs:List (Int×Int)}{k s t i j:Int}{d:Int->Nat}{lab:Int->Int}(h:HopB rs k s t i d lab)(B:j<=i):HopB rs k s t j d lab:=
 ⟨h.two,λe q=>⟨(h.en e q).1,λz=>(h.en e q).2 ⟨by lia,z.2⟩⟩,λx a b c e z=>h.no x a b c e ⟨by lia,z.2⟩,h.dn⟩
noncomputable def Hop (rs:List (Int×Int))(k s t i:Int)(c:List Int):Prop:=∃lab,UD rs c=some lab/\HopB rs k s t i (degF rs c) lab
section
variable {rs:List (Int×Int)}{k s t:Int}{d:Int->Nat}{lab mate:Int->Int}{r:Int×Int}
theorem Mt.inner (M:Mt d lab mate)(B:s≠t)(two:∀x,d x<=2)(ds:d s=1)(D:lab s=lab t)(Y:d t<=1){x:Int}(F:lab x=lab s)(xs:x≠s)(G:x≠t):d x=2:=by
 have L:d t≠0:=λz=>B (M.z _ _ z D.symm);have N:=two x;have O:d x≠0:=λz=>xs (M.z _ _ z F).symm;have U:t=mate s:=(M.u s t ds (by lia) D).resolve_left (Ne.symm B);rcases (show d x=1\/d x=2 by lia) with z | z
 ·rcases M.u s x ds z F.symm with q | q
  ·exact absurd q xs
  ·exact absurd (q.trans U.symm) G
 ·exact z
theorem HopB.unadd {i:Int}(M:Mt d lab mate)(D:s≠t)(B:r.1≠r.2)(l1:i<=Gs rs r.1)(l2:i<=Gs rs r.2)(h:HopB rs k s t i (JP r d) (JN r lab)):HopB rs k s t i d lab:=by
 have N:∀x,Gs rs x<i->JP r d x=d x:=λx O=>Jj (λz=>by rw [z] at O;lia) (λz=>by rw [z] at O;lia);refine ⟨λx=>Ybc (JO r d x) (h.two x),λe U=>⟨Ybc (JO r d e) (h.en e U).1,λz=>(h.en e U).2 ⟨z.1,by rw [N e z.1];exact z.2⟩⟩,λx a b c e z=>h.no x a b c e ⟨z.1,by rw [N x z.1];exact z.2⟩,λds L x x0 xk=>?_⟩;rcases Nat.eq_zero_or_pos (d x) with z | z
 ·exact .inl z
 right;have Y:=(h.en s (.inl rfl)).1;have Z:=(h.en t (.inr rfl)).1;have F:d t≠0:=λz=>D (M.z _ _ z L.symm);have sl:=JO r d s;have tl:=JO r d t;have sa:s≠r.1:=λq=>by rw [q,Ju B] at Y;rw [q] at ds;lia
 have sb:s≠r.2:=λq=>by rw [q,Jx B] at Y;rw [q] at ds;lia
 have ta:t≠r.1:=λq=>by rw [q,Ju B] at Z;rw [q] at F;lia
 have tb:t≠r.2:=λq=>by rw [q,Jx B] at Z;rw [q] at F;lia
 have two:∀x,d x<=2:=λx=>Ybc (JO r d x) (h.two x);have G:d s=1:=by lia
 have na:lab r.1≠lab s:=λq=>by
  have:=M.inner D two G L (by lia) q (Ne.symm sa) (Ne.symm ta);have h2:=h.two r.1;rw [Ju B] at h2
  lia
 have nb:lab r.2≠lab s:=λq=>by
  have:=M.inner D two G L (by lia) q (Ne.symm sb) (Ne.symm tb);have h2:=h.two r.2;rw [Jx B] at h2
  lia
 rcases h.dn (by lia) (V4 L) x x0 xk with q | q
 ·have:=JO r d x
  lia
 ·unfold JN at q;rw [if_neg (Ne.symm na)] at q;by_cases xa:lab x=lab r.1
  ·rw [if_pos xa] at q;exact absurd q nb
  ·rw [if_neg xa] at q;exact q
end
end
section
noncomputable def gA (m:List Int)(p:Int):Int:=m.getD p.toNat 0
noncomputable def Jv (q:Int):Bool:=decide (0<=q\/q=-3\/q=-4)
noncomputable def J0 (q:Int):Bool:=decide (q=-1\/q=-5)
noncomputable def O8 (q:Int):Bool:=decide (¬ (q=-2\/q=-5))
noncomputable def GM (s t q:Int):Int:=if q=s then -3 else if q=t then -4 else q
noncomputable def UF (s t:Int)(m:List Int)(a:Int):Int:=if gA m a=-2 then GM s t a else gA m a
noncomputable def pW1 (m:List Int)(r:Int×Int)(q B:Int):List Int:=
 let c1:=(m.set r.1.toNat (-1)).set r.2.toNat (-1)
 let c2:=if 0<=q then c1.set q.toNat B else c1
 if 0<=B then c2.set B.toNat q else c2
noncomputable def O9 (s t:Int)(m:List Int)(r:Int×Int):Option (List Int):=
 if m.getD (m.length-1) 0=0\/J0 (gA m r.1)=true\/J0 (gA m r.2)=true\/gA m r.1=r.2 then none
 else if UF s t m r.1<0/\UF s t m r.2<0 then (if (pW1 m r (UF s t m r.1) (UF s t m r.2)).any Jv=true then none else some ((pW1 m r (UF s t m r.1) (UF s t m r.2)).set (m.length-1) 0))
 else some (pW1 m r (UF s t m r.1) (UF s t m r.2))
noncomputable def V7 (m q B:List Int):Option (List Int):=
 if q=[] then some m else if (q.any λp=>Jv (gA m p))=true\/(B.all λp=>O8 (gA m p))=false then none else some (q.foldl (λm p=>m.set p.toNat (-2)) m)
noncomputable def JV (rs:List (Int×Int))(j:Nat):List Int:=[(rs.getD j (0,0)).1,(rs.getD j (0,0)).2].filter λp=>decide (Gs rs p=(j:Int))
noncomputable def Y9 (s t:Int)(q:List Int):List Int:=q.filter λp=>decide (p=s\/p=t)
noncomputable def V8 (rs:List (Int×Int))(s t:Int)(m:List Int)(j:Nat)(ch:Bool):Option (List Int):=
 (if ch=true then O9 s t m (rs.getD j (0,0)) else some m).bind λq=>V7 q (JV rs j) (Y9 s t (JV rs j))
theorem WJ {m:List Int}{i p v:Int}(q:0<=i)(B:i<m.length)(D:0<=p):gA (m.set i.toNat v) p=if p=i then v else gA m p:=by
 unfold gA;rw [Yat,List.getElem?_set];by_cases h:p=i
 ·subst h;rw [if_pos rfl,if_pos (by lia),if_pos rfl]
  rfl
 ·rw [if_neg (by lia),if_neg h,Yat]
noncomputable def Ou (rs:List (Int×Int))(s t j:Int)(d:Int->Nat)(mate:Int->Int)(p:Int):Int:=
 if Gs rs p<j then -2 else if d p=0 then -2 else if d p=2\/p=s\/p=t then -1 else GM s t (mate p)
structure Mk (rs:List (Int×Int))(k:Nat)(s t j:Int)(d:Int->Nat)(lab mate:Int->Int)(m:List Int):Prop where
 len:m.length=k+1
 at_:∀p:Int,0<=p->p<(k:Int)->gA m p=Ou rs s t j d mate p
 dn:m.getD k 0=if d s≠0/\lab s=lab t then 0 else -2
section
variable {rs:List (Int×Int)}{k:Nat}{s t j:Int}{d:Int->Nat}{lab mate:Int->Int}{m:List Int}{r:Int×Int}
theorem GK (s t q:Int):(q=s/\GM s t q=-3)\/(q≠s/\q=t/\GM s t q=-4)\/(q≠s/\q≠t/\GM s t q=q):=by
 unfold GM;by_cases h1:q=s
 ·exact .inl ⟨h1,if_pos h1⟩
 ·by_cases h2:q=t
  ·exact .inr (.inl ⟨h1,h2,by rw [if_neg h1,if_pos h2]⟩)
  ·exact .inr (.inr ⟨h1,h2,by rw [if_neg h1,if_neg h2]⟩)
theorem UY {q:Int}(h:0<=q):Jv (GM s t q)=true:=by
 refine Yae ?_;rcases GK s t q with ⟨_,e⟩ | ⟨_,_,e⟩ | ⟨_,_,e⟩ <;> lia
theorem Mk.cases (K:Mk rs k s t j d lab mate m)(two:∀x,d x<=2){p:Int}(q:0<=p)(B:p<k)(l:j<=Gs rs p) :
  (d p=0/\gA m p=-2)\/(d p≠0/\(d p=2\/p=s\/p=t)/\gA m p=-1)\/(d p=1/\p≠s/\p≠t/\gA m p=GM s t (mate p)):=by
 rw [K.at_ p q B];unfold Ou;rw [if_neg (by lia)];by_cases h0:d p=0
 ·exact .inl ⟨h0,if_pos h0⟩
 ·rw [if_neg h0];by_cases h2:d p=2\/p=s\/p=t
  ·exact .inr (.inl ⟨h0,h2,if_pos h2⟩)
  ·have:=two p;exact .inr (.inr ⟨by lia,λz=>h2 (.inr (.inl z)),λz=>h2 (.inr (.inr z)),if_neg h2⟩)
theorem Mk.far (K:Mk rs k s t j d lab mate m)(M:Mt d lab mate)(G:∀x,d x≠0->0<=x/\x<(k:Int))(two:∀x,d x<=2){p:Int}(B:0<=p)(D:p<k)(l:j<=Gs rs p)(L:¬ J0 (gA m p)=true) :
  d p<=1/\((p=s\/p=t)->d p=0)/\UF s t m p=GM s t (farO d mate p)/\0<=farO d mate p/\farO d mate p<k:=by
 unfold UF farO;rcases K.cases two B D l with ⟨h0,e⟩ | ⟨h0,h2,e⟩ | ⟨h1,N,O,e⟩
 ·rw [if_pos e,if_pos h0];exact ⟨by lia,λ_=>h0,rfl,B,D⟩
 ·exact absurd (by rw [e];rfl) L
 ·have F:=G (mate p) (by rw [(M.m p h1).1];decide);rw [e,if_neg (show ¬ d p=0 by lia),if_neg]
  ·exact ⟨by lia,λz=>z.elim (λq=>absurd q N) (λq=>absurd q O),rfl,F.1,F.2⟩
  ·rcases GK s t (mate p) with ⟨_,q⟩ | ⟨_,_,q⟩ | ⟨_,_,q⟩ <;> lia
theorem Zdc (M:Mt d lab mate)(Z:s≠t)(s0:0<=s)(sk:s<(k:Int))(t0:0<=t)(tk:t<(k:Int))(B:r.1≠r.2)(a0:0<=r.1)(ak:r.1<(k:Int))(b0:0<=r.2)(bk:r.2<(k:Int))(rg:∀x,d x≠0->0<=x/\x<(k:Int))(la:j<=Gs rs r.1)(lb:j<=Gs rs r.2)(Hb:HopB rs k s t j d lab)(K:Mk rs k s t j d lab mate m) :
  (∃m',O9 s t m r=some m'/\lab r.1≠lab r.2/\HopB rs k s t j (JP r d) (JN r lab)/\∃ab,Mt (JP r d) (JN r lab) ab/\Mk rs k s t j (JP r d) (JN r lab) ab m') \/
  (O9 s t m r=none/\(lab r.1=lab r.2\/¬ HopB rs k s t j (JP r d) (JN r lab))):=by
 have ne:∀x,Gs rs x<j->JP r d x=d x:=λx hx=>Jj (λz=>by rw [z] at hx;lia) (λz=>by rw [z] at hx;lia);have two:=Hb.two;have am:m.length-1=k:=by rw [K.len];lia
 have a3:m.getD (m.length-1) 0=if d s≠0/\lab s=lab t then 0 else -2:=by rw [am];exact K.dn
 unfold O9;rw [a3];by_cases L:d s≠0/\lab s=lab t
 ·-- done already
  rw [if_pos L,if_pos (.inl rfl)];refine .inr ⟨rfl,.inr λh=>?_⟩;obtain ⟨ds,hl⟩:=L;have ax:d t≠0:=λz=>Z (M.z _ _ z hl.symm);have s1:=(h.en s (.inl rfl)).1;have t1:=(h.en t (.inr rfl)).1;have sl:=JO r d s;have tl:=JO r d t;have sa:s≠r.1:=λq=>by rw [q,Ju B] at s1;rw [q] at ds;lia
  have sb:s≠r.2:=λq=>by rw [q,Jx B] at s1;rw [q] at ds;lia
  have ta:t≠r.1:=λq=>by rw [q,Ju B] at t1;rw [q] at ax;lia
  have tb:t≠r.2:=λq=>by rw [q,Jx B] at t1;rw [q] at ax;lia
  have ao:=h.two r.1;rw [Ju B] at ao;have ap:=h.two r.2;rw [Jx B] at ap;have da:d r.1=0:=(Hb.dn ds hl r.1 a0 ak).resolve_right λq=>by
   have:=M.inner Z two (by lia) hl (by lia) q (Ne.symm sa) (Ne.symm ta)
   lia
  have db:d r.2=0:=(Hb.dn ds hl r.2 b0 bk).resolve_right λq=>by
   have:=M.inner Z two (by lia) hl (by lia) q (Ne.symm sb) (Ne.symm tb)
   lia
  rcases h.dn (by lia) (V4 hl) r.1 a0 ak with q | q
  ·rw [Ju B] at q;lia
  ·unfold JN at q;rw [if_pos rfl,if_neg (λz=>sa (M.z _ _ da z.symm))] at q;exact sb (M.z _ _ db q)
 rw [if_neg L];by_cases ac:J0 (gA m r.1)=true
 ·rw [if_pos (.inr (.inl ac))];refine .inr ⟨rfl,.inr λh=>?_⟩;have:=Ybp ac;have ao:=h.two r.1;rw [Ju B] at ao;rcases K.cases two a0 ak la with ⟨h0,e⟩ | ⟨h0,h2,e⟩ | ⟨h1,hs,ht,e⟩
  ·lia
  ·rcases h2 with h2 | h2
   ·lia
   ·have:=(h.en r.1 h2).1;rw [Ju B] at this
    lia
  ·have hm:=rg (mate r.1) (by rw [(M.m _ h1).1];decide);rcases GK s t (mate r.1) with ⟨_,q⟩ | ⟨_,_,q⟩ | ⟨_,_,q⟩ <;> lia
 by_cases ai:J0 (gA m r.2)=true
 ·rw [if_pos (.inr (.inr (.inl ai)))];refine .inr ⟨rfl,.inr λh=>?_⟩;have:=Ybp ai;have ap:=h.two r.2;rw [Jx B] at ap;rcases K.cases two b0 bk lb with ⟨h0,e⟩ | ⟨h0,h2,e⟩ | ⟨h1,hs,ht,e⟩
  ·lia
  ·rcases h2 with h2 | h2
   ·lia
   ·have:=(h.en r.2 h2).1;rw [Jx B] at this
    lia
  ·have hm:=rg (mate r.2) (by rw [(M.m _ h1).1];decide);rcases GK s t (mate r.2) with ⟨_,q⟩ | ⟨_,_,q⟩ | ⟨_,_,q⟩ <;> lia
 by_cases aq:gA m r.1=r.2
 ·rw [if_pos (.inr (.inr (.inr aq)))];refine .inr ⟨rfl,.inl ?_⟩;rcases K.cases two a0 ak la with ⟨h0,e⟩ | ⟨h0,h2,e⟩ | ⟨h1,hs,ht,e⟩
  ·lia
  ·lia
  ·rcases GK s t (mate r.1) with ⟨_,q⟩ | ⟨_,_,q⟩ | ⟨_,_,q⟩
   ·lia
   ·lia
   ·have:=(M.m _ h1).2.2;rw [<-this,show mate r.1=r.2 by lia]
 rw [if_neg (λz=>z.elim (λz=>absurd z (by decide)) λz=>z.elim ac λz=>z.elim ai aq)];obtain ⟨ay,a4,a5,ar,a6⟩:=K.far M rg two a0 ak la ac;obtain ⟨az,as,a7,au,a8⟩:=K.far M rg two b0 bk lb ai;have hl:lab r.1≠lab r.2:=λq=>by
  by_cases aj:d r.1=0
  ·exact B (M.z _ _ aj q).symm
  by_cases ad:d r.2=0
  ·exact B (M.z _ _ ad q.symm)
  rcases M.u r.1 r.2 (by lia) (by lia) q with z | z
  ·exact B z.symm
  ·rcases K.cases two a0 ak la with ⟨h0,e⟩ | ⟨h0,h2,e⟩ | ⟨h1,hs,ht,e⟩
   ·exact aj h0
   ·exact ac (by rw [e];rfl)
   ·rw [<-z] at e;rcases GK s t r.2 with ⟨w,_⟩ | ⟨_,w,_⟩ | ⟨_,_,N⟩
    ·exact ad (as (.inl w))
    ·exact ad (as (.inr w))
    ·exact aq (by rw [e,N])
 obtain ⟨⟨A1,A2,A3⟩,⟨B1,B2,B3⟩⟩:=M.far B hl ay az;have M':=M.add B hl ay az;rw [a5,a7];generalize hfa':farO d mate r.1=D at *;generalize hfb':farO d mate r.2=F at *;have av:D≠F:=λz=>hl (by rw [<-A1,<-B1,z]);have aw:∀{f:Int},JP r d f=1->f≠r.1->f≠r.2->d f=1:=λh h1 h2=>by rw [Jj h1 h2] at h;exact h
 have ae:∀f:Int,0<=f->f<k->f≠s->f≠t->JP r d f=1->j<=Gs rs f:=λf f0 fk fs ft hd=>by
  by_cases q:Gs rs f<j
  ·exact absurd ⟨q,by rw [<-ne f q];exact hd⟩ (Hb.no f f0 fk fs ft)
  ·lia
 have al:∀e,(e=s\/e=t)->JP r d e<=1/\¬ (Gs rs e<j/\JP r d e=0):=λe he=>by
  refine ⟨?_,λz=>(Hb.en e he).2 ⟨z.1,by rw [<-ne e z.1];exact z.2⟩⟩;by_cases ea:e=r.1
  ·rw [ea,Ju B,a4 (by rw [<-ea];exact he)];lia
  ·by_cases eb:e=r.2
   ·rw [eb,Jx B,as (by rw [<-eb];exact he)];lia
   ·rw [Jj ea eb];exact (Hb.en e he).1
 have af:∀x,JP r d x<=2:=λx=>by
  by_cases ea:x=r.1
  ·rw [ea,Ju B];lia
  ·by_cases eb:x=r.2
   ·rw [eb,Jx B];lia
   ·rw [Jj ea eb];exact two x
 have a1:∀x,0<=x->x<(k:Int)->x≠s->x≠t->¬ (Gs rs x<j/\JP r d x=1):=λx a b c e z=>Hb.no x a b c e ⟨z.1,by rw [<-ne x z.1];exact z.2⟩;have len1:∀x y,(pW1 m r x y).length=k+1:=λx y=>by
  unfold pW1;dsimp only;split <;> split <;> simp only [List.length_set,K.len]
 have U:∀p:Int,0<=p->p<(k:Int)->gA (pW1 m r (GM s t D) (GM s t F)) p=Ou rs s t j (JP r d) (Oy D F mate) p:=by
  intro p p0 pk;have e1:gA ((m.set r.1.toNat (-1)).set r.2.toNat (-1)) p=if p=r.2 then -1 else if p=r.1 then -1 else gA m p:=by
   rw [WJ b0 (by rw [List.length_set,K.len];lia) p0,WJ a0 (by rw [K.len];lia) p0]
  have l1:((m.set r.1.toNat (-1)).set r.2.toNat (-1)).length=k+1:=by simp only [List.length_set,K.len]
  have e2:gA (if 0<=GM s t D then ((m.set r.1.toNat (-1)).set r.2.toNat (-1)).set (GM s t D).toNat (GM s t F) else (m.set r.1.toNat (-1)).set r.2.toNat (-1)) p=if p=D/\D≠s/\D≠t then GM s t F else if p=r.2 then -1 else if p=r.1 then -1 else gA m p:=by
   rcases GK s t D with ⟨w,q⟩ | ⟨_,w,q⟩ | ⟨w1,w2,q⟩
   ·rw [if_neg (show ¬ 0<=GM s t D by lia),if_neg (show ¬ (p=D/\D≠s/\D≠t) from λz=>z.2.1 w),e1]
   ·rw [if_neg (show ¬ 0<=GM s t D by lia),if_neg (show ¬ (p=D/\D≠s/\D≠t) from λz=>z.2.2 w),e1]
   ·rw [if_pos (show 0<=GM s t D by lia),q,WJ ar (by rw [l1];lia) p0,e1];by_cases z:p=D
    ·rw [if_pos z,if_pos ⟨z,w1,w2⟩]
    ·rw [if_neg z,if_neg (show ¬ (p=D/\D≠s/\D≠t) from λy=>z y.1)]
  have l2:(if 0<=GM s t D then ((m.set r.1.toNat (-1)).set r.2.toNat (-1)).set (GM s t D).toNat (GM s t F) else (m.set r.1.toNat (-1)).set r.2.toNat (-1)).length=k+1:=by
   split <;> simp only [List.length_set,K.len]
  have e3:gA (pW1 m r (GM s t D) (GM s t F)) p=if p=F/\F≠s/\F≠t then GM s t D else if p=D/\D≠s/\D≠t then GM s t F else if p=r.2 then -1 else if p=r.1 then -1 else gA m p:=by
   unfold pW1;dsimp only;rcases GK s t F with ⟨w,q⟩ | ⟨_,w,q⟩ | ⟨w1,w2,q⟩
   ·rw [if_neg (show ¬ 0<=GM s t F by lia),if_neg (show ¬ (p=F/\F≠s/\F≠t) from λz=>z.2.1 w),e2]
   ·rw [if_neg (show ¬ 0<=GM s t F by lia),if_neg (show ¬ (p=F/\F≠s/\F≠t) from λz=>z.2.2 w),e2]
   ·rw [if_pos (show 0<=GM s t F by lia)];rw [show (GM s t F).toNat=F.toNat by rw [q],WJ au (by rw [l2];lia) p0,e2];by_cases z:p=F
    ·rw [if_pos z,if_pos ⟨z,w1,w2⟩]
    ·rw [if_neg z,if_neg (show ¬ (p=F/\F≠s/\F≠t) from λy=>z y.1)]
  rw [e3];by_cases z1:p=F/\F≠s/\F≠t
  ·obtain ⟨rfl,z1,z2⟩:=z1;rw [if_pos ⟨rfl,z1,z2⟩];unfold Ou;rw [if_neg (by have:=ae p p0 pk z1 z2 B2;lia),if_neg (by rw [B2];decide),if_neg (λq=>q.elim (λq=>by rw [B2] at q;cases q) λq=>q.elim z1 z2)];unfold Oy;rw [if_neg (Ne.symm av),if_pos rfl]
  rw [if_neg z1];by_cases z2:p=D/\D≠s/\D≠t
  ·obtain ⟨rfl,z3,z4⟩:=z2;rw [if_pos ⟨rfl,z3,z4⟩];unfold Ou;rw [if_neg (by have:=ae p p0 pk z3 z4 A2;lia),if_neg (by rw [A2];decide),if_neg (λq=>q.elim (λq=>by rw [A2] at q;cases q) λq=>q.elim z3 z4)];unfold Oy;rw [if_pos rfl]
  rw [if_neg z2];by_cases pb:p=r.2
  ·rw [if_pos pb];subst pb;unfold Ou;rw [if_neg (by lia),if_neg (by rw [Jx B];lia),if_pos];by_cases ad:d r.2=0
   ·have:F=r.2:=by rw [<-hfb'];unfold farO;rw [if_pos ad]
    right;by_cases Y:r.2=s
    ·exact .inl Y
    ·by_cases N:r.2=t
     ·exact .inr N
     ·exact absurd ⟨this.symm,by rw [this];exact Y,by rw [this];exact N⟩ z1
   ·left;rw [Jx B];lia
  rw [if_neg pb];by_cases pa:p=r.1
  ·rw [if_pos pa];subst pa;unfold Ou;rw [if_neg (by lia),if_neg (by rw [Ju B];lia),if_pos];by_cases aj:d r.1=0
   ·have:D=r.1:=by rw [<-hfa'];unfold farO;rw [if_pos aj]
    right;by_cases Y:r.1=s
    ·exact .inl Y
    ·by_cases N:r.1=t
     ·exact .inr N
     ·exact absurd ⟨this.symm,by rw [this];exact Y,by rw [this];exact N⟩ z2
   ·left;rw [Ju B];lia
  rw [if_neg pa,K.at_ p p0 pk];unfold Ou;rw [Jj pa pb];by_cases q0:Gs rs p<j
  ·rw [if_pos q0,if_pos q0]
  rw [if_neg q0,if_neg q0];by_cases Y:d p=0
  ·rw [if_pos Y,if_pos Y]
  rw [if_neg Y,if_neg Y];by_cases N:d p=2\/p=s\/p=t
  ·rw [if_pos N,if_pos N]
  rw [if_neg N,if_neg N];unfold Oy;have ps:p≠s:=λz=>N (.inr (.inl z));have pt:p≠t:=λz=>N (.inr (.inr z));rw [if_neg (λz=>z2 ⟨z,by rw [<-z];exact ps,by rw [<-z];exact pt⟩),if_neg (λz=>z1 ⟨z,by rw [<-z];exact ps,by rw [<-z];exact pt⟩)]
 have ag:(pW1 m r (GM s t D) (GM s t F)).getD k 0=-2:=by
  have kd:=K.dn;rw [if_neg L] at kd;have ns:∀(c:List Int)(i v:Int),0<=i->i<(k:Int)->(c.set i.toNat v).getD k 0=c.getD k 0:=λc i v i0 ik=>by
   rw [Yat,Yat,List.getElem?_set_ne (by lia)]
  unfold pW1;dsimp only;have step:∀(c:List Int)(f v:Int),0<=f->f<(k:Int)->c.getD k 0=-2->(if 0<=GM s t f then c.set (GM s t f).toNat v else c).getD k 0=-2:=λc f v f0 fk hc=>by
   rcases GK s t f with ⟨w,q⟩ | ⟨_,w,q⟩ | ⟨w1,w2,q⟩
   ·rw [if_neg (by lia)];exact hc
   ·rw [if_neg (by lia)];exact hc
   ·rw [if_pos (by lia),q,ns c f v f0 fk];exact hc
  exact step _ F _ au a8 (step _ D _ ar a6 (by rw [ns _ _ _ b0 bk,ns _ _ _ a0 ak];exact kd))
 by_cases O:GM s t D<0/\GM s t F<0
 ·rw [if_pos O];have hE:∀f:Int,0<=f->GM s t f<0->f=s\/f=t:=λf f0 h=>by
   rcases GK s t f with ⟨w,q⟩ | ⟨_,w,q⟩ | ⟨w1,w2,q⟩
   ·exact .inl w
   ·exact .inr w
   ·lia
  have ah:(D=s/\F=t)\/(D=t/\F=s):=by
   rcases hE D ar O.1 with z | z <;> rcases hE F au O.2 with y | y
   ·exact absurd (z.trans y.symm) av
   ·exact .inl ⟨z,y⟩
   ·exact .inr ⟨z,y⟩
   ·exact absurd (z.trans y.symm) av
  have Ls:JN r lab s=JN r lab t:=by
   have La:JN r lab D=lab r.2:=by unfold JN;rw [if_pos A1]
   have Lb:JN r lab F=lab r.2:=by unfold JN;rw [if_neg (by rw [B1];exact Ne.symm hl),B1]
   rcases ah with ⟨z,y⟩ | ⟨z,y⟩
   ·rw [<-z,<-y,La,Lb]
   ·rw [<-z,<-y,La,Lb]
  have a2:JP r d s=1:=by
   rcases ah with ⟨z,y⟩ | ⟨z,y⟩
   ·rw [<-z];exact A2
   ·rw [<-y];exact B2
  have a9:JP r d t=1:=by
   rcases ah with ⟨z,y⟩ | ⟨z,y⟩
   ·rw [<-y];exact B2
   ·rw [<-z];exact A2
  have tm:t=Oy D F mate s:=(M'.u s t a2 a9 Ls).resolve_left (Ne.symm Z);by_cases aa:(pW1 m r (GM s t D) (GM s t F)).any Jv=true
  ·rw [if_pos aa];refine .inr ⟨rfl,.inr λh=>?_⟩;obtain ⟨q,hq,G⟩:=List.any_eq_true.mp aa;obtain ⟨n,hn,rfl⟩:=Ydd hq;have aA:=hn;rw [len1] at aA;have eg:(pW1 m r (GM s t D) (GM s t F)).getD n 0=(pW1 m r (GM s t D) (GM s t F))[n]:=by rw [Yat,Yax hn];rfl
   rcases (show n<k\/n=k by lia) with hk | rfl
   ·have:=U (n:Int) (by lia) (by lia);unfold gA at this;rw [Ybn,eg] at this;rw [this] at G;unfold Ou at G;by_cases q0:Gs rs (n:Int)<j
    ·rw [if_pos q0] at G;cases G
    rw [if_neg q0] at G;by_cases Y:JP r d (n:Int)=0
    ·rw [if_pos Y] at G;cases G
    rw [if_neg Y] at G;by_cases N:JP r d (n:Int)=2\/(n:Int)=s\/(n:Int)=t
    ·rw [if_pos N] at G;cases G
    have aB:JP r d (n:Int)=1:=by
     have:=af (n:Int)
     lia
    rcases h.dn (by lia) Ls (n:Int) (by lia) (by lia) with w | w
    ·lia
    ·rcases M'.u s (n:Int) a2 aB w.symm with y | y
     ·exact N (.inr (.inl y))
     ·exact N (.inr (.inr (y.trans tm.symm)))
   ·rw [<-eg,ag] at G;cases G
  ·rw [if_neg aa,am];refine .inl ⟨_,rfl,hl,⟨af,al,a1,λ_ _ x x0 xk=>?_⟩,_,M',?_,λp p0 pk=>?_,?_⟩
   ·rcases Nat.eq_zero_or_pos (JP r d x) with z | z
    ·exact .inl z
    right;obtain ⟨y,y1,y2⟩:=M'.e x (by lia);rw [<-y2];by_cases ys:y=s
    ·rw [ys]
    by_cases yt:y=t
    ·rw [yt,Ls]
    exfalso;have yr:0<=y/\y<(k:Int):=by
     by_cases ya:y=r.1
     ·rw [ya];exact ⟨a0,ak⟩
     by_cases yb:y=r.2
     ·rw [yb];exact ⟨b0,bk⟩
     exact rg y (by rw [aw y1 ya yb];decide)
    have lj:=ae y yr.1 yr.2 ys yt y1;have hm:=U y yr.1 yr.2;unfold Ou at hm;rw [if_neg (by lia),if_neg (by lia),if_neg (λq=>q.elim (λq=>by rw [y1] at q;cases q) λq=>q.elim ys yt)] at hm;have m1:=(M'.m y y1).1;have mr:0<=Oy D F mate y:=by
     by_cases ya:Oy D F mate y=r.1
     ·rw [ya];exact a0
     by_cases yb:Oy D F mate y=r.2
     ·rw [yb];exact b0
     exact (rg _ (by rw [aw m1 ya yb];decide)).1
    refine aa (List.any_eq_true.mpr ⟨gA (pW1 m r (GM s t D) (GM s t F)) y,?_,by rw [hm];exact UY mr⟩);unfold gA;rw [Yat,Yax (show y.toNat<_ by rw [len1];lia)];exact Ycq _
   ·rw [List.length_set,len1]
   ·rw [<-U p p0 pk];unfold gA;rw [Yat,List.getElem?_set_ne (by lia),<-Yat]
   ·rw [if_pos ⟨by lia,Ls⟩,Yat,List.getElem?_set_self (by rw [len1];lia)]
    rfl
 ·rw [if_neg O];have an:¬ (JP r d s≠0/\JN r lab s=JN r lab t):=λ⟨Y,N⟩=>by
   have s1:=(al s (.inl rfl)).1;have t1:=(al t (.inr rfl)).1;have aD:JP r d t≠0:=λz=>Z (M'.z _ _ z N.symm);have tm:=(M'.u s t (by lia) (by lia) N).resolve_left (Ne.symm Z);have cs:GM s t s<0:=by unfold GM;rw [if_pos rfl];decide
   have ct:GM s t t<0:=by unfold GM;rw [if_neg (Ne.symm Z),if_pos rfl];decide
   unfold Oy at tm;by_cases z1:s=D
   ·rw [if_pos z1] at tm;exact O ⟨by rw [<-z1];exact cs,by rw [<-tm];exact ct⟩
   rw [if_neg z1] at tm;by_cases z2:s=F
   ·rw [if_pos z2] at tm;exact O ⟨by rw [<-tm];exact ct,by rw [<-z2];exact cs⟩
   rw [if_neg z2] at tm;have sa:s≠r.1:=λq=>z1 (A3 s (by lia) (by rw [q]));have sb:s≠r.2:=λq=>z2 (B3 s (by lia) (by rw [q]));have aC:=aw (show JP r d s=1 by lia) sa sb;exact L ⟨by lia,by rw [tm,(M.m s aC).2.2]⟩
  refine .inl ⟨_,rfl,hl,⟨af,al,a1,λY N=>absurd ⟨Y,N⟩ an⟩,_,M',len1 _ _,U,?_⟩;rw [if_neg an];exact ag
end
end
section
theorem Ov {rs:List (Int×Int)}{j:Nat}{p:Int}(B:j<rs.length):p∈JV rs j↔Gs rs p=(j:Int):=by
 unfold JV;rw [Ycb];constructor
 ·intro h;exact Ybp h.2
 ·intro h;refine ⟨?_,Yae h⟩;rcases UE rs p rs.length j h with q | q
  ·rw [<-q];exact Ybk
  ·rw [<-q];exact Ybr _ Ybk
theorem Ua {rs:List (Int×Int)}{j:Nat}(q:j<rs.length){p:Int}(h:(rs.getD j (0,0)).1=p\/(rs.getD j (0,0)).2=p):(j:Int)<=Gs rs p:=Yt rs p h rs.length q
theorem WK (k:Nat):∀(B m:List Int),(∀p∈B,0<=p/\p<(k:Int))->m.length=k+1 ->
  (B.foldl (λm p=>m.set p.toNat (-2)) m).length=k+1/\(B.foldl (λm p=>m.set p.toNat (-2)) m).getD k 0=m.getD k 0/\∀q:Int,0<=q->gA (B.foldl (λm p=>m.set p.toNat (-2)) m) q=if q∈B then -2 else gA m q
 | [],m,_,hm=>⟨hm,rfl,λq _=>by rw [if_neg (by simp)];rfl⟩
 | p::B,m,hp,hm=>by
  obtain ⟨p0,pk⟩:=hp p Ybk;obtain ⟨h1,h2,F⟩:=WK k B (m.set p.toNat (-2)) (λq G=>hp q (Ybr _ G)) (by rw [List.length_set,hm]);refine ⟨h1,?_,λq D=>?_⟩
  ·rw [List.foldl_cons,h2,Yat,List.getElem?_set_ne (by lia),<-Yat]
  ·rw [List.foldl_cons,F q D,WJ p0 (by rw [hm];lia) D];by_cases a:q∈B
   ·rw [if_pos a,if_pos (Ybr _ a)]
   ·rw [if_neg a];by_cases b:q=p
    ·rw [if_pos b,if_pos (by rw [b];exact Ybk)]
    ·rw [if_neg b,if_neg (by rw [Yas];exact λz=>z.elim b a)]
section
variable {rs:List (Int×Int)}{k:Nat}{s t:Int}{d:Int->Nat}{lab mate:Int->Int}{m:List Int}
theorem Zdd {j:Nat}(M:Mt d lab mate)(s0:0<=s)(sk:s<(k:Int))(t0:0<=t)(tk:t<(k:Int))(O:j<rs.length)(hr:∀r∈rs,0<=r.1/\r.1<r.2/\r.2<(k:Int))(rg:∀x,d x≠0->0<=x/\x<(k:Int))(L:HopB rs k s t j d lab)(K:Mk rs k s t j d lab mate m) :
  (∃m',V7 m (JV rs j) (Y9 s t (JV rs j))=some m'/\HopB rs k s t (j+1:Nat) d lab/\Mk rs k s t (j+1:Nat) d lab mate m') \/
  (V7 m (JV rs j) (Y9 s t (JV rs j))=none/\¬ HopB rs k s t (j+1:Nat) d lab):=by
 have two:=L.two;have U:∀x,Gs rs x<((j+1:Nat):Int)->Gs rs x<(j:Int)\/x∈JV rs j:=λx hx=>by
  rcases (show Gs rs x<(j:Int)\/Gs rs x=(j:Int) by lia) with q | q
  ·exact .inl q
  ·exact .inr ((Ov O).mpr q)
 have inr:∀p∈JV rs j,0<=p/\p<(k:Int):=λp B=>by
  unfold JV at B;have h1:=(Ycb.mp B).1;have h2:=hr (rs.getD j (0,0)) (by rw [Yat,Yax O];exact Ycq O);rcases Yas.mp h1 with q | q
  ·lia
  ·rcases Yas.mp q with q | q
   ·lia
   ·cases q
 have N:∀p∈JV rs j,(j:Int)<=Gs rs p:=λp B=>by rw [(Ov O).mp B];exact Int.le_refl _
 unfold V7;by_cases h0:JV rs j=[]
 ·rw [if_pos h0];have Y:∀x,Gs rs x<((j+1:Nat):Int)->Gs rs x<(j:Int):=λx hx=>(U x hx).resolve_right (by rw [h0];simp);refine .inl ⟨m,rfl,⟨two,λe D=>⟨(L.en e D).1,λz=>(L.en e D).2 ⟨Y e z.1,z.2⟩⟩,λx a b c e z=>L.no x a b c e ⟨Y x z.1,z.2⟩,L.dn⟩,K.len,λp F G=>?_,K.dn⟩;rw [K.at_ p F G];unfold Ou;by_cases q:Gs rs p<((j+1:Nat):Int)
  ·rw [if_pos q,if_pos (Y p q)]
  ·rw [if_neg q,if_neg (by lia)]
 rw [if_neg h0];by_cases h1:((JV rs j).any λp=>Jv (gA m p))=true
 ·rw [if_pos (.inl h1)];refine .inr ⟨rfl,λh=>?_⟩;obtain ⟨p,B,hl⟩:=List.any_eq_true.mp h1;obtain ⟨F,G⟩:=inr p B;rcases K.cases two F G (N p B) with ⟨_,e⟩ | ⟨_,_,e⟩ | ⟨q1,qs,qt,e⟩
  ·rw [e] at hl;cases hl
  ·rw [e] at hl;cases hl
  ·exact h.no p F G qs qt ⟨by rw [(Ov O).mp B];lia,q1⟩
 by_cases h2:((Y9 s t (JV rs j)).all λp=>O8 (gA m p))=false
 ·rw [if_pos (.inr h2)];refine .inr ⟨rfl,λh=>?_⟩;have Z:¬ ((Y9 s t (JV rs j)).all λp=>O8 (gA m p))=true:=by rw [h2];decide
  refine Z (List.all_eq_true.mpr λp B=>?_);unfold Y9 at B;obtain ⟨B,D⟩:=Ycb.mp B;have D:=Ybp D;obtain ⟨F,G⟩:=inr p B;have hn:=(h.en p D).2;rcases K.cases two F G (N p B) with ⟨q,e⟩ | ⟨_,_,e⟩ | ⟨q1,qs,qt,e⟩
  ·exact absurd ⟨by rw [(Ov O).mp B];lia,q⟩ hn
  ·rw [e];rfl
  ·exact absurd D (by rintro (z | z);exact qs z;exact qt z)
 rw [if_neg (by rintro (z | z);exact h1 z;exact h2 z)];have Z:((Y9 s t (JV rs j)).all λp=>O8 (gA m p))=true:=by
  cases q:(Y9 s t (JV rs j)).all λp=>O8 (gA m p) with
  | true=>rfl
  | false=>exact absurd q h2
 obtain ⟨f1,f2,f3⟩:=WK k (JV rs j) m inr K.len;refine .inl ⟨_,rfl,⟨two,λe D=>⟨(L.en e D).1,λz=>?_⟩,λx a b c e z=>?_,L.dn⟩,f1,λp F G=>?_,by rw [f2];exact K.dn⟩
 ·rcases U e z.1 with q | q
  ·exact (L.en e D).2 ⟨q,z.2⟩
  ·have:=List.all_eq_true.mp Z e (Ycb.mpr ⟨q,Yae D⟩);obtain ⟨F,G⟩:=inr e q;rw [K.at_ e F G] at this;unfold Ou at this;have lq:=N e q;rw [if_neg (by lia),if_pos z.2] at this;cases this
 ·rcases U x z.1 with q | q
  ·exact L.no x a b c e ⟨q,z.2⟩
  ·refine h1 (List.any_eq_true.mpr ⟨x,q,?_⟩);have lq:=N x q;rw [K.at_ x a b];unfold Ou;rw [if_neg (by lia),if_neg (by lia),if_neg (λy=>y.elim (λy=>by lia) λy=>y.elim c e)];exact UY (rg (mate x) (by rw [(M.m x z.2).1];decide)).1
 ·rw [f3 p F,K.at_ p F G];unfold Ou;by_cases q:p∈JV rs j
  ·rw [if_pos q,if_pos (by rw [(Ov O).mp q];lia)]
  ·rw [if_neg q];have hq:Gs rs p≠(j:Int):=λz=>q ((Ov O).mpr z);by_cases y:Gs rs p<(j:Int)
   ·rw [if_pos y,if_pos (show Gs rs p<((j+1:Nat):Int) by lia)]
   ·rw [if_neg y,if_neg (show ¬ Gs rs p<((j+1:Nat):Int) by lia)]
end
noncomputable def Vo (c:List Int)(j:Nat):List Int:=c.filter λq=>decide (q<(j:Int))
theorem WL:∀{c:List Int},c.Pairwise (· < ·)->∀j:Nat,Vo c (j+1)=Vo c j++(if (j:Int)∈c then [(j:Int)] else [])
 | [],_,j=>rfl
 | q::c,h,j=>by
  obtain ⟨h1,h2⟩:=Ydn.mp h;have D:=WL h2 j;have B:(j:Int)<=q->Vo c j=[]:=λz=>by
   unfold Vo;refine List.filter_eq_nil_iff.mpr λx F=>?_;have:=h1 x F;rw [decide_eq_true_eq]
   lia
  unfold Vo at D B ⊢;rw [List.filter_cons,List.filter_cons];rcases (show q<(j:Int)\/q=(j:Int)\/(j:Int)<q by lia) with z | z | z
  ·rw [if_pos (Yae (by lia)),if_pos (Yae z),D,List.cons_append]
   congr 2
   by_cases w:(j:Int)∈c
   ·rw [if_pos w,if_pos (Ybr _ w)]
   ·rw [if_neg w,if_neg (by rw [Yas];exact λy=>y.elim (λy=>by lia) w)]
  ·rw [if_pos (Yae (by lia)),if_neg (by rw [decide_eq_true_eq];lia),D,B (by lia),if_pos (show (j:Int)∈q::c by rw [z];exact Ybk),if_neg (show ¬ (j:Int)∈c from λw=>by have:=h1 _ w;lia),z]
   rfl
  ·rw [if_neg (by rw [decide_eq_true_eq];lia),if_neg (by rw [decide_eq_true_eq];lia),D,B (by lia),if_neg (show ¬ (j:Int)∈c from λw=>by have:=h1 _ w;lia),if_neg (show ¬ (j:Int)∈q::c by rw [Yas];exact λy=>y.elim (λy=>by lia) (λw=>by have:=h1 _ w;lia))]
theorem ZbH {c:List Int}{j:Nat}(h:∀q∈c,q<(j:Int)):Vo c j=c:=List.filter_eq_self.mpr λq B=>Yae (h q B)
theorem ZbI {c:List Int}{j:Nat}{q:Int}(h:q∈Vo c j):q∈c/\q<(j:Int):=⟨(Ycb.mp h).1,Ybp (Ycb.mp h).2⟩
theorem Of {rs:List (Int×Int)}{k:Int}(D:∀r∈rs,0<=r.1/\r.1<r.2/\r.2<k)(c:List Int):(∀q∈c,0<=q/\q<(rs.length:Int))->∀x,degF rs c x≠0->0<=x/\x<k:=by
 refine V5 (P:=λc=>(∀q∈c,0<=q/\q<(rs.length:Int))->∀x,degF rs c x≠0->0<=x/\x<k) ?_ ?_ c
 ·intro _ x h;exact absurd rfl h
 ·intro c q F B x h;have L:=B q (Ycf _ (Ybo.mpr rfl));have N:=D (JU rs q) (by unfold JU;rw [Yat,Yax (show q.toNat<rs.length by lia)];exact Ycq _);rw [JT] at h;by_cases a:x=(JU rs q).1
  ·lia
  by_cases b:x=(JU rs q).2
  ·lia
  rw [Jj a b] at h;exact F (λp G=>B p (Yei _ G)) x h
noncomputable def Jy (rs:List (Int×Int))(k:Nat)(s t:Int):Option (List Int):=if 0<=Gs rs s/\0<=Gs rs t then some (List.replicate (k+1) (-2)) else none
noncomputable def J4 (rs:List (Int×Int))(k:Nat)(s t:Int)(c:List Int):Nat->Option (List Int)
 | 0=>Jy rs k s t
 | j+1=>(J4 rs k s t c j).bind λm=>V8 rs s t m j (decide ((j:Int)∈c))
section
variable {rs:List (Int×Int)}{k:Nat}{s t:Int}
noncomputable def ZaE (rs:List (Int×Int))(k:Nat)(s t:Int)(j:Nat)(c m:List Int):Prop:=∃lab,UD rs c=some lab/\HopB rs k s t j (degF rs c) lab/\∃mate,Mt (degF rs c) lab mate/\Mk rs k s t j (degF rs c) lab mate m
theorem Zck (N:s≠t)(s0:0<=s)(sk:s<(k:Int))(t0:0<=t)(tk:t<(k:Int))(hr:∀r∈rs,0<=r.1/\r.1<r.2/\r.2<(k:Int)){c:List Int}(hc:∀q∈c,0<=q/\q<(rs.length:Int))(hp:c.Pairwise (· < ·)) :
  ∀j:Nat,j<=rs.length->(∃m,J4 rs k s t c j=some m/\ZaE rs k s t j (Vo c j) m)\/(J4 rs k s t c j=none/\¬ Hop rs k s t j (Vo c j))
 | 0,_=>by
  have e0:Vo c 0=[]:=List.filter_eq_nil_iff.mpr λq O=>by
   have:=(hc q O).1;rw [decide_eq_true_eq]
   lia
  rw [e0];unfold J4 Jy;by_cases h:0<=Gs rs s/\0<=Gs rs t
  ·rw [if_pos h];refine .inl ⟨_,rfl,id,rfl,⟨λx=>(by show 0<=2;decide),λe he=>⟨(by show 0<=1;decide),λz=>?_⟩,λx _ _ _ _ z=>absurd z.2 (by show ¬ 0=1;decide),λz=>absurd rfl z⟩,id,Mt.start,by rw [List.length_replicate],λp p0 pk=>?_,?_⟩
   ·rcases he with rfl | rfl
    ·have:=h.1;have:=z.1;lia
    ·have:=h.2;have:=z.1;lia
   ·unfold gA Ou;rw [Yat,List.getElem?_replicate,if_pos (by lia)];split
    ·rfl
    ·rw [if_pos (show degF rs [] p=0 from rfl)];rfl
   ·rw [Yat,List.getElem?_replicate,if_pos (by lia),if_neg (λz=>z.1 rfl)]
    rfl
  ·rw [if_neg h];refine .inr ⟨rfl,λ⟨lab,_,U⟩=>h ⟨?_,?_⟩⟩
   ·have:=(U.en s (.inl rfl)).2;exact Int.not_lt.mp λz=>this ⟨z,rfl⟩
   ·have:=(U.en t (.inr rfl)).2;exact Int.not_lt.mp λz=>this ⟨z,rfl⟩
 | j+1,hj=>by
  have Y:j<rs.length:=hj;have G:∀q∈Vo c j,0<=q/\q<(rs.length:Int):=λq O=>hc q (ZbI O).1;have rg:=Of hr (Vo c j) G;have good:∀q:Int,0<=q->q<(rs.length:Int)->0<=(JU rs q).1/\(JU rs q).1<(JU rs q).2/\(JU rs q).2<(k:Int):=λq q0 q1=>hr (JU rs q) (by unfold JU;rw [Yat,Yax (show q.toNat<rs.length by lia)];exact Ycq _);have ej:JU rs (j:Int)=rs.getD j (0,0):=by unfold JU;rw [Ybn]
  have gj:=good (j:Int) (by lia) (by lia);rw [ej] at gj;have la:=Ua Y (.inl rfl:(rs.getD j (0,0)).1=(rs.getD j (0,0)).1\/_);have lb:=Ua Y (.inr rfl:_\/(rs.getD j (0,0)).2=(rs.getD j (0,0)).2);have aa:(rs.getD j (0,0)).1≠(rs.getD j (0,0)).2:=by lia
  rw [WL hp j];have fin:∀{L Z:List Int}{lab mate},UD rs L=some lab->HopB rs k s t j (degF rs L) lab->Mt (degF rs L) lab mate->Mk rs k s t j (degF rs L) lab mate Z->(∀q∈L,0<=q/\q<(rs.length:Int)) ->
    (∃m,V7 Z (JV rs j) (Y9 s t (JV rs j))=some m/\ZaE rs k s t (j+1) L m)\/(V7 Z (JV rs j) (Y9 s t (JV rs j))=none/\¬ Hop rs k s t (j+1:Nat) L):=by
   intro L Z lab mate F U hm hk ae;rcases Zdd hm s0 sk t0 tk Y hr (Of hr L ae) U hk with ⟨m2,e,b2,k2⟩ | ⟨e,nb⟩
   ·exact .inl ⟨m2,e,lab,F,b2,mate,hm,k2⟩
   ·refine .inr ⟨e,λ⟨D,h1,h2⟩=>?_⟩;rw [F] at h1;cases h1;exact nb h2
  have ih:=Zck N s0 sk t0 tk hr hc hp j (by lia);unfold J4;rcases ih with ⟨m,e,lab,F,U,mate,hm,hk⟩ | ⟨e,nh⟩
  ·rw [e];show (∃Z,V8 rs s t m j (decide ((j:Int)∈c))=some Z/\_)\/(V8 rs s t m j (decide ((j:Int)∈c))=none/\_);unfold V8;by_cases B:(j:Int)∈c
   ·rw [if_pos (Yae B),if_pos B];have ed:degF rs (Vo c j++[(j:Int)])=JP (rs.getD j (0,0)) (degF rs (Vo c j)):=by rw [JT,ej]
    have el:=O7 rs (Vo c j) (j:Int);rw [F,ej] at el;have el:UD rs (Vo c j++[(j:Int)])=if lab (rs.getD j (0,0)).1=lab (rs.getD j (0,0)).2 then none else some (JN (rs.getD j (0,0)) lab):=el
    rcases Zdc hm N s0 sk t0 tk aa gj.1 (by lia) (by lia) gj.2.2 rg la lb U hk with ⟨Z,ew,af,ab,ag,ac,ad⟩ | ⟨ew,no⟩
    ·rw [ew];rw [if_neg af] at el;rw [<-ed] at ab ac ad;exact fin el ab ac ad λq O=>by
      rcases Yap.mp O with z | z
      ·exact G q z
      ·rw [Ybo] at z
       lia
    ·rw [ew];refine .inr ⟨rfl,λ⟨D,h1,h2⟩=>?_⟩;rw [el] at h1;rcases no with z | z
     ·rw [if_pos z] at h1;cases h1
     ·by_cases y:lab (rs.getD j (0,0)).1=lab (rs.getD j (0,0)).2
      ·rw [if_pos y] at h1;cases h1
      ·rw [if_neg y] at h1;cases h1;rw [ed] at h2;exact z (h2.down (by lia))
   ·rw [if_neg (by rw [decide_eq_true_eq];exact B),if_neg B,Ycg];exact fin F U hm hk G
  ·rw [e];refine .inr ⟨rfl,λ⟨D,h1,h2⟩=>nh ?_⟩;by_cases B:(j:Int)∈c
   ·rw [if_pos B] at h1 h2;have ed:degF rs (Vo c j++[(j:Int)])=JP (rs.getD j (0,0)) (degF rs (Vo c j)):=by rw [JT,ej]
    rw [O7,ej] at h1;cases F:UD rs (Vo c j) with
    | none=>rw [F] at h1;cases h1
    | some lab=>
     rw [F] at h1;have h1:(if lab (rs.getD j (0,0)).1=lab (rs.getD j (0,0)).2 then none else some (JN (rs.getD j (0,0)) lab))=some D:=h1;by_cases y:lab (rs.getD j (0,0)).1=lab (rs.getD j (0,0)).2
     ·rw [if_pos y] at h1;cases h1
     rw [if_neg y] at h1;cases h1;rw [ed] at h2;obtain ⟨mate,M⟩:=ZbG rs (Vo c j) lab (λq O=>by have:=G q O;have:=good q this.1 this.2;lia) F (λx=>Ybc (JO _ _ x) (h2.two x));exact ⟨lab,F,(h2.down (j:=(j:Int)) (by lia)).unadd M N aa la lb⟩
   ·rw [if_neg B,Ycg] at h1 h2;exact ⟨D,h1,h2.down (by lia)⟩
theorem XC (D:s≠t)(G:0<=s)(L:s<(k:Int))(N:0<=t)(tk:t<(k:Int))(O:∀r∈rs,0<=r.1/\r.1<r.2/\r.2<(k:Int)){c:List Int}{n:Nat}(U:n<=rs.length)(F:∀q∈c,0<=q/\q<(n:Int))(Y:c.Pairwise (· < ·)) :
  (∃m,J4 rs k s t c n=some m/\ZaE rs k s t n c m)\/(J4 rs k s t c n=none/\¬ Hop rs k s t n c):=by
 have:=Zck D G L N tk O (λq B=>⟨(F q B).1,by have:=(F q B).2;lia⟩) Y n U;rw [ZbH λq B=>(F q B).2] at this;exact this
end
end
section
variable {P:Program}{w:World}{K:W.Frag}{mg:Str->Option Value}{base:Heap}
noncomputable def V9 (s t:Int):List (Key×V):=[(.inl s,.int (-3)),(.inl t,.int (-4))]
noncomputable def EndD (H:Hp)(e:Addr)(s t:Int):Prop:=s≠t/\∃o,H e=some (.frz o (.dK (V9 s t)))
theorem EndD.same {H H':Hp}{e:Addr}{s t:Int}(h:EndD H e s t)(q:Same H H'):EndD H' e s t:=⟨h.1,h.2.imp λ_ z=>q _ _ z⟩
theorem Za {s t:Int}(h:s≠t):UP [] (V9 s t)=V9 s t:=by
 unfold UP V9;rw [List.foldl_cons,List.foldl_cons,List.foldl_nil,X2 _ VC,X2]
 ·rfl
 ·rw [List.nil_append,G7 (λz=>h (Sum.inl.inj z)),VC]
theorem ZbJ {s t:Int}(p:Int):OC (V9 s t) (.inl p)=if p=s then some (.int (-3)) else if p=t then some (.int (-4)) else none:=by
 unfold V9;by_cases h1:p=s
 ·rw [if_pos h1,Ja (by rw [h1])]
 ·rw [if_neg h1,G7 (λz=>h1 (Sum.inl.inj z).symm)];by_cases h2:p=t
  ·rw [if_pos h2,Ja (by rw [h2])]
  ·rw [if_neg h2,G7 (λz=>h2 (Sum.inl.inj z).symm),VC]
theorem EndD.get {H:Hp}{e:Addr}{s t:Int}(h:EndD H e s t)(p:Int):DGet H e (.int p) (if p=s then some (.int (-3)) else if p=t then some (.int (-4)) else none):=by
 obtain ⟨_,o,e⟩:=h;rw [<-ZbJ];exact .inl ⟨_,.inl p,.inr ⟨o,e⟩,rfl,rfl⟩
noncomputable def Zge:Sp:=λvs H Q _=>∃s t:Int,vs=[.int s,.int t]/\s≠t/\∀(e:Addr)(H':Hp),Same H H'->H e=none->EndD H' e s t->Q (.ref e) H'
theorem ZgX:Gu ["one", "other"] ["one", "other"] (Ge sMe):=⟨rfl,rfl,rfl,by decide +kernel,rfl,by decide +kernel,by decide +kernel⟩
theorem Zfp {f:Addr}{fd:FuncData}(F:Fun K "marks_of_ends" "marks_of_ends" sMe f fd){O U:Tok}(D:mg "FIRST" = some (.int (-3) O))(B:mg "SECOND" = some (.int (-4) U)):GV P w K mg base CX0 1 f fd ["one", "other"] Zge:=by
 refine F.ok ZgX (λvs H Q E h=>?_) (λY A L Z H vs Q E hr h=>?_)
 ·obtain ⟨_,_,rfl,_⟩:=h
  rfl
 ·obtain ⟨s,t,rfl,G,q⟩:=h;refine ⟨_,Gg (Gy (Zbu (X4 (pv 0) (Jc (v:=.int (-3)) rfl D ⟨_,rfl⟩) (X4 (pv 1) (Jc (v:=.int (-4)) rfl B ⟨_,rfl⟩) ZcP)) rfl rfl (by decide) (by decide))),?_⟩;refine λe N=>⟨_,rfl,_,rfl,Gb,V9 s t,rfl,(by show 2<=15;decide),λo=>?_⟩;rw [Za G,Ud];exact q e _ (Same.new N) N ⟨G,o,Gb⟩
noncomputable def Zfq (K:W.Frag):Sp:=λvs H Q _=>∃(m:Addr)(ms:List Int),vs=[.ref m]/\SqT K H m (ms.map V.int)/\ms≠[]/\Q (.bl (decide (ms.getD (ms.length-1) 0=0))) H
theorem ZgY:Gu ["marks"] ["marks"] (Ge sId):=⟨rfl,rfl,rfl,by decide +kernel,rfl,by decide +kernel,by decide +kernel⟩
theorem Zeu {ns:List Int}(h:ns≠[]):atI (ns.map V.int) (-1)=some (.int (ns.getD (ns.length-1) 0)):=by
 have q:0<ns.length:=List.length_pos_iff.mpr h;have e:ixN (ns.map V.int).length (-1)=some (ns.length-1):=by
  unfold ixN;rw [if_neg (by decide),Yab,if_pos (by lia)]
  congr 1
  lia
 unfold atI;rw [e];show (ns.map V.int)[ns.length-1]?=_;rw [Yaw,Yat,Yax (show ns.length-1<ns.length by lia)]
 rfl
theorem GF {i j:Int}:decide (V.int i=V.int j)=decide (i=j):=by
 by_cases h:i=j
 ·rw [Yae h,Yae (by rw [h])]
 ·rw [Yai h,Yai λz=>h (V.int.inj z)]
theorem Zfr {f:Addr}{fd:FuncData}(F:Fun K "is_done" "is_done" sId f fd){L:Tok}(B:mg "DONE" = some (.int 0 L)):GV P w K mg base CX0 1 f fd ["marks"] (Zfq K):=by
 refine F.ok ZgY (λvs H Q E h=>?_) (λN A D U H vs Q E Y h=>?_)
 ·obtain ⟨_,_,rfl,_⟩:=h
  rfl
 ·obtain ⟨m,ms,rfl,O,G,q⟩:=h;refine ⟨_,Gg (Gy (JW JK (Gn (Jg K) (pv 0) (Xb OI Gd) (λ_ _=>rfl)) (Jc (v:=.int (0)) rfl B ⟨_,rfl⟩) (Gx _))),?_⟩;refine ⟨_,rfl,_,rfl,m,_,_,_,rfl,rfl,O,Zeu G,rfl,?_⟩;rw [GF];exact q
noncomputable def XD (g:Int->Bool):Sp:=λvs H Q _=>∃q:Int,vs=[.int q]/\∀H',Same H H'->Q (.bl (g q)) H'
theorem Zev (q a b:Int):inV (.int q) [.int a,.int b]=decide (q=a\/q=b):=by
 rw [Zfm];unfold O6;exact decide_eq_decide.mpr ⟨λh=>h.imp Eq.symm Eq.symm,λh=>h.imp Eq.symm Eq.symm⟩
theorem ZgZ:Gu ["mark"] ["mark"] (Ge sIl):=⟨rfl,rfl,rfl,by decide +kernel,rfl,by decide +kernel,by decide +kernel⟩
theorem Zfs {f:Addr}{fd:FuncData}(F:Fun K "is_loose" "is_loose" sIl f fd){L N:Tok}(D:mg "FIRST" = some (.int (-3) L))(B:mg "SECOND" = some (.int (-4) N)):GV P w K mg base CX0 1 f fd ["mark"] (XD Jv):=by
 refine F.ok ZgZ (λvs H Q E h=>?_) (λO A G Y H vs Q E Z h=>?_)
 ·obtain ⟨_,rfl,_⟩:=h
  rfl
 ·obtain ⟨x,rfl,q⟩:=h;refine ⟨_,Gg (Gy (Zdv (JW YH (pv 0) Gd (Gx _)) (Zi (JW (kIn K) (pv 0) (JE (Ga (Jc (v:=.int (-3)) rfl D ⟨_,rfl⟩) (Ga (Jc (v:=.int (-4)) rfl B ⟨_,rfl⟩) Gf))) (by with_unfolding_all rfl))))),?_⟩;refine ⟨_,rfl,_,_,rfl,rfl,_,rfl,?_⟩;unfold Jv at q;by_cases h0:0<=x
  ·rw [Yae h0];refine GY ?_;have:=q H (Same.refl _);rw [Yae (.inl h0)] at this;exact this
  ·rw [Yai h0];refine G5 ?_;refine ⟨_,rfl,JS,λp U=>⟨p,_,rfl,.inr (SqT.of Gb),rfl,rfl,?_⟩⟩;show Q (.bl (inV (.int x) [.int (-3),.int (-4)])) _;rw [Zev];have:=q _ (Same.new (o:=.tup [.int (-3),.int (-4)]) U);rw [show decide (0<=x\/x=-3\/x=-4)=decide (x=-3\/x=-4) from decide_eq_decide.mpr ⟨λz=>z.resolve_left h0,.inr⟩] at this;exact this
theorem Zg0:Gu ["mark"] ["mark"] (Ge sIf):=⟨rfl,rfl,rfl,by decide +kernel,rfl,by decide +kernel,by decide +kernel⟩
theorem Zft {f:Addr}{fd:FuncData}(F:Fun K "is_full" "is_full" sIf f fd){L N:Tok}(D:mg "USED" = some (.int (-1) L))(B:mg "BARRED" = some (.int (-5) N)):GV P w K mg base CX0 1 f fd ["mark"] (XD J0):=by
 refine F.ok Zg0 (λvs H Q E h=>?_) (λO A G Y H vs Q E Z h=>?_)
 ·obtain ⟨_,rfl,_⟩:=h
  rfl
 ·obtain ⟨x,rfl,q⟩:=h;refine ⟨_,Gg (Gy (JW (kIn K) (pv 0) (JE (Ga (Jc (v:=.int (-1)) rfl D ⟨_,rfl⟩) (Ga (Jc (v:=.int (-5)) rfl B ⟨_,rfl⟩) Gf))) (by with_unfolding_all rfl))),?_⟩;refine ⟨_,rfl,JS,λp U=>⟨p,_,rfl,.inr (SqT.of Gb),rfl,rfl,?_⟩⟩;show Q (.bl (inV (.int x) [.int (-1),.int (-5)])) _;rw [Zev];exact q _ (Same.new U)
theorem Zg1:Gu ["mark"] ["mark"] (Ge sIm):=⟨rfl,rfl,rfl,by decide +kernel,rfl,by decide +kernel,by decide +kernel⟩
theorem Zfu {f:Addr}{fd:FuncData}(F:Fun K "is_met" "is_met" sIm f fd){L N:Tok}(D:mg "FREE" = some (.int (-2) L))(B:mg "BARRED" = some (.int (-5) N)):GV P w K mg base CX0 1 f fd ["mark"] (XD O8):=by
 refine F.ok Zg1 (λvs H Q E h=>?_) (λO A G Y H vs Q E Z h=>?_)
 ·obtain ⟨_,rfl,_⟩:=h
  rfl
 ·obtain ⟨x,rfl,q⟩:=h;refine ⟨_,Gg (Gy (JW (Zb2 K) (pv 0) (JE (Ga (Jc (v:=.int (-2)) rfl D ⟨_,rfl⟩) (Ga (Jc (v:=.int (-5)) rfl B ⟨_,rfl⟩) Gf))) (by with_unfolding_all rfl))),?_⟩;refine ⟨_,rfl,JS,λp U=>⟨p,_,rfl,.inr (SqT.of Gb),rfl,rfl,?_⟩⟩;show Q (.bl (!inV (.int x) [.int (-2),.int (-5)])) _;rw [Zev];have:=q _ (Same.new (o:=.tup [.int (-2),.int (-5)]) U);unfold O8 at this;rw [decide_not] at this;exact this
noncomputable def Zgf (K:W.Frag):Sp:=λvs H Q _=>∃(m e:Addr)(ms:List Int)(p s t:Int),vs=[.ref m,.int p,.ref e]/\SqT K H m (ms.map V.int)/\0<=p/\p<ms.length/\EndD H e s t/\Q (.int (UF s t ms p)) H
theorem Zg2:Gu ["marks", "place", "ends"] ["marks", "place", "ends"] (Ge sFe):=⟨rfl,rfl,rfl,by decide +kernel,rfl,by decide +kernel,by decide +kernel⟩
theorem Zfv {f:Addr}{fd:FuncData}(F:Fun K "far_end" "far_end" sFe f fd){Z:Tok}(B:mg "FREE" = some (.int (-2) Z)):GV P w K mg base CX0 1 f fd ["marks", "place", "ends"] (Zgf K):=by
 refine F.ok Zg2 (λvs H Q E h=>?_) (λD A G s0 H vs Q E hr h=>?_)
 ·obtain ⟨_,_,_,_,_,_,rfl,_⟩:=h
  rfl
 ·obtain ⟨m,e,ms,p,s,t,rfl,N,O,U,Y,q⟩:=h;have L:(A.deeper (PyProof.Rows.envOfC "far_end" (Ge sFe) s0.heap.objs.size f D)).units+1<cLine:=by have:=hr.un;lia
  refine ⟨_,Gg (Gy (OL (Gm JK (Gn (Jg K) (pv 0) (pv 1) (λ_ _=>rfl)) (Jc (v:=.int (-2)) rfl B ⟨_,rfl⟩) (Gx _)) (VE L (pv 2) (pv 1) (pv 1) ⟨rfl,rfl,rfl,rfl⟩) (Gn (Jg K) (pv 0) (pv 1) (λ_ _=>rfl)))),?_⟩;refine ⟨_,rfl,_,rfl,m,_,_,_,rfl,rfl,N,JI O U,rfl,_,rfl,?_⟩;rw [GF];unfold UF at q;refine YK (λz=>?_) (λz=>?_)
  ·rw [if_pos (show gA ms p=-2 from Ybp z)] at q;obtain ⟨_,o,e1⟩:=id Y;refine ⟨_,rfl,e,rfl,.inl ⟨_,.inr ⟨o,e1⟩⟩,_,rfl,_,rfl,_,Y.get p,?_⟩;unfold GM at q;by_cases h1:p=s
   ·rw [if_pos h1] at q ⊢;exact q
   ·rw [if_neg h1] at q ⊢;by_cases h2:p=t
    ·rw [if_pos h2] at q ⊢;exact q
    ·rw [if_neg h2] at q ⊢;exact q
  ·rw [if_neg (show ¬ gA ms p=-2 from λy=>z (Yae y))] at q;exact ⟨_,rfl,_,rfl,m,_,_,_,rfl,rfl,N,JI O U,q⟩
theorem J1 {n:Nat}{i:Int}(h0:0<=i)(h1:i<n):ixN n i=some i.toNat:=by
 unfold ixN;rw [if_pos h0,if_pos h1]
theorem map_set {ms:List Int}{n:Nat}{v:Int}:(ms.map V.int).set n (.int v)=(ms.set n v).map V.int:=by
 rw [List.map_set]
noncomputable def Zgg:Sp:=λvs H Q _=>∃(m r e:Addr)(ms:List Int)(a b s t:Int),vs=[.ref m,.ref r,.ref e]/\H m=some (.tup (ms.map V.int))/\H r=some (.tup [.int a,.int b])/\EndD H e s t/\0<=a/\a<b/\b+1<ms.length/\(∀q∈ms,q+1<(ms.length:Int))/\ms.length<=1000 /\
 (∀H':Hp,Same H H'->O9 s t ms (a,b)=none->Q .non H')/\(∀(T:Addr)(m':List Int)(H':Hp),Same H H'->H T=none->H' T=some (.tup (m'.map V.int))->O9 s t ms (a,b)=some m'->Q (.ref T) H')
theorem scWr:Gu ["marks", "road", "ends", "a", "b", "rounds", "far_a", "far_b", "changed"] ["marks", "road", "ends"] (Ge sWr):=⟨rfl,rfl,rfl,by decide +kernel,rfl,by decide +kernel,by decide +kernel⟩
theorem Zcl {ms:List Int}{s t p:Int}(B:0<=p)(D:p+1<ms.length)(h:∀q∈ms,q+1<(ms.length:Int)):UF s t ms p+1<ms.length:=by
 unfold UF;split
 ·rcases GK s t p with ⟨_,e⟩ | ⟨_,_,e⟩ | ⟨_,_,e⟩ <;> lia
 ·exact h _ (ZbC (by lia))
theorem Zfw {f ak al am an:Addr}{fd aa ac ad ae:FuncData}(F:Fun K "with_road" "with_road" sWr f fd)(a7:Fun K "is_done" "is_done" sId ak aa)(a8:Binds K aa ["marks"] [])(a9:mg "is_done" = some (.ref ak))(aA:GV P w K mg base CX0 1 ak aa ["marks"] (Zfq K))(aq:Fun K "is_full" "is_full" sIf al ac)(ar:Binds K ac ["mark"] [])(as:mg "is_full" = some (.ref al))(au:GV P w K mg base CX0 1 al ac ["mark"] (XD J0))(av:Fun K "far_end" "far_end" sFe am ad)(aw:Binds K ad ["marks", "place", "ends"] [])(ax:mg "far_end" = some (.ref am))(ay:GV P w K mg base CX0 1 am ad ["marks", "place", "ends"] (Zgf K))(aB:Fun K "is_loose" "is_loose" sIl an ae)(aC:Binds K ae ["mark"] [])(aD:mg "is_loose" = some (.ref an))(aE:GV P w K mg base CX0 1 an ae ["mark"] (XD Jv)){u0 u1:Tok}(ao:mg "DONE" = some (.int 0 u0))(af:mg "USED" = some (.int (-1) u1))(az:mg "list" = none)(a1:mg "any" = none)(a2:mg "tuple" = none):GV P w K mg base CX0 2 f fd ["marks", "road", "ends"] Zgg:=by
 refine F.ok scWr (λvs H Q E h=>?_) (λaJ A aF s0 H vs Q E hr h=>?_)
 ·obtain ⟨_,_,_,_,_,_,_,_,rfl,_⟩:=h
  rfl
 ·obtain ⟨m,r,e,ms,a,b,s,t,rfl,hm,aG,he,a0,ab,bk,qK,qV,qn,qs⟩:=h;have aK:=Ybf.symm;have aH:ms≠[]:=λz=>by rw [z] at bk;simp at bk;lia
  refine ⟨_,Gc (Oz (pv 1) (Zb4 K (n:=2) rfl (GT (Gj (i:=3) scWr.nd rfl (Or.inl rfl)) (GT (Gj (i:=4) scWr.nd rfl (Or.inl rfl)) J6))))
    (Gc (Go (i:=5) scWr.nd rfl (Or.inl rfl) (JW JK (Gn (Jg K) (pv 0) (pv 3) (λ_ _=>rfl)) (pv 4) (Gx _)))
    (Gc (G4 (PW.pt (Ox (Jl (Gk aA (hr.mono (by decide)) rfl a9 a7.kp a8 .nil GU (Ga (pv 0) Gf))) (Ox (Jl (Gk au (hr.mono (by decide)) rfl as aq.kp ar .nil GU (Ga (Gn (Jg K) (pv 0) (pv 3) (λ_ _=>rfl)) Gf))) (Ox (Jl (Gk au (hr.mono (by decide)) rfl as aq.kp ar .nil GU (Ga (Gn (Jg K) (pv 0) (pv 4) (λ_ _=>rfl)) Gf))) (J5 (PW.pt (J2 (Oi (pv 5) (λ_=>rfl)) (JA (Zan (pv 2) (λ_=>rfl)))))))))) (Gg (Gy Uo)) Gz)
    (Gc (Go (i:=6) scWr.nd rfl (Or.inl rfl) (Gk ay (hr.mono (by decide)) rfl ax av.kp aw .nil GU (Ga (pv 0) (Ga (pv 3) (Ga (pv 2) Gf)))))
    (Gc (Go (i:=7) scWr.nd rfl (Or.inl rfl) (Gk ay (hr.mono (by decide)) rfl ax av.kp aw .nil GU (Ga (pv 0) (Ga (pv 4) (Ga (pv 2) Gf)))))
    (Gc (Go (i:=8) scWr.nd rfl (Or.inl rfl) (G8 (Xg K) rfl az OS (Ga (pv 0) Gf)))
    (Gc (Oz (Jc (v:=.int (-1)) rfl af ⟨_,rfl⟩) (Up (pv 8) (pv 3) Jr))
    (Gc (Oz (Jc (v:=.int (-1)) rfl af ⟨_,rfl⟩) (Up (pv 8) (pv 4) Jr))
    (Gc (G4 (PW.pt (J2 (JB (Oi (pv 5) (λ_=>rfl))) (JA (Gm YH (pv 6) Gd (Gx _))))) (Gg (Oz (pv 7) (Up (pv 8) (pv 6) Jr))) Gz)
    (Gc (G4 (PW.pt (J2 (JB (Oi (pv 5) (λ_=>rfl))) (JA (Gm YH (pv 7) Gd (Gx _))))) (Gg (Oz (pv 6) (Up (pv 8) (pv 7) Jr))) Gz)
    (Gc (G4 (PW.pt (Ox (Oi (pv 5) (λ_=>rfl)) (J5 (PW.pt (J2 (Gm UG (pv 6) Gd (Gx _)) (JA (Gm UG (pv 7) Gd (Gx _)))))))) (Gc (G4 (Jl (GA (Zgd K rfl) rfl a1 Yp (Ga (Jn (own:=["mark"]) rfl (G9 (by decide +kernel) (by decide +kernel) rfl (by decide +kernel)) (JL K (pv 8)) (λ_ _ _ _=>Gj (i:=0) (show List.Nodup (["mark"]:List Str) by decide +kernel) rfl (Or.inl rfl)) (λ_ _ _ _=>GZ) (λ_ _ _ _=>Gk aE (hr.mono (by decide)) rfl aD aB.kp aC .nil GU (Ga (pv 0) Gf))) Gf))) (Gg (Gy Uo)) Gz)
    (Gg (Oz (Jc (v:=.int (0)) rfl ao ⟨_,rfl⟩) (Up (pv 8) (Xb OI Gd) Jr)))) Gz)
    (Gg (Gy (G8 (WI K) rfl a2 Jo (Ga (pv 8) Gf)))))))))))))),?_⟩
  refine ⟨_,rfl,r,_,rfl,SqT.of aG,rfl,_,_,rfl,_,_,rfl,rfl,?_⟩
  try dsimp only [Jd]
  refine GO (λσ' H'=>σ'=[some (.ref m),some (.ref r),some (.ref e),some (.int a),some (.int b),some (.bl (decide (gA ms a=b))),none,none,none]/\H'=H) ?r2 ?r1
  case r1=>
   intro O;refine ⟨_,rfl,_,rfl,m,_,_,_,rfl,rfl,SqT.of hm,JI a0 (by lia),_,rfl,rfl,?_⟩;rw [GF];exact O _ _ ⟨rfl,rfl⟩
  rintro σ' H' ⟨rfl,rfl⟩;have ag:(ms.getD (ms.length-1) 0=0\/J0 (gA ms a)=true\/J0 (gA ms b)=true\/gA ms a=b)->∀H2,Same H' H2->Q .non H2:=λz H2 Y=>qn H2 Y (by unfold O9;rw [if_pos z]);refine GO (λa3 H2=>a3=[some (.ref m),some (.ref r),some (.ref e),some (.int a),some (.int b),some (.bl false),none,none,none]/\Same H' H2/\¬ (ms.getD (ms.length-1) 0=0\/J0 (gA ms a)=true\/J0 (gA ms b)=true\/gA ms a=b)) ?f2 ?f1
  case f1=>
   intro O;refine ⟨_,rfl,m,ms,rfl,SqT.of hm,aH,_,rfl,?_⟩;by_cases c1:ms.getD (ms.length-1) 0=0
   ·rw [Yae c1];exact GY (GY (ag (.inl c1) _ (Same.refl _)))
   rw [Yai c1];refine G5 ?_;refine ⟨_,rfl,_,rfl,m,_,_,_,rfl,rfl,SqT.of hm,JI a0 (by lia),_,rfl,λH2 Y=>⟨_,rfl,?_⟩⟩;by_cases c2:J0 (gA ms a)=true
   ·rw [show J0 (ms.getD a.toNat 0)=true from c2];exact GY (GY (ag (.inr (.inl c2)) _ Y))
   rw [show J0 (ms.getD a.toNat 0)=false from by cases z:J0 (gA ms a);exact z;exact absurd z c2];refine G5 ?_;refine ⟨_,rfl,_,rfl,m,_,_,_,rfl,rfl,SqT.of (Y _ _ hm),JI (by lia) (by lia),_,rfl,λH3 s3=>⟨_,rfl,?_⟩⟩;have ah:=Y.trans s3;by_cases q:J0 (gA ms b)=true
   ·rw [show J0 (ms.getD b.toNat 0)=true from q];exact GY (GY (ag (.inr (.inr (.inl q))) _ ah))
   rw [show J0 (ms.getD b.toNat 0)=false from by cases z:J0 (gA ms b);exact z;exact absurd z q];refine G5 ?_;refine ⟨_,rfl,_,rfl,?_⟩;by_cases c4:gA ms a=b
   ·rw [Yae c4];obtain ⟨_,o,e1⟩:=id he;refine GY ⟨_,rfl,e,_,rfl,.inr ⟨o,ah _ _ e1⟩,?_⟩;exact GY (ag (.inr (.inr (.inr c4))) _ ah)
   rw [Yai c4];refine G5 (G5 ?_);exact O _ _ ⟨rfl,ah,λz=>z.elim c1 λz=>z.elim c2 λz=>z.elim q c4⟩
  rintro a3 H2 ⟨rfl,Y,aI⟩;have ap:=Y _ _ hm;have a4:=he.same Y;refine ⟨_,rfl,_,rfl,_,rfl,m,e,ms,a,s,t,rfl,SqT.of ap,a0,by lia,a4,?_⟩;refine ⟨_,rfl,_,rfl,_,rfl,m,e,ms,b,s,t,rfl,SqT.of ap,by lia,by lia,a4,?_⟩;refine ⟨_,rfl,m,_,rfl,.inr (SqT.of ap),λc hc=>?_⟩;have aL:=Zcl (s:=s) (t:=t) a0 (show a+1<ms.length by lia) qK;have aM:=Zcl (s:=s) (t:=t) (show 0<=b by lia) bk qK;have ev:O9 s t ms (a,b)=(if UF s t ms a<0/\UF s t ms b<0 then (if (pW1 ms (a,b) (UF s t ms a) (UF s t ms b)).any Jv=true then none else some ((pW1 ms (a,b) (UF s t ms a) (UF s t ms b)).set (ms.length-1) 0)) else some (pW1 ms (a,b) (UF s t ms a) (UF s t ms b))):=by
   unfold O9;rw [if_neg aI]
  rw [ev] at qn qs;clear ev ag;generalize hfa:UF s t ms a=B at *;generalize hfb:UF s t ms b=G at *;have aN:Same H' (upd H2 c (.lst (ms.map V.int))):=Y.put (Y.free hc);have a5:H' c=none:=Y.free hc
  try dsimp only [Jd]
  refine ⟨_,rfl,_,rfl,c,_,a,_,rfl,rfl,Gb,J1 a0 (by rw [Yab];lia),?_⟩;rw [Ud,map_set];refine ⟨_,rfl,_,rfl,c,_,b,_,rfl,rfl,Gb,J1 (by lia) (by rw [Yab,List.length_set];lia),?_⟩;rw [Ud,map_set];dsimp only;refine GO (λσ' H3=>σ'=[some (.ref m),some (.ref r),some (.ref e),some (.int a),some (.int b),some (.bl false),some (.int B),some (.int G),some (.ref c)]/\H3=upd H2 c (.lst ((if 0<=B then ((ms.set a.toNat (-1)).set b.toNat (-1)).set B.toNat G else (ms.set a.toNat (-1)).set b.toNat (-1)).map V.int))) ?g2 ?g1
  case g1=>
   intro O;refine ⟨_,rfl,_,rfl,GY ⟨_,rfl,_,_,rfl,rfl,_,rfl,?_⟩⟩;by_cases z:0<=B
   ·rw [Yae z];refine GY ⟨_,rfl,_,rfl,_,rfl,c,_,B,_,rfl,rfl,Gb,J1 z (by rw [Yab,List.length_set,List.length_set];lia),?_⟩;rw [Ud,map_set];exact O _ _ ⟨rfl,by rw [if_pos z]⟩
   ·rw [Yai z];exact G5 (O _ _ ⟨rfl,by rw [if_neg z]⟩)
  rintro σ' H3 ⟨rfl,rfl⟩;have l2:(if 0<=B then ((ms.set a.toNat (-1)).set b.toNat (-1)).set B.toNat G else (ms.set a.toNat (-1)).set b.toNat (-1)).length=ms.length:=by split <;> simp only [List.length_set]
  refine GO (λσ' H3=>σ'=[some (.ref m),some (.ref r),some (.ref e),some (.int a),some (.int b),some (.bl false),some (.int B),some (.int G),some (.ref c)]/\H3=upd H2 c (.lst ((pW1 ms (a,b) B G).map V.int))) ?h2 ?h1
  case h1=>
   intro O;refine ⟨_,rfl,_,rfl,GY ⟨_,rfl,_,_,rfl,rfl,_,rfl,?_⟩⟩;by_cases z:0<=G
   ·rw [Yae z];refine GY ⟨_,rfl,_,rfl,_,rfl,c,_,G,_,rfl,rfl,Gb,J1 z (by rw [Yab,l2];lia),?_⟩;rw [Ud,map_set];exact O _ _ ⟨rfl,by unfold pW1;dsimp only;rw [if_pos z]⟩
   ·rw [Yai z];exact G5 (O _ _ ⟨rfl,by unfold pW1;dsimp only;rw [if_neg z]⟩)
  rintro σ' H3 ⟨rfl,rfl⟩;have l3:(pW1 ms (a,b) B G).length=ms.length:=by
   unfold pW1;dsimp only;split <;> split <;> simp only [List.length_set]
  generalize hc3:pW1 ms (a,b) B G=q at *;have sc:∀ys,Same H' (upd H2 c ys):=λys=>Y.put a5;have fin:∀(L:Hp)(N:List Int),Same H' L->L c=some (.lst (N.map V.int))->N.length=ms.length->(if B<0/\G<0 then (if q.any Jv=true then none else some (q.set (ms.length-1) 0)) else some q)=some N->∀T,L T=none->Q (.ref T) (upd L T (.tup (N.map V.int))):=λL N Z e4 _ em T hT=>qs T N _ (Z.put (Z.free hT)) (Z.free hT) Gb em;refine GO (λσ' L=>∃N:List Int,σ'=[some (.ref m),some (.ref r),some (.ref e),some (.int a),some (.int b),some (.bl false),some (.int B),some (.int G),some (.ref c)]/\Same H' L/\L c=some (.lst (N.map V.int))/\N.length=ms.length/\(if B<0/\G<0 then (if q.any Jv=true then none else some (q.set (ms.length-1) 0)) else some q)=some N) ?k2 ?k1
  case k2=>
   rintro σ' L ⟨N,rfl,Z,e4,l4,em⟩;exact ⟨_,rfl,c,_,rfl,.inl ⟨SqL.of e4,λT hT=>fin L N Z e4 l4 em T hT⟩⟩
  case k1=>
   intro O;refine ⟨_,rfl,_,rfl,G5 ⟨_,rfl,_,_,rfl,rfl,_,rfl,?_⟩⟩;have aj:¬ (B<0/\G<0)->∃N:List Int,[some (V.ref m),some (.ref r),some (.ref e),some (.int a),some (.int b),some (.bl false),some (.int B),some (.int G),some (.ref c)]=[some (.ref m),some (.ref r),some (.ref e),some (.int a),some (.int b),some (.bl false),some (.int B),some (.int G),some (.ref c)]/\Same H' (upd H2 c (.lst (q.map V.int)))/\upd H2 c (.lst (q.map V.int)) c=some (.lst (N.map V.int))/\N.length=ms.length/\(if B<0/\G<0 then (if q.any Jv=true then none else some (q.set (ms.length-1) 0)) else some q)=some N:=
    λz=>⟨q,rfl,sc _,Gb,l3,by rw [if_neg z]⟩
   by_cases z1:B<0
   ·rw [Yae z1];refine GY ⟨_,rfl,_,_,rfl,rfl,_,rfl,?_⟩;by_cases z2:G<0
    ·rw [Yae z2];refine GY ?_;rw [if_pos ⟨z1,z2⟩] at qn;refine ⟨_,rfl,c,rfl,⟨_,SqL.of Gb⟩,λD hD=>?_⟩;have aO:c≠D:=λz=>by rw [<-z,Gb] at hD;cases hD
     refine G3 (K:=K) (a:=c) (xs:=q.map V.int) (λi ys L=>Same (upd H2 c (.lst (q.map V.int))) L/\L D=some (.lst ys)/\ys=((q.take i).map Jv).map V.bl) ⟨Same.new hD,Gb,rfl⟩ (by rintro i ys L _ ⟨Z,_⟩;exact SqL.of (Z _ _ Gb)) ?_ ?_
     ·rintro i x ys L U ⟨Z,ai,rfl⟩;have hi:i<(q.map V.int).length:=(Yay.mp U).1;rw [Yab] at hi;rw [Yaw] at U;cases y:q[i]? with
      | none=>rw [y] at U;cases U
      | some x1=>
       rw [y] at U;cases U;refine ⟨trivial,?_⟩;unfold WW;refine GY ?_;refine ⟨_,rfl,x1,rfl,λH5 s5=>⟨s5 _ _ ai,by rw [Yab,Yab,Ybj];lia,(Z.trans s5).put hD,Gb,?_⟩⟩;rw [Ybt,y,Yan,Yan]
       rfl
     ·rintro ys L ⟨Z,ai,rfl⟩;rw [Yab,Ybz] at ai;refine ⟨D,_,rfl,SqL.of ai,_,rfl,?_⟩;rw [List.any_map,show (id∘Jv)=Jv from rfl];have a6:=(sc (.lst (q.map V.int))).trans Z;by_cases z3:q.any Jv=true
      ·rw [z3];exact GY (qn _ a6 (by rw [if_pos z3]))
      ·rw [show q.any Jv=false from by cases y:q.any Jv;rfl;exact absurd y z3];refine G5 ?_;refine ⟨_,rfl,_,rfl,c,_,-1,ms.length-1,rfl,rfl,Z _ _ Gb,?_,?_⟩
       ·unfold ixN;rw [if_neg (by decide),Yab,l3,if_pos (by lia)]
        congr 1
        lia
       ·rw [map_set];exact O _ _ ⟨_,rfl,a6.put a5,Gb,by rw [List.length_set,l3],by rw [if_pos ⟨z1,z2⟩,if_neg z3]⟩
    ·rw [Yai z2];exact G5 (O _ _ (aj λy=>z2 y.2))
   ·rw [Yai z1];exact G5 (G5 (O _ _ (aj λy=>z1 y.1)))
noncomputable def Zfx:Sp:=λvs H Q _=>∃(m a b:Addr)(ms L N:List Int),vs=[.ref m,.ref a,.ref b]/\H m=some (.tup (ms.map V.int))/\H a=some (.lst (L.map V.int))/\H b=some (.lst (N.map V.int))/\(∀p∈L,0<=p/\p<(ms.length:Int))/\(∀p∈N,0<=p/\p<(ms.length:Int))/\L.length<=100/\N.length<=100/\ms.length<=1000 /\
 (∀H':Hp,Same H H'->V7 ms L N=none->Q .non H')/\(∀(T:Addr)(m':List Int)(H':Hp),Same H H'->H' T=some (.tup (m'.map V.int))->V7 ms L N=some m'->Q (.ref T) H')
theorem scLb:Gu ["marks", "leaving", "needed", "place", "changed"] ["marks", "leaving", "needed"] (Ge sLb):=⟨rfl,rfl,rfl,by decide +kernel,rfl,by decide +kernel,by decide +kernel⟩
theorem WM (L:List Int):(L.map V.int).isEmpty=decide (L=[]):=by cases L <;> rfl
theorem Zfy {f ab ac:Addr}{fd O U:FuncData}(F:Fun K "left_behind" "left_behind" sLb f fd)(al:Fun K "is_loose" "is_loose" sIl ab O)(am:Binds K O ["mark"] [])(an:mg "is_loose" = some (.ref ab))(ao:GV P w K mg base CX0 1 ab O ["mark"] (XD Jv))(ap:Fun K "is_met" "is_met" sIm ac U)(aq:Binds K U ["mark"] [])(ar:mg "is_met" = some (.ref ac))(as:GV P w K mg base CX0 1 ac U ["mark"] (XD O8)){u2:Tok}(ad:mg "FREE" = some (.int (-2) u2))(ae:mg "list" = none)(af:mg "any" = none)(ag:mg "all" = none)(ah:mg "tuple" = none):GV P w K mg base CX0 2 f fd ["marks", "leaving", "needed"] Zfx:=by
 refine F.ok scLb (λvs H Q E h=>?_) (λa0 A au s0 H vs Q E hr h=>?_)
 ·obtain ⟨_,_,_,_,_,_,rfl,_⟩:=h
  rfl
 ·obtain ⟨m,a,b,ms,L,N,rfl,hm,ha,hb,lr,nr,ay,az,av,qn,qs⟩:=h;have a1:=Ybf.symm;refine ⟨_,Gc (G4 (JB (Oi (pv 1) (λ_=>rfl))) (Gg (Gy (pv 0))) Gz)
    (Gc (G4 (PW.pt (Ox (Jl (GA (Zgd K rfl) rfl af Yp (Ga (Jn (own:=["place"]) rfl (Gq (fr:=[("marks", 0)]) [(".0", .local),("place", .local),("is_loose", .globalImplicit),("marks", .cell)] rfl rfl (by decide +kernel) rfl (by decide +kernel) ⟨rfl,trivial⟩ ⟨λh=>G6 h,λh=>G6 h,λh=>G6 h,λ_=>⟨_,rfl⟩,trivial⟩ ⟨⟨rfl,.inl rfl,.inl rfl⟩,trivial⟩) (JL K (pv 1)) (λ_ _ _ _=>Gj (i:=0) (show List.Nodup (["place", "marks"]:List Str) by decide +kernel) rfl (Or.inl rfl)) (λ_ _ _ _=>GZ) (λ_ _ _ _=>Gk ao (hr.mono (by decide)) rfl an al.kp am .nil GU (Ga (Gn (Jg K) (pv 1) (pv 0) (λ_ _=>rfl)) Gf))) Gf))) (J5 (JB (Jl (GA (Ze8 K rfl) rfl ag Uz (Ga (Jn (own:=["place"]) rfl (Gq (fr:=[("marks", 0)]) [(".0", .local),("place", .local),("is_met", .globalImplicit),("marks", .cell)] rfl rfl (by decide +kernel) rfl (by decide +kernel) ⟨rfl,trivial⟩ ⟨λh=>G6 h,λh=>G6 h,λh=>G6 h,λ_=>⟨_,rfl⟩,trivial⟩ ⟨⟨rfl,.inl rfl,.inl rfl⟩,trivial⟩) (JL K (pv 2)) (λ_ _ _ _=>Gj (i:=0) (show List.Nodup (["place", "marks"]:List Str) by decide +kernel) rfl (Or.inl rfl)) (λ_ _ _ _=>GZ) (λ_ _ _ _=>Gk as (hr.mono (by decide)) rfl ar ap.kp aq .nil GU (Ga (Gn (Jg K) (pv 1) (pv 0) (λ_ _=>rfl)) Gf))) Gf))))))) (Gg (Gy Uo)) Gz)
    (Gc (Go (i:=4) scLb.nd rfl (Or.inl rfl) (G8 (Xg K) rfl ae OS (Ga (pv 0) Gf)))
    (Gc (Jf Ybq rfl (JL K (pv 1)) (Gj (i:=3) scLb.nd rfl (Or.inl rfl))
    (Gg (Oz (Jc (v:=.int (-2)) rfl ad ⟨_,rfl⟩) (Up (pv 4) (pv 3) Jr))))
    (Gg (Gy (G8 (WI K) rfl ah Jo (Ga (pv 4) Gf))))))),?_⟩
  refine ⟨_,rfl,!(L.map V.int).isEmpty,.inl ⟨_,SqL.of ha,rfl⟩,?_⟩;show if (!!(L.map V.int).isEmpty)=true then _ else _
  rw [Bool.not_not,WM];unfold V7 at qn qs;by_cases h0:L=[]
  ·rw [Yae h0];refine GY ⟨_,rfl,?_⟩;rw [if_pos h0] at qs;exact qs m ms H (Same.refl _) hm rfl
  rw [Yai h0];refine G5 ?_;rw [if_neg h0] at qn qs;dsimp only [YE];refine GO (λσ' H'=>σ'=[some (.ref m),some (.ref a),some (.ref b),none,none]/\Same H H'/\¬ ((L.any λp=>Jv (gA ms p))=true\/(N.all λp=>O8 (gA ms p))=false)) ?g2 ?g1
  case g1=>
   intro hk;refine ⟨_,rfl,a,rfl,⟨_,SqL.of ha⟩,λD hD=>?_⟩;refine G3 (K:=K) (a:=a) (xs:=L.map V.int) (λi ys H2=>Same H H2/\H2 D=some (.lst ys)/\ys=((L.take i).map λp=>Jv (gA ms p)).map V.bl) ⟨Same.new hD,Gb,rfl⟩ (by rintro i ys H2 _ ⟨B,_⟩;exact SqL.of (B _ _ ha)) ?_ ?_
   ·rintro i x ys H2 q ⟨B,Z,rfl⟩;have hi:i<(L.map V.int).length:=(Yay.mp q).1;rw [Yab] at hi;rw [Yaw] at q;cases y:L[i]? with
    | none=>rw [y] at q;cases q
    | some p=>
     rw [y] at q;cases q;obtain ⟨p0,p1⟩:=lr p (Ybb y);refine ⟨⟨rfl,trivial⟩,?_⟩;unfold WW;refine GY ?_;refine ⟨_,rfl,_,rfl,m,_,_,_,rfl,rfl,SqT.of (B _ _ hm),JI p0 p1,_,rfl,λH5 s5=>⟨s5 _ _ Z,by rw [Yab,Yab,Ybj];lia,(B.trans s5).put hD,Gb,?_⟩⟩;rw [Ybt,y,Yan,Yan]
     rfl
   rintro ys H2 ⟨B,Z,rfl⟩;rw [Yab,Ybz] at Z;refine ⟨D,_,rfl,SqL.of Z,_,rfl,?_⟩;rw [List.any_map];by_cases z1:(L.any λp=>Jv (gA ms p))=true
   ·rw [show L.any (id∘λp=>Jv (gA ms p))=true from z1];exact GY (GY (qn _ B (by rw [if_pos (.inl z1)])))
   rw [show L.any (id∘λp=>Jv (gA ms p))=false from by cases y:(L.any λp=>Jv (gA ms p));exact y;exact absurd y z1];refine G5 ?_;refine ⟨_,rfl,b,rfl,⟨_,SqL.of (B _ _ hb)⟩,λD2 ai=>?_⟩;refine G3 (K:=K) (a:=b) (xs:=N.map V.int) (λi ys Y=>Same H2 Y/\Y D2=some (.lst ys)/\ys=((N.take i).map λp=>O8 (gA ms p)).map V.bl) ⟨Same.new ai,Gb,rfl⟩ (by rintro i ys Y _ ⟨G,_⟩;exact SqL.of (G _ _ (B _ _ hb))) ?_ ?_
   ·rintro i x ys Y q ⟨G,aa,rfl⟩;have hi:i<(N.map V.int).length:=(Yay.mp q).1;rw [Yab] at hi;rw [Yaw] at q;cases y:N[i]? with
    | none=>rw [y] at q;cases q
    | some p=>
     rw [y] at q;cases q;obtain ⟨p0,p1⟩:=nr p (Ybb y);refine ⟨⟨rfl,trivial⟩,?_⟩;unfold WW;refine GY ?_;refine ⟨_,rfl,_,rfl,m,_,_,_,rfl,rfl,SqT.of (G _ _ (B _ _ hm)),JI p0 p1,_,rfl,λH5 s5=>⟨s5 _ _ aa,by rw [Yab,Yab,Ybj];lia,(G.trans s5).put ai,Gb,?_⟩⟩;rw [Ybt,y,Yan,Yan]
     rfl
   rintro ys Y ⟨G,aa,rfl⟩;rw [Yab,Ybz] at aa;refine ⟨D2,_,rfl,SqL.of aa,_,rfl,?_⟩;rw [List.all_map];cases z2:(N.all λp=>O8 (gA ms p)) with
   | false=>
    rw [show N.all (id∘λp=>O8 (gA ms p))=false from z2];exact GY (qn _ (B.trans G) (by rw [if_pos (.inr z2)]))
   | true=>
    rw [show N.all (id∘λp=>O8 (gA ms p))=true from z2];exact G5 (hk _ _ ⟨rfl,B.trans G,λy=>y.elim z1 (λy=>by rw [z2] at y;cases y)⟩)
  rintro σ' H1 ⟨rfl,s1,aw⟩;have aj:¬ ((L.any λp=>Jv (gA ms p))=true\/(N.all λp=>O8 (gA ms p))=false):=aw;rw [if_neg aj] at qs;refine ⟨_,rfl,m,_,rfl,.inr (SqT.of (s1 _ _ hm)),λc hc=>?_⟩;have ak:H c=none:=s1.free hc;have B:=s1.put (o:=.lst (ms.map V.int)) ak;have ax:=B _ _ ha;have a2:a≠c:=Gh (s1 _ _ ha) hc;refine ⟨_,rfl,a,rfl,⟨_,SqL.of ax⟩,?_⟩;refine Jq (K:=K) (a:=a) (xs:=L.map V.int) (λi σ Y=>∃v3:Option V,σ=[some (.ref m),some (.ref a),some (.ref b),v3,some (.ref c)]/\Same H Y/\Y c=some (.lst (((L.take i).foldl (λm p=>m.set p.toNat (-2)) ms).map V.int))/\((L.take i).foldl (λm p=>m.set p.toNat (-2)) ms).length=ms.length) ⟨none,rfl,B,Gb,rfl⟩ (by rintro i σ Y _ ⟨_,_,G,_⟩;exact SqL.of (G _ _ ha)) ?_ ?_
  ·rintro i x σ Y q ⟨v3,rfl,G,e3,l3⟩;rw [Yaw] at q;cases y:L[i]? with
   | none=>rw [y] at q;cases q
   | some p=>
    rw [y] at q;cases q;obtain ⟨p0,p1⟩:=lr p (Ybb y);refine ⟨_,rfl,_,rfl,c,_,p,_,rfl,rfl,e3,J1 p0 (by rw [Yab,l3];lia),?_⟩;rw [map_set];refine ⟨_,rfl,G.put ak,?_,?_⟩
    ·rw [Gb,Ybt,y,List.foldl_append]
     rfl
    ·rw [Ybt,y,List.foldl_append];show (List.set _ _ _).length=_;rw [List.length_set,l3]
  ·rintro σ Y ⟨v3,rfl,G,e3,l3⟩;rw [Yab,Ybz] at e3;refine ⟨_,rfl,c,_,rfl,.inl ⟨SqL.of e3,λT hT=>?_⟩⟩;exact qs T _ _ (G.put (G.free hT)) Gb rfl
structure StepAt (H:Hp)(x:V)(rs:List (Int×Int))(s t:Int)(j:Nat):Prop where
 ex:∃T r lv nd:Addr,x=.ref T/\H T=some (.tup [.ref r,.ref lv,.ref nd])/\H r=some (.tup [.int (rs.getD j (0,0)).1,.int (rs.getD j (0,0)).2])/\H lv=some (.lst ((JV rs j).map V.int))/\H nd=some (.lst ((Y9 s t (JV rs j)).map V.int))
theorem StepAt.same {H H':Hp}{x:V}{rs:List (Int×Int)}{s t:Int}{j:Nat}(h:StepAt H x rs s t j)(q:Same H H'):StepAt H' x rs s t j:=by
 obtain ⟨T,r,B,D,e,h1,h2,F,G⟩:=h.ex;exact ⟨T,r,B,D,e,q _ _ h1,q _ _ h2,q _ _ F,q _ _ G⟩
structure Zfz (rs:List (Int×Int))(j:Nat)(ms:List Int):Prop where
 lt:j<rs.length
 rd:0<=(rs.getD j (0,0)).1/\(rs.getD j (0,0)).1<(rs.getD j (0,0)).2/\(rs.getD j (0,0)).2+1<(ms.length:Int)
 al:∀q∈ms,q+1<(ms.length:Int)
 le:ms.length<=1000
noncomputable def Zgh:Sp:=λvs H Q _=>∃(m e:Addr)(x:V)(ms:List Int)(rs:List (Int×Int))(s t:Int)(j:Nat)(ch:Bool),vs=[.ref m,x,.ref e,.bl ch]/\H m=some (.tup (ms.map V.int))/\StepAt H x rs s t j/\EndD H e s t/\Zfz rs j ms /\
 (∀H':Hp,Same H H'->V8 rs s t ms j ch=none->Q .non H')/\(∀(T:Addr)(m':List Int)(H':Hp),Same H H'->H' T=some (.tup (m'.map V.int))->V8 rs s t ms j ch=some m'->Q (.ref T) H')
theorem scDe:Gu ["marks", "step", "ends", "chosen", "road", "leaving", "needed", "taken"] ["marks", "step", "ends", "chosen"] (Ge sDe):=⟨rfl,rfl,rfl,by decide +kernel,rfl,by decide +kernel,by decide +kernel⟩
theorem ZbK {rs:List (Int×Int)}{j:Nat}{n:Int}(h:0<=(rs.getD j (0,0)).1/\(rs.getD j (0,0)).1<(rs.getD j (0,0)).2/\(rs.getD j (0,0)).2+1<n):(∀p∈JV rs j,0<=p/\p<n)/\(JV rs j).length<=2:=by
 unfold JV;refine ⟨λp q=>?_,Yct _ _⟩;rcases Yas.mp (Ycb.mp q).1 with z | z
 ·lia
 ·rcases Yas.mp z with z | z
  ·lia
  ·cases z
theorem ZbL {s t:Int}{ms q:List Int}{r:Int×Int}(h:O9 s t ms r=some q):q.length=ms.length:=by
 have l:∀x y,(pW1 ms r x y).length=ms.length:=λx y=>by
  unfold pW1;dsimp only;split <;> split <;> simp only [List.length_set]
 unfold O9 at h;split at h
 ·cases h
 ·split at h
  ·split at h
   ·cases h
   ·cases h;rw [List.length_set,l]
  ·cases h;exact l _ _
theorem ZfA {f L N:Addr}{fd B D:FuncData}(F:Fun K "decided" "decided" sDe f fd)(aa:Fun K "with_road" "with_road" sWr L B)(ab:Binds K B ["marks", "road", "ends"] [])(ac:mg "with_road" = some (.ref L))(ad:GV P w K mg base CX0 2 L B ["marks", "road", "ends"] Zgg)(ae:Fun K "left_behind" "left_behind" sLb N D)(af:Binds K D ["marks", "leaving", "needed"] [])(ag:mg "left_behind" = some (.ref N))(ah:GV P w K mg base CX0 2 N D ["marks", "leaving", "needed"] Zfx):GV P w K mg base CX0 3 f fd ["marks", "step", "ends", "chosen"] Zgh:=by
 refine F.ok scDe (λvs H Q E h=>?_) (λaj A ai s0 H vs Q E hr h=>?_)
 ·obtain ⟨_,_,_,_,_,_,_,_,_,rfl,_⟩:=h
  rfl
 ·obtain ⟨m,e,x,ms,rs,s,t,j,O,rfl,hm,hs,he,ok,Z,qs⟩:=h;obtain ⟨T,r,lv,nd,rfl,h1,h2,h3,h4⟩:=hs.ex;obtain ⟨lr,ll⟩:=ZbK ok.rd;have nr:(Y9 s t (JV rs j)).length<=2:=Ybc (Yct _ _) ll;refine ⟨_,Gc (Oz (pv 1) (Zb4 K (n:=3) rfl (GT (Gj (i:=4) scDe.nd rfl (Or.inl rfl)) (GT (Gj (i:=5) scDe.nd rfl (Or.inl rfl)) (GT (Gj (i:=6) scDe.nd rfl (Or.inl rfl)) J6)))))
    (Gc (Go (i:=7) scDe.nd rfl (Or.inl rfl) (OL (Oi (pv 3) (λ_=>rfl)) (Gk ad (hr.mono (by decide)) rfl ac aa.kp ab .nil GU (Ga (pv 0) (Ga (pv 4) (Ga (pv 2) Gf)))) (pv 0)))
    (Gg (Gy (OL (Gm ZbY (pv 7) Uo (Gx _)) Uo (Gk ah (hr.mono (by decide)) rfl ag ae.kp af .nil GU (Ga (pv 7) (Ga (pv 5) (Ga (pv 6) Gf)))))))),?_⟩
  refine ⟨_,rfl,T,_,rfl,SqT.of h1,rfl,_,_,rfl,_,_,rfl,_,_,rfl,rfl,?_⟩
  try dsimp only [Jd]
  unfold V8 at Z qs;have last:∀(G:Addr)(q:List Int)(H2:Hp),Same H H2->H2 G=some (.tup (q.map V.int))->q.length=ms.length->(if O=true then O9 s t ms (rs.getD j (0,0)) else some ms)=some q ->
    Zfx [.ref G,.ref lv,.ref nd] H2 Q E0:=λG q H2 s2 U Y em=>by
   rw [em] at Z qs;exact ⟨G,lv,nd,q,_,_,rfl,U,s2 _ _ h3,s2 _ _ h4,by rw [Y];exact lr,λp hp=>by rw [Y];exact lr p (Ycb.mp hp).1,by lia,by lia,by rw [Y];exact ok.le,λH' s' z=>Z H' (s2.trans s') z,λT' m' H' s' e' z=>qs T' m' H' (s2.trans s') e' z⟩
  refine GO (λσ' H'=>∃v:V,σ'=[some (.ref m),some (.ref T),some (.ref e),some (.bl O),some (.ref r),some (.ref lv),some (.ref nd),some v]/\Same H H'/\((v=.non/\(if O=true then O9 s t ms (rs.getD j (0,0)) else some ms)=none)\/∃(G:Addr)(q:List Int),v=.ref G/\H' G=some (.tup (q.map V.int))/\q.length=ms.length/\(if O=true then O9 s t ms (rs.getD j (0,0)) else some ms)=some q)) ?g2 ?g1
  case g1=>
   intro hk;refine ⟨_,rfl,_,rfl,?_⟩;cases O with
   | true=>
    refine GY ?_;refine ⟨_,rfl,_,rfl,_,rfl,m,r,e,ms,_,_,s,t,rfl,hm,h2,he,ok.rd.1,ok.rd.2.1,ok.rd.2.2,ok.al,ok.le,λH' s' z=>?_,λG q H' s' _ U z=>?_⟩
    ·exact hk _ _ ⟨_,rfl,s',.inl ⟨rfl,by rw [if_pos rfl];exact z⟩⟩
    ·exact hk _ _ ⟨_,rfl,s',.inr ⟨G,q,rfl,U,ZbL z,by rw [if_pos rfl];exact z⟩⟩
   | false=>
    refine G5 ?_;exact ⟨_,rfl,hk _ _ ⟨_,rfl,Same.refl _,.inr ⟨m,ms,rfl,hm,rfl,by rw [if_neg Yal]⟩⟩⟩
  rintro σ' H' ⟨v,rfl,s',⟨rfl,z⟩ | ⟨G,q,rfl,U,Y,z⟩⟩
  ·refine ⟨_,rfl,rfl,_,rfl,GY ?_⟩;exact Z H' s' (by rw [z];rfl)
  ·refine ⟨_,rfl,rfl,_,rfl,?_⟩;rw [Yai (by intro z;cases z)];refine G5 ?_;exact ⟨_,rfl,_,rfl,_,rfl,last G q H' s' U Y z⟩
noncomputable def LastD (H:Hp)(d:Addr)(rs:List (Int×Int)):Prop:=∃kvs,H d=some (.dK kvs)/\∀x:Int,OC kvs (.inl x)=if 0<=Gs rs x then some (.int (Gs rs x)) else none
theorem LastD.same {H H':Hp}{d:Addr}{rs:List (Int×Int)}(h:LastD H d rs)(q:Same H H'):LastD H' d rs:=h.imp λ_ z=>⟨q _ _ z.1,z.2⟩
noncomputable def Zgi:Sp:=λvs H Q _=>∃(q l:Addr)(k:Int)(xs:List V)(rs:List (Int×Int)),vs=[.ref q]/\WebAt H q l k xs rs/\rs.length<=100/\∀(d:Addr)(H':Hp),Same H H'->H d=none->LastD H' d rs->Q (.ref d) H'
theorem scLr:Gu ["web", "last", "number", "road"] ["web"] (Ge sLr):=⟨rfl,rfl,rfl,by decide +kernel,rfl,by decide +kernel,by decide +kernel⟩
theorem ZfB {f:Addr}{fd:FuncData}(F:Fun K "last_roads" "last_roads" sLr f fd)(B:mg "enumerate" = none):GV P w K mg base CX0 1 f fd ["web"] Zgi:=by
 refine F.ok scLr (λvs H Q E h=>?_) (λY A Z s0 H vs Q E hr h=>?_)
 ·obtain ⟨_,_,_,_,_,rfl,_⟩:=h
  rfl
 ·obtain ⟨wb,l,k,xs,rs,rfl,W,hx,q⟩:=h;have G:(A.deeper (PyProof.Rows.envOfC "last_roads" (Ge sLr) s0.heap.objs.size f Y)).units+1<cLine:=by have:=hr.un;lia
  have ad:=Ybf.symm;have aa:=W.p.len;refine ⟨_,Gc (Go (i:=1) scLr.nd rfl (Or.inl rfl) Za8)
    (Gc (Jf Ybq rfl (ZdQ K rfl B (Ga (Gn (Jg K) (pv 0) Gd (λ_ _=>rfl)) Gf)) (Zb4 K (n:=2) rfl (GT (Gj (i:=2) scLr.nd rfl (Or.inl rfl)) (GT (Gj (i:=3) scLr.nd rfl (Or.inl rfl)) J6)))
    (Gc (UO G (pv 1) (Gn (Jg K) (pv 3) Gd (λ_ _=>rfl)) (pv 2) rfl)
    (Gg (UO G (pv 1) (Gn (Jg K) (pv 3) Gd (λ_ _=>rfl)) (pv 2) rfl))))
    (Gg (Gy (pv 1)))),?_⟩
  refine λd U=>?_;have s1:Same H (upd H d (.dK [])):=Same.new U;refine ⟨_,rfl,wb,_,_,_,rfl,rfl,SqT.of (s1 _ _ W.w),Gi (j:=1) rfl,l,xs,rfl,SqL.of (s1 _ _ W.l),?_⟩;refine X5 (K:=K) (a:=l) (xs:=xs) (λi σ H2=>∃(v2 v3:Option V)(kvs:List (Key×V)),σ=[some (.ref wb),some (.ref d),v2,v3]/\Same H H2/\H2 d=some (.dK kvs)/\kvs.length<=2 * i/\∀x:Int,OC kvs (.inl x)=if 0<=JJ rs x i then some (.int (JJ rs x i)) else none)
   ⟨none,none,[],rfl,s1,Gb,Yav _,λx=>by unfold JJ;rw [if_neg (by decide)];rfl⟩ (by rintro i σ H2 _ ⟨_,_,_,_,D,_⟩;exact SqL.of (D _ _ W.l)) ?_ ?_
  ·rintro i x σ H2 T L ⟨v2,v3,kvs,rfl,D,N,len,val⟩ hT;obtain ⟨t,r,rfl,et,er⟩:=(W.same D).p.get L;have hi:i<xs.length:=(Yay.mp L).1;have s3:Same H (upd H2 T (.tup [.int (i:Nat),.ref t])):=D.put (D.free hT);have O:Same H2 (upd H2 T (.tup [.int (i:Nat),.ref t])):=Same.new hT;have ab:d≠T:=Gh N hT;have ac:t≠d:=Ow et N (λz=>by cases z);refine ⟨T,_,rfl,SqT.of Gb,rfl,_,_,rfl,_,_,rfl,rfl,?_⟩;refine ⟨_,rfl,_,rfl,_,rfl,t,_,_,_,rfl,rfl,SqT.of (O _ _ et),Gi (j:=0) rfl,d,_,rfl,DPut.k (k:=Sum.inl r.1) (Gv N ab) (by lia),?_⟩;have ae:=JF kvs (Sum.inl r.1) (.int (i:Nat));refine ⟨_,rfl,_,rfl,_,rfl,t,_,_,_,rfl,rfl,SqT.of (Gv (O _ _ et) ac),Gi (j:=1) rfl,d,_,rfl,DPut.k (k:=Sum.inl r.2) Gb (by lia),?_⟩;have af:=JF (UN kvs (Sum.inl r.1) (.int (i:Nat))) (Sum.inl r.2) (.int (i:Nat));refine ⟨_,_,_,rfl,((s3.put U).put U),Gb,by lia,λy=>?_⟩;rw [X1,X1,val y];have e:rs.getD i (0,0)=r:=by rw [Yat,er];rfl
   show _=if 0<=(if (rs.getD i (0,0)).1=y\/(rs.getD i (0,0)).2=y then (i:Int) else JJ rs y i) then some (V.int (if (rs.getD i (0,0)).1=y\/(rs.getD i (0,0)).2=y then (i:Int) else JJ rs y i)) else none
   rw [e];by_cases h2:y=r.2
   ·rw [if_pos (by rw [h2]),if_pos (show r.1=y\/r.2=y from .inr h2.symm),if_pos (by lia)]
   ·rw [if_neg (λz=>h2 (Sum.inl.inj z))];by_cases h1:y=r.1
    ·rw [if_pos (by rw [h1]),if_pos (show r.1=y\/r.2=y from .inl h1.symm),if_pos (by lia)]
    ·rw [if_neg (λz=>h1 (Sum.inl.inj z)),if_neg (show ¬ (r.1=y\/r.2=y) from λz=>z.elim (λz=>h1 z.symm) (λz=>h2 z.symm))]
  ·rintro σ H2 ⟨v2,v3,kvs,rfl,D,N,len,val⟩;rw [aa] at val;exact ⟨_,rfl,q d H2 D U ⟨kvs,N,val⟩⟩
noncomputable def Zgj:Sp:=λvs H Q _=>∃(q l e:Addr)(k:Int)(xs:List V)(rs:List (Int×Int))(s t:Int),vs=[.ref q,.ref e]/\WebAt H q l k xs rs/\rs.length<=100/\EndD H e s t/\∀(S:Addr)(zs:List V)(H':Hp),Same H H'->H S=none->H' S=some (.lst zs)->zs.length=rs.length->(∀j x,zs[j]?=some x->StepAt H' x rs s t j)->Q (.ref S) H'
theorem scSo:Gu ["web", "needed", "last", "steps", "number", "road", "leaving"] ["web", "needed"] (Ge sSo):=⟨rfl,rfl,rfl,by decide +kernel,rfl,by decide +kernel,by decide +kernel⟩
structure StepsAt (H:Hp)(S:Addr)(zs:List V)(rs:List (Int×Int))(s t:Int):Prop where
 st:∀j x,zs[j]?=some x->∃T r lv nd:Addr,x=.ref T/\lv≠S/\nd≠S/\H T=some (.tup [.ref r,.ref lv,.ref nd])/\H r=some (.tup [.int (rs.getD j (0,0)).1,.int (rs.getD j (0,0)).2])/\H lv=some (.lst ((JV rs j).map V.int))/\H nd=some (.lst ((Y9 s t (JV rs j)).map V.int))
theorem StepsAt.keep {H H':Hp}{S:Addr}{zs ys:List V}{rs:List (Int×Int)}{s t:Int}(h:StepsAt H S zs rs s t)(B:H S=some (.lst ys))(q:∀b o,b≠S->H b=some o->H' b=some o):StepsAt H' S zs rs s t:=⟨λj x G=>by
 obtain ⟨T,r,L,N,e,D,F,h1,h2,O,U⟩:=h.st j x G;exact ⟨T,r,L,N,e,D,F,q _ _ (Ow h1 B (λz=>by cases z)) h1,q _ _ (Ow h2 B (λz=>by cases z)) h2,q _ _ D O,q _ _ F U⟩⟩
theorem ZaF {s t p:Int}:(if p=s then some (V.int (-3)) else if p=t then some (V.int (-4)) else none).isSome=decide (p=s\/p=t):=by
 by_cases h1:p=s
 ·rw [if_pos h1,Yae (.inl h1)];rfl
 ·rw [if_neg h1];by_cases h2:p=t
  ·rw [if_pos h2,Yae (.inr h2)];rfl
  ·rw [if_neg h2,Yai (λz=>z.elim h1 h2)];rfl
theorem WN {L:List Int}{i:Nat}{p:Int}(f:Int->Bool)(h:L[i]?=some p):(L.take (i+1)).filter f=(L.take i).filter f++(if f p=true then [p] else []):=by
 rw [Ybt,h,List.filter_append]
 congr 1
 show List.filter f [p]=_;rw [List.filter_cons];split <;> simp_all
theorem ZfC {f ac:Addr}{fd Z:FuncData}(F:Fun K "steps_of" "steps_of" sSo f fd)(al:Fun K "last_roads" "last_roads" sLr ac Z)(am:Binds K Z ["web"] [])(an:mg "last_roads" = some (.ref ac))(ao:GV P w K mg base CX0 1 ac Z ["web"] Zgi)(ad:mg "enumerate" = none):GV P w K mg base CX0 2 f fd ["web", "needed"] Zgj:=by
 refine F.ok scSo (λvs H Q E h=>?_) (λap A aq s0 H vs Q E hr h=>?_)
 ·obtain ⟨_,_,_,_,_,_,_,_,rfl,_⟩:=h
  rfl
 ·obtain ⟨wb,l,e,k,xs,rs,s,t,rfl,W,U,he,q⟩:=h;have ag:(A.deeper (PyProof.Rows.envOfC "steps_of" (Ge sSo) s0.heap.objs.size f ap)).units+1<cLine:=by have:=hr.un;lia
  have av:=Ybf.symm;have aw:=W.p.len;refine ⟨_,Gc (Go (i:=2) scSo.nd rfl (Or.inr rfl) (Gk ao (hr.mono (by decide)) rfl an al.kp am .nil GU (Ga (pv 0) Gf)))
    (Gc (Go (i:=3) scSo.nd rfl (Or.inl rfl) (Jh Gf))
    (Gc (Jf Ybq rfl (ZdQ K rfl ad (Ga (Gn (Jg K) (pv 0) Gd (λ_ _=>rfl)) Gf)) (Zb4 K (n:=2) rfl (GT (Gj (i:=4) scSo.nd rfl (Or.inr rfl)) (GT (Gj (i:=5) scSo.nd rfl (Or.inl rfl)) J6)))
    (Gc (OH (i:=6) scSo.nd rfl (Or.inl rfl) (own:=["place"]) rfl (Gq (fr:=[("last", 2),("number", 4)]) [(".0", .local),("place", .local),("last", .cell),("number", .cell)] rfl rfl (by decide +kernel) rfl (by decide +kernel) ⟨rfl,rfl,trivial⟩ ⟨λh=>G6 h,λh=>G6 h,λ_=>⟨_,rfl⟩,λ_=>⟨_,rfl⟩,trivial⟩ ⟨⟨rfl,.inl rfl,.inl rfl⟩,⟨rfl,.inl rfl,.inl rfl⟩,trivial⟩) (ZcY K (pv 5)) (λ_ _ _ _=>Gj (i:=0) (show List.Nodup (["place", "last", "number"]:List Str) by decide +kernel) rfl (Or.inl rfl)) (λ_ _ _ _=>OP (Gm JK (Xk ag (pv 1) (pv 0) (λ_ _=>rfl)) (pv 2) (Gx _))) (λ_ _ _ _=>pv 0))
    (Gg (Jm (U3 Ydg Yea Yeb Ji (pv 3) (Ga (JE (Ga (pv 5) (Ga (pv 6) (Ga (Jn (own:=["place"]) rfl (Gq (fr:=[("needed", 1)]) [(".0", .local),("place", .local),("needed", .cell)] rfl rfl (by decide +kernel) rfl (by decide +kernel) ⟨rfl,trivial⟩ ⟨λh=>G6 h,λh=>G6 h,λ_=>⟨_,rfl⟩,trivial⟩ ⟨⟨rfl,.inl rfl,.inl rfl⟩,trivial⟩) (JL K (pv 6)) (λ_ _ _ _=>Gj (i:=0) (show List.Nodup (["place", "needed"]:List Str) by decide +kernel) rfl (Or.inl rfl)) (λ_ _ _ _=>OP (Zdt (ZdT ag (pv 0) (pv 1)) rfl)) (λ_ _ _ _=>pv 0)) Gf)))) Gf))))))
    (Gg (Gy (pv 3))))),?_⟩
  refine ⟨_,rfl,wb,l,k,xs,rs,rfl,W,U,λd H1 s1 hd D1=>?_⟩;refine ⟨Yav _,λS hS=>?_⟩;have ae:=s1.free hS;have s2:=s1.put (o:=.lst []) ae;refine ⟨_,rfl,wb,_,_,_,rfl,rfl,SqT.of (s2 _ _ W.w),Gi (j:=1) rfl,l,xs,rfl,SqL.of (s2 _ _ W.l),?_⟩;refine X5 (K:=K) (a:=l) (xs:=xs) (λi σ H2=>∃(v4 v5 v6:Option V)(zs:List V),σ=[some (.ref wb),some (.ref e),some (.ref d),some (.ref S),v4,v5,v6]/\Same H H2/\LastD H2 d rs/\H2 S=some (.lst zs)/\zs.length=i/\StepsAt H2 S zs rs s t)
   ⟨none,none,none,[],rfl,s2,D1.same (Same.new hS),Gb,rfl,⟨λj x U=>by simp at U⟩⟩ (by rintro i σ H2 _ ⟨_,_,_,_,_,s2,_⟩;exact SqL.of (s2 _ _ W.l)) ?_ ?_
  ·rintro i x σ H2 T ah ⟨v4,v5,v6,zs,rfl,s2,D2,e2,len,st⟩ hT;obtain ⟨t0,r,rfl,et,er⟩:=(W.same s2).p.get ah;have af:rs.getD i (0,0)=r:=by rw [Yat,er];rfl
   have hi:i<xs.length:=(Yay.mp ah).1;have L:Same H2 (upd H2 T (.tup [.int (i:Nat),.ref t0])):=Same.new hT;refine ⟨T,_,rfl,SqT.of Gb,rfl,_,_,rfl,_,_,rfl,rfl,?_⟩;generalize upd H2 T (.tup [.int (i:Nat),.ref t0])=H3 at L ⊢;have ab:=L _ _ et;have D3:=D2.same L;refine ⟨_,rfl,t0,rfl,⟨_,SqT.of ab⟩,λD hD=>?_⟩;refine Yl (K:=K) (a:=t0) (xs:=[r.1,r.2].map V.int) (λn ys H4=>Same H3 H4/\H4 D=some (.lst ys)/\ys=(([r.1,r.2].take n).filter λp=>decide (Gs rs p=(i:Int))).map V.int) ⟨Same.new hD,Gb,rfl⟩ (by rintro n ys H4 _ ⟨s4,_⟩;exact SqT.of (s4 _ _ ab)) ?_ ?_
   ·rintro n x ys H4 G ⟨s4,O,rfl⟩;rw [Yaw] at G;cases y:[r.1,r.2][n]? with
    | none=>rw [y] at G;cases G
    | some p=>
     rw [y] at G;cases G;have ar:r.1=p\/r.2=p:=by
      rcases Yas.mp (Ybb y) with z | z
      ·exact .inl z.symm
      ·rcases Yas.mp z with z | z
       ·exact .inr z.symm
       ·cases z
     have as:0<=Gs rs p:=by
      have:=Ua (rs:=rs) (j:=i) (by lia) (p:=p) (by rw [af];exact ar)
      lia
     obtain ⟨kvs,ek,val⟩:=D3.same s4;have g:DGet H4 d (.int p) (some (.int (Gs rs p))):=by
      have:=DGet.k (k:=Sum.inl p) ek;rw [val p,if_pos as] at this;exact this
     refine ⟨⟨rfl,rfl,trivial⟩,?_⟩;refine ⟨_,rfl,_,rfl,d,_,rfl,g,_,rfl,rfl,_,rfl,?_⟩;rw [GF,WN _ y];refine YK (λz=>?_) (λz=>?_)
     ·rw [if_pos z];refine ⟨_,rfl,O,?_,s4.put hD,Gb,by rw [Yan];rfl⟩;rw [Yab];have:=Yct (λp=>decide (Gs rs p=(i:Int))) ([r.1,r.2].take n);rw [Ybj] at this;simp at this
      lia
     ·rw [if_neg z,Ycg];exact ⟨s4,O,rfl⟩
   rintro ys H4 ⟨s4,O,rfl⟩;have au:(([r.1,r.2].take ([r.1,r.2].map V.int).length).filter λp=>decide (Gs rs p=(i:Int)))=JV rs i:=by
    unfold JV;rw [af]
    rfl
   rw [au] at O;have ll:(JV rs i).length<=2:=by unfold JV;exact Yct _ _
   have S4:=(s2.trans L).trans s4;have e4:=(L.trans s4) _ _ e2;have ai:D≠S:=λz=>by rw [z] at hD;rw [L _ _ e2] at hD;cases hD
   have ax:H D=none:=(s2.trans L).free hD;refine ⟨_,rfl,.inl ⟨rfl,_,SqL.of e4⟩,_,rfl,_,rfl,_,rfl,D,rfl,⟨_,SqL.of O⟩,λN hN=>?_⟩;have aj:N≠S:=λz=>by rw [z,e4] at hN;cases hN
   have ay:H N=none:=S4.free hN;refine G3 (K:=K) (a:=D) (xs:=(JV rs i).map V.int) (λn ys H5=>Same H4 H5/\H5 N=some (.lst ys)/\ys=(((JV rs i).take n).filter λp=>decide (p=s\/p=t)).map V.int) ⟨Same.new hN,Gb,rfl⟩ (by rintro n ys H5 _ ⟨Y,_⟩;exact SqL.of (Y _ _ O)) ?_ ?_
   ·rintro n x ys H5 G ⟨Y,aa,rfl⟩;rw [Yaw] at G;cases y:(JV rs i)[n]? with
    | none=>rw [y] at G;cases G
    | some p=>
     rw [y] at G;cases G;refine ⟨⟨rfl,trivial⟩,?_⟩;refine ⟨_,rfl,_,rfl,e,_,rfl,(he.same (S4.trans Y)).get p,_,rfl,?_⟩;rw [ZaF,WN _ y];refine YK (λz=>?_) (λz=>?_)
     ·rw [if_pos z];refine ⟨_,rfl,aa,?_,Y.put hN,Gb,by rw [Yan];rfl⟩;rw [Yab];have:=Yct (λp=>decide (p=s\/p=t)) ((JV rs i).take n);rw [Ybj] at this
      lia
     ·rw [if_neg z,Ycg];exact ⟨Y,aa,rfl⟩
   rintro ys H5 ⟨Y,aa,rfl⟩;rw [Yab,Ybz] at aa;refine ⟨(by show 3<=sizeLine;decide),λB hB=>?_⟩;have e5:=Y _ _ e4;have S5:=S4.trans Y;have ak:S≠B:=Gh e5 hB;refine ⟨S,_,_,rfl,rfl,Gv e5 ak,by lia,?_⟩;have dS:d≠S:=by
    obtain ⟨kvs,ek,_⟩:=D2;exact Ow ek e2 (λz=>by cases z)
   have up:∀(o:HO)(ys:HO) b u,b≠S->H5 b=some u->upd (upd H5 B o) S ys b=some u:=λo ys b u n z=>Gv (Gv z (Gh z hB)) n;refine ⟨_,_,_,zs++[.ref B],rfl,(S5.put (S5.free hB)).put ae,?_,Gb,by rw [Yaq,Ych,len],⟨λj x U=>?_⟩⟩
   ·obtain ⟨kvs,ek,val⟩:=D3.same (s4.trans Y);exact ⟨kvs,up _ _ _ _ dS ek,val⟩
   ·rcases Nat.lt_or_ge j zs.length with hj | hj
    ·rw [Ydr hj] at U;exact (((st.keep e2 λb o _ z=>(L.trans (s4.trans Y)) b o z)).keep e5 (up _ _)).st j x U
    ·rw [Ydq hj] at U;have:j=zs.length:=by
      rcases Nat.lt_or_ge (j-zs.length) 1 with z | z
      ·lia
      ·rw [Yet (by simpa using z)] at U;cases U
     subst this;rw [Nat.sub_self] at U;cases U;rw [len,af];refine ⟨B,t0,D,N,rfl,ai,aj,Gv Gb (Ne.symm ak),?_,up _ _ _ _ ai (Y _ _ O),?_⟩
     ·exact up _ _ _ _ (Ow ab (L _ _ e2) (λz=>by cases z)) ((s4.trans Y) _ _ ab)
     ·exact up _ _ _ _ aj aa
  ·rintro σ H2 ⟨v4,v5,v6,zs,rfl,s2,D2,e2,len,st⟩;refine ⟨_,rfl,q S zs H2 s2 ae e2 (by lia) λj x U=>?_⟩;obtain ⟨T,r,lv,nd,e,n1,n2,h1,h2,h3,h4⟩:=st.st j x U;exact ⟨T,r,lv,nd,e,h1,h2,h3,h4⟩
theorem ZaG {rs:List (Int×Int)}{p:Int}:ZaT rs p=[]↔¬ 0<=Gs rs p:=by
 unfold ZaT;rw [List.map_eq_nil_iff,List.filter_eq_nil_iff];constructor
 ·intro h h0;obtain ⟨n,q⟩:=Int.eq_ofNat_of_zero_le h0;have h1:=UE rs p rs.length n q;have h2:n<rs.length:=by
   have:=(V6 rs p rs.length).2;have e:Gs rs p=JJ rs p rs.length:=rfl
   lia
  refine h (rs.getD n (0,0)) ?_ (Yae h1);rw [Yat,Yax h2];exact Ycq h2
 ·intro h r B z;obtain ⟨i,hi,e⟩:=Ydd B;have:=Ua (rs:=rs) (j:=i) hi (p:=p) (by rw [Yat,Yax hi,e];exact Ybp z)
  lia
noncomputable def Zg3 (H:Hp)(F:Addr)(o:Option (List Int)):Prop:=∃ys,H F=some (.lst ys)/\((o=none/\ys=[])\/∃(T:Addr)(m:List Int),o=some m/\ys=[.ref T]/\H T=some (.tup (m.map V.int)))
noncomputable def Zgk:Sp:=λvs H Q _=>∃(q l e:Addr)(k:Nat)(xs:List V)(rs:List (Int×Int))(s t:Int),vs=[.ref q,.ref e]/\WebAt H q l (k:Int) xs rs/\GX (k:Int) rs/\EndD H e s t/\(0<=s/\s<(k:Int))/\(0<=t/\t<(k:Int))/\∀(F:Addr)(H':Hp),Same H H'->H F=none->Zg3 H' F (Jy rs k s t)->Q (.ref F) H'
theorem Zg4:Gu ["web", "needed"] ["web", "needed"] (Ge sFm):=⟨rfl,rfl,rfl,by decide +kernel,rfl,by decide +kernel,by decide +kernel⟩
theorem ZfD {f O C:Addr}{fd B:FuncData}(F:Fun K "first_marks" "first_marks" sFm f fd)(af:Fun K "beside" "beside" Zc4 O B)(ag:Binds K B ["web", "place"] [])(ah:mg "beside" = some (.ref O))(ai:GV P w K mg base (CXr P w) 3 O B ["web", "place"] (Zeq C)){u2:Tok}(U:mg "FREE" = some (.int (-2) u2))(aa:mg "all" = none)(ab:mg "tuple" = none):GV P w K mg base CX0 4 f fd ["web", "needed"] Zgk:=by
 refine F.ok Zg4 (λvs H Q E h=>?_) (λao A aj s0 H vs Q E hr h=>?_)
 ·obtain ⟨_,_,_,_,_,_,_,_,rfl,_⟩:=h
  rfl
 ·obtain ⟨wb,l,e,k,xs,rs,s,t,rfl,W,g,he,hs,ht,q⟩:=h;have ap:=Ybf.symm;have aq:=W.p.len;have g3:=g.2.2.1;have gk:=g.2.1;obtain ⟨ar,o,e1⟩:=id he;refine ⟨_,Gc (G4 (JB (Jl (GA (Zfg K rfl) rfl aa Uz (Ga (Jn (own:=["place"]) rfl (Gq (fr:=[("web", 0)]) [(".0", .local),("place", .local),("beside", .globalImplicit),("web", .cell)] rfl rfl (by decide +kernel) rfl (by decide +kernel) ⟨rfl,trivial⟩ ⟨λh=>G6 h,λh=>G6 h,λh=>G6 h,λ_=>⟨_,rfl⟩,trivial⟩ ⟨⟨rfl,.inl rfl,.inl rfl⟩,trivial⟩) (Zbv (pv 1)) (λ_ _ _ _=>Gj (i:=0) (show List.Nodup (["place", "web"]:List Str) by decide +kernel) rfl (Or.inl rfl)) (λ_ _ _ _=>GZ) (λ_ _ _ _=>Gk ai (hr.mono (by decide)) rfl ah af.kp ag .nil ZcK (Ga (pv 1) (Ga (pv 0) Gf)))) Gf)))) (Gg (Gy (Jh Gf))) Gz)
    (Gg (Gy (Jh (Ga (G8 (WI K) rfl ab Jo (Ga (Gw ZB (Jh (Ga (Jc (v:=.int (-2)) rfl U ⟨_,rfl⟩) Gf)) (Gw G0 (Gn (Jg K) (pv 0) Gd (λ_ _=>rfl)) Gd)) Gf)) Gf)))),?_⟩
  refine ⟨_,rfl,e,o,V9 s t,rfl,e1,λD hD=>?_⟩;have as:e≠D:=Gh e1 hD;refine Y0 (a:=e) (o:=o) (kvs:=V9 s t) (λi ys H2=>Same H H2/\H2 D=some (.lst ys)/\∃zs:List (Addr×List V),ys=zs.map (λz=>V.ref z.1)/\zs.length=i/\(∀z∈zs,z.1≠D/\H2 z.1=some (.lst z.2))/\zs.map (λz=>z.2.isEmpty)=([s,t].take i).map λp=>decide (¬ 0<=Gs rs p)) ⟨Same.new hD,Gb,[],rfl,rfl,λz hz=>(by cases hz),rfl⟩ (by rintro i ys H2 _ ⟨L,_⟩;exact L _ _ e1) ?_ ?_
  ·rintro i key v ys H2 ac ⟨L,N,zs,rfl,zl,zh,ze⟩;have hi:i<2:=(Yay.mp ac).1;obtain ⟨p,hp,rfl,pr⟩:∃p,[s,t][i]?=some p/\key=Sum.inl p/\0<=p/\p<(k:Int):=by
    match i,hi,ac with
    | 0,_,z=>cases z;exact ⟨s,rfl,rfl,hs.1,hs.2⟩
    | 1,_,z=>cases z;exact ⟨t,rfl,rfl,ht.1,ht.2⟩
   refine ⟨⟨rfl,trivial⟩,?_⟩;unfold WW;refine GY ?_;refine ⟨_,rfl,_,rfl,wb,l,(k:Int),p,xs,rs,rfl,W.same L,by lia,.inl ⟨⟨pr.1,pr.2⟩,λr ns H3 Y ad ak pm so=>?_⟩⟩;have ae:r≠D:=λz=>by rw [z,N] at ad;cases ad
   refine ⟨Y _ _ N,by rw [Yab];lia,(L.trans Y).put hD,Gb,zs++[(r,ns.map V.int)],by rw [Yan];rfl,by rw [Yaq,zl];rfl,λz hz=>?_,?_⟩
   ·rcases Yap.mp hz with y | y
    ·obtain ⟨n1,n2⟩:=zh z y;exact ⟨n1,Gv (Y _ _ n2) n1⟩
    ·rw [Ybo] at y;subst y;exact ⟨ae,Gv ak ae⟩
   ·rw [Yan,ze,Ybt,hp,Yan]
    congr 1
    show [(ns.map V.int).isEmpty]=[decide (¬ 0<=Gs rs p)]
    congr 1
    rw [WM];refine decide_eq_decide.mpr ?_;rw [<-ZaG];constructor
    ·intro z;subst z;exact List.Perm.nil_eq pm |>.symm
    ·intro z;rw [z] at pm;exact pm.eq_nil
  rintro ys H2 ⟨L,N,zs,rfl,zl,zh,ze⟩;refine ⟨D,zs,rfl,SqL.of N,λz hz=>SqL.of (zh z hz).2,_,rfl,?_⟩;have ea:(zs.all λz=>!z.2.isEmpty)=decide (0<=Gs rs s/\0<=Gs rs t):=by
   have e2:(zs.all λz=>!z.2.isEmpty)=(zs.map λz=>z.2.isEmpty).all (λb=>!b):=by rw [List.all_map];rfl
   rw [e2,ze];show (!decide (¬ 0<=Gs rs s) && (!decide (¬ 0<=Gs rs t) && true))=_;by_cases h1:0<=Gs rs s <;> by_cases h2:0<=Gs rs t <;> simp [h1,h2]
  rw [ea];by_cases hB:0<=Gs rs s/\0<=Gs rs t
  ·rw [Yae hB];refine G5 ?_;have W2:=W.same L;refine ⟨Ybw (by show 1<sizeLine;lia),λo1 al=>?_⟩;have Y:=L.put (o:=.lst [V.int (-2)]) (L.free al);have W3:=W.same Y;refine ⟨_,rfl,wb,_,_,_,rfl,rfl,SqT.of W3.w,Gi (j:=0) rfl,_,_,rfl,rfl,o1,_,_,rfl,rfl,Gb,by lia,by lia,(by show 1 * _<=_;lia),λl2 am=>?_⟩;refine ⟨l2,_,rfl,.inl ⟨SqL.of Gb,λT hT=>?_⟩⟩;refine ⟨Ybw (by show 1<sizeLine;lia),λG Z=>?_⟩;have s4:=Y.put (o:=.lst (List.replicate ((k:Int)+1).toNat [V.int (-2)]).flatten) (Y.free am);have s5:=s4.put (o:=.tup (List.replicate ((k:Int)+1).toNat [V.int (-2)]).flatten) (s4.free hT);have an:T≠G:=λz=>by rw [<-z,Gb] at Z;cases Z
   refine q G _ (s5.put (s5.free Z)) (s5.free Z) ⟨[.ref T],Gb,.inr ⟨T,List.replicate (k+1) (-2),?_,rfl,Gv ?_ an⟩⟩
   ·unfold Jy;rw [if_pos hB]
   ·rw [Gb]
    congr 2
    have:∀n:Nat,(List.replicate n [V.int (-2)]).flatten=(List.replicate n (-2:Int)).map V.int:=λn=>by
     induction n with
     | zero=>rfl
     | succ n ih=>rw [Yds,List.flatten_cons,ih,Yds];rfl
    rw [this,show ((k:Int)+1).toNat=k+1 by lia]
  ·rw [Yai hB];refine GY ⟨Yav _,λG Z=>?_⟩;refine q G _ (L.put (L.free Z)) (L.free Z) ⟨[],Gb,.inl ⟨?_,rfl⟩⟩;unfold Jy;rw [if_neg hB]
noncomputable def Valid (c:List Int)(n:Nat):Prop:=c.Pairwise (· < ·)/\∀q∈c,0<=q/\q<(n:Int)
theorem ZbM {rs:List (Int×Int)}{k j:Nat}{s t:Int}{c m:List Int}(h:ZaE rs k s t j c m)(D:j<rs.length)(G:∀r∈rs,0<=r.1/\r.1<r.2/\r.2<(k:Int))(hk:k<=16)(k1:1<=k)(O:∀q∈c,0<=q/\q<(rs.length:Int)):Zfz rs j m:=by
 obtain ⟨lab,hl,U,mate,M,F⟩:=h;have Y:=Of G c O;have B:=G (rs.getD j (0,0)) (by rw [Yat,Yax D];exact Ycq D);have L:=F.len;refine ⟨D,⟨B.1,B.2.1,by lia⟩,λq Z=>?_,by lia⟩;obtain ⟨i,hi,rfl⟩:=Ydd Z;have N:m.getD i 0=m[i]:=by rw [Yat,Yax hi];rfl
 rcases (show i<k\/i=k by lia) with z | z
 ·have:=F.at_ (i:Int) (by lia) (by lia);unfold gA at this;rw [Ybn,N] at this;rw [this,L];unfold Ou;split
  ·lia
  ·split
   ·lia
   ·split
    ·lia
    ·rename_i h1 h2 h3;have d1:degF rs c (i:Int)=1:=by
      have:=U.two (i:Int)
      lia
     have:=Y (mate (i:Int)) (by rw [(M.m _ d1).1];decide);rcases GK s t (mate (i:Int)) with ⟨_,e⟩ | ⟨_,_,e⟩ | ⟨_,_,e⟩ <;> lia
 ·subst z;rw [<-N,F.dn,L];split <;> lia
noncomputable def Zgl:Sp:=λvs H Q _=>∃(c:Int)(k:Nat),vs=[.int c,.int (k:Int)]/\2<=k/\k<=16/\∀(p:Addr)(s t:Int)(H':Hp),Same H H'->H p=none->H' p=some (.tup [.int s,.int t])->s≠t->(0<=s/\s<(k:Int))->(0<=t/\t<(k:Int))->Q (.ref p) H'
theorem scEn:Gu ["cell", "places", "row", "one"] ["cell", "places"] (Ge sEn):=⟨rfl,rfl,rfl,by decide +kernel,rfl,by decide +kernel,by decide +kernel⟩
theorem ZfE {f G:Addr}{fd D:FuncData}(F:Fun K "_law_ends" "_law_ends" sEn f fd)(O:Fun K "_law_numbers" "_law_numbers" ZbA G D)(U:Binds K D ["cell", "many", "base"] [])(Y:mg "_law_numbers" = some (.ref G))(Z:GV P w K mg base CX0 1 G D ["cell", "many", "base"] ZbE):GV P w K mg base CX0 2 f fd ["cell", "places"] Zgl:=by
 refine F.ok scEn (λvs H Q E h=>?_) (λad A aa s0 H vs Q E hr h=>?_)
 ·obtain ⟨_,_,rfl,_⟩:=h
  rfl
 ·obtain ⟨c,k,rfl,k2,ae,q⟩:=h;refine ⟨_,Gc (Go (i:=2) scEn.nd rfl (Or.inl rfl) (Gk Z (hr.mono (by decide)) rfl Y O.kp U .nil GU (Ga (pv 0) (Ga Gd (Ga Gd Gf)))))
    (Gc (Go (i:=3) scEn.nd rfl (Or.inl rfl) (Gw Js (Gn (J3 K) (pv 2) Gd (λ_ _=>rfl)) (pv 1)))
    (Gg (Gy (JE (Ga (pv 3) (Ga (Gw Js (Gw G0 (Gw G0 (pv 3) Gd) (Gw Js (Gn (J3 K) (pv 2) Gd (λ_ _=>rfl)) (Gw U8 (pv 1) Gd))) (pv 1)) Gf)))))),?_⟩
  refine ⟨_,rfl,c,16,2,rfl,by decide,by decide,by decide,λro B H1 s1 af L rl rb=>?_⟩
  try dsimp only [Jd]
  have N:(0:Int)<(k:Int):=by lia
  have a0:=Ycw (B.getD 0 0) (show (k:Int)≠0 by lia);have a1:=Ycx (B.getD 0 0) N;have b0:=Ycw (B.getD 1 0) (show (k:Int)-1≠0 by lia);have b1:=Ycx (B.getD 1 0) (show (0:Int)<(k:Int)-1 by lia);refine GO (λσ' H'=>σ'=[some (.int c),some (.int (k:Int)),some (.ref ro),some (.int (B.getD 0 0 % (k:Int)))]/\H'=H1) ?g2 ?g1
  case g1=>
   intro hk;refine ⟨_,rfl,ro,_,_,_,rfl,rfl,SqL.of L,JI (i:=0) (by decide) (by lia),_,rfl,_,_,rfl,rfl,N,?_⟩;exact hk _ _ ⟨rfl,rfl⟩
  rintro σ' H' ⟨rfl,rfl⟩;generalize B.getD 0 0 % (k:Int)=s at a0 a1 ⊢;refine ⟨_,rfl,_,rfl,_,_,rfl,rfl,_,rfl,ro,_,_,_,rfl,rfl,SqL.of L,JI (i:=1) (by decide) (by lia),_,rfl,_,_,rfl,rfl,_,_,rfl,rfl,(by show (0:Int)<(k:Int)-1;lia),_,_,rfl,rfl,_,rfl,_,_,rfl,rfl,N,JS,λp hp=>?_⟩;have ab:0<=B.getD (1:Int).toNat 0 % ((k:Int)-1):=b0;have ac:B.getD (1:Int).toNat 0 % ((k:Int)-1)<(k:Int)-1:=b1;generalize B.getD (1:Int).toNat 0 % ((k:Int)-1)=d at ab ac ⊢;refine q p _ _ _ (s1.put (s1.free hp)) (s1.free hp) Gb ?_ ⟨a0,a1⟩ ⟨Ycw _ (by lia),Ycx _ N⟩;intro z;rcases (show s+1+d<(k:Int)\/(k:Int)<=s+1+d by lia) with y | y
  ·rw [Int.emod_eq_of_lt (by lia) y] at z
   lia
  ·have:(s+1+d) % (k:Int)=s+1+d-(k:Int):=by
    rw [<-Int.sub_emod_right,Int.emod_eq_of_lt (by lia) (by lia)]
   lia
noncomputable def GD (k:Nat)(f:Int->Int):List Int:=(List.range k).map λi=>f ((i:Nat):Int)
theorem GS (k:Nat)(f:Int->Int):(GD k f).length=k:=by unfold GD;rw [Yab,Ycp]
theorem WP {k:Nat}{f:Int->Int}{i:Int}(h0:0<=i)(h1:i<(k:Int)):(GD k f).getD i.toNat 0=f i:=by
 unfold GD;rw [Yat,Yaw,List.getElem?_range (by lia)];show f ((i.toNat:Nat):Int)=_;rw [show ((i.toNat:Nat):Int)=i by lia]
theorem GQ {k:Nat}{f:Int->Int}{i:Int}(h0:0<=i)(h1:i<(k:Int)):atI ((GD k f).map V.int) i=some (.int (f i)):=by
 rw [JI h0 (by rw [GS];exact h1),WP h0 h1]
theorem Ub {k:Nat}{f:Int->Int}{i v:Int}(h0:0<=i)(h1:i<(k:Int)):(GD k f).set i.toNat v=GD k (λx=>if x=i then v else f x):=by
 unfold GD;refine List.ext_getElem? λn=>?_;rw [List.getElem?_set,Yaw,Yaw,Yab,Ycp];by_cases q:n<k
 ·rw [List.getElem?_range q];by_cases e:i.toNat=n
  ·rw [if_pos e,if_pos (show i.toNat<k by lia)];show some v=some (if ((n:Nat):Int)=i then v else _);rw [if_pos (by lia)]
  ·rw [if_neg e];show some _=some (if ((n:Nat):Int)=i then v else _);rw [if_neg (by lia)]
 ·rw [Yet (by rw [Ycp];lia)];split
  ·split
   ·lia
   ·rfl
  ·rfl
theorem UZ {k:Nat}{f g:Int->Int}(h:∀x,0<=x->x<(k:Int)->f x=g x):GD k f=GD k g:=by
 unfold GD;refine List.map_congr_left λi hi=>h _ (by lia) ?_;have:=Ybv.mp hi
 lia
theorem U0 (k:Nat)(v:Int):(List.replicate k [V.int v]).flatten=(GD k λ_=>v).map V.int:=by
 unfold GD;rw [Ydy]
 induction k with
 | zero=>rfl
 | succ k ih=>
  rw [List.replicate_succ',List.flatten_append,ih,List.range_succ,Yan]
  rfl
noncomputable def Zgm:Sp:=λvs H Q _=>∃(q l:Addr)(k:Nat)(xs:List V)(rs:List (Int×Int)),vs=[.ref q]/\WebAt H q l (k:Int) xs rs/\GX (k:Int) rs/\∀(p:Addr)(H':Hp),Same H H'->H p=none->H' p=some (.lst ((GD k (Gs rs)).map V.int))->Q (.ref p) H'
theorem scLa:Gu ["web", "last", "k"] ["web"] (Ge sLa):=⟨rfl,rfl,rfl,by decide +kernel,rfl,by decide +kernel,by decide +kernel⟩
theorem ZfF {f:Addr}{fd:FuncData}(F:Fun K "_law_last" "_law_last" sLa f fd)(B:mg "range" = none)(N:mg "len" = none):GV P w K mg base CX0 1 f fd ["web"] Zgm:=by
 refine F.ok scLa (λvs H Q E h=>?_) (λac A Z s0 H vs Q E hr h=>?_)
 ·obtain ⟨_,_,_,_,_,rfl,_⟩:=h
  rfl
 ·obtain ⟨O,l,k,xs,rs,rfl,W,g,q⟩:=h;have ad:=Ybf.symm;have aa:=W.p.len;have gk:=g.2.1;have g3:=g.2.2.1;refine ⟨_,Gc (Go (i:=1) scLa.nd rfl (Or.inl rfl) (Gw ZB (Jh (Ga (Xb OI Gd) Gf)) (Gn (Jg K) (pv 0) Gd (λ_ _=>rfl))))
    (Gc (Jf Ybq rfl (Je rfl B (Ga (GA (Zb3 K) rfl N Ydz (Ga (Gn (Jg K) (pv 0) Gd (λ_ _=>rfl)) Gf)) Gf)) (Gj (i:=2) scLa.nd rfl (Or.inl rfl))
    (Gc (Oz (pv 2) (Up (pv 1) (Gn (Jg K) (Gn (J3 K) (Gn (Jg K) (pv 0) Gd (λ_ _=>rfl)) (pv 2) (λ_ _=>rfl)) Gd (λ_ _=>rfl)) Jr))
    (Gg (Oz (pv 2) (Up (pv 1) (Gn (Jg K) (Gn (J3 K) (Gn (Jg K) (pv 0) Gd (λ_ _=>rfl)) (pv 2) (λ_ _=>rfl)) Gd (λ_ _=>rfl)) Jr)))))
    (Gg (Gy (pv 1)))),?_⟩
  refine ⟨_,rfl,Ybw (by show 1<sizeLine;lia),λo ho=>?_⟩;have s1:Same H (upd H o (.lst [V.int (-1)])):=Same.new ho;refine ⟨_,rfl,O,_,_,_,rfl,rfl,SqT.of (s1 _ _ W.w),Gi (j:=0) rfl,o,_,_,rfl,rfl,Gb,by lia,by lia,(by show 1 * _<=_;lia),λp hp=>?_⟩;rw [Ybn,U0];have D:=s1.free hp;have G:=s1.put (o:=.lst ((GD k λ_=>-1).map V.int)) D;refine ⟨_,rfl,O,_,_,_,rfl,rfl,SqT.of (G _ _ W.w),Gi (j:=1) rfl,l,_,rfl,.inl (SqL.of (G _ _ W.l)),_,rfl,by lia,by lia,?_⟩;rw [Ybn];refine JC (lo:=0) (n:=xs.length) (λi σ H2=>∃v2:Option V,σ=[some (.ref O),some (.ref p),v2]/\Same H H2/\H2 p=some (.lst ((GD k λx=>JJ rs x i).map V.int))) ⟨none,rfl,G,Gb⟩ ?_ ?_
  ·rintro i σ H2 hi ⟨v2,rfl,G,U⟩;rw [Int.zero_add];have W2:=W.same G;have hx:xs[i]?=some xs[i]:=Yax hi;obtain ⟨t,r,et,L,er⟩:=W2.p.get hx;have ab:rs.getD i (0,0)=r:=by rw [Yat,er];rfl
   have gr:=g.2.2.2.1 r (Ybb er);refine ⟨_,rfl,_,rfl,_,rfl,O,_,_,_,rfl,rfl,SqT.of W2.w,Gi (j:=1) rfl,_,rfl,l,_,_,_,rfl,rfl,SqL.of W2.l,Gi (j:=i) (by rw [hx,et]),t,_,_,_,rfl,rfl,SqT.of L,Gi (j:=0) rfl,p,_,r.1,_,rfl,rfl,U,J1 gr.1 (by rw [Yab,GS];lia),?_⟩;rw [map_set,Ub gr.1 (by lia)];have s3:=G.put (o:=.lst ((GD k λx=>if x=r.1 then (i:Int) else JJ rs x i).map V.int)) D;have W3:=W.same s3;have Y:upd H2 p (.lst ((GD k λx=>if x=r.1 then (i:Int) else JJ rs x i).map V.int)) t=some (.tup [.int r.1,.int r.2]):=Gv L (Ow L U (λz=>by cases z));refine ⟨_,rfl,_,rfl,_,rfl,O,_,_,_,rfl,rfl,SqT.of W3.w,Gi (j:=1) rfl,_,rfl,l,_,_,_,rfl,rfl,SqL.of W3.l,Gi (j:=i) (by rw [hx,et]),t,_,_,_,rfl,rfl,SqT.of Y,Gi (j:=1) rfl,p,_,r.2,_,rfl,rfl,Gb,J1 (by lia) (by rw [Yab,GS];lia),?_⟩;rw [map_set,Ub (by lia) gr.2.2];refine ⟨_,rfl,s3.put D,?_⟩;rw [Gb]
   congr 3
   refine UZ λx _ _=>?_;show _=if (rs.getD i (0,0)).1=x\/(rs.getD i (0,0)).2=x then (i:Int) else JJ rs x i
   rw [ab];by_cases h2:x=r.2
   ·rw [if_pos h2,if_pos (.inr h2.symm)]
   ·rw [if_neg h2];by_cases h1:x=r.1
    ·rw [if_pos h1,if_pos (.inl h1.symm)]
    ·rw [if_neg h1,if_neg (λz=>z.elim (λz=>h1 z.symm) (λz=>h2 z.symm))]
  ·rintro σ H2 ⟨v2,rfl,G,U⟩;rw [aa] at U;exact ⟨_,rfl,q p H2 G D U⟩
noncomputable def ZfG:Sp:=λvs H Q _=>∃(B l cl:Addr)(k:Nat)(xs:List V)(rs:List (Int×Int))(c:List Int),vs=[.ref B,.ref cl]/\WebAt H B l (k:Int) xs rs/\GX (k:Int) rs/\H cl=some (.lst (c.map V.int))/\(∀q∈c,0<=q/\q<(rs.length:Int))/\∀(p:Addr)(H':Hp),Same H H'->H p=none->H' p=some (.lst ((GD k λx=>(degF rs c x:Int)).map V.int))->Q (.ref p) H'
theorem scDg:Gu ["web", "chosen", "degrees", "road"] ["web", "chosen"] (Ge sDg):=⟨rfl,rfl,rfl,by decide +kernel,rfl,by decide +kernel,by decide +kernel⟩
theorem ZfH {f:Addr}{fd:FuncData}(F:Fun K "_law_degrees" "_law_degrees" sDg f fd):GV P w K mg base CX0 1 f fd ["web", "chosen"] ZfG:=by
 refine F.ok scDg (λvs H Q E h=>?_) (λad A aa s0 H vs Q E hr h=>?_)
 ·obtain ⟨_,_,_,_,_,_,_,rfl,_⟩:=h
  rfl
 ·obtain ⟨Z,l,cl,k,xs,rs,c,rfl,W,g,hc,ab,q⟩:=h;have ae:=Ybf.symm;have af:=W.p.len;have gk:=g.2.1;refine ⟨_,Gc (Go (i:=2) scDg.nd rfl (Or.inl rfl) (Gw ZB (Jh (Ga Gd Gf)) (Gn (Jg K) (pv 0) Gd (λ_ _=>rfl))))
    (Gc (Jf Ybq rfl (JL K (pv 1)) (Gj (i:=3) scDg.nd rfl (Or.inl rfl))
    (Gc (Zj (pv 2) (Gn (Jg K) (Gn (J3 K) (Gn (Jg K) (pv 0) Gd (λ_ _=>rfl)) (pv 3) (λ_ _=>rfl)) Gd (λ_ _=>rfl)) (Zea K) Gd ZbV Jr)
    (Gg (Zj (pv 2) (Gn (Jg K) (Gn (J3 K) (Gn (Jg K) (pv 0) Gd (λ_ _=>rfl)) (pv 3) (λ_ _=>rfl)) Gd (λ_ _=>rfl)) (Zea K) Gd ZbV Jr))))
    (Gg (Gy (pv 2)))),?_⟩
  refine ⟨Ybw (by show 1<sizeLine;lia),λo ho=>?_⟩;have s1:Same H (upd H o (.lst [V.int 0])):=Same.new ho;refine ⟨_,rfl,Z,_,_,_,rfl,rfl,SqT.of (s1 _ _ W.w),Gi (j:=0) rfl,o,_,_,rfl,rfl,Gb,by lia,by lia,(by show 1 * _<=_;lia),λp hp=>?_⟩;rw [Ybn,U0];have D:=s1.free hp;have G:=s1.put (o:=.lst ((GD k λ_=>0).map V.int)) D;refine ⟨_,rfl,cl,rfl,⟨_,SqL.of (G _ _ hc)⟩,?_⟩;refine Jq (K:=K) (a:=cl) (xs:=c.map V.int) (λi σ H2=>∃v3:Option V,σ=[some (.ref Z),some (.ref cl),some (.ref p),v3]/\Same H H2/\H2 p=some (.lst ((GD k λx=>(degF rs (c.take i) x:Int)).map V.int))) ⟨none,rfl,G,Gb⟩ (by rintro i σ H2 _ ⟨_,_,G,_⟩;exact SqL.of (G _ _ hc)) ?_ ?_
  ·rintro i x σ H2 B ⟨v3,rfl,G,N⟩;rw [Yaw] at B;cases y:c[i]? with
   | none=>rw [y] at B;cases B
   | some d=>
    rw [y] at B;cases B;obtain ⟨d0,d1⟩:=ab d (Ybb y);have W2:=W.same G;have hx:xs[d.toNat]?=some xs[d.toNat]:=Yax (by lia);obtain ⟨t,r,et,L,er⟩:=W2.p.get hx;have ac:JU rs d=r:=by unfold JU;rw [Yat,er];rfl
    have O:=g.2.2.2.1 r (Ybb er);have U:atI xs d=some (.ref t):=by
     have:=Gi (xs:=xs) (j:=d.toNat) (v:=.ref t) (by rw [hx,et])
     rwa [show ((d.toNat:Nat):Int)=d by lia] at this
    have gt:∀(f:Int->Int)(a:Int),0<=a->a<(k:Int)->((GD k f).map V.int)[a.toNat]?=some (.int (f a)):=λf a a0 a1=>by
     have:=WP (f:=f) a0 a1;rw [Yat] at this;rw [Yaw];cases z:(GD k f)[a.toNat]? with
     | none=>
      have:=List.getElem?_eq_none_iff.mp z;rw [GS] at this
      lia
     | some u=>
      rw [z] at this;rw [<-this]
      rfl
    refine ⟨_,rfl,_,rfl,Z,_,_,_,rfl,rfl,SqT.of W2.w,Gi (j:=1) rfl,_,rfl,l,_,_,_,rfl,rfl,SqL.of W2.l,U,t,_,_,_,rfl,rfl,SqT.of L,Gi (j:=0) rfl,p,_,r.1,_,rfl,rfl,SqL.of N,O.1,gt _ _ O.1 (by lia),_,_,rfl,rfl,p,_,r.1,_,rfl,rfl,N,J1 O.1 (by rw [Yab,GS];lia),?_⟩;rw [map_set,Ub O.1 (by lia)];have s3:=G.put (o:=.lst ((GD k λx=>if x=r.1 then (degF rs (c.take i) r.1:Int)+1 else (degF rs (c.take i) x:Int)).map V.int)) D;have W3:=W.same s3;have Y:upd H2 p (.lst ((GD k λx=>if x=r.1 then (degF rs (c.take i) r.1:Int)+1 else (degF rs (c.take i) x:Int)).map V.int)) t=some (.tup [.int r.1,.int r.2]):=Gv L (Ow L N (λz=>by cases z));refine ⟨_,rfl,_,rfl,Z,_,_,_,rfl,rfl,SqT.of W3.w,Gi (j:=1) rfl,_,rfl,l,_,_,_,rfl,rfl,SqL.of W3.l,U,t,_,_,_,rfl,rfl,SqT.of Y,Gi (j:=1) rfl,p,_,r.2,_,rfl,rfl,SqL.of Gb,by lia,gt _ _ (by lia) O.2.2,_,_,rfl,rfl,p,_,r.2,_,rfl,rfl,Gb,J1 (by lia) (by rw [Yab,GS];lia),?_⟩;rw [map_set,Ub (by lia) O.2.2];refine ⟨_,rfl,s3.put D,?_⟩;rw [Gb]
    congr 3
    refine UZ λx _ _=>?_;rw [Ybt,y];show _=((degF rs (c.take i++[d]) x:Nat):Int);rw [JT,ac];unfold JP;by_cases h2:x=r.2
    ·have h1:x≠r.1:=by lia
     rw [if_pos h2,if_neg (show ¬ r.2=r.1 by lia),if_neg h1,if_pos h2,h2]
     push_cast
     lia
    ·rw [if_neg h2];by_cases h1:x=r.1
     ·rw [if_pos h1,if_pos h1,if_neg h2,h1]
      push_cast
      lia
     ·rw [if_neg h1,if_neg h1,if_neg h2]
      push_cast
      lia
  ·rintro σ H2 ⟨v3,rfl,G,N⟩;rw [Yab,Ybz] at N;exact ⟨_,rfl,q p H2 G D N⟩
theorem ZbN:bootBuiltins "max" = some (.builtin "max"):=by first | rfl | decide +kernel
theorem ZaH {rs:List (Int×Int)}{c:List Int}{i:Nat}(h:UD rs (c.take i)=none):UD rs c=none:=by
 have key:∀d:List Int,d.foldl (λl q=>l.bind λlab=>if lab (JU rs q).1=lab (JU rs q).2 then none else some (JN (JU rs q) lab)) none=none:=λd=>by
  induction d with
  | nil=>rfl
  | cons q d ih=>exact ih
 have e:=Yde i c;unfold UD at h ⊢;rw [<-e,List.foldl_append,h];exact key _
noncomputable def ZfI:Sp:=λvs H Q _=>∃(B l cl:Addr)(k:Nat)(xs:List V)(rs:List (Int×Int))(c:List Int),vs=[.ref B,.ref cl]/\WebAt H B l (k:Int) xs rs/\GX (k:Int) rs/\H cl=some (.lst (c.map V.int))/\(∀q∈c,0<=q/\q<(rs.length:Int)) /\
 (∀H':Hp,Same H H'->UD rs c=none->Q .non H')/\∀(p:Addr)(lab:Int->Int)(H':Hp),Same H H'->H p=none->UD rs c=some lab->H' p=some (.lst ((GD k lab).map V.int))->Q (.ref p) H'
theorem scPi:Gu ["web", "chosen", "piece", "road", "one", "two"] ["web", "chosen"] (Ge sPi):=⟨rfl,rfl,rfl,by decide +kernel,rfl,by decide +kernel,by decide +kernel⟩
theorem Vp (k:Nat)(f:Int->Int)(i:Nat)(h:i<k):(GD k f)[i]?=some (f (i:Int)):=by
 unfold GD;rw [Yaw,List.getElem?_range h]
 rfl
theorem Um (i:Nat)(f:Int->Int):GD (i+1) f=GD i f++[f (i:Int)]:=by
 unfold GD;rw [List.range_succ,Yan]
 rfl
theorem ZfJ {f:Addr}{fd:FuncData}(F:Fun K "_law_pieces" "_law_pieces" sPi f fd)(G:mg "range" = none):GV P w K mg base CX0 1 f fd ["web", "chosen"] ZfI:=by
 refine F.ok scPi (λvs H Q E h=>?_) (λag A ad s0 H vs Q E hr h=>?_)
 ·obtain ⟨_,_,_,_,_,_,_,rfl,_⟩:=h
  rfl
 ·obtain ⟨wb,l,cl,k,xs,rs,c,rfl,W,g,hc,ae,qn,qs⟩:=h;have ah:=Ybf.symm;have ai:=W.p.len;have gk:=g.2.1;refine ⟨_,Gc (OH (i:=2) scPi.nd rfl (Or.inl rfl) (own:=["place"]) rfl (G9 (by decide +kernel) (by decide +kernel) rfl (by decide +kernel)) (Je rfl G (Ga (Gn (Jg K) (pv 0) Gd (λ_ _=>rfl)) Gf)) (λ_ _ _ _=>Gj (i:=0) (show List.Nodup (["place"]:List Str) by decide +kernel) rfl (Or.inl rfl)) (λ_ _ _ _=>GZ) (λ_ _ _ _=>pv 0))
    (Gc (Jf Ybq rfl (JL K (pv 1)) (Gj (i:=3) scPi.nd rfl (Or.inl rfl))
    (Gc (Go (i:=4) scPi.nd rfl (Or.inr rfl) (Gn (J3 K) (pv 2) (Gn (Jg K) (Gn (J3 K) (Gn (Jg K) (pv 0) Gd (λ_ _=>rfl)) (pv 3) (λ_ _=>rfl)) Gd (λ_ _=>rfl)) (λ_ _=>rfl)))
    (Gc (Go (i:=5) scPi.nd rfl (Or.inr rfl) (Gn (J3 K) (pv 2) (Gn (Jg K) (Gn (J3 K) (Gn (Jg K) (pv 0) Gd (λ_ _=>rfl)) (pv 3) (λ_ _=>rfl)) Gd (λ_ _=>rfl)) (λ_ _=>rfl)))
    (Gc (G4 (Gm JK (pv 4) (pv 5) (Gx _)) (Gg (Gy Uo)) Gz)
    (Gg (OH (i:=2) scPi.nd rfl (Or.inl rfl) (own:=["there"]) rfl (Gq (fr:=[("one", 4),("two", 5)]) [(".0", .local),("there", .local),("one", .cell),("two", .cell)] rfl rfl (by decide +kernel) rfl (by decide +kernel) ⟨rfl,rfl,trivial⟩ ⟨λh=>G6 h,λh=>G6 h,λ_=>⟨_,rfl⟩,λ_=>⟨_,rfl⟩,trivial⟩ ⟨⟨rfl,.inl rfl,.inl rfl⟩,⟨rfl,.inl rfl,.inl rfl⟩,trivial⟩) (JL K (pv 2)) (λ_ _ _ _=>Gj (i:=0) (show List.Nodup (["there", "one", "two"]:List Str) by decide +kernel) rfl (Or.inl rfl)) (λ_ _ _ _=>GZ) (λ_ _ _ _=>OL (Gm JK (pv 0) (pv 1) (Gx _)) (pv 2) (pv 0))))))))
    (Gg (Gy (pv 2)))),?_⟩
  refine ⟨_,rfl,wb,_,_,_,rfl,rfl,SqT.of W.w,Gi (j:=0) rfl,_,rfl,by lia,by lia,λD hD=>?_⟩;rw [Ybn];refine Om (lo:=0) (n:=k) (λj ys H2=>Same H H2/\H2 D=some (.lst ys)/\ys=(GD j id).map V.int) ⟨Same.new hD,Gb,rfl⟩ ?_ ?_
  ·rintro j ys H2 hj ⟨s2,q,rfl⟩;rw [Int.zero_add];refine ⟨trivial,?_⟩;unfold WW;refine GY ?_;exact ⟨_,rfl,q,by rw [Yab,GS];lia,s2.put hD,Gb,by rw [Um,Yan];rfl⟩
  rintro ys H2 ⟨s2,q,rfl⟩
  try dsimp only [Jd]
  refine ⟨_,rfl,cl,rfl,⟨_,SqL.of (s2 _ _ hc)⟩,?_⟩;refine Jq (K:=K) (a:=cl) (xs:=c.map V.int) (λi σ N=>∃(v3 v4 v5:Option V)(p:Addr)(lab:Int->Int),σ=[some (.ref wb),some (.ref cl),some (.ref p),v3,v4,v5]/\Same H N/\H p=none/\UD rs (c.take i)=some lab/\N p=some (.lst ((GD k lab).map V.int))) ⟨none,none,none,D,id,rfl,s2,hD,rfl,q⟩ (by rintro i σ N _ ⟨_,_,_,_,_,_,O,_⟩;exact SqL.of (O _ _ hc)) ?_ ?_
  ·rintro i x σ N B ⟨v3,v4,v5,p,lab,rfl,O,aa,hl,Z⟩;rw [Yaw] at B;cases y:c[i]? with
   | none=>rw [y] at B;cases B
   | some d=>
    rw [y] at B;cases B;obtain ⟨d0,d1⟩:=ae d (Ybb y);have W2:=W.same O;have hx:xs[d.toNat]?=some xs[d.toNat]:=Yax (by lia);obtain ⟨t,r,et,ab,er⟩:=W2.p.get hx;have af:JU rs d=r:=by unfold JU;rw [Yat,er];rfl
    have gr:=g.2.2.2.1 r (Ybb er);have ac:atI xs d=some (.ref t):=by
     have:=Gi (xs:=xs) (j:=d.toNat) (v:=.ref t) (by rw [hx,et])
     rwa [show ((d.toNat:Nat):Int)=d by lia] at this
    refine ⟨_,rfl,_,rfl,wb,_,_,_,rfl,rfl,SqT.of W2.w,Gi (j:=1) rfl,_,rfl,l,_,_,_,rfl,rfl,SqL.of W2.l,ac,t,_,_,_,rfl,rfl,SqT.of ab,Gi (j:=0) rfl,p,_,_,_,rfl,rfl,SqL.of Z,GQ gr.1 (by lia),?_⟩;refine ⟨_,rfl,_,rfl,wb,_,_,_,rfl,rfl,SqT.of W2.w,Gi (j:=1) rfl,_,rfl,l,_,_,_,rfl,rfl,SqL.of W2.l,ac,t,_,_,_,rfl,rfl,SqT.of ab,Gi (j:=1) rfl,p,_,_,_,rfl,rfl,SqL.of Z,GQ (by lia) gr.2.2,?_⟩;refine ⟨_,rfl,_,rfl,rfl,_,rfl,?_⟩;rw [GF];have next:UD rs (c.take (i+1))=if lab r.1=lab r.2 then none else some (JN r lab):=by
     rw [Ybt,y];show UD rs (c.take i++[d])=_;rw [O7,hl,af]
     rfl
    by_cases z:lab r.1=lab r.2
    ·rw [Yae z];rw [if_pos z] at next
     exact GY (qn _ O (ZaH next))
    rw [Yai z];rw [if_neg z] at next
    refine G5 ?_;refine ⟨_,rfl,p,rfl,⟨_,SqL.of Z⟩,λD2 q=>?_⟩;refine G3 (K:=K) (a:=p) (xs:=(GD k lab).map V.int) (λj ys U=>Same N U/\U D2=some (.lst ys)/\ys=(GD j (JN r lab)).map V.int) ⟨Same.new q,Gb,rfl⟩ (by rintro j ys U _ ⟨s4,_⟩;exact SqL.of (s4 _ _ Z)) ?_ ?_
    ·rintro j x ys U Y ⟨s4,L,rfl⟩;have hj:j<k:=by
      have:=(Yay.mp Y).1;rw [Yab,GS] at this;exact this
     rw [Yaw,Vp k lab j hj] at Y;cases Y;refine ⟨⟨rfl,rfl,trivial⟩,?_⟩;unfold WW;refine GY ?_;refine ⟨_,rfl,_,rfl,rfl,_,rfl,?_⟩;rw [GF];have step:∀v:Int,v=JN r lab (j:Int)->U D2=some (.lst ((GD j (JN r lab)).map V.int))/\((GD j (JN r lab)).map V.int).length<sizeLine/\Same N (upd U D2 (.lst ((GD j (JN r lab)).map V.int++[.int v])))/\upd U D2 (.lst ((GD j (JN r lab)).map V.int++[.int v])) D2=some (.lst ((GD j (JN r lab)).map V.int++[.int v]))/\(GD j (JN r lab)).map V.int++[.int v]=(GD (j+1) (JN r lab)).map V.int:=λv hv=>
      ⟨L,by rw [Yab,GS];lia,s4.put q,Gb,by rw [Um,Yan,hv];rfl⟩
     refine YK (λy=>?_) (λy=>?_)
     ·exact ⟨_,rfl,step _ (by unfold JN;rw [if_pos (Ybp y)])⟩
     ·exact ⟨_,rfl,step _ (by unfold JN;rw [if_neg (λu=>y (Yae u))])⟩
    rintro ys U ⟨s4,L,rfl⟩;rw [Yab,GS] at L;exact ⟨_,_,_,D2,_,rfl,O.trans s4,O.free q,next,L⟩
  ·rintro σ N ⟨v3,v4,v5,p,lab,rfl,O,aa,hl,Z⟩;rw [Yab,Ybz] at hl;exact ⟨_,rfl,qs p lab N O aa hl Z⟩
noncomputable def Zgn:Sp:=λvs H Q _=>∃(B l D cl F:Addr)(k:Nat)(xs:List V)(rs:List (Int×Int))(c:List Int)(s t i:Int),vs=[.ref B,.ref D,.int i,.ref cl,.ref F]/\WebAt H B l (k:Int) xs rs/\GX (k:Int) rs/\H D=some (.tup [.int s,.int t])/\(0<=s/\s<(k:Int))/\(0<=t/\t<(k:Int))/\H cl=some (.lst (c.map V.int))/\(∀q∈c,0<=q/\q<(rs.length:Int))/\H F=some (.lst ((GD k (Gs rs)).map V.int)) /\
 ∀(b:Bool)(H':Hp),Same H H'->(b=true↔Hop rs k s t i c)->Q (.bl b) H'
theorem scLh:Gu ["web", "ends", "i", "chosen", "last", "degrees", "piece", "place"] ["web", "ends", "i", "chosen", "last"] (Ge sLh):=⟨rfl,rfl,rfl,by decide +kernel,rfl,by decide +kernel,by decide +kernel⟩
theorem Zde {rs:List (Int×Int)}{k:Int}(B:∀r∈rs,0<=r.1/\r.1<r.2/\r.2<k){c:List Int}(D:∀q∈c,0<=q/\q<(rs.length:Int)){x:Int}(h:¬ (0<=x/\x<k)):degF rs c x=0:=by
 rcases Nat.eq_zero_or_pos (degF rs c x) with z | z
 ·exact z
 ·exact absurd (Of B c D x (by lia)) h
theorem ZfK {f ab ac:Addr}{fd Z aa:FuncData}(F:Fun K "_law_hopeful" "_law_hopeful" sLh f fd)(ap:Fun K "_law_degrees" "_law_degrees" sDg ab Z)(aq:Binds K Z ["web", "chosen"] [])(ar:mg "_law_degrees" = some (.ref ab))(as:GV P w K mg base CX0 1 ab Z ["web", "chosen"] ZfG)(au:Fun K "_law_pieces" "_law_pieces" sPi ac aa)(av:Binds K aa ["web", "chosen"] [])(aw:mg "_law_pieces" = some (.ref ac))(ax:GV P w K mg base CX0 1 ac aa ["web", "chosen"] ZfI)(L:mg "range" = none)(ai:mg "max" = none)(aj:mg "all" = none):GV P w K mg base CX0 2 f fd ["web", "ends", "i", "chosen", "last"] Zgn:=by
 refine F.ok scLh (λvs H Q E h=>?_) (λa2 A ay s0 H vs Q E hr h=>?_)
 ·obtain ⟨_,_,_,_,_,_,_,_,_,_,_,_,rfl,_⟩:=h
  rfl
 ·obtain ⟨wb,l,en,cl,la,k,xs,rs,c,s,t,i,rfl,W,g,ak,hs,ht,hc,ad,al,q⟩:=h;have a3:=Ybf.symm;have gk:=g.2.1;have g1:=g.1;refine ⟨_,Gc (Go (i:=5) scLh.nd rfl (Or.inr rfl) (Gk as (hr.mono (by decide)) rfl ar ap.kp aq .nil GU (Ga (pv 0) (Ga (pv 3) Gf))))
    (Gc (Go (i:=6) scLh.nd rfl (Or.inr rfl) (Gk ax (hr.mono (by decide)) rfl aw au.kp av .nil GU (Ga (pv 0) (Ga (pv 3) Gf))))
    (Gc (G4 (PW.pt (Ox (Gm ZbY (pv 6) Uo (Gx _)) (J5 (Gm Zcw (GA (ZgU K rfl) rfl ai ZbN (Ga (pv 5) Gf)) Gd (Gx _))))) (Gg (Gy Uu)) Gz)
    (Gc (Jf Ybq rfl (Je rfl L (Ga (Gn (Jg K) (pv 0) Gd (λ_ _=>rfl)) Gf)) (Gj (i:=7) scLh.nd rfl (Or.inl rfl))
    (Gg (G4 (Gm (kIn K) (pv 7) (pv 1) (by with_unfolding_all rfl)) (Gg (G4 (PW.pt (Ox (Gm Zcw (Gn (J3 K) (pv 5) (pv 7) (λ_ _=>rfl)) Gd (Gx _)) (J5 (PW.pt (J2 (Gm UG (Gn (J3 K) (pv 4) (pv 7) (λ_ _=>rfl)) (pv 2) (Gx _)) (JA (Gm JK (Gn (J3 K) (pv 5) (pv 7) (λ_ _=>rfl)) Gd (Gx _)))))))) (Gg (Gy Uu)) Gz)) (Gg (G4 (PW.pt (J2 (Gm UG (Gn (J3 K) (pv 4) (pv 7) (λ_ _=>rfl)) (pv 2) (Gx _)) (JA (Gm JK (Gn (J3 K) (pv 5) (pv 7) (λ_ _=>rfl)) Gd (Gx _))))) (Gg (Gy Uu)) Gz)))))
    (Gc (G4 (PW.pt (Ox (Gm JK (Gn (J3 K) (pv 5) (Gn (Jg K) (pv 1) Gd (λ_ _=>rfl)) (λ_ _=>rfl)) Gd (Gx _)) (J5 (Gm Zcv (Gn (J3 K) (pv 6) (Gn (Jg K) (pv 1) Gd (λ_ _=>rfl)) (λ_ _=>rfl)) (Gn (J3 K) (pv 6) (Gn (Jg K) (pv 1) Gd (λ_ _=>rfl)) (λ_ _=>rfl)) (Gx _))))) (Gg (Gy Uu)) Gz)
    (Gg (Gy (GA (Ze8 K rfl) rfl aj Uz (Ga (Jn (own:=["place"]) rfl (Gq (fr:=[("ends", 1),("degrees", 5),("piece", 6)]) [(".0", .local),("place", .local),("degrees", .cell),("ends", .cell),("piece", .cell)] rfl rfl (by decide +kernel) rfl (by decide +kernel) ⟨rfl,rfl,rfl,trivial⟩ ⟨λh=>G6 h,λh=>G6 h,λ_=>⟨_,rfl⟩,λ_=>⟨_,rfl⟩,λ_=>⟨_,rfl⟩,trivial⟩ ⟨⟨rfl,.inl rfl,.inl rfl⟩,⟨rfl,.inl rfl,.inl rfl⟩,⟨rfl,.inl rfl,.inl rfl⟩,trivial⟩) (Je rfl L (Ga (Gn (Jg K) (pv 0) Gd (λ_ _=>rfl)) Gf)) (λ_ _ _ _=>Gj (i:=0) (show List.Nodup (["place", "ends", "degrees", "piece"]:List Str) by decide +kernel) rfl (Or.inl rfl)) (λ_ _ _ _=>GZ) (λ_ _ _ _=>Zdv (JW JK (Gn (J3 K) (pv 2) (pv 0) (λ_ _=>rfl)) Gd (Gx _)) (Zi (JW JK (Gn (J3 K) (pv 3) (pv 0) (λ_ _=>rfl)) (Gn (J3 K) (pv 3) (Gn (Jg K) (pv 1) Gd (λ_ _=>rfl)) (λ_ _=>rfl)) (Gx _))))) Gf)))))))),?_⟩
  refine ⟨_,rfl,_,rfl,wb,l,cl,k,xs,rs,c,rfl,W,g,hc,ad,λdg H1 s1 a4 e1=>?_⟩
  try dsimp only [Jd]
  refine GO (λσ' H'=>∃v:V,σ'=[some (.ref wb),some (.ref en),some (.int i),some (.ref cl),some (.ref la),some (.ref dg),some v,none]/\Same H1 H'/\((v=.non/\UD rs c=none)\/∃(p:Addr)(lab:Int->Int),v=.ref p/\UD rs c=some lab/\H' p=some (.lst ((GD k lab).map V.int)))) ?g2 ?g1
  case g1=>
   intro hk;refine ⟨_,rfl,_,rfl,wb,l,cl,k,xs,rs,c,rfl,W.same s1,g,s1 _ _ hc,ad,λH' s' z=>?_,λp lab H' s' _ z e'=>?_⟩
   ·exact hk _ _ ⟨_,rfl,s',.inl ⟨rfl,z⟩⟩
   ·exact hk _ _ ⟨_,rfl,s',.inr ⟨p,lab,rfl,z,e'⟩⟩
  rintro σ' H2 ⟨v,rfl,s2,hv⟩;have N:=s1.trans s2;have no:∀H',Same H H'->¬ Hop rs k s t i c->Q (.bl false) H':=λH' s' z=>q false H' s' ⟨λy=>(by cases y),λy=>absurd y z⟩;refine ⟨_,rfl,rfl,_,rfl,?_⟩;rcases hv with ⟨rfl,hl⟩ | ⟨p,lab,rfl,hl,e2⟩
  ·exact GY (GY (no _ N λ⟨lab,h1,_⟩=>by rw [hl] at h1;cases h1))
  rw [Yai (by intro z;cases z)];refine G5 ?_;have Y:=s2 _ _ e1;have kpos:(GD k λx=>(degF rs c x:Int))≠[]:=λz=>by
   have:=Ybi List.length z;rw [GS] at this;simp at this
   lia
  refine ⟨_,rfl,dg,_,rfl,SqL.of Y,kpos,λmx am qK=>⟨_,_,rfl,rfl,_,rfl,?_⟩⟩;have an:∀x,0<=x->x<(k:Int)->(degF rs c x:Int)<=mx:=λx x0 x1=>by
   refine qK _ ?_;have:=Vp k (λx=>(degF rs c x:Int)) x.toNat (by lia);rw [show ((x.toNat:Nat):Int)=x by lia] at this;exact Ybb this
  by_cases z2:2<mx
  ·rw [Yae z2];refine GY (no _ N λ⟨B,_,hb⟩=>?_);unfold GD at am;obtain ⟨j,hj,rfl⟩:=Yba.mp am;have z2:(2:Int)<(degF rs c (j:Int):Int):=z2;have:=hb.two (j:Int)
   lia
  rw [Yai z2];refine G5 ?_;have two:∀x,degF rs c x<=2:=λx=>by
   by_cases hx:0<=x/\x<(k:Int)
   ·have:=an x hx.1 hx.2
    lia
   ·rw [Zde g.2.2.2.1 ad hx];decide
  have az:∀{B},UD rs c=some B->B=lab:=λh=>by rw [hl] at h;cases h;rfl
  dsimp only [YE];refine ⟨_,rfl,wb,_,_,_,rfl,rfl,SqT.of (N _ _ W.w),Gi (j:=0) rfl,_,rfl,by lia,by lia,?_⟩;rw [Ybn];have a1:∀x:Int,decide (V.int x=V.int s)=decide (x=s):=λx=>GF;refine JC (lo:=0) (n:=k) (λj σ H3=>∃v7:Option V,σ=[some (.ref wb),some (.ref en),some (.int i),some (.ref cl),some (.ref la),some (.ref dg),some (.ref p),v7]/\H3=H2/\∀x,0<=x->x<(j:Int)->((x=s\/x=t)->degF rs c x<=1/\¬ (Gs rs x<i/\degF rs c x=0))/\(x≠s->x≠t->¬ (Gs rs x<i/\degF rs c x=1))) ⟨none,rfl,rfl,λx x0 x1=>by lia⟩ ?_ ?_
  ·rintro j σ H3 hj ⟨v7,rfl,rfl,G⟩;rw [Int.zero_add];have ae:atI ((GD k λx=>(degF rs c x:Int)).map V.int) (j:Int)=some (.int (degF rs c (j:Int):Int)):=GQ (by lia) (by lia);have ao:atI ((GD k (Gs rs)).map V.int) (j:Int)=some (.int (Gs rs (j:Int))):=GQ (by lia) (by lia);have go:(((j:Int)=s\/(j:Int)=t)->degF rs c (j:Int)<=1/\¬ (Gs rs (j:Int)<i/\degF rs c (j:Int)=0))->((j:Int)≠s->(j:Int)≠t->¬ (Gs rs (j:Int)<i/\degF rs c (j:Int)=1))->∃v7:Option V,[some (V.ref wb),some (.ref en),some (.int i),some (.ref cl),some (.ref la),some (.ref dg),some (.ref p),some (.int (j:Int))]=[some (.ref wb),some (.ref en),some (.int i),some (.ref cl),some (.ref la),some (.ref dg),some (.ref p),v7]/\H3=H3/\∀x,0<=x->x<((j+1:Nat):Int)->((x=s\/x=t)->degF rs c x<=1/\¬ (Gs rs x<i/\degF rs c x=0))/\(x≠s->x≠t->¬ (Gs rs x<i/\degF rs c x=1)):=λa b=>
    ⟨_,rfl,rfl,λx x0 x1=>by
     rcases (show x<(j:Int)\/x=(j:Int) by lia) with y | y
     ·exact G x x0 y
     ·subst y;exact ⟨a,b⟩⟩
   refine ⟨_,rfl,_,rfl,en,_,rfl,.inr (SqT.of (N _ _ ak)),rfl,rfl,_,rfl,?_⟩;show if inV (.int (j:Int)) [.int s,.int t]=true then _ else _
   rw [Zev];by_cases ze:(j:Int)=s\/(j:Int)=t
   ·rw [Yae ze];refine GY ?_;refine ⟨_,rfl,_,rfl,dg,_,_,_,rfl,rfl,SqL.of Y,ae,_,_,rfl,rfl,_,rfl,?_⟩;by_cases y1:(1:Int)<(degF rs c (j:Int):Int)
    ·rw [Yae y1];refine GY (GY (no _ N λ⟨B,_,hb⟩=>?_));have:=(hb.en (j:Int) ze).1
     lia
    rw [Yai y1];refine G5 ?_;refine ⟨_,rfl,_,rfl,la,_,_,_,rfl,rfl,SqL.of (N _ _ al),ao,_,rfl,_,_,rfl,rfl,_,rfl,?_⟩;by_cases O:Gs rs (j:Int)<i
    ·rw [Yae O];refine GY ?_;refine ⟨_,rfl,_,rfl,dg,_,_,_,rfl,rfl,SqL.of Y,ae,rfl,_,rfl,?_⟩;rw [GF];by_cases y3:(degF rs c (j:Int):Int)=0
     ·rw [Yae y3];refine GY (no _ N λ⟨B,_,hb⟩=>?_);exact (hb.en (j:Int) ze).2 ⟨O,by lia⟩
     ·rw [Yai y3];exact G5 (go (λ_=>⟨by lia,λu=>y3 (by rw [u.2];rfl)⟩) (λa b=>absurd ze (λu=>u.elim a b)))
    ·rw [Yai O];exact G5 (G5 (go (λ_=>⟨by lia,λu=>O u.1⟩) (λa b=>absurd ze (λu=>u.elim a b))))
   ·rw [Yai ze];refine G5 ?_;refine ⟨_,rfl,_,rfl,la,_,_,_,rfl,rfl,SqL.of (N _ _ al),ao,_,rfl,_,_,rfl,rfl,_,rfl,?_⟩;by_cases O:Gs rs (j:Int)<i
    ·rw [Yae O];refine GY ?_;refine ⟨_,rfl,_,rfl,dg,_,_,_,rfl,rfl,SqL.of Y,ae,rfl,_,rfl,?_⟩;rw [GF];by_cases y3:(degF rs c (j:Int):Int)=1
     ·rw [Yae y3];refine GY (no _ N λ⟨B,_,hb⟩=>?_);exact hb.no (j:Int) (by lia) (by lia) (λu=>ze (.inl u)) (λu=>ze (.inr u)) ⟨O,by lia⟩
     ·rw [Yai y3];exact G5 (go (λa=>absurd a ze) (λ_ _ u=>y3 (by rw [u.2];rfl)))
    ·rw [Yai O];exact G5 (G5 (go (λa=>absurd a ze) (λ_ _ u=>O u.1)))
  ·rintro σ H3 ⟨v7,rfl,rfl,G⟩;have af:HopB rs k s t i (degF rs c) lab↔(degF rs c s≠0->lab s=lab t->∀x,0<=x->x<(k:Int)->degF rs c x=0\/lab x=lab s):=by
    refine ⟨λh=>h.dn,λh=>⟨two,λe he=>?_,λx x0 x1 xs xt=>(G x x0 x1).2 xs xt,h⟩⟩;rcases he with rfl | rfl
    ·exact (G e hs.1 hs.2).1 (.inl rfl)
    ·exact (G e ht.1 ht.2).1 (.inr rfl)
   have ag:Hop rs k s t i c↔(degF rs c s≠0->lab s=lab t->∀x,0<=x->x<(k:Int)->degF rs c x=0\/lab x=lab s):=by
    rw [<-af];constructor
    ·rintro ⟨B,h1,h2⟩;rw [az h1] at h2;exact h2
    ·intro h;exact ⟨lab,hl,h⟩
   have U:=N _ _ ak;have a0:atI ((GD k λx=>(degF rs c x:Int)).map V.int) s=some (.int (degF rs c s:Int)):=GQ hs.1 hs.2;refine ⟨_,rfl,_,rfl,en,_,_,_,rfl,rfl,SqT.of U,Gi (j:=0) rfl,dg,_,_,_,rfl,rfl,SqL.of Y,a0,rfl,_,rfl,?_⟩;rw [GF];by_cases y1:(degF rs c s:Int)=0
   ·rw [Yae y1];exact GY (GY (q true _ N ⟨λ_=>ag.mpr λu=>absurd (by lia) u,λ_=>rfl⟩))
   rw [Yai y1];refine G5 ?_;refine ⟨_,rfl,_,rfl,en,_,_,_,rfl,rfl,SqT.of U,Gi (j:=0) rfl,p,_,_,_,rfl,rfl,SqL.of e2,GQ hs.1 hs.2,_,rfl,_,rfl,en,_,_,_,rfl,rfl,SqT.of U,Gi (j:=1) rfl,p,_,_,_,rfl,rfl,SqL.of e2,GQ ht.1 ht.2,rfl,_,rfl,?_⟩;rw [GF];by_cases O:lab s=lab t
   ·rw [Yae O];refine G5 ?_;refine ⟨_,rfl,wb,_,_,_,rfl,rfl,SqT.of (N _ _ W.w),Gi (j:=0) rfl,_,rfl,by lia,by lia,λD hD=>?_⟩;rw [Ybn];refine Om (lo:=0) (n:=k) (λj ys H4=>Same H3 H4/\H4 D=some (.lst ys)/\ys=((List.range j).map λn=>decide ((degF rs c ((n:Nat):Int):Int)=0\/lab ((n:Nat):Int)=lab s)).map V.bl) ⟨Same.new hD,Gb,rfl⟩ ?_ ?_
    ·rintro j ys H4 hj ⟨s4,ah,rfl⟩;rw [Int.zero_add];refine ⟨⟨rfl,rfl,rfl,trivial⟩,?_⟩;unfold WW;refine GY ?_;have step:∀b:Bool,b=decide ((degF rs c (j:Int):Int)=0\/lab (j:Int)=lab s)->H4 D=some (.lst (((List.range j).map λn=>decide ((degF rs c ((n:Nat):Int):Int)=0\/lab ((n:Nat):Int)=lab s)).map V.bl))/\(((List.range j).map λn=>decide ((degF rs c ((n:Nat):Int):Int)=0\/lab ((n:Nat):Int)=lab s)).map V.bl).length<sizeLine/\Same H3 (upd H4 D (.lst (((List.range j).map λn=>decide ((degF rs c ((n:Nat):Int):Int)=0\/lab ((n:Nat):Int)=lab s)).map V.bl++[.bl b])))/\upd H4 D (.lst (((List.range j).map λn=>decide ((degF rs c ((n:Nat):Int):Int)=0\/lab ((n:Nat):Int)=lab s)).map V.bl++[.bl b])) D=some (.lst (((List.range j).map λn=>decide ((degF rs c ((n:Nat):Int):Int)=0\/lab ((n:Nat):Int)=lab s)).map V.bl++[.bl b]))/\((List.range j).map λn=>decide ((degF rs c ((n:Nat):Int):Int)=0\/lab ((n:Nat):Int)=lab s)).map V.bl++[.bl b]=((List.range (j+1)).map λn=>decide ((degF rs c ((n:Nat):Int):Int)=0\/lab ((n:Nat):Int)=lab s)).map V.bl:=λb hb=>
      ⟨ah,by rw [Yab,Yab,Ycp];lia,s4.put hD,Gb,by rw [List.range_succ,Yan,Yan,hb];rfl⟩
     refine ⟨_,rfl,_,rfl,dg,_,_,_,rfl,rfl,SqL.of (s4 _ _ Y),GQ (by lia) (by lia),rfl,_,rfl,?_⟩;rw [GF];by_cases u1:(degF rs c (j:Int):Int)=0
     ·rw [Yae u1];exact GY (step true (by rw [Yae (.inl u1)]))
     ·rw [Yai u1];refine G5 ?_;refine ⟨_,rfl,_,rfl,p,_,_,_,rfl,rfl,SqL.of (s4 _ _ e2),GQ (by lia) (by lia),_,rfl,_,rfl,en,_,_,_,rfl,rfl,SqT.of (s4 _ _ U),Gi (j:=0) rfl,p,_,_,_,rfl,rfl,SqL.of (s4 _ _ e2),GQ hs.1 hs.2,rfl,?_⟩;rw [GF];exact step _ (decide_eq_decide.mpr ⟨.inr,λz=>z.resolve_left u1⟩)
    rintro ys H4 ⟨s4,ah,rfl⟩;refine ⟨D,_,rfl,SqL.of ah,q _ _ (N.trans s4) ?_⟩;rw [ag,List.all_eq_true];constructor
    ·intro h _ _ x x0 x1;have:=h _ (Yba.mpr ⟨x.toNat,Ybv.mpr (by lia),rfl⟩);have this:=Ybp (show decide _=true from this);rw [show ((x.toNat:Nat):Int)=x by lia] at this;exact this.imp (λz=>by lia) id
    ·intro h b hb;obtain ⟨n,hn,rfl⟩:=Yba.mp hb;have:=Ybv.mp hn;refine Yae ((h (by lia) O (n:Int) (by lia) (by lia)).imp (λz=>by rw [z];rfl) id)
   ·rw [Yai O];exact GY (q true _ N ⟨λ_=>ag.mpr λ_ u=>absurd u O,λ_=>rfl⟩)
noncomputable def Zew:Sp:=λvs H Q _=>∃(l:Addr)(xs:List V)(rs:List (Int×Int)),vs=[.ref l]/\H l=some (.lst xs)/\Prs H xs rs/\rs.length<=1000/\∀(r:Addr)(H':Hp),Same H H'->H r=none->H' r=some (.lst ((rs.map (·.1)++rs.map (·.2)).map V.int))->Q (.ref r) H'
theorem ZfL:Gu ["roads"] ["roads"] (Ge Zc5):=⟨rfl,rfl,rfl,by decide +kernel,rfl,by decide +kernel,by decide +kernel⟩
theorem Yu {α β:Type}{l:List α}{i:Nat}{x:α}(f:α->β)(h:l[i]?=some x):(l.take (i+1)).map f=(l.take i).map f++[f x]:=by
 rw [Ybt,h,Yan]
 rfl
theorem Zex {f:Addr}{fd:FuncData}(F:Fun K "places_on" "places_on" Zc5 f fd):GV P w K mg base CX0 1 f fd ["roads"] Zew:=by
 refine F.ok ZfL (λvs H Q E h=>?_) (λac A ab s H vs Q E hr h=>?_)
 ·obtain ⟨_,_,_,rfl,_⟩:=h
  rfl
 ·obtain ⟨l,xs,rs,rfl,hl,pr,qV,q⟩:=h;have ad:=Ybf.symm;have Y:=pr.len;refine ⟨_,Gg (Gy (Gw Vb (Jn (own:=["a", "b"]) rfl (G9 (by decide +kernel) (by decide +kernel) rfl (by decide +kernel)) (JL K (pv 0)) (λ_ _ _ _=>Zb4 K (n:=2) rfl (GT (Gj (i:=0) (show List.Nodup (["a", "b"]:List Str) by decide +kernel) rfl (Or.inl rfl)) (GT (Gj (i:=1) (show List.Nodup (["a", "b"]:List Str) by decide +kernel) rfl (Or.inl rfl)) J6))) (λ_ _ _ _=>GZ) (λ_ _ _ _=>pv 0)) (Jn (own:=["a", "b"]) rfl (G9 (by decide +kernel) (by decide +kernel) rfl (by decide +kernel)) (JL K (pv 0)) (λ_ _ _ _=>Zb4 K (n:=2) rfl (GT (Gj (i:=0) (show List.Nodup (["a", "b"]:List Str) by decide +kernel) rfl (Or.inl rfl)) (GT (Gj (i:=1) (show List.Nodup (["a", "b"]:List Str) by decide +kernel) rfl (Or.inl rfl)) J6))) (λ_ _ _ _=>GZ) (λ_ _ _ _=>pv 1)))),?_⟩;refine ⟨_,rfl,l,rfl,⟨_,SqL.of hl⟩,λD hD=>?_⟩;refine G3 (K:=K) (a:=l) (xs:=xs) (λi ys H2=>Same H H2/\H2 D=some (.lst ys)/\ys=((rs.take i).map (·.1)).map V.int) ⟨Same.new hD,Gb,rfl⟩ (by rintro i ys H2 _ ⟨G,_⟩;exact SqL.of (G _ _ hl)) ?_ ?_
  ·rintro i x ys H2 B ⟨G,L,rfl⟩;obtain ⟨t,r,rfl,et,er⟩:=pr.get B;have hi:i<xs.length:=(Yay.mp B).1;refine ⟨t,_,rfl,SqT.of (G _ _ et),rfl,_,_,rfl,_,_,rfl,rfl,trivial,?_⟩;unfold WW;refine GY ?_;refine ⟨_,rfl,L,by rw [Yab,Yab,Ybj];lia,G.put hD,Gb,by rw [Yu (·.1) er,Yan];rfl⟩
  rintro ys H2 ⟨G,L,rfl⟩;rw [Y,Ybz] at L;refine ⟨_,rfl,l,rfl,⟨_,SqL.of (G _ _ hl)⟩,λD2 Z=>?_⟩;refine G3 (K:=K) (a:=l) (xs:=xs) (λi ys H3=>Same H2 H3/\H3 D2=some (.lst ys)/\ys=((rs.take i).map (·.2)).map V.int) ⟨Same.new Z,Gb,rfl⟩ (by rintro i ys H3 _ ⟨O,_⟩;exact SqL.of (O _ _ (G _ _ hl))) ?_ ?_
  ·rintro i x ys H3 B ⟨O,N,rfl⟩;obtain ⟨t,r,rfl,et,er⟩:=pr.get B;have hi:i<xs.length:=(Yay.mp B).1;refine ⟨t,_,rfl,SqT.of (O _ _ (G _ _ et)),rfl,_,_,rfl,_,_,rfl,rfl,trivial,?_⟩;unfold WW;refine GY ?_;refine ⟨_,rfl,N,by rw [Yab,Yab,Ybj];lia,O.put Z,Gb,by rw [Yu (·.2) er,Yan];rfl⟩
  rintro ys H3 ⟨O,N,rfl⟩;rw [Y,Ybz] at N;refine ⟨D,D2,_,_,rfl,rfl,O _ _ L,N,by rw [Yab,Yab,Yab,Yab];lia,λr aa=>?_⟩;have U:=G.trans O;exact q r _ (U.put (U.free aa)) (U.free aa) (by rw [Gb,Yan])
theorem Yv {H:Hp}:∀{xs:List V}{rs:List (Int×Int)},Prs H xs rs->∀n:Nat,Prs H (xs.take n) (rs.take n)
 | _,_,.nil,n=>by rw [List.take_nil,List.take_nil];exact .nil
 | _,_,.cons _ _,0=>.nil
 | _,_,.cons e r,n+1=>.cons e (Yv r n)
theorem Yw {H:Hp}:∀{xs:List V}{rs:List (Int×Int)},Prs H xs rs->∀n:Nat,Prs H (xs.drop n) (rs.drop n)
 | _,_,.nil,n=>by rw [List.drop_nil,List.drop_nil];exact .nil
 | _,_,.cons e r,0=>.cons e r
 | _,_,.cons e r,n+1=>Yw r n
noncomputable def XE (rs:List (Int×Int)):List Int:=rs.map (·.1)++rs.map (·.2)
noncomputable def Zey (C:Addr):Sp:=λvs H Q E=>∃(q l:Addr)(k i:Int)(xs:List V)(rs:List (Int×Int)),vs=[.ref q,.int i]/\WebAt H q l k xs rs/\GX k rs /\
 (((0<=i/\i<=xs.length)/\∀(r:Addr)(ns:List Int)(H':Hp),Same H H'->H r=none->H' r=some (.lst (ns.map V.int))->ns.Nodup->ns.Pairwise (· <= ·)->(∀p,p∈ns↔p∈XE (rs.take i.toNat)/\p∈XE (rs.drop i.toNat))->Q (.ref r) H')\/(¬ (0<=i/\i<=xs.length)/\E (.ref C) none H))
theorem ZfM:Gu ["web", "i"] ["web", "i"] (Ge Zc7):=⟨rfl,rfl,rfl,by decide +kernel,rfl,by decide +kernel,by decide +kernel⟩
theorem Zez {f fP fC C:Addr}{fd N O:FuncData}(F:Fun K "front" "front" Zc7 f fd)(FP:Fun K "places_on" "places_on" Zc5 fP N)(bP:Binds K N ["roads"] [])(mP:mg "places_on" = some (.ref fP))(FC:Fun K "check_step" "check_step" Zci fC O)(bC:Binds K O ["web", "i"] [])(mC:mg "check_step" = some (.ref fC))(GC:GV P w K mg base (CXr P w) 1 fC O ["web", "i"] (Zdb C))(aa:mg "sorted" = none)(G:mg "set" = none):GV P w K mg base (CXr P w) 2 f fd ["web", "i"] (Zey C):=by
 have GP:GV P w K mg base CX0 1 fP N ["roads"] Zew:=Zex FP;refine F.okR ZfM (λvs H Q E h=>?_) (λas A ag s H vs Q E hr h=>?_)
 ·obtain ⟨_,_,_,_,_,_,rfl,_⟩:=h
  rfl
 ·obtain ⟨wb,l,k,i,xs,rs,rfl,W,g,h⟩:=h;refine ⟨_,Gc (Jm (Gk GC (hr.mono (by decide)) rfl mC FC.kp bC .nil Za6 (Ga (pv 0) (Ga (pv 1) Gf))))
    (Gg (Gy (GA (Z5 P w rfl) rfl aa PyProof.Rows.boot_sorted (Ga (Gw (Zd3 P w) (G8 (Zcc P w K rfl) rfl G XZ (Ga (Gk GP (hr.mono (by decide)) rfl mP FP.kp bP .nil GU (Ga (OM (kSl K) (Gn (Jg K) (pv 0) Gd (λ_ _=>rfl)) Vt (OG (pv 1))) Gf)) Gf)) (G8 (Zcc P w K rfl) rfl G XZ (Ga (Gk GP (hr.mono (by decide)) rfl mP FP.kp bP .nil GU (Ga (OM (kSl K) (Gn (Jg K) (pv 0) Gd (λ_ _=>rfl)) (OG (pv 1)) Vt) Gf)) Gf))) Gf)))),?_⟩
  refine ⟨_,rfl,_,rfl,wb,l,k,i,xs,rfl,W.w,W.l,?_⟩;rcases h with ⟨ab,q⟩ | ⟨ac,e⟩
  ·refine .inl ⟨ab,?_⟩;have au:=W.p.len;have g3:=g.2.2.1;obtain ⟨n,rfl⟩:=Int.eq_ofNat_of_zero_le ab.1;rw [Ybn] at q;refine ⟨_,rfl,wb,_,_,_,rfl,rfl,SqT.of W.w,Gi (j:=1) rfl,_,rfl,_,rfl,l,_,rfl,SqL.of W.l,λc1 ah=>?_⟩;have s1:Same H (upd H c1 (.lst (Uc xs none (some (n:Int))))):=Same.new ah;have e1:upd H c1 (.lst (Uc xs none (some (n:Int)))) c1=some (.lst (xs.take n)):=by rw [Gb,Zb5]
   generalize upd H c1 (.lst (Uc xs none (some (n:Int))))=H1 at s1 e1 ⊢;refine ⟨c1,_,rs.take n,rfl,e1,Yv (W.p.same s1) n,by rw [Ybj];lia,λr1 H2 s2 av ai=>?_⟩;have S2:=s1.trans s2;refine ⟨r1,XE (rs.take n),rfl,SqL.of ai,?_,λD m1 aj aw ak=>?_⟩
   ·unfold XE;rw [Yaq,Yab,Yab,Ybj]
    lia
   have s3:Same H2 (upd H2 D (VO P w D m1)):=Same.new aj;have ad:upd H2 D (VO P w D m1) D=some (VO P w D m1):=Gb;have S3:=S2.trans s3;generalize upd H2 D (VO P w D m1)=H3 at s3 ad S3 ⊢;have W3:=W.same S3;refine ⟨_,rfl,wb,_,_,_,rfl,rfl,SqT.of W3.w,Gi (j:=1) rfl,_,rfl,_,rfl,l,_,rfl,SqL.of W3.l,λc2 al=>?_⟩;have s4:Same H3 (upd H3 c2 (.lst (Uc xs (some (n:Int)) none))):=Same.new al;have e4:upd H3 c2 (.lst (Uc xs (some (n:Int)) none)) c2=some (.lst (xs.drop n)):=by rw [Gb,Za5]
   generalize upd H3 c2 (.lst (Uc xs (some (n:Int)) none))=H4 at s4 e4 ⊢;refine ⟨c2,_,rs.drop n,rfl,e4,Yw (W3.p.same s4) n,by rw [Yco];lia,λr2 H5 s5 ax am=>?_⟩;have S5:=s4.trans s5;refine ⟨r2,XE (rs.drop n),rfl,SqL.of am,?_,λt2 m2 U ay an=>?_⟩
   ·unfold XE;rw [Yaq,Yab,Yab,Yco]
    lia
   have L:=S5 _ _ ad;have s6:Same H5 (upd H5 t2 (VO P w t2 m2)):=Same.new U;have ao:t2≠D:=λz=>by rw [z,L] at U;cases U
   refine ⟨D,t2,m1,m2,rfl,rfl,ao,s6 _ _ L,Gb,λt3 Z ap ae aq=>?_⟩;have S6:=(S3.trans S5).trans s6;have s7:=S6.put (o:=VO P w t3 Z) (S6.free ap);have hm:∀p,p∈Z↔p∈XE (rs.take n)/\p∈XE (rs.drop n):=λp=>by rw [aq p,ak p,an p]
   have B:∀p∈Z,0<=p/\p<k:=λp hp=>by
    have:=((hm p).mp hp).1;unfold XE at this;rcases Yap.mp this with z | z
    ·obtain ⟨r,Y,rfl⟩:=Yba.mp z;have:=g.2.2.2.1 r (Yeu Y)
     lia
    ·obtain ⟨r,Y,rfl⟩:=Yba.mp z;have:=g.2.2.2.1 r (Yeu Y)
     lia
   refine ⟨t3,Z,rfl,Gb,?_,λre ns af pm so=>?_⟩
   ·have h1:(Z.map Int.toNat).Nodup:=Ycl.mpr (List.Pairwise.imp_of_mem (λ{a b} ha hb ar z=>ar (by
     have:=B a ha;have:=B b hb
     lia)) ae)
    have h2:Z.map Int.toNat ⊆ List.range 16:=λx hx=>by
     obtain ⟨p,hp,rfl⟩:=Yba.mp hx;have:=B p hp;have:=g.2.1;exact Ybv.mpr (by lia)
    have:=List.Nodup.length_le_of_subset h1 h2;rw [Yab,Ycp] at this
    lia
   ·exact q re ns _ (s7.put (s7.free af)) (s7.free af) Gb (pm.nodup_iff.mpr ae) so λp=>by rw [pm.mem_iff,hm p]
  ·exact .inr ⟨ac,e⟩
noncomputable def ZeA:Sp:=λvs H Q _=>∃n:Int,vs=[.int n]/\Q (.bl true) H
theorem ZfN:Gu ["found"] ["found"] (Ge Zda):=⟨rfl,rfl,rfl,by decide +kernel,rfl,by decide +kernel,by decide +kernel⟩
theorem ZeB {f:Addr}{fd:FuncData}(F:Fun K "_law_whole" "_law_whole" Zda f fd)(L:W.kitOne K (.type "int") (.type "bool")=some false)(B:mg "isinstance" = none)(G:mg "int" = none)(D:mg "bool" = none):GV P w K mg base CX0 1 f fd ["found"] ZeA:=by
 refine F.ok ZfN (λvs H Q E h=>?_) (λO A N s H vs Q E U h=>?_)
 ·obtain ⟨_,rfl,_⟩:=h
  rfl
 ·obtain ⟨n,rfl,q⟩:=h;refine ⟨_,Gg (Gy (Zdu (GA (ZdO K) rfl B OR (Ga (pv 0) (Ga (Wv G XX) Gf))) (Zi (Zdw (GA (ZdO K) rfl B OR (Ga (pv 0) (Ga (Wv D ZI) Gf))))))),?_⟩;refine ⟨_,rfl,_,_,true,rfl,⟨_,rfl,GY ?_⟩,.inl ⟨_,.int _,rfl,Uy⟩⟩;exact ⟨_,rfl,_,_,false,rfl,⟨_,rfl,q⟩,.inl ⟨_,.int _,rfl,L⟩⟩
noncomputable def ats (rs:List (Int×Int))(p:Int)(j:Nat):List Int:=((List.range j).filter λi=>O6 (rs.getD i (0,0)) p).map λi=>((i:Nat):Int)
theorem ZbO (rs:List (Int×Int))(p:Int)(j:Nat):ats rs p (j+1)=ats rs p j++(if O6 (rs.getD j (0,0)) p=true then [(j:Int)] else []):=by
 unfold ats;rw [List.range_succ,List.filter_append,Yan,List.filter_cons,List.filter_nil];by_cases z:O6 (rs.getD j (0,0)) p=true
 ·rw [if_pos z,if_pos z];rfl
 ·rw [if_neg z,if_neg z];rfl
theorem Zdf (rs:List (Int×Int))(p:Int)(j:Nat):(ats rs p j).length<=j:=by
 unfold ats;rw [Yab];exact Ybc (Yct _ _) (by rw [Ycp];exact Yaf _)
theorem ats_mem {rs:List (Int×Int)}{p x:Int}{j:Nat}:x∈ats rs p j↔∃i:Nat,x=(i:Int)/\i<j/\O6 (rs.getD i (0,0)) p=true:=by
 unfold ats;rw [Yba];constructor
 ·rintro ⟨i,h,rfl⟩;obtain ⟨h1,h2⟩:=Ycb.mp h;exact ⟨i,rfl,Ybv.mp h1,h2⟩
 ·rintro ⟨i,rfl,h1,h2⟩;exact ⟨i,Ycb.mpr ⟨Ybv.mpr h1,h2⟩,rfl⟩
theorem pl_mem {rs:List (Int×Int)}{p:Int}:p∈XE rs↔∃i:Nat,i<rs.length/\O6 (rs.getD i (0,0)) p=true:=by
 have q:∀i (h:i<rs.length),rs.getD i (0,0)=rs[i]:=λi h=>by rw [Yat,Yax h];rfl
 unfold XE;rw [Yap,Yba,Yba];constructor
 ·rintro (⟨r,B,rfl⟩ | ⟨r,B,rfl⟩) <;> obtain ⟨i,hi,e⟩:=Ydd B
  ·exact ⟨i,hi,by rw [q i hi,e];exact Yae (.inl rfl)⟩
  ·exact ⟨i,hi,by rw [q i hi,e];exact Yae (.inr rfl)⟩
 ·rintro ⟨i,hi,h⟩;rw [q i hi] at h;rcases Ybp h with z | z
  ·exact .inl ⟨rs[i],Ycq hi,z⟩
  ·exact .inr ⟨rs[i],Ycq hi,z⟩
theorem U1 {rs:List (Int×Int)}{i n:Nat}(h:i<n):(rs.take n).getD i (0,0)=rs.getD i (0,0):=by
 rw [Yat,Ydm,if_pos h,<-Yat]
theorem WQ {rs:List (Int×Int)}{i n:Nat}:(rs.drop n).getD i (0,0)=rs.getD (n+i) (0,0):=by
 rw [Yat,Ydv,<-Yat]
theorem Zcm:∀{xs ys:List Int},xs.Pairwise (· < ·)->ys.Pairwise (· < ·)->(∀p,p∈xs↔p∈ys)->xs=ys
 | [],[],_,_,_=>rfl
 | [],y::ys,_,_,h=>absurd ((h y).mpr Ybk) (by simp)
 | x::xs,[],_,_,h=>absurd ((h x).mp Ybk) (by simp)
 | x::xs,y::ys,h1,h2,h=>by
  obtain ⟨a1,a2⟩:=Ydn.mp h1;obtain ⟨B,D⟩:=Ydn.mp h2;have e:x=y:=by
   rcases Yas.mp ((h x).mp Ybk) with z | z
   ·exact z
   ·rcases Yas.mp ((h y).mpr Ybk) with u | u
    ·exact u.symm
    ·have:=B x z;have:=a1 y u
     lia
  subst e;rw [Zcm a2 D λp=>⟨λq=>?_,λq=>?_⟩]
  ·rcases Yas.mp ((h p).mp (Ybr _ q)) with z | z
   ·have:=a1 p q
    lia
   ·exact z
  ·rcases Yas.mp ((h p).mpr (Ybr _ q)) with z | z
   ·have:=B p q
    lia
   ·exact z
noncomputable def inF (rs:List (Int×Int))(n:Nat)(p:Int):Prop:=ats rs p n≠[]/\(n:Int)<=Gs rs p
noncomputable instance (rs:List (Int×Int)) (n:Nat) (p:Int):Decidable (inF rs n p):=by unfold inF;infer_instance
theorem ZaI {rs:List (Int×Int)}{n:Nat}{p:Int}(L:n<=rs.length):(p∈XE (rs.take n)/\p∈XE (rs.drop n))↔inF rs n p:=by
 unfold inF;rw [pl_mem,pl_mem];constructor
 ·rintro ⟨⟨i,h1,h2⟩,⟨j,B,q⟩⟩;rw [Ybj] at h1;rw [Yco] at B;rw [U1 (by lia)] at h2;rw [WQ] at q;refine ⟨λz=>?_,?_⟩
  ·have:=(ats_mem (rs:=rs) (p:=p) (x:=(i:Int)) (j:=n)).mpr ⟨i,rfl,by lia,h2⟩;rw [z] at this;cases this
  ·have:=Ua (rs:=rs) (j:=n+j) (by lia) (p:=p) (Ybp q)
   lia
 ·rintro ⟨h1,h2⟩;obtain ⟨x,D⟩:∃x,x∈ats rs p n:=List.exists_mem_of_ne_nil _ h1;obtain ⟨i,rfl,i1,i2⟩:=ats_mem.mp D;obtain ⟨j,F⟩:=Int.eq_ofNat_of_zero_le (show 0<=Gs rs p by lia);have G:=UE rs p rs.length j F;have N:j<rs.length:=by
   have:=(V6 rs p rs.length).2;have e:Gs rs p=JJ rs p rs.length:=rfl
   lia
  refine ⟨⟨i,by rw [Ybj];lia,by rw [U1 i1];exact i2⟩,⟨j-n,by rw [Yco];lia,?_⟩⟩;rw [WQ,show n+(j-n)=j by lia];exact Yae G
noncomputable def frL (rs:List (Int×Int))(n:Nat)(j:Nat):List Int:=(GD j id).filter λp=>decide (inF rs n p)
theorem Yx (rs:List (Int×Int))(n j:Nat):frL rs n (j+1)=frL rs n j++(if inF rs n (j:Int) then [(j:Int)] else []):=by
 unfold frL;rw [Um,List.filter_append]
 congr 1
 show List.filter _ [(j:Int)]=_;rw [List.filter_cons];by_cases z:inF rs n (j:Int)
 ·rw [if_pos (Yae z),if_pos z];rfl
 ·rw [if_neg (by rw [decide_eq_true_eq];exact z),if_neg z];rfl
theorem ZeC {rs:List (Int×Int)}{k:Nat}{n:Nat}(B:n<=rs.length)(g:GX (k:Int) rs){ps:List Int}(D:ps.Nodup)(F:ps.Pairwise (· <= ·))(G:∀p,p∈ps↔p∈XE (rs.take n)/\p∈XE (rs.drop n)):ps=frL rs n k:=by
 have lt:ps.Pairwise (· < ·):=(List.pairwise_and_iff.mpr ⟨F,D⟩).imp λ⟨h1,h2⟩=>by lia
 refine Zcm lt ?_ λp=>?_
 ·unfold frL GD;exact List.Pairwise.filter _ (Ycl.mpr (List.pairwise_lt_range.imp λ{a b} h=>by show ((a:Nat):Int)<((b:Nat):Int);lia))
 ·rw [G p,ZaI B];unfold frL GD;rw [Ycb,decide_eq_true_iff];refine ⟨λz=>⟨?_,z⟩,λz=>z.2⟩;obtain ⟨h1,h2⟩:=(ZaI B).mpr z;obtain ⟨i,hi,q⟩:=pl_mem.mp h1;rw [Ybj] at hi;rw [U1 (by lia)] at q;have L:=g.2.2.2.1 (rs.getD i (0,0)) (by rw [Yat,Yax (by lia)];exact Ycq _);have q:=Ybp q;have:0<=p/\p<(k:Int):=by rcases q with y | y <;> lia
  exact Yba.mpr ⟨p.toNat,Ybv.mpr (by lia),by show ((p.toNat:Nat):Int)=p;lia⟩
noncomputable def U6 (rs:List (Int×Int))(k n:Nat)(s t:Int)(d:Int->Nat)(lab mate:Int->Int):List Int:=(frL rs n k).map (Ou rs s t n d mate)++(if d s≠0/\lab s=lab t then [0] else [])
theorem WR {rs:List (Int×Int)}{n k:Nat}{p:Int}(h:p∈frL rs n k):(0<=p/\p<(k:Int))/\inF rs n p:=by
 unfold frL GD at h;obtain ⟨h1,h2⟩:=Ycb.mp h;obtain ⟨i,hi,rfl⟩:=Yba.mp h1;have:=Ybv.mp hi;exact ⟨⟨by show (0:Int)<=(i:Int);lia,by show (i:Int)<_;lia⟩,Ybp h2⟩
theorem U2 {rs:List (Int×Int)}{k n:Nat}{s t:Int}{d:Int->Nat}{lab mate:Int->Int}{m:List Int}(q:Mk rs k s t n d lab mate m):(frL rs n k).map (gA m)++(if m.getD (m.length-1) 0=0 then [0] else [])=U6 rs k n s t d lab mate:=by
 unfold U6;rw [show m.length-1=k by rw [q.len];lia,q.dn]
 congr 1
 ·refine List.map_congr_left λp B=>?_;obtain ⟨⟨D,F⟩,_⟩:=WR B;exact q.at_ p D F
 ·by_cases z:d s≠0/\lab s=lab t
  ·rw [if_pos z,if_pos rfl,if_pos z]
  ·rw [if_neg z,if_neg (by decide),if_neg z]
noncomputable def Zgo:Sp:=λvs H Q _=>∃(q m:Addr)(ps ms:List Int),vs=[.ref q,.ref m]/\H q=some (.lst (ps.map V.int))/\H m=some (.tup (ms.map V.int))/\(∀p∈ps,0<=p/\p<(ms.length:Int))/\ms≠[]/\ps.length<=1000/\∀(T:Addr)(H':Hp),Same H H'->H' T=some (.tup ((ps.map (gA ms)++(if ms.getD (ms.length-1) 0=0 then [0] else [])).map V.int))->Q (.ref T) H'
theorem scWi:Gu ["places", "marks", "wall"] ["places", "marks"] (Ge sWi):=⟨rfl,rfl,rfl,by decide +kernel,rfl,by decide +kernel,by decide +kernel⟩
theorem ZfO {f O:Addr}{fd L:FuncData}(F:Fun K "wall_in" "wall_in" sWi f fd)(Z:Fun K "is_done" "is_done" sId O L)(aa:Binds K L ["marks"] [])(ab:mg "is_done" = some (.ref O))(ac:GV P w K mg base CX0 1 O L ["marks"] (Zfq K)){u0:Tok}(U:mg "DONE" = some (.int 0 u0))(Y:mg "tuple" = none):GV P w K mg base CX0 2 f fd ["places", "marks"] Zgo:=by
 refine F.ok scWi (λvs H Q E h=>?_) (λaf A ad s0 H vs Q E hr h=>?_)
 ·obtain ⟨_,_,_,_,rfl,_⟩:=h
  rfl
 ·obtain ⟨pl,m,ps,ms,rfl,hp,hm,pr,ae,ag,q⟩:=h;have ah:=Ybf.symm;refine ⟨_,Gc (OH (i:=2) scWi.nd rfl (Or.inl rfl) (own:=["place"]) rfl (Gq (fr:=[("marks", 1)]) [(".0", .local),("place", .local),("marks", .cell)] rfl rfl (by decide +kernel) rfl (by decide +kernel) ⟨rfl,trivial⟩ ⟨λh=>G6 h,λh=>G6 h,λ_=>⟨_,rfl⟩,trivial⟩ ⟨⟨rfl,.inl rfl,.inl rfl⟩,trivial⟩) (JL K (pv 0)) (λ_ _ _ _=>Gj (i:=0) (show List.Nodup (["place", "marks"]:List Str) by decide +kernel) rfl (Or.inl rfl)) (λ_ _ _ _=>GZ) (λ_ _ _ _=>Gn (Jg K) (pv 1) (pv 0) (λ_ _=>rfl)))
    (Gg (Gy (G8 (WI K) rfl Y Jo (Ga (OL (Jl (Gk ac (hr.mono (by decide)) rfl ab Z.kp aa .nil GU (Ga (pv 1) Gf))) (Gw Vb (pv 2) (Jh (Ga (Jc (v:=.int (0)) rfl U ⟨_,rfl⟩) Gf))) (pv 2)) Gf)))),?_⟩
  refine ⟨_,rfl,pl,rfl,⟨_,SqL.of hp⟩,λD hD=>?_⟩;refine G3 (K:=K) (a:=pl) (xs:=ps.map V.int) (λi ys H2=>Same H H2/\H2 D=some (.lst ys)/\ys=((ps.take i).map (gA ms)).map V.int) ⟨Same.new hD,Gb,rfl⟩ (by rintro i ys H2 _ ⟨N,_⟩;exact SqL.of (N _ _ hp)) ?_ ?_
  ·rintro i x ys H2 B ⟨N,G,rfl⟩;have hi:i<(ps.map V.int).length:=(Yay.mp B).1;rw [Yab] at hi;rw [Yaw] at B;cases y:ps[i]? with
   | none=>rw [y] at B;cases B
   | some p=>
    rw [y] at B;cases B;obtain ⟨p0,p1⟩:=pr p (Ybb y);refine ⟨⟨rfl,trivial⟩,?_⟩;unfold WW;refine GY ?_;refine ⟨_,rfl,_,rfl,m,_,_,_,rfl,rfl,SqT.of (N _ _ hm),JI p0 p1,G,by rw [Yab,Yab,Ybj];lia,N.put hD,Gb,?_⟩;rw [Ybt,y,Yan,Yan]
    rfl
  rintro ys H2 ⟨N,G,rfl⟩;rw [Yab,Ybz] at G
  try dsimp only [Jd]
  refine ⟨_,rfl,m,ms,rfl,SqT.of (N _ _ hm),ae,_,rfl,?_⟩;by_cases z:ms.getD (ms.length-1) 0=0
  ·rw [Yae z];rw [if_pos z] at q;refine GY ?_;refine ⟨_,rfl,Ybw (by show 1<sizeLine;lia),λo ho=>?_⟩;refine ⟨D,o,_,_,rfl,rfl,Gv G (Gh G ho),Gb,by rw [Yab,Yab];show ps.length+1<=_;lia,λl hl=>?_⟩;refine ⟨l,_,rfl,.inl ⟨SqL.of Gb,λT hT=>?_⟩⟩;have s3:=(N.put (o:=.lst [.int 0]) (N.free ho));have s4:=s3.put (o:=.lst ((ps.map (gA ms)).map V.int++[.int 0])) (s3.free hl);exact q T _ (s4.put (s4.free hT)) (by rw [Gb,Yan];rfl)
  ·rw [Yai z];rw [if_neg z,Ycg] at q;refine G5 ⟨_,rfl,D,_,rfl,.inl ⟨SqL.of G,λT hT=>?_⟩⟩;exact q T _ (N.put (N.free hT)) Gb
noncomputable def gR (r c:Nat):Nat->List (Int×Int)
 | 0=>[]
 | i+1=>(gR r c i++(if i % c<c-1 then [((i:Int),(i:Int)+1)] else []))++(if i+c<r * c then [((i:Int),(i:Int)+(c:Int))] else [])
theorem Zcn (r c:Nat):∀i,(gR r c i).length<=2 * i
 | 0=>Yaf _
 | i+1=>by
  have:=Zcn r c i;unfold gR;rw [Yaq,Yaq];split <;> split <;> simp only [Ych,List.length_nil] <;> lia
theorem Zdg {r c:Nat}(q:2<=r)(B:r<=4)(D:2<=c)(F:c<=4):GX (((r * c:Nat)):Int) (gR r c (r * c)):=by
 have h1:r=2\/r=3\/r=4:=by lia
 have h2:c=2\/c=3\/c=4:=by lia
 rcases h1 with rfl | rfl | rfl <;> rcases h2 with rfl | rfl | rfl <;> decide +kernel
noncomputable def Zgp:Sp:=λvs H Q _=>∃(r c:Nat),vs=[.int (r:Int),.int (c:Int)]/\2<=r/\r<=4/\2<=c/\c<=4/\∀(q l:Addr)(xs:List V)(rs:List (Int×Int))(H':Hp),Same H H'->WebAt H' q l ((r * c:Nat):Int) xs rs->GX ((r * c:Nat):Int) rs->Q (.ref q) H'
theorem scGd:Gu ["rows", "columns", "roads", "place"] ["rows", "columns"] (Ge sGd):=⟨rfl,rfl,rfl,by decide +kernel,rfl,by decide +kernel,by decide +kernel⟩
theorem ZfP {f:Addr}{fd:FuncData}(F:Fun K "_law_grid" "_law_grid" sGd f fd)(D:mg "range" = none):GV P w K mg base CX0 1 f fd ["rows", "columns"] Zgp:=by
 refine F.ok scGd (λvs H Q E h=>?_) (λad A ab s0 H vs Q E hr h=>?_)
 ·obtain ⟨_,_,rfl,_⟩:=h
  rfl
 ·obtain ⟨r,c,rfl,r1,r2,c1,c2,q⟩:=h;have ae:=Ybf.symm;have rc:r * c<=4 * 4:=Nat.mul_le_mul r2 c2;have U:(r:Int) * (c:Int)=((r * c:Nat):Int):=by push_cast;rfl
  refine ⟨_,Gc (Go (i:=2) scGd.nd rfl (Or.inl rfl) (Jh Gf))
    (Gc (Jf Ybq rfl (Je rfl D (Ga (Gw Uq (pv 0) (pv 1)) Gf)) (Gj (i:=3) scGd.nd rfl (Or.inl rfl))
    (Gc (G4 (Gm UG (Gw Js (pv 3) (pv 1)) (Gw U8 (pv 1) Gd) (Gx _)) (Gg (Jm (U3 Ydg Yea Yeb Ji (pv 2) (Ga (JE (Ga (pv 3) (Ga (Gw G0 (pv 3) Gd) Gf))) Gf)))) Gz)
    (Gg (G4 (Gm UG (Gw G0 (pv 3) (pv 1)) (Gw Uq (pv 0) (pv 1)) (Gx _)) (Gg (Jm (U3 Ydg Yea Yeb Ji (pv 2) (Ga (JE (Ga (pv 3) (Ga (Gw G0 (pv 3) (pv 1)) Gf))) Gf)))) Gz))))
    (Gg (Gy (JE (Ga (Gw Uq (pv 0) (pv 1)) (Ga (pv 2) Gf)))))),?_⟩
  refine ⟨Yav _,λB L=>?_⟩;refine ⟨_,rfl,_,rfl,_,_,rfl,rfl,.inl ⟨by lia,by lia⟩,_,rfl,by rw [U];lia,by rw [U];lia,?_⟩;rw [U,Ybn];refine JC (lo:=0) (n:=r * c) (λi σ H2=>∃(v3:Option V)(xs:List V),σ=[some (.int (r:Int)),some (.int (c:Int)),some (.ref B),v3]/\Same H H2/\H2 B=some (.lst xs)/\Prs H2 xs (gR r c i)) ⟨none,[],rfl,Same.new L,Gb,.nil⟩ ?_ ?_
  ·rintro i σ H2 hi ⟨v3,xs,rfl,Y,G,p2⟩;rw [Int.zero_add];have xl:=p2.len;have gl:=Zcn r c i;refine GO (λσ' H3=>∃(xs:List V),σ'=[some (.int (r:Int)),some (.int (c:Int)),some (.ref B),some (.int (i:Int))]/\Same H H3/\H3 B=some (.lst xs)/\Prs H3 xs (gR r c i++(if i % c<c-1 then [((i:Int),(i:Int)+1)] else []))) ?g2 ?g1
   case g1=>
    intro hk;refine ⟨_,rfl,_,rfl,_,_,rfl,rfl,(by show (0:Int)<(c:Int);lia),_,rfl,_,_,rfl,rfl,_,_,rfl,rfl,_,rfl,?_⟩;have Z:((i:Int) % (c:Int)<(c:Int)-1)↔i % c<c-1:=by
     rw [show (i:Int) % (c:Int)=((i % c:Nat):Int) from rfl]
     lia
    by_cases z:i % c<c-1
    ·rw [Yae (Z.mpr z)];refine GY ?_;refine ⟨_,rfl,.inl ⟨rfl,_,SqL.of G⟩,_,rfl,_,rfl,_,_,rfl,rfl,JS,λt ht=>?_⟩;have N:B≠t:=Gh G ht;obtain ⟨a1,a2,a3⟩:=Vy (a:=(i:Int)) (b:=(i:Int)+1) Y L G p2 ht;refine ⟨B,_,_,rfl,rfl,Gv G N,by lia,?_⟩;exact hk _ _ ⟨_,rfl,a1,a2,by rw [if_pos z];exact a3⟩
    ·rw [Yai (λy=>z (Z.mp y))];exact G5 (hk _ _ ⟨xs,rfl,Y,G,by rw [if_neg z,Ycg];exact p2⟩)
   rintro σ' H3 ⟨aa,rfl,s3,e3,p3⟩;have ac:=p3.len;have af:aa.length<=2 * i+1:=by
    rw [ac,Yaq];split <;> simp only [Ych,List.length_nil] <;> lia
   refine ⟨_,rfl,_,rfl,_,_,rfl,rfl,_,rfl,_,rfl,_,_,rfl,rfl,.inl ⟨by lia,by lia⟩,_,_,rfl,rfl,_,rfl,?_⟩;have Z:((i:Int)+(c:Int)<(r:Int) * (c:Int))↔i+c<r * c:=by rw [U];lia
   by_cases z:i+c<r * c
   ·rw [Yae (Z.mpr z)];refine GY ?_;refine ⟨_,rfl,.inl ⟨rfl,_,SqL.of e3⟩,_,rfl,_,rfl,_,rfl,_,_,rfl,rfl,JS,λt ht=>?_⟩;have N:B≠t:=Gh e3 ht;obtain ⟨a1,a2,a3⟩:=Vy (a:=(i:Int)) (b:=(i:Int)+(c:Int)) s3 L e3 p3 ht;refine ⟨B,_,_,rfl,rfl,Gv e3 N,by lia,?_⟩;exact ⟨_,_,rfl,a1,a2,by unfold gR;rw [if_pos z];exact a3⟩
   ·rw [Yai (λy=>z (Z.mp y))];exact G5 ⟨_,aa,rfl,s3,e3,by unfold gR;rw [if_neg z,Ycg];exact p3⟩
  ·rintro σ H2 ⟨v3,xs,rfl,Y,G,p2⟩;refine ⟨_,rfl,_,rfl,_,_,rfl,rfl,.inl ⟨by lia,by lia⟩,_,rfl,JS,λwb O=>?_⟩;show Q (.ref wb) (upd H2 wb (.tup [.int ((r:Int) * (c:Int)),.ref B]));rw [U];exact q wb B xs _ _ (Y.put (Y.free O)) ⟨Gb,Gv G (Gh G O),p2.keep (JX O)⟩ (Zdg r1 r2 c1 c2)
theorem ZaJ:bootBuiltins "min" = some (.builtin "min"):=by first | rfl | decide +kernel
noncomputable def Zb (f:Int)(j:Nat):Int:=if f<(j:Int) then f else -1
noncomputable def Zgq:Sp:=λvs H Q _=>∃(B l D cl F:Addr)(k n:Nat)(xs:List V)(rs:List (Int×Int))(c:List Int)(s t:Int)(lab mate:Int->Int),vs=[.ref B,.ref D,.int (n:Int),.ref cl,.ref F]/\WebAt H B l (k:Int) xs rs/\GX (k:Int) rs/\H D=some (.tup [.int s,.int t])/\s≠t/\(0<=s/\s<(k:Int))/\(0<=t/\t<(k:Int))/\n<=rs.length/\H cl=some (.lst (c.map V.int))/\(∀q∈c,0<=q/\q<(rs.length:Int))/\H F=some (.lst ((GD k (Gs rs)).map V.int))/\UD rs c=some lab/\HopB rs k s t n (degF rs c) lab/\Mt (degF rs c) lab mate /\
 ∀(T:Addr)(H':Hp),Same H H'->H' T=some (.tup ((U6 rs k n s t (degF rs c) lab mate).map V.int))->Q (.ref T) H'
theorem scMk:Gu ["web", "ends", "i", "chosen", "last", "degrees", "piece", "marks", "place", "first", "mark", "far"] ["web", "ends", "i", "chosen", "last"] (Ge sMk):=⟨rfl,rfl,rfl,by decide +kernel,rfl,by decide +kernel,by decide +kernel⟩
theorem ZfQ {f an ao:Addr}{fd aa ab:FuncData}(F:Fun K "_law_marks" "_law_marks" sMk f fd)(aA:Fun K "_law_degrees" "_law_degrees" sDg an aa)(aB:Binds K aa ["web", "chosen"] [])(aC:mg "_law_degrees" = some (.ref an))(aD:GV P w K mg base CX0 1 an aa ["web", "chosen"] ZfG)(aE:Fun K "_law_pieces" "_law_pieces" sPi ao ab)(aF:Binds K ab ["web", "chosen"] [])(aG:mg "_law_pieces" = some (.ref ao))(aH:GV P w K mg base CX0 1 ao ab ["web", "chosen"] ZfI)(L:mg "range" = none)(ay:mg "len" = none)(az:mg "min" = none)(a0:mg "int" = none)(a1:mg "tuple" = none):GV P w K mg base CX0 2 f fd ["web", "ends", "i", "chosen", "last"] Zgq:=by
 refine F.ok scMk (λvs H Q E h=>?_) (λaV A aI s0 H vs Q E hr h=>?_)
 ·obtain ⟨_,_,_,_,_,_,_,_,_,_,_,_,_,_,rfl,_⟩:=h
  rfl
 ·obtain ⟨U,l,O,cl,la,k,n,xs,rs,c,s,t,lab,mate,rfl,W,g,ap,aW,hs,ht,hn,hc,aq,aJ,hl,hb,M,q⟩:=h;have hu:=hr.units;have aX:=Ybf.symm;have aY:=W.p.len;have gk:=g.2.1;have g3:=g.2.2.1;have rg:=Of g.2.2.2.1 c aq;refine ⟨_,Gc (Go (i:=5) scMk.nd rfl (Or.inl rfl) (Gk aD (hr.mono (by decide)) rfl aC aA.kp aB .nil GU (Ga (pv 0) (Ga (pv 3) Gf))))
    (Gc (Go (i:=6) scMk.nd rfl (Or.inl rfl) (Gk aH (hr.mono (by decide)) rfl aG aE.kp aF .nil GU (Ga (pv 0) (Ga (pv 3) Gf))))
    (Gc (Go (i:=7) scMk.nd rfl (Or.inl rfl) (Jh Gf))
    (Gc (Jf Ybq rfl (Je rfl L (Ga (Gn (Jg K) (pv 0) Gd (λ_ _=>rfl)) Gf)) (Gj (i:=8) scMk.nd rfl (Or.inr rfl))
    (Gc (OH (i:=9) scMk.nd rfl (Or.inl rfl) (own:=["k"]) rfl (Gq (fr:=[("web", 0),("place", 8)]) [(".0", .local),("k", .local),("place", .cell),("web", .cell)] rfl rfl (by decide +kernel) rfl (by decide +kernel) ⟨rfl,rfl,trivial⟩ ⟨λh=>G6 h,λh=>G6 h,λ_=>⟨_,rfl⟩,λ_=>⟨_,rfl⟩,trivial⟩ ⟨⟨rfl,.inl rfl,.inl rfl⟩,⟨rfl,.inl rfl,.inl rfl⟩,trivial⟩) (Je rfl L (Ga (GA (Zt rfl) rfl az ZaJ (Ga (pv 2) (Ga (GA (Zb3 K) rfl ay Ydz (Ga (Gn (Jg K) (pv 0) Gd (λ_ _=>rfl)) Gf)) Gf))) Gf)) (λ_ _ _ _=>Gj (i:=0) (show List.Nodup (["k", "web", "place"]:List Str) by decide +kernel) rfl (Or.inl rfl)) (λ_ _ _ _=>OP (Gm (kIn K) (pv 2) (Gn (J3 K) (Gn (Jg K) (pv 1) Gd (λ_ _=>rfl)) (pv 0) (λ_ _=>rfl)) (by with_unfolding_all rfl))) (λ_ _ _ _=>pv 0))
    (Gg (G4 (PW.pt (J2 (Gm (ZeJ K hu) (pv 9) (Jh Gf) (Gx _)) (JA (Gm YH (Gn (J3 K) (pv 4) (pv 8) (λ_ _=>rfl)) (pv 2) (Gx _))))) (Gc (Go (i:=10) scMk.nd rfl (Or.inl rfl) (Gw G0 (Xb OI Gd) (G8 Zu rfl a0 XX (Ga (JW Zcw (Gn (J3 K) (pv 5) (pv 8) (λ_ _=>rfl)) Gd (Gx _)) Gf))))
    (Gc (G4 (PW.pt (J2 (Gm JK (Gn (J3 K) (pv 5) (pv 8) (λ_ _=>rfl)) Gd (Gx _)) (JA (Gm (Zb2 K) (pv 8) (pv 1) (by with_unfolding_all rfl))))) (Gc (Jf Ybq rfl (Je rfl L (Ga (Gn (Jg K) (pv 0) Gd (λ_ _=>rfl)) Gf)) (Gj (i:=11) scMk.nd rfl (Or.inl rfl))
    (Gg (G4 (PW.pt (J2 (Gm Zcv (pv 11) (pv 8) (Gx _)) (J2 (Gm JK (Gn (J3 K) (pv 6) (pv 11) (λ_ _=>rfl)) (Gn (J3 K) (pv 6) (pv 8) (λ_ _=>rfl)) (Gx _)) (JA (Gm JK (Gn (J3 K) (pv 5) (pv 11) (λ_ _=>rfl)) Gd (Gx _)))))) (Gg (Go (i:=10) scMk.nd rfl (Or.inl rfl) (pv 11))) Gz)))
    (Gg (G4 (Gm JK (pv 10) (Gn (Jg K) (pv 1) Gd (λ_ _=>rfl)) (Gx _)) (Gg (Go (i:=10) scMk.nd rfl (Or.inl rfl) (Xb OI Gd))) (Gg (G4 (Gm JK (pv 10) (Gn (Jg K) (pv 1) Gd (λ_ _=>rfl)) (Gx _)) (Gg (Go (i:=10) scMk.nd rfl (Or.inl rfl) (Xb OI Gd))) Gz))))) Gz)
    (Gg (Jm (U3 Ydg Yea Yeb Ji (pv 7) (Ga (pv 10) Gf)))))) Gz))))
    (Gc (G4 (PW.pt (J2 (Gm JK (Gn (J3 K) (pv 5) (Gn (Jg K) (pv 1) Gd (λ_ _=>rfl)) (λ_ _=>rfl)) Gd (Gx _)) (JA (Gm JK (Gn (J3 K) (pv 6) (Gn (Jg K) (pv 1) Gd (λ_ _=>rfl)) (λ_ _=>rfl)) (Gn (J3 K) (pv 6) (Gn (Jg K) (pv 1) Gd (λ_ _=>rfl)) (λ_ _=>rfl)) (Gx _))))) (Gg (Jm (U3 Ydg Yea Yeb Ji (pv 7) (Ga Gd Gf)))) Gz)
    (Gg (Gy (G8 (WI K) rfl a1 Jo (Ga (pv 7) Gf)))))))),?_⟩
  refine ⟨_,rfl,_,rfl,U,l,cl,k,xs,rs,c,rfl,W,g,hc,aq,λN H1 s1 aZ e1=>?_⟩;refine ⟨_,rfl,_,rfl,U,l,cl,k,xs,rs,c,rfl,W.same s1,g,s1 _ _ hc,aq,λH' s' z=>(by rw [hl] at z;cases z),λp aU H2 s2 hp z e2=>?_⟩;rw [hl] at z;cases z;have S2:=s1.trans s2;refine ⟨Yav _,λG ah=>?_⟩;have am:H G=none:=S2.free ah;have a2:=s2 _ _ e1;have aK:p≠G:=Gh e2 ah;have aL:N≠G:=Gh a2 ah;have s3:Same H2 (upd H2 G (.lst [])):=Same.new ah;have S3:=S2.trans s3;refine ⟨_,rfl,U,_,_,_,rfl,rfl,SqT.of (S3 _ _ W.w),Gi (j:=0) rfl,_,rfl,by lia,by lia,?_⟩;rw [Ybn];refine JC (lo:=0) (n:=k) (λj σ H4=>∃(v8 v9 ac B:Option V),σ=[some (.ref U),some (.ref O),some (.int (n:Int)),some (.ref cl),some (.ref la),some (.ref N),some (.ref p),some (.ref G),v8,v9,ac,B]/\Same H H4/\H4 N=some (.lst ((GD k λx=>(degF rs c x:Int)).map V.int))/\H4 p=some (.lst ((GD k lab).map V.int))/\H4 G=some (.lst (((frL rs n j).map (Ou rs s t n (degF rs c) mate)).map V.int))) ⟨none,none,none,none,rfl,S3,s3 _ _ a2,s3 _ _ e2,Gb⟩ ?_ ?_
  ·rintro j σ H4 hj ⟨v8,v9,ac,B,rfl,S4,ed,ep,em⟩;rw [Int.zero_add];have W4:=W.same S4;refine ⟨_,rfl,_,rfl,U,_,_,_,rfl,rfl,SqT.of W4.w,Gi (j:=1) rfl,l,_,rfl,.inl (SqL.of W4.l),_,_,rfl,_,rfl,?_⟩;have a3:(if (xs.length:Int)<(n:Int) then (xs.length:Int) else (n:Int))=(n:Int):=by rw [if_neg (by lia)]
   rw [a3];refine ⟨by lia,by lia,λD hD=>?_⟩;rw [Ybn];have ba:D≠G:=λz=>by rw [z,em] at hD;cases hD
   refine Om (lo:=0) (n:=n) (λi ys H5=>Same H4 H5/\H5 D=some (.lst ys)/\ys=(ats rs (j:Int) i).map V.int) ⟨Same.new hD,Gb,rfl⟩ ?_ ?_
   ·rintro i ys H5 hi ⟨s5,ai,rfl⟩;rw [Int.zero_add];have W5:=W4.same s5;have hx:xs[i]?=some xs[i]:=Yax (by lia);obtain ⟨t1,r,et,aM,er⟩:=W5.p.get hx;have aN:rs.getD i (0,0)=r:=by rw [Yat,er];rfl
    have sc:=ZbO rs (j:Int) i;rw [aN] at sc;refine ⟨⟨rfl,rfl,trivial⟩,?_⟩;refine ⟨_,rfl,_,rfl,U,_,_,_,rfl,rfl,SqT.of W5.w,Gi (j:=1) rfl,_,rfl,l,_,_,_,rfl,rfl,SqL.of W5.l,Gi (j:=i) (by rw [hx,et]),t1,_,rfl,.inr (SqT.of aM),rfl,rfl,_,rfl,?_⟩;show if (inV (.int (j:Int)) [.int r.1,.int r.2])=true then _ else _
    rw [Zfm];refine YK (λz=>?_) (λz=>?_)
    ·rw [if_pos z] at sc;have:=Zdf rs (j:Int) i;exact ⟨_,rfl,ai,by rw [Yab];lia,s5.put hD,Gb,by rw [sc,Yan];rfl⟩
    ·rw [if_neg z,Ycg] at sc;exact ⟨s5,ai,by rw [sc]⟩
   rintro ys H5 ⟨s5,ai,rfl⟩;have S5:=S4.trans s5;have a4:=s5 _ _ ed;have a5:=s5 _ _ ep;have a6:=s5 _ _ em;have Y:∀H6,Same H5 H6->¬ inF rs n (j:Int)->∃(v8 v9 ad ae:Option V),[some (V.ref U),some (.ref O),some (.int (n:Int)),some (.ref cl),some (.ref la),some (.ref N),some (.ref p),some (.ref G),some (.int (j:Int)),some (.ref D),ac,B]=[some (.ref U),some (.ref O),some (.int (n:Int)),some (.ref cl),some (.ref la),some (.ref N),some (.ref p),some (.ref G),v8,v9,ad,ae]/\Same H H6/\H6 N=some (.lst ((GD k λx=>(degF rs c x:Int)).map V.int))/\H6 p=some (.lst ((GD k lab).map V.int))/\H6 G=some (.lst (((frL rs n (j+1)).map (Ou rs s t n (degF rs c) mate)).map V.int)):=λH6 s6 z=>
    ⟨_,_,_,_,rfl,S5.trans s6,s6 _ _ a4,s6 _ _ a5,by rw [Yx,if_neg z,Ycg];exact s6 _ _ a6⟩
   refine ⟨_,rfl,Yav _,λbb aO=>?_⟩;obtain ⟨H6,q_,s6,aP⟩:=nwU (o:=.lst []) aO;rw [q_];refine ⟨.list ((ats rs (j:Int) n).map PyData.int),.list [],.lst (SqL.of (s6 _ _ ai)) (UK _),.lst (SqL.of aP) .nil,UL _,by decide,_,rfl,?_⟩;have a7:=VB (ats rs (j:Int) n) [];rw [List.map_nil] at a7;rw [a7];by_cases aj:ats rs (j:Int) n=[]
   ·rw [Yae aj];exact G5 (G5 (Y _ s6 λz=>z.1 aj))
   rw [Yai aj];refine GY ?_;have S6:=S5.trans s6;have ak:=s6 _ _ a4;have ar:=s6 _ _ a5;have aQ:atI ((GD k (Gs rs)).map V.int) (j:Int)=some (.int (Gs rs (j:Int))):=GQ (by lia) (by lia);have as:∀y:Int,0<=y->y<(k:Int)->atI ((GD k λx=>(degF rs c x:Int)).map V.int) y=some (.int (degF rs c y:Int)):=λy y0 y1=>GQ y0 y1;refine ⟨_,rfl,_,rfl,la,_,_,_,rfl,rfl,SqL.of (S6 _ _ aJ),aQ,_,rfl,_,_,rfl,rfl,_,rfl,?_⟩;by_cases al:(n:Int)<=Gs rs (j:Int)
   ·rw [Yae al];refine GY ?_;have hF:inF rs n (j:Int):=⟨aj,al⟩;have fin:∀(mk:Int)(B:Option V)(Z:Hp),Same H6 Z->mk=Ou rs s t n (degF rs c) mate (j:Int)->∃(v8 v9 ad ae:Option V),[some (V.ref U),some (.ref O),some (.int (n:Int)),some (.ref cl),some (.ref la),some (.ref N),some (.ref p),some (.ref G),some (.int (j:Int)),some (.ref D),some (.int mk),B]=[some (.ref U),some (.ref O),some (.int (n:Int)),some (.ref cl),some (.ref la),some (.ref N),some (.ref p),some (.ref G),v8,v9,ad,ae]/\Same H (upd Z G (.lst (((frL rs n j).map (Ou rs s t n (degF rs c) mate)).map V.int++[.int mk])))/\upd Z G (.lst (((frL rs n j).map (Ou rs s t n (degF rs c) mate)).map V.int++[.int mk])) N=some (.lst ((GD k λx=>(degF rs c x:Int)).map V.int))/\upd Z G (.lst (((frL rs n j).map (Ou rs s t n (degF rs c) mate)).map V.int++[.int mk])) p=some (.lst ((GD k lab).map V.int))/\upd Z G (.lst (((frL rs n j).map (Ou rs s t n (degF rs c) mate)).map V.int++[.int mk])) G=some (.lst (((frL rs n (j+1)).map (Ou rs s t n (degF rs c) mate)).map V.int)):=λmk B Z s7 au=>
     ⟨_,_,_,_,rfl,(S6.trans s7).put am,Gv (s7 _ _ ak) aL,Gv (s7 _ _ ar) aK,by rw [Gb,Yx,if_pos hF,Yan,Yan,au];rfl⟩
    have lm:((frL rs n j).map (Ou rs s t n (degF rs c) mate)).length<=j:=by
     rw [Yab];refine Ybc (Yct _ _) ?_;rw [GS];exact Yaf _
    refine GO (λσ' H'=>∃b:Bool,b=decide (0<(degF rs c (j:Int):Int))/\σ'=[some (.ref U),some (.ref O),some (.int (n:Int)),some (.ref cl),some (.ref la),some (.ref N),some (.ref p),some (.ref G),some (.int (j:Int)),some (.ref D),some (.int (-2+if b then 1 else 0)),B]/\H'=H6) ?m2 ?m1
    case m1=>
     intro hk;refine ⟨_,rfl,_,rfl,_,rfl,N,_,_,_,rfl,rfl,SqL.of ak,as (j:Int) (by lia) (by lia),_,_,rfl,rfl,.inr ⟨_,rfl,_,_,rfl,rfl,?_⟩⟩;exact hk _ _ ⟨_,rfl,rfl,rfl⟩
    rintro σ' H' ⟨b,av,rfl,rfl⟩;refine GO (λσ' aR=>∃(mk:Int)(B:Option V),mk=Ou rs s t n (degF rs c) mate (j:Int)/\σ'=[some (.ref U),some (.ref O),some (.int (n:Int)),some (.ref cl),some (.ref la),some (.ref N),some (.ref p),some (.ref G),some (.int (j:Int)),some (.ref D),some (.int mk),B]/\Same H' aR) ?n2 ?n1
    case n2=>
     rintro bc Z ⟨mk,B,au,rfl,s7⟩;have a8:=(s6.trans s7) _ _ a6;refine ⟨_,rfl,.inl ⟨rfl,_,SqL.of a8⟩,_,rfl,G,_,_,rfl,rfl,a8,by rw [Yab];lia,?_⟩;exact fin mk B Z s7 au
    case n1=>
     intro hk;have two:=hb.two (j:Int);refine ⟨_,rfl,_,rfl,N,_,_,_,rfl,rfl,SqL.of ak,as (j:Int) (by lia) (by lia),rfl,_,rfl,?_⟩;rw [GF];have aw:Ou rs s t n (degF rs c) mate (j:Int)=if degF rs c (j:Int)=0 then -2 else if degF rs c (j:Int)=2\/(j:Int)=s\/(j:Int)=t then -1 else GM s t (mate (j:Int)):=by
      unfold Ou;rw [if_neg (show ¬ Gs rs (j:Int)<(n:Int) by lia)]
     by_cases d1:(degF rs c (j:Int):Int)=1
     ·rw [Yae d1];refine GY ?_;have a9:degF rs c (j:Int)=1:=by lia
      refine ⟨_,rfl,_,rfl,O,_,rfl,.inr (SqT.of (S6 _ _ ap)),rfl,rfl,_,rfl,?_⟩;show if (!inV (.int (j:Int)) [.int s,.int t])=true then _ else _
      rw [Zev];by_cases ze:(j:Int)=s\/(j:Int)=t
      ·rw [Yae ze];refine G5 (hk _ _ ⟨_,_,?_,rfl,Same.refl _⟩);rw [aw,if_neg (show ¬ degF rs c (j:Int)=0 by lia),if_pos (show degF rs c (j:Int)=2\/(j:Int)=s\/(j:Int)=t from .inr ze),av,Yae (show (0:Int)<(degF rs c (j:Int):Int) by lia)]
       rfl
      rw [Yai ze];refine GY ?_;obtain ⟨m1,m2,m3⟩:=M.m (j:Int) a9;have aS:=rg (mate (j:Int)) (by rw [m1];decide);refine ⟨_,rfl,U,_,_,_,rfl,rfl,SqT.of (S6 _ _ W.w),Gi (j:=0) rfl,_,rfl,by lia,by lia,?_⟩;rw [Ybn];refine JC (lo:=0) (n:=k) (λi σ Z=>∃B:Option V,σ=[some (.ref U),some (.ref O),some (.int (n:Int)),some (.ref cl),some (.ref la),some (.ref N),some (.ref p),some (.ref G),some (.int (j:Int)),some (.ref D),some (.int (Zb (mate (j:Int)) i)),B]/\Z=H') ⟨B,?_,rfl⟩ ?_ ?_
      ·have e0:Zb (mate (j:Int)) 0=-1:=by
        unfold Zb;rw [if_neg (show ¬ mate (j:Int)<((0:Nat):Int) by lia)]
       rw [av,Yae (show (0:Int)<(degF rs c (j:Int):Int) by lia),e0]
       rfl
      ·rintro i σ Z hi ⟨aT,rfl,rfl⟩;rw [Int.zero_add];have stay:¬ ((i:Int)=mate (j:Int))->Zb (mate (j:Int)) (i+1)=Zb (mate (j:Int)) i:=λz=>by
        unfold Zb;by_cases y:mate (j:Int)<(i:Int)
        ·rw [if_pos y,if_pos (by lia)]
        ·rw [if_neg y,if_neg (by lia)]
       have same:∀w:Option V,¬ ((i:Int)=mate (j:Int))->∃B:Option V,[some (V.ref U),some (.ref O),some (.int (n:Int)),some (.ref cl),some (.ref la),some (.ref N),some (.ref p),some (.ref G),some (.int (j:Int)),some (.ref D),some (.int (Zb (mate (j:Int)) i)),w]=[some (.ref U),some (.ref O),some (.int (n:Int)),some (.ref cl),some (.ref la),some (.ref N),some (.ref p),some (.ref G),some (.int (j:Int)),some (.ref D),some (.int (Zb (mate (j:Int)) (i+1))),B]/\Z=Z:=λw z=>⟨w,by rw [stay z],rfl⟩;refine ⟨_,rfl,_,rfl,rfl,_,rfl,?_⟩;rw [GF];by_cases y1:(i:Int)=(j:Int)
       ·rw [Yae y1];exact G5 (G5 (same _ λz=>m2 (by rw [<-z,y1])))
       rw [Yai y1];refine GY ?_;refine ⟨_,rfl,_,rfl,p,_,_,_,rfl,rfl,SqL.of ar,GQ (by lia) (by lia),_,rfl,_,rfl,p,_,_,_,rfl,rfl,SqL.of ar,GQ (by lia) (by lia),rfl,_,rfl,?_⟩;rw [GF];by_cases y2:lab (i:Int)=lab (j:Int)
       ·rw [Yae y2];refine GY ?_;refine ⟨_,rfl,_,rfl,N,_,_,_,rfl,rfl,SqL.of ak,as (i:Int) (by lia) (by lia),rfl,_,rfl,?_⟩;rw [GF];by_cases y3:(degF rs c (i:Int):Int)=1
        ·rw [Yae y3];have ei:(i:Int)=mate (j:Int):=(M.u (j:Int) (i:Int) a9 (by lia) y2.symm).resolve_left y1;refine GY ⟨_,rfl,some (V.int (i:Int)),?_,rfl⟩;show [_,_,_,_,_,_,_,_,_,_,some (V.int (i:Int)),some (V.int (i:Int))]=_;rw [show Zb (mate (j:Int)) (i+1)=(i:Int) by unfold Zb;rw [if_pos (by lia),<-ei]]
        ·rw [Yai y3];exact G5 (same _ λz=>y3 (by rw [z,m1];rfl))
       ·rw [Yai y2];exact G5 (G5 (same _ λz=>y2 (by rw [z,m3])))
      ·rintro σ Z ⟨aT,rfl,rfl⟩;have ef:Zb (mate (j:Int)) k=mate (j:Int):=by unfold Zb;rw [if_pos aS.2]
       rw [ef];have ax:Ou rs s t n (degF rs c) mate (j:Int)=GM s t (mate (j:Int)):=by
        rw [aw,if_neg (show ¬ degF rs c (j:Int)=0 by lia),if_neg (show ¬ (degF rs c (j:Int)=2\/(j:Int)=s\/(j:Int)=t) from λz=>z.elim (λz=>by lia) ze)]
       have af:=S6 _ _ ap;refine ⟨_,rfl,_,rfl,O,_,_,_,rfl,rfl,SqT.of af,Gi (j:=0) rfl,rfl,_,rfl,?_⟩;rw [GF];rcases GK s t (mate (j:Int)) with ⟨w1,e⟩ | ⟨w1,w2,e⟩ | ⟨w1,w2,e⟩
       ·rw [Yae w1];exact GY ⟨_,rfl,hk _ _ ⟨_,_,by rw [ax,e],rfl,Same.refl _⟩⟩
       ·rw [Yai w1];refine G5 ?_;refine ⟨_,rfl,_,rfl,O,_,_,_,rfl,rfl,SqT.of af,Gi (j:=1) rfl,rfl,_,rfl,?_⟩;rw [GF,Yae w2];exact GY ⟨_,rfl,hk _ _ ⟨_,_,by rw [ax,e],rfl,Same.refl _⟩⟩
       ·rw [Yai w1];refine G5 ?_;refine ⟨_,rfl,_,rfl,O,_,_,_,rfl,rfl,SqT.of af,Gi (j:=1) rfl,rfl,_,rfl,?_⟩;rw [GF,Yai w2];exact G5 (hk _ _ ⟨_,_,by rw [ax,e],rfl,Same.refl _⟩)
     ·rw [Yai d1];refine G5 (G5 (hk _ _ ⟨_,_,?_,rfl,Same.refl _⟩));rw [aw,av];by_cases d0:degF rs c (j:Int)=0
      ·rw [if_pos d0,d0];rfl
      ·rw [if_neg d0,if_pos (show degF rs c (j:Int)=2\/(j:Int)=s\/(j:Int)=t from .inl (by lia)),Yae (show (0:Int)<(degF rs c (j:Int):Int) by lia)];rfl
   ·rw [Yai al];exact G5 (Y _ s6 λz=>al z.2)
  ·rintro σ H4 ⟨v8,v9,ac,B,rfl,S4,ed,ep,em⟩;have ag:=S4 _ _ ap;have lm:((frL rs n k).map (Ou rs s t n (degF rs c) mate)).length<=k:=by
    rw [Yab];refine Ybc (Yct _ _) ?_;rw [GS];exact Yaf _
   have bd:=(hb.en s (.inl rfl)).1;dsimp only;refine GO (λσ' H5=>σ'=[some (.ref U),some (.ref O),some (.int (n:Int)),some (.ref cl),some (.ref la),some (.ref N),some (.ref p),some (.ref G),v8,v9,ac,B]/\Same H H5/\H5 G=some (.lst ((U6 rs k n s t (degF rs c) lab mate).map V.int))) ?z2 ?z1
   case z2=>
    rintro σ' H5 ⟨rfl,S5,e5⟩;exact ⟨_,rfl,G,_,rfl,.inl ⟨SqL.of e5,λT hT=>q T _ (S5.put (S5.free hT)) Gb⟩⟩
   case z1=>
    intro hk;have no:¬ (degF rs c s≠0/\lab s=lab t)->U6 rs k n s t (degF rs c) lab mate=(frL rs n k).map (Ou rs s t n (degF rs c) mate):=λz=>by unfold U6;rw [if_neg z,Ycg]
    refine ⟨_,rfl,_,rfl,O,_,_,_,rfl,rfl,SqT.of ag,Gi (j:=0) rfl,N,_,_,_,rfl,rfl,SqL.of ed,GQ hs.1 hs.2,rfl,_,rfl,?_⟩;rw [GF];by_cases d1:(degF rs c s:Int)=1
    ·rw [Yae d1];refine GY ?_;refine ⟨_,rfl,_,rfl,O,_,_,_,rfl,rfl,SqT.of ag,Gi (j:=0) rfl,p,_,_,_,rfl,rfl,SqL.of ep,GQ hs.1 hs.2,_,rfl,_,rfl,O,_,_,_,rfl,rfl,SqT.of ag,Gi (j:=1) rfl,p,_,_,_,rfl,rfl,SqL.of ep,GQ ht.1 ht.2,rfl,_,rfl,?_⟩;rw [GF];by_cases y:lab s=lab t
     ·rw [Yae y];refine GY ⟨_,rfl,.inl ⟨rfl,_,SqL.of em⟩,G,_,_,rfl,rfl,em,by rw [Yab];lia,?_⟩;refine hk _ _ ⟨rfl,S4.put am,?_⟩;rw [Gb];unfold U6;rw [if_pos ⟨by lia,y⟩,Yan]
      rfl
     ·rw [Yai y];exact G5 (hk _ _ ⟨rfl,S4,by rw [no λz=>y z.2];exact em⟩)
    ·rw [Yai d1];exact G5 (G5 (hk _ _ ⟨rfl,S4,by rw [no λz=>by have:=z.1;lia];exact em⟩))
theorem Zdh {rs:List (Int×Int)}{n:Nat}{p:Int}(h:ats rs p n=[]):∀c:List Int,(∀q∈c,0<=q/\q<(n:Int))->degF rs c p=0:=by
 intro c;refine V5 (P:=λc=>(∀q∈c,0<=q/\q<(n:Int))->degF rs c p=0) (λ_=>rfl) (λc q F D=>?_) c;have L:=D q (Yap.mpr (.inr (Ybo.mpr rfl)));have h2:¬ O6 (rs.getD q.toNat (0,0)) p=true:=by
  unfold ats at h;rw [List.map_eq_nil_iff,List.filter_eq_nil_iff] at h;exact h q.toNat (Ybv.mpr (by lia))
 unfold O6 at h2;rw [decide_eq_true_eq] at h2;have h2:¬ ((JU rs q).1=p\/(JU rs q).2=p):=h2;rw [JT,Jj (λz=>h2 (.inl z.symm)) (λz=>h2 (.inr z.symm))];exact F λG B=>D G (Yap.mpr (.inl B))
theorem Yy {rs:List (Int×Int)}{n:Nat}{s t p:Int}{c:List Int}{mate:Int->Int}(B:∀q∈c,0<=q/\q<(n:Int))(h:¬ inF rs n p):Ou rs s t n (degF rs c) mate p=-2:=by
 unfold Ou;by_cases z:Gs rs p<(n:Int)
 ·rw [if_pos z]
 ·rw [if_neg z,if_pos];refine Zdh ?_ c B;by_cases y:ats rs p n=[]
  ·exact y
  ·exact absurd ⟨y,by lia⟩ h
theorem Wa {rs:List (Int×Int)}{k n:Nat}{s t:Int}{c Y:List Int}{lab B mate D:Int->Int}{m G:List Int}(hc:∀q∈c,0<=q/\q<(n:Int))(aa:∀q∈Y,0<=q/\q<(n:Int))(Z:Mk rs k s t n (degF rs c) lab mate m)(F:Mk rs k s t n (degF rs Y) B D G)(e:U6 rs k n s t (degF rs c) lab mate=U6 rs k n s t (degF rs Y) B D):m=G:=by
 rw [<-U2 Z,<-U2 F] at e;have hl:=Z.len;have O:=F.len;obtain ⟨e1,L⟩:=List.append_inj e (by rw [Yab,Yab]);rw [hl,O] at L;have L:(if m.getD k 0=0 then [(0:Int)] else [])=if G.getD k 0=0 then [0] else []:=L
 have at_:∀j:Nat,j<k+1->m.getD j 0=G.getD j 0:=by
  intro j hj;rcases (show j<k\/j=k by lia) with hj | rfl
  ·have g1:=Z.at_ (j:Int) (by lia) (by lia);have g2:=F.at_ (j:Int) (by lia) (by lia);by_cases z:inF rs n (j:Int)
   ·have hm:(j:Int)∈frL rs n k:=by
     unfold frL GD;exact Ycb.mpr ⟨Yba.mpr ⟨j,Ybv.mpr hj,rfl⟩,Yae z⟩
    have:=List.map_inj_left.mp e1 _ hm;unfold gA at this
    rwa [Ybn] at this
   ·rw [Yy hc z] at g1;rw [Yy aa z] at g2;unfold gA at g1 g2;rw [Ybn] at g1 g2;rw [g1,g2]
  ·have d1:=Z.dn;have d2:=F.dn;by_cases U:m.getD j 0=0
   ·by_cases N:G.getD j 0=0
    ·rw [U,N]
    ·rw [if_pos U,if_neg N] at L;cases L
   ·by_cases N:G.getD j 0=0
    ·rw [if_neg U,if_pos N] at L;cases L
    ·have f1:m.getD j 0=-2:=by
      rw [d1];by_cases u:degF rs c s≠0/\lab s=lab t
      ·rw [d1,if_pos u] at U;exact absurd rfl U
      ·rw [if_neg u]
     have f2:G.getD j 0=-2:=by
      rw [d2];by_cases u:degF rs Y s≠0/\B s=B t
      ·rw [d2,if_pos u] at N;exact absurd rfl N
      ·rw [if_neg u]
     rw [f1,f2]
 refine List.ext_getElem (by rw [hl,O]) λj h1 h2=>?_;have:=at_ j (by lia)
 rwa [XA h1,XA h2] at this
noncomputable abbrev KI:=List (List Int×Int)
noncomputable def XF (ks:KI)(m:List Int):Option Int:=(ks.find? λp=>decide (p.1=m)).map (·.2)
noncomputable def ZbP (ks:KI)(m:List Int)(n:Int):KI:=if (ks.any λp=>decide (p.1=m))=true then ks.map (λp=>if p.1=m then (p.1,n) else p) else ks++[(m,n)]
theorem inl_inj {a b:List Int}:a.map (Sum.inl:Int->Key)=b.map Sum.inl↔a=b:=by
 refine ⟨λh=>?_,λh=>by rw [h]⟩;have:=Ybi (List.map λx:Key=>match x with | .inl i=>i | .inr _=>0) h
 rwa [Ydy,Ydy,show ((λx:Key=>match x with | .inl i=>i | .inr _=>0)∘(Sum.inl:Int->Key))=id from rfl,List.map_id,List.map_id] at this
theorem Wb (ks:KI)(m:List Int):OC (ks.map kvI) (m.map Sum.inl)=(XF ks m).map V.int:=by
 induction ks with
 | nil=>rfl
 | cons p ks ih=>
  unfold OC XF at *;rw [Ybe,Ydb,Ydb];by_cases h:p.1=m
  ·rw [show decide ((kvI p).1=m.map Sum.inl)=true from Yae (by show p.1.map Sum.inl=_;rw [h]),Yae h]
   rfl
  ·rw [show decide ((kvI p).1=m.map Sum.inl)=false from Yai (λz=>h (inl_inj.mp z)),Yai h];exact ih
theorem XG (ks:KI)(m:List Int)(n:Int):UN (ks.map kvI) (m.map Sum.inl) (.int n)=(ZbP ks m n).map kvI:=by
 unfold UN ZbP;have e:((ks.map kvI).any λq=>decide (q.1=m.map Sum.inl))=ks.any λp=>decide (p.1=m):=by
  rw [List.any_map]
  congr 1
  funext p
  exact decide_eq_decide.mpr inl_inj
 rw [e];by_cases h:(ks.any λp=>decide (p.1=m))=true
 ·rw [if_pos h,if_pos h,Ydy,Ydy];refine List.map_congr_left λp _=>?_;show (if p.1.map Sum.inl=m.map Sum.inl then (p.1.map Sum.inl,V.int n) else kvI p)=kvI (if p.1=m then (p.1,n) else p);by_cases z:p.1=m
  ·rw [if_pos z,if_pos (inl_inj.mpr z)]
  ·rw [if_neg z,if_neg (λy=>z (inl_inj.mp y))]
 ·rw [if_neg h,if_neg h,Yan]
  rfl
noncomputable def XH (ks:KI):List (List Int):=ks.flatMap λp=>List.replicate p.2.toNat p.1
structure Rep (ks:KI)(R:List (List Int)):Prop where
 nd:(ks.map (·.1)).Nodup
 pos:∀p∈ks,0<p.2
 pm:(XH ks).Perm R
theorem Rep.perm {ks:KI}{R q:List (List Int)}(h:Rep ks R)(p:R.Perm q):Rep ks q:=⟨h.nd,h.pos,h.pm.trans p⟩
theorem Rep.nil:Rep [] []:=⟨List.nodup_nil,by simp,.refl _⟩
theorem Yz (a b:KI):XH (a++b)=XH a++XH b:=List.flatMap_append
theorem Og (p:List Int×Int)(a:KI):XH (p::a)=List.replicate p.2.toNat p.1++XH a:=List.flatMap_cons
theorem Rep.put {ks:KI}{R:List (List Int)}(h:Rep ks R){m:List Int}{n:Int}(U:0<n):Rep (ZbP ks m ((XF ks m).getD 0+n)) (R++List.replicate n.toNat m):=by
 by_cases c:(ks.any λp=>decide (p.1=m))=true
 ·obtain ⟨p,L,e⟩:=List.any_eq_true.mp c;have e:p.1=m:=Ybp e;obtain ⟨a,b,rfl⟩:=List.append_of_mem L;have N:=h.nd;rw [Yan,Ybe,Yef,List.nodup_cons] at N;obtain ⟨na,⟨nb,F⟩,D⟩:=N;have ha:∀q∈a,q.1≠m:=λq B z=>D q.1 (Yba.mpr ⟨q,B,rfl⟩) p.1 (Ybk ..) (z.trans e.symm);have Y:∀q∈b,q.1≠m:=λq B z=>nb (by rw [e,<-z];exact Yba.mpr ⟨q,B,rfl⟩);have g:XF (a++p::b) m=some p.2:=by
   unfold XF;rw [List.find?_append,List.find?_eq_none.mpr (λq B=>by simpa using ha q B),Option.none_or,Ydb,Yae e]
   rfl
  have Z:a.map (λq=>if q.1=m then (q.1,p.2+n) else q)=a:=by
   conv=>rhs;rw [<-List.map_id a]
   exact List.map_congr_left λq B=>if_neg (ha q B)
  have eb:b.map (λq=>if q.1=m then (q.1,p.2+n) else q)=b:=by
   conv=>rhs;rw [<-List.map_id b]
   exact List.map_congr_left λq B=>if_neg (Y q B)
  have pp:=h.pos p L;rw [g];show Rep (ZbP _ m (p.2+n)) _;unfold ZbP;rw [if_pos c,Yan,Ybe,Z,eb,if_pos e];refine ⟨?_,λq B=>?_,?_⟩
  ·rw [Yan,Ybe,Yef,List.nodup_cons];exact ⟨na,⟨nb,F⟩,D⟩
  ·rcases Yap.mp B with B | B
   ·exact h.pos q (Yei _ B)
   ·rcases Yas.mp B with rfl | B
    ·show 0<p.2+n
     lia
    ·exact h.pos q (Ycf _ (Ybr _ B))
  ·have:=h.pm;rw [Yz,Og] at this ⊢;refine List.Perm.trans ?_ (this.append_right _);show (XH a++(List.replicate (p.2+n).toNat p.1++XH b)).Perm _;rw [show (p.2+n).toNat=p.2.toNat+n.toNat by lia,<-List.replicate_append_replicate,Ybl,Ybl,Ybl,e];exact Ycz _ (Ycz _ List.perm_append_comm)
 ·have O:∀q∈ks,q.1≠m:=λq B z=>c (List.any_eq_true.mpr ⟨q,B,Yae z⟩);have g:XF ks m=none:=by
   unfold XF;rw [List.find?_eq_none.mpr (λq B=>by simpa using O q B)]
   rfl
  rw [g];show Rep (ZbP ks m (0+n)) _;rw [Int.zero_add];unfold ZbP;rw [if_neg c];refine ⟨?_,λq B=>?_,?_⟩
  ·rw [Yan,Yef];refine ⟨h.nd,by simp,λx hx y G z=>?_⟩;obtain ⟨q,B,rfl⟩:=Yba.mp hx;have G:y=m:=by simpa using G
   exact O q B (z.trans G)
  ·rcases Yap.mp B with B | B
   ·exact h.pos q B
   ·rw [Ybo.mp B];exact U
  ·rw [Yz,Og];exact h.pm.append (by show (List.replicate n.toNat m++[]).Perm _;rw [Ycg])
theorem Rep.mem {ks:KI}{R:List (List Int)}(h:Rep ks R){p:List Int×Int}(q:p∈ks):p.1∈R:=by
 refine h.pm.mem_iff.mp ?_;unfold XH;have:=h.pos p q;exact List.mem_flatMap.mpr ⟨p,q,List.mem_replicate.mpr ⟨by lia,rfl⟩⟩
theorem Rep.len {ks:KI}{R:List (List Int)}(h:Rep ks R):ks.length<=R.length:=by
 rw [<-h.pm.length_eq];have:∀ks:KI,(∀p∈ks,0<p.2)->ks.length<=(XH ks).length:=by
  intro ks
  induction ks with
  | nil=>intro _;exact Yaf _
  | cons p ks ih=>
   intro B;have h1:=B p (Ybk ..);have h2:=ih λq D=>B q (Ybr _ D);rw [Og,Yaq,List.length_replicate,Yck]
   lia
 exact this ks h.pos
theorem WS {ks:KI}(D:(ks.map (·.1)).Nodup){p:List Int×Int}(B:p∈ks):(XH ks).count p.1=p.2.toNat:=by
 induction ks with
 | nil=>cases B
 | cons q ks ih=>
  rw [Ybe,List.nodup_cons] at D;rw [Og,List.count_append];rcases Yas.mp B with rfl | B
  ·rw [List.count_replicate_self,List.count_eq_zero.mpr,Nat.add_zero];intro F;obtain ⟨r,L,F⟩:=List.mem_flatMap.mp F;have:=(List.mem_replicate.mp F).2;exact D.1 (by rw [this];exact Yba.mpr ⟨r,L,rfl⟩)
  ·have G:q.1≠p.1:=λz=>D.1 (by rw [z];exact Yba.mpr ⟨p,B,rfl⟩);rw [List.count_replicate,if_neg (by simpa using G),Ydc,ih D.2 B]
theorem Rep.sub {a b:KI}{R:List (List Int)}(ha:Rep a R)(B:Rep b R){p:List Int×Int}(D:p∈a):p∈b:=by
 have F:=B.pm.mem_iff.mpr (ha.mem D);obtain ⟨q,G,F⟩:=List.mem_flatMap.mp F;have e:p.1=q.1:=(List.mem_replicate.mp F).2;have L:=WS ha.nd D;have N:=WS B.nd G;rw [<-e,B.pm.count_eq,<-ha.pm.count_eq,L] at N;have h1:=ha.pos p D;have h2:=B.pos q G;have:p=q:=Prod.ext e (by lia);rw [this];exact G
theorem YA {ks:KI}(q:(ks.map (·.1)).Nodup):ks.Nodup:=by
 unfold List.Nodup at *;rw [Ycl] at q;exact q.imp λh z=>h (by rw [z])
theorem Rep.same {a b:KI}{R:List (List Int)}(ha:Rep a R)(q:Rep b R):a.Perm b:=(List.perm_ext_iff_of_nodup (YA ha.nd) (YA q.nd)).mpr λp=>⟨ha.sub q,q.sub ha⟩
theorem Rep.mapW {ks:KI}{R:List (List Int)}(h:Rep ks R){W:List Int->List Int}(inj:∀x∈R,∀y∈R,W x=W y->x=y):Rep (ks.map λp=>(W p.1,p.2)) (R.map W):=by
 refine ⟨?_,λp B=>?_,?_⟩
 ·rw [Ydy];have G:=h.nd;unfold List.Nodup at *;rw [Ycl] at G ⊢;exact G.imp_of_mem λ{p q} B D F z=>F (inj _ (h.mem B) _ (h.mem D) z)
 ·obtain ⟨q,D,rfl⟩:=Yba.mp B;exact h.pos q D
 ·have e:XH (ks.map λp=>(W p.1,p.2))=(XH ks).map W:=by
   unfold XH;rw [List.flatMap_map,List.map_flatMap]
   congr 1
   funext p
   show List.replicate p.2.toNat (W p.1)=_;rw [List.map_replicate]
  rw [e];exact h.pm.map W
theorem Vq:∀{l q:KI},l.Perm q->l.Pairwise (λa b=>Ul b a=false)->q.Pairwise (λa b=>Ul b a=false)->l=q
 | [],q,p,_,_=>(List.nil_perm.mp p).symm
 | x::l,[],p,_,_=>absurd p.length_eq (by simp)
 | x::l,y::q,p,h1,h2=>by
  obtain ⟨a1,a2⟩:=Ydn.mp h1;obtain ⟨B,D⟩:=Ydn.mp h2;have e:x=y:=by
   rcases Yas.mp (p.mem_iff.mp (Ybk ..)) with z | z
   ·exact z
   ·rcases Yas.mp (p.mem_iff.mpr (Ybk ..)) with u | u
    ·exact u.symm
    ·exact ZaA (B x z) (a1 y u) |> λh=>h
  subst e;rw [Vq (List.perm_cons x |>.mp p) a2 D]
theorem YB {α β:Type}(l:List α)(f g:α->List β):(l.flatMap f++l.flatMap g).Perm (l.flatMap λx=>f x++g x):=by
 induction l with
 | nil=>exact .refl _
 | cons x l ih=>
  rw [List.flatMap_cons,List.flatMap_cons,List.flatMap_cons,Ybl,Ybl];refine Ycz _ ?_;refine List.Perm.trans ?_ (Ycz _ ih);rw [<-Ybl,<-Ybl];exact List.perm_append_comm.append_right _
theorem ZbQ {α β:Type}(n:Nat)(x:α)(f:α->List β):((List.replicate n x).flatMap f).Perm ((f x).flatMap λy=>List.replicate n y):=by
 induction n with
 | zero=>simp
 | succ n ih=>
  rw [Yds,List.flatMap_cons];refine (Ycz _ ih).trans ?_;have h:=YB (f x) (λy=>[y]) (λy=>List.replicate n y);rw [List.flatMap_singleton'] at h;exact h
noncomputable def fS (rs:List (Int×Int))(s t:Int)(j:Nat)(m:List Int):List (List Int):=(V8 rs s t m j false).toList++(V8 rs s t m j true).toList
noncomputable def RJ (rs:List (Int×Int))(k:Nat)(s t:Int):Nat->List (List Int)
 | 0=>(Jy rs k s t).toList
 | j+1=>(RJ rs k s t j).flatMap (fS rs s t j)
theorem ZbR (rs:List (Int×Int))(s t:Int)(j:Nat)(ks:KI):(ks.flatMap λp=>(fS rs s t j p.1).flatMap λm=>List.replicate p.2.toNat m).Perm ((XH ks).flatMap (fS rs s t j)):=by
 induction ks with
 | nil=>exact .refl _
 | cons p ks ih=>
  rw [Og,List.flatMap_cons,List.flatMap_append];exact (ZbQ _ _ _).symm.append ih
theorem ZaK {rs:List (Int×Int)}{k:Nat}{s t:Int}{c:List Int}{n:Int}:∀j:Nat,(j:Int)<=n->J4 rs k s t (c++[n]) j=J4 rs k s t c j
 | 0,_=>rfl
 | j+1,hj=>by
  show (J4 rs k s t (c++[n]) j).bind _=(J4 rs k s t c j).bind _;rw [ZaK j (by lia)]
  congr 1
  funext m
  congr 1
  refine decide_eq_decide.mpr ⟨λz=>?_,λz=>Yei _ z⟩;rcases Yap.mp z with z | z
  ·exact z
  ·have:(j:Int)=n:=by simpa using z
   lia
theorem YC {rs:List (Int×Int)}{k:Nat}{s t:Int}{c:List Int}{j:Nat}(B:∀q∈c,q<(j:Int)):J4 rs k s t c (j+1)=(J4 rs k s t c j).bind (λm=>V8 rs s t m j false)/\J4 rs k s t (c++[(j:Int)]) (j+1)=(J4 rs k s t c j).bind (λm=>V8 rs s t m j true):=by
 constructor
 ·show (J4 rs k s t c j).bind (λm=>V8 rs s t m j (decide ((j:Int)∈c)))=_;rw [Yai (λz=>by have:=B _ z;lia)]
 ·show (J4 rs k s t (c++[(j:Int)]) j).bind (λm=>V8 rs s t m j (decide ((j:Int)∈c++[(j:Int)])))=_;rw [ZaK j (Int.le_refl _),Yae (Ycf _ (Ybo.mpr rfl))]
theorem Zco {rs:List (Int×Int)}{k:Nat}{s t:Int}:∀{j:Nat}{m:List Int},m∈RJ rs k s t j->∃c,Valid c j/\J4 rs k s t c j=some m
 | 0,m,h=>⟨[],⟨List.Pairwise.nil,by simp⟩,by
  have h:m∈(Jy rs k s t).toList:=h;rw [Option.mem_toList] at h;exact h⟩
 | j+1,m,h=>by
  obtain ⟨m0,h0,h1⟩:=List.mem_flatMap.mp h;obtain ⟨c,V,e⟩:=Zco h0;have D:=YC (rs:=rs) (k:=k) (s:=s) (t:=t) (c:=c) (j:=j) λq B=>(V.2 q B).2;rw [e] at D;rcases Yap.mp h1 with h1 | h1
  ·rw [Option.mem_toList] at h1;exact ⟨c,⟨V.1,λq B=>by have:=V.2 q B;lia⟩,D.1.trans h1⟩
  ·rw [Option.mem_toList] at h1;refine ⟨c++[(j:Int)],⟨Ybs.mpr ⟨V.1,List.pairwise_singleton _ _,λa ha b F=>?_⟩,λq B=>?_⟩,D.2.trans h1⟩
   ·have:=(V.2 a ha).2;have F:b=(j:Int):=by simpa using F
    lia
   ·rcases Yap.mp B with B | B
    ·have:=V.2 q B;lia
    ·have:q=(j:Int):=by simpa using B
     lia
structure LsJ (rs:List (Int×Int))(k:Nat)(s t:Int)(j:Nat)(cs:List (List Int)):Prop where
 va:∀c∈cs,Valid c j/\c.length<=j
 ru:∀c∈cs,∃m,J4 rs k s t c j=some m
 pm:(cs.filterMap λc=>J4 rs k s t c j).Perm (RJ rs k s t j)
theorem ZaL {α β:Type}(l:List α)(f:α->Option β):l.filterMap f=l.flatMap λx=>(f x).toList:=by
 induction l with
 | nil=>rfl
 | cons x l ih=>
  rw [List.filterMap_cons,List.flatMap_cons,<-ih];cases f x <;> rfl
theorem Wc {α β:Type}{f g:α->Option β}:∀{l:List α},(∀x∈l,f x=g x)->l.filterMap f=l.filterMap g
 | [],_=>rfl
 | x::l,h=>by
  rw [List.filterMap_cons,List.filterMap_cons,h x (Ybk ..),Wc λy hy=>h y (Ybr _ hy)]
theorem LsJ.next {rs:List (Int×Int)}{k:Nat}{s t:Int}{j:Nat}{cs:List (List Int)}(h:LsJ rs k s t j cs):LsJ rs k s t (j+1) ((cs++cs.map (·++[(j:Int)])).filter λc=>(J4 rs k s t c (j+1)).isSome):=by
 have F:∀c∈cs,_:=λc B=>YC (rs:=rs) (k:=k) (s:=s) (t:=t) (c:=c) (j:=j) λq D=>((h.va c B).1.2 q D).2;refine ⟨λc B=>?_,λc B=>?_,?_⟩
 ·obtain ⟨B,_⟩:=Ycb.mp B;rcases Yap.mp B with B | B
  ·obtain ⟨V,l⟩:=h.va c B;exact ⟨⟨V.1,λq D=>by have:=V.2 q D;lia⟩,by lia⟩
  ·obtain ⟨d,L,rfl⟩:=Yba.mp B;obtain ⟨V,l⟩:=h.va d L;refine ⟨⟨Ybs.mpr ⟨V.1,List.pairwise_singleton _ _,λa ha b G=>?_⟩,λq D=>?_⟩,by rw [Yaq];show d.length+1<=j+1;lia⟩
   ·have:=(V.2 a ha).2;have G:b=(j:Int):=by simpa using G
    lia
   ·rcases Yap.mp D with D | D
    ·have:=V.2 q D;lia
    ·have:q=(j:Int):=by simpa using D
     lia
 ·obtain ⟨_,N⟩:=Ycb.mp B;exact Yep.mp N
 ·have O:∀l:List (List Int),(l.filter λc=>(J4 rs k s t c (j+1)).isSome).filterMap (λc=>J4 rs k s t c (j+1))=l.filterMap λc=>J4 rs k s t c (j+1):=by
   intro l;rw [List.filterMap_filter]
   congr 1
   funext c
   cases J4 rs k s t c (j+1) <;> rfl
  rw [O,List.filterMap_append,List.filterMap_map];have U:cs.filterMap (λc=>J4 rs k s t c (j+1))=(cs.filterMap λc=>J4 rs k s t c j).flatMap λm=>(V8 rs s t m j false).toList:=by
   rw [<-ZaL,List.filterMap_filterMap];exact Wc λc B=>(F c B).1
  have Y:cs.filterMap ((λc=>J4 rs k s t c (j+1))∘λc=>c++[(j:Int)])=(cs.filterMap λc=>J4 rs k s t c j).flatMap λm=>(V8 rs s t m j true).toList:=by
   rw [<-ZaL,List.filterMap_filterMap];exact Wc λc B=>(F c B).2
  rw [U,Y];exact (YB _ _ _).trans (h.pm.flatMap_right _)
noncomputable def SameX (d:Addr)(H H':Hp):Prop:=∀a u,a≠d->H a=some u->H' a=some u
theorem SameX.of {d:Addr}{H H':Hp}(s:Same H H'):SameX d H H':=λa u _ e=>s a u e
theorem SameX.trans {d:Addr}{H H' q:Hp}(a:SameX d H H')(b:SameX d H' q):SameX d H q:=λc u n e=>b c u n (a c u n e)
theorem ZaM {ks:KI}(B:(ks.map (·.1)).Nodup){p:List Int×Int}(D:p∈ks):XF ks p.1=some p.2:=by
 obtain ⟨a,b,rfl⟩:=List.append_of_mem D;rw [Yan,Ybe,Yef] at B;unfold XF;rw [List.find?_append,List.find?_eq_none.mpr,Option.none_or,Ydb,Yae rfl]
 ·rfl
 ·intro q F;have:=B.2.2 q.1 (Yba.mpr ⟨q,F,rfl⟩) p.1 (Ybk ..);simpa using this
noncomputable def Zgr:Sp:=λvs H Q _=>∃(d e:Addr)(x:V)(ks:KI)(rs:List (Int×Int))(s t:Int)(j:Nat)(R:List (List Int)),vs=[.ref d,x,.ref e]/\H d=some (.dT (ks.map kvI))/\StepAt H x rs s t j/\EndD H e s t/\(∀p∈ks,Zfz rs j p.1)/\Rep ks R/\R.length<=2 ^ 21 /\
 ∀(q:Addr)(ks':KI)(H':Hp),SameX d H H'->H q=none->H' q=some (.dT (ks'.map kvI))->Rep ks' (R.flatMap (fS rs s t j))->Q (.ref q) H'
theorem scBs:Gu ["numbers", "step", "ends", "ahead", "known", "chosen", "marks"] ["numbers", "step", "ends"] (Ge sBs):=⟨rfl,rfl,rfl,by decide +kernel,rfl,by decide +kernel,by decide +kernel⟩
theorem ZeD (rs:List (Int×Int))(s t:Int)(j:Nat)(x:List Int):(fS rs s t j x).length<=2:=by
 unfold fS;rw [Yaq];cases V8 rs s t x j false <;> cases V8 rs s t x j true <;> simp
noncomputable def Zc (rs:List (Int×Int))(s t:Int)(j c:Nat)(p:List Int×Int):List (List Int):=([false,true].take c).flatMap λq=>(V8 rs s t p.1 j q).toList.flatMap λm=>List.replicate p.2.toNat m
theorem ZbS (rs:List (Int×Int))(s t:Int)(j:Nat)(p:List Int×Int):Zc rs s t j 2 p=(fS rs s t j p.1).flatMap λm=>List.replicate p.2.toNat m:=by
 unfold Zc fS;rw [List.flatMap_append];simp
noncomputable def Zd (rs:List (Int×Int))(s t:Int)(j:Nat)(ks:KI):List (List Int):=ks.flatMap λp=>(fS rs s t j p.1).flatMap λm=>List.replicate p.2.toNat m
theorem WT {rs:List (Int×Int)}{s t:Int}{j:Nat}{ks:KI}{R:List (List Int)}(h:Rep ks R):(Zd rs s t j ks).Perm (R.flatMap (fS rs s t j)):=(ZbR rs s t j ks).trans (h.pm.flatMap_right _)
theorem WU (rs:List (Int×Int))(s t:Int)(j:Nat)(ks:KI)(p:List Int×Int):Zd rs s t j (ks++[p])=Zd rs s t j ks++Zc rs s t j 2 p:=by
 unfold Zd;rw [List.flatMap_append,ZbS];simp
theorem XI (rs:List (Int×Int))(s t:Int)(j:Nat)(l:List (List Int)):(l.flatMap (fS rs s t j)).length<=2 * l.length:=by
 induction l with
 | nil=>exact Yaf _
 | cons x l ih=>
  rw [List.flatMap_cons,Yaq,Yck];have:=ZeD rs s t j x
  lia
theorem ZaN {rs:List (Int×Int)}{s t:Int}{j:Nat}{ks:KI}{R:List (List Int)}(h:Rep ks R)(i:Nat)(c:Nat)(p:List Int×Int)(q:ks[i]?=some p)(B:c<=2):(Zd rs s t j (ks.take i)++Zc rs s t j c p).length<=2 * R.length:=by
 have h1:(Zd rs s t j ks).length<=2 * R.length:=by
  rw [(WT h).length_eq];exact XI rs s t j R
 have h2:(Zc rs s t j c p).length<=(Zc rs s t j 2 p).length:=by
  unfold Zc;have:([false,true].take 2)=([false,true].take 2).take c++([false,true].take 2).drop c:=(Yde ..).symm;rw [this,List.flatMap_append,Yaq,List.take_take,Yda B];exact Nat.le_add_right ..
 have D:ks=ks.take (i+1)++ks.drop (i+1):=(Yde ..).symm;have F:ks.take (i+1)=ks.take i++[p]:=by rw [Ybt,q];rfl
 rw [D,F] at h1;have G:Zd rs s t j (ks.take i++[p]++ks.drop (i+1))=Zd rs s t j (ks.take i++[p])++Zd rs s t j (ks.drop (i+1)):=List.flatMap_append;rw [G,Yaq,WU,Yaq] at h1;rw [Yaq]
 lia
theorem ZfR {f Y:Addr}{fd D:FuncData}(F:Fun K "behind_step" "behind_step" sBs f fd)(aj:Fun K "decided" "decided" sDe Y D)(ak:Binds K D ["marks", "step", "ends", "chosen"] [])(al:mg "decided" = some (.ref Y))(am:GV P w K mg base CX0 3 Y D ["marks", "step", "ends", "chosen"] Zgh) :
  GV P w K mg base CX0 4 f fd ["numbers", "step", "ends"] Zgr:=by
 refine F.ok scBs (λvs H Q E h=>?_) (λan A ao s0 H vs Q E hr h=>?_)
 ·obtain ⟨_,_,_,_,_,_,_,_,_,rfl,_⟩:=h
  rfl
 ·obtain ⟨d,e,x,ks,rs,s,t,j,R,rfl,hd,hx,he,ap,rep,hR,q⟩:=h;have Z:(A.deeper (PyProof.Rows.envOfC "behind_step" (Ge sBs) s0.heap.objs.size f an)).units+1<cLine:=by have:=hr.un;lia
  have ax:=Ybf.symm;have aq:2 * R.length<=4194304:=by have:2 ^ 21=2097152:=rfl;lia
  refine ⟨_,(@Gc _ _ _ _ _ (@Go _ _ 3 _ _ _ _ scBs.nd rfl (Or.inl rfl) VD rfl (by first | exact .inl rfl | exact .inr rfl))
    (@Gc _ _ _ _ _ (@Jf _ _ _ _ _ _ _ _ Ybq rfl (Yr (pv 0)) (Gj (i:=4) scBs.nd rfl (Or.inl rfl))
    (@Gg _ _ _ (@Jf _ _ _ _ _ _ _ _ Ybq rfl (ZcY K (@JE _ _ _ _ _ (@Ga _ _ _ _ _ Uu (@Ga _ _ _ _ _ Uu Gf rfl) rfl))) (Gj (i:=5) scBs.nd rfl (Or.inl rfl))
    (@Gc _ _ _ _ _ (@Go _ _ 6 _ _ _ _ scBs.nd rfl (Or.inl rfl) (@Gk _ _ _ _ _ _ _ _ _ _ _ _ _ _ _ _ am (hr.mono (by decide)) rfl al aj.kp ak .nil GU (@Ga _ _ _ _ _ (pv 4) (@Ga _ _ _ _ _ (pv 1) (@Ga _ _ _ _ _ (pv 2) (@Ga _ _ _ _ _ (pv 5) Gf rfl) rfl) rfl) rfl) (by decide) rfl rfl) rfl (by first | exact .inl rfl | exact .inr rfl))
    (@Gg _ _ _ (@G4 _ _ _ _ _ _ _ _ (Gm Zcx (pv 6) Uo (Gx _)) (@Gg _ _ _ (UO Z (pv 3) (pv 6) (@Gw _ _ _ _ _ _ _ _ G0 (VE Z (pv 3) (pv 6) Gd ⟨rfl,rfl,rfl,rfl⟩) (Xk Z (pv 0) (pv 4) (λ_ _=>rfl))) rfl)) Gz))) (by intro _;rfl))) (by intro _;rfl))
    (@Gg _ _ _ (@Gy _ _ _ _ (pv 3))))),?_⟩
  refine λa ha=>?_;have ab:a≠d:=λz=>by rw [z,hd] at ha;cases ha
  have s1:Same H (upd H a (.dT [])):=Same.new ha;have e1:upd H a (.dT []) a=some (.dT (([]:KI).map kvI)):=Gb;have ac:=s1 _ _ hd;generalize upd H a (.dT [])=H1 at s1 e1 ac ⊢;dsimp only [Jd];refine ⟨_,rfl,d,_,rfl,.inl ⟨ac,λo=>?_⟩⟩;have s2:SameX d H1 (upd H1 d (.frz o (.dT (ks.map kvI)))):=λb u n y=>Gv y n;have ad:upd H1 d (.frz o (.dT (ks.map kvI))) d=some (.frz o (.dT (ks.map kvI))):=Gb;have e2:upd H1 d (.frz o (.dT (ks.map kvI))) a=some (.dT (([]:KI).map kvI)):=Gv e1 ab;generalize upd H1 d (.frz o (.dT (ks.map kvI)))=H2 at s2 ad e2 ⊢;have S2:SameX d H H2:=(SameX.of s1).trans s2;have ar:∀{H':Hp},SameX d H H'->H' d=some (.frz o (.dT (ks.map kvI)))->EndD H' e s t:=λ{H'} B _=>by
   obtain ⟨ne,o',eo⟩:=he;exact ⟨ne,o',B e _ (λz=>by rw [z,hd] at eo;cases eo) eo⟩
  have as:∀{H':Hp},SameX d H H'->StepAt H' x rs s t j:=λ{H'} B=>by
   obtain ⟨T,r,lv,nd,ex,g1,g2,g3,g4⟩:=hx.ex;have n:∀{b u},H b=some u->(∀kvs,u≠.dT kvs)->b≠d:=λ{b u} y z y2=>by rw [y2,hd] at y;cases y;exact z _ rfl
   exact ⟨T,r,lv,nd,ex,B _ _ (n g1 (λ_ z=>by cases z)) g1,B _ _ (n g2 (λ_ z=>by cases z)) g2,B _ _ (n g3 (λ_ z=>by cases z)) g3,B _ _ (n g4 (λ_ z=>by cases z)) g4⟩
  refine Zau (a:=d) (o:=o) (kvs:=ks.map kvI) (λi σ H3=>∃(v4 v5 v6:Option V)(acc:KI),σ=[some (.ref d),some x,some (.ref e),some (.ref a),v4,v5,v6]/\SameX d H H3/\H3 d=some (.frz o (.dT (ks.map kvI)))/\H3 a=some (.dT (acc.map kvI))/\Rep acc (Zd rs s t j (ks.take i)))
   ⟨none,none,none,[],rfl,S2,ad,e2,Rep.nil⟩ (by rintro i σ H3 _ ⟨_,_,_,_,_,_,y,_⟩;exact y) ?_ ?_
  ·rintro i kk v b σ H3 ae hb ⟨v4,v5,v6,acc,rfl,s3,af,e3,L⟩;rw [Yaw] at ae;obtain ⟨p,hp,ep⟩:=Ydk.mp ae;cases ep;have aa:=Ybb hp;rw [UX] at hb;refine ⟨JS,λT hT=>?_⟩;obtain ⟨H4,q_,s4,e4⟩:=nwU (o:=.tup [.bl false,.bl true]) hT;rw [q_];refine ⟨T,rfl,⟨_,SqT.of e4⟩,?_⟩;refine Zcu (K:=K) (a:=T) (xs:=[.bl false,.bl true]) (λc σ O=>c<=2/\∃(v5 v6:Option V)(acc:KI),σ=[some (.ref d),some x,some (.ref e),some (.ref a),some (.ref b),v5,v6]/\SameX a H4 O/\SameX d H O/\O d=some (.frz o (.dT (ks.map kvI)))/\O a=some (.dT (acc.map kvI))/\Rep acc (Zd rs s t j (ks.take i)++Zc rs s t j c p))
    ⟨by decide,_,_,acc,rfl,λ_ _ _ y=>y,s3.trans (SameX.of s4),s4 _ _ af,s4 _ _ e3,by simpa [Zc] using L⟩ (by rintro c σ O _ ⟨_,_,_,_,_,B,_⟩;exact SqT.of (B _ _ (Ow e4 (s4 _ _ e3) (λz=>by cases z)) e4)) ?_ ?_
   ·rintro c y σ O hy ⟨ay,v5,v6,acc,rfl,B,s5,G,e5,L⟩;have az:c<2:=(Yay.mp hy).1;obtain ⟨ch,rfl,au⟩:∃ch:Bool,y=.bl ch/\[false,true][c]?=some ch:=by
     rcases (by lia:c=0\/c=1) with rfl | rfl
     ·cases hy;exact ⟨_,rfl,rfl⟩
     ·cases hy;exact ⟨_,rfl,rfl⟩
    have ag:O b=some (.tup (p.1.map V.int)):=B _ _ (Ow (s4 _ _ hb) (s4 _ _ e3) (λz=>by cases z)) (s4 _ _ hb);have U:Zc rs s t j (c+1) p=Zc rs s t j c p++(V8 rs s t p.1 j ch).toList.flatMap λm=>List.replicate p.2.toNat m:=by
     unfold Zc;rw [Ybt,au,List.flatMap_append];simp
    refine ⟨_,rfl,_,rfl,_,rfl,_,rfl,b,e,x,p.1,rs,s,t,j,ch,rfl,ag,as s5,ar s5 G,ap p aa,λH6 N z=>?_,λT2 m' H6 N eT z=>?_⟩
    ·refine ⟨_,rfl,rfl,_,rfl,G5 ?_⟩;exact ⟨by lia,_,_,acc,rfl,B.trans (SameX.of N),s5.trans (SameX.of N),N _ _ G,N _ _ e5,by rw [U,z];simpa using L⟩
    ·refine ⟨_,rfl,rfl,_,rfl,?_⟩;rw [Yai (by intro z;cases z)];refine GY ?_;have pp:=rep.pos p aa;have ah:=N _ _ G;have e6:=N _ _ e5;have ai:H6 T2=some (.tup ((m'.map (Sum.inl:Int->Key)).map kV)):=by rw [UX];exact eT
     have av:H6 b=some (.tup ((p.1.map (Sum.inl:Int->Key)).map kV)):=by rw [UX];exact N _ _ ag
     have vb:OC (ks.map kvI) (p.1.map Sum.inl)=some (.int p.2):=by rw [Wb,ZaM rep.nd aa];rfl
     have a0:acc.length<=4194304:=Ybc (Ybc L.len (ZaN rep i c p hp (by lia))) aq;have ev:(OC (acc.map kvI) (m'.map Sum.inl)).getD (.int 0)=.int ((XF acc m').getD 0):=by rw [Wb];cases XF acc m' <;> rfl
     refine ⟨_,rfl,a,rfl,.inr ⟨_,.inl e6⟩,_,rfl,_,DGet.t e6 ai,?_⟩;rw [ev];have dg:DGet H6 d (.ref b) (some (.int p.2)):=by rw [<-vb];exact Or.inr ⟨_,_,b,.inr ⟨o,ah⟩,rfl,av,rfl⟩
     refine ⟨_,rfl,_,rfl,d,_,rfl,dg,_,_,rfl,rfl,?_⟩;refine ⟨_,rfl,_,rfl,a,_,rfl,DPut.t e6 ai (by rw [Yab];lia),?_⟩;rw [XG];have aw:d≠a:=Ne.symm ab;refine ⟨by lia,_,_,ZbP acc m' ((XF acc m').getD 0+p.2),rfl,(B.trans (SameX.of N)).trans (λc' u n y=>Gv y n),?_,Gv ah aw,Gb,?_⟩
     ·intro c' u n y;have y6:=N _ _ (s5 c' u n y);exact Gv y6 (λz=>by rw [z] at y;rw [ha] at y;cases y)
     ·have:=L.put (m:=m') (n:=p.2) pp;rw [U,z,<-Ybl];simpa using this
   ·rintro σ O ⟨_,v5,v6,acc,rfl,B,s5,G,e5,L⟩;refine ⟨_,_,_,acc,rfl,s5,G,e5,?_⟩;rw [Ybt,hp];show Rep acc (Zd rs s t j (ks.take i++[p]));rw [WU];exact L
  ·rintro σ H3 ⟨v4,v5,v6,acc,rfl,s3,af,e3,L⟩;rw [Yab,Ybz] at L;exact ⟨_,rfl,q a acc H3 s3 ha e3 (L.perm (WT rep))⟩
theorem ZbT {rs:List (Int×Int)}{k:Nat}{s t:Int}{j:Nat}{m:List Int}(B:s≠t)(D:0<=s/\s<(k:Int))(F:0<=t/\t<(k:Int))(g:GX (k:Int) rs)(G:j<=rs.length)(h:m∈RJ rs k s t j):∃c,Valid c j/\J4 rs k s t c j=some m/\ZaE rs k s t j c m:=by
 obtain ⟨c,V,e⟩:=Zco h;refine ⟨c,V,e,?_⟩;rcases XC B D.1 D.2 F.1 F.2 g.2.2.2.1 G V.2 V.1 with ⟨N,q,L⟩ | ⟨q,_⟩
 ·rw [e] at q;cases q;exact L
 ·rw [e] at q;cases q
noncomputable def Zgs:Sp:=λvs H Q _=>∃(q l e:Addr)(k n:Nat)(xs:List V)(rs:List (Int×Int))(s t:Int),vs=[.ref q,.ref e,.ref e,.int (n:Int)]/\WebAt H q l (k:Int) xs rs/\GX (k:Int) rs/\EndD H e s t/\(0<=s/\s<(k:Int))/\(0<=t/\t<(k:Int))/\n<=rs.length/\(∀j,j<=n->(RJ rs k s t j).length<=1000) /\
 ∀(d:Addr)(ks:KI)(H':Hp),Same H H'->H d=none->H' d=some (.dT (ks.map kvI))->Rep ks (RJ rs k s t n)->Q (.ref d) H'
theorem scNb:Gu ["web", "ends", "needed", "i", "numbers", "marks", "step"] ["web", "ends", "needed", "i"] (Ge sNb):=⟨rfl,rfl,rfl,by decide +kernel,rfl,by decide +kernel,by decide +kernel⟩
theorem ZfS {f ab ac ad:Addr}{fd D G L:FuncData}(F:Fun K "numbers_behind" "numbers_behind" sNb f fd)(ak:Fun K "first_marks" "first_marks" sFm ab D)(am:Binds K D ["web", "needed"] [])(an:mg "first_marks" = some (.ref ab))(ao:GV P w K mg base CX0 4 ab D ["web", "needed"] Zgk)(ap:Fun K "steps_of" "steps_of" sSo ac G)(aq:Binds K G ["web", "needed"] [])(ar:mg "steps_of" = some (.ref ac))(as:GV P w K mg base CX0 2 ac G ["web", "needed"] Zgj)(au:Fun K "behind_step" "behind_step" sBs ad L)(av:Binds K L ["numbers", "step", "ends"] [])(aw:mg "behind_step" = some (.ref ad))(ax:GV P w K mg base CX0 4 ad L ["numbers", "step", "ends"] Zgr) :
  GV P w K mg base CX0 5 f fd ["web", "ends", "needed", "i"] Zgs:=by
 refine F.ok scNb (λvs H Q E h=>?_) (λay A az s0 H vs Q E hr h=>?_)
 ·obtain ⟨_,_,_,_,_,_,_,_,_,rfl,_⟩:=h
  rfl
 ·obtain ⟨wb,l,e,k,n,xs,rs,s,t,rfl,W,g,he,hs,ht,hn,ai,q⟩:=h;have a0:(A.deeper (PyProof.Rows.envOfC "numbers_behind" (Ge sNb) s0.heap.objs.size f ay)).units+1<cLine:=by have:=hr.un;lia
  have a9:=Ybf.symm;have g3:=g.2.2.1;have gk:=g.2.1;have g1:=g.1;have a1:=he.1;refine ⟨_,(@Gc _ _ _ _ _ (@Go _ _ 4 _ _ _ _ scNb.nd rfl (Or.inl rfl) VD rfl (by first | exact .inl rfl | exact .inr rfl))
    (@Gc _ _ _ _ _ (@Jf _ _ _ _ _ _ _ _ Ybq rfl (JL K (@Gk _ _ _ _ _ _ _ _ _ _ _ _ _ _ _ _ ao (hr.mono (by decide)) rfl an ak.kp am .nil GU (@Ga _ _ _ _ _ (pv 0) (@Ga _ _ _ _ _ (pv 2) Gf rfl) rfl) (by decide) rfl rfl)) (Gj (i:=5) scNb.nd rfl (Or.inl rfl))
    (@Gg _ _ _ (UO a0 (pv 4) (pv 5) Gd rfl)) (by intro _;rfl))
    (@Gc _ _ _ _ _ (@Jf _ _ _ _ _ _ _ _ Ybq rfl (JL K (OM (kSl K) (@Gk _ _ _ _ _ _ _ _ _ _ _ _ _ _ _ _ as (hr.mono (by decide)) rfl ar ap.kp aq .nil GU (@Ga _ _ _ _ _ (pv 0) (@Ga _ _ _ _ _ (pv 2) Gf rfl) rfl) (by decide) rfl rfl) Vt (OG (pv 3)))) (Gj (i:=6) scNb.nd rfl (Or.inl rfl))
    (@Gg _ _ _ (@Go _ _ 4 _ _ _ _ scNb.nd rfl (Or.inl rfl) (@Gk _ _ _ _ _ _ _ _ _ _ _ _ _ _ _ _ ax (hr.mono (by decide)) rfl aw au.kp av .nil GU (@Ga _ _ _ _ _ (pv 4) (@Ga _ _ _ _ _ (pv 6) (@Ga _ _ _ _ _ (pv 1) Gf rfl) rfl) rfl) (by decide) rfl rfl) rfl (by first | exact .inl rfl | exact .inr rfl))) (by intro _;rfl))
    (@Gg _ _ _ (@Gy _ _ _ _ (pv 4)))))),?_⟩
  refine λY ae=>?_;obtain ⟨H1,q_,s1,e1⟩:=nwU (o:=.dT []) ae;have e1:H1 Y=some (.dT (([]:KI).map kvI)):=e1;rw [q_];dsimp only [Jd];refine GO (λσ2 H2=>∃(O:Option V)(ks:KI),σ2=[some (.ref wb),some (.ref e),some (.ref e),some (.int (n:Int)),some (.ref Y),O,none]/\Same H H2/\H2 Y=some (.dT (ks.map kvI))/\Rep ks (RJ rs k s t 0)) ?_ (λJ=>?_)
  case _=>
   rintro σ2 H2 ⟨O,ks,rfl,s2,e2,rp⟩;refine ⟨_,rfl,_,rfl,wb,l,e,(k:Int),xs,rs,s,t,rfl,W.same s2,by lia,he.same s2,λS zs B s3 hS eS zl st=>?_⟩;have S3:=s2.trans s3;refine ⟨_,rfl,(n:Int),rfl,S,_,rfl,SqL.of eS,λU af=>?_⟩;have s4:Same B (upd B U (.lst (Uc zs none (some (n:Int))))):=Same.new af;have e4:upd B U (.lst (Uc zs none (some (n:Int)))) U=some (.lst (zs.take n)):=by rw [Gb,Zb5]
   generalize upd B U (.lst (Uc zs none (some (n:Int))))=H4 at s4 e4 ⊢;have S4:=S3.trans s4;have tl:(zs.take n).length=n:=by rw [Ybj];lia
   refine ⟨U,rfl,⟨_,SqL.of e4⟩,?_⟩;have aA:H2 U=none:=by
    cases y:H2 U with
    | none=>rfl
    | some u=>rw [s3 _ _ y] at af;cases af
   refine Jq (K:=K) (a:=U) (xs:=zs.take n) (λi σ Z=>∃(O v6:Option V)(d:Addr)(ks:KI),σ=[some (.ref wb),some (.ref e),some (.ref e),some (.int (n:Int)),some (.ref d),O,v6]/\Same H Z/\H d=none/\Z U=some (.lst (zs.take n))/\(∀j x,j<n->zs[j]?=some x->StepAt Z x rs s t j)/\Z d=some (.dT (ks.map kvI))/\Rep ks (RJ rs k s t i))
    ⟨_,_,Y,ks,rfl,S4,ae,e4,λj x _ y=>(st j x y).same s4,(s3.trans s4) _ _ e2,rp⟩ (by rintro i σ Z _ ⟨_,_,_,_,_,_,_,y,_⟩;exact SqL.of y) ?_ ?_
   ·rintro i x σ Z ag ⟨O,v6,d,ks,rfl,s5,ah,ec,N,ed,rp⟩;have hi:i<n:=by
     have:=(Yay.mp ag).1
     lia
    have a2:zs[i]?=some x:=by
     rw [Ydm,if_pos hi] at ag;exact ag
    have aB:=ai i (by lia);have aC:1000<=2 ^ 21:=by decide
    refine ⟨_,rfl,_,rfl,_,rfl,d,e,x,ks,rs,s,t,i,RJ rs k s t i,rfl,ed,N i x hi a2,he.same s5,λp hp=>?_,rp,by lia,λd' a3 H6 sx aj a4 a5=>?_⟩
    ·obtain ⟨c,V,_,al⟩:=ZbT a1 hs ht g (by lia) (rp.mem hp);exact ZbM al (by lia) g.2.2.2.1 (by lia) (by lia) (λq hq=>by have:=V.2 q hq;lia)
    ·have S6:Same H H6:=λa u y=>sx a u (λz=>by rw [z,ah] at y;cases y) (s5 a u y);have a6:U≠d:=Ow ec ed (λz=>by cases z);refine ⟨_,_,d',a3,rfl,S6,?_,sx _ _ a6 ec,λj y hj hy=>?_,a4,a5⟩
     ·cases y:H d' with
      | none=>rfl
      | some u=>rw [s5 _ _ y] at aj;cases aj
     ·obtain ⟨T,r,lv,nd,ex,g1,g2,g3,g4⟩:=(N j y hj hy).ex;have nn:∀{b u},Z b=some u->(∀kvs,u≠.dT kvs)->b≠d:=λ{b u} y z y2=>by rw [y2,ed] at y;cases y;exact z _ rfl
      exact ⟨T,r,lv,nd,ex,sx _ _ (nn g1 (λ_ z=>by cases z)) g1,sx _ _ (nn g2 (λ_ z=>by cases z)) g2,sx _ _ (nn g3 (λ_ z=>by cases z)) g3,sx _ _ (nn g4 (λ_ z=>by cases z)) g4⟩
   ·rintro σ Z ⟨O,v6,d,ks,rfl,s5,ah,ec,N,ed,rp⟩;rw [tl] at rp;exact ⟨_,rfl,q d ks Z s5 ah ed rp⟩
  ·refine ⟨_,rfl,_,rfl,wb,l,e,k,xs,rs,s,t,rfl,W.same s1,g,he.same s1,hs,ht,λF0 H2 s2 aD F2=>?_⟩;obtain ⟨ys,aa,a7⟩:=F2;refine ⟨F0,rfl,⟨_,SqL.of aa⟩,?_⟩;have e2:=s2 _ _ e1;have nF:F0≠Y:=Ow aa e2 (λz=>by cases z);rcases a7 with ⟨e0,rfl⟩ | ⟨T1,m1,em,rfl,eT⟩
   ·refine Jq (K:=K) (a:=F0) (xs:=[]) (λi σ B=>σ=[some (.ref wb),some (.ref e),some (.ref e),some (.int (n:Int)),some (.ref Y),none,none]/\B=H2) ⟨rfl,rfl⟩ (by rintro i σ B _ ⟨_,y⟩;exact y▸SqL.of aa) (λi x σ B hx=>by simp at hx) ?_;rintro σ B ⟨rfl,rfl⟩;refine J _ _ ⟨_,[],rfl,s1.trans s2,e2,?_⟩;show Rep [] (Jy rs k s t).toList;rw [e0];exact Rep.nil
   ·have a8:H2 T1=some (.tup ((m1.map (Sum.inl:Int->Key)).map kV)):=by rw [UX];exact eT
    refine Jq (K:=K) (a:=F0) (xs:=[.ref T1]) (λi σ B=>∃O:Option V,σ=[some (.ref wb),some (.ref e),some (.ref e),some (.int (n:Int)),some (.ref Y),O,none]/\B F0=some (.lst [.ref T1])/\Same H B/\(i=0->B=H2)/\(i=1->B Y=some (.dT ([(m1,1)].map kvI)))) ⟨_,rfl,aa,s1.trans s2,λ_=>rfl,λz=>by cases z⟩ (by rintro i σ B _ ⟨_,_,y,_⟩;exact SqL.of y) ?_ ?_
    ·rintro i x σ B hx ⟨O,rfl,y1,y2,y3,_⟩;have i0:i=0:=by
      have:=(Yay.mp hx).1;simp at this;exact this
     subst i0;cases hx;obtain rfl:=y3 rfl;refine ⟨_,rfl,_,rfl,Y,_,rfl,DPut.t e2 a8 (by show 0<sizeLine;lia),?_⟩;have pk:=XG [] m1 1;refine ⟨_,rfl,Gv y1 nF,y2.put ae,(λz=>by cases z),λ_=>?_⟩;rw [Gb];exact Ybi (λz=>some (HO.dT z)) pk
    ·rintro σ B ⟨O,rfl,y1,y2,_,y4⟩;refine J _ _ ⟨_,[(m1,1)],rfl,y2,y4 rfl,?_⟩;show Rep [(m1,1)] (Jy rs k s t).toList;rw [em];exact ⟨by simp,by simp,by show (List.replicate 1 m1++[]).Perm [m1];simp⟩
noncomputable def wlM (rs:List (Int×Int))(n k:Nat)(m:List Int):List Int:=(frL rs n k).map (gA m)++(if m.getD (m.length-1) 0=0 then [0] else [])
theorem Zdi {rs:List (Int×Int)}{k n:Nat}{s t:Int}(q:s≠t)(F:0<=s/\s<(k:Int))(G:0<=t/\t<(k:Int))(g:GX (k:Int) rs)(L:n<=rs.length):∀x∈RJ rs k s t n,∀y∈RJ rs k s t n,wlM rs n k x=wlM rs n k y->x=y:=by
 intro x U y Y e;obtain ⟨c,V,_,lab,_,_,mate,_,N⟩:=ZbT q F G g L U;obtain ⟨c',Z,_,O,_,_,D,_,B⟩:=ZbT q F G g L Y;unfold wlM at e;rw [U2 N,U2 B] at e;exact Wa V.2 Z.2 N B e
noncomputable def Zgt (B D:Addr):Sp:=λvs H Q _=>∃(q l:Addr)(k n:Nat)(xs:List V)(rs:List (Int×Int))(s t:Int),vs=[.ref q,.int s,.int t,.int (n:Int)]/\WebAt H q l (k:Int) xs rs/\GX (k:Int) rs/\s≠t/\(0<=s/\s<(k:Int))/\(0<=t/\t<(k:Int))/\n<=rs.length/\(∀j,j<=n->(RJ rs k s t j).length<=1000) /\
 ∀(L:Addr)(zs:List TI2)(ps:KI)(H':Hp),Same H H'->H L=none->H' L=some (.lst (zs.map λz=>V.ref z.1))->(∀z∈zs,H' z.1=some (.tup [.ref z.2.1,.int z.2.2.2])/\H' z.2.1=some (.tup (z.2.2.1.map V.int)))->(zs.map (·.2.2)).Perm ps->Rep ps ((RJ rs k s t n).map (wlM rs n k))->(zs.map (·.2.2)).Pairwise (λa b=>Ul b a=false)->Q (.ref L) H'
theorem scWs:Gu ["web", "one", "other", "i", "ends", "numbers", "places"] ["web", "one", "other", "i"] (Ge sWs):=⟨rfl,rfl,rfl,by decide +kernel,rfl,by decide +kernel,by decide +kernel⟩
theorem ZfT {f ad ae af ag ah ai C1 C2:Addr}{fd N O U Y Z aa:FuncData}(F:Fun K "walls" "walls" sWs f fd)(aw:Fun K "check_ends" "check_ends" Zc6 ad N)(ax:Binds K N ["web", "one", "other"] [])(ay:mg "check_ends" = some (.ref ad))(az:GV P w K mg base (CXr P w) 2 ad N ["web", "one", "other"] (Zes C1))(a0:Fun K "check_step" "check_step" Zci ae O)(a1:Binds K O ["web", "i"] [])(a2:mg "check_step" = some (.ref ae))(a3:GV P w K mg base (CXr P w) 1 ae O ["web", "i"] (Zdb C2))(a4:Fun K "marks_of_ends" "marks_of_ends" sMe af U)(a5:Binds K U ["one", "other"] [])(a6:mg "marks_of_ends" = some (.ref af))(a7:GV P w K mg base CX0 1 af U ["one", "other"] Zge)(a8:Fun K "numbers_behind" "numbers_behind" sNb ag Y)(a9:Binds K Y ["web", "ends", "needed", "i"] [])(aA:mg "numbers_behind" = some (.ref ag))(aB:GV P w K mg base CX0 5 ag Y ["web", "ends", "needed", "i"] Zgs)(aC:Fun K "front" "front" Zc7 ah Z)(aD:Binds K Z ["web", "i"] [])(aE:mg "front" = some (.ref ah))(aF:GV P w K mg base (CXr P w) 2 ah Z ["web", "i"] (Zey C2))(aG:Fun K "wall_in" "wall_in" sWi ai aa)(aH:Binds K aa ["places", "marks"] [])(aI:mg "wall_in" = some (.ref ai))(aJ:GV P w K mg base CX0 2 ai aa ["places", "marks"] Zgo)(am:mg "sorted" = none):GV P w K mg base (CXr P w) 6 f fd ["web", "one", "other", "i"] (Zgt C1 C2):=by
 refine F.okR scWs (λvs H Q E h=>?_) (λan A aK s0 H vs Q E hr h=>?_)
 ·obtain ⟨_,_,_,_,_,_,_,_,rfl,_⟩:=h
  rfl
 ·obtain ⟨wb,l,k,n,xs,rs,s,t,rfl,W,g,ab,hs,ht,hn,ac,q⟩:=h;have aL:(A.deeper (PyProof.Rows.envOfC "walls" (Ge sWs) s0.heap.objs.size f an)).units+1<cLine:=by have:=hr.un;lia
  have ao:(A.deeper (PyProof.Rows.envOfC "walls" (Ge sWs) s0.heap.objs.size f an)).units+71<cLine:=by have:=hr.un;lia
  have aS:=Ybf.symm;have aT:=W.p.len;have gk:=g.2.1;refine ⟨_,(@Gc _ _ _ _ _ (Jm (@Gk _ _ _ _ _ _ _ _ _ _ _ _ _ _ _ _ az (hr.mono (by decide)) rfl ay aw.kp ax .nil Za6 (@Ga _ _ _ _ _ (pv 0) (@Ga _ _ _ _ _ (pv 1) (@Ga _ _ _ _ _ (pv 2) Gf rfl) rfl) rfl) (by decide) rfl rfl))
    (@Gc _ _ _ _ _ (Jm (@Gk _ _ _ _ _ _ _ _ _ _ _ _ _ _ _ _ a3 (hr.mono (by decide)) rfl a2 a0.kp a1 .nil Za6 (@Ga _ _ _ _ _ (pv 0) (@Ga _ _ _ _ _ (pv 3) Gf rfl) rfl) (by decide) rfl rfl))
    (@Gc _ _ _ _ _ (@Go _ _ 4 _ _ _ _ scWs.nd rfl (Or.inl rfl) (@Gk _ _ _ _ _ _ _ _ _ _ _ _ _ _ _ _ a7 (hr.mono (by decide)) rfl a6 a4.kp a5 .nil GU (@Ga _ _ _ _ _ (pv 1) (@Ga _ _ _ _ _ (pv 2) Gf rfl) rfl) (by decide) rfl rfl) rfl (by first | exact .inl rfl | exact .inr rfl))
    (@Gc _ _ _ _ _ (@Go _ _ 5 _ _ _ _ scWs.nd rfl (Or.inr rfl) (@Gk _ _ _ _ _ _ _ _ _ _ _ _ _ _ _ _ aB (hr.mono (by decide)) rfl aA a8.kp a9 .nil GU (@Ga _ _ _ _ _ (pv 0) (@Ga _ _ _ _ _ (pv 4) (@Ga _ _ _ _ _ (pv 4) (@Ga _ _ _ _ _ (pv 3) Gf rfl) rfl) rfl) rfl) (by decide) rfl rfl) rfl (by first | exact .inl rfl | exact .inr rfl))
    (@Gc _ _ _ _ _ (@Go _ _ 6 _ _ _ _ scWs.nd rfl (Or.inr rfl) (@Gk _ _ _ _ _ _ _ _ _ _ _ _ _ _ _ _ aF (hr.mono (by decide)) rfl aE aC.kp aD .nil ZcK (@Ga _ _ _ _ _ (pv 0) (@Ga _ _ _ _ _ (pv 3) Gf rfl) rfl) (by decide) rfl rfl) rfl (by first | exact .inl rfl | exact .inr rfl))
    (@Gg _ _ _ (@Gy _ _ _ _ (GA (Zc0 K ao) rfl am PyProof.Rows.boot_sorted (@Ga _ _ _ _ _ (Jn (own:=["marks"]) rfl (Gq (fr:=[("numbers", 5),("places", 6)]) [(".0", .local),("marks", .local),("wall_in", .globalImplicit),("numbers", .cell),("places", .cell)] rfl rfl (by decide +kernel) rfl (by decide +kernel) ⟨rfl,rfl,trivial⟩ ⟨λh=>G6 h,λh=>G6 h,λh=>G6 h,λ_=>⟨_,rfl⟩,λ_=>⟨_,rfl⟩,trivial⟩ ⟨⟨rfl,.inl rfl,.inl rfl⟩,⟨rfl,.inl rfl,.inl rfl⟩,trivial⟩) (Yr (pv 5)) (λ_ _ _ _=>Gj (i:=0) (show List.Nodup (["marks", "numbers", "places"]:List Str) by decide +kernel) rfl (Or.inl rfl)) (λ_ _ _ _=>GZ) (λ_ _ _ _=>@JE _ _ _ _ _ (@Ga _ _ _ _ _ (@Gk _ _ _ _ _ _ _ _ _ _ _ _ _ _ _ _ aJ (hr.mono (by decide)) rfl aI aG.kp aH .nil GU (@Ga _ _ _ _ _ (pv 2) (@Ga _ _ _ _ _ (pv 0) Gf rfl) rfl) (by decide) rfl rfl) (@Ga _ _ _ _ _ (Xk aL (pv 1) (pv 0) (λ_ _=>rfl)) Gf rfl) rfl))) Gf rfl))))))))),?_⟩
  refine ⟨_,rfl,_,rfl,_,rfl,wb,l,(k:Int),s,t,rfl,W.w,.inl ⟨⟨hs,ht,ab⟩,?_⟩⟩;refine ⟨_,rfl,_,rfl,wb,l,(k:Int),(n:Int),xs,rfl,W.w,W.l,.inl ⟨⟨by lia,by lia⟩,?_⟩⟩;refine ⟨_,rfl,_,rfl,s,t,rfl,ab,λe H1 s1 he E1=>?_⟩;dsimp only [Jd];refine ⟨_,rfl,_,rfl,_,rfl,_,rfl,wb,l,e,k,n,xs,rs,s,t,rfl,W.same s1,g,E1,hs,ht,hn,ac,λd ks H2 s2 hd ed rp=>?_⟩;have S2:=s1.trans s2;dsimp only [Jd];refine ⟨_,rfl,_,rfl,wb,l,(k:Int),(n:Int),xs,rs,rfl,W.same S2,g,.inl ⟨⟨by lia,by lia⟩,λr ps H3 s3 aU ap nd so hm=>?_⟩⟩;rw [Ybn] at hm;have ep:=ZeC hn g nd so hm;subst ep;have S3:=S2.trans s3;have aq:=s3 _ _ ed;have aM:H d=none:=by
   cases y:H d with
   | none=>rfl
   | some u=>rw [s1 _ _ y] at hd;cases hd
  have aN:(frL rs n k).length<=1000:=by
   refine Ybc (Yct _ _) ?_;rw [GS]
   lia
  dsimp only [Jd];refine ⟨_,rfl,d,_,rfl,.inl ⟨aq,λo=>?_⟩⟩;have s4:SameX d H3 (upd H3 d (.frz o (.dT (ks.map kvI)))):=λb u n y=>Gv y n;have aj:upd H3 d (.frz o (.dT (ks.map kvI))) d=some (.frz o (.dT (ks.map kvI))):=Gb;generalize upd H3 d (.frz o (.dT (ks.map kvI)))=H4 at s4 aj ⊢;have aO:H4 r=some (.lst ((frL rs n k).map V.int)):=s4 _ _ (Ow ap aq (λz=>by cases z)) ap;refine λD hD=>?_;have rl:ks.length<=1000:=Ybc rp.len (ac n (Yaf _));refine Y2 (a:=d) (o:=o) (kvs:=ks.map kvI) (λi ys H5=>∃zs:List TI2,ys=zs.map (λz=>V.ref z.1)/\Same H4 H5/\H5 D=some (.lst ys)/\zs.map (·.2.2)=(ks.take i).map (λp=>(wlM rs n k p.1,p.2))/\∀z∈zs,H5 z.1=some (.tup [.ref z.2.1,.int z.2.2.2])/\H5 z.2.1=some (.tup (z.2.2.1.map V.int)))
   ⟨[],rfl,Same.new hD,Gb,rfl,by simp⟩ (by rintro i ys H5 _ ⟨_,_,y,_⟩;exact y _ _ aj) ?_ ?_
  ·rintro i kk v b ys H5 ar hb ⟨zs,rfl,s5,ak,hz,G⟩;rw [Yaw] at ar;obtain ⟨p,hp,ep⟩:=Ydk.mp ar;cases ep;have as:=Ybb hp;have aV:i<ks.length:=(Yay.mp hp).1;have aP:=hb;rw [UX] at hb;obtain ⟨c,Va,_,lab,hl,aW,mate,M,mk⟩:=ZbT ab hs ht g hn (rp.mem as);have aQ:p.1≠[]:=λz=>by have:=mk.len;rw [z] at this;cases this
   have vb:OC (ks.map kvI) (p.1.map Sum.inl)=some (.int p.2):=by rw [Wb,ZaM rp.nd as];rfl
   refine ⟨⟨rfl,rfl,trivial⟩,?_⟩;unfold WW;refine GY ?_;refine ⟨_,rfl,_,rfl,r,b,_,p.1,rfl,s5 _ _ aO,hb,λx hx=>?_,aQ,aN,λT H6 s6 eT=>?_⟩
   ·have:=(WR hx).1;have:=mk.len
    lia
   have dg:DGet H6 d (.ref b) (some (.int p.2)):=by rw [<-vb];exact Or.inr ⟨_,_,b,.inr ⟨o,s6 _ _ (s5 _ _ aj)⟩,rfl,s6 _ _ aP,rfl⟩
   refine ⟨_,rfl,_,rfl,d,_,rfl,dg,JS,λT2 aR=>?_⟩;have s7:Same H6 (upd H6 T2 (.tup [.ref T,.int p.2])):=Same.new aR;have e7:upd H6 T2 (.tup [.ref T,.int p.2]) T2=some (.tup [.ref T,.int p.2]):=Gb;have al:=s7 _ _ eT;generalize upd H6 T2 (.tup [.ref T,.int p.2])=H7 at s7 e7 al ⊢;have au:=s7 _ _ (s6 _ _ ak);have zl:(zs.map λz=>V.ref z.1).length=i:=by
    rw [Yab];have:=Ybi List.length hz;rw [Yab,Yab,Ybj] at this
    lia
   have nD:∀{b u},H7 b=some u->(∀ys,u≠.lst ys)->b≠D:=λ{b u} y z y2=>by rw [y2,au] at y;cases y;exact z _ rfl
   refine ⟨au,by rw [zl];lia,zs++[(T2,T,(wlM rs n k p.1,p.2))],by rw [Yan];rfl,(s5.trans (s6.trans s7)).put hD,Gb,?_,λz B=>?_⟩
   ·rw [Yan,hz,Ybt,hp,Yan]
    rfl
   ·rcases Yap.mp B with B | B
    ·obtain ⟨y1,y2⟩:=G z B;have y1:=s7 _ _ (s6 _ _ y1);have y2:=s7 _ _ (s6 _ _ y2);exact ⟨Gv y1 (nD y1 (λ_ z=>by cases z)),Gv y2 (nD y2 (λ_ z=>by cases z))⟩
    ·rw [Ybo.mp B];exact ⟨Gv e7 (nD e7 (λ_ z=>by cases z)),Gv al (nD al (λ_ z=>by cases z))⟩
  ·rintro ys H5 ⟨zs,rfl,s5,ak,hz,G⟩;rw [Yab,Ybz] at hz;refine ⟨D,zs,rfl,SqL.of ak,λz B=>⟨SqT.of (G z B).1,SqT.of (G z B).2⟩,λL av hL pm so=>?_⟩;have S5:Same H H5:=λa u y=>s5 _ _ (s4 a u (λz=>by rw [z,aM] at y;cases y) (S3 _ _ y));have s6:Same H5 (upd H5 L (.lst (av.map λz=>V.ref z.1))):=Same.new hL;refine q L av _ _ (S5.trans s6) ?_ Gb (λz B=>⟨s6 _ _ (G z (pm.mem_iff.mp B)).1,s6 _ _ (G z (pm.mem_iff.mp B)).2⟩) (pm.map _) ?_ so
   ·cases y:H L with
    | none=>rfl
    | some u=>rw [S5 _ _ y] at hL;cases hL
   ·rw [hz];exact rp.mapW (Zdi ab hs ht g hn)
noncomputable def LLs (B:Addr)(H:Hp):List V->List (List Int)->Prop:=Paired λy c=>∃a,y=.ref a/\a≠B/\H a=some (.lst (c.map V.int))
theorem LLs.same {B:Addr}{H H':Hp}{ys:List V}{cs:List (List Int)}(h:LLs B H ys cs)(s:Same H H'):LLs B H' ys cs:=Paired.mapP h λy c ⟨a,e,n,g⟩=>⟨a,e,n,s _ _ g⟩
theorem LLs.put {B:Addr}{H:Hp}{ys:List V}{cs:List (List Int)}{u:HO}(h:LLs B H ys cs):LLs B (upd H B u) ys cs:=Paired.mapP h λy c ⟨a,e,n,g⟩=>⟨a,e,n,Gv g n⟩
theorem LLs.to {B q:Addr}{H:Hp}{ys:List V}{cs:List (List Int)}(h:LLs B H ys cs)(D:H q=none):LLs q H ys cs:=Paired.mapP h λy c ⟨a,e,n,g⟩=>⟨a,e,Gh g D,g⟩
theorem Vr {α β:Type}{F:α->β->Prop}{l q:List α}{m B:List β}(h:Paired F l m)(h':Paired F q B):Paired F (l++q) (m++B):=by
 induction h with
 | nil=>exact h'
 | cons r _ ih=>exact .cons r ih
theorem LLs.app {B:Addr}{H:Hp}{ys q:List V}{cs D:List (List Int)}(h:LLs B H ys cs)(h':LLs B H q D):LLs B H (ys++q) (cs++D):=Vr h h'
theorem LLs.snoc {B a:Addr}{H:Hp}{ys:List V}{cs:List (List Int)}{c:List Int}(h:LLs B H ys cs)(n:a≠B)(g:H a=some (.lst (c.map V.int))):LLs B H (ys++[.ref a]) (cs++[c]):=Vr h (.cons ⟨a,rfl,n,g⟩ .nil)
theorem LLs.get {B:Addr}{H:Hp}{ys:List V}{cs:List (List Int)}(h:LLs B H ys cs){i:Nat}{x:V}(e:ys[i]?=some x):∃a c,x=.ref a/\a≠B/\H a=some (.lst (c.map V.int))/\cs[i]?=some c:=by
 obtain ⟨c,q,a,D,n,g⟩:=Yq h e;exact ⟨a,c,D,n,g,q⟩
noncomputable def Zgu:Sp:=λvs H Q _=>∃(L:Addr)(zs:List TI2),vs=[.ref L]/\H L=some (.lst (zs.map λz=>V.ref z.1))/\(∀z∈zs,H z.1=some (.tup [.ref z.2.1,.int z.2.2.2])/\H z.2.1=some (.tup (z.2.2.1.map V.int))/\z.2.2.1.length<=1000)/\∀H':Hp,Same H H'->Q (.bl true) H'
theorem scRw:Gu ["found", "row"] ["found"] (Ge sRw):=⟨rfl,rfl,rfl,by decide +kernel,rfl,by decide +kernel,by decide +kernel⟩
theorem ZaO (n:Nat):(List.replicate n true).all id=true:=by
 rw [List.all_eq_true];intro x q;rw [(List.mem_replicate.mp q).2]
 rfl
theorem ZfU {f O:Addr}{fd B:FuncData}(F:Fun K "_law_rows" "_law_rows" sRw f fd)(aa:Fun K "_law_whole" "_law_whole" Zda O B)(ab:Binds K B ["found"] [])(ac:mg "_law_whole" = some (.ref O))(ad:GV P w K mg base CX0 1 O B ["found"] ZeA)(G:mg "isinstance" = none)(ae:mg "list" = none)(N:mg "tuple" = none)(af:mg "len" = none)(ag:mg "all" = none):GV P w K mg base CX0 2 f fd ["found"] Zgu:=by
 refine F.ok scRw (λvs H Q E h=>?_) (λak A ai s0 H vs Q E hr h=>?_)
 ·obtain ⟨_,_,rfl,_⟩:=h
  rfl
 ·obtain ⟨L,zs,rfl,eL,hz,q⟩:=h;have al:=Ybf.symm;refine ⟨_,(@Gc _ _ _ _ _ (@G4 _ _ _ _ _ _ _ _ (JB (Jl (GA (ZdO K) rfl G OR (@Ga _ _ _ _ _ (pv 0) (@Ga _ _ _ _ _ (Wv ae OS) Gf rfl) rfl)))) (@Gg _ _ _ (@Gy _ _ _ _ Uu)) Gz)
    (@Gc _ _ _ _ _ (@Jf _ _ _ _ _ _ _ _ Ybq rfl (JL K (pv 0)) (Gj (i:=1) scRw.nd rfl (Or.inl rfl))
    (@Gc _ _ _ _ _ (@G4 _ _ _ _ _ _ _ _ (PW.pt (Ox (JB (Jl (GA (ZdO K) rfl G OR (@Ga _ _ _ _ _ (pv 1) (@Ga _ _ _ _ _ (Wv N Jo) Gf rfl) rfl)))) (Ox (Gm Zcv (GA (Zb3 K) rfl af Ydz (@Ga _ _ _ _ _ (pv 1) Gf rfl)) Gd (Gx _)) (J5 (JB (Jl (GA (ZdO K) rfl G OR (@Ga _ _ _ _ _ (@Gn _ _ _ _ _ _ _ (Jg K) (pv 1) Gd (λ_ _=>rfl)) (@Ga _ _ _ _ _ (Wv N Jo) Gf rfl) rfl)))))))) (@Gg _ _ _ (@Gy _ _ _ _ Uu)) Gz)
    (@Gg _ _ _ (@G4 _ _ _ _ _ _ _ _ (PW.pt (Ox (JB (Jl (@Gk _ _ _ _ _ _ _ _ _ _ _ _ _ _ _ _ ad (hr.mono (by decide)) rfl ac aa.kp ab .nil GU (@Ga _ _ _ _ _ (@Gn _ _ _ _ _ _ _ (Jg K) (pv 1) Gd (λ_ _=>rfl)) Gf rfl) (by decide) rfl rfl))) (J5 (JB (Jl (GA (Ze8 K rfl) rfl ag Uz (@Ga _ _ _ _ _ (Jn (own:=["mark"]) rfl (G9 (by decide +kernel) (by decide +kernel) rfl (by decide +kernel)) (ZcY K (@Gn _ _ _ _ _ _ _ (Jg K) (pv 1) Gd (λ_ _=>rfl))) (λ_ _ _ _=>Gj (i:=0) (show List.Nodup (["mark"]:List Str) by decide +kernel) rfl (Or.inl rfl)) (λ_ _ _ _=>GZ) (λ_ _ _ _=>Gk ad (hr.mono (by decide)) rfl ac aa.kp ab .nil GU (@Ga _ _ _ _ _ (pv 0) Gf rfl))) Gf rfl))))))) (@Gg _ _ _ (@Gy _ _ _ _ Uu)) Gz))) (by intro _;rfl))
    (@Gg _ _ _ (@Gy _ _ _ _ Uu)))),?_⟩
  refine ⟨_,rfl,_,_,true,rfl,⟨_,rfl,G5 ?_⟩,.inl ⟨_,.lst eL,rfl,Uy⟩⟩;dsimp only [YE];refine ⟨_,rfl,L,rfl,⟨_,SqL.of eL⟩,?_⟩;refine Jq (K:=K) (a:=L) (xs:=zs.map λz=>V.ref z.1) (λi σ H2=>∃v1:Option V,σ=[some (.ref L),v1]/\Same H H2) ⟨none,rfl,Same.refl _⟩ (by rintro i σ H2 _ ⟨_,_,U⟩;exact SqL.of (U _ _ eL)) ?_ ?_
  ·rintro i x σ H2 ah ⟨v1,rfl,U⟩;rw [Yaw] at ah;obtain ⟨z,aj,rfl⟩:=Ydk.mp ah;obtain ⟨Y,e2,l2⟩:=hz z (Ybb aj);have Y:=U _ _ Y;have e2:=U _ _ e2;refine ⟨_,rfl,_,_,true,rfl,⟨_,rfl,G5 ?_⟩,.inl ⟨_,.tup Y,rfl,Uy⟩⟩;refine ⟨_,rfl,z.1,_,rfl,.inr (SqT.of Y),rfl,_,rfl,G5 ?_⟩;refine ⟨_,rfl,z.1,_,_,_,rfl,rfl,SqT.of Y,Gi (j:=0) rfl,_,_,true,rfl,⟨_,rfl,G5 ?_⟩,.inl ⟨_,.tup e2,rfl,Uy⟩⟩;dsimp only [YE];refine ⟨_,rfl,z.1,_,_,_,rfl,rfl,SqT.of Y,Gi (j:=1) rfl,_,rfl,_,rfl,G5 ?_⟩;refine ⟨_,rfl,z.1,_,_,_,rfl,rfl,SqT.of Y,Gi (j:=0) rfl,z.2.1,rfl,⟨_,SqT.of e2⟩,λD hD=>?_⟩;refine Yl (K:=K) (a:=z.2.1) (xs:=z.2.2.1.map V.int) (λj ys H3=>Same H2 H3/\H3 D=some (.lst ys)/\ys=(List.replicate j true).map V.bl) ⟨Same.new hD,Gb,rfl⟩ (by rintro j ys H3 _ ⟨s3,_⟩;exact SqT.of (s3 _ _ e2)) ?_ ?_
   ·rintro j y ys H3 hy ⟨s3,Z,rfl⟩;have hj:j<(z.2.2.1.map V.int).length:=(Yay.mp hy).1;rw [Yab] at hj;rw [Yaw] at hy;obtain ⟨n,_,rfl⟩:=Ydk.mp hy;refine ⟨trivial,?_⟩;unfold WW;refine GY ?_;refine ⟨_,rfl,n,rfl,Z,by rw [Yab,List.length_replicate];lia,s3.put hD,Gb,?_⟩;rw [List.replicate_succ',Yan]
    rfl
   ·rintro ys H3 ⟨s3,Z,rfl⟩;refine ⟨D,_,rfl,SqL.of Z,_,rfl,?_⟩;rw [ZaO];refine G5 ?_;exact ⟨_,rfl,U.trans s3⟩
  ·rintro σ H2 ⟨v1,rfl,U⟩;exact q H2 U
theorem Valid.up {c:List Int}{n:Nat}(h:Valid c n):Valid c (n+1):=⟨h.1,λq B=>by have:=h.2 q B;lia⟩
theorem Valid.snoc {c:List Int}{n:Nat}(h:Valid c n):Valid (c++[(n:Int)]) (n+1):=by
 refine ⟨Ybs.mpr ⟨h.1,List.pairwise_singleton _ _,λa ha b B=>?_⟩,λq D=>?_⟩
 ·rw [Ybo] at B;have:=h.2 a ha
  lia
 ·rcases Yap.mp D with u | u
  ·have:=h.2 q u
   lia
  ·rw [Ybo] at u
   lia
theorem LsJ.start {rs:List (Int×Int)}{k:Nat}{s t:Int}:(0<=Gs rs s/\0<=Gs rs t->LsJ rs k s t 0 [[]])/\(¬ (0<=Gs rs s/\0<=Gs rs t)->LsJ rs k s t 0 []):=by
 constructor
 ·intro h;have e:Jy rs k s t=some (List.replicate (k+1) (-2)):=by unfold Jy;rw [if_pos h]
  refine ⟨λc q=>?_,λc q=>⟨_,e⟩,?_⟩
  ·rw [Ybo.mp q];exact ⟨⟨List.Pairwise.nil,by simp⟩,Yaf _⟩
  ·show (([[]]:List (List Int)).filterMap λc=>Jy rs k s t).Perm (Jy rs k s t).toList;rw [e];exact .refl _
 ·intro h;have e:Jy rs k s t=none:=by unfold Jy;rw [if_neg h]
  refine ⟨by simp,by simp,?_⟩;show ([]:List (List Int)).Perm (Jy rs k s t).toList;rw [e];exact .refl _
theorem LsJ.len {rs:List (Int×Int)}{k:Nat}{s t:Int}{j:Nat}{cs:List (List Int)}(h:LsJ rs k s t j cs):(RJ rs k s t j).length<=cs.length:=by
 rw [<-h.pm.length_eq];exact List.length_filterMap_le _ _
structure AskO (H:Hp)(B:Addr)(v:V)(rs:List (Int×Int))(k:Nat):Prop where
 ex:∃(A en L:Addr)(n:Nat)(s t:Int)(zs:List TI2)(ps:KI),v=.ref A/\L≠B/\H A=some (.tup [.ref en,.int (n:Int),.ref L])/\H en=some (.tup [.int s,.int t])/\s≠t/\(0<=s/\s<(k:Int))/\(0<=t/\t<(k:Int))/\n<=rs.length/\(∀j,j<=n->(RJ rs k s t j).length<=1000) /\
  H L=some (.lst (zs.map λz=>V.ref z.1))/\(∀z∈zs,H z.1=some (.tup [.ref z.2.1,.int z.2.2.2])/\H z.2.1=some (.tup (z.2.2.1.map V.int)))/\(zs.map (·.2.2)).Perm ps/\Rep ps ((RJ rs k s t n).map (wlM rs n k))/\(zs.map (·.2.2)).Pairwise (λa b=>Ul b a=false)
theorem AskO.same {H H':Hp}{B:Addr}{v:V}{rs:List (Int×Int)}{k:Nat}(h:AskO H B v rs k)(q:Same H H'):AskO H' B v rs k:=by
 obtain ⟨A,G,L,n,s,t,zs,ps,e,N,h1,h2,O,U,Y,Z,h7,h8,D,r⟩:=h.ex;exact ⟨A,G,L,n,s,t,zs,ps,e,N,q _ _ h1,q _ _ h2,O,U,Y,Z,h7,q _ _ h8,λz F=>⟨q _ _ (D z F).1,q _ _ (D z F).2⟩,r⟩
theorem AskO.put {H:Hp}{B:Addr}{v:V}{rs:List (Int×Int)}{k:Nat}{ys:List V}{u:HO}(h:AskO H B v rs k)(N:H B=some (.lst ys)):AskO (upd H B u) B v rs k:=by
 obtain ⟨A,O,L,n,s,t,zs,ps,e,D,h1,h2,U,Y,Z,h6,h7,h8,F,r⟩:=h.ex;have q:∀{b o},H b=some o->o≠.lst ys->upd H B u b=some o:=λ{b o} y z=>Gv y (Ow y N z);exact ⟨A,O,L,n,s,t,zs,ps,e,D,q h1 (λz=>by cases z),q h2 (λz=>by cases z),U,Y,Z,h6,h7,Gv h8 D,λz G=>⟨q (F z G).1 (λz=>by cases z),q (F z G).2 (λz=>by cases z)⟩,r⟩
noncomputable def Zgv:Sp:=λvs H Q _=>∃(q l:Addr)(k:Nat)(xs:List V)(rs:List (Int×Int))(cell:Int),vs=[.ref q,.int cell]/\WebAt H q l (k:Int) xs rs/\GX (k:Int) rs/\2<=k/\∀(v:V)(H':Hp),Same H H'->(∀B,H B≠none->AskO H' B v rs k)->Q v H'
theorem scAs:Gu ["web", "cell", "row", "ends", "last", "sets", "i", "looked", "chosen", "more", "numbers", "marks"] ["web", "cell"] (Ge sAs):=⟨rfl,rfl,rfl,by decide +kernel,rfl,by decide +kernel,by decide +kernel⟩
theorem ZfV {f a0 a1 a2 a3 a4:Addr}{fd af ag ah ai aj:FuncData}(F:Fun K "_law_asked" "_law_asked" sAs f fd)(aQ:Fun K "_law_numbers" "_law_numbers" ZbA a0 af)(aR:Binds K af ["cell", "many", "base"] [])(aS:mg "_law_numbers" = some (.ref a0))(aT:GV P w K mg base CX0 1 a0 af ["cell", "many", "base"] ZbE)(aU:Fun K "_law_ends" "_law_ends" sEn a1 ag)(aV:Binds K ag ["cell", "places"] [])(aW:mg "_law_ends" = some (.ref a1))(aX:GV P w K mg base CX0 2 a1 ag ["cell", "places"] Zgl)(aY:Fun K "_law_last" "_law_last" sLa a2 ah)(aZ:Binds K ah ["web"] [])(ba:mg "_law_last" = some (.ref a2))(bb:GV P w K mg base CX0 1 a2 ah ["web"] Zgm)(bc:Fun K "_law_hopeful" "_law_hopeful" sLh a3 ai)(bd:Binds K ai ["web", "ends", "i", "chosen", "last"] [])(be:mg "_law_hopeful" = some (.ref a3))(bf:GV P w K mg base CX0 2 a3 ai ["web", "ends", "i", "chosen", "last"] Zgn)(bg:Fun K "_law_marks" "_law_marks" sMk a4 aj)(bh:Binds K aj ["web", "ends", "i", "chosen", "last"] [])(bi:mg "_law_marks" = some (.ref a4))(bj:GV P w K mg base CX0 2 a4 aj ["web", "ends", "i", "chosen", "last"] Zgq)(ax:mg "len" = none)(aC:mg "sorted" = none):GV P w K mg base CX0 3 f fd ["web", "cell"] Zgv:=by
 refine F.ok scAs (λvs H Q E h=>?_) (λaD A bl s0 H vs Q E hr h=>?_)
 ·obtain ⟨_,_,_,_,_,_,rfl,_⟩:=h
  rfl
 ·obtain ⟨wb,l,k,xs,rs,cell,rfl,W,g,k2,q⟩:=h;have aE:(A.deeper (PyProof.Rows.envOfC "_law_asked" (Ge sAs) s0.heap.objs.size f aD)).units+1<cLine:=by have:=hr.un;lia
  have aF:(A.deeper (PyProof.Rows.envOfC "_law_asked" (Ge sAs) s0.heap.objs.size f aD)).units+71<cLine:=by have:=hr.un;lia
  have b6:=Ybf.symm;have b7:=W.p.len;have g3:=g.2.2.1;have gk:=g.2.1;refine ⟨_,(@Gc _ _ _ _ _ (@Go _ _ 2 _ _ _ _ scAs.nd rfl (Or.inl rfl) (@Gk _ _ _ _ _ _ _ _ _ _ _ _ _ _ _ _ aT (hr.mono (by decide)) rfl aS aQ.kp aR .nil GU (@Ga _ _ _ _ _ (pv 1) (@Ga _ _ _ _ _ Gd (@Ga _ _ _ _ _ Gd Gf rfl) rfl) rfl) (by decide) rfl rfl) rfl (by first | exact .inl rfl | exact .inr rfl))
    (@Gc _ _ _ _ _ (@Go _ _ 3 _ _ _ _ scAs.nd rfl (Or.inr rfl) (@Gk _ _ _ _ _ _ _ _ _ _ _ _ _ _ _ _ aX (hr.mono (by decide)) rfl aW aU.kp aV .nil GU (@Ga _ _ _ _ _ (@Gw _ _ _ _ _ _ _ _ On (pv 1) (@Gw _ _ _ _ _ _ _ _ Wf Gd Gd)) (@Ga _ _ _ _ _ (@Gn _ _ _ _ _ _ _ (Jg K) (pv 0) Gd (λ_ _=>rfl)) Gf rfl) rfl) (by decide) rfl rfl) rfl (by first | exact .inl rfl | exact .inr rfl))
    (@Gc _ _ _ _ _ (@Go _ _ 4 _ _ _ _ scAs.nd rfl (Or.inr rfl) (@Gk _ _ _ _ _ _ _ _ _ _ _ _ _ _ _ _ bb (hr.mono (by decide)) rfl ba aY.kp aZ .nil GU (@Ga _ _ _ _ _ (pv 0) Gf rfl) (by decide) rfl rfl) rfl (by first | exact .inl rfl | exact .inr rfl))
    (@Gc _ _ _ _ _ (@Go _ _ 5 _ _ _ _ scAs.nd rfl (Or.inl rfl) (@Jh _ _ _ _ (@Ga _ _ _ _ _ (@Jh _ _ _ _ Gf) Gf rfl)) rfl (by first | exact .inl rfl | exact .inr rfl))
    (@Gc _ _ _ _ _ (@G4 _ _ _ _ _ _ _ _ (PW.pt (Ox (Gm UG (@Gn _ _ _ _ _ _ _ (J3 K) (pv 4) (@Gn _ _ _ _ _ _ _ (Jg K) (pv 3) Gd (λ_ _=>rfl)) (λ_ _=>rfl)) Gd (Gx _)) (J5 (Gm UG (@Gn _ _ _ _ _ _ _ (J3 K) (pv 4) (@Gn _ _ _ _ _ _ _ (Jg K) (pv 3) Gd (λ_ _=>rfl)) (λ_ _=>rfl)) Gd (Gx _))))) (@Gg _ _ _ (@Go _ _ 5 _ _ _ _ scAs.nd rfl (Or.inl rfl) (@Jh _ _ _ _ Gf) rfl (by first | exact .inl rfl | exact .inr rfl))) Gz)
    (@Gc _ _ _ _ _ (@Go _ _ 6 _ _ _ _ scAs.nd rfl (Or.inr rfl) Gd rfl (by first | exact .inl rfl | exact .inr rfl))
    (@Gc _ _ _ _ _ (@Go _ _ 7 _ _ _ _ scAs.nd rfl (Or.inl rfl) Gd rfl (by first | exact .inl rfl | exact .inr rfl))
    (@Gc _ _ _ _ _ (ZaW Ybq (PW.pt (J2 (Gm UG (pv 6) (@Gw _ _ _ _ _ _ _ _ Js (@Gn _ _ _ _ _ _ _ (J3 K) (pv 2) Gd (λ_ _=>rfl)) (@Gw _ _ _ _ _ _ _ _ G0 (GA (Zb3 K) rfl ax Ydz (@Ga _ _ _ _ _ (@Gn _ _ _ _ _ _ _ (Jg K) (pv 0) Gd (λ_ _=>rfl)) Gf rfl)) Gd)) (Gx _)) (JA (Gm ZaX (pv 7) Gd (Gx _)))))
    (@Gc _ _ _ _ _ (@Go _ _ 9 _ _ _ _ scAs.nd rfl (Or.inl rfl) (@Gw _ _ _ _ _ _ _ _ Vb (pv 5) (Jn (own:=["chosen"]) rfl (Gq (fr:=[("i", 6)]) [(".0", .local),("chosen", .local),("i", .cell)] rfl rfl (by decide +kernel) rfl (by decide +kernel) ⟨rfl,trivial⟩ ⟨λh=>G6 h,λh=>G6 h,λ_=>⟨_,rfl⟩,trivial⟩ ⟨⟨rfl,.inl rfl,.inl rfl⟩,trivial⟩) (JL K (pv 5)) (λ_ _ _ _=>Gj (i:=0) (show List.Nodup (["chosen", "i"]:List Str) by decide +kernel) rfl (Or.inl rfl)) (λ_ _ _ _=>GZ) (λ_ _ _ _=>@Gw _ _ _ _ _ _ _ _ Vb (pv 0) (@Jh _ _ _ _ (@Ga _ _ _ _ _ (pv 1) Gf rfl))))) rfl (by first | exact .inl rfl | exact .inr rfl))
    (@Gc _ _ _ _ _ (@Go _ _ 7 _ _ _ _ scAs.nd rfl (Or.inl rfl) (@Gw _ _ _ _ _ _ _ _ G0 (pv 7) (GA (Zb3 K) rfl ax Ydz (@Ga _ _ _ _ _ (pv 9) Gf rfl))) rfl (by first | exact .inl rfl | exact .inr rfl))
    (@Gc _ _ _ _ _ (@Go _ _ 6 _ _ _ _ scAs.nd rfl (Or.inr rfl) (@Gw _ _ _ _ _ _ _ _ G0 (pv 6) Gd) rfl (by first | exact .inl rfl | exact .inr rfl))
    (@Gg _ _ _ (OH (i:=5) scAs.nd rfl (Or.inl rfl) (own:=["chosen"]) rfl (Gq (fr:=[("web", 0),("ends", 3),("last", 4),("i", 6)]) [(".0", .local),("chosen", .local),("_law_hopeful", .globalImplicit),("ends", .cell),("i", .cell),("last", .cell),("web", .cell)] rfl rfl (by decide +kernel) rfl (by decide +kernel) ⟨rfl,rfl,rfl,rfl,trivial⟩ ⟨λh=>G6 h,λh=>G6 h,λh=>G6 h,λ_=>⟨_,rfl⟩,λ_=>⟨_,rfl⟩,λ_=>⟨_,rfl⟩,λ_=>⟨_,rfl⟩,trivial⟩ ⟨⟨rfl,.inl rfl,.inl rfl⟩,⟨rfl,.inl rfl,.inl rfl⟩,⟨rfl,.inl rfl,.inl rfl⟩,⟨rfl,.inl rfl,.inl rfl⟩,trivial⟩) (JL K (pv 9)) (λ_ _ _ _=>Gj (i:=0) (show List.Nodup (["chosen", "web", "ends", "last", "i"]:List Str) by decide +kernel) rfl (Or.inl rfl)) (λ_ _ _ _=>OP (Jl (@Gk _ _ _ _ _ _ _ _ _ _ _ _ _ _ _ _ bf (hr.mono (by decide)) rfl be bc.kp bd .nil GU (@Ga _ _ _ _ _ (pv 1) (@Ga _ _ _ _ _ (pv 2) (@Ga _ _ _ _ _ (pv 4) (@Ga _ _ _ _ _ (pv 0) (@Ga _ _ _ _ _ (pv 3) Gf rfl) rfl) rfl) rfl) rfl) (by decide) rfl rfl))) (λ_ _ _ _=>pv 0)))))))
    (@Gc _ _ _ _ _ (@Go _ _ 10 _ _ _ _ scAs.nd rfl (Or.inl rfl) VD rfl (by first | exact .inl rfl | exact .inr rfl))
    (@Gc _ _ _ _ _ (@Jf _ _ _ _ _ _ _ _ Ybq rfl (JL K (pv 5)) (Gj (i:=8) scAs.nd rfl (Or.inl rfl))
    (@Gc _ _ _ _ _ (@Go _ _ 11 _ _ _ _ scAs.nd rfl (Or.inl rfl) (@Gk _ _ _ _ _ _ _ _ _ _ _ _ _ _ _ _ bj (hr.mono (by decide)) rfl bi bg.kp bh .nil GU (@Ga _ _ _ _ _ (pv 0) (@Ga _ _ _ _ _ (pv 3) (@Ga _ _ _ _ _ (pv 6) (@Ga _ _ _ _ _ (pv 8) (@Ga _ _ _ _ _ (pv 4) Gf rfl) rfl) rfl) rfl) rfl) (by decide) rfl rfl) rfl (by first | exact .inl rfl | exact .inr rfl))
    (@Gg _ _ _ (UO aE (pv 10) (pv 11) (@Gw _ _ _ _ _ _ _ _ G0 (VE aE (pv 10) (pv 11) Gd ⟨rfl,rfl,rfl,rfl⟩) Gd) rfl))) (by intro _;rfl))
    (@Gg _ _ _ (@Gy _ _ _ _ (@JE _ _ _ _ _ (@Ga _ _ _ _ _ (pv 3) (@Ga _ _ _ _ _ (pv 6) (@Ga _ _ _ _ _ (GA (Zc2 K rfl aF) rfl aC PyProof.Rows.boot_sorted (@Ga _ _ _ _ _ (ZdI PySem.F.plainAttrs_dict PySem.F.slot_dict_items PySem.F.type_dict_items Zbz (pv 10)) Gf rfl)) Gf rfl) rfl) rfl)))))))))))))),?_⟩
  refine ⟨_,rfl,cell,240,3,rfl,by decide,by decide,by decide,λG a5 H1 s1 b8 bm rl rr=>?_⟩;dsimp only [Jd];refine ⟨_,rfl,_,_,rfl,rfl,⟨by decide,by decide,by decide⟩,_,_,rfl,rfl,⟨by decide,OK⟩,_,rfl,wb,_,_,_,rfl,rfl,SqT.of (s1 _ _ W.w),Gi (j:=0) rfl,_,k,rfl,k2,by lia,λen s t H2 s2 b9 bn ar hs ht=>?_⟩;have S2:=s1.trans s2;dsimp only [Jd];refine ⟨_,rfl,wb,l,k,xs,rs,rfl,W.same S2,g,λla H3 s3 bA a6=>?_⟩;have S3:=S2.trans s3;have W3:=W.same S3;have aa:=s3 _ _ bn;have aG:=s3 _ _ (s2 _ _ bm);dsimp only [Jd];refine ⟨Yav _,λe0 bo=>⟨Ybw (by show 1<sizeLine;lia),λL0 ak=>?_⟩⟩;have s4:Same H3 (upd (upd H3 e0 (.lst [])) L0 (.lst [.ref e0])):=(Same.new bo).trans (Same.new ak);have as:upd (upd H3 e0 (.lst [])) L0 (.lst [.ref e0]) L0=some (.lst [.ref e0]):=Gb;have aH:e0≠L0:=λz=>by rw [<-z,Gb] at ak;cases ak
  have aI:upd (upd H3 e0 (.lst [])) L0 (.lst [.ref e0]) e0=some (.lst (([]:List Int).map V.int)):=Gv Gb aH;generalize upd (upd H3 e0 (.lst [])) L0 (.lst [.ref e0])=H4 at s4 as aI ⊢;dsimp only [Jd];refine GO (λσ5 H5=>∃(L:Addr)(ys:List V)(cs:List (List Int)),σ5=[some (.ref wb),some (.int cell),some (.ref G),some (.ref en),some (.ref la),some (.ref L),none,none,none,none,none,none]/\Same H3 H5/\H5 L=some (.lst ys)/\LLs L H5 ys cs/\cs.length<=1/\LsJ rs k s t 0 cs) ?_ (λJ=>?_)
  case _=>
   rintro σ5 H5 ⟨L0,bp,bq,rfl,s5,as,ak,bB,aJ⟩;refine GO (λσ6 H6=>σ6=[some (.ref wb),some (.int cell),some (.ref G),some (.ref en),some (.ref la),some (.ref L0),some (.int 0),none,none,none,none,none]/\H6=H5) ?_ (λJ=>J _ _ ⟨rfl,rfl⟩);rintro σ6 H6 ⟨rfl,rfl⟩;refine GO (λσ7 H7=>σ7=[some (.ref wb),some (.int cell),some (.ref G),some (.ref en),some (.ref la),some (.ref L0),some (.int 0),some (.int 0),none,none,none,none]/\H7=H6) ?_ (λJ=>J _ _ ⟨rfl,rfl⟩);rintro σ7 H7 ⟨rfl,rfl⟩;refine GO (λσ8 H8=>∃(L:Addr)(ys:List V)(cs:List (List Int))(i:Nat)(lo:Int)(v8 v9:Option V),σ8=[some (.ref wb),some (.int cell),some (.ref G),some (.ref en),some (.ref la),some (.ref L),some (.int (i:Int)),some (.int lo),v8,v9,none,none]/\Same H3 H8/\H8 L=some (.lst ys)/\LLs L H8 ys cs/\cs.length<=300/\LsJ rs k s t i cs/\i<=rs.length/\∀j,j<=i->(RJ rs k s t j).length<=1000) ?_ (λJ=>?_)
   case _=>
    rintro σ8 H8 ⟨L,ys,cs,i,lo,v8,v9,rfl,s8,eL,hL,cl,ls,hi,hR⟩;have hu:∀c∈cs,∃(m:List Int)(lab mate:Int->Int),J4 rs k s t c i=some m/\UD rs c=some lab/\HopB rs k s t i (degF rs c) lab/\Mt (degF rs c) lab mate/\wlM rs i k m=U6 rs k i s t (degF rs c) lab mate:=λc hc=>by
     have V:=(ls.va c hc).1;obtain ⟨m,em⟩:=ls.ru c hc;rcases XC ar hs.1 hs.2 ht.1 ht.2 g.2.2.2.1 hi V.2 V.1 with ⟨m',e,lab,h1,h2,mate,h3,mk⟩ | ⟨e,h⟩
     ·rw [em] at e;cases e;exact ⟨m,lab,mate,em,h1,h2,h3,U2 mk⟩
     ·rw [em] at e;cases e
    refine λnu am=>?_;obtain ⟨H9,q_,s9,e9⟩:=nwU (o:=.dT []) am;have e9:H9 nu=some (.dT (([]:KI).map kvI)):=e9;have an:ys.length=cs.length:=Ybu hL;rw [q_];dsimp only [Jd];have S9:=s8.trans s9;refine ⟨_,rfl,L,rfl,⟨_,SqL.of (s9 _ _ eL)⟩,?_⟩;refine Jq (K:=K) (a:=L) (xs:=ys) (λj σ O=>∃(v8 v9 a7:Option V)(acc:KI),σ=[some (.ref wb),some (.int cell),some (.ref G),some (.ref en),some (.ref la),some (.ref L),some (.int (i:Int)),some (.int lo),v8,v9,some (.ref nu),a7]/\SameX nu H9 O/\O nu=some (.dT (acc.map kvI))/\Rep acc (((cs.take j).filterMap λc=>J4 rs k s t c i).map (wlM rs i k)))
     ⟨_,_,_,[],rfl,λ_ _ _ y=>y,e9,Rep.nil⟩ (by rintro j σ O _ ⟨_,_,_,_,_,sx,_⟩;exact SqL.of (sx _ _ (Gh eL am) (s9 _ _ eL))) ?_ ?_
    ·rintro j x σ O U ⟨v8,v9,a7,acc,rfl,sx,ao,rp⟩;have hj:j<ys.length:=(Yay.mp U).1;obtain ⟨a,c,rfl,na,ha,Y⟩:=hL.get U;have aK:=Ybb Y;have po:=ls.va c aK;obtain ⟨m,lab,mate,em,h1,h2,h3,ew⟩:=hu c aK;have ab:Same H3 O:=λb u y=>sx b u (Gh (s8 _ _ y) am) (S9 _ _ y);refine ⟨_,rfl,_,rfl,_,rfl,_,rfl,_,rfl,?_⟩;refine ⟨wb,l,en,a,la,k,i,xs,rs,c,s,t,lab,mate,rfl,W3.same ab,g,ab _ _ aa,ar,hs,ht,hi,sx _ _ (Gh ha am) (s9 _ _ ha),λq' a8=>by have:=po.1.2 q' a8;lia,ab _ _ a6,h1,h2,h3,λT br ac eT=>?_⟩;rw [<-ew] at eT;dsimp only [Jd];have a9:=ac _ _ ao;have aL:br T=some (.tup (((wlM rs i k m).map (Sum.inl:Int->Key)).map kV)):=by rw [UX];exact eT
     have ev:(OC (acc.map kvI) ((wlM rs i k m).map Sum.inl)).getD (.int 0)=.int ((XF acc (wlM rs i k m)).getD 0):=by rw [Wb];cases XF acc (wlM rs i k m) <;> rfl
     have bC:acc.length<=1000:=by
      refine Ybc rp.len ?_;rw [Yab];refine Ybc (List.length_filterMap_le _ _) ?_;rw [Ybj]
      lia
     refine ⟨_,rfl,nu,rfl,.inr ⟨_,.inl a9⟩,_,rfl,_,DGet.t a9 aL,?_⟩;rw [ev];refine ⟨_,_,rfl,rfl,?_⟩;refine ⟨_,rfl,_,rfl,nu,_,rfl,DPut.t a9 aL (by rw [Yab];lia),?_⟩;rw [XG];refine ⟨_,_,_,ZbP acc (wlM rs i k m) ((XF acc (wlM rs i k m)).getD 0+1),rfl,(sx.trans (SameX.of ac)).trans (λc' u n y=>Gv y n),Gb,?_⟩;have:=rp.put (m:=wlM rs i k m) (n:=1) (by decide);rw [Ybt,Y,List.filterMap_append,Yan];rw [show List.filterMap (λc=>J4 rs k s t c i) (some c).toList=[m] by simp [Option.toList,em]];exact this
    ·rintro σ O ⟨v8,v9,a7,acc,rfl,sx,ao,rp⟩;rw [an,Ybz] at rp;have ab:Same H3 O:=λb u y=>sx b u (Gh (s8 _ _ y) am) (S9 _ _ y);have al:acc.length<=1000:=by
      refine Ybc rp.len ?_;rw [Yab];exact Ybc (List.length_filterMap_le _ _) (by lia)
     refine ⟨_,rfl,_,rfl,_,rfl,.inr (.inr (.inl ⟨rfl,.inr ⟨_,ao⟩⟩)),nu,_,rfl,rfl,ao,λv hv=>?_⟩;have ac:Same O (upd O v (IVw v nu)):=Same.new hv;refine ⟨v,nu,acc,rfl,Gb,ac _ _ ao,al,λLr zs bD bt aM bu hz hp bv=>?_⟩;have aN:=ab.trans (ac.trans bt);refine ⟨by show 3<=sizeLine;lia,λT hT=>?_⟩;obtain ⟨bw,q_,ap,eT⟩:=nwU (o:=.tup [.ref en,.int (i:Int),.ref Lr]) hT;rw [q_];have bx:∀B,H B≠none->Lr≠B:=λB hB z=>by
      cases y:H B with
      | none=>exact hB y
      | some u=>rw [z,ac _ _ (ab _ _ (S3 _ _ y))] at aM;cases aM
     refine q _ bw (S3.trans (aN.trans ap)) λB hB=>⟨T,en,Lr,i,s,t,zs,acc,rfl,bx B hB,eT,(aN.trans ap) _ _ aa,ar,hs,ht,hi,hR,ap _ _ bu,λz aO=>⟨ap _ _ (hz z aO).1,ap _ _ (hz z aO).2⟩,hp,rp.perm (ls.pm.map _),bv⟩
   ·obtain ⟨r2,bz,bE⟩:∃r2,atI (a5.map V.int) 2=some (.int r2)/\0<=r2:=by
     have h2:2<a5.length:=by lia
     refine ⟨a5[2],Gi (j:=2) (by rw [Yaw,Yax h2];rfl),(rr _ (Ycq h2)).1⟩
    have hN:0<=r2 % ((xs.length:Int)+1)/\r2 % ((xs.length:Int)+1)<(xs.length:Int)+1:=⟨Ycw _ (by lia),Ycx _ (by lia)⟩;obtain ⟨N,eN⟩:=Int.eq_ofNat_of_zero_le hN.1;refine ⟨λm σ H8=>∃(L:Addr)(ys:List V)(cs:List (List Int))(i:Nat)(lo:Int)(v8 v9:Option V),m=N-i/\i<=N/\σ=[some (.ref wb),some (.int cell),some (.ref G),some (.ref en),some (.ref la),some (.ref L),some (.int (i:Int)),some (.int lo),v8,v9,none,none]/\Same H3 H8/\H8 L=some (.lst ys)/\LLs L H8 ys cs/\cs.length<=300/\(0<=lo/\(cs.length:Int)<=lo+1)/\LsJ rs k s t i cs/\∀j,j<=i->(RJ rs k s t j).length<=1000,⟨N,L0,bp,bq,0,0,none,none,rfl,Yav _,rfl,s5,as,ak,by lia,⟨by lia,by lia⟩,aJ,λj hj=>?_⟩,?_⟩
    ·have:j=0:=by lia
     subst this;exact Ybc aJ.len (by lia)
    rintro m σ H8 ⟨L,ys,cs,i,lo,v8,v9,rfl,bF,rfl,s8,eL,hL,cl,bG,ls,hR⟩;have bH:N<=rs.length:=by lia
    have W8:=W3.same s8;refine ⟨_,rfl,_,rfl,G,_,_,_,rfl,rfl,SqL.of (s8 _ _ aG),bz,_,rfl,wb,_,_,_,rfl,rfl,SqT.of W8.w,Gi (j:=1) rfl,l,_,rfl,.inl (SqL.of W8.l),_,_,rfl,rfl,_,_,rfl,rfl,(by show (0:Int)<(xs.length:Int)+1;lia),_,_,rfl,rfl,_,rfl,?_⟩;have fin:∃(L':Addr)(ys':List V)(cs':List (List Int))(i':Nat)(lo':Int)(v8' v9':Option V),[some (V.ref wb),some (.int cell),some (.ref G),some (.ref en),some (.ref la),some (.ref L),some (.int (i:Int)),some (.int lo),v8,v9,none,none]=[some (.ref wb),some (.int cell),some (.ref G),some (.ref en),some (.ref la),some (.ref L'),some (.int (i':Int)),some (.int lo'),v8',v9',none,none]/\Same H3 H8/\H8 L'=some (.lst ys')/\LLs L' H8 ys' cs'/\cs'.length<=300/\LsJ rs k s t i' cs'/\i'<=rs.length/\∀j,j<=i'->(RJ rs k s t j).length<=1000:=⟨L,ys,cs,i,lo,v8,v9,rfl,s8,eL,hL,cl,ls,by lia,hR⟩;by_cases c1:(i:Int)<r2 % ((xs.length:Int)+1)
    ·rw [Yae c1];refine GY ⟨_,rfl,_,_,rfl,rfl,_,rfl,?_⟩;by_cases c2:lo<=120
     ·rw [Yae c2];refine GY ⟨_,λ_ _ h=>h,?_⟩;have hi:i<N:=by lia
      have b5:cs.length<=121:=by lia
      refine ⟨_,rfl,_,rfl,L,rfl,⟨_,SqL.of eL⟩,λD hD=>?_⟩;refine G3 (K:=K) (a:=L) (xs:=ys) (λj zs H4=>Same H8 H4/\H4 D=some (.lst zs)/\zs.length=j/\LLs D H4 zs ((cs.take j).map (·++[(i:Int)]))) ⟨Same.new hD,Gb,rfl,.nil⟩ (by rintro j zs H4 _ ⟨s4,_⟩;exact SqL.of (s4 _ _ eL)) ?_ ?_
      ·rintro j x zs H4 U ⟨s4,au,zl,hz⟩;have hj:j<ys.length:=(Yay.mp U).1;obtain ⟨a,c,rfl,na,ha,Y⟩:=hL.get U;have bI:=(ls.va c (Ybb Y)).2;refine ⟨⟨rfl,trivial⟩,?_⟩;unfold WW;refine GY ?_;refine ⟨_,rfl,_,rfl,Ybw (by show 1<sizeLine;lia),λo1 b0=>?_⟩;obtain ⟨ad,q_,Z,b1⟩:=nwU (o:=.lst [.int (i:Int)]) b0;rw [q_];refine ⟨a,o1,_,_,rfl,rfl,(s4.trans Z) _ _ ha,b1,by rw [Yab];show c.length+1<=_;lia,λp hp=>?_⟩;have pD:p≠D:=λz=>by rw [z,Z _ _ au] at hp;cases hp
       have av:Same ad (upd ad p (.lst (c.map V.int++[.int (i:Int)]))):=Same.new hp;have ep:upd ad p (.lst (c.map V.int++[.int (i:Int)])) p=some (.lst ((c++[(i:Int)]).map V.int)):=by rw [Gb,Yan];rfl
       generalize upd ad p (.lst (c.map V.int++[.int (i:Int)]))=bJ at av ep ⊢;have S6:=(s4.trans Z).trans av;have an:ys.length=cs.length:=Ybu hL;refine ⟨(Z.trans av) _ _ au,by lia,S6.put hD,Gb,by rw [Yaq,Ych,zl],?_⟩;rw [Ybt,Y,Yan];exact ((hz.same (Z.trans av)).snoc pD ep).put
      rintro zs H4 ⟨s4,au,zl,hz⟩;have an:ys.length=cs.length:=Ybu hL;rw [an,Ybz] at hz;refine ⟨L,D,_,_,rfl,rfl,s4 _ _ eL,au,by lia,λM hM=>?_⟩;have Z:Same H4 (upd H4 M (.lst (ys++zs))):=Same.new hM;have eM:upd H4 M (.lst (ys++zs)) M=some (.lst (ys++zs)):=Gb;have hm:LLs M (upd H4 M (.lst (ys++zs))) (ys++zs) (cs++cs.map (·++[(i:Int)])):=(((hL.same s4).to hM).app (hz.to hM)).put;have ml:(ys++zs).length=2 * cs.length:=by rw [Yaq,zl,an];lia
      have aA:=ls.next;have vm:∀c∈cs++cs.map (·++[(i:Int)]),Valid c (i+1)/\c.length<=i+1:=λc hc=>by
       rcases Yap.mp hc with u | u
       ·have:=ls.va c u;exact ⟨this.1.up,by lia⟩
       ·obtain ⟨c',b2,rfl⟩:=Yba.mp u;have:=ls.va c' b2;exact ⟨this.1.snoc,by rw [Yaq,Ych];lia⟩
      generalize upd H4 M (.lst (ys++zs))=ad at Z eM hm ⊢;generalize ys++zs=ms at eM hm ml ⊢;generalize cs++cs.map (·++[(i:Int)])=ds at hm aA vm;have b3:ms.length=ds.length:=Ybu hm;have S5:=(s8.trans s4).trans Z
      try dsimp only [Jd]
      refine ⟨_,rfl,_,rfl,M,_,rfl,.inl (SqL.of eM),_,_,rfl,rfl,?_⟩
      try dsimp only [Jd]
      refine ⟨_,rfl,_,_,rfl,rfl,?_⟩
      try dsimp only [Jd]
      refine ⟨_,rfl,M,rfl,⟨_,SqL.of eM⟩,λD2 aB=>?_⟩;refine G3 (K:=K) (a:=M) (xs:=ms) (λj us H6=>Same ad H6/\H6 D2=some (.lst us)/\us.length<=j/\LLs D2 H6 us ((ds.take j).filter λc=>(J4 rs k s t c (i+1)).isSome)) ⟨Same.new aB,Gb,Yaf _,.nil⟩ (by rintro j us H6 _ ⟨s6,_⟩;exact SqL.of (s6 _ _ eM)) ?_ ?_
      ·rintro j x us H6 U ⟨s6,aw,ul,ae⟩;have hj:j<ms.length:=(Yay.mp U).1;obtain ⟨a,c,rfl,na,ha,Y⟩:=hm.get U;have po:=vm c (Ybb Y);have S6:=S5.trans s6;have W6:=W3.same S6;refine ⟨⟨rfl,rfl,rfl,rfl,trivial⟩,?_⟩;refine ⟨_,rfl,_,rfl,_,rfl,_,rfl,_,rfl,?_⟩;refine ⟨wb,l,en,a,la,k,xs,rs,c,s,t,(i:Int)+1,rfl,W6,g,S6 _ _ aa,hs,ht,s6 _ _ ha,λq' a8=>by have:=po.1.2 q' a8;lia,S6 _ _ a6,λb H7 s7 hb=>⟨b,rfl,?_⟩⟩;have aP:b=(J4 rs k s t c (i+1)).isSome:=by
        rw [show (i:Int)+1=((i+1:Nat):Int) by push_cast;rfl] at hb;rcases XC ar hs.1 hs.2 ht.1 ht.2 g.2.2.2.1 (show i+1<=rs.length by lia) po.1.2 po.1.1 with ⟨m,e,lab,h1,h2,_⟩ | ⟨e,h⟩
        ·rw [e];exact hb.mpr ⟨lab,h1,h2⟩
        ·rw [e];cases b with
         | false=>rfl
         | true=>exact absurd (hb.mp rfl) h
       rw [Ybt,Y,List.filter_append];cases b with
       | false=>
        rw [show List.filter (λc=>(J4 rs k s t c (i+1)).isSome) (some c).toList=[] by simp [Option.toList,<-aP],Ycg];exact G5 ⟨s6.trans s7,s7 _ _ aw,by lia,ae.same s7⟩
       | true=>
        rw [show List.filter (λc=>(J4 rs k s t c (i+1)).isSome) (some c).toList=[c] by simp [Option.toList,<-aP]];refine GY ?_;refine ⟨_,rfl,s7 _ _ aw,by lia,(s6.trans s7).put aB,Gb,by rw [Yaq,Ych];lia,?_⟩;exact ((ae.same s7).snoc (Gh ha aB) ((s6.trans s7) _ _ ha)).put
      rintro us H6 ⟨s6,aw,ul,ae⟩;rw [b3,Ybz] at ae;have bK:=Ybu ae;refine ⟨N-(i+1),by lia,D2,us,_,i+1,lo+(ms.length:Int),_,_,rfl,by lia,rfl,S5.trans s6,aw,ae,by lia,⟨by lia,by lia⟩,aA,λj hj=>?_⟩;by_cases z:j<=i
      ·exact hR j z
      ·have:j=i+1:=by lia
       subst this;exact Ybc aA.len (by lia)
     ·rw [Yai c2];exact G5 (J _ _ fin)
    ·rw [Yai c1];exact G5 (G5 (J _ _ fin))
  ·have ay:=s4 _ _ aa;have az:=s4 _ _ a6;have empty:¬ (0<=Gs rs s/\0<=Gs rs t)->∀L2:Addr,H4 L2=none->∃(L:Addr)(ys:List V)(cs:List (List Int)),[some (V.ref wb),some (.int cell),some (.ref G),some (.ref en),some (.ref la),some (.ref L2),none,none,none,none,none,none]=[some (.ref wb),some (.int cell),some (.ref G),some (.ref en),some (.ref la),some (.ref L),none,none,none,none,none,none]/\Same H3 (upd H4 L2 (.lst []))/\upd H4 L2 (.lst []) L=some (.lst ys)/\LLs L (upd H4 L2 (.lst [])) ys cs/\cs.length<=1/\LsJ rs k s t 0 cs:=λb4 L2 aq=>⟨L2,[],[],rfl,s4.trans (Same.new aq),Gb,.nil,Yav _,LsJ.start.2 b4⟩;refine ⟨_,rfl,_,rfl,en,_,_,_,rfl,rfl,SqT.of ay,Gi (j:=0) rfl,la,_,_,_,rfl,rfl,SqL.of az,GQ hs.1 hs.2,_,_,rfl,rfl,_,rfl,?_⟩;by_cases z1:Gs rs s<0
   ·rw [Yae z1];exact GY (GY ⟨Yav _,λL2 aq=>J _ _ (empty (λy=>by lia) L2 aq)⟩)
   rw [Yai z1];refine G5 ?_;refine ⟨_,rfl,_,rfl,en,_,_,_,rfl,rfl,SqT.of ay,Gi (j:=1) rfl,la,_,_,_,rfl,rfl,SqL.of az,GQ ht.1 ht.2,_,_,rfl,rfl,_,rfl,?_⟩;by_cases z2:Gs rs t<0
   ·rw [Yae z2];exact GY ⟨Yav _,λL2 aq=>J _ _ (empty (λy=>by lia) L2 aq)⟩
   rw [Yai z2];exact G5 (J _ _ ⟨L0,_,[[]],rfl,s4,as,.cons ⟨e0,rfl,aH,aI⟩ .nil,Yaf _,LsJ.start.1 ⟨by lia,by lia⟩⟩)
noncomputable def tiD (p:List Int×Int):PyData:=.tuple [.tuple (p.1.map PyData.int),.int p.2]
theorem Zcp:∀q:KI,PyData.canLayAll0 (q.map tiD)=true
 | []=>by simp [PyData.canLayAll0]
 | l::q=>by
  have ih:=Zcp q;rw [Ybe];simp [tiD,PyData.canLayAll0,PyData.canLay0,VA l.1,ih]
theorem YD:∀q:KI,PyData.depthAll (q.map tiD)<=3
 | []=>by simp [PyData.depthAll]
 | l::q=>by
  have ih:=YD q;have:=Uf l.1;rw [Ybe];simp only [tiD,PyData.depthAll,PyData.depth]
  lia
theorem WV (q:KI):SeqAt.shaped (.list (q.map tiD))=true:=by
 unfold SeqAt.shaped;rw [Ycj];refine ⟨by simp only [PyData.canLay0];exact Zcp q,Yae ?_⟩;have:=YD q;simp only [PyData.depth]
 lia
theorem Zcq:∀q:KI,PyData.eqvAll (q.map tiD) (q.map tiD)=true
 | []=>by simp [PyData.eqvAll]
 | l::q=>by
  have ih:=Zcq q;have h:=VB l.1 l.1;rw [Yae rfl] at h;simp only [PyData.eqv] at h;rw [Ybe];simp only [PyData.eqvAll,tiD,PyData.eqv,h,ih,Bool.and_self,decide_true,beq_self_eq_true]
theorem ZeE (q:KI):PyData.eqv (.list (q.map tiD)) (.list (q.map tiD))=true:=by
 simp only [PyData.eqv];exact Zcq q
theorem XJ {H:Hp}:∀{zs:List TI2},(∀z∈zs,H z.1=some (.tup [.ref z.2.1,.int z.2.2.2])/\H z.2.1=some (.tup (z.2.2.1.map V.int)))->DatVs K H (zs.map λz=>V.ref z.1) ((zs.map (·.2.2)).map tiD)
 | [],_=>.nil
 | z::zs,h=>.cons (.tup (SqT.of (h z (by simp)).1) (.cons (.tup (SqT.of (h z (by simp)).2) (UK z.2.2.1)) (.cons (.int _) .nil))) (XJ (zs:=zs) λy hy=>h y (by simp [hy]))
theorem Zdj (rs:List (Int×Int))(n k:Nat)(m:List Int):(wlM rs n k m).length<=k+1:=by
 unfold wlM;rw [Yaq,Yab];have h1:(frL rs n k).length<=k:=by
  refine Ybc (Yct _ _) ?_;rw [GS];exact Yaf _
 have h2:(if m.getD (m.length-1) 0=0 then [(0:Int)] else []).length<=1:=by
  by_cases z:m.getD (m.length-1) 0=0
  ·rw [if_pos z];exact Yaf _
  ·rw [if_neg z];exact Yav _
 lia
noncomputable def ZbU (K:W.Frag):Sp:=λvs H Q _=>∃(a:Addr)(ns:List Int),vs=[.ref a]/\SqL K H a (ns.map V.int)/\ns.length<=63/\∀H',Q (.bl true) H'
theorem scLaw:Gu ["script", "cell", "web", "asked", "handed", "ends", "i", "due", "found"] ["script"] (Ge ZbB):=⟨rfl,rfl,rfl,by decide +kernel,rfl,by decide +kernel,by decide +kernel⟩
theorem ZeF {f ap aq ar as au av C1 C2:Addr}{fd Z aa ab ac ad ae:FuncData}(F:Fun K "law" "law" ZbB f fd)(aw:Fun K "_law_cell_at" "_law_cell_at" Zc8 ap Z)(ax:Binds K Z ["script", "k"] [])(ay:mg "_law_cell_at" = some (.ref ap))(az:GV P w K mg base CX0 1 ap Z ["script", "k"] (Zei K))(a9:Fun K "_law_web" "_law_web" Zc9 aq aa)(aA:Binds K aa ["cell", "least", "most", "most_roads"] [])(aB:mg "_law_web" = some (.ref aq))(aC:GV P w K mg base CX0 2 aq aa ["cell", "least", "most", "most_roads"] Zek)(aO:Fun K "_law_grid" "_law_grid" sGd ar ab)(aP:Binds K ab ["rows", "columns"] [])(aQ:mg "_law_grid" = some (.ref ar))(aR:GV P w K mg base CX0 1 ar ab ["rows", "columns"] Zgp)(aS:Fun K "_law_asked" "_law_asked" sAs as ac)(aT:Binds K ac ["web", "cell"] [])(aU:mg "_law_asked" = some (.ref as))(aV:GV P w K mg base CX0 3 as ac ["web", "cell"] Zgv)(aW:Fun K "walls" "walls" sWs au ad)(aX:Binds K ad ["web", "one", "other", "i"] [])(aY:mg "walls" = some (.ref au))(aZ:GV P w K mg base (CXr P w) 6 au ad ["web", "one", "other", "i"] (Zgt C1 C2))(ba:Fun K "_law_rows" "_law_rows" sRw av ae)(bb:Binds K ae ["found"] [])(bc:mg "_law_rows" = some (.ref av))(bd:GV P w K mg base CX0 2 av ae ["found"] Zgu)(aD:mg "list" = none):GV P w K mg base CX0 7 f fd ["script"] (ZbU K):=by
 refine F.ok scLaw (λvs H Q E h=>?_) (λbw A be s0 H vs Q E hr h=>?_)
 ·obtain ⟨_,_,rfl,_⟩:=h
  rfl
 ·obtain ⟨a,ns,rfl,hS,qV,q⟩:=h;have hu:=hr.units;have bx:=Ybf.symm;refine ⟨_,(@Gc _ _ _ _ _ (@Go _ _ 1 _ _ _ _ scLaw.nd rfl (Or.inl rfl) (@Gk _ _ _ _ _ _ _ _ _ _ _ _ _ _ _ _ az (hr.mono (by decide)) rfl ay aw.kp ax .nil GU (@Ga _ _ _ _ _ (pv 0) (@Ga _ _ _ _ _ Gd Gf rfl) rfl) (by decide) rfl rfl) rfl (by first | exact .inl rfl | exact .inr rfl))
    (@Gc _ _ _ _ _ (@Go _ _ 2 _ _ _ _ scLaw.nd rfl (Or.inr rfl) (@Gk _ _ _ _ _ _ _ _ _ _ _ _ _ _ _ _ aC (hr.mono (by decide)) rfl aB a9.kp aA .nil GU (@Ga _ _ _ _ _ (pv 1) (@Ga _ _ _ _ _ Gd (@Ga _ _ _ _ _ Gd (@Ga _ _ _ _ _ Gd Gf rfl) rfl) rfl) rfl) (by decide) rfl rfl) rfl (by first | exact .inl rfl | exact .inr rfl))
    (@Gc _ _ _ _ _ (@G4 _ _ _ _ _ _ _ _ (Gm JK (@Gw _ _ _ _ _ _ _ _ Js (@Gk _ _ _ _ _ _ _ _ _ _ _ _ _ _ _ _ az (hr.mono (by decide)) rfl ay aw.kp ax .nil GU (@Ga _ _ _ _ _ (pv 0) (@Ga _ _ _ _ _ Gd Gf rfl) rfl) (by decide) rfl rfl) Gd) Gd (Gx _)) (@Gg _ _ _ (@Go _ _ 2 _ _ _ _ scLaw.nd rfl (Or.inr rfl) (@Gk _ _ _ _ _ _ _ _ _ _ _ _ _ _ _ _ aC (hr.mono (by decide)) rfl aB a9.kp aA .nil GU (@Ga _ _ _ _ _ (pv 1) (@Ga _ _ _ _ _ Gd (@Ga _ _ _ _ _ Gd (@Ga _ _ _ _ _ Gd Gf rfl) rfl) rfl) rfl) (by decide) rfl rfl) rfl (by first | exact .inl rfl | exact .inr rfl))) Gz)
    (@Gc _ _ _ _ _ (@G4 _ _ _ _ _ _ _ _ (Gm JK (@Gw _ _ _ _ _ _ _ _ Js (@Gk _ _ _ _ _ _ _ _ _ _ _ _ _ _ _ _ az (hr.mono (by decide)) rfl ay aw.kp ax .nil GU (@Ga _ _ _ _ _ (pv 0) (@Ga _ _ _ _ _ Gd Gf rfl) rfl) (by decide) rfl rfl) Gd) Gd (Gx _)) (@Gg _ _ _ (@Go _ _ 2 _ _ _ _ scLaw.nd rfl (Or.inr rfl) (@Gk _ _ _ _ _ _ _ _ _ _ _ _ _ _ _ _ aR (hr.mono (by decide)) rfl aQ aO.kp aP .nil GU (@Ga _ _ _ _ _ (@Gw _ _ _ _ _ _ _ _ G0 Gd (@Gw _ _ _ _ _ _ _ _ Js (pv 1) Gd)) (@Ga _ _ _ _ _ (@Gw _ _ _ _ _ _ _ _ G0 Gd (@Gw _ _ _ _ _ _ _ _ Js (@Gw _ _ _ _ _ _ _ _ On (pv 1) Gd) Gd)) Gf rfl) rfl) (by decide) rfl rfl) rfl (by first | exact .inl rfl | exact .inr rfl))) Gz)
    (@Gc _ _ _ _ _ (OH (i:=3) scLaw.nd rfl (Or.inl rfl) (own:=["one"]) rfl (Gq (fr:=[("web", 2)]) [(".0", .local),("one", .local),("_law_asked", .globalImplicit),("web", .cell)] rfl rfl (by decide +kernel) rfl (by decide +kernel) ⟨rfl,trivial⟩ ⟨λh=>G6 h,λh=>G6 h,λh=>G6 h,λ_=>⟨_,rfl⟩,trivial⟩ ⟨⟨rfl,.inl rfl,.inl rfl⟩,trivial⟩) (JL K (@Gw _ _ _ _ _ _ _ _ Vb (OM (kSl K) (pv 0) (OG Gd) (OG Gd)) (@Jh _ _ _ _ (@Ga _ _ _ _ _ (@Gw _ _ _ _ _ _ _ _ On (pv 1) Gd) Gf rfl)))) (λ_ _ _ _=>Gj (i:=0) (show List.Nodup (["one", "web"]:List Str) by decide +kernel) rfl (Or.inl rfl)) (λ_ _ _ _=>GZ) (λ_ _ _ _=>Gk aV (hr.mono (by decide)) rfl aU aS.kp aT .nil GU (@Ga _ _ _ _ _ (pv 1) (@Ga _ _ _ _ _ (pv 0) Gf rfl) rfl)))
    (@Gc _ _ _ _ _ (@Go _ _ 4 _ _ _ _ scLaw.nd rfl (Or.inl rfl) (@JE _ _ _ _ _ (@Ga _ _ _ _ _ (@Gn _ _ _ _ _ _ _ (Jg K) (pv 2) Gd (λ_ _=>rfl)) (@Ga _ _ _ _ _ (G8 (Xg K) rfl aD OS (@Ga _ _ _ _ _ (@Gn _ _ _ _ _ _ _ (Jg K) (pv 2) Gd (λ_ _=>rfl)) Gf rfl)) Gf rfl) rfl)) rfl (by first | exact .inl rfl | exact .inr rfl))
    (@Gc _ _ _ _ _ (@Jf _ _ _ _ _ _ _ _ Ybq rfl (JL K (@Gw _ _ _ _ _ _ _ _ Vb (pv 3) (ZO K (pv 3) Vt (Xb OI Gd)))) (Zb4 K (n:=3) rfl (GT (Gj (i:=5) scLaw.nd rfl (Or.inl rfl)) (GT (Gj (i:=6) scLaw.nd rfl (Or.inl rfl)) (GT (Gj (i:=7) scLaw.nd rfl (Or.inl rfl)) J6))))
    (@Gc _ _ _ _ _ (@Go _ _ 8 _ _ _ _ scLaw.nd rfl (Or.inl rfl) (@Gk _ _ _ _ _ _ _ _ _ _ _ _ _ _ _ _ aZ (hr.mono (by decide)) rfl aY aW.kp aX .nil ZcK (@Ga _ _ _ _ _ (pv 4) (@Ga _ _ _ _ _ (@Gn _ _ _ _ _ _ _ (Jg K) (pv 5) Gd (λ_ _=>rfl)) (@Ga _ _ _ _ _ (@Gn _ _ _ _ _ _ _ (Jg K) (pv 5) Gd (λ_ _=>rfl)) (@Ga _ _ _ _ _ (pv 6) Gf rfl) rfl) rfl) rfl) (by decide) rfl rfl) rfl (by first | exact .inl rfl | exact .inr rfl))
    (@Gc _ _ _ _ _ (@G4 _ _ _ _ _ _ _ _ (PW.pt (Ox (JB (Jl (@Gk _ _ _ _ _ _ _ _ _ _ _ _ _ _ _ _ bd (hr.mono (by decide)) rfl bc ba.kp bb .nil GU (@Ga _ _ _ _ _ (pv 8) Gf rfl) (by decide) rfl rfl))) (Ox (Gm (ZeJ K hu) (pv 8) (pv 7) (Gx _)) (J5 (Gm (ZeJ K hu) (pv 4) (pv 2) (Gx _)))))) (@Gg _ _ _ (@Gy _ _ _ _ Uu)) Gz)
    (@Gg _ _ _ (Jm (U3 Ydg Yea Yeb Ji (pv 8) (@Ga _ _ _ _ _ Gd Gf rfl)))))) (by intro _;rfl))
    (@Gg _ _ _ (@Gy _ _ _ _ Uu))))))))),?_⟩
  refine ⟨_,rfl,a,ns,0,rfl,hS,λG=>?_⟩;refine ⟨_,rfl,G,2,7,12,rfl,by decide,by decide,by decide,by decide,λN l xs k rs H1 s1 aE hl ai el pr good k2=>?_⟩
  try dsimp only [Jd]
  refine GO (λσ' H'=>∃(N l:Addr)(k:Nat)(xs:List V)(rs:List (Int×Int)),σ'=[some (.ref a),some (.int G),some (.ref N),none,none,none,none,none,none]/\Same H H'/\WebAt H' N l (k:Int) xs rs/\GX (k:Int) rs/\2<=k) ?aft1 ?web1
  case web1=>
   intro hk;have k2:(2:Int)<=k:=k2;obtain ⟨kn,rfl⟩:=Int.eq_ofNat_of_zero_le (show 0<=k by lia);refine ⟨_,rfl,a,ns,1,rfl,s1.seq hS,λz1=>?_⟩;refine ⟨_,_,rfl,rfl,(by show (0:Int)<8;decide),rfl,_,rfl,?_⟩;refine YK (λ_=>?_) (λ_=>hk _ _ ⟨N,l,kn,xs,rs,rfl,s1,⟨ai,el,pr⟩,good,by lia⟩);refine ⟨_,rfl,G,8,12,20,rfl,by decide,by decide,by decide,by decide,λN l xs k rs H2 s2 aE hl ai el pr good k9=>?_⟩;have k9:(8:Int)<=k:=k9;obtain ⟨kn,rfl⟩:=Int.eq_ofNat_of_zero_le (show 0<=k by lia);exact hk _ _ ⟨N,l,kn,xs,rs,rfl,s1.trans s2,⟨ai,el,pr⟩,good,by lia⟩
  clear good k2 pr el ai hl aE s1;rintro σ' H1 ⟨N,l,k,xs,rs,rfl,s1,W,g,k2⟩;refine GO (λσ' H'=>∃(N l:Addr)(k:Nat)(xs:List V)(rs:List (Int×Int)),σ'=[some (.ref a),some (.int G),some (.ref N),none,none,none,none,none,none]/\Same H H'/\WebAt H' N l (k:Int) xs rs/\GX (k:Int) rs/\2<=k) ?aft2 ?web2
  case web2=>
   intro hk;refine ⟨_,rfl,a,ns,1,rfl,s1.seq hS,λz1=>?_⟩;refine ⟨_,_,rfl,rfl,(by show (0:Int)<8;decide),rfl,_,rfl,?_⟩;refine YK (λ_=>?_) (λ_=>hk _ _ ⟨N,l,k,xs,rs,rfl,s1,W,g,k2⟩);have a0:=Ycw G (show (2:Int)≠0 by decide);have a1:=Ycx G (show (0:Int)<2 by decide);have b0:=Ycw (G / 2) (show (3:Int)≠0 by decide);have b1:=Ycx (G / 2) (show (0:Int)<3 by decide);refine ⟨_,rfl,_,_,rfl,rfl,(by show (0:Int)<2;decide),_,_,rfl,rfl,_,rfl,_,_,rfl,rfl,⟨by decide,OK⟩,_,_,rfl,rfl,(by show (0:Int)<3;decide),_,_,rfl,rfl,(G % 2).toNat+2,(G / 2 % 3).toNat+2,?_,by lia,by lia,by lia,by lia,λwb l xs rs H2 s2 W2 g2=>?_⟩
   ·rw [show (((G % 2).toNat+2:Nat):Int)=2+G % 2 by lia,show (((G / 2 % 3).toNat+2:Nat):Int)=2+G / 2 % 3 by lia]
    rfl
   ·exact hk _ _ ⟨wb,l,_,xs,rs,rfl,s1.trans s2,W2,g2,Ybc (show 2<=2 * 2 by decide) (Nat.mul_le_mul (by lia) (by lia))⟩
  clear k2 g W s1;rintro σ' H1 ⟨N,l,k,xs,rs,rfl,s1,W,g,k2⟩;have bz:=W.p.len;have g3:=g.2.2.1;have gk:=g.2.1
  try dsimp only [Jd]
  refine ⟨_,rfl,_,rfl,_,rfl,a,_,rfl,s1.seq hS,λc1 bf=>?_⟩;generalize hcut:Uc (ns.map V.int) (some 2) (some 4)=cs;have bg:∃ms:List Int,cs=ms.map V.int/\ms.length<=63:=by
   rw [<-hcut];refine ⟨(ns.drop (min 2 ns.length)).take (min 4 ns.length-min 2 ns.length),?_,by rw [Ybj,Yco];lia⟩;unfold Uc;rw [show (some (2:Int))=some ((2:Nat):Int) from rfl,show (some (4:Int))=some ((4:Nat):Int) from rfl,HT.sIx_nat,HT.sIx_nat,Yab,List.map_take,List.map_drop]
  obtain ⟨ms,rfl,b2⟩:=bg;obtain ⟨H5,q_,s5,bh⟩:=nwU (o:=.lst (ms.map V.int)) bf;rw [q_];refine ⟨_,rfl,_,_,rfl,rfl,⟨by decide,OK⟩,Ybw (by show 1<sizeLine;lia),λc2 aF=>?_⟩
  try dsimp only [Jd]
  generalize G / 7=z2 at aF ⊢;obtain ⟨H6,q_,s6,bi⟩:=nwU (o:=.lst [.int z2]) aF;rw [q_];refine ⟨c1,c2,_,_,rfl,rfl,s6 _ _ bh,bi,by rw [Yab];show ms.length+1<=_;lia,λc3 bj=>?_⟩;have s7:Same H6 (upd H6 c3 (.lst (ms.map V.int++[.int z2]))):=Same.new bj;have a2:upd H6 c3 (.lst (ms.map V.int++[.int z2])) c3=some (.lst ((ms++[z2]).map V.int)):=by rw [Gb,Yan];rfl
  generalize upd H6 c3 (.lst (ms.map V.int++[.int z2]))=H7 at s7 a2 ⊢;have S7:=(s5.trans s6).trans s7;have W7:=W.same S7;refine ⟨c3,rfl,⟨_,SqL.of a2⟩,λD hD=>?_⟩;refine G3 (K:=K) (a:=c3) (xs:=(ms++[z2]).map V.int) (λj zs H8=>Same H7 H8/\H8 D=some (.lst zs)/\zs.length<=j/\∀x∈zs,AskO H8 D x rs k) ⟨Same.new hD,Gb,Yaf _,λx hx=>by cases hx⟩ (by rintro j zs H8 _ ⟨s8,_⟩;exact SqL.of (s8 _ _ a2)) ?_ ?_
  ·rintro j x zs H8 af ⟨s8,U,zl,hz⟩;have hj:j<((ms++[z2]).map V.int).length:=(Yay.mp af).1;rw [Yab,Yaq,Ych] at hj;rw [Yaw] at af;obtain ⟨ce,_,rfl⟩:=Ydk.mp af;refine ⟨⟨rfl,trivial⟩,?_⟩;unfold WW;refine GY ?_;refine ⟨_,rfl,_,rfl,N,l,k,xs,rs,ce,rfl,W7.same s8,g,k2,λv H9 s9 ha=>?_⟩;refine ⟨s9 _ _ U,by lia,(s8.trans s9).put hD,Gb,by rw [Yaq,Ych];lia,λx hx=>?_⟩;rcases Yap.mp hx with u | u
   ·exact ((hz x u).same s9).put (s9 _ _ U)
   ·rw [Ybo] at u;subst u;exact (ha D (by rw [U];intro z;cases z)).put (s9 _ _ U)
  ·rintro zs H8 ⟨s8,U,zl,ha⟩;rw [Yab,Yaq,Ych] at zl;have W8:=W7.same s8
   try dsimp only [Jd]
   refine ⟨_,rfl,N,_,_,_,rfl,rfl,SqT.of W8.w,Gi (j:=0) rfl,_,rfl,N,_,_,_,rfl,rfl,SqT.of W8.w,Gi (j:=1) rfl,l,_,rfl,.inl (SqL.of W8.l),λhl bl=>⟨JS,λhb aG=>?_⟩⟩;have s9:Same H8 (upd (upd H8 hl (.lst xs)) hb (.tup [.int (k:Int),.ref hl])):=(Same.new bl).trans (Same.new aG);have Wh:WebAt (upd (upd H8 hl (.lst xs)) hb (.tup [.int (k:Int),.ref hl])) hb hl (k:Int) xs rs:=⟨Gb,(Same.new aG) _ _ Gb,W8.p.same s9⟩;generalize upd (upd H8 hl (.lst xs)) hb (.tup [.int (k:Int),.ref hl])=H9 at s9 Wh ⊢;have W9:=W8.same s9;have aH:=s9 _ _ U;have aI:∀x∈zs,AskO H9 D x rs k:=λx hx=>(ha x hx).same s9
   try dsimp only [Jd]
   refine ⟨_,rfl,_,rfl,D,_,rfl,SqL.of aH,.inl rfl,λd1 bm=>?_⟩;have a3:Same H9 (upd H9 d1 (.lst (ZeK none zs))):=Same.new bm;have aJ:upd H9 d1 (.lst (ZeK none zs)) d1=some (.lst zs.reverse):=by rw [Gb];rfl
   generalize upd H9 d1 (.lst (ZeK none zs))=b3 at a3 aJ ⊢;refine ⟨D,d1,_,_,rfl,rfl,a3 _ _ aH,aJ,by rw [List.length_reverse];lia,λd2 bn=>?_⟩;obtain ⟨a4,q_,bo,aK⟩:=nwU (o:=.lst (zs++zs.reverse)) bn;rw [q_];have O:=a3.trans bo;have bp:=W9.same O;have an:=Wh.same O;have aL:∀x∈zs++zs.reverse,AskO a4 D x rs k:=λx hx=>by
    rcases Yap.mp hx with u | u
    ·exact (aI x u).same O
    ·exact (aI x (List.mem_reverse.mp u)).same O
   refine ⟨d2,rfl,⟨_,SqL.of aK⟩,?_⟩;refine Jq (K:=K) (a:=d2) (xs:=zs++zs.reverse) (λj σ ag=>∃(w5 w6 w7 w8:Option V),σ=[some (.ref a),some (.int G),some (.ref N),some (.ref D),some (.ref hb),w5,w6,w7,w8]/\Same a4 ag) ⟨_,_,_,_,rfl,Same.refl _⟩ (by rintro j σ ag _ ⟨_,_,_,_,_,Y⟩;exact SqL.of (Y _ _ aK)) ?_ ?_
   ·rintro j x σ ag af ⟨w5,w6,w7,w8,rfl,Y⟩;obtain ⟨T,en,L,n,s,t,us,ps,rfl,nB,h1,h2,bq,hs,ht,hn,hR,h8,h9,pm,rp,so⟩:=((aL x (Ybb af)).same Y).ex;refine ⟨T,_,rfl,SqT.of h1,rfl,_,_,rfl,_,_,rfl,_,_,rfl,rfl,?_⟩
    try dsimp only [Jd]
    refine ⟨_,rfl,_,rfl,en,_,_,_,rfl,rfl,SqT.of h2,Gi (j:=0) rfl,_,rfl,en,_,_,_,rfl,rfl,SqT.of h2,Gi (j:=1) rfl,_,rfl,?_⟩;refine ⟨hb,hl,k,n,xs,rs,s,t,rfl,an.same Y,g,bq,hs,ht,hn,hR,λF aj br b4 ak hF eF al a5 a6 bt=>?_⟩;have e2:aj.map (·.2.2)=us.map (·.2.2):=Vq ((a5.trans (a6.same rp)).trans pm.symm) bt so;have bu:=Y.trans ak
    try dsimp only [Jd]
    refine ⟨_,rfl,F,aj,rfl,eF,λz hz=>⟨(al z hz).1,(al z hz).2,?_⟩,λam B=>?_⟩
    ·have hm:z.2.2∈br:=a5.mem_iff.mp (Yba.mpr ⟨z,hz,rfl⟩);obtain ⟨m,_,em⟩:=Yba.mp (a6.mem hm);rw [<-em];exact Ybc (Zdj rs n k m) (by lia)
    have a7:=bu.trans B;refine ⟨_,rfl,G5 ?_⟩;have bv:∀z∈us,am z.1=some (.tup [.ref z.2.1,.int z.2.2.2])/\am z.2.1=some (.tup (z.2.2.1.map V.int)):=λz hz=>⟨(ak.trans B) _ _ (h9 z hz).1,(ak.trans B) _ _ (h9 z hz).2⟩;have aM:∀z∈aj,am z.1=some (.tup [.ref z.2.1,.int z.2.2.2])/\am z.2.1=some (.tup (z.2.2.1.map V.int)):=λz hz=>⟨B _ _ (al z hz).1,B _ _ (al z hz).2⟩;have dF:=XJ (K:=K) aM;rw [e2] at dF;refine ⟨_,rfl,_,rfl,.list ((us.map (·.2.2)).map tiD),.list ((us.map (·.2.2)).map tiD),.lst (SqL.of (B _ _ eF)) dF,.lst (SqL.of ((ak.trans B) _ _ h8)) (XJ bv),WV _,WV _,_,rfl,?_⟩;rw [ZeE];refine G5 ?_;have a8:=bp.same a7;have ah:=an.same a7;refine ⟨_,rfl,_,rfl,.tuple [.int (k:Int),.list (rs.map prD)],.tuple [.int (k:Int),.list (rs.map prD)],.tup (SqT.of ah.w) (.cons (.int _) (.cons (.lst (SqL.of ah.l) ah.p.dats) .nil)),.tup (SqT.of a8.w) (.cons (.int _) (.cons (.lst (SqL.of a8.l) a8.p.dats) .nil)),Vf _ _,Vf _ _,_,rfl,?_⟩;rw [ZcJ,Yae rfl,Yae rfl];refine G5 ?_;dsimp only [YE];have ao:=B _ _ eF;have ul:aj.length<=1000:=by
     have l1:=a5.length_eq;have l2:=a6.len;rw [Yab] at l1 l2;have:=hR n (Yaf _)
     lia
    refine ⟨_,rfl,.inl ⟨rfl,_,SqL.of ao⟩,F,_,_,rfl,rfl,ao,by rw [Yab];lia,?_⟩;refine ⟨_,_,_,_,rfl,?_⟩;have aN:a4 F=none:=Y.free hF;exact a7.put aN
   ·rintro σ ag _;exact q ag
end
end M
section
open PySem PySem.W PyProof.Rows
noncomputable def M.rowP:Program:=PySem.Challenge.rw_onceways_k16_all_marks.prog
noncomputable def M.seenP:Program:={ M.rowP with main:={ M.rowP.main with body:=[1,2,3,4,6,7,8,9,11,12,13,14,15,16,17,18,19,20,21,22,23,24,25,26,27,28,30,32,33,34,35,36,37,39,40,41,42,43,44,45,46,47,48,49,50,51,52].filterMap (λi=>M.rowP.main.body[i]?) } }
noncomputable def M.loosely:List Str:=[]
noncomputable def M.hookX (s:Shared):Bool:=xlAt M.seenP [] s && recOk (RowW.records (OpenRow.toRowW PySem.Challenge.rw_onceways_k16_all_marks.row)) s
noncomputable def M.atBoot (w:World)(q:OsState):Shared:=⟨boot_heap w.params,Array.mk [],boot_drawn,boot_toks,q⟩
noncomputable def M.topOf (p:Program)(N:Nat)(w:World)(q:OsState):Option Shared:=topRun treeTable p w (M.atBoot w q).heap.objs.size ((M.atBoot w q).heap.nsMap mainGlobals "__annotations__") N (M.atBoot w q) (topStub p)
theorem M.top_run {p:Program}{N:Nat}{w:World}{q:OsState}{s:Shared}(h:topFrom treeTable p w N (M.atBoot w q)=some s):M.topOf p N w q=some s:=by
 unfold topFrom at h;split at h
 ·obtain ⟨B,h1,h2⟩:=Option.bind_eq_some_iff.mp h;split at h2
  ·cases h2;exact h1
  ·cases h2
 ·cases h
theorem M.left_boot {p q:Program}{B:List Str}{D:Shared->Bool}{α:Type}{F:Shared->α}{G:World->α}{N:Nat}(e:opening p=plainProg p.main.scope.names)(O:Nat.ble 600 N=true)(f:∀s,fenceModules? p s=some s)(U:∀(w:World)(os:OsState),(topFrom treeTable p w N (M.atBoot w os)).isSome=true)(ha:∀(w:World)(os:OsState),(M.topOf p N w os).map (openSeen q B (importedModules p.main.body) D true)=some (openGood q B))(Y:∀(w:World)(os:OsState),(M.topOf p N w os).map F=some (G w)) :
  LeftO p q B D F G N:=λw=>by
 obtain ⟨⟨a,b,c,d,os⟩,Z,e2⟩:=Ydk.mp (boot_open e O f w);obtain ⟨rfl,rfl,rfl,rfl⟩:a=boot_heap w.params/\b=Array.mk []/\c=boot_drawn/\d=boot_toks:=by simpa using e2
 obtain ⟨s,L⟩:=Yep.mp (U w os);have h1:=ha w os;have h2:=Y w os;rw [M.top_run L] at h1 h2;unfold openEnds;rw [Z];show (topFrom treeTable p w N (M.atBoot w os)).map _=_;rw [L];simp only [Option.map_some,Option.some.injEq] at h1 h2 ⊢;rw [h1,h2]
set_option maxHeartbeats 0 in
theorem M.topA (w:World)(q:OsState):(M.topOf M.rowP 4196 w q).map (openSeen M.seenP M.loosely (importedModules M.rowP.main.body) M.hookX true)=some (openGood M.seenP M.loosely):=by
 unfold M.topOf;rw [W.Fast.te14082659384304107361,W.Fast.te14364793385576792824,W.Fast.te4187177175401517315];kernel_rfl
set_option maxHeartbeats 0 in
theorem M.topC (w:World)(q:OsState):(topFrom treeTable M.rowP w 4196 (M.atBoot w q)).isSome=true:=by
 unfold topFrom;rw [W.Fast.te14082659384304107361,W.Fast.te14364793385576792824];kernel_rfl
end
namespace M
open PySem L2
theorem Zg5 {α:Type}{l:List α}(h:l.length=0):l=[]:=List.length_eq_zero_iff.mp h
theorem Zdk {α:Type}{l:List α}{n:Nat}(h:l.length=n+1):∃a t,l=a::t/\t.length=n:=by
 cases l with
 | nil=>cases h
 | cons a t=>exact ⟨a,t,rfl,by simpa using h⟩
theorem len1 {α:Type}{l:List α}(h:l.length=1):∃a,l=[a]:=by
 obtain ⟨a,t,rfl,g⟩:=Zdk h;exact ⟨a,by rw [Zg5 g]⟩
theorem WY {α:Type}{l:List α}(h:l.length=2):∃B q,l=[B,q]:=by
 obtain ⟨a,t,rfl,g⟩:=Zdk h;obtain ⟨q,rfl⟩:=len1 g;exact ⟨a,q,rfl⟩
theorem Zdl {α:Type}{l:List α}(h:l.length=3):∃D q B,l=[D,q,B]:=by
 obtain ⟨a,t,rfl,g⟩:=Zdk h;obtain ⟨q,B,rfl⟩:=WY g;exact ⟨a,q,B,rfl⟩
theorem ZeG {α:Type}{l:List α}(h:l.length=4):∃F q B D,l=[F,q,B,D]:=by
 obtain ⟨a,t,rfl,g⟩:=Zdk h;obtain ⟨q,B,D,rfl⟩:=Zdl g;exact ⟨a,q,B,D,rfl⟩
theorem ZfW {α:Type}{l:List α}(h:l.length=5):∃G q B D F,l=[G,q,B,D,F]:=by
 obtain ⟨a,t,rfl,g⟩:=Zdk h;obtain ⟨q,B,D,F,rfl⟩:=ZeG g;exact ⟨a,q,B,D,F,rfl⟩
theorem Zg6 {α:Type}{l:List α}(h:l.length=6):∃L q B D F G,l=[L,q,B,D,F,G]:=by
 obtain ⟨a,t,rfl,g⟩:=Zdk h;obtain ⟨q,B,D,F,G,rfl⟩:=ZfW g;exact ⟨a,q,B,D,F,G,rfl⟩
theorem Zg7 {α:Type}{l:List α}(h:l.length=7):∃N q B D F G L,l=[N,q,B,D,F,G,L]:=by
 obtain ⟨a,t,rfl,g⟩:=Zdk h;obtain ⟨q,B,D,F,G,L,rfl⟩:=Zg6 g;exact ⟨a,q,B,D,F,G,L,rfl⟩
theorem all_mk {l:W.OpenLaw}{w:World}{K:W.Frag}{h:Heap}{mg:Str->Option Value}{fa f1 f2 f3 f4 f5 f6 f7 f8 f9 f10 f11 f12 f13 f14 f15 f16 f17 f18 f19 f20 f21 f22 f23 f24 f25 f26 f27 f28 f29 f30 f31 f32 f33 f34 f35 f36 f37 CE CP CS:Addr}{u0 u1 u2 u3 u4 u5:Tok}(X:K.In h)(G:h.Ns mainGlobals mg)(hfa:mg "law" = some (.ref fa)){od1 an1 od2 an2 od3 an3 od4 an4 od5 an5 od6 an6 od7 an7 od8 an8 od9 an9 od10 an10 od11 an11 od12 an12 od13 an13 od14 an14 od15 an15 od16 an16 od17 an17 od18 an18 od19 an19 od20 an20 od21 an21 od22 an22 od23 an23 od24 an24 od25 an25 od26 an26 od27 an27 od28 an28 od29 an29 od30 an30 od31 an31 od32 an32 od33 an33 od34 an34 od35 an35 od36 an36 od37 an37:Option Addr}{sl1 sl2 sl3 sl4 sl5 sl6 sl7 sl8 sl9 sl10 sl11 sl12 sl13 sl14 sl15 sl16 sl17 sl18 sl19 sl20 sl21 sl22 sl23 sl24 sl25 sl26 sl27 sl28 sl29 sl30 sl31 sl32 sl33 sl34 sl35 sl36 sl37:Array (Option Value)}{oc1 kV1 dc1 pm1 cd1 ct1 oc2 kV2 dc2 pm2 cd2 ct2 oc3 kV3 dc3 pm3 cd3 ct3 oc4 kV4 dc4 pm4 cd4 ct4 oc5 kV5 dc5 pm5 cd5 ct5 oc6 kV6 dc6 pm6 cd6 ct6 oc7 kV7 dc7 pm7 cd7 ct7 oc8 kV8 dc8 pm8 cd8 ct8 oc9 kV9 dc9 pm9 cd9 ct9 oc10 kV10 dc10 pm10 cd10 ct10 oc11 kV11 dc11 pm11 cd11 ct11 oc12 kV12 dc12 pm12 cd12 ct12 oc13 kV13 dc13 pm13 cd13 ct13 oc14 kV14 dc14 pm14 cd14 ct14 oc15 kV15 dc15 pm15 cd15 ct15 oc16 kV16 dc16 pm16 cd16 ct16 oc17 kV17 dc17 pm17 cd17 ct17 oc18 kV18 dc18 pm18 cd18 ct18 oc19 kV19 dc19 pm19 cd19 ct19 oc20 kV20 dc20 pm20 cd20 ct20 oc21 kV21 dc21 pm21 cd21 ct21 oc22 kV22 dc22 pm22 cd22 ct22 oc23 kV23 dc23 pm23 cd23 ct23 oc24 kV24 dc24 pm24 cd24 ct24 oc25 kV25 dc25 pm25 cd25 ct25 oc26 kV26 dc26 pm26 cd26 ct26 oc27 kV27 dc27 pm27 cd27 ct27 oc28 kV28 dc28 pm28 cd28 ct28 oc29 kV29 dc29 pm29 cd29 ct29 oc30 kV30 dc30 pm30 cd30 ct30 oc31 kV31 dc31 pm31 cd31 ct31 oc32 kV32 dc32 pm32 cd32 ct32 oc33 kV33 dc33 pm33 cd33 ct33 oc34 kV34 dc34 pm34 cd34 ct34 oc35 kV35 dc35 pm35 cd35 ct35 oc36 kV36 dc36 pm36 cd36 ct36 oc37 kV37 dc37 pm37 cd37 ct37:Value}(aF1:W.nsIn K mainGlobals "is_place" = some (some (.ref f1)))(lF1:K.lookup f1=some ⟨oc1,od1,.func (W.fnOf "is_place" "is_place" (Gr sIs) (Gp sIs) (Ge sIs) .none kV1 dc1 pm1 an1 cd1 ct1),sl1⟩)(cF1:W.codeIn K cd1 "is_place" = true)(kF1:W.keepIn K (.ref f1)=true)(aF2:W.nsIn K mainGlobals "check_place" = some (some (.ref f2)))(lF2:K.lookup f2=some ⟨oc2,od2,.func (W.fnOf "check_place" "check_place" (Gr Zc3) (Gp Zc3) (Ge Zc3) .none kV2 dc2 pm2 an2 cd2 ct2),sl2⟩)(cF2:W.codeIn K cd2 "check_place" = true)(kF2:W.keepIn K (.ref f2)=true)(aF3:W.nsIn K mainGlobals "beside" = some (some (.ref f3)))(lF3:K.lookup f3=some ⟨oc3,od3,.func (W.fnOf "beside" "beside" (Gr Zc4) (Gp Zc4) (Ge Zc4) .none kV3 dc3 pm3 an3 cd3 ct3),sl3⟩)(cF3:W.codeIn K cd3 "beside" = true)(kF3:W.keepIn K (.ref f3)=true)(aF4:W.nsIn K mainGlobals "marks_of_ends" = some (some (.ref f4)))(lF4:K.lookup f4=some ⟨oc4,od4,.func (W.fnOf "marks_of_ends" "marks_of_ends" (Gr sMe) (Gp sMe) (Ge sMe) .none kV4 dc4 pm4 an4 cd4 ct4),sl4⟩)(cF4:W.codeIn K cd4 "marks_of_ends" = true)(kF4:W.keepIn K (.ref f4)=true)(aF5:W.nsIn K mainGlobals "last_roads" = some (some (.ref f5)))(lF5:K.lookup f5=some ⟨oc5,od5,.func (W.fnOf "last_roads" "last_roads" (Gr sLr) (Gp sLr) (Ge sLr) .none kV5 dc5 pm5 an5 cd5 ct5),sl5⟩)(cF5:W.codeIn K cd5 "last_roads" = true)(kF5:W.keepIn K (.ref f5)=true)(aF6:W.nsIn K mainGlobals "steps_of" = some (some (.ref f6)))(lF6:K.lookup f6=some ⟨oc6,od6,.func (W.fnOf "steps_of" "steps_of" (Gr sSo) (Gp sSo) (Ge sSo) .none kV6 dc6 pm6 an6 cd6 ct6),sl6⟩)(cF6:W.codeIn K cd6 "steps_of" = true)(kF6:W.keepIn K (.ref f6)=true)(aF7:W.nsIn K mainGlobals "first_marks" = some (some (.ref f7)))(lF7:K.lookup f7=some ⟨oc7,od7,.func (W.fnOf "first_marks" "first_marks" (Gr sFm) (Gp sFm) (Ge sFm) .none kV7 dc7 pm7 an7 cd7 ct7),sl7⟩)(cF7:W.codeIn K cd7 "first_marks" = true)(kF7:W.keepIn K (.ref f7)=true)(aF8:W.nsIn K mainGlobals "is_done" = some (some (.ref f8)))(lF8:K.lookup f8=some ⟨oc8,od8,.func (W.fnOf "is_done" "is_done" (Gr sId) (Gp sId) (Ge sId) .none kV8 dc8 pm8 an8 cd8 ct8),sl8⟩)(cF8:W.codeIn K cd8 "is_done" = true)(kF8:W.keepIn K (.ref f8)=true)(aF9:W.nsIn K mainGlobals "is_loose" = some (some (.ref f9)))(lF9:K.lookup f9=some ⟨oc9,od9,.func (W.fnOf "is_loose" "is_loose" (Gr sIl) (Gp sIl) (Ge sIl) .none kV9 dc9 pm9 an9 cd9 ct9),sl9⟩)(cF9:W.codeIn K cd9 "is_loose" = true)(kF9:W.keepIn K (.ref f9)=true)(aF10:W.nsIn K mainGlobals "is_full" = some (some (.ref f10)))(lF10:K.lookup f10=some ⟨oc10,od10,.func (W.fnOf "is_full" "is_full" (Gr sIf) (Gp sIf) (Ge sIf) .none kV10 dc10 pm10 an10 cd10 ct10),sl10⟩)(cF10:W.codeIn K cd10 "is_full" = true)(kF10:W.keepIn K (.ref f10)=true)(aF11:W.nsIn K mainGlobals "is_met" = some (some (.ref f11)))(lF11:K.lookup f11=some ⟨oc11,od11,.func (W.fnOf "is_met" "is_met" (Gr sIm) (Gp sIm) (Ge sIm) .none kV11 dc11 pm11 an11 cd11 ct11),sl11⟩)(cF11:W.codeIn K cd11 "is_met" = true)(kF11:W.keepIn K (.ref f11)=true)(aF12:W.nsIn K mainGlobals "far_end" = some (some (.ref f12)))(lF12:K.lookup f12=some ⟨oc12,od12,.func (W.fnOf "far_end" "far_end" (Gr sFe) (Gp sFe) (Ge sFe) .none kV12 dc12 pm12 an12 cd12 ct12),sl12⟩)(cF12:W.codeIn K cd12 "far_end" = true)(kF12:W.keepIn K (.ref f12)=true)(aF13:W.nsIn K mainGlobals "with_road" = some (some (.ref f13)))(lF13:K.lookup f13=some ⟨oc13,od13,.func (W.fnOf "with_road" "with_road" (Gr sWr) (Gp sWr) (Ge sWr) .none kV13 dc13 pm13 an13 cd13 ct13),sl13⟩)(cF13:W.codeIn K cd13 "with_road" = true)(kF13:W.keepIn K (.ref f13)=true)(aF14:W.nsIn K mainGlobals "left_behind" = some (some (.ref f14)))(lF14:K.lookup f14=some ⟨oc14,od14,.func (W.fnOf "left_behind" "left_behind" (Gr sLb) (Gp sLb) (Ge sLb) .none kV14 dc14 pm14 an14 cd14 ct14),sl14⟩)(cF14:W.codeIn K cd14 "left_behind" = true)(kF14:W.keepIn K (.ref f14)=true)(aF15:W.nsIn K mainGlobals "decided" = some (some (.ref f15)))(lF15:K.lookup f15=some ⟨oc15,od15,.func (W.fnOf "decided" "decided" (Gr sDe) (Gp sDe) (Ge sDe) .none kV15 dc15 pm15 an15 cd15 ct15),sl15⟩)(cF15:W.codeIn K cd15 "decided" = true)(kF15:W.keepIn K (.ref f15)=true)(aF16:W.nsIn K mainGlobals "check_ends" = some (some (.ref f16)))(lF16:K.lookup f16=some ⟨oc16,od16,.func (W.fnOf "check_ends" "check_ends" (Gr Zc6) (Gp Zc6) (Ge Zc6) .none kV16 dc16 pm16 an16 cd16 ct16),sl16⟩)(cF16:W.codeIn K cd16 "check_ends" = true)(kF16:W.keepIn K (.ref f16)=true)(aF17:W.nsIn K mainGlobals "check_step" = some (some (.ref f17)))(lF17:K.lookup f17=some ⟨oc17,od17,.func (W.fnOf "check_step" "check_step" (Gr Zci) (Gp Zci) (Ge Zci) .none kV17 dc17 pm17 an17 cd17 ct17),sl17⟩)(cF17:W.codeIn K cd17 "check_step" = true)(kF17:W.keepIn K (.ref f17)=true)(aF18:W.nsIn K mainGlobals "_law_cell_at" = some (some (.ref f18)))(lF18:K.lookup f18=some ⟨oc18,od18,.func (W.fnOf "_law_cell_at" "_law_cell_at" (Gr Zc8) (Gp Zc8) (Ge Zc8) .none kV18 dc18 pm18 an18 cd18 ct18),sl18⟩)(cF18:W.codeIn K cd18 "_law_cell_at" = true)(kF18:W.keepIn K (.ref f18)=true)(aF19:W.nsIn K mainGlobals "_law_numbers" = some (some (.ref f19)))(lF19:K.lookup f19=some ⟨oc19,od19,.func (W.fnOf "_law_numbers" "_law_numbers" (Gr ZbA) (Gp ZbA) (Ge ZbA) .none kV19 dc19 pm19 an19 cd19 ct19),sl19⟩)(cF19:W.codeIn K cd19 "_law_numbers" = true)(kF19:W.keepIn K (.ref f19)=true)(aF20:W.nsIn K mainGlobals "_law_web" = some (some (.ref f20)))(lF20:K.lookup f20=some ⟨oc20,od20,.func (W.fnOf "_law_web" "_law_web" (Gr Zc9) (Gp Zc9) (Ge Zc9) .none kV20 dc20 pm20 an20 cd20 ct20),sl20⟩)(cF20:W.codeIn K cd20 "_law_web" = true)(kF20:W.keepIn K (.ref f20)=true)(aF21:W.nsIn K mainGlobals "_law_ends" = some (some (.ref f21)))(lF21:K.lookup f21=some ⟨oc21,od21,.func (W.fnOf "_law_ends" "_law_ends" (Gr sEn) (Gp sEn) (Ge sEn) .none kV21 dc21 pm21 an21 cd21 ct21),sl21⟩)(cF21:W.codeIn K cd21 "_law_ends" = true)(kF21:W.keepIn K (.ref f21)=true)(aF22:W.nsIn K mainGlobals "_law_last" = some (some (.ref f22)))(lF22:K.lookup f22=some ⟨oc22,od22,.func (W.fnOf "_law_last" "_law_last" (Gr sLa) (Gp sLa) (Ge sLa) .none kV22 dc22 pm22 an22 cd22 ct22),sl22⟩)(cF22:W.codeIn K cd22 "_law_last" = true)(kF22:W.keepIn K (.ref f22)=true)(aF23:W.nsIn K mainGlobals "_law_degrees" = some (some (.ref f23)))(lF23:K.lookup f23=some ⟨oc23,od23,.func (W.fnOf "_law_degrees" "_law_degrees" (Gr sDg) (Gp sDg) (Ge sDg) .none kV23 dc23 pm23 an23 cd23 ct23),sl23⟩)(cF23:W.codeIn K cd23 "_law_degrees" = true)(kF23:W.keepIn K (.ref f23)=true)(aF24:W.nsIn K mainGlobals "_law_pieces" = some (some (.ref f24)))(lF24:K.lookup f24=some ⟨oc24,od24,.func (W.fnOf "_law_pieces" "_law_pieces" (Gr sPi) (Gp sPi) (Ge sPi) .none kV24 dc24 pm24 an24 cd24 ct24),sl24⟩)(cF24:W.codeIn K cd24 "_law_pieces" = true)(kF24:W.keepIn K (.ref f24)=true)(aF25:W.nsIn K mainGlobals "_law_hopeful" = some (some (.ref f25)))(lF25:K.lookup f25=some ⟨oc25,od25,.func (W.fnOf "_law_hopeful" "_law_hopeful" (Gr sLh) (Gp sLh) (Ge sLh) .none kV25 dc25 pm25 an25 cd25 ct25),sl25⟩)(cF25:W.codeIn K cd25 "_law_hopeful" = true)(kF25:W.keepIn K (.ref f25)=true)(aF26:W.nsIn K mainGlobals "places_on" = some (some (.ref f26)))(lF26:K.lookup f26=some ⟨oc26,od26,.func (W.fnOf "places_on" "places_on" (Gr Zc5) (Gp Zc5) (Ge Zc5) .none kV26 dc26 pm26 an26 cd26 ct26),sl26⟩)(cF26:W.codeIn K cd26 "places_on" = true)(kF26:W.keepIn K (.ref f26)=true)(aF27:W.nsIn K mainGlobals "front" = some (some (.ref f27)))(lF27:K.lookup f27=some ⟨oc27,od27,.func (W.fnOf "front" "front" (Gr Zc7) (Gp Zc7) (Ge Zc7) .none kV27 dc27 pm27 an27 cd27 ct27),sl27⟩)(cF27:W.codeIn K cd27 "front" = true)(kF27:W.keepIn K (.ref f27)=true)(aF28:W.nsIn K mainGlobals "wall_in" = some (some (.ref f28)))(lF28:K.lookup f28=some ⟨oc28,od28,.func (W.fnOf "wall_in" "wall_in" (Gr sWi) (Gp sWi) (Ge sWi) .none kV28 dc28 pm28 an28 cd28 ct28),sl28⟩)(cF28:W.codeIn K cd28 "wall_in" = true)(kF28:W.keepIn K (.ref f28)=true)(aF29:W.nsIn K mainGlobals "behind_step" = some (some (.ref f29)))(lF29:K.lookup f29=some ⟨oc29,od29,.func (W.fnOf "behind_step" "behind_step" (Gr sBs) (Gp sBs) (Ge sBs) .none kV29 dc29 pm29 an29 cd29 ct29),sl29⟩)(cF29:W.codeIn K cd29 "behind_step" = true)(kF29:W.keepIn K (.ref f29)=true)(aF30:W.nsIn K mainGlobals "numbers_behind" = some (some (.ref f30)))(lF30:K.lookup f30=some ⟨oc30,od30,.func (W.fnOf "numbers_behind" "numbers_behind" (Gr sNb) (Gp sNb) (Ge sNb) .none kV30 dc30 pm30 an30 cd30 ct30),sl30⟩)(cF30:W.codeIn K cd30 "numbers_behind" = true)(kF30:W.keepIn K (.ref f30)=true)(aF31:W.nsIn K mainGlobals "walls" = some (some (.ref f31)))(lF31:K.lookup f31=some ⟨oc31,od31,.func (W.fnOf "walls" "walls" (Gr sWs) (Gp sWs) (Ge sWs) .none kV31 dc31 pm31 an31 cd31 ct31),sl31⟩)(cF31:W.codeIn K cd31 "walls" = true)(kF31:W.keepIn K (.ref f31)=true)(aF32:W.nsIn K mainGlobals "_law_grid" = some (some (.ref f32)))(lF32:K.lookup f32=some ⟨oc32,od32,.func (W.fnOf "_law_grid" "_law_grid" (Gr sGd) (Gp sGd) (Ge sGd) .none kV32 dc32 pm32 an32 cd32 ct32),sl32⟩)(cF32:W.codeIn K cd32 "_law_grid" = true)(kF32:W.keepIn K (.ref f32)=true)(aF33:W.nsIn K mainGlobals "_law_whole" = some (some (.ref f33)))(lF33:K.lookup f33=some ⟨oc33,od33,.func (W.fnOf "_law_whole" "_law_whole" (Gr Zda) (Gp Zda) (Ge Zda) .none kV33 dc33 pm33 an33 cd33 ct33),sl33⟩)(cF33:W.codeIn K cd33 "_law_whole" = true)(kF33:W.keepIn K (.ref f33)=true)(aF34:W.nsIn K mainGlobals "_law_marks" = some (some (.ref f34)))(lF34:K.lookup f34=some ⟨oc34,od34,.func (W.fnOf "_law_marks" "_law_marks" (Gr sMk) (Gp sMk) (Ge sMk) .none kV34 dc34 pm34 an34 cd34 ct34),sl34⟩)(cF34:W.codeIn K cd34 "_law_marks" = true)(kF34:W.keepIn K (.ref f34)=true)(aF35:W.nsIn K mainGlobals "_law_rows" = some (some (.ref f35)))(lF35:K.lookup f35=some ⟨oc35,od35,.func (W.fnOf "_law_rows" "_law_rows" (Gr sRw) (Gp sRw) (Ge sRw) .none kV35 dc35 pm35 an35 cd35 ct35),sl35⟩)(cF35:W.codeIn K cd35 "_law_rows" = true)(kF35:W.keepIn K (.ref f35)=true)(aF36:W.nsIn K mainGlobals "_law_asked" = some (some (.ref f36)))(lF36:K.lookup f36=some ⟨oc36,od36,.func (W.fnOf "_law_asked" "_law_asked" (Gr sAs) (Gp sAs) (Ge sAs) .none kV36 dc36 pm36 an36 cd36 ct36),sl36⟩)(cF36:W.codeIn K cd36 "_law_asked" = true)(kF36:W.keepIn K (.ref f36)=true)(aF37:W.nsIn K mainGlobals "law" = some (some (.ref f37)))(lF37:K.lookup f37=some ⟨oc37,od37,.func (W.fnOf "law" "law" (Gr ZbB) (Gp ZbB) (Ge ZbB) .none kV37 dc37 pm37 an37 cd37 ct37),sl37⟩)(cF37:W.codeIn K cd37 "law" = true)(kF37:W.keepIn K (.ref f37)=true)(gE:W.nsIn K mainGlobals "NoEnds" = some (some (.ref CE)))(gP:W.nsIn K mainGlobals "NoPlace" = some (some (.ref CP)))(gS:W.nsIn K mainGlobals "NoStep" = some (some (.ref CS)))(xE:ExcC K CE)(xP:ExcC K CP)(xS:ExcC K CS)(kib:W.kitOne K (.type "int") (.type "bool")=some false)(gUSED:W.nsIn K mainGlobals "USED" = some (some (.int (-1) u1)))(gFREE:W.nsIn K mainGlobals "FREE" = some (some (.int (-2) u2)))(gFIRST:W.nsIn K mainGlobals "FIRST" = some (some (.int (-3) u3)))(gSECOND:W.nsIn K mainGlobals "SECOND" = some (some (.int (-4) u4)))(gBARRED:W.nsIn K mainGlobals "BARRED" = some (some (.int (-5) u5)))(gDONE:W.nsIn K mainGlobals "DONE" = some (some (.int 0 u0)))(nrange:W.nsIn K mainGlobals "range" = some none)(nlist:W.nsIn K mainGlobals "list" = some none)(nlen:W.nsIn K mainGlobals "len" = some none)(nmax:W.nsIn K mainGlobals "max" = some none)(nsorted:W.nsIn K mainGlobals "sorted" = some none)(nset:W.nsIn K mainGlobals "set" = some none)(nall:W.nsIn K mainGlobals "all" = some none)(nany:W.nsIn K mainGlobals "any" = some none)(nenumerate:W.nsIn K mainGlobals "enumerate" = some none)(ntuple:W.nsIn K mainGlobals "tuple" = some none)(nisinstance:W.nsIn K mainGlobals "isinstance" = some none)(nbool:W.nsIn K mainGlobals "bool" = some none)(nmin:W.nsIn K mainGlobals "min" = some none)(nint:W.nsIn K mainGlobals "int" = some none)
  : ∃fd:FuncData,(∀(s:Shared)(v:Value),BindsTo s fd ⟨[v],[]⟩ [("script", v)])/\∀base:Heap,K.In base->base.Ns mainGlobals mg->GV l.prog w K mg base CX0 7 fa fd ["script"] (ZbU K):=by
 have e:=hfa.symm.trans (Yak X G aF37);cases e;have FIp:=GG (st:=sIs) lF1 cF1 kF1;have bIp:=FIp.binds (ps:=["web", "place"]) λ_ _ _ _ _ _ us hl=>by obtain ⟨_,_,rfl⟩:=WY hl;rfl
 have mIp:mg "is_place" = some (.ref f1):=Yak X G aF1;have FCp:=GG (st:=Zc3) lF2 cF2 kF2;have bCp:=FCp.binds (ps:=["web", "place"]) λ_ _ _ _ _ _ us hl=>by obtain ⟨_,_,rfl⟩:=WY hl;rfl
 have mCp:mg "check_place" = some (.ref f2):=Yak X G aF2;have FBe:=GG (st:=Zc4) lF3 cF3 kF3;have bBe:=FBe.binds (ps:=["web", "place"]) λ_ _ _ _ _ _ us hl=>by obtain ⟨_,_,rfl⟩:=WY hl;rfl
 have mBe:mg "beside" = some (.ref f3):=Yak X G aF3;have FMe:=GG (st:=sMe) lF4 cF4 kF4;have bMe:=FMe.binds (ps:=["one", "other"]) λ_ _ _ _ _ _ us hl=>by obtain ⟨_,_,rfl⟩:=WY hl;rfl
 have mMe:mg "marks_of_ends" = some (.ref f4):=Yak X G aF4;have FLr:=GG (st:=sLr) lF5 cF5 kF5;have bLr:=FLr.binds (ps:=["web"]) λ_ _ _ _ _ _ us hl=>by obtain ⟨_,rfl⟩:=len1 hl;rfl
 have mLr:mg "last_roads" = some (.ref f5):=Yak X G aF5;have FSo:=GG (st:=sSo) lF6 cF6 kF6;have bSo:=FSo.binds (ps:=["web", "needed"]) λ_ _ _ _ _ _ us hl=>by obtain ⟨_,_,rfl⟩:=WY hl;rfl
 have mSo:mg "steps_of" = some (.ref f6):=Yak X G aF6;have FFm:=GG (st:=sFm) lF7 cF7 kF7;have bFm:=FFm.binds (ps:=["web", "needed"]) λ_ _ _ _ _ _ us hl=>by obtain ⟨_,_,rfl⟩:=WY hl;rfl
 have mFm:mg "first_marks" = some (.ref f7):=Yak X G aF7;have FId:=GG (st:=sId) lF8 cF8 kF8;have bId:=FId.binds (ps:=["marks"]) λ_ _ _ _ _ _ us hl=>by obtain ⟨_,rfl⟩:=len1 hl;rfl
 have mId:mg "is_done" = some (.ref f8):=Yak X G aF8;have FIl:=GG (st:=sIl) lF9 cF9 kF9;have bIl:=FIl.binds (ps:=["mark"]) λ_ _ _ _ _ _ us hl=>by obtain ⟨_,rfl⟩:=len1 hl;rfl
 have mIl:mg "is_loose" = some (.ref f9):=Yak X G aF9;have FIf:=GG (st:=sIf) lF10 cF10 kF10;have bIf:=FIf.binds (ps:=["mark"]) λ_ _ _ _ _ _ us hl=>by obtain ⟨_,rfl⟩:=len1 hl;rfl
 have mIf:mg "is_full" = some (.ref f10):=Yak X G aF10;have FIm:=GG (st:=sIm) lF11 cF11 kF11;have bIm:=FIm.binds (ps:=["mark"]) λ_ _ _ _ _ _ us hl=>by obtain ⟨_,rfl⟩:=len1 hl;rfl
 have mIm:mg "is_met" = some (.ref f11):=Yak X G aF11;have FFe:=GG (st:=sFe) lF12 cF12 kF12;have bFe:=FFe.binds (ps:=["marks", "place", "ends"]) λ_ _ _ _ _ _ us hl=>by obtain ⟨_,_,_,rfl⟩:=Zdl hl;rfl
 have mFe:mg "far_end" = some (.ref f12):=Yak X G aF12;have FWr:=GG (st:=sWr) lF13 cF13 kF13;have bWr:=FWr.binds (ps:=["marks", "road", "ends"]) λ_ _ _ _ _ _ us hl=>by obtain ⟨_,_,_,rfl⟩:=Zdl hl;rfl
 have mWr:mg "with_road" = some (.ref f13):=Yak X G aF13;have FLb:=GG (st:=sLb) lF14 cF14 kF14;have bLb:=FLb.binds (ps:=["marks", "leaving", "needed"]) λ_ _ _ _ _ _ us hl=>by obtain ⟨_,_,_,rfl⟩:=Zdl hl;rfl
 have mLb:mg "left_behind" = some (.ref f14):=Yak X G aF14;have FDe:=GG (st:=sDe) lF15 cF15 kF15;have bDe:=FDe.binds (ps:=["marks", "step", "ends", "chosen"]) λ_ _ _ _ _ _ us hl=>by obtain ⟨_,_,_,_,rfl⟩:=ZeG hl;rfl
 have mDe:mg "decided" = some (.ref f15):=Yak X G aF15;have FCe:=GG (st:=Zc6) lF16 cF16 kF16;have bCe:=FCe.binds (ps:=["web", "one", "other"]) λ_ _ _ _ _ _ us hl=>by obtain ⟨_,_,_,rfl⟩:=Zdl hl;rfl
 have mCe:mg "check_ends" = some (.ref f16):=Yak X G aF16;have FCs:=GG (st:=Zci) lF17 cF17 kF17;have bCs:=FCs.binds (ps:=["web", "i"]) λ_ _ _ _ _ _ us hl=>by obtain ⟨_,_,rfl⟩:=WY hl;rfl
 have mCs:mg "check_step" = some (.ref f17):=Yak X G aF17;have FCa:=GG (st:=Zc8) lF18 cF18 kF18;have bCa:=FCa.binds (ps:=["script", "k"]) λ_ _ _ _ _ _ us hl=>by obtain ⟨_,_,rfl⟩:=WY hl;rfl
 have mCa:mg "_law_cell_at" = some (.ref f18):=Yak X G aF18;have FNu:=GG (st:=ZbA) lF19 cF19 kF19;have bNu:=FNu.binds (ps:=["cell", "many", "base"]) λ_ _ _ _ _ _ us hl=>by obtain ⟨_,_,_,rfl⟩:=Zdl hl;rfl
 have mNu:mg "_law_numbers" = some (.ref f19):=Yak X G aF19;have FWe:=GG (st:=Zc9) lF20 cF20 kF20;have bWe:=FWe.binds (ps:=["cell", "least", "most", "most_roads"]) λ_ _ _ _ _ _ us hl=>by obtain ⟨_,_,_,_,rfl⟩:=ZeG hl;rfl
 have mWe:mg "_law_web" = some (.ref f20):=Yak X G aF20;have FEn:=GG (st:=sEn) lF21 cF21 kF21;have bEn:=FEn.binds (ps:=["cell", "places"]) λ_ _ _ _ _ _ us hl=>by obtain ⟨_,_,rfl⟩:=WY hl;rfl
 have mEn:mg "_law_ends" = some (.ref f21):=Yak X G aF21;have FLa:=GG (st:=sLa) lF22 cF22 kF22;have bLa:=FLa.binds (ps:=["web"]) λ_ _ _ _ _ _ us hl=>by obtain ⟨_,rfl⟩:=len1 hl;rfl
 have mLa:mg "_law_last" = some (.ref f22):=Yak X G aF22;have FDg:=GG (st:=sDg) lF23 cF23 kF23;have bDg:=FDg.binds (ps:=["web", "chosen"]) λ_ _ _ _ _ _ us hl=>by obtain ⟨_,_,rfl⟩:=WY hl;rfl
 have mDg:mg "_law_degrees" = some (.ref f23):=Yak X G aF23;have FPi:=GG (st:=sPi) lF24 cF24 kF24;have bPi:=FPi.binds (ps:=["web", "chosen"]) λ_ _ _ _ _ _ us hl=>by obtain ⟨_,_,rfl⟩:=WY hl;rfl
 have mPi:mg "_law_pieces" = some (.ref f24):=Yak X G aF24;have FLh:=GG (st:=sLh) lF25 cF25 kF25;have bLh:=FLh.binds (ps:=["web", "ends", "i", "chosen", "last"]) λ_ _ _ _ _ _ us hl=>by obtain ⟨_,_,_,_,_,rfl⟩:=ZfW hl;rfl
 have mLh:mg "_law_hopeful" = some (.ref f25):=Yak X G aF25;have FP:=GG (st:=Zc5) lF26 cF26 kF26;have bP:=FP.binds (ps:=["roads"]) λ_ _ _ _ _ _ us hl=>by obtain ⟨_,rfl⟩:=len1 hl;rfl
 have mP:mg "places_on" = some (.ref f26):=Yak X G aF26;have FFr:=GG (st:=Zc7) lF27 cF27 kF27;have bFr:=FFr.binds (ps:=["web", "i"]) λ_ _ _ _ _ _ us hl=>by obtain ⟨_,_,rfl⟩:=WY hl;rfl
 have mFr:mg "front" = some (.ref f27):=Yak X G aF27;have FWi:=GG (st:=sWi) lF28 cF28 kF28;have bWi:=FWi.binds (ps:=["places", "marks"]) λ_ _ _ _ _ _ us hl=>by obtain ⟨_,_,rfl⟩:=WY hl;rfl
 have mWi:mg "wall_in" = some (.ref f28):=Yak X G aF28;have FBs:=GG (st:=sBs) lF29 cF29 kF29;have bBs:=FBs.binds (ps:=["numbers", "step", "ends"]) λ_ _ _ _ _ _ us hl=>by obtain ⟨_,_,_,rfl⟩:=Zdl hl;rfl
 have mBs:mg "behind_step" = some (.ref f29):=Yak X G aF29;have FNb:=GG (st:=sNb) lF30 cF30 kF30;have bNb:=FNb.binds (ps:=["web", "ends", "needed", "i"]) λ_ _ _ _ _ _ us hl=>by obtain ⟨_,_,_,_,rfl⟩:=ZeG hl;rfl
 have mNb:mg "numbers_behind" = some (.ref f30):=Yak X G aF30;have FWs:=GG (st:=sWs) lF31 cF31 kF31;have bWs:=FWs.binds (ps:=["web", "one", "other", "i"]) λ_ _ _ _ _ _ us hl=>by obtain ⟨_,_,_,_,rfl⟩:=ZeG hl;rfl
 have mWs:mg "walls" = some (.ref f31):=Yak X G aF31;have FGd:=GG (st:=sGd) lF32 cF32 kF32;have bGd:=FGd.binds (ps:=["rows", "columns"]) λ_ _ _ _ _ _ us hl=>by obtain ⟨_,_,rfl⟩:=WY hl;rfl
 have mGd:mg "_law_grid" = some (.ref f32):=Yak X G aF32;have FWh:=GG (st:=Zda) lF33 cF33 kF33;have bWh:=FWh.binds (ps:=["found"]) λ_ _ _ _ _ _ us hl=>by obtain ⟨_,rfl⟩:=len1 hl;rfl
 have mWh:mg "_law_whole" = some (.ref f33):=Yak X G aF33;have FMk:=GG (st:=sMk) lF34 cF34 kF34;have bMk:=FMk.binds (ps:=["web", "ends", "i", "chosen", "last"]) λ_ _ _ _ _ _ us hl=>by obtain ⟨_,_,_,_,_,rfl⟩:=ZfW hl;rfl
 have mMk:mg "_law_marks" = some (.ref f34):=Yak X G aF34;have FRw:=GG (st:=sRw) lF35 cF35 kF35;have bRw:=FRw.binds (ps:=["found"]) λ_ _ _ _ _ _ us hl=>by obtain ⟨_,rfl⟩:=len1 hl;rfl
 have mRw:mg "_law_rows" = some (.ref f35):=Yak X G aF35;have FAs:=GG (st:=sAs) lF36 cF36 kF36;have bAs:=FAs.binds (ps:=["web", "cell"]) λ_ _ _ _ _ _ us hl=>by obtain ⟨_,_,rfl⟩:=WY hl;rfl
 have mAs:mg "_law_asked" = some (.ref f36):=Yak X G aF36;have FL:=GG (st:=ZbB) lF37 cF37 kF37;refine ⟨W.fnOf "law" "law" (Gr ZbB) (Gp ZbB) (Ge ZbB) .none kV37 dc37 pm37 an37 cd37 ct37,λs v=>.of_eq rfl,λbase _ _=>?_⟩;have GCp:=Zep (P:=l.prog) (w:=w) (base:=base) FCp FIp bIp mIp (Yak X G gP) xP;have GBe:=Zer (P:=l.prog) (w:=w) (base:=base) FBe FCp bCp mCp GCp (Yar X G nsorted);have GCe:=Zet (P:=l.prog) (w:=w) (base:=base) FCe FIp bIp mIp (Yak X G gE) xE;have GCs:=Zem (P:=l.prog) (w:=w) (base:=base) FCs (Yak X G gS) xS (Yar X G nlen);have GMe:=Zfp (P:=l.prog) (w:=w) (base:=base) FMe (Yak X G gFIRST) (Yak X G gSECOND);have GId:=Zfr (P:=l.prog) (w:=w) (base:=base) FId (Yak X G gDONE);have GIl:=Zfs (P:=l.prog) (w:=w) (base:=base) FIl (Yak X G gFIRST) (Yak X G gSECOND);have GIf:=Zft (P:=l.prog) (w:=w) (base:=base) FIf (Yak X G gUSED) (Yak X G gBARRED);have GIm:=Zfu (P:=l.prog) (w:=w) (base:=base) FIm (Yak X G gFREE) (Yak X G gBARRED);have GFe:=Zfv (P:=l.prog) (w:=w) (base:=base) FFe (Yak X G gFREE);have GWr:=Zfw (P:=l.prog) (w:=w) (base:=base) FWr FId bId mId GId FIf bIf mIf GIf FFe bFe mFe GFe FIl bIl mIl GIl (Yak X G gDONE) (Yak X G gUSED) (Yar X G nlist) (Yar X G nany) (Yar X G ntuple);have GLb:=Zfy (P:=l.prog) (w:=w) (base:=base) FLb FIl bIl mIl GIl FIm bIm mIm GIm (Yak X G gFREE) (Yar X G nlist) (Yar X G nany) (Yar X G nall) (Yar X G ntuple);have GDe:=ZfA (P:=l.prog) (w:=w) (base:=base) FDe FWr bWr mWr GWr FLb bLb mLb GLb;have GLr:=ZfB (P:=l.prog) (w:=w) (base:=base) FLr (Yar X G nenumerate);have GSo:=ZfC (P:=l.prog) (w:=w) (base:=base) FSo FLr bLr mLr GLr (Yar X G nenumerate);have GFm:=ZfD (P:=l.prog) (w:=w) (base:=base) FFm FBe bBe mBe GBe (Yak X G gFREE) (Yar X G nall) (Yar X G ntuple);have GBs:=ZfR (P:=l.prog) (w:=w) (base:=base) FBs FDe bDe mDe GDe;have GNb:=ZfS (P:=l.prog) (w:=w) (base:=base) FNb FFm bFm mFm GFm FSo bSo mSo GSo FBs bBs mBs GBs;have GFr:=Zez (P:=l.prog) (w:=w) (base:=base) FFr FP bP mP FCs bCs mCs GCs (Yar X G nsorted) (Yar X G nset);have GWi:=ZfO (P:=l.prog) (w:=w) (base:=base) FWi FId bId mId GId (Yak X G gDONE) (Yar X G ntuple);have GWs:=ZfT (P:=l.prog) (w:=w) (base:=base) FWs FCe bCe mCe GCe FCs bCs mCs GCs FMe bMe mMe GMe FNb bNb mNb GNb FFr bFr mFr GFr FWi bWi mWi GWi (Yar X G nsorted);have GCa:=Zej (P:=l.prog) (w:=w) (base:=base) FCa (Yar X G nlen);have GNu:=Zcj (P:=l.prog) (w:=w) (base:=base) FNu (Yar X G nrange);have GWe:=Zel (P:=l.prog) (w:=w) (base:=base) FWe FNu bNu mNu (Yar X G nrange) (Yar X G nlen);have GEn:=ZfE (P:=l.prog) (w:=w) (base:=base) FEn FNu bNu mNu GNu;have GLa:=ZfF (P:=l.prog) (w:=w) (base:=base) FLa (Yar X G nrange) (Yar X G nlen);have GDg:=ZfH (P:=l.prog) (w:=w) (base:=base) (mg:=mg) FDg;have GPi:=ZfJ (P:=l.prog) (w:=w) (base:=base) FPi (Yar X G nrange);have GLh:=ZfK (P:=l.prog) (w:=w) (base:=base) FLh FDg bDg mDg GDg FPi bPi mPi GPi (Yar X G nrange) (Yar X G nmax) (Yar X G nall);have GGd:=ZfP (P:=l.prog) (w:=w) (base:=base) FGd (Yar X G nrange);have GWh:=ZeB (P:=l.prog) (w:=w) (base:=base) FWh kib (Yar X G nisinstance) (Yar X G nint) (Yar X G nbool);have GMk:=ZfQ (P:=l.prog) (w:=w) (base:=base) FMk FDg bDg mDg GDg FPi bPi mPi GPi (Yar X G nrange) (Yar X G nlen) (Yar X G nmin) (Yar X G nint) (Yar X G ntuple);have GRw:=ZfU (P:=l.prog) (w:=w) (base:=base) FRw FWh bWh mWh GWh (Yar X G nisinstance) (Yar X G nlist) (Yar X G ntuple) (Yar X G nlen) (Yar X G nall);have GAs:=ZfV (P:=l.prog) (w:=w) (base:=base) FAs FNu bNu mNu GNu FEn bEn mEn GEn FLa bLa mLa GLa FLh bLh mLh GLh FMk bMk mMk GMk (Yar X G nlen) (Yar X G nsorted);exact ZeF FL FCa bCa mCa GCa FWe bWe mWe GWe FGd bGd mGd GGd FAs bAs mAs GAs FWs bWs mWs GWs FRw bRw mRw GRw (Yar X G nlist)
theorem walk {l:W.OpenLaw}{q:Program}{B:List Str}{L:(Str->Option Value)->Heap->Prop}{G:World->Heap->Prop}{d:DefRec}{K:Params->W.Frag}(N:l.most=some 63)(D:d.params.defaults=[])(O:∀(w:World)(h:Heap),G w h->(K w.params).In h)(F:∀(w:World)(mg:Str->Option Value)(fa:Addr)(h:Heap),(K w.params).In h->h.Ns mainGlobals mg->mg d.name=some (.ref fa) ->
   ∃fd:FuncData,(∀(s:Shared)(u:Value),BindsTo s fd ⟨[u],[]⟩ [("script", u)])/\∀base:Heap,(K w.params).In base->base.Ns mainGlobals mg->GV l.prog w (K w.params) mg base CX0 7 fa fd ["script"] (ZbU (K w.params))) :
  W.WalkO q B L G l.row.toRowW d [] (λf vs=>PySem.call f vs):=
 L2.walk_of (n:=63) (k:=7) (x := "script") (CX:=λ_=>CX0) (sp:=λw=>ZbU (K w.params)) N (by decide) D ⟨rfl,by decide,by decide⟩ O F (λ_ _ a ns U _ Y=>⟨a,ns,rfl,Y,U,λ_=>rfl⟩) λ_ _ _ _ _ z=>z
end M
open PySem PySem.W PyProof.Rows
local macro_rules
 | `(tactic| o_head $H)=>`(tactic| (
  refine @holds_open _ M.seenP M.loosely M.hookX (XL M.seenP []) _ (Hook.obs $H) (Hook.val $H) (Hook.says $H) _ _ 4196
   (@M.left_boot M.rowP M.seenP M.loosely M.hookX _ (Hook.obs $H) (Hook.val $H) 4196 ?b1 ?b2 ?b3 M.topC M.topA ?hl)
   (Hook.of $H) (Hook.keeps $H) ?h1 XL.keeps (by rfl) (by rfl) (by rfl) ?h5 ?h6 ?h7 ?h8 ?h9 ?hw ?hc
  (case h1=>exact λs e=>xl_of s (Bool.and_eq_true_iff.mp e).1)
  (case h5=>exact λs e=>recFacts_of (Bool.and_eq_true_iff.mp e).2)
  (case h6=>rfl)
  (case h7=>first | assumption | decide +kernel)
  (case h8=>decide +kernel)
  (case h9=>exact ⟨rfl,rfl,rfl,rfl,rfl,by decide +kernel⟩)
  (case b1=>kernel_rfl)
  (case b2=>decide)
  (case b3=>(intro s;kernel_rfl))
  (case hl=>(intro w os;unfold M.topOf;rw [W.Fast.te14082659384304107361,W.Fast.te14364793385576792824];kernel_rfl))))
set_option maxRecDepth 100000 in
set_option maxHeartbeats 0 in
theorem PySem.Challenge.cw_onceways_k16_all_marks_holds : PySem.Challenge.rw_onceways_k16_all_marks.Holds := by
 w_on;o_law;k_head;(case hw=>w_witness2)
 k_fill
 refine M.walk (l:=PySem.Challenge.rw_onceways_k16_all_marks) rfl rfl (λw h Y=>W.kIn_of Y) ?F
 case F=>
  intro w mg fa h KX G hmg
  refine' M.all_mk KX G hmg ?aF1 ?lF1 ?cF1 ?kF1 ?aF2 ?lF2 ?cF2 ?kF2 ?aF3 ?lF3 ?cF3 ?kF3 ?aF4 ?lF4 ?cF4 ?kF4 ?aF5 ?lF5 ?cF5 ?kF5 ?aF6 ?lF6 ?cF6 ?kF6 ?aF7 ?lF7 ?cF7 ?kF7 ?aF8 ?lF8 ?cF8 ?kF8 ?aF9 ?lF9 ?cF9 ?kF9 ?aF10 ?lF10 ?cF10 ?kF10 ?aF11 ?lF11 ?cF11 ?kF11 ?aF12 ?lF12 ?cF12 ?kF12 ?aF13 ?lF13 ?cF13 ?kF13 ?aF14 ?lF14 ?cF14 ?kF14 ?aF15 ?lF15 ?cF15 ?kF15 ?aF16 ?lF16 ?cF16 ?kF16 ?aF17 ?lF17 ?cF17 ?kF17 ?aF18 ?lF18 ?cF18 ?kF18 ?aF19 ?lF19 ?cF19 ?kF19 ?aF20 ?lF20 ?cF20 ?kF20 ?aF21 ?lF21 ?cF21 ?kF21 ?aF22 ?lF22 ?cF22 ?kF22 ?aF23 ?lF23 ?cF23 ?kF23 ?aF24 ?lF24 ?cF24 ?kF24 ?aF25 ?lF25 ?cF25 ?kF25 ?aF26 ?lF26 ?cF26 ?kF26 ?aF27 ?lF27 ?cF27 ?kF27 ?aF28 ?lF28 ?cF28 ?kF28 ?aF29 ?lF29 ?cF29 ?kF29 ?aF30 ?lF30 ?cF30 ?kF30 ?aF31 ?lF31 ?cF31 ?kF31 ?aF32 ?lF32 ?cF32 ?kF32 ?aF33 ?lF33 ?cF33 ?kF33 ?aF34 ?lF34 ?cF34 ?kF34 ?aF35 ?lF35 ?cF35 ?kF35 ?aF36 ?lF36 ?cF36 ?kF36 ?aF37 ?lF37 ?cF37 ?kF37 ?gE ?gP ?gS ?xE ?xP ?xS ?kib ?gUSED ?gFREE ?gFIRST ?gSECOND ?gBARRED ?gDONE ?nrange ?nlist ?nlen ?nmax ?nsorted ?nset ?nall ?nany ?nenumerate ?ntuple ?nisinstance ?nbool ?nmin ?nint
  (case aF1=>k_is)
  (case lF1=>k_is)
  (case cF1=>k_is)
  (case kF1=>k_is)
  (case aF2=>k_is)
  (case lF2=>k_is)
  (case cF2=>k_is)
  (case kF2=>k_is)
  (case aF3=>k_is)
  (case lF3=>k_is)
  (case cF3=>k_is)
  (case kF3=>k_is)
  (case aF4=>k_is)
  (case lF4=>k_is)
  (case cF4=>k_is)
  (case kF4=>k_is)
  (case aF5=>k_is)
  (case lF5=>k_is)
  (case cF5=>k_is)
  (case kF5=>k_is)
  (case aF6=>k_is)
  (case lF6=>k_is)
  (case cF6=>k_is)
  (case kF6=>k_is)
  (case aF7=>k_is)
  (case lF7=>k_is)
  (case cF7=>k_is)
  (case kF7=>k_is)
  (case aF8=>k_is)
  (case lF8=>k_is)
  (case cF8=>k_is)
  (case kF8=>k_is)
  (case aF9=>k_is)
  (case lF9=>k_is)
  (case cF9=>k_is)
  (case kF9=>k_is)
  (case aF10=>k_is)
  (case lF10=>k_is)
  (case cF10=>k_is)
  (case kF10=>k_is)
  (case aF11=>k_is)
  (case lF11=>k_is)
  (case cF11=>k_is)
  (case kF11=>k_is)
  (case aF12=>k_is)
  (case lF12=>k_is)
  (case cF12=>k_is)
  (case kF12=>k_is)
  (case aF13=>k_is)
  (case lF13=>k_is)
  (case cF13=>k_is)
  (case kF13=>k_is)
  (case aF14=>k_is)
  (case lF14=>k_is)
  (case cF14=>k_is)
  (case kF14=>k_is)
  (case aF15=>k_is)
  (case lF15=>k_is)
  (case cF15=>k_is)
  (case kF15=>k_is)
  (case aF16=>k_is)
  (case lF16=>k_is)
  (case cF16=>k_is)
  (case kF16=>k_is)
  (case aF17=>k_is)
  (case lF17=>k_is)
  (case cF17=>k_is)
  (case kF17=>k_is)
  (case aF18=>k_is)
  (case lF18=>k_is)
  (case cF18=>k_is)
  (case kF18=>k_is)
  (case aF19=>k_is)
  (case lF19=>k_is)
  (case cF19=>k_is)
  (case kF19=>k_is)
  (case aF20=>k_is)
  (case lF20=>k_is)
  (case cF20=>k_is)
  (case kF20=>k_is)
  (case aF21=>k_is)
  (case lF21=>k_is)
  (case cF21=>k_is)
  (case kF21=>k_is)
  (case aF22=>k_is)
  (case lF22=>k_is)
  (case cF22=>k_is)
  (case kF22=>k_is)
  (case aF23=>k_is)
  (case lF23=>k_is)
  (case cF23=>k_is)
  (case kF23=>k_is)
  (case aF24=>k_is)
  (case lF24=>k_is)
  (case cF24=>k_is)
  (case kF24=>k_is)
  (case aF25=>k_is)
  (case lF25=>k_is)
  (case cF25=>k_is)
  (case kF25=>k_is)
  (case aF26=>k_is)
  (case lF26=>k_is)
  (case cF26=>k_is)
  (case kF26=>k_is)
  (case aF27=>k_is)
  (case lF27=>k_is)
  (case cF27=>k_is)
  (case kF27=>k_is)
  (case aF28=>k_is)
  (case lF28=>k_is)
  (case cF28=>k_is)
  (case kF28=>k_is)
  (case aF29=>k_is)
  (case lF29=>k_is)
  (case cF29=>k_is)
  (case kF29=>k_is)
  (case aF30=>k_is)
  (case lF30=>k_is)
  (case cF30=>k_is)
  (case kF30=>k_is)
  (case aF31=>k_is)
  (case lF31=>k_is)
  (case cF31=>k_is)
  (case kF31=>k_is)
  (case aF32=>k_is)
  (case lF32=>k_is)
  (case cF32=>k_is)
  (case kF32=>k_is)
  (case aF33=>k_is)
  (case lF33=>k_is)
  (case cF33=>k_is)
  (case kF33=>k_is)
  (case aF34=>k_is)
  (case lF34=>k_is)
  (case cF34=>k_is)
  (case kF34=>k_is)
  (case aF35=>k_is)
  (case lF35=>k_is)
  (case cF35=>k_is)
  (case kF35=>k_is)
  (case aF36=>k_is)
  (case lF36=>k_is)
  (case cF36=>k_is)
  (case kF36=>k_is)
  (case aF37=>k_is)
  (case lF37=>k_is)
  (case cF37=>k_is)
  (case kF37=>k_is)
  (case gE=>k_is)
  (case gP=>k_is)
  (case gS=>k_is)
  (case xE=>(unfold L2.ExcC;k_exc))
  (case xP=>(unfold L2.ExcC;k_exc))
  (case xS=>(unfold L2.ExcC;k_exc))
  (case kib=>kit_is)
  (case gUSED=>k_is)
  (case gFREE=>k_is)
  (case gFIRST=>k_is)
  (case gSECOND=>k_is)
  (case gBARRED=>k_is)
  (case gDONE=>k_is)
  (case nrange=>k_is)
  (case nlist=>k_is)
  (case nlen=>k_is)
  (case nmax=>k_is)
  (case nsorted=>k_is)
  (case nset=>k_is)
  (case nall=>k_is)
  (case nany=>k_is)
  (case nenumerate=>k_is)
  (case ntuple=>k_is)
  (case nisinstance=>k_is)
  (case nbool=>k_is)
  (case nmin=>k_is)
  (case nint=>k_is)
#print axioms PySem.Challenge.cw_onceways_k16_all_marks_holds
