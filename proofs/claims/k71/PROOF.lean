import PyProof.Rows.All
import Wide.All
import OpenK.AllK
import Wide.FinOn
import Lean
import PyProof.EqAt
import PyProof.EqKinds
import PyProof.TupleCall
import PyProof.SumAny
import PySem.Challenge.RW_onceways_k71_words_of_a_closed_way
set_option Elab.async false
set_option linter.all false
set_option maxRecDepth 100000
set_option maxHeartbeats 4000000
section
open PySem PySem.Spec PyProof.Rows
theorem Yaa:type_of% @List.length_map:=@List.length_map
theorem Yab:type_of% @wpAny_bind:=@wpAny_bind
theorem Yac:type_of% @Nat.le_refl:=@Nat.le_refl
theorem Yad:type_of% @wpS_bind:=@wpS_bind
theorem Yae:type_of% @decide_eq_true:=@decide_eq_true
theorem Yaf:type_of% @wpS_pure:=@wpS_pure
theorem Yag:type_of% @wpAny_pure:=@wpAny_pure
theorem Yah:type_of% @List.getElem?_eq_getElem:=@List.getElem?_eq_getElem
theorem Yai:type_of% @List.getD_eq_getElem?_getD:=@List.getD_eq_getElem?_getD
theorem Yaj:type_of% @Heap.lt_size:=@Heap.lt_size
theorem Yak:type_of% @decide_eq_false:=@decide_eq_false
theorem Yal:type_of% @List.map_append:=@List.map_append
theorem Yam:type_of% @List.mem_map:=@List.mem_map
theorem Yan:type_of% @List.length_append:=@List.length_append
theorem Yao:type_of% @Heap.get?_push_of_some:=@Heap.get?_push_of_some
theorem Yap:type_of% @W.mg_none_of:=@W.mg_none_of
theorem Yaq:type_of% @Nat.ne_of_lt:=@Nat.ne_of_lt
theorem Yar:type_of% @List.mem_cons:=@List.mem_cons
theorem Yas:type_of% @List.mem_singleton:=@List.mem_singleton
theorem Yat:type_of% @List.map_cons:=@List.map_cons
theorem Yau:type_of% @List.getElem?_map:=@List.getElem?_map
theorem Yav:type_of% @List.mem_append:=@List.mem_append
theorem Yaw:type_of% @Option.some.inj:=@Option.some.inj
theorem Yax:type_of% @Bool.false_ne_true:=@Bool.false_ne_true
theorem Yay:type_of% @sizeLine_eq:=@sizeLine_eq
theorem Yaz:type_of% @List.mem_cons_self:=@List.mem_cons_self
theorem Yba:type_of% @of_decide_eq_true:=@of_decide_eq_true
theorem Ybb:type_of% @congrArg:=@congrArg
theorem Ybc:type_of% @Nat.zero_le:=@Nat.zero_le
theorem Ybd:type_of% @List.size_toArray:=@List.size_toArray
theorem Ybe:type_of% @Nat.lt_of_lt_of_le:=@Nat.lt_of_lt_of_le
theorem Ybf:type_of% @List.getElem?_eq_some_iff:=@List.getElem?_eq_some_iff
theorem Ybg:type_of% @Option.map_eq_some_iff:=@Option.map_eq_some_iff
theorem Ybh:type_of% @Heap.get?_push_size:=@Heap.get?_push_size
theorem Ybi:type_of% @List.length_cons:=@List.length_cons
theorem Ybj:type_of% @Array.length_toList:=@Array.length_toList
theorem Ybk:type_of% @List.mem_filter:=@List.mem_filter
theorem Ybl:type_of% @List.length_singleton:=@List.length_singleton
theorem Ybm:type_of% @List.mem_cons_of_mem:=@List.mem_cons_of_mem
theorem Ybn:type_of% @List.length_take:=@List.length_take
theorem Ybo:type_of% @beq_iff_eq:=@beq_iff_eq
theorem Ybp:type_of% @List.append_assoc:=@List.append_assoc
theorem Ybq:type_of% @List.mem_range:=@List.mem_range
theorem Ybr:type_of% @List.append_nil:=@List.append_nil
theorem Ybs:type_of% @List.mem_of_getElem?:=@List.mem_of_getElem?
theorem Ybt:type_of% @Nat.lt_irrefl:=@Nat.lt_irrefl
theorem Ybu:type_of% @Int.toNat_natCast:=@Int.toNat_natCast
theorem Ybv:type_of% @List.find?_cons:=@List.find?_cons
theorem Ybw:type_of% @List.take_add_one:=@List.take_add_one
theorem Ybx:type_of% @W.mg_of:=@W.mg_of
theorem Yby:type_of% @List.getElem_of_mem:=@List.getElem_of_mem
theorem Ybz:type_of% @Array.getElem?_toList:=@Array.getElem?_toList
theorem Yca:type_of% @List.map_map:=@List.map_map
theorem Ycb:type_of% @List.length_range:=@List.length_range
theorem Ycc:type_of% @Nat.le_trans:=@Nat.le_trans
theorem Ycd:type_of% @List.getElem_mem:=@List.getElem_mem
theorem Yce:type_of% @List.take_length:=@List.take_length
theorem Ycf:type_of% @wpS_forRange:=@wpS_forRange
theorem Ycg:type_of% @List.pairwise_append:=@List.pairwise_append
theorem Ych:type_of% @List.length_filter_le:=@List.length_filter_le
theorem Yci:type_of% @wpAny_mono:=@wpAny_mono
theorem Ycj:type_of% @Array.toList_append:=@Array.toList_append
theorem Yck:type_of% @Heap.get?_update_self:=@Heap.get?_update_self
theorem Ycl:type_of% @Bool.and_eq_true:=@Bool.and_eq_true
theorem Ycm:type_of% @PassesOwn.never:=@PassesOwn.never
theorem Ycn:type_of% @List.mem_append_right:=@List.mem_append_right
theorem Yco:type_of% @wpAny_call_entry:=@wpAny_call_entry
theorem Ycp:type_of% @Array.size_push:=@Array.size_push
theorem Ycq:type_of% @wpAny_rule:=@wpAny_rule
theorem Ycr:type_of% @wpS_modify:=@wpS_modify
theorem Ycs:type_of% @List.getElem?_append_right:=@List.getElem?_append_right
theorem Yct:type_of% @List.length_drop:=@List.length_drop
theorem Ycu:type_of% @List.nodup_append:=@List.nodup_append
theorem Ycv:type_of% @Paired.length:=@Paired.length
theorem Ycw:type_of% @wpAny_holding:=@wpAny_holding
theorem Ycx:type_of% @W.kia_one:=@W.kia_one
theorem Ycy:type_of% @Heap.get?_update_other:=@Heap.get?_update_other
theorem Ycz:type_of% @if_false:=@if_false
theorem Yda:type_of% @List.replicate_succ:=@List.replicate_succ
theorem Ydb:type_of% @Heap.size_push:=@Heap.size_push
theorem Ydc:type_of% @Nat.zero_add:=@Nat.zero_add
theorem Ydd:type_of% @PySem.F.plainAttrs_list:=@PySem.F.plainAttrs_list
theorem Yde:type_of% @PySem.boot_len:=@PySem.boot_len
theorem Ydf:type_of% @List.getElem?_append_left:=@List.getElem?_append_left
theorem Ydg:type_of% @codeAny_builtin:=@codeAny_builtin
theorem Ydh:type_of% @plainId_quiet:=@plainId_quiet
theorem Ydi:type_of% @Nat.sub_self:=@Nat.sub_self
theorem Ydj:type_of% @PySem.F.slot_list_append:=@PySem.F.slot_list_append
theorem Ydk:type_of% @PySem.F.type_list_append:=@PySem.F.type_list_append
theorem Ydl:type_of% @wpAny_truthy_bool:=@wpAny_truthy_bool
theorem Ydm:type_of% @Nat.ne_of_gt:=@Nat.ne_of_gt
theorem Ydn:type_of% @PySem.mem_of_lookup:=@PySem.mem_of_lookup
theorem Ydo:type_of% @Bool.false_eq_true:=@Bool.false_eq_true
theorem Ydp:type_of% @Heap.SameBut.update:=@Heap.SameBut.update
theorem Ydq:type_of% @Around.under_plainId:=@Around.under_plainId
theorem Ydr:type_of% @Nat.add_sub_cancel':=@Nat.add_sub_cancel'
theorem Yds:type_of% @Nat.le_of_lt:=@Nat.le_of_lt
theorem Ydt:type_of% @Nat.lt_succ_of_lt:=@Nat.lt_succ_of_lt
theorem Ydu:type_of% @F.plain_min_loop:=@F.plain_min_loop
theorem Ydv:type_of% @List.filter_append:=@List.filter_append
theorem Ydw:type_of% @beq_eq_false_iff_ne:=@beq_eq_false_iff_ne
theorem Ydx:type_of% @List.mem_filterMap:=@List.mem_filterMap
theorem Ydy:type_of% @List.length_replicate:=@List.length_replicate
theorem Ydz:type_of% @Bool.eq_false_iff:=@Bool.eq_false_iff
theorem Yea:type_of% @Nat.min_eq_left:=@Nat.min_eq_left
theorem Yeb:type_of% @List.take_of_length_le:=@List.take_of_length_le
theorem Yec:type_of% @List.nodup_nil:=@List.nodup_nil
theorem Yed:type_of% @List.pairwise_cons:=@List.pairwise_cons
theorem Yee:type_of% @List.pairwise_map:=@List.pairwise_map
theorem Yef:type_of% @wpAny_passesOwn:=@wpAny_passesOwn
theorem Yeg:type_of% @Option.isSome_iff_exists:=@Option.isSome_iff_exists
theorem Yeh:type_of% @wpAny_attempt:=@wpAny_attempt
theorem Yei:type_of% @beq_self_eq_true:=@beq_self_eq_true
theorem Yej:type_of% @Nat.min_eq_right:=@Nat.min_eq_right
theorem Yek:type_of% @List.drop_of_length_le:=@List.drop_of_length_le
theorem Yel:type_of% @Array.toList_push:=@Array.toList_push
theorem Yem:type_of% @getElem?_mirror_all:=@getElem?_mirror_all
theorem Yen:type_of% @Array.getElem?_eq_getElem:=@Array.getElem?_eq_getElem
theorem Yeo:type_of% @List.mem_append_left:=@List.mem_append_left
theorem Yep:type_of% @PyProof.Rows.callWith_type1:=@PyProof.Rows.callWith_type1
theorem Yeq:type_of% @wpAny_Call_Name_kw:=@wpAny_Call_Name_kw
theorem Yer:type_of% @wpAny_callSpecial?_slot:=@wpAny_callSpecial?_slot
theorem Yes:type_of% @Array.toList_extract:=@Array.toList_extract
theorem Yet:type_of% @List.extract_eq_take_drop:=@List.extract_eq_take_drop
theorem Yeu:type_of% @List.take_append_drop:=@List.take_append_drop
theorem Yev:type_of% @List.getElem?_drop:=@List.getElem?_drop
theorem Yew:type_of% @List.getElem?_take:=@List.getElem?_take
theorem Yex:type_of% @Array.size_extract:=@Array.size_extract
theorem Yey:type_of% @List.getElem?_cons_succ:=@List.getElem?_cons_succ
theorem Yez:type_of% @List.pairwise_iff_getElem:=@List.pairwise_iff_getElem
theorem Yfa:type_of% @wpAny_typeNameOfWhole_keyiter:=@wpAny_typeNameOfWhole_keyiter
theorem Yfb:type_of% @F.slot_dict_keyiterator_next:=@F.slot_dict_keyiterator_next
end
namespace L2
open PySem PySem.Spec PyProof.Rows
abbrev Key:=Sum Int Str
def Xs:Key->Value->Bool
 | .inl k,v=>Value.isInt k v
 | .inr x,v=>Value.isStrOf x v
def ZiS (w:World):Key->Int
 | .inl k=>hashInt k
 | .inr x=>hashStr w x
theorem GT:∀{k:Key}{v:Value},Xs k v=true->(∃i t,k=Sum.inl i/\v=Value.int i t)\/(∃x t,k=Sum.inr x/\v=Value.str x t)
 | .inl i,v,h=>by
  obtain ⟨t,e⟩:=Value.isInt_shape (k:=i) (v:=v) h;exact .inl ⟨i,t,rfl,e⟩
 | .inr x,v,h=>by
  obtain ⟨t,e⟩:=Value.isStrOf_shape (x:=x) (v:=v) h;exact .inr ⟨x,t,rfl,e⟩
theorem ZH (i:Int)(t:Tok):Xs (.inl i) (.int i t)=true:=by simp [Xs,Value.isInt]
theorem ZI (x:Str)(t:Tok):Xs (.inr x) (.str x t)=true:=by simp [Xs,Value.isStrOf]
theorem Zfh (a b:Int):decide ((Sum.inl a:Key)=Sum.inl b)=(a == b):=by
 by_cases e:a=b
 ·subst e;simp
 ·have h:¬ (Sum.inl a:Key)=Sum.inl b:=λq=>e (Sum.inl.inj q);rw [Yak h];exact (Ydw.mpr e).symm
theorem Zfi (a b:Str):decide ((Sum.inr a:Key)=Sum.inr b)=decide (a=b):=by
 by_cases e:a=b
 ·subst e;simp
 ·have h:¬ (Sum.inr a:Key)=Sum.inr b:=λq=>e (Sum.inr.inj q);rw [Yak h,Yak e]
theorem Zfj (a:Int)(b:Str):decide ((Sum.inl a:Key)=Sum.inr b)=false:=Yak (λq=>nomatch q)
theorem Zfk (a:Str)(b:Int):decide ((Sum.inr a:Key)=Sum.inl b)=false:=Yak (λq=>nomatch q)
def GM (prog:Program)(w:World):PySem.KeyKind prog w Key where
 is:=Xs
 hash:=ZiS w
 inj:=λv a b ha hb=>by
  rcases GT ha with ⟨i,t,rfl,rfl⟩ | ⟨x,t,rfl,rfl⟩
  ·rcases GT hb with ⟨j,u,rfl,e⟩ | ⟨y,u,rfl,e⟩
   ·injection e with e1 _;rw [e1]
   ·exact nomatch e
  ·rcases GT hb with ⟨j,u,rfl,e⟩ | ⟨y,u,rfl,e⟩
   ·exact nomatch e
   ·injection e with e1 _;rw [e1]
 byValue:=λk v h=>by
  rcases GT h with ⟨i,t,rfl,rfl⟩ | ⟨x,t,rfl,rfl⟩ <;> rfl
 pyHash:=λhv h=>by
  rcases GT hv with ⟨i,t,rfl,rfl⟩ | ⟨x,t,rfl,rfl⟩
  ·exact wpAny_pyHash_int h
  ·exact wpAny_pyHash_str h
 eqBool:=λhu hv h=>by
  rcases GT hu with ⟨i,t,rfl,rfl⟩ | ⟨x,t,rfl,rfl⟩
  ·rcases GT hv with ⟨j,u,rfl,rfl⟩ | ⟨y,u,rfl,rfl⟩
   ·rw [Zfh] at h;exact wpAny_eqBool_int h
   ·rw [Zfj] at h;exact SeqAt.EqAt.int_str i t y u _ _ _ _ h
  ·rcases GT hv with ⟨j,u,rfl,rfl⟩ | ⟨y,u,rfl,rfl⟩
   ·rw [Zfk] at h;exact SeqAt.EqAt.str_int x t j u _ _ _ _ h
   ·rw [Zfi] at h;exact wpAny_eqBool_str h
 «strs»:=λk x t v h=>by
  rcases GT h with ⟨i,u,rfl,e⟩ | ⟨y,u,rfl,e⟩
  ·exact nomatch e
  ·injection e with e1 _
   subst e1;cases v <;> rfl
theorem Xu (prog:Program)(w:World)(i:Int)(t:Tok):(GM prog w).is (.inl i) (.int i t)=true:=ZH i t
theorem Xv (prog:Program)(w:World)(x:Str)(t:Tok):(GM prog w).is (.inr x) (.str x t)=true:=ZI x t
inductive V where
 | non | bl (b:Bool) | int (i:Int) | str (x:Str) | byt (b:Array UInt8) | flt (b:UInt64) | ref (a:Addr) | ty (n:String)
 deriving DecidableEq
def RelV:V->Value->Prop
 | .non,u=>u=Value.none
 | .bl b,u=>u=Value.bool b
 | .int i,u=>∃t,u=Value.int i t
 | .str x,u=>∃t,u=Value.str x t
 | .byt b,u=>∃t,u=Value.bytes b t
 | .flt b,u=>∃t,u=Value.float b t
 | .ref a,u=>u=Value.ref a
 | .ty n,u=>u=Value.type n
abbrev Vals:List V->List Value->Prop:=Paired RelV
theorem Vals.length {xs:List V}{us:List Value}(r:Vals xs us):xs.length=us.length:=Ycv r
theorem Vals.get:∀{xs:List V}{us:List Value}{i:Nat}{x:V},Vals xs us->xs[i]?=some x->∃u,us[i]?=some u/\RelV x u
 | _,_,_,_,.nil,e=>by simp at e
 | _,_,0,_,.cons r _,e=>by simp at e;subst e;exact ⟨_,rfl,r⟩
 | _,_,i+1,x,.cons _ t,e=>by
  obtain ⟨u,h1,h2⟩:=Vals.get (i:=i) (x:=x) t (by simpa using e);exact ⟨u,by simpa using h1,h2⟩
theorem Vals.set {x:V}{u:Value}(r:RelV x u):∀{xs:List V}{us:List Value}(i:Nat),Vals xs us->Vals (xs.set i x) (us.set i u)
 | _,_,_,.nil=>.nil
 | _,_,0,.cons _ t=>.cons r t
 | _,_,i+1,.cons q t=>.cons q (Vals.set r i t)
theorem Vals.append:∀{xs ys:List V}{us ws:List Value},Vals xs us->Vals ys ws->Vals (xs++ys) (us++ws)
 | _,_,_,_,.nil,s=>s
 | _,_,_,_,.cons r t,s=>.cons r (Vals.append t s)
theorem Vals.take:∀{xs:List V}{us:List Value}(n:Nat),Vals xs us->Vals (xs.take n) (us.take n)
 | _,_,0,_=>.nil
 | _,_,_+1,.nil=>.nil
 | _,_,n+1,.cons r t=>.cons r (Vals.take n t)
theorem Vals.drop:∀{xs:List V}{us:List Value}(n:Nat),Vals xs us->Vals (xs.drop n) (us.drop n)
 | _,_,0,r=>r
 | _,_,_+1,.nil=>.nil
 | _,_,n+1,.cons _ t=>Vals.drop n t
def RelO:Option V->Option Value->Prop
 | some v,some u=>RelV v u
 | none,none=>True
 | _,_=>False
def KV {κ:Type}:List (κ×V)->List (κ×Value)->Prop:=Paired λ(p:κ×V) (q:κ×Value)=>p.1=q.1/\RelV p.2 q.2
def kV:Key->V
 | .inl i=>.int i
 | .inr x=>.str x
inductive HO where
  | lst (xs:List V)
  | tup (xs:List V)
  | dK (kvs:List (Key×V)) | dT (kvs:List (List Key×V))
  | set (S:Int->Bool) (n:Nat)
  | ins (C dx:Addr) (fs:List (Str×V))
  | own (x:Addr)
  | xd (fs:List (Str×V))
  | met (f x:Addr)
  | rng (lo hi:Int)
  | frz (o:Obj) (u:HO)
  | tbl (ps:Array Value)
  | ext (φ:Heap->Prop)
abbrev Hp:=Addr->Option HO
def upd (H:Hp)(a:Addr)(o:HO):Hp:=λb=>if b=a then some o else H b
theorem Gb {H:Hp}{a:Addr}{o:HO}:upd H a o a=some o:=by unfold upd;rw [if_pos rfl]
theorem Gr {H:Hp}{a b:Addr}{o:HO}(h:b≠a):upd H a o b=H b:=by unfold upd;rw [if_neg h]
theorem UR {H:Hp}{a:Addr}{o u:HO}:upd (upd H a o) a u=upd H a u:=by
 funext b;unfold upd;split <;> rfl
theorem J4 {H:Hp}{a b:Addr}{o u:HO}(h:H a=some o)(h':H b=some u)(d:o≠u):a≠b:=by
 intro e;subst e;rw [h] at h';exact d (Yaw h')
theorem Gh {H:Hp}{a b:Addr}{o:HO}(h:H a=some o)(h':H b=none):a≠b:=by
 intro e;subst e;rw [h] at h';cases h'
section
variable (P:Program)(w:World)
def ObjOk (H:Hp)(h:Heap)(a:Addr):HO->Prop
 | .lst xs=>xs.length<=sizeLine/\∃(its:List Value)(n:Nat),Vals xs its/\h.get? a=some { cls:=.type "list", data:=.seq its.toArray n }
 | .tup xs=>xs.length<=sizeLine/\∃its:List Value,Vals xs its/\IsTup h a its.toArray
 | .dK kvs=>kvs.length<=sizeLine/\(a == sysModules)=false/\∃vs,KV kvs vs/\h.DictOf (GM P w) a vs
 | .dT kvs=>kvs.length<=sizeLine/\(a == sysModules)=false/\∃xs:List (List Key×Addr×Value),
   Paired (λ(p:List Key×V) (q:List Key×Addr×Value)=>p.1=q.1/\H q.2.1=some (.tup (p.1.map kV))/\RelV p.2 q.2.2) kvs xs /\
   ∃o es ep,h.get? a=some o/\o.ExactDict/\o.data=.dict es ep/\es.toList=xs.map (entryOfKey (tupleKind (GM P w)))/\(xs.map (·.1)).Nodup
 | .set S n=>h.SetOf (intKind P w) a S n
 | .ins C dx fs=>H dx=some (.own a)/\fs.length<=1000/\dx≠a/\h.get? a=some (W.instObj C dx) /\
   ∃mA,h.Ns1 dx mA/\(∀f,RelO (fs.lookup f) (mA f))/\PySem.Within mA (fs.map (·.1))
 | .own _=>∃o,h.get? a=some o
 | .xd fs=>∃mA,h.Ns1 a mA/\∀f,RelO (fs.lookup f) (mA f)
 | .rng lo hi=>∃t u v,h.get? a=some { cls:=.type "range", data:=.fields #[.int lo t,.int hi u,.int 1 v] }
 | .frz o u=>h.get? a=some o/\ObjOk H h a u
 | .tbl ps=>h.get? a=some { cls:=.none,data:=.fields ps }
 | .met f x=>h.get? a=some (W.methodObj (.ref f) (.ref x))
 | .ext φ=>φ h/\(∃o,h.get? a=some o)/\∀h1 h2:Heap,φ h1->(∀o,h1.get? a=some o->h2.get? a=some o)->φ h2
def HOk (H:Hp)(h:Heap):Prop:=∀a o,H a=some o->ObjOk P w H h a o
end
section
variable {P:Program}{w:World}{H H':Hp}{h h':Heap}{a:Addr}{o:HO}
theorem ObjOk.lt (x:ObjOk P w H h a o):a<h.objs.size:=by
 cases o with
 | lst xs=>obtain ⟨_,_,_,_,e⟩:=x;exact Yaj e
 | tup xs=>obtain ⟨_,_,_,p⟩:=x;exact p.lt
 | dK kvs=>obtain ⟨_,_,_,_,o,_,_,e,_⟩:=x;exact Yaj e
 | dT kvs=>obtain ⟨_,_,_,_,o,_,_,e,_⟩:=x;exact Yaj e
 | set S n=>obtain ⟨o,_,_,_,e,_⟩:=x;exact Yaj e
 | ins C dx fs=>obtain ⟨_,_,_,e,_⟩:=x;exact Yaj e
 | own y=>obtain ⟨_,e⟩:=x;exact Yaj e
 | xd fs=>obtain ⟨_,⟨_,_,_,e,_⟩,_⟩:=x;exact Yaj e
 | rng lo hi=>obtain ⟨_,_,_,e⟩:=x;exact Yaj e
 | frz ob u=>obtain ⟨e,_⟩:=x;exact Yaj e
 | tbl ps=>exact Yaj (show h.get? a=some _ from x)
 | met f y=>exact Yaj (show h.get? a=some _ from x)
 | ext φ=>obtain ⟨_,⟨_,e⟩,_⟩:=x;exact Yaj e
theorem Paired.mapP {α β:Type}{F G:α->β->Prop}:∀{l₁:List α}{l₂:List β},Paired F l₁ l₂->(∀a b,F a b->G a b)->Paired G l₁ l₂
 | _,_,.nil,_=>.nil
 | _,_,.cons r t,f=>.cons (f _ _ r) (Paired.mapP t f)
theorem ObjOk.stay (x:ObjOk P w H h a o)(k:∀b u,(b=a\/H b=some (.own a))->h.get? b=some u->h'.get? b=some u)(L:∀b,H b=some (.own a)->H' b=some (.own a))(N:∀b xs,H b=some (.tup xs)->H' b=some (.tup xs)):ObjOk P w H' h' a o:=by
 induction o with
 | lst xs=>obtain ⟨z,D,n,r,e⟩:=x;exact ⟨z,D,n,r,k _ _ (.inl rfl) e⟩
 | tup xs=>obtain ⟨z,D,r,B,e,c⟩:=x;exact ⟨z,D,r,B,k _ _ (.inl rfl) e,c⟩
 | dK kvs=>obtain ⟨z,y,vs,r,B,es,ep,e,c⟩:=x;exact ⟨z,y,vs,r,B,es,ep,k _ _ (.inl rfl) e,c⟩
 | dT kvs=>
  obtain ⟨z,y,xs,r,B,es,ep,e,c⟩:=x;exact ⟨z,y,xs,Paired.mapP r λp q z=>⟨z.1,N _ _ z.2.1,z.2.2⟩,B,es,ep,k _ _ (.inl rfl) e,c⟩
 | set S n=>obtain ⟨B,es,ep,t,e,c⟩:=x;exact ⟨B,es,ep,t,k _ _ (.inl rfl) e,c⟩
 | ins C dx fs=>
  obtain ⟨d,z,O,e,F,⟨G,es,ep,U,c⟩,r⟩:=x;exact ⟨L _ d,z,O,k _ _ (.inl rfl) e,F,⟨G,es,ep,k _ _ (.inr d) U,c⟩,r⟩
 | own y=>obtain ⟨B,e⟩:=x;exact ⟨B,k _ _ (.inl rfl) e⟩
 | xd fs=>obtain ⟨F,⟨G,es,ep,e,c⟩,r⟩:=x;exact ⟨F,⟨G,es,ep,k _ _ (.inl rfl) e,c⟩,r⟩
 | rng lo hi=>obtain ⟨t,u,v,e⟩:=x;exact ⟨t,u,v,k _ _ (.inl rfl) e⟩
 | frz B u ih=>obtain ⟨e,q⟩:=x;exact ⟨k _ _ (.inl rfl) e,ih q⟩
 | tbl ps=>
  have e:h.get? a=some { cls:=.none,data:=.fields ps }:=x;show h'.get? a=some { cls:=.none,data:=.fields ps };exact k a _ (.inl rfl) e
 | met f y=>
  have e:h.get? a=some (W.methodObj (.ref f) (.ref y)):=x;show h'.get? a=some (W.methodObj (.ref f) (.ref y));exact k a _ (.inl rfl) e
 | ext φ=>obtain ⟨p,⟨o,e⟩,st⟩:=x;exact ⟨st _ _ p λo q=>k _ _ (.inl rfl) q,⟨o,k _ _ (.inl rfl) e⟩,st⟩
theorem HOk.lt (x:HOk P w H h)(e:H a=some o):a<h.objs.size:=(x a o e).lt
theorem HOk.fresh (x:HOk P w H h)(e:h.objs.size<=a):H a=none:=by
 cases q:H a with
 | none=>rfl
 | some u=>exact absurd (Ybe (x.lt q) e) (Ybt _)
theorem HOk.kept (x:HOk P w H h)(k:∀b u,h.get? b=some u->h'.get? b=some u):HOk P w H h':=λa o e=>
 (x a o e).stay (λb u _ q=>k b u q) (λ_ q=>q) λ_ _ q=>q
theorem HOk.laid (x:HOk P w H h)(k:∀b u,h.get? b=some u->h'.get? b=some u)(F:h.objs.size<=a)(new:ObjOk P w (upd H a o) h' a o):HOk P w (upd H a o) h':=λb u e=>by
 have B:=x.fresh F;by_cases D:b=a
 ·subst D;rw [Gb] at e;cases e;exact new
 ·rw [Gr D] at e;exact (x b u e).stay (λc v _ q=>k c v q) (λc q=>by rw [Gr (Gh q B)];exact q) λc xs q=>by rw [Gr (Gh q B)];exact q
end
def Rd (H:Hp)(a:Addr)(u:HO):Prop:=H a=some u\/∃o,H a=some (.frz o u)
theorem Rd.ok {P:Program}{w:World}{H:Hp}{h:Heap}{a:Addr}{u:HO}(r:Rd H a u)(x:HOk P w H h):ObjOk P w H h a u:=by
 rcases r with r | ⟨o,r⟩
 ·exact x a u r
 ·obtain ⟨_,q⟩:=x a _ r;exact q
def Mut:Option HO->Prop
 | some (.lst _)=>True
 | some (.dK _)=>True
 | some (.dT _)=>True
 | some (.set _ _)=>True
 | some (.ins _ _ _)=>True
 | some (.ext _)=>True
 | _=>False
section
variable {P:Program}{w:World}{H:Hp}{h h':Heap}{x e:Addr}{o':HO}
theorem HOk.write (ok:HOk P w H h)(G:Mut (H x))(U:e=x\/H e=some (.own x))(k:∀b u,b≠e->h.get? b=some u->h'.get? b=some u)(O:∃u,h'.get? e=some u)(new:ObjOk P w (upd H x o') h' x o'):HOk P w (upd H x o') h':=λb u q=>by
 have D:∀c y,H c=some (.own y)->c≠x:=λc y r z=>by subst z;rw [r] at G;exact G
 have F:∀c xs,H c=some (.tup xs)->c≠x:=λc xs r z=>by subst z;rw [r] at G;exact G
 by_cases L:b=x
 ·subst L;rw [Gb] at q;cases q;exact new
 ·rw [Gr L] at q;by_cases B:b=e
  ·have Y:H b=some (.own x):=by
    rcases U with z | z
    ·exact absurd (B.trans z) L
    ·rw [B];exact z
   rw [q] at Y;cases Y;obtain ⟨v,Z⟩:=O;exact ⟨v,by rw [B];exact Z⟩
  ·refine (ok b u q).stay (λc v N r=>k c v ?_ r) (λc r=>by rw [Gr (D c b r)];exact r) λc xs r=>by rw [Gr (F c xs r)];exact r
   rcases N with rfl | N
   ·exact B
   ·rintro rfl;rcases U with z | z
    ·exact D c b N z
    ·rw [N] at z;cases z;exact L rfl
end
structure Un (fs ex:List Addr)(H H':Hp)(h h':Heap):Prop where
 keep:∀b o,h.get? b=some o->H b=none->b ∉ fs->b ∉ ex->h'.get? b=some o
 slot:∀b o,h.get? b=some o->H b=none->b∈fs->b ∉ ex->∃sl,h'.get? b=some { o with slots:=sl }
 free:∀b o,h.get? b=some o->H b=none->b ∉ ex->H' b=none
 there:∀b o,h.get? b=some o->b ∉ ex->∃o',h'.get? b=some o'
 tups:∀b xs,H b=some (.tup xs)->H' b=some (.tup xs)
 frzs:∀b o u,H b=some (.frz o u)->H' b=some (.frz o u)
 tbls:∀b ps,H b=some (.tbl ps)->∃more,H' b=some (.tbl (ps++more))
section
variable {fs fs' ex ex':List Addr}{H H1 H2:Hp}{h h1 h2 h':Heap}{a x e:Addr}{o:HO}
theorem Un.any (u:Un fs ex H H1 h h1){b:Addr}{B:Obj}(q:h.get? b=some B)(n:H b=none)(D:b ∉ ex):∃G,h1.get? b=some { B with slots:=G }:=by
 by_cases F:b∈fs
 ·exact u.slot b B q n F D
 ·exact ⟨B.slots,u.keep b B q n F D⟩
theorem Un.trans (a:Un fs ex H H1 h h1)(b:Un fs ex H1 H2 h1 h2):Un fs ex H H2 h h2 where
 keep:=λc ob q n hc hx=>b.keep c ob (a.keep c ob q n hc hx) (a.free c ob q n hx) hc hx
 slot:=λc ob q n hc hx=>by
  obtain ⟨sl,e1⟩:=a.slot c ob q n hc hx;obtain ⟨sl',e2⟩:=b.slot c _ e1 (a.free c ob q n hx) hc hx;exact ⟨sl',e2⟩
 free:=λc ob q n hx=>by
  obtain ⟨o',e1⟩:=a.there c ob q hx;exact b.free c o' e1 (a.free c ob q n hx) hx
 there:=λc ob q hx=>by
  obtain ⟨o',e1⟩:=a.there c ob q hx;exact b.there c o' e1 hx
 tups:=λc xs q=>b.tups c xs (a.tups c xs q)
 frzs:=λc ob xs q=>b.frzs c ob xs (a.frzs c ob xs q)
 tbls:=λc ps q=>by
  obtain ⟨m1,e1⟩:=a.tbls c ps q;obtain ⟨m2,e2⟩:=b.tbls c _ e1;exact ⟨m1++m2,by rw [e2,Array.append_assoc]⟩
theorem Un.kept (k:∀b u,h.get? b=some u->h'.get? b=some u):Un fs ex H H h h':=
 ⟨λb B q _ _ _=>k b B q,λb B q _ _ _=>⟨B.slots,k b B q⟩,λ_ _ _ n _=>n,λb B q _=>⟨B,k b B q⟩,λ_ _ q=>q,λ_ _ _ q=>q,λ_ ps q=>⟨#[],by rw [q];simp⟩⟩
theorem Un.refl:Un fs ex H H h h:=Un.kept λ_ _ q=>q
theorem Un.laid (k:∀b u,h.get? b=some u->h'.get? b=some u)(hp:h.objs.size<=a)(hn:H a=none):Un fs ex H (upd H a o) h h' where
 keep:=λb u q _ _ _=>k b u q
 slot:=λb u q _ _ _=>⟨u.slots,k b u q⟩
 free:=λb u q n _=>by rw [Gr (Yaq (Ybe (Yaj q) hp))];exact n
 there:=λb u q _=>⟨u,k b u q⟩
 tups:=λb xs q=>by rw [Gr (Gh q hn)];exact q
 frzs:=λb u xs q=>by rw [Gr (Gh q hn)];exact q
 tbls:=λb ps q=>⟨#[],by rw [Gr (Gh q hn),q];simp⟩
theorem Un.write (D:Mut (H x))(O:e=x\/H e=some (.own x))(k:∀b u,b≠e->h.get? b=some u->h'.get? b=some u)(F:∃u,h'.get? e=some u):Un fs ex H (upd H x o) h h':=by
 have L:∀b,H b=none->b≠x:=λb n z=>by subst z;rw [n] at D;exact D
 have N:∀b,H b=none->b≠e:=λb n z=>by
  subst z;rcases O with r | r
  ·exact L b n r
  ·rw [n] at r;cases r
 have G:∀b u,H b=some u->¬ Mut (some u)->b≠x:=λb u q nm z=>by subst z;rw [q] at D;exact nm D
 refine ⟨λb u q n _ _=>k b u (N b n) q,λb u q n _ _=>⟨u.slots,k b u (N b n) q⟩,λb u q n _=>by rw [Gr (L b n)];exact n,λb u q _=>?_,
  λb xs q=>by rw [Gr (G b _ q λz=>z)];exact q,λb u xs q=>by rw [Gr (G b _ q λz=>z)];exact q,λb ps q=>⟨#[],by rw [Gr (G b _ q λz=>z),q];simp⟩⟩
 by_cases B:b=e
 ·subst B;exact F
 ·exact ⟨u,k b u B q⟩
theorem Un.mono (u:Un fs ex H H1 h h1)(G:∀b∈fs,b∈fs')(F:∀b∈ex,b∈ex'):Un fs' ex' H H1 h h1:=
 ⟨λb D q n L B=>u.keep b D q n (λz=>L (G b z)) λz=>B (F b z),λ_ _ q n _ B=>u.any q n λz=>B (F _ z),λb D q n B=>u.free b D q n λz=>B (F b z),λb D q B=>u.there b D q λz=>B (F b z),u.tups,u.frzs,u.tbls⟩
end
def trk (h:Heap)(H:Hp):List Addr:=(List.range h.objs.size).filter λa=>(H a).isSome
def ZbN (h:Heap)(H:Hp):Heap:=W.hideAll h (trk h H)
theorem ZJ (h:Heap)(H:Hp):(ZbN h H).objs.size=h.objs.size:=W.hideAll_size _ _
theorem ZbO {h:Heap}{H:Hp}{b:Addr}{o:Obj}(e:h.get? b=some o)(n:H b=none):(ZbN h H).get? b=some o:=
 W.hideAll_get _ e λB=>by
  have q:(H b).isSome=true:=(Ybk.mp B).2;rw [n] at q;simp at q
theorem ZdQ {h:Heap}{H:Hp}{b:Addr}{o:Obj}(e:(ZbN h H).get? b=some o):h.get? b=some o/\H b=none:=by
 have B:h.get? b=some o:=W.of_hideAll (trk h H) e;refine ⟨B,?_⟩;cases q:H b with
 | none=>rfl
 | some x=>
  have D:b∈trk h H:=Ybk.mpr ⟨Ybq.mpr (Yaj B),by simp [q]⟩;have z:(ZbN h H).get? b=none:=W.hideAll_none (trk h H) D;rw [z] at e;cases e
structure Mod (K:W.Frag)(mg:Str->Option Value)(base:Heap):Prop where
 kin:K.In base
 glob:base.Ns mainGlobals mg
 blt:∃mb,base.Ns builtinsNs mb/\∀x:Str,x ≠ "__name__" -> mb x=bootBuiltins x
 nolimit:base.NoLimit
structure Cx where
 prog:Program
 w:World
 K:W.Frag
 mg:Str->Option Value
 base:Heap
 A:Around
 N:List Str
 s₀:Shared
 H₀:Hp
 env:Env
 outer:List Env
 stack:List Env
 ex:List Addr
 fn:Str->Bool
 calm:Bool
 pn:List (Addr×Obj)
 xe:Value->Shared->Prop
def frs (l:List Env):List Addr:=l.filterMap (·.frame)
abbrev Cx.fs (X:Cx):List Addr:=frs X.outer
def Vis (B:Scope)(x:Str):Prop:=B.names.lookup x=some .local\/B.names.lookup x=some .cell\/B.names.lookup x=some .free
def Loc (B:Scope)(x:Str):Prop:=B.names.lookup x=some .local\/B.names.lookup x=some .cell
def ZiT (env:Env)(h:Heap)(m:Str->Option Value)(x:Str)(u:Value):Prop:=
 (env.kindOf x=some .local/\m x=some u)\/((env.kindOf x=some .cell\/env.kindOf x=some .free)/\∃c,env.cells.lookup x=some c/\h.IsCell c (some u))
structure Cx.Ok (X:Cx):Prop where
 mod:Mod X.K X.mg X.base
 kind:X.env.scope.kind=.function
 glob:X.env.globals=mainGlobals
 blt:X.env.builtins=builtinsNs
 above:X.s₀.heap.objs.size<=X.env.locals
 inj:∀x y c,X.env.cells.lookup x=some c->X.env.cells.lookup y=some c->x=y
 has:∀x,(X.env.kindOf x=some .cell\/X.env.kindOf x=some .free)->∃c,X.env.cells.lookup x=some c
 cab:∀x c,X.fn x=true->X.env.cells.lookup x=some c->X.s₀.heap.objs.size<=c
 hd:X.calm=true->X.A.handled=none
 frames:X.A.frames=some X.stack
 stk:X.stack=X.outer\/(X.stack=X.env::X.outer/\X.env.frame=some X.env.locals)
 exf:∀b∈X.ex,b≠X.env.locals/\∀x c,X.env.cells.lookup x=some c->c≠b
 bs:∀b o,X.base.get? b=some o->X.s₀.heap.get? b=some o/\X.H₀ b=none
 bsz:X.base.objs.size<=X.s₀.heap.objs.size
 noex:∀b o,X.base.get? b=some o->b ∉ X.ex
 exfs:∀b∈X.ex,b ∉ X.fs
 funs:X.s₀.heap.FunFrames X.base X.outer
 frf:∀b∈X.fs,X.H₀ b=none
structure Inv (X:Cx)(qQ:List (Addr×Obj))(σ:List (Option V))(H:Hp)(s:Shared):Prop where
 ok:X.Ok
 os:s.os=X.s₀.os
 bare:AllBare s.gens
 base:Un X.fs X.ex X.H₀ H X.s₀.heap s.heap
 loc:∃m,s.heap.Ns X.env.locals m/\∀(i:Nat)(x:Str)(v:V),X.N[i]?=some x->σ[i]?=some (some v)->Vis X.env.scope x->∃u,RelV v u/\ZiT X.env s.heap m x u
 cell:∀x c,X.env.cells.lookup x=some c->∃v,s.heap.IsCell c v
 free:H X.env.locals=none
 freeC:∀x c,X.env.cells.lookup x=some c->H c=none
 pin:∀p∈X.pn++qQ,s.heap.get? p.1=some p.2/\H p.1=none/\p.1≠X.env.locals/\p.1 ∉ X.fs/\∀v,p.2.data≠.cell v
 hok:HOk X.prog X.w H s.heap
 len:σ.length=X.N.length
section
variable {X:Cx}{qQ:List (Addr×Obj)}{σ:List (Option V)}{H H':Hp}{s:Shared}{h':Heap}
theorem Cx.Ok.nofr (ok:X.Ok){b:Addr}{o:Obj}(e:X.base.get? b=some o):b ∉ X.fs:=λB=>by
 have:=(ok.funs.mem B).1;rw [e] at this;cases this
theorem Inv.bs (I:Inv X qQ σ H s):∀b o,X.base.get? b=some o->s.heap.get? b=some o/\H b=none:=λb o e=>
 ⟨I.base.keep b o (I.ok.bs b o e).1 (I.ok.bs b o e).2 (I.ok.nofr e) (I.ok.noex b o e),I.base.free b o (I.ok.bs b o e).1 (I.ok.bs b o e).2 (I.ok.noex b o e)⟩
theorem Inv.bk (I:Inv X qQ σ H s):∀b o,X.base.get? b=some o->s.heap.get? b=some o:=λb o e=>(I.bs b o e).1
theorem Inv.mod (I:Inv X qQ σ H s):Mod X.K X.mg X.base:=I.ok.mod
theorem Inv.kIn (I:Inv X qQ σ H s):X.K.In s.heap:=I.ok.mod.kin.keeps I.bk
theorem Inv.lt (I:Inv X qQ σ H s):X.env.locals<s.heap.objs.size:=let ⟨_,hn,_⟩:=I.loc;hn.lt
theorem Inv.sz (I:Inv X qQ σ H s):X.s₀.heap.objs.size<=s.heap.objs.size:=Ycc I.ok.above (Yds I.lt)
theorem Inv.nofs (I:Inv X qQ σ H s){a:Addr}(h:s.heap.objs.size<=a):a ∉ X.fs:=λB=>by
 obtain ⟨_,o,D,_⟩:=I.ok.funs.mem B;exact absurd (Ybe (Yaj D) (Ycc I.sz h)) (Ybt _)
theorem Inv.cne (I:Inv X qQ σ H s):∀x c,X.env.cells.lookup x=some c->c≠X.env.locals:=λx c e z=>by
 obtain ⟨v,o,F,G⟩:=I.cell x c e;obtain ⟨m,⟨o',es,ep,B,D,_⟩,_⟩:=I.loc;rw [z,B] at F;cases F;rw [D] at G;cases G
theorem Inv.funs (I:Inv X qQ σ H s):s.heap.FunFrames X.base X.outer:=by
 have all:∀(l:List Env),(∀b∈frs l,b∈X.fs)->X.s₀.heap.FunFrames X.base l->s.heap.FunFrames X.base l:=by
  intro l
  induction l with
  | nil=>intro _ _;trivial
  | cons env r ih=>
   intro G N;obtain ⟨O,⟨L,o,B,U,Y,Z⟩,hr⟩:=N;have D:L∈X.fs:=G L (by unfold frs;rw [List.filterMap_cons,B];exact Yaz);obtain ⟨sl,e⟩:=I.base.slot L o Y (I.ok.frf L D) D λz=>I.ok.exfs L z D;exact ⟨O,⟨L,_,B,U,e,Z⟩,ih (λb F=>G b (by unfold frs;rw [List.filterMap_cons,B];exact Ybm _ F)) hr⟩
 exact all X.outer (λ_ F=>F) I.ok.funs
theorem Inv.stack (I:Inv X qQ σ H s):s.heap.FunFrames X.base X.stack:=by
 rcases I.ok.stk with e | ⟨e,B⟩
 ·rw [e];exact I.funs
 ·rw [e];obtain ⟨m,D,_⟩:=I.loc;refine .cons (by rw [I.ok.kind];decide) B D ?_ I.funs;exact Heap.get?_none_of_le (Ycc I.ok.bsz I.ok.above)
theorem Inv.stkSub (I:Inv X qQ σ H s):∀b∈frs X.stack,b∈X.env.locals::X.fs:=λb B=>by
 rcases I.ok.stk with e | ⟨e,D⟩
 ·rw [e] at B;exact Ybm _ B
 ·rw [e] at B;unfold frs at B;rw [List.filterMap_cons,D] at B;exact B
theorem Inv.stkFree (I:Inv X qQ σ H s):∀b∈frs X.stack,H b=none:=λb B=>by
 rcases Yar.mp (I.stkSub b B) with e | B
 ·rw [e];exact I.free
 ·obtain ⟨_,o,D,_⟩:=I.ok.funs.mem B;exact I.base.free b o D (I.ok.frf b B) λz=>I.ok.exfs b z B
theorem Inv.step {g':Array GenState}{t':Nat}{d':Drawn}{ch:List Addr}(I:Inv X qQ σ H s)(D:∀b∈ch,(b∈X.ex\/X.s₀.heap.objs.size<=b)/\b≠X.env.locals/\(∀x c,X.env.cells.lookup x=some c->c≠b)/\∀p∈X.pn++qQ,p.1≠b)(keep:∀b o,b≠X.env.locals->b ∉ X.fs->b ∉ ch->s.heap.get? b=some o->H b=none->h'.get? b=some o)(O:∀b o,b≠X.env.locals->b∈X.fs->b ∉ ch->s.heap.get? b=some o->H b=none->∃sl,h'.get? b=some { o with slots:=sl })(free:∀b o,b ∉ ch->s.heap.get? b=some o->H b=none->H' b=none)(there:∀b o,b ∉ ch->s.heap.get? b=some o->∃o',h'.get? b=some o')(Z:∀b xs,H b=some (.tup xs)->H' b=some (.tup xs))(aa:∀b o u,H b=some (.frz o u)->H' b=some (.frz o u))(ab:∀b ps,H b=some (.tbl ps)->∃ac,H' b=some (.tbl (ps++ac)))(ns:∀m,s.heap.Ns X.env.locals m->h'.Ns X.env.locals m)(ae:HOk X.prog X.w H' h')(hg:AllBare g') :
  Inv X qQ σ H' { s with heap:=h',gens:=g',drawn:=d',toks:=t' }:=by
 have ad:∀b o,X.s₀.heap.get? b=some o->b≠X.env.locals:=λb o e=>Yaq (Ybe (Yaj e) I.ok.above);have L:∀b o,X.s₀.heap.get? b=some o->b ∉ X.ex->b ∉ ch:=λb o e B U=>by
  rcases (D b U).1 with z | z
  ·exact B z
  ·exact absurd (Ybe (Yaj e) z) (Ybt _)
 have F:∀x c,X.env.cells.lookup x=some c->∀v,s.heap.IsCell c v->h'.IsCell c v:=λx c e v ⟨o,Y,hd⟩=>by
  have G:c ∉ ch:=λz=>(D c z).2.2.1 x c e rfl;by_cases hc:c∈X.fs
  ·obtain ⟨sl,q⟩:=O c o (I.cne x c e) hc G Y (I.freeC x c e);exact ⟨_,q,hd⟩
  ·exact ⟨o,keep c o (I.cne x c e) hc G Y (I.freeC x c e),hd⟩
 refine ⟨I.ok,I.os,hg,⟨λb o e n U B=>?_,λb o e n U B=>?_,λb o e n B=>?_,λb o e B=>?_,λb xs e=>Z b xs (I.base.tups b xs e),λb o xs e=>aa b o xs (I.base.frzs b o xs e),λb ps e=>?_⟩,?_,λx c e=>?_,?_,λx c e=>?_,λp hp=>?_,ae,I.len⟩
 ·exact keep b o (ad b o e) U (L b o e B) (I.base.keep b o e n U B) (I.base.free b o e n B)
 ·obtain ⟨sl,N⟩:=I.base.slot b o e n U B;obtain ⟨af,e2⟩:=O b _ (ad b o e) U (L b o e B) N (I.base.free b o e n B);exact ⟨af,e2⟩
 ·obtain ⟨o',N⟩:=I.base.there b o e B;exact free b o' (L b o e B) N (I.base.free b o e n B)
 ·obtain ⟨o',N⟩:=I.base.there b o e B;exact there b o' (L b o e B) N
 ·obtain ⟨m1,N⟩:=I.base.tbls b ps e;obtain ⟨m2,e2⟩:=ab b _ N;exact ⟨m1++m2,by rw [e2,Array.append_assoc]⟩
 ·obtain ⟨m,hn,hl⟩:=I.loc;refine ⟨m,ns m hn,λi x v N e2 e3=>?_⟩;obtain ⟨u,r,l⟩:=hl i x v N e2 e3;refine ⟨u,r,?_⟩;rcases l with l | ⟨k,c,e,z⟩
  ·exact .inl l
  ·exact .inr ⟨k,c,e,F x c e _ z⟩
 ·obtain ⟨v,z⟩:=I.cell x c e;exact ⟨v,F x c e v z⟩
 ·obtain ⟨m,⟨o,_,_,Y,_⟩,_⟩:=I.loc;exact free _ o (λz=>(D _ z).2.1 rfl) Y I.free
 ·obtain ⟨v,o,Y,hd⟩:=I.cell x c e;exact free c o (λz=>(D c z).2.2.1 x c e rfl) Y (I.freeC x c e)
 ·obtain ⟨e,n,ne,nf,d⟩:=I.pin p hp;have G:p.1 ∉ ch:=λz=>(D p.1 z).2.2.2 p hp rfl;exact ⟨keep p.1 p.2 ne nf G e n,free p.1 p.2 G e n,ne,nf,d⟩
theorem Inv.un {t':Nat}(I:Inv X qQ σ H s)(u:Un X.fs [] H H' s.heap h')(D:HOk X.prog X.w H' h'):Inv X qQ σ H' { s with heap:=h',toks:=t' }:=by
 obtain ⟨m,⟨o,es,ep,N,r⟩,_⟩:=id I.loc;obtain ⟨Z,O⟩:=u.any N I.free (by simp);exact I.step (g':=s.gens) (d':=s.drawn) (ch:=[]) (λ_ z=>nomatch z) (λb o _ F _ e n=>u.keep b o e n F (by simp)) (λb o _ F _ e n=>u.slot b o e n F (by simp)) (λb o _ e n=>u.free b o e n (by simp)) (λb o _ e=>u.there b o e (by simp)) u.tups u.frzs u.tbls (λm' U=>by
  obtain ⟨o',G,L,B,Y⟩:=U;rw [N] at B;cases B;exact ⟨_,G,L,O,Y⟩) D I.bare
theorem Inv.call {g':Array GenState}{t':Nat}{d':Drawn}{ch:List Addr}(I:Inv X qQ σ H s)(u:Un (frs X.stack) ch H H' s.heap h')(G:HOk X.prog X.w H' h')(Y:AllBare g')(D:∀b∈ch,(b∈X.ex\/X.s₀.heap.objs.size<=b)/\b≠X.env.locals/\(∀x c,X.env.cells.lookup x=some c->c≠b)/\∀p∈X.pn++qQ,p.1≠b) :
  Inv X qQ σ H' { s with heap:=h',gens:=g',drawn:=d',toks:=t' }:=by
 obtain ⟨m,⟨o,es,ep,U,r⟩,_⟩:=id I.loc;obtain ⟨sl,L⟩:=u.any U I.free λz=>(D _ z).2.1 rfl;exact I.step (ch:=ch) D (λb o L Z B e n=>u.keep b o e n (λz=>(Yar.mp (I.stkSub b z)).elim L Z) B) (λb o _ _ B e n=>u.any e n B) (λb o B e n=>u.free b o e n B) (λb o B e=>u.there b o e B) u.tups u.frzs u.tbls (λm' hm=>by
  obtain ⟨o',N,O,F,r'⟩:=hm;rw [U] at F;cases F;exact ⟨_,N,O,L,r'⟩) G Y
theorem Inv.turned {t':Nat}{B:Addr}(I:Inv X qQ σ H s)(k:∀b o,b≠B->s.heap.get? b=some o->h'.get? b=some o)(L:H B=none)(G:B≠X.env.locals)(h1:B∈X.ex\/X.s₀.heap.objs.size<=B)(h2:∀x c,X.env.cells.lookup x=some c->c≠B)(N:∀p∈X.pn++qQ,p.1≠B):Inv X qQ σ H { s with heap:=h',toks:=t' }:=by
 have F:∀b u,H b=some u->b≠B:=λb u e z=>by rw [z,L] at e;cases e
 refine I.step (g':=s.gens) (d':=s.drawn) (ch:=[B]) (λb O=>?_) (λb o _ _ D e _=>k b o (λz=>D (by simp [z])) e) (λb o _ _ D e _=>⟨o.slots,k b o (λz=>D (by simp [z])) e⟩) (λ_ _ _ _ n=>n)
  (λb o D e=>⟨o,k b o (λz=>D (by simp [z])) e⟩) (λ_ _ e=>e) (λ_ _ _ e=>e) (λb ps e=>⟨#[],by rw [e];simp⟩) (λm U=>?_) (λb u e=>?_) I.bare
 ·have e:b=B:=by simpa using O
  subst e;exact ⟨h1,G,h2,N⟩
 ·obtain ⟨o,es,ep,Y,r⟩:=U;exact ⟨o,es,ep,k _ o (Ne.symm G) Y,r⟩
 ·refine (I.hok b u e).stay (λc v D q=>k c v ?_ q) (λ_ q=>q) λ_ _ q=>q;rcases D with z | z
  ·rw [z];exact F b u e
  ·exact F c _ z
theorem Inv.tok (I:Inv X qQ σ H s)(t:Nat):Inv X qQ σ H { s with toks:=t }:=I.un (h':=s.heap) (t':=t) Un.refl I.hok
theorem Inv.kept {t':Nat}(I:Inv X qQ σ H s)(k:∀b u,s.heap.get? b=some u->h'.get? b=some u):Inv X qQ σ H { s with heap:=h',toks:=t' }:=I.un (Un.kept k) (I.hok.kept k)
theorem Inv.laid {a:Addr}{o:HO}{t':Nat}(I:Inv X qQ σ H s)(k:∀b u,s.heap.get? b=some u->h'.get? b=some u)(B:s.heap.objs.size<=a)(new:ObjOk X.prog X.w (upd H a o) h' a o) :
  Inv X qQ σ (upd H a o) { s with heap:=h',toks:=t' }:=I.un (Un.laid k B (I.hok.fresh B)) (I.hok.laid k B new)
theorem Inv.write {x e:Addr}{o:HO}{t':Nat}(I:Inv X qQ σ H s)(D:Mut (H x))(F:e=x\/H e=some (.own x))(k:∀b u,b≠e->s.heap.get? b=some u->h'.get? b=some u)(B:∃u,h'.get? e=some u)(new:ObjOk X.prog X.w (upd H x o) h' x o):Inv X qQ σ (upd H x o) { s with heap:=h',toks:=t' }:=I.un (Un.write D F k B) (I.hok.write D F k B new)
theorem Inv.weak {B:List (Option V)}(I:Inv X qQ σ H s)(D:B.length=σ.length)(w:∀(i:Nat) v,B[i]?=some (some v)->σ[i]?=some (some v)):Inv X qQ B H s:=
 ⟨I.ok,I.os,I.bare,I.base,let ⟨m,hn,hl'⟩:=I.loc;⟨m,hn,λi x v F G L=>hl' i x v F (w i v G) L⟩,I.cell,I.free,I.freeC,I.pin,I.hok,D.trans I.len⟩
theorem Inv.pins_of {B:List (Addr×Obj)}(I:Inv X qQ σ H s)(h:∀p∈B,s.heap.get? p.1=some p.2/\H p.1=none/\p.1≠X.env.locals/\p.1 ∉ X.fs/\∀v,p.2.data≠.cell v):Inv X B σ H s:=
 ⟨I.ok,I.os,I.bare,I.base,I.loc,I.cell,I.free,I.freeC,λp D=>(Yav.mp D).elim (λz=>I.pin p (Yeo _ z)) (h p),I.hok,I.len⟩
theorem Yb {N:List Str}(B:N.Nodup){i j:Nat}{x:Str}(a:N[i]?=some x)(b:N[j]?=some x):i=j:=by
 obtain ⟨h1,D⟩:=Ybf.mp a;obtain ⟨h2,F⟩:=Ybf.mp b;exact (List.getElem_inj B).mp (D.trans F.symm)
theorem Wx {M:Model}{A:Around}{E:Value->Shared->Prop}{i:Nat}{x:Str}{v:V}{u:Value}{Q:Unit->Shared->Prop}(I:Inv X qQ σ H s)(hN:X.N.Nodup)(hi:X.N[i]?=some x)(L:Loc X.env.scope x)(r:RelV v u)(h:∀s',Inv X qQ (σ.set i (some v)) H s'->(∃a,Heap.SameBut a s.heap s'.heap/\(a=X.env.locals\/X.env.cells.lookup x=some a))->Q () s')(hf:X.fn x=true\/X.env.scope.names.lookup x=some .local:=by first | exact .inl rfl | exact .inr rfl | assumption):wpAny M A (storeName X.env x u) Q E s:=by
 obtain ⟨m,hn,hl⟩:=id I.loc;have ab:(X.env.scope.kind == .class || (X.env.scope.kind == .module && X.env.locals != X.env.globals))=false:=by rw [I.ok.kind];rfl
 have ac:i<σ.length:=by rw [I.len];exact (Ybf.mp hi).1
 have cne:=I.cne;have D:∀{a:Addr}{h':Heap},(∃o,s.heap.get? a=some o/\H a=none)->Heap.SameBut a s.heap h'->HOk X.prog X.w H h':=λ{a h'} ha B b ob e=>by
  obtain ⟨_,_,O⟩:=ha;refine (I.hok b ob e).stay (λc w' G q=>(B.2 c ?_).trans q) (λ_ q=>q) λ_ _ q=>q;rintro rfl;rcases G with rfl | G
  ·rw [O] at e;cases e
  ·rw [O] at G;cases G
 rcases L with Y | Y
 ·refine wpAny_storeName_local Y hn (λh' ah B=>?_) ab;obtain ⟨oL,_,_,ai,_⟩:=id hn;refine h _ ⟨I.ok,I.os,I.bare,⟨λb o e n Z L=>?_,λb o e n Z L=>?_,I.base.free,λb o e L=>?_,I.base.tups,I.base.frzs,I.base.tbls⟩,⟨_,ah,λj y v' F U e3=>?_⟩,λy c e=>?_,I.free,I.freeC,λp hp=>?_,D ⟨oL,ai,I.free⟩ B,by simpa using I.len⟩ ⟨_,B,.inl rfl⟩
  ·exact (B.2 b (Yaq (Ybe (Yaj e) I.ok.above))).trans (I.base.keep b o e n Z L)
  ·obtain ⟨sl,F⟩:=I.base.slot b o e n Z L;exact ⟨sl,(B.2 b (Yaq (Ybe (Yaj e) I.ok.above))).trans F⟩
  ·obtain ⟨o',F⟩:=I.base.there b o e L;exact ⟨o',(B.2 b (Yaq (Ybe (Yaj e) I.ok.above))).trans F⟩
  ·by_cases hj:j=i
   ·subst hj;rw [hi] at F;cases F;rw [List.getElem?_set_self ac] at U;cases U;exact ⟨u,r,.inl ⟨Y,by simp⟩⟩
   ·rw [List.getElem?_set_ne (Ne.symm hj)] at U;obtain ⟨u',r',q⟩:=hl j y v' F U e3;refine ⟨u',r',?_⟩;rcases q with ⟨k,e⟩ | ⟨k,c,e,z⟩
    ·refine .inl ⟨k,?_⟩;have:y≠x:=λe=>hj (Yb hN F (e▸hi));simp [this,e]
    ·exact .inr ⟨k,c,e,z.sameBut B (cne y c e)⟩
  ·obtain ⟨w',z⟩:=I.cell y c e;exact ⟨w',z.sameBut B (cne y c e)⟩
  ·obtain ⟨e,n,ne,nf,d⟩:=I.pin p hp;exact ⟨(B.2 p.1 ne).trans e,n,ne,nf,d⟩
 ·have aa:X.fn x=true:=by
   rcases hf with z | z
   ·exact z
   ·rw [z] at Y;cases Y
  obtain ⟨c,G⟩:=I.ok.has x (.inl Y);obtain ⟨w',z⟩:=I.cell x c G;refine wpAny_storeName_cell I.ok.kind Y G z (λh' ad B=>?_);obtain ⟨oc,ae,af⟩:=id z;refine h { s with heap:=h' } ⟨I.ok,I.os,I.bare,⟨λb o e n Z L=>?_,λb o e n Z L=>?_,I.base.free,λb o e L=>?_,I.base.tups,I.base.frzs,I.base.tbls⟩,⟨m,hn.sameBut B (Ne.symm (cne x c G)),λj y v' F U e3=>?_⟩,λy c' e=>?_,I.free,I.freeC,λp hp=>?_,D ⟨oc,ae,I.freeC x c G⟩ B,by simpa using I.len⟩ ⟨c,B,.inr G⟩
  ·exact (B.2 b (Yaq (Ybe (Yaj e) (I.ok.cab x c aa G)))).trans (I.base.keep b o e n Z L)
  ·obtain ⟨sl,F⟩:=I.base.slot b o e n Z L;exact ⟨sl,(B.2 b (Yaq (Ybe (Yaj e) (I.ok.cab x c aa G)))).trans F⟩
  ·obtain ⟨o',F⟩:=I.base.there b o e L;exact ⟨o',(B.2 b (Yaq (Ybe (Yaj e) (I.ok.cab x c aa G)))).trans F⟩
  ·by_cases hj:j=i
   ·subst hj;rw [hi] at F;cases F;rw [List.getElem?_set_self ac] at U;cases U;exact ⟨u,r,.inr ⟨.inl Y,c,G,ad⟩⟩
   ·rw [List.getElem?_set_ne (Ne.symm hj)] at U;obtain ⟨u',r',q⟩:=hl j y v' F U e3;refine ⟨u',r',?_⟩;rcases q with q | ⟨k,c',e,z'⟩
    ·exact .inl q
    ·refine .inr ⟨k,c',e,z'.sameBut B ?_⟩;rintro rfl;exact hj (Yb hN F (I.ok.inj _ _ _ e G▸hi))
  ·by_cases ag:c'=c
   ·subst ag;exact ⟨_,ad⟩
   ·obtain ⟨w2,z2⟩:=I.cell y c' e;exact ⟨w2,z2.sameBut B ag⟩
  ·obtain ⟨e,n,ne,nf,d⟩:=I.pin p hp;refine ⟨(B.2 p.1 ?_).trans e,n,ne,nf,d⟩;intro q;rw [q,ae] at e;have q':oc=p.2:=Yaw e;exact d w' (by rw [<-q'];exact af)
theorem Yc {M:Model}{A:Around}{E:Value->Shared->Prop}{i:Nat}{x:Str}{v:V}{u:Value}{Q:Unit->Shared->Prop}(I:Inv X qQ σ H s)(B:X.N.Nodup)(hi:X.N[i]?=some x)(D:Loc X.env.scope x)(r:RelV v u)(h:∀s',Inv X qQ (σ.set i (some v)) H s'->Q () s')(F:X.fn x=true\/X.env.scope.names.lookup x=some .local:=by first | exact .inl rfl | exact .inr rfl | assumption):wpAny M A (storeName X.env x u) Q E s:=
 Wx I B hi D r (λs' G _=>h s' G) F
theorem Inv.call' {s':Shared}{ch:List Addr}(I:Inv X qQ σ H s)(F:s'.os=s.os)(u:Un (frs X.stack) ch H H' s.heap s'.heap)(B:HOk X.prog X.w H' s'.heap)(G:AllBare s'.gens)(D:∀b∈ch,(b∈X.ex\/X.s₀.heap.objs.size<=b)/\b≠X.env.locals/\(∀x c,X.env.cells.lookup x=some c->c≠b)/\∀p∈X.pn++qQ,p.1≠b):Inv X qQ σ H' s':=by
 obtain ⟨h',g',d',t',o'⟩:=s';have e:o'=s.os:=F;subst e;exact I.call (g':=g') (t':=t') (d':=d') u B G D
end
abbrev XK:=Value->Option Addr->Hp->Prop
abbrev St:=List (Option V)
abbrev VK:=V->Hp->Prop
abbrev TE:=St->Hp->VK->Prop
abbrev TT:=St->Hp->(Bool->Hp->Prop)->Prop
abbrev TA:=St->Hp->(List V->Hp->Prop)->Prop
structure Ends where
 nx:St->Hp->Prop
 rt:VK
 bk:St->Hp->Prop:=λ_ _=>False
 ct:St->Hp->Prop:=λ_ _=>False
abbrev TS:=Ends->St->Hp->Prop
def EP (X:Cx)(qQ:List (Addr×Obj))(σ:St)(Q:VK)(u:Value)(s':Shared):Prop:=∃v H',Inv X qQ σ H' s'/\RelV v u/\Q v H'
def TP (X:Cx)(qQ:List (Addr×Obj))(σ:St)(Q:Bool->Hp->Prop)(b:Bool)(s':Shared):Prop:=∃H',Inv X qQ σ H' s'/\Q b H'
def AP (X:Cx)(qQ:List (Addr×Obj))(σ:St)(Q:List V->Hp->Prop)(us:List Value)(s':Shared):Prop:=∃vs H',Inv X qQ σ H' s'/\Vals vs us/\Q vs H'
def SP (X:Cx)(qQ:List (Addr×Obj))(D:Ends)(f:Flow)(s':Shared):Prop:=
 match f with
 | .next=>∃ B H',Inv X qQ B H' s'/\D.nx B H'
 | .brk=>∃ B H',Inv X qQ B H' s'/\D.bk B H'
 | .cont=>∃ B H',Inv X qQ B H' s'/\D.ct B H'
 | .ret u=>∃v B H',Inv X qQ B H' s'/\RelV v u/\D.rt v H'
def PE (X:Cx)(e:Expr)(t:TE):Prop:=
 ∀(qQ:List (Addr×Obj))(s:Shared)(σ:St)(H:Hp)(Q:VK),Inv X qQ σ H s->t σ H Q->wpAny (model X.prog X.w) X.A (eval e X.env) (EP X qQ σ Q) X.xe s
def PT (X:Cx)(e:Expr)(t:TT):Prop:=
 ∀(qQ:List (Addr×Obj))(s:Shared)(σ:St)(H:Hp)(Q:Bool->Hp->Prop),Inv X qQ σ H s->t σ H Q->wpAny (model X.prog X.w) X.A (isTrue e X.env (eval e X.env)) (TP X qQ σ Q) X.xe s
def PW (X:Cx)(e:Expr)(t:TT):Prop:=
 ∀(B:Sem Value)(qQ:List (Addr×Obj))(s:Shared)(σ:St)(H:Hp)(Q:Bool->Hp->Prop),Inv X qQ σ H s->t σ H Q->wpAny (model X.prog X.w) X.A (isTrue e X.env B) (TP X qQ σ Q) X.xe s
theorem PW.pt {X:Cx}{e:Expr}{t:TT}(h:PW X e t):PT X e t:=h _
def PA (X:Cx)(es:List Expr)(t:TA):Prop:=
 ∀(pos:Pos)(qQ:List (Addr×Obj))(s:Shared)(σ:St)(H:Hp)(Q:List V->Hp->Prop),Inv X qQ σ H s->t σ H Q->wpAny (model X.prog X.w) X.A (spliced (backTo pos (starEach es X.env))) (AP X qQ σ Q) X.xe s
def PS (X:Cx)(st:Stmt)(t:TS):Prop:=
 ∀(qQ:List (Addr×Obj))(s:Shared)(σ:St)(H:Hp)(D:Ends),Inv X qQ σ H s->t D σ H->wpAny (model X.prog X.w) X.A (exec st X.env) (SP X qQ D) X.xe s
def PSs (X:Cx)(st:List Stmt)(t:TS):Prop:=
 ∀(qQ:List (Addr×Obj))(s:Shared)(σ:St)(H:Hp)(D:Ends),Inv X qQ σ H s->t D σ H->wpAny (model X.prog X.w) X.A (execs st X.env) (SP X qQ D) X.xe s
theorem thn {α:Type}{t:Sem α}{Q B:α->Shared->Prop}{M:Model}{A:Around}{E:Value->Shared->Prop}{s:Shared}(h:wpAny M A t Q E s)(D:∀a s,Q a s->B a s):wpAny M A t B E s:=Yci h D λ_ _ x=>x
section
variable {X:Cx}
theorem bin {a b:Expr}{ta tb:TE}(D:PE X a ta)(F:PE X b tb){qQ:List (Addr×Obj)}{s:Shared}{σ:St}{H:Hp}{R:V->V->Hp->Prop}(I:Inv X qQ σ H s)(h:ta σ H λx H1=>tb σ H1 λy H2=>R x y H2){α:Type}{Q:α->Shared->Prop}{f:Value->Value->Sem α}(G:∀v u B x y H2,Inv X qQ σ H2 B->RelV x v->RelV y u->R x y H2->wpAny (model X.prog X.w) X.A (f v u) Q X.xe B) :
  wpAny (model X.prog X.w) X.A (eval a X.env) (λv L=>wpAny (model X.prog X.w) X.A (eval b X.env) (λu N=>wpAny (model X.prog X.w) X.A (f v u) Q X.xe N) X.xe L) X.xe s:=by
 refine thn (D qQ s σ H _ I h) λv s1 ⟨x,H1,O,r1,q1⟩=>?_;refine thn (F qQ s1 σ H1 _ O q1) λu B ⟨y,H2,U,Y,Z⟩=>?_;exact G v u B x y H2 U r1 Y Z
def Y6 (i:Nat):TE:=λσ H Q=>∃v,σ[i]?=some (some v)/\Q v H
def tC (v:V):TE:=λ_ H Q=>Q v H
theorem Zfl {i:Nat}{x:Str}{pos:Pos}(O:X.N[i]?=some x)(U:Vis X.env.scope x)(D:(x == ("__debug__" : Str))=false:=by decide)(F:(x == ("__classdict__" : Str))=false:=by decide):PE X (.Name x pos) (Y6 i):=by
 intro qQ s σ H Q I h;obtain ⟨v,e,h⟩:=h;obtain ⟨m,Y,Z⟩:=I.loc;obtain ⟨u,r,l⟩:=Z i x v O e U;have fin:EP X qQ σ Q u s:=⟨v,H,I,r,h⟩;rcases l with ⟨B,hm⟩ | ⟨B,c,G,L⟩
 ·exact wpAny_Name (wpAny_loadName_local I.ok.kind B Y hm fin) D
 ·rcases B with B | B
  ·exact wpAny_Name (wpAny_loadName_cell I.ok.kind B G L fin) D
  ·exact wpAny_Name (wpAny_loadName_free I.ok.kind B G L fin F) D
theorem Gg {i j pos}:PE X (.Constant (.int i) j pos) (tC (.int i)):=λ_ _ _ H _ I h=>wpAny_Constant_int ⟨.int i,H,I.tok _,⟨_,rfl⟩,h⟩
theorem Xw {b j pos}:PE X (.Constant (.bool b) j pos) (tC (.bl b)):=λ_ _ _ H _ I h=>Constant_bool ⟨.bl b,H,I,rfl,h⟩
theorem US {j pos}:PE X (.Constant .none j pos) (tC .non):=λ_ _ _ H _ I h=>Constant_none ⟨.non,H,I,rfl,h⟩
theorem JD {x j pos}:PE X (.Constant (.str x) j pos) (tC (.str x)):=λ_ _ _ H _ I h=>Calls.Constant_str ⟨.str x,H,I.tok _,⟨_,rfl⟩,h⟩
def Gl (X:Cx)(x:Str):Prop:=X.env.kindOf x=some .globalImplicit
theorem Xx {E:Value->Shared->Prop}{qQ:List (Addr×Obj)}{s:Shared}{σ:St}{H:Hp}{x:Str}{u:Value}{pos:Pos}{Q:Value->Shared->Prop}(I:Inv X qQ σ H s)(B:Gl X x)(D:X.mg x=some u)(h:Q u s)(F:(x == ("__debug__" : Str))=false:=by decide):wpAny (model X.prog X.w) X.A (eval (.Name x pos) X.env) Q E s:=
 Calls.Name_function_global I.ok.kind B (Calls.loadGlobal_global (by rw [I.ok.glob];exact I.mod.glob.keeps I.bk) D h) F
theorem OR {E:Value->Shared->Prop}{qQ:List (Addr×Obj)}{s:Shared}{σ:St}{H:Hp}{x:Str}{u:Value}{pos:Pos}{Q:Value->Shared->Prop}(I:Inv X qQ σ H s)(B:Gl X x)(D:X.mg x=none)(F:bootBuiltins x=some u)(h:Q u s)(G:x ≠ "__name__" := by decide)(L:(x == ("__debug__" : Str))=false:=by decide):wpAny (model X.prog X.w) X.A (eval (.Name x pos) X.env) Q E s:=by
 obtain ⟨N,h1,h2⟩:=I.mod.blt;exact Calls.Name_function_global I.ok.kind B (Calls.loadGlobal_builtin (by rw [I.ok.glob];exact I.mod.glob.keeps I.bk) D (by rw [I.ok.blt];exact h1.keeps I.bk) ((h2 x G).trans F) h) L
theorem Jp {x:Str}{v:V}{u:Value}{pos:Pos}(B:Gl X x)(D:X.mg x=some u)(r:RelV v u)(F:(x == ("__debug__" : Str))=false:=by decide):PE X (.Name x pos) (tC v):=
 λ_ _ _ H _ I h=>Xx I B D ⟨v,H,I,r,h⟩ F
theorem ZdR {x:Str}{v:V}{u:Value}{pos:Pos}(B:Gl X x)(D:X.mg x=none)(F:bootBuiltins x=some u)(r:RelV v u)(G:x ≠ "__name__" := by decide)(L:(x == ("__debug__" : Str))=false:=by decide):PE X (.Name x pos) (tC v):=
 λ_ _ _ H _ I h=>OR I B D F ⟨v,H,I,r,h⟩ G L
variable {a b:Expr}{ta tb:TE}{pos:Pos}
def PC (X:Cx)(op:CmpOp)(a b:Expr)(t:TE):Prop:=
 ∀(qQ:List (Addr×Obj))(s:Shared)(σ:St)(H:Hp)(Q:VK),Inv X qQ σ H s->t σ H Q ->
  wpAny (model X.prog X.w) X.A (eval a X.env) (λv B=>wpAny (model X.prog X.w) X.A (eval b X.env) (λu D=>wpAny (model X.prog X.w) X.A (compareOp op v u) (EP X qQ σ Q) X.xe D) X.xe B) X.xe s
def tB (t:TE):TT:=λσ H Q=>t σ H λx H1=>∃c,x=.bl c/\Q c H1
theorem Zfm {op:CmpOp}{t:TE}(h:PC X op a b t)(h1:behindInMarks op b=false:=by first | exact nobehind _ (by decide) (by decide) | rfl):PE X (.Compare a [op] [b] pos) t:=λqQ s σ H Q I B=>wpAny_Compare1 (h qQ s σ H Q I B) h1
theorem Zc4 {op:CmpOp}{t:TE}(h:PC X op a b t)(h1:behindInMarks op b=false:=by first | exact nobehind _ (by decide) (by decide) | rfl):PT X (.Compare a [op] [b] pos) (tB t):=by
 intro qQ s σ H Q I B;refine wpAny_isTrue_Compare1 (thn (h qQ s σ H _ I B) λv s1 h1=>thn h1 λu F h2=>thn h2 λc G ⟨x,H1,D,r1,q1⟩=>?_) h1;obtain ⟨d,rfl,q⟩:=q1;cases r1;exact Ydl ⟨H1,D,q⟩
theorem JL {e:Expr}{t:TE}(h:PE X e t)(D:∀B,isTrue e X.env B=(do let v <- B;standAt e.pos;holding [v] (truthy v)):=by intro _;rfl):PT X e (tB t):=by
 intro qQ s σ H Q I F;refine isTrue_plain (thn (h qQ s σ H _ I F) λv s1 ⟨x,H1,G,r1,q1⟩=>?_) (D _);obtain ⟨d,rfl,q⟩:=q1;cases r1;exact Ydl ⟨H1,G,q⟩
variable {tA tB':TT}{rest:List Expr}
def ZiU (t u:TT):TT:=λσ H Q=>t σ H λc H1=>if c=true then u σ H1 Q else Q false H1
def tOr (t u:TT):TT:=λσ H Q=>t σ H λc H1=>if c=true then Q true H1 else u σ H1 Q
def ZiV (t:TT):TT:=λσ H Q=>t σ H λc H1=>Q (!c) H1
theorem UT (B:PT X a tA):PW X (.BoolOp .And [a] pos) tA:=by
 intro D qQ s σ H Q I h;refine isTrue_and (thn (B qQ s σ H Q I h) λc s1 e=>?_);cases c with
 | true=>exact isTrue_and_nil e
 | false=>exact e
theorem Oz (B:PT X a tA):PW X (.BoolOp .Or [a] pos) tA:=by
 intro D qQ s σ H Q I h;refine isTrue_or (thn (B qQ s σ H Q I h) λc s1 e=>?_);cases c with
 | false=>exact isTrue_or_nil e
 | true=>exact e
theorem Wy (D:PT X a tA)(F:PW X (.BoolOp .And (b::rest) pos) tB'):PW X (.BoolOp .And (a::b::rest) pos) (ZiU tA tB'):=by
 intro G qQ s σ H Q I h;refine isTrue_and (thn (D qQ s σ H _ I h) λc s1 ⟨H1,B,q1⟩=>?_);cases c with
 | true=>exact F G qQ s1 σ H1 Q B q1
 | false=>exact ⟨H1,B,q1⟩
theorem OF (D:PT X a tA)(F:PW X (.BoolOp .Or (b::rest) pos) tB'):PW X (.BoolOp .Or (a::b::rest) pos) (tOr tA tB'):=by
 intro G qQ s σ H Q I h;refine isTrue_or (thn (D qQ s σ H _ I h) λc s1 ⟨H1,B,q1⟩=>?_);cases c with
 | true=>exact ⟨H1,B,q1⟩
 | false=>exact F G qQ s1 σ H1 Q B q1
theorem OS (B:PT X a tA):PT X (.UnaryOp .Not a pos) (ZiV tA):=by
 intro qQ s σ H Q I h;exact isTrue_not (B qQ s σ H (λc H1=>Q (!c) H1) I h)
def Zhj (ta tb:TE):TE:=λσ H Q=>ta σ H λx H1=>∃c,x=.bl c/\if c=true then tb σ H1 Q else Q (.bl false) H1
def ZiW (ta tb:TE):TE:=λσ H Q=>ta σ H λx H1=>∃c,x=.bl c/\if c=true then Q (.bl true) H1 else tb σ H1 Q
theorem ZK {op}{t:TE}(h:PE X a t):PE X (.BoolOp op [a] pos) t:=λqQ s σ H Q I B=>BoolOp_one (h qQ s σ H Q I B)
theorem Zc5 (D:PE X a ta)(F:PE X (.BoolOp .And (b::rest) pos) tb):PE X (.BoolOp .And (a::b::rest) pos) (Zhj ta tb):=by
 intro qQ s σ H Q I h;refine BoolOp_and (thn (D qQ s σ H _ I h) λv s1 ⟨x,H1,B,r1,q1⟩=>?_);obtain ⟨c,rfl,q1⟩:=q1;cases r1;refine Ydl ?_;cases c with
 | true=>exact F qQ s1 σ H1 Q B q1
 | false=>exact ⟨.bl false,H1,B,rfl,q1⟩
theorem Zhk (D:PE X a ta)(F:PE X (.BoolOp .Or (b::rest) pos) tb):PE X (.BoolOp .Or (a::b::rest) pos) (ZiW ta tb):=by
 intro qQ s σ H Q I h;refine BoolOp_or (thn (D qQ s σ H _ I h) λv s1 ⟨x,H1,B,r1,q1⟩=>?_);obtain ⟨c,rfl,q1⟩:=q1;cases r1;refine Ydl ?_;cases c with
 | false=>exact F qQ s1 σ H1 Q B q1
 | true=>exact ⟨.bl true,H1,B,rfl,q1⟩
def tIf (t:TT)(ta tb:TE):TE:=λσ H Q=>t σ H λc H1=>if c=true then ta σ H1 Q else tb σ H1 Q
theorem UB {c:Expr}(D:PT X c tA)(F:PE X a ta)(G:PE X b tb):PE X (.IfExp c a b pos) (tIf tA ta tb):=by
 intro qQ s σ H Q I h;refine wpAny_IfExp (thn (D qQ s σ H _ I h) λd s1 ⟨H1,B,q1⟩=>?_);cases d with
 | true=>exact F qQ s1 σ H1 Q B q1
 | false=>exact G qQ s1 σ H1 Q B q1
end
def SqL (K:W.Frag)(H:Hp)(a:Addr)(xs:List V):Prop:=
 Rd H a (.lst xs) \/
  ∃(o:Obj)(its:Array Value)(n:Nat),K.lookup a=some o/\o.cls=.type "list" /\ o.dict=none/\o.data=.seq its n/\its.size<=sizeLine/\Vals xs its.toList
def SqT (K:W.Frag)(H:Hp)(a:Addr)(xs:List V):Prop:=
 Rd H a (.tup xs) \/
  ∃(o:Obj)(its:Array Value)(n:Nat),K.lookup a=some o/\o.cls=.type "tuple" /\ o.data=.seq its n/\its.size<=sizeLine/\Vals xs its.toList
def ZiX:Value->Option V
 | .none=>some .non
 | .bool b=>some (.bl b)
 | .int i _=>some (.int i)
 | .str x _=>some (.str x)
 | .bytes b _=>some (.byt b)
 | .float b _=>some (.flt b)
 | .ref a=>some (.ref a)
 | .type n=>some (.ty n)
 | _=>none
theorem RelV.abs {x:V}{u:Value}(r:RelV x u):ZiX u=some x:=by
 cases x with
 | non=>cases r;rfl
 | bl _=>cases r;rfl
 | int _=>obtain ⟨t,rfl⟩:=r;rfl
 | str _=>obtain ⟨t,rfl⟩:=r;rfl
 | byt _=>obtain ⟨t,rfl⟩:=r;rfl
 | flt _=>obtain ⟨t,rfl⟩:=r;rfl
 | ref _=>cases r;rfl
 | ty _=>cases r;rfl
theorem RelV.inj {x y:V}{u:Value}(r:RelV x u)(q:RelV y u):x=y:=Yaw (r.abs.symm.trans q.abs)
theorem Vals.inj:∀{xs ys:List V}{us:List Value},Vals xs us->Vals ys us->xs=ys
 | _,_,_,.nil,.nil=>rfl
 | _,_,_,.cons r t,.cons r' t'=>by rw [r.inj r',Vals.inj t t']
section
variable {X:Cx}{qQ:List (Addr×Obj)}{σ:St}{H:Hp}{s:Shared}{a:Addr}{xs ys:List V}
theorem SqL.of {K:W.Frag}(h:H a=some (.lst xs)):SqL K H a xs:=.inl (.inl h)
theorem SqT.of {K:W.Frag}(h:H a=some (.tup xs)):SqT K H a xs:=.inl (.inl h)
theorem Inv.list (I:Inv X qQ σ H s)(h:SqL X.K H a xs):∃B:List Value,Vals xs B/\PlainL s.heap a B.toArray/\xs.length<=sizeLine:=by
 rcases h with h | ⟨o,B,n,D,F,G,L,N,r⟩
 ·obtain ⟨z,B,n,r,e⟩:=h.ok I.hok;exact ⟨B,r,⟨_,n,e,rfl,rfl,rfl⟩,z⟩
 ·refine ⟨B.toList,r,⟨o,n,I.kIn a o D,F,G,by simpa using L⟩,?_⟩;have e:=r.length;simp only [Ybj] at e
  lia
theorem Inv.tuple (I:Inv X qQ σ H s)(h:SqT X.K H a xs):∃B:List Value,Vals xs B/\IsTup s.heap a B.toArray/\xs.length<=sizeLine:=by
 rcases h with h | ⟨o,B,n,D,F,G,L,r⟩
 ·obtain ⟨z,B,r,p⟩:=h.ok I.hok;exact ⟨B,r,p,z⟩
 ·refine ⟨B.toList,r,⟨o,I.kIn a o D,F,n,by simpa using G⟩,?_⟩;have e:=r.length;simp only [Ybj] at e
  lia
theorem Inv.list_inj (I:Inv X qQ σ H s)(h:SqL X.K H a xs)(h':SqL X.K H a ys):xs=ys:=by
 obtain ⟨D,r,⟨o,n,e,_,_,d⟩,_⟩:=I.list h;obtain ⟨B,L,⟨o',N,F,_,_,G⟩,_⟩:=I.list h';rw [e] at F;cases F;rw [d] at G;injection G with d1 _
 have:D=B:=by simpa using Ybb Array.toList d1
 subst this;exact r.inj L
theorem Inv.tuple_inj (I:Inv X qQ σ H s)(h:SqT X.K H a xs)(h':SqT X.K H a ys):xs=ys:=by
 obtain ⟨D,r,⟨o,e,_,n,d⟩,_⟩:=I.tuple h;obtain ⟨B,L,⟨o',F,_,N,G⟩,_⟩:=I.tuple h';rw [e] at F;cases F;rw [d] at G;injection G with d1 _
 have:D=B:=by simpa using Ybb Array.toList d1
 subst this;exact r.inj L
end
abbrev Cx.wish (X:Cx)(E:Value->Shared->Prop):Cx:={ X with xe:=E }
abbrev Cx.nox (X:Cx):Cx:=X.wish λ_ _=>False
theorem Cx.Ok.wish {X:Cx}(ok:X.Ok)(E:Value->Shared->Prop):(X.wish E).Ok:=
 ⟨ok.mod,ok.kind,ok.glob,ok.blt,ok.above,ok.inj,ok.has,ok.cab,ok.hd,ok.frames,ok.stk,ok.exf,ok.bs,ok.bsz,ok.noex,ok.exfs,ok.funs,ok.frf⟩
theorem Cx.Ok.unwish {X:Cx}{E:Value->Shared->Prop}(ok:(X.wish E).Ok):X.Ok:=
 ⟨ok.mod,ok.kind,ok.glob,ok.blt,ok.above,ok.inj,ok.has,ok.cab,ok.hd,ok.frames,ok.stk,ok.exf,ok.bs,ok.bsz,ok.noex,ok.exfs,ok.funs,ok.frf⟩
section
variable {X:Cx}{qQ:List (Addr×Obj)}{σ:St}{H:Hp}{s:Shared}{E:Value->Shared->Prop}
theorem Inv.wish (I:Inv X qQ σ H s)(E:Value->Shared->Prop):Inv (X.wish E) qQ σ H s:=⟨I.ok.wish E,I.os,I.bare,I.base,I.loc,I.cell,I.free,I.freeC,I.pin,I.hok,I.len⟩
theorem Inv.unwish (I:Inv (X.wish E) qQ σ H s):Inv X qQ σ H s:=⟨I.ok.unwish,I.os,I.bare,I.base,I.loc,I.cell,I.free,I.freeC,I.pin,I.hok,I.len⟩
theorem SP.unwish {D:Ends}{f:Flow}{s':Shared}(h:SP (X.wish E) qQ D f s'):SP X qQ D f s':=by
 cases f with
 | next=>obtain ⟨B,H',I,q⟩:=h;exact ⟨B,H',I.unwish,q⟩
 | brk=>obtain ⟨B,H',I,q⟩:=h;exact ⟨B,H',I.unwish,q⟩
 | cont=>obtain ⟨B,H',I,q⟩:=h;exact ⟨B,H',I.unwish,q⟩
 | ret u=>obtain ⟨v,B,H',I,r,q⟩:=h;exact ⟨v,B,H',I.unwish,r,q⟩
theorem PSs.nox {st:List Stmt}{t:TS}(h:PSs X.nox st t):PSs X st t:=λqQ s σ H D I B=>
 Yci (h qQ s σ H D (I.wish _) B) (λ_ _ q=>q.unwish) λ_ _ z=>False.elim z
end
section
variable {X:Cx}{st:Stmt}{rest:List Stmt}{t u:TS}{e:Expr}{te:TE}{pos:Pos}
def ZdS:TS:=λD σ H=>D.nx σ H
def Zig (t u:TS):TS:=λD σ H=>t { D with nx:=u D } σ H
theorem Gz:PSs X [] ZdS:=λ_ _ σ H _ I h=>wpAny_execs_nil ⟨σ,H,I,h⟩
theorem Gc (h1:PS X st t)(h2:PSs X rest u):PSs X (st::rest) (Zig t u):=by
 intro qQ s σ H D I h;refine wpAny_execs_cons (thn (h1 qQ s σ H { D with nx:=u D } I h) λf s1 q=>?_);cases f with
 | next=>
  obtain ⟨B,H',F,q⟩:=q;exact h2 qQ s1 B H' D F q
 | ret v=>exact q
 | brk=>exact q
 | cont=>exact q
theorem Gf (h1:PS X st t):PSs X [st] t:=by
 intro qQ s σ H D I h;refine wpAny_execs_cons (thn (h1 qQ s σ H D I h) λf s1 q=>?_);cases f with
 | next=>exact wpAny_execs_nil q
 | ret v=>exact q
 | brk=>exact q
 | cont=>exact q
theorem Inv.quiet {qQ:List (Addr×Obj)}{σ:St}{H:Hp}{s:Shared}(I:Inv X qQ σ H s):interactive X.env=false:=by simp [interactive,I.ok.kind]
def ZdT (te:TE):TS:=λD σ H=>te σ H λ_ H1=>D.nx σ H1
theorem Jq (B:PE X e te)(F:swapsWith e none pos.line X.env=pure false:=by rfl):PS X (.Expr e pos) (ZdT te):=by
 intro qQ s σ H D I h;exact wpAny_Expr_any (thn (B qQ s σ H _ I h) λv s1 ⟨x,H1,G,r1,q1⟩=>⟨σ,H1,G,q1⟩) I.quiet F
def ZiY (te:TE):TS:=λD σ H=>te σ H D.rt
theorem Gs (B:PE X e te):PS X (.Return (some e) pos) (ZiY te):=by
 intro qQ s σ H D I h;exact wpAny_Return_some (thn (B qQ s σ H _ I h) λv s1 ⟨x,H1,F,r1,q1⟩=>⟨x,σ,H1,F,r1,q1⟩)
def Zih (c:TT)(t u:TS):TS:=λD σ H=>c σ H λb H1=>if b=true then t D σ H1 else u D σ H1
theorem Jn {c:Expr}{a b:List Stmt}{tc:TT}(F:PT X c tc)(G:PSs X a t)(L:PSs X b u):PS X (.If c a b pos) (Zih tc t u):=by
 intro qQ s σ H D I h;refine wpAny_If (thn (F qQ s σ H _ I h) λd s1 ⟨H1,B,q1⟩=>?_);cases d with
 | true=>exact G qQ s1 σ H1 D B q1
 | false=>exact L qQ s1 σ H1 D B q1
end
abbrev TG:=V->St->Hp->(St->Hp->Prop)->Prop
abbrev TGs:=List V->St->Hp->(St->Hp->Prop)->Prop
def PG (X:Cx)(qU:Expr)(t:TG):Prop:=
 ∀(qQ:List (Addr×Obj))(s:Shared)(σ:St)(H:Hp)(v:V)(u:Value)(Q:St->Hp->Prop),Inv X qQ σ H s->RelV v u->t v σ H Q ->
  wpAny (model X.prog X.w) X.A (assign qU X.env u) (λ_ s'=>∃ B H',Inv X qQ B H' s'/\Q B H') X.xe s
def PGs (X:Cx)(D:List Expr)(t:TGs):Prop:=
 ∀(qQ:List (Addr×Obj))(s:Shared)(σ:St)(H:Hp)(vs:List V)(us:List Value)(Q:St->Hp->Prop),Inv X qQ σ H s->Vals vs us->t vs σ H Q ->
  wpAny (model X.prog X.w) X.A (assignInOrder ((assignEach D X.env).map (·.2)) us) (λ_ s'=>∃ B H',Inv X qQ B H' s'/\Q B H') X.xe s
abbrev Zhl:=V->V->V->Hp->(Hp->Prop)->Prop
def Zii (X:Cx)(t:Zhl):Prop:=
 ∀(qQ:List (Addr×Obj))(s:Shared)(σ:St)(H:Hp)(o i v:V)(ov iv u:Value)(Q:Hp->Prop),Inv X qQ σ H s->RelV o ov->RelV i iv->RelV v u->t o i v H Q ->
  wpAny (model X.prog X.w) X.A (setItem ov iv u) (λ_ s'=>∃H',Inv X qQ σ H' s'/\Q H') X.xe s
section
variable {X:Cx}{pos:Pos}
def GB (i:Nat):TG:=λv σ H Q=>Q (σ.set i (some v)) H
theorem Gi {i:Nat}{x:Str}(B:X.N.Nodup)(hi:X.N[i]?=some x)(D:Loc X.env.scope x)(F:X.fn x=true\/X.env.scope.names.lookup x=some .local:=by first | exact .inl rfl | exact .inr rfl | assumption):PG X (.Name x pos) (GB i):=by
 intro qQ s σ H v u Q I r h;exact wpAny_assign_Name (Yc I B hi D r (λs' G=>⟨_,H,G,h⟩) F)
def ZiZ:TGs:=λvs σ H Q=>vs=[]/\Q σ H
def Zhm (t:TG)(u:TGs):TGs:=λvs σ H Q=>∃v r,vs=v::r/\t v σ H λB H'=>u r B H' Q
theorem Jb:PGs X [] ZiZ:=by
 intro qQ s σ H vs us Q I r h;obtain ⟨e,h⟩:=h;subst e;cases r;exact assignInOrder_nil ⟨σ,H,I,h⟩
theorem Gn {e:Expr}{es:List Expr}{t:TG}{u:TGs}(h1:PG X e t)(h2:PGs X es u)(B:(assignEach (e::es) X.env).map (·.2)=assign e X.env::(assignEach es X.env).map (·.2):=by rfl):PGs X (e::es) (Zhm t u):=by
 intro qQ s σ H vs us Q I r h;obtain ⟨v,L,D,h⟩:=h;subst D;cases r with
 | cons r rr=>
  rw [B];refine assignInOrder_cons (thn (h1 qQ s σ H _ _ _ I r h) λ_ s1 ⟨F,H1,G,q1⟩=>?_);exact h2 qQ s1 F H1 _ _ Q G rr q1
def Zij (K:W.Frag)(n:Nat)(t:TGs):TG:=λv σ H Q=>∃a xs,v=.ref a/\SqT K H a xs/\xs.length=n/\t xs σ H Q
theorem Zfn {es:List Expr}{k:Nat}{t:TGs}{n:Nat}(G:X.calm=true)(h:PGs X es t)(L:(assignEach es X.env).length=n:=by rfl)(B:(assignEach es X.env).findIdx? (·.1)=none:=by rfl):PG X (.Tuple es k pos) (Zij X.K n t):=by
 intro qQ s σ H v u Q I r D;obtain ⟨a,xs,N,O,U,D⟩:=D;subst N;cases r;obtain ⟨Y,F,Z,hz⟩:=I.tuple O;refine assign_Tuple_tuple (I.ok.hd G) Z (by simp [L,<-U,F.length]) B λh' hx=>?_;have I1:Inv X qQ σ H { s with heap:=h' }:=I.kept (t':=s.toks) λb o e=>hx b o (Yaq (Yaj e)) e;exact h qQ _ σ H xs _ Q I1 (by simpa using F) D
def Zi0 (to B:TE)(t:Zhl):TG:=λv σ H Q=>to σ H λo H1=>B σ H1 λi H2=>t o i v H2 λD=>Q σ D
theorem Vw {o i:Expr}{to B:TE}{t:Zhl}(D:PE X o to)(hi:PE X i B)(F:Zii X t)(G:∀v,assign (.Subscript o i pos) X.env v=(do
   let ov <- holding [v] (eval o X.env)
   let iv <- holding [v,ov] (eval i X.env)
   standAt pos
   holding [v,ov,iv] (setItem ov iv v)
   release [v,ov,iv] []):=by intro _;rfl):PG X (.Subscript o i pos) (Zi0 to B t):=by
 intro qQ s σ H v u Q I r h;rw [G];refine Yab (Ycw (thn (D qQ s σ H _ I h) λov s1 ⟨x,H1,L,r1,q1⟩=>?_));refine Yab (Ycw (thn (hi qQ s1 σ H1 _ L q1) λiv N ⟨y,H2,O,U,Y⟩=>?_));refine Yab (wpAny_standAt (Yab (Ycw (thn (F qQ N σ H2 x y v ov iv u _ O r1 U r Y) λ_ s3 ⟨Z,I3,q3⟩=>?_))));exact wpAny_release ⟨σ,Z,I3,q3⟩
def Zhn (te:TE)(g:TG):TS:=λD σ H=>te σ H λx H1=>g x σ H1 D.nx
theorem J8 {tg e:Expr}{te:TE}{g:TG}(B:PE X e te)(F:PG X tg g)(G:swapsWithSole [tg] e pos.line X.env=pure false:=by rfl)(L:swappedStores [tg] e X.env=pure none:=by rfl)(h1:(assignEach [tg] X.env).map (·.2)=[assign tg X.env]:=by rfl):PS X (.Assign [tg] e pos) (Zhn te g):=by
 intro qQ s σ H D I h;refine wpAny_Assign_stores (thn (B qQ s σ H _ I h) λv s1 ⟨x,H1,N,r1,q1⟩=>?_) G L;rw [h1];exact thn (F qQ s1 σ H1 x v _ N r1 q1) λ_ O q=>q
theorem Gm {i:Nat}{x:Str}{e:Expr}{te:TE}{pos':Pos}(B:X.N.Nodup)(hi:X.N[i]?=some x)(F:Loc X.env.scope x)(G:PE X e te)(L:swapsWith e (some (.Name x pos')) pos.line X.env=pure false:=by rfl)(O:X.fn x=true\/X.env.scope.names.lookup x=some .local:=by first | exact .inl rfl | exact .inr rfl | assumption) :
  PS X (.Assign [.Name x pos'] e pos) (Zhn te (GB i)):=by
 intro qQ s σ H D I h;refine wpAny_Assign_Name (thn (G qQ s σ H _ I h) λv s1 ⟨y,H1,U,r1,q1⟩=>?_) L;exact Yc U B hi F r1 (λZ Y=>⟨_,H1,Y,q1⟩) O
def Zfo (c:TT)(tb:TS):TS:=λD σ H=>∃W:Nat->St->Hp->Prop,(∃m,W m σ H)/\∀m σ H,W m σ H ->
 c σ H λb H1=>if b=true then ∃N:St->Hp->Prop,(∀ B H',N B H'->∃F,F<m/\W F B H')/\tb { D with nx:=N,ct:=N,bk:=D.nx } σ H1 else D.nx σ H1
theorem VR {c:Expr}{body:List Stmt}{tc:TT}{tb:TS}(hp:PassesOwn (model X.prog X.w) X.A X.env X.xe)(hc:PT X c tc)(hb:PSs X body tb):PS X (.While c body [] pos) (Zfo tc tb):=by
 intro qQ s σ H D I h;obtain ⟨W,⟨m0,w0⟩,B⟩:=h;refine wpAny_While (codeAny_whileLoop (λn s'=>∃ σ' H',Inv X qQ σ' H' s'/\W n σ' H') ?_ m0 ⟨σ,H,I,w0⟩);rintro n s1 ⟨L,H1,I1,w1⟩;refine Yef hp (thn (hc qQ s1 L H1 _ I1 (B n L H1 w1)) λb s2 ⟨H2,I2,O⟩=>?_);cases b with
 | true=>
  obtain ⟨N,hN,O⟩:=O;rw [if_pos rfl];refine Yef hp (thn (hb qQ s2 L H2 _ I2 O) λf s3 U=>?_);cases f with
  | next=>
   obtain ⟨F,G,Y,Z⟩:=U;obtain ⟨m',hm,w3⟩:=hN F G Z;exact ⟨m',hm,F,G,Y,w3⟩
  | cont=>
   obtain ⟨F,G,Y,Z⟩:=U;obtain ⟨m',hm,w3⟩:=hN F G Z;exact ⟨m',hm,F,G,Y,w3⟩
  | brk=>exact U
  | ret v=>exact U
 | false=>
  rw [if_neg Yax];exact wpAny_execs_nil ⟨L,H2,I2,O⟩
end
structure It where
 go:Nat->Hp->Prop
 yld:Nat->Hp->V->Hp->Prop
 stop:Nat->Hp->Prop
def ZbI (X:Cx)(qQ:List (Addr×Obj))(H:Hp)(b:Addr):Prop:=
 H b=none/\b≠X.env.locals/\b ∉ X.fs/\(b∈X.ex\/X.s₀.heap.objs.size<=b)/\(∀x c,X.env.cells.lookup x=some c->c≠b)/\∀p∈X.pn++qQ,p.1≠b
theorem Inv.fpOk {X:Cx}{qQ:List (Addr×Obj)}{σ:St}{H H':Hp}{s:Shared}{b:Addr}(I:Inv X qQ σ H s)(B:s.heap.objs.size<=b)(D:H' b=none):ZbI X qQ H' b:=by
 refine ⟨D,Ydm (Ybe I.lt B),I.nofs B,.inr (Ycc I.sz B),λx c e z=>?_,λp F z=>?_⟩
 ·obtain ⟨v,q⟩:=I.cell x c e;exact absurd (Ybe q.lt (by rw [z];exact B)) (Ybt _)
 ·exact absurd (Ybe (Yaj (I.pin p F).1) (by rw [z];exact B)) (Ybt _)
structure ZbP (P:Program)(w:World)(K:W.Frag)(tg:Expr)(J:It)(fp:List Addr)(it:Addr)(tn:Nat->Heap->Prop):Prop where
 mem:it∈fp
 obj:∀i h,tn i h->∀b∈fp,∃o,h.get? b=some o/\∀v,o.data≠.cell v
 keep:∀i h h',tn i h->(∀b∈fp,∀o,h.get? b=some o->h'.get? b=some o)->tn i h'
 item:∀(X:Cx),X.prog=P->X.w=w->X.K=K->X.calm=true->∀(i:Nat)(qQ:List (Addr×Obj))(s:Shared)(σ:St)(H:Hp)(E:Value->Shared->Prop),Inv X qQ σ H s->(∀b∈fp,ZbI X qQ H b)->tn i s.heap->J.go i H ->
  wpAny (model P w) X.A (pyNext (.ref it)) (λr s1=>∃u,r=some u /\
   wpAny (model P w) X.A (letOwnedTupleGo tg (.ref it) u) (λ_ s2=>∃x H',Inv X qQ σ H' s2/\RelV x u/\J.yld i H x H'/\tn (i+1) s2.heap/\∀b∈fp,H' b=none) E s1) E s
 done:∀(X:Cx),X.prog=P->X.w=w->X.K=K->X.calm=true->∀(i:Nat)(qQ:List (Addr×Obj))(s:Shared)(σ:St)(H:Hp)(E:Value->Shared->Prop),Inv X qQ σ H s->(∀b∈fp,ZbI X qQ H b)->tn i s.heap->J.stop i H ->
  wpAny (model P w) X.A (pyNext (.ref it)) (λr s1=>r=none/\Inv X qQ σ H s1) E s
 self:∀(A:Around)(i:Nat)(s:Shared)(Q:Value->Shared->Prop)(E:Value->Shared->Prop),tn i s.heap->Q (.ref it) s->wpAny (model P w) A (pyIter (.ref it)) Q E s
abbrev TI:=St->Hp->(It->Hp->Prop)->Prop
def PIE (X:Cx)(qQ:List (Addr×Obj))(σ:St)(tg:Expr)(R:It->Hp->Prop)(B:Value)(D:Shared):Prop:=
 ∃(F:Addr)(fp:List Addr)(tn:Nat->Heap->Prop)(J:It)(H':Hp),B=.ref F/\Inv X qQ σ H' D/\ZbP X.prog X.w X.K tg J fp F tn/\tn 0 D.heap/\(∀b∈fp,ZbI X qQ H' b)/\R J H'
def PI (X:Cx)(tg iter:Expr)(wi:TI):Prop:=
 ∀(qQ:List (Addr×Obj))(s:Shared)(σ:St)(H:Hp)(R:It->Hp->Prop),Inv X qQ σ H s->wi σ H R ->
  wpAny (model X.prog X.w) X.A (eval iter X.env) (λv s1=>wpAny (model X.prog X.w) X.A (pyIter v) (PIE X qQ σ tg R) X.xe s1) X.xe s
theorem ZM {M:Model}{A:Around}{E:Value->Shared->Prop}{s:Shared}{tg:Expr}{D:Addr}{u:Value}{o:Obj}{n:String}{vs:Array Value}{Q:Unit->Shared->Prop}(F:s.heap.get? D=some o)(G:o.cls=.type n)(L:o.data=.fields vs)(N:["enumerate", "zip", "dict_itemiterator", "dict_reverseitemiterator", "odict_iterator", "itertools.zip_longest", "itertools.pairwise"].contains n=false)(B:Q () s):wpAny M A (letOwnedTupleGo tg (.ref D) u) Q E s:=by
 unfold letOwnedTupleGo;cases tg <;> first
  | exact Yag B
  | (cases u <;> first
    | exact Yag B
    | (refine Yab (wpAny_load F ?_)
       rw [G,L];show wpAny M A (if (["enumerate", "zip", "dict_itemiterator", "dict_reverseitemiterator", "odict_iterator", "itertools.zip_longest", "itertools.pairwise"].contains n && vs[0]? == some (rawInt _))=true then _ else _) Q E s;rw [if_neg (by intro h;rw [N,Bool.false_and] at h;cases h)];exact Yag B))
def Itl (K:W.Frag)(a:Addr):It:=
 ⟨λi H=>∃xs x,SqL K H a xs/\xs[i]?=some x,λi H x H'=>H'=H/\∀xs,SqL K H a xs->xs[i]?=some x,λi H=>∃xs,SqL K H a xs/\xs.length<=i⟩
def Itt (K:W.Frag)(a:Addr):It:=
 ⟨λi H=>∃xs x,SqT K H a xs/\xs[i]?=some x,λi H x H'=>H'=H/\∀xs,SqT K H a xs->xs[i]?=some x,λi H=>∃xs,SqT K H a xs/\xs.length<=i⟩
def Itr (lo:Int)(n:Nat):It:=⟨λi _=>i<n,λi H x H'=>H'=H/\x=.int (lo+i),λi _=>n<=i⟩
theorem ZO {P:Program}{w:World}{K:W.Frag}{tg:Expr}(a it:Addr):ZbP P w K tg (Itl K a) [it] it (λi h=>h.IsListIter it a i) where
 mem:=by simp
 obj:=λi h st b hb=>by
  have e:b=it:=by simpa using hb
  subst e;obtain ⟨o,e,c,d⟩:=st;exact ⟨o,e,λv z=>by rw [d] at z;cases z⟩
 keep:=λi h h' st k=>st.at λo e=>k it (by simp) o e
 item:=by
  intro X hP hw hK hc i qQ s σ H E I hf st hg;subst hP hw hK;obtain ⟨xs,x,hq,hx⟩:=hg;obtain ⟨its,rv,p,hz⟩:=I.list hq;obtain ⟨u,hu,ru⟩:=rv.get hx;obtain ⟨f0,f1,f2,f3,f4,f5⟩:=hf it (by simp);refine wpAny_pyNext_list_item st p.isList (x:=u) (by simpa using hu) λh' st' sb=>?_;have I1:Inv X qQ σ H { s with heap:=h' }:=I.turned (t':=s.toks) (λb o hb e=>(sb.2 b hb).trans e) f0 f1 f3 f4 f5;obtain ⟨o,e,c,d⟩:=id st';exact ⟨u,rfl,ZM (s:={ s with heap:=h' }) e c d (by decide) ⟨x,H,I1,ru,⟨rfl,λys hy=>by rw [I.list_inj hy hq];exact hx⟩,st',λb hb=>(hf b hb).1⟩⟩
 done:=by
  intro X hP hw hK hc i qQ s σ H E I hf st hg;subst hP hw hK;obtain ⟨xs,hq,hx⟩:=hg;obtain ⟨its,rv,p,hz⟩:=I.list hq;obtain ⟨f0,f1,f2,f3,f4,f5⟩:=hf it (by simp);have hl:=rv.length;exact wpAny_pyNext_list_end (I.ok.hd hc) st p.isList (by simp;lia) λh' eb=>⟨rfl,I.turned (t':=s.toks) (λb o hb e=>eb b o hb e) f0 f1 f3 f4 f5⟩
 self:=λ_ _ _ _ _ st h=>wpAny_pyIter_listiter st h
theorem Y7 {P:Program}{w:World}{K:W.Frag}{tg:Expr}(a it:Addr):ZbP P w K tg (Itt K a) [it] it (λi h=>h.IsTupleIter it a i) where
 mem:=by simp
 obj:=λi h st b hb=>by
  have e:b=it:=by simpa using hb
  subst e;obtain ⟨o,e,c,d⟩:=st;exact ⟨o,e,λv z=>by rw [d] at z;cases z⟩
 keep:=λi h h' st k=>st.at λo e=>k it (by simp) o e
 item:=by
  intro X hP hw hK hc i qQ s σ H E I hf st hg;subst hP hw hK;obtain ⟨xs,x,hq,hx⟩:=hg;obtain ⟨its,rv,p,hz⟩:=I.tuple hq;obtain ⟨u,hu,ru⟩:=rv.get hx;obtain ⟨f0,f1,f2,f3,f4,f5⟩:=hf it (by simp);refine wpAny_pyNext_tuple_item st (show s.heap.IsTuple a its.toArray from p) (x:=u) (by simpa using hu) λh' st' sb=>?_;have I1:Inv X qQ σ H { s with heap:=h' }:=I.turned (t':=s.toks) (λb o hb e=>(sb.2 b hb).trans e) f0 f1 f3 f4 f5;obtain ⟨o,e,c,d⟩:=id st';exact ⟨u,rfl,ZM (s:={ s with heap:=h' }) e c d (by decide) ⟨x,H,I1,ru,⟨rfl,λys hy=>by rw [I.tuple_inj hy hq];exact hx⟩,st',λb hb=>(hf b hb).1⟩⟩
 done:=by
  intro X hP hw hK hc i qQ s σ H E I hf st hg;subst hP hw hK;obtain ⟨xs,hq,hx⟩:=hg;obtain ⟨its,rv,p,hz⟩:=I.tuple hq;obtain ⟨f0,f1,f2,f3,f4,f5⟩:=hf it (by simp);have hl:=rv.length;exact wpAny_pyNext_tuple_end (I.ok.hd hc) st (show s.heap.IsTuple a its.toArray from p) (by simp;lia) λh' eb=>⟨rfl,I.turned (t':=s.toks) (λb o hb e=>eb b o hb e) f0 f1 f3 f4 f5⟩
 self:=λ_ _ _ _ _ st h=>wpAny_pyIter_tupleiter st h
theorem Y8 {P:Program}{w:World}{K:PySem.W.Frag}{tg:Expr}(it:Addr)(lo:Int)(n:Nat):ZbP P w K tg (Itr lo n) [it] it (λi h=>IsRangeIter h it (lo+(i:Nat) * 1) ((n:Int)-(i:Nat)) 1) where
 mem:=by simp
 obj:=λi h st b hb=>by
  have e:b=it:=by simpa using hb
  subst e;exact ⟨_,st,λv z=>by
   have z':Data.fields _=Data.cell v:=z;cases z'⟩
 keep:=λi h h' st k=>k it (by simp) _ st
 item:=by
  intro X hP hw hK hc i qQ s σ H E I hf st hg;subst hP hw hK;obtain ⟨f0,f1,f2,f3,f4,f5⟩:=hf it (by simp);have W:=Walks.range (prog:=X.prog) (w:=X.w) (I.ok.hd hc) it lo 1 n;refine W.item i s _ _ hg st λv h' tk hv st' kk=>?_;obtain ⟨t,rfl⟩:=hv;have I1:Inv X qQ σ H { s with heap:=h',toks:=tk }:=I.turned (λb o hb e=>kk b o (by simpa using hb) e) f0 f1 f3 f4 f5;refine ⟨_,rfl,ZM (s:={ s with heap:=h',toks:=tk }) (n := "range_iterator") st' rfl rfl (by decide) ⟨.int (lo+i),H,I1,⟨t,?_⟩,⟨rfl,rfl⟩,st',λb hb=>(hf b hb).1⟩⟩;rw [Int.mul_one]
 done:=by
  intro X hP hw hK hc i qQ s σ H E I hf st hg;subst hP hw hK;obtain ⟨f0,f1,f2,f3,f4,f5⟩:=hf it (by simp);exact wpAny_pyNext_range_end (I.ok.hd hc) st (by have:n<=i:=hg;lia) λh' eb=>⟨rfl,I.turned (t':=s.toks) (λb o hb e=>eb b o hb e) f0 f1 f3 f4 f5⟩
 self:=λ_ _ _ _ _ st h=>wpAny_pyIter_rangeiter st h
section
variable {X:Cx}{tg:Expr}
def Zfp (K:W.Frag)(tl:TE):TI:=λσ H R=>tl σ H λx H1=>∃a,x=.ref a/\(∃xs,SqL K H1 a xs)/\R (Itl K a) H1
def Zik (K:W.Frag)(tl:TE):TI:=λσ H R=>tl σ H λx H1=>∃a,x=.ref a/\(∃xs,SqT K H1 a xs)/\R (Itt K a) H1
theorem ZdU {l:Expr}{tl:TE}(D:PE X l tl):PI X tg l (Zfp X.K tl):=by
 intro qQ s σ H R I h;refine thn (D qQ s σ H _ I h) λv s1 ⟨x,H1,B,r1,q1⟩=>?_;obtain ⟨a,e,⟨xs,F⟩,q⟩:=q1;subst e;cases r1;obtain ⟨G,N,p,O⟩:=B.list F;refine wpAny_pyIter_list p.isList ?_;refine ⟨s1.heap.objs.size,[s1.heap.objs.size],_,_,H1,rfl,B.kept (t':=s1.toks) λb o e=>Yao _ e,ZO a _,⟨_,Ybh _ rfl,rfl,rfl⟩,λb L=>?_,q⟩;have e:b=s1.heap.objs.size:=by simpa using L
 subst e;exact B.fpOk (Yac _) (B.hok.fresh (Yac _))
theorem Zfq {l:Expr}{tl:TE}(F:PE X l tl):PI X tg l (Zik X.K tl):=by
 intro qQ s σ H R I h;refine thn (F qQ s σ H _ I h) λv s1 ⟨x,H1,B,r1,q1⟩=>?_;obtain ⟨a,e,⟨xs,G⟩,q⟩:=q1;subst e;cases r1;obtain ⟨D,N,p,O⟩:=B.tuple G;refine wpAny_pyIter_tuple (show s1.heap.IsTuple a D.toArray from p) ?_;refine ⟨s1.heap.objs.size,[s1.heap.objs.size],_,_,H1,rfl,B.kept (t':=s1.toks) λb o e=>Yao _ e,Y7 a _,⟨_,Ybh _ rfl,rfl,rfl⟩,λb L=>?_,q⟩;have e:b=s1.heap.objs.size:=by simpa using L
 subst e;exact B.fpOk (Yac _) (B.hok.fresh (Yac _))
theorem Yd {qQ:List (Addr×Obj)}{σ:St}{H:Hp}{s:Shared}{R:It->Hp->Prop}{E:Value->Shared->Prop}{lo hi:Int}{t u v:Tok}{tk:Nat}(I:Inv X qQ σ H s)(h1:-(2 ^ 62)<=lo)(h2:lo<2 ^ 62)(D:-(2 ^ 62)<=hi)(F:hi<2 ^ 62)(q:R (Itr lo (hi-lo).toNat) H):wpAny (model X.prog X.w) X.A (pyIter (.ref s.heap.objs.size)) (PIE X qQ σ tg R) E { s with heap:=s.heap.push { cls:=.type "range", data:=.fields #[.int lo t,.int hi u,.int 1 v] },toks:=tk }:=by
 refine wpAny_pyIter_range (IsRange.new ..) (small_one h1 h2 D F) ?_;have B:Inv X qQ σ H { s with heap:=s.heap.push { cls:=.type "range", data:=.fields #[.int lo t,.int hi u,.int 1 v] },toks:=tk }:=I.kept λb o e=>Yao _ e;refine ⟨(s.heap.push { cls:=.type "range", data:=.fields #[.int lo t,.int hi u,.int 1 v] }).objs.size,[(s.heap.push { cls:=.type "range", data:=.fields #[.int lo t,.int hi u,.int 1 v] }).objs.size],_,_,H,rfl,
  B.kept (t':=tk) λb o e=>Yao _ e,Y8 _ lo (hi-lo).toNat,?_,λb G=>?_,q⟩
 ·have L:lo+((0:Nat):Int) * 1=lo:=by simp
  have N:(((hi-lo).toNat:Nat):Int)-((0:Nat):Int)=Builtin.Range.rangeSize lo hi 1:=by rw [rangeSize_one];split <;> lia
  show IsRangeIter _ _ (lo+((0:Nat):Int) * 1) ((((hi-lo).toNat:Nat):Int)-((0:Nat):Int)) 1;rw [L,N];exact Ybh _ rfl
 ·have e:b=(s.heap.push { cls:=.type "range", data:=.fields #[.int lo t,.int hi u,.int 1 v] }).objs.size:=by simpa using G
  subst e;exact B.fpOk (Yac _) (B.hok.fresh (Yac _))
def Zho (ta:TA):TI:=λσ H R=>ta σ H λvs H1=>∃j:Int,vs=[.int j]/\-(2 ^ 62)<=j/\j<2 ^ 62/\R (Itr 0 j.toNat) H1
def Zhp (ta:TA):TI:=λσ H R=>ta σ H λvs H1=>∃i j:Int,vs=[.int i,.int j]/\(-(2 ^ 62)<=i/\i<2 ^ 62/\-(2 ^ 62)<=j/\j<2 ^ 62)/\R (Itr i (j-i).toNat) H1
theorem JX {a:Expr}{ta:TA}{p pos:Pos}(B:Gl X "range")(D:X.mg "range" = none)(F:PA X [a] ta)(G:starEach [a] X.env=[(false,eval a X.env)]:=by rfl):PI X tg (.Call (.Name "range" p) [a] [] pos) (Zho ta):=by
 intro qQ s σ H R I h;refine Call_ (OR I B D boot_range (Yep (thn (F pos qQ s σ H _ I h) λus s1 ⟨vs,H1,L,r1,q1⟩=>?_) G rfl));obtain ⟨j,e,q1,N,q⟩:=q1;subst e;cases r1 with
 | cons r rr=>
  cases rr;obtain ⟨t,rfl⟩:=r;exact call_range_1 (Yd L (by lia) (by lia) q1 N (by simpa using q))
theorem Wz {a b:Expr}{ta:TA}{p pos:Pos}(D:Gl X "range")(F:X.mg "range" = none)(G:PA X [a,b] ta)(L:starEach [a,b] X.env=[(false,eval a X.env),(false,eval b X.env)]:=by rfl)(B:starEach [b] X.env=[(false,eval b X.env)]:=by rfl) :
  PI X tg (.Call (.Name "range" p) [a,b] [] pos) (Zhp ta):=by
 intro qQ s σ H R I h;refine Call_ (OR I D F boot_range (Yep (thn (G pos qQ s σ H _ I h) λus s1 ⟨vs,H1,N,r1,q1⟩=>?_) (by rw [L,B]) (by rw [B];rfl)));obtain ⟨i,j,e,⟨q1,O,U,Y⟩,q⟩:=q1;subst e;cases r1 with
 | cons r rr=>
  cases rr with
  | cons r' rr=>
   cases rr;obtain ⟨t,rfl⟩:=r;obtain ⟨Z,rfl⟩:=r';exact call_range_2 (Yd N q1 O U Y q)
def Zi1 (wi:TI)(g:TG)(tb:TS):TS:=λD σ H=>wi σ H λJ H1=>∃W:Nat->Nat->St->Hp->Prop,(∃m,W 0 m σ H1)/\∀i m σ H,W i m σ H ->
 (J.stop i H/\D.nx σ H)\/(J.go i H/\∃N:St->Hp->Prop,(∀ B H',N B H'->∃F,F<m/\W (i+1) F B H')/\∀x H',J.yld i H x H'->g x σ H' λG H2=>tb { D with nx:=N,ct:=N,bk:=D.nx } G H2)
def WA (fp:List Addr)(h:Heap):List (Addr×Obj):=fp.filterMap λb=>(h.get? b).map λo=>(b,o)
theorem Oi {fp:List Addr}{h:Heap}{b:Addr}{o:Obj}(B:b∈fp)(e:h.get? b=some o):(b,o)∈WA fp h:=Ydx.mpr ⟨b,B,by rw [e];rfl⟩
theorem ZP {fp:List Addr}{h:Heap}{p:Addr×Obj}(B:p∈WA fp h):p.1∈fp/\h.get? p.1=some p.2:=by
 obtain ⟨b,D,e⟩:=Ydx.mp B;cases q:h.get? b with
 | none=>rw [q] at e;cases e
 | some o=>
  rw [q] at e;have F:(b,o)=p:=Yaw e;subst F;exact ⟨D,q⟩
theorem Inv.pinned {qQ:List (Addr×Obj)}{σ:St}{H:Hp}{s:Shared}{fp:List Addr}(I:Inv X qQ σ H s)(F:∀b∈fp,ZbI X qQ H b)(G:∀b∈fp,∃o,s.heap.get? b=some o/\∀v,o.data≠.cell v):Inv X (qQ++WA fp s.heap) σ H s:=
 I.pins_of λp L=>(Yav.mp L).elim (λz=>I.pin p (Ycn _ z)) λz=>by
  obtain ⟨B,e⟩:=ZP z;obtain ⟨N,O,U,_⟩:=F p.1 B;obtain ⟨o,D,d⟩:=G p.1 B;rw [e] at D;cases D;exact ⟨e,N,O,U,d⟩
theorem Inv.unpinned {qQ pl:List (Addr×Obj)}{σ:St}{H:Hp}{s:Shared}(I:Inv X (qQ++pl) σ H s):Inv X qQ σ H s:=I.pins_of λp B=>I.pin p (Ycn _ (Yeo _ B))
theorem JY {iter:Expr}{body:List Stmt}{wi:TI}{g:TG}{tb:TS}{pos:Pos}(hp:PassesOwn (model X.prog X.w) X.A X.env X.xe)(hc:X.calm=true)(hi:PI X tg iter wi)(hg:PG X tg g)(B:PSs X body tb)(hs:∀x,foldedSetIterable iter X.env x=pure x:=by intro _;rfl):PS X (.For tg iter body [] pos) (Zi1 wi g tb):=by
 intro qQ s σ H D I h;refine wpAny_For (thn (hi qQ s σ H _ I h) λv s1 h1=>thn h1 λah s2 h2=>?_) hs;obtain ⟨it,fp,tn,J,H2,e,I2,T,ae,f2,W,⟨m0,w0⟩,aa⟩:=h2;subst e;have F:∀{H':Hp},(∀b∈fp,H' b=none)->∀b∈fp,ZbI X qQ H' b:=λhn b B=>⟨hn b B,(f2 b B).2⟩;refine codeAny_forLoop_any (λn s'=>∃i σ' H',Inv X qQ σ' H' s'/\tn i s'.heap/\(∀b∈fp,H' b=none)/\W i n σ' H') ?_ m0 ⟨0,σ,H2,I2,ae,λb B=>(f2 b B).1,w0⟩;rintro n s3 ⟨i,σ3,H3,I3,ab,ac,w3⟩;rcases aa i n σ3 H3 w3 with ⟨ad,qn⟩ | ⟨go,N,hN,step⟩
 ·refine Yef hp (thn (T.done X rfl rfl rfl hc i qQ s3 σ3 H3 X.xe I3 (F ac) ab ad) λr s4 ⟨hr,I4⟩=>?_);subst hr;exact wpAny_execs_nil ⟨σ3,H3,I4,qn⟩
 ·refine Yef hp (thn (T.item X rfl rfl rfl hc i qQ s3 σ3 H3 X.xe I3 (F ac) ab go) λr s4 ⟨u,hr,h4⟩=>?_);subst hr;refine Yef hp (thn h4 λ_ s5 ⟨x,H5,I5,r5,y5,Z,af⟩=>?_);have ag:=I5.pinned (F af) (T.obj _ _ Z);refine Yef hp (thn (hg _ s5 σ3 H5 x u _ ag r5 (step x H5 y5)) λ_ s6 ⟨σ6,H6,I6,q6⟩=>?_);refine Yef hp (thn (B _ s6 σ6 H6 _ I6 q6) λf s7 Y=>?_);have G:∀{L:St}{O:Hp},Inv X (qQ++WA fp s5.heap) L O s7->N L O->∃m,m<n/\∃i σ' H',Inv X qQ σ' H' s7/\tn i s7.heap/\(∀b∈fp,H' b=none)/\W i m σ' H':=λ{L O} U n7=>by
   obtain ⟨m',hm,w7⟩:=hN L O n7;refine ⟨m',hm,i+1,L,O,U.unpinned,T.keep _ _ _ Z λb B o e=>(U.pin (b,o) (Ycn _ (Ycn _ (Oi B e)))).1,λb B=>?_,w7⟩;obtain ⟨o,e,d⟩:=T.obj _ _ Z b B;exact (U.pin (b,o) (Ycn _ (Ycn _ (Oi B e)))).2.1
  cases f with
  | next=>obtain ⟨L,O,U,n7⟩:=Y;exact G U n7
  | cont=>obtain ⟨L,O,U,n7⟩:=Y;exact G U n7
  | brk=>obtain ⟨L,O,U,Y⟩:=Y;exact ⟨L,O,U.unpinned,Y⟩
  | ret v=>obtain ⟨x7,L,O,U,r7,Y⟩:=Y;exact ⟨x7,L,O,U.unpinned,r7,Y⟩
end
theorem Ye {K:PySem.W.Frag}{a:Addr}{xs:List V}{g:TG}{tb:TS}{D:Ends}{σ:St}{H:Hp}(B:Nat->St->Hp->Prop)(h0:B 0 σ H)(U:∀i σ H,i<=xs.length->B i σ H->SqL K H a xs)(Y:∀i x σ H,xs[i]?=some x->B i σ H->g x σ H λG H2=>tb { D with nx:=B (i+1),ct:=B (i+1),bk:=D.nx } G H2)(Z:∀ σ H,B xs.length σ H->D.nx σ H) :
  ∃W:Nat->Nat->St->Hp->Prop,(∃m,W 0 m σ H)/\∀i m σ H,W i m σ H ->
   ((Itl K a).stop i H/\D.nx σ H)\/((Itl K a).go i H/\∃N:St->Hp->Prop,(∀ L H',N L H'->∃O,O<m/\W (i+1) O L H')/\∀x H',(Itl K a).yld i H x H'->g x σ H' λG H2=>tb { D with nx:=N,ct:=N,bk:=D.nx } G H2):=by
 refine ⟨λi m σ H=>m=xs.length-i/\i<=xs.length/\B i σ H,⟨xs.length,by simp,Ybc _,h0⟩,?_⟩;rintro i m σ H ⟨rfl,hi,p⟩;have q:=U i σ H hi p;by_cases F:i<xs.length
 ·refine .inr ⟨⟨xs,xs[i],q,by simp [F]⟩,B (i+1),λL H' p'=>⟨xs.length-(i+1),by lia,rfl,F,p'⟩,λx H' y=>?_⟩;obtain ⟨e,y⟩:=y;subst e;exact Y i x σ _ (y xs q) p
 ·have e:i=xs.length:=by lia
  subst e;exact .inl ⟨⟨xs,q,Yac _⟩,Z σ H p⟩
theorem JZ {lo:Int}{n:Nat}{g:TG}{tb:TS}{D:Ends}{σ:St}{H:Hp}(B:Nat->St->Hp->Prop)(h0:B 0 σ H)(U:∀i σ H,i<n->B i σ H->g (.int (lo+i)) σ H λG H2=>tb { D with nx:=B (i+1),ct:=B (i+1),bk:=D.nx } G H2)(Y:∀ σ H,B n σ H->D.nx σ H) :
  ∃W:Nat->Nat->St->Hp->Prop,(∃m,W 0 m σ H)/\∀i m σ H,W i m σ H ->
   ((Itr lo n).stop i H/\D.nx σ H)\/((Itr lo n).go i H/\∃N:St->Hp->Prop,(∀ L H',N L H'->∃O,O<m/\W (i+1) O L H')/\∀x H',(Itr lo n).yld i H x H'->g x σ H' λG H2=>tb { D with nx:=N,ct:=N,bk:=D.nx } G H2):=by
 refine ⟨λi m σ H=>m=n-i/\i<=n/\B i σ H,⟨n,by simp,Ybc _,h0⟩,?_⟩;rintro i m σ H ⟨rfl,hi,p⟩;by_cases F:i<n
 ·refine .inr ⟨F,B (i+1),λL H' Z=>⟨n-(i+1),by lia,rfl,F,Z⟩,λx H' y=>?_⟩;obtain ⟨e,y⟩:=y;subst e y;exact U i σ _ F p
 ·have e:i=n:=by lia
  subst e;exact .inl ⟨Yac _,Y σ H p⟩
abbrev R2:=V->V->Hp->VK->Prop
def OpR (X:Cx)(f:Value->Value->Sem Value)(r:R2):Prop:=
 ∀(qQ:List (Addr×Obj))(s:Shared)(σ:St)(H:Hp)(x y:V)(v u:Value)(Q:VK),Inv X qQ σ H s->RelV x v->RelV y u->r x y H Q ->
  wpAny (model X.prog X.w) X.A (f v u) (EP X qQ σ Q) X.xe s
def UnR (X:Cx)(f:Value->Sem Value)(r:V->Hp->VK->Prop):Prop:=
 ∀(qQ:List (Addr×Obj))(s:Shared)(σ:St)(H:Hp)(x:V)(v:Value)(Q:VK),Inv X qQ σ H s->RelV x v->r x H Q ->
  wpAny (model X.prog X.w) X.A (f v) (EP X qQ σ Q) X.xe s
def JE (X:Cx)(f:Value)(r:List V->Hp->VK->Prop):Prop:=
 ∀(qQ:List (Addr×Obj))(s:Shared)(σ:St)(H:Hp)(xs:List V)(us:List Value)(Q:VK),Inv X qQ σ H s->Vals xs us->r xs H Q ->
  wpAny (model X.prog X.w) X.A (call f us) (EP X qQ σ Q) X.xe s
def Zi2 (X:Cx)(r:V->Hp->(Bool->Hp->Prop)->Prop):Prop:=
 ∀(qQ:List (Addr×Obj))(s:Shared)(σ:St)(H:Hp)(x:V)(v:Value)(Q:Bool->Hp->Prop),Inv X qQ σ H s->RelV x v->r x H Q ->
  wpAny (model X.prog X.w) X.A (truthy v) (TP X qQ σ Q) X.xe s
def tOp (r:R2)(ta tb:TE):TE:=λσ H Q=>ta σ H λx H1=>tb σ H1 λy H2=>r x y H2 Q
def tUn (r:V->Hp->VK->Prop)(ta:TE):TE:=λσ H Q=>ta σ H λx H1=>r x H1 Q
def rI (C:Int->Int->Prop)(g:Int->Int->V):R2:=λx y H Q=>∃i j,x=.int i/\y=.int j/\C i j/\Q (g i j) H
def rI0 (g:Int->Int->V):R2:=λx y H Q=>∃i j,x=.int i/\y=.int j/\Q (g i j) H
def rU (g:Int->V):V->Hp->VK->Prop:=λx H Q=>∃i,x=.int i/\Q (g i) H
section
variable {X:Cx}{a b c:Expr}{ta tb tc:TE}{pos:Pos}
theorem Zhq (D:PE X a ta)(F:PE X b tb){qQ:List (Addr×Obj)}{s:Shared}{σ:St}{H:Hp}{R:V->V->Hp->Prop}(I:Inv X qQ σ H s)(h:ta σ H λx H1=>tb σ H1 λy H2=>R x y H2){Q:Value->Shared->Prop}{f:Value->Value->Sem Value}(G:∀v u B x y H2,Inv X qQ σ H2 B->RelV x v->RelV y u->R x y H2->wpAny (model X.prog X.w) X.A (f v u) Q X.xe B) :
  wpAny (model X.prog X.w) X.A (eval a X.env) (λv L=>wpAny (model X.prog X.w) X.A (eval b X.env) (λu N=>wpAny (model X.prog X.w) X.A (f v u) Q X.xe N) X.xe L) X.xe s:=by
 refine thn (D qQ s σ H _ I h) λv s1 ⟨x,H1,O,r1,q1⟩=>?_;refine thn (F qQ s1 σ H1 _ O q1) λu B ⟨y,H2,U,Y,Z⟩=>?_;exact G v u B x y H2 U r1 Y Z
theorem Gw {op:Operator}{r:R2}(B:OpR X (binaryOp op) r)(D:PE X a ta)(F:PE X b tb):PE X (.BinOp a op b pos) (tOp r ta tb):=by
 intro qQ s σ H Q I h;exact wpAny_BinOp (Zhq D F I h λv u G x y H2 L N O q=>B qQ G σ H2 x y v u Q L N O q)
theorem Xy {op:UnaryOp}{r:V->Hp->VK->Prop}(B:UnR X (unaryOp op) r)(D:PE X a ta):PE X (.UnaryOp op a pos) (tUn r ta):=by
 intro qQ s σ H Q I h;exact UnaryOp_ (thn (D qQ s σ H _ I h) λv s1 ⟨x,H1,F,r1,q1⟩=>B qQ s1 σ H1 x v Q F r1 q1)
theorem opI {f:Value->Value->Sem Value}{C:Int->Int->Prop}{g:Int->Int->Int}(B:∀(i j:Int)(t u:Tok)(s:Shared)(Q:Value->Shared->Prop)(E:Value->Shared->Prop),C i j->Q (.int (g i j) s.toks) { s with toks:=s.toks+1 }->wpAny (model X.prog X.w) X.A (f (.int i t) (.int j u)) Q E s) :
  OpR X f (rI C λi j=>.int (g i j)):=by
 intro qQ s σ H x y v u Q I D F h;obtain ⟨i,j,rfl,rfl,G,q⟩:=h;obtain ⟨t,rfl⟩:=D;obtain ⟨L,rfl⟩:=F;exact B i j t L s _ _ G ⟨.int (g i j),H,I.tok _,⟨_,rfl⟩,q⟩
theorem Zil {f:Value->Value->Sem Value}{g:Int->Int->Int}(B:∀(i j:Int)(t u:Tok)(s:Shared)(Q:Value->Shared->Prop)(E:Value->Shared->Prop),Q (.int (g i j) s.toks) { s with toks:=s.toks+1 }->wpAny (model X.prog X.w) X.A (f (.int i t) (.int j u)) Q E s) :
  OpR X f (rI0 λi j=>.int (g i j)):=by
 intro qQ s σ H x y v u Q I D F h;obtain ⟨i,j,rfl,rfl,q⟩:=h;obtain ⟨t,rfl⟩:=D;obtain ⟨G,rfl⟩:=F;exact B i j t G s _ _ ⟨.int (g i j),H,I.tok _,⟨_,rfl⟩,q⟩
theorem Zg9 {f:Value->Value->Sem Value}{g:Int->Int->Bool}(B:∀(i j:Int)(t u:Tok)(s:Shared)(Q:Value->Shared->Prop)(E:Value->Shared->Prop),Q (.bool (g i j)) s->wpAny (model X.prog X.w) X.A (f (.int i t) (.int j u)) Q E s) :
  OpR X f (rI0 λi j=>.bl (g i j)):=by
 intro qQ s σ H x y v u Q I D F h;obtain ⟨i,j,rfl,rfl,q⟩:=h;obtain ⟨t,rfl⟩:=D;obtain ⟨G,rfl⟩:=F;exact B i j t G s _ _ ⟨.bl (g i j),H,I,rfl,q⟩
def Zi3 (i j:Int):Prop:=0<j/\j<1073741824
def Zi4 (i j:Int):Prop:=0<=j/\j<=1000000/\i.natAbs<2 ^ 64
def CMul (i j:Int):Prop:=(-(2 ^ 64)<i/\i<2 ^ 64)\/(-(2 ^ 64)<j/\j<2 ^ 64)
theorem CMul.ok {i j:Int}(h:CMul i j):IntMulOk i j:=by
 rcases h with ⟨h1,h2⟩ | ⟨h1,h2⟩
 ·exact .of_left (intBits_le_64 h1 h2)
 ·exact .of_right (intBits_le_64 h1 h2)
theorem GY:OpR X (binaryOp .Add) (rI0 λi j=>.int (i+j)):=Zil λ_ _ _ _ _ _ _ q=>add_int q
theorem UU:OpR X (binaryOp .Sub) (rI0 λi j=>.int (i-j)):=Zil λ_ _ _ _ _ _ _ q=>sub_int q
theorem Oc:OpR X (binaryOp .Mult) (rI CMul λi j=>.int (i * j)):=opI λ_ _ _ _ _ _ _ B q=>mul_int q B.ok
theorem Ur:OpR X (binaryOp .Mod) (rI (λ_ j=>0<j) λi j=>.int (i % j)):=opI λi j _ _ _ _ _ B q=>by
 have h1:(0:Int)<j:=B;exact mod_int' (by lia) (by rw [Int.fmod_eq_emod_of_nonneg i (by lia)];exact q)
theorem Zfr:OpR X (binaryOp .Pow) (rI Zi4 λi j=>.int (i ^ j.toNat)):=opI λ_ _ _ _ _ _ _ B q=>pow_int_small B.1 B.2.1 B.2.2 q
def Zim:V->V->Bool
 | .non,.non=>true | .non,.int _=>true | .int _,.non=>true | .non,.bl _=>true | .bl _,.non=>true | .non,.str _=>true | .str _,.non=>true
 | .int _,.int _=>true | .bl _,.bl _=>true | .str _,.str _=>true | .byt _,.byt _=>true
 | .int _,.str _=>true | .str _,.int _=>true | .bl _,.str _=>true | .str _,.bl _=>true
 | _,_=>false
def rEq:R2:=λx y H Q=>Zim x y=true/\Q (.bl (decide (x=y))) H
def rNe:R2:=λx y H Q=>Zim x y=true/\Q (.bl (!decide (x=y))) H
theorem VS {i j:Int}:decide (V.int i=V.int j)=(i == j):=by
 rw [Bool.eq_iff_iff];simp
theorem Zc6 {i j:Bool}:decide (V.bl i=V.bl j)=(i == j):=by
 rw [Bool.eq_iff_iff];simp
theorem ZQ {i j:Str}:decide (V.str i=V.str j)=(i == j):=by
 rw [Bool.eq_iff_iff];simp
theorem ZR {i j:Array UInt8}:decide (V.byt i=V.byt j)=(i.toList == j.toList):=by
 rw [Bool.eq_iff_iff];cases i;cases j;simp
theorem GN {qQ:List (Addr×Obj)}{σ:St}{H:Hp}{s:Shared}{Q:VK}{k B:Bool}(I:Inv X qQ σ H s)(q:Q (.bl k) H)(e:k=B):EP X qQ σ Q (.bool B) s:=by
 subst e;exact ⟨.bl k,H,I,rfl,q⟩
theorem UV:OpR X (compareOp .Eq) rEq:=by
 intro qQ s σ H x y v u Q I G B h;obtain ⟨F,q⟩:=h;cases x with
 | non=>
  cases G;cases y with
  | non=>cases B;exact PySem.EqNone.eq_none_none (GN I q (by simp))
  | bl j=>cases B;exact PySem.EqNone.eq_none_bool (GN I q (by simp))
  | int j=>obtain ⟨D,rfl⟩:=B;exact PySem.EqNone.eq_none_int (GN I q (by simp))
  | str j=>obtain ⟨D,rfl⟩:=B;exact PySem.EqNone.eq_none_str (GN I q (by simp))
  | _=>exact absurd (show false=true from F) Yax
 | bl i=>
  cases G;cases y with
  | non=>cases B;exact PySem.EqNone.eq_bool_none (GN I q (by simp))
  | bl j=>cases B;exact eq_bool (GN I q Zc6)
  | str j=>obtain ⟨D,rfl⟩:=B;exact PySem.EqMixed.eq_bool_str (GN I q (by simp))
  | _=>exact absurd (show false=true from F) Yax
 | int i=>
  obtain ⟨t,rfl⟩:=G;cases y with
  | non=>cases B;exact PySem.EqNone.eq_int_none (GN I q (by simp))
  | int j=>obtain ⟨D,rfl⟩:=B;exact eq_int (GN I q VS)
  | str j=>obtain ⟨D,rfl⟩:=B;exact PySem.EqMixed.eq_int_str (GN I q (by simp))
  | _=>exact absurd (show false=true from F) Yax
 | str i=>
  obtain ⟨t,rfl⟩:=G;cases y with
  | non=>cases B;exact PySem.EqNone.eq_str_none (GN I q (by simp))
  | bl j=>cases B;exact PySem.EqMixed.eq_str_bool (GN I q (by simp))
  | int j=>obtain ⟨D,rfl⟩:=B;exact PySem.EqMixed.eq_str_int (GN I q (by simp))
  | str j=>obtain ⟨D,rfl⟩:=B;exact eq_str (GN I q ZQ)
  | _=>exact absurd (show false=true from F) Yax
 | byt i=>
  obtain ⟨t,rfl⟩:=G;cases y with
  | byt j=>obtain ⟨D,rfl⟩:=B;exact W.eq_bytes (GN I q ZR)
  | _=>exact absurd (show false=true from F) Yax
 | _=>cases y <;> exact absurd (show false=true from F) Yax
theorem ZbQ:OpR X (compareOp .NotEq) rNe:=by
 intro qQ s σ H x y v u Q I G B h;obtain ⟨F,q⟩:=h;cases x with
 | non=>
  cases G;cases y with
  | non=>cases B;exact PySem.EqNone.ne_none_none (GN I q (by simp))
  | bl j=>cases B;exact PySem.EqNone.ne_none_bool (GN I q (by simp))
  | int j=>obtain ⟨D,rfl⟩:=B;exact PySem.EqNone.ne_none_int (GN I q (by simp))
  | str j=>obtain ⟨D,rfl⟩:=B;exact PySem.EqNone.ne_none_str (GN I q (by simp))
  | _=>exact absurd (show false=true from F) Yax
 | bl i=>
  cases G;cases y with
  | non=>cases B;exact PySem.EqNone.ne_bool_none (GN I q (by simp))
  | bl j=>cases B;exact ne_bool (GN I q (Ybb not Zc6))
  | str j=>obtain ⟨D,rfl⟩:=B;exact PySem.EqMixed.ne_bool_str (GN I q (by simp))
  | _=>exact absurd (show false=true from F) Yax
 | int i=>
  obtain ⟨t,rfl⟩:=G;cases y with
  | non=>cases B;exact PySem.EqNone.ne_int_none (GN I q (by simp))
  | int j=>obtain ⟨D,rfl⟩:=B;exact ne_int (GN I q (Ybb not VS))
  | str j=>obtain ⟨D,rfl⟩:=B;exact PySem.EqMixed.ne_int_str (GN I q (by simp))
  | _=>exact absurd (show false=true from F) Yax
 | str i=>
  obtain ⟨t,rfl⟩:=G;cases y with
  | non=>cases B;exact PySem.EqNone.ne_str_none (GN I q (by simp))
  | bl j=>cases B;exact PySem.EqMixed.ne_str_bool (GN I q (by simp))
  | int j=>obtain ⟨D,rfl⟩:=B;exact PySem.EqMixed.ne_str_int (GN I q (by simp))
  | str j=>obtain ⟨D,rfl⟩:=B;exact ne_str (GN I q (Ybb not ZQ))
  | _=>exact absurd (show false=true from F) Yax
 | byt i=>
  obtain ⟨t,rfl⟩:=G;cases y with
  | byt j=>obtain ⟨D,rfl⟩:=B;exact W.ne_bytes (GN I q (Ybb not ZR))
  | _=>exact absurd (show false=true from F) Yax
 | _=>cases y <;> exact absurd (show false=true from F) Yax
theorem Ud:OpR X (compareOp .Lt) (rI0 λi j=>.bl (decide (i<j))):=Zg9 λ_ _ _ _ _ _ _ q=>lt_int q
theorem Zhr:OpR X (compareOp .LtE) (rI0 λi j=>.bl (decide (i<=j))):=Zg9 λ_ _ _ _ _ _ _ q=>le_int q
theorem Zfs:OpR X (compareOp .Gt) (rI0 λi j=>.bl (decide (j<i))):=Zg9 λ_ _ _ _ _ _ _ q=>gt_int q
theorem ZbR:OpR X (compareOp .GtE) (rI0 λi j=>.bl (decide (j<=i))):=Zg9 λ_ _ _ _ _ _ _ q=>ge_int q
theorem Zc7:OpR X (compareOp .Is) (λx y H Q=>y=.non/\Q (.bl (decide (x=.non))) H):=by
 intro qQ s σ H x y v u Q I B D h;obtain ⟨rfl,q⟩:=h;cases D;refine is_none_gen (GN I q ?_);cases x <;> first
  | (cases B;rfl)
  | (obtain ⟨t,rfl⟩:=B;rfl)
theorem Gv (b:Expr){op:CmpOp}(h:op≠.In:=by decide)(h2:op≠.NotIn:=by decide):behindInMarks op b=false:=by
 have B:(op == CmpOp.In)=false:=by cases op <;> first | rfl | exact absurd rfl h
 have D:(op == CmpOp.NotIn)=false:=by cases op <;> first | rfl | exact absurd rfl h2
 cases b <;> simp [behindInMarks,B,D]
theorem Jr {op:CmpOp}{r:R2}(B:OpR X (compareOp op) r)(D:PE X a ta)(F:PE X b tb)(G:behindInMarks op b=false):PE X (.Compare a [op] [b] pos) (tOp r ta tb):=by
 intro qQ s σ H Q I h;exact wpAny_Compare1 (Zhq D F I h λv u L x y H2 N O U q=>B qQ L σ H2 x y v u Q N O U q) G
def ZdV (t:TE):TT:=λσ H Q=>t σ H λx H'=>∃k,x=.bl k/\Q k H'
theorem Go {op:CmpOp}{r:R2}(B:OpR X (compareOp op) r)(D:PE X a ta)(F:PE X b tb)(G:behindInMarks op b=false):PT X (.Compare a [op] [b] pos) (ZdV (tOp r ta tb)):=by
 intro qQ s σ H Q I h;refine wpAny_isTrue_Compare1 (thn (D qQ s σ H _ I h) λv s1 ⟨x,H1,L,r1,q1⟩=>thn (F qQ s1 σ H1 _ L q1) λu N ⟨y,H2,O,U,Y⟩=>
  thn (B qQ N σ H2 x y v u _ O r1 U Y) λc s3 ⟨z,Z,I3,r3,k,e,q3⟩=>?_) G
 subst e;cases r3;exact Ydl ⟨Z,I3,q3⟩
def Zft (r D:R2)(ta tb tc:TE):TE:=λσ H Q=>ta σ H λx H1=>tb σ H1 λy H2=>r x y H2 λz B=>∃k,z=.bl k /\
 (if k=true then tc σ B λF G=>D y F G Q else Q (.bl false) B)
theorem ZbS {op B:CmpOp}{r F:R2}(U:OpR X (compareOp op) r)(D:OpR X (compareOp B) F)(Y:PE X a ta)(Z:PE X b tb)(hc:PE X c tc)(hm:lastMarks [op,B] [b,c]=false:=by with_unfolding_all rfl):PE X (.Compare a [op,B] [b,c] pos) (Zft r F ta tb tc):=by
 intro qQ s σ H Q I h;refine Compare_chain (thn (Y qQ s σ H _ I h) λv s1 ⟨x,H1,I1,r1,q1⟩=>chain_link (thn (Z qQ s1 σ H1 _ I1 q1) λu s2 ⟨y,H2,I2,G,q2⟩=>
  thn (U qQ s2 σ H2 x y v u _ I2 r1 G q2) λd s3 ⟨z,L,N,r3,k,e,O⟩=>?_)) hm
 subst e;cases r3;refine Ydl ?_;cases k with
 | false=>exact ite_ff ⟨.bl false,L,N,rfl,O⟩
 | true=>exact ite_tt (chain_last (thn (hc qQ s3 σ L _ N O) λw' s4 ⟨z',H4,I4,r4,q4⟩=>D qQ s4 σ H4 y z' u w' Q I4 G r4 q4))
def Zin (K:W.Frag)(x:V)(H:Hp)(k:Bool):Prop:=
 match x with
 | .non=>k=false
 | .bl b=>k=b
 | .int i=>k=(i != 0)
 | .str y=>y.length<=sizeLine/\k=((y.length:Int) != 0)
 | .byt y=>y.size<=sizeLine/\k=((y.size:Int) != 0)
 | .ref p=>(∃xs,SqL K H p xs/\k=!xs.isEmpty)\/(∃xs,SqT K H p xs/\k=!xs.isEmpty)\/∃kvs,H p=some (.dK kvs)/\k=!kvs.isEmpty
 | _=>False
theorem Vx {κ:Type}{kvs:List (κ×V)}{vs:List (κ×Value)}(r:KV kvs vs):(!vs.isEmpty)=!kvs.isEmpty:=by
 cases r <;> rfl
theorem Ue {xs:List V}{its:List Value}(r:Vals xs its):(!its.toArray.isEmpty)=!xs.isEmpty:=by
 cases r <;> simp
theorem Us:(sizeLine:Nat)<2 ^ 63:=by rw [Yay];decide
theorem Zfu:Zi2 X (λx H Q=>∃k,Zin X.K x H k/\Q k H):=by
 intro qQ s σ H x v Q I D h;obtain ⟨k,e,q⟩:=h;have Y:=Us;have Z:sizeLine=16777216:=Yay;cases x with
 | non=>
  cases D;have B:k=false:=e;subst B;exact truthy_none ⟨H,I,q⟩
 | bl b=>
  cases D;have B:k=b:=e;subst B;exact Ydl ⟨H,I,q⟩
 | int i=>
  obtain ⟨t,rfl⟩:=D;have B:k=(i != 0):=e;subst B;exact PySem.P.truthy_int ⟨H,I,q⟩
 | str y=>
  obtain ⟨t,rfl⟩:=D;obtain ⟨O,B⟩:y.length<=sizeLine/\k=((y.length:Int) != 0):=e;subst B;exact PySem.P.truthy_str (by lia) ⟨H,I.tok _,q⟩
 | byt y=>
  obtain ⟨t,rfl⟩:=D;obtain ⟨O,B⟩:y.size<=sizeLine/\k=((y.size:Int) != 0):=e;subst B;exact W.truthy_bytes (by lia) ⟨H,I.tok _,q⟩
 | ref p=>
  cases D;have B:(∃xs,SqL X.K H p xs/\k=!xs.isEmpty)\/(∃xs,SqT X.K H p xs/\k=!xs.isEmpty)\/∃kvs,H p=some (.dK kvs)/\k=!kvs.isEmpty:=e;rcases B with ⟨xs,F,B⟩ | ⟨xs,F,B⟩ | ⟨kvs,F,B⟩
  ·subst B;obtain ⟨G,r,pl,L⟩:=I.list F;have N:=r.length;exact wpAny_truthy_list pl.isList (by simp only [Ybd];lia) ⟨H,I.tok _,by rw [Ue r];exact q⟩
  ·subst B;obtain ⟨G,r,pl,L⟩:=I.tuple F;have N:=r.length;exact truthy_tuple pl (by simp only [Ybd];lia) ⟨H,I.tok _,by rw [Ue r];exact q⟩
  ·subst B;obtain ⟨L,U,vs,r,m⟩:kvs.length<=sizeLine/\(p == sysModules)=false/\∃vs,KV kvs vs/\s.heap.DictOf (GM X.prog X.w) p vs:=I.hok p _ F;have N:kvs.length=vs.length:=Ycv r;exact wpAny_truthy_dict U m (by lia) ⟨H,I.tok _,by rw [Vx r];exact q⟩
 | _=>exact (show False from e).elim
theorem J5 (D:PE X a ta)(F:∀B,isTrue a X.env B=(do let v <- B;standAt a.pos;holding [v] (truthy v))) :
  PT X a (λσ H Q=>ta σ H λx H'=>∃k,Zin X.K x H' k/\Q k H'):=by
 intro qQ s σ H Q I h;exact isTrue_plain (thn (D qQ s σ H _ I h) λv s1 ⟨x,H1,G,r1,q1⟩=>Zfu qQ s1 σ H1 x v Q G r1 q1) (F _)
theorem Vy:OpR X (binaryOp .Add) (λx y H Q=>∃i j,x=.str i/\y=.str j/\i.length+j.length<=sizeLine/\Q (.str (i++j)) H):=by
 intro qQ s σ H x y v u Q I B D h;obtain ⟨i,j,rfl,rfl,F,q⟩:=h;obtain ⟨t,rfl⟩:=B;obtain ⟨G,rfl⟩:=D;exact add_str (λG tk=>⟨.str (i++j),H,I.tok _,⟨_,rfl⟩,q⟩) F
theorem ZS {x:V}{us:List Value}(r:Vals [x] us):∃u,us=[u]/\RelV x u:=by
 cases r with
 | cons r1 r2=>cases r2;exact ⟨_,rfl,r1⟩
theorem ZdW {x y:V}{us:List Value}(r:Vals [x,y] us):∃u B,us=[u,B]/\RelV x u/\RelV y B:=by
 cases r with
 | cons r1 r2=>
  cases r2 with
  | cons r3 r4=>cases r4;exact ⟨_,_,rfl,r1,r3⟩
theorem ZT (D:X.calm=true):JE X (.builtin "max") (λxs H Q=>∃i j,xs=[.int i,.int j]/\Q (.int (if j > i then j else i)) H):=by
 intro qQ s σ H xs us Q I r h;obtain ⟨i,j,rfl,q⟩:=h;obtain ⟨u,F,rfl,⟨t,rfl⟩,⟨G,rfl⟩⟩:=ZdW r;refine max_two_ints (I.ok.hd D) λh' tk k=>⟨_,H,I.kept k,?_,q⟩;by_cases B:j > i
 ·rw [if_pos B,if_pos B];exact ⟨_,rfl⟩
 ·rw [if_neg B,if_neg B];exact ⟨_,rfl⟩
theorem ZU (D:X.calm=true):JE X (.builtin "min") (λxs H Q=>∃i j,xs=[.int i,.int j]/\Q (.int (if j<i then j else i)) H):=by
 intro qQ s σ H xs us Q I r h;obtain ⟨i,j,rfl,q⟩:=h;obtain ⟨u,F,rfl,⟨t,rfl⟩,⟨G,rfl⟩⟩:=ZdW r;refine min_two_ints (I.ok.hd D) λh' tk k=>⟨_,H,I.kept k,?_,q⟩;by_cases B:j<i
 ·rw [if_pos B,if_pos B];exact ⟨_,rfl⟩
 ·rw [if_neg B,if_neg B];exact ⟨_,rfl⟩
theorem ZV:JE X (.type "int") (λxs H Q=>(∃i,xs=[.int i]/\Q (.int i) H)\/∃k,xs=[.bl k]/\Q (.int (if k then 1 else 0)) H):=by
 intro qQ s σ H xs us Q I r h;rcases h with ⟨i,rfl,q⟩ | ⟨k,rfl,q⟩
 ·obtain ⟨u,rfl,t,rfl⟩:=ZS r;exact call_int_int ⟨.int i,H,I,⟨_,rfl⟩,q⟩
 ·obtain ⟨u,rfl,r1⟩:=ZS r;cases r1;exact call_int_bool ⟨.int (if k then 1 else 0),H,I.tok _,⟨_,rfl⟩,q⟩
theorem UW:JE X (.builtin "divmod") (λxs H Q=>∃i j,xs=[.int i,.int j]/\Zi3 i j/\∀p,H p=none->Q (.ref p) (upd H p (.tup [.int (i / j),.int (i % j)]))):=by
 intro qQ s σ H xs us Q I r h;obtain ⟨i,j,rfl,⟨h1,h2⟩,q⟩:=h;obtain ⟨u,D,rfl,⟨t,rfl⟩,⟨F,rfl⟩⟩:=ZdW r;refine divmod_int (by lia) ?_ (.inl (PyProof.noPylong_small (by lia)));rw [Int.fdiv_eq_ediv_of_nonneg i (by lia),Int.fmod_eq_emod_of_nonneg i (by lia)];have B:H s.heap.objs.size=none:=I.hok.fresh (Yac _);refine ⟨.ref s.heap.objs.size,_,?_,rfl,q _ B⟩;refine I.laid (λb o e=>Yao _ e) (Yac _) ⟨by simp only [Ybi,List.length_nil];rw [Yay];decide,[.int (i / j) s.toks,.int (i % j) (s.toks+1)],.cons ⟨_,rfl⟩ (.cons ⟨_,rfl⟩ .nil),?_⟩;exact ⟨_,Ybh s.heap rfl,rfl,0,rfl⟩
end
structure ObjM (h:Heap)(x dx C:Addr)(mA:Str->Option Value):Prop where
 obj:h.get? x=some (W.instObj C dx)
 ns:h.Ns1 dx mA
 ne:dx≠x
theorem ZW {h:Heap}{dx:Addr}{D:Str->Option Value}(n:h.Ns1 dx D):∃F,h.get? dx=some F/\∀name,W.lookIn name F=some (D name):=by
 obtain ⟨o,es,ep,G,L,N,_,O⟩:=n;refine ⟨o,G,λname=>?_⟩;have e:=O name;unfold nsFind findBy at e;rw [<-Array.find?_toList] at e;unfold W.lookIn;rw [L];dsimp only;split
 ·rename_i y q;rw [q] at e;exact Ybb some e
 ·rename_i q;rw [q] at e;have a:es.toList.any (·.refKey)=false:=by
   rw [List.any_eq_false];intro y U;obtain ⟨z,t,B⟩:=N y (Array.mem_toList_iff.mp U);simp [DictEntry.refKey,B]
  have Y:¬ es.toList.any (·.refKey)=true:=by rw [a];exact Yax
  rw [if_neg Y];exact Ybb some e
theorem ObjM.look {h:Heap}{x dx C:Addr}{D:Str->Option Value}(I:ObjM h x dx C D):∃B,W.InstAt h x (W.instObj C dx) C (some B)/\∀name,W.lookIn name B=some (D name):=
 let ⟨B,ho,hl⟩:=ZW I.ns
 ⟨B,⟨I.obj,rfl,rfl,ho⟩,hl⟩
theorem RelO.some_of {v:V}{o:Option Value}(r:RelO (some v) o):∃u,o=some u/\RelV v u:=by
 cases o with
 | none=>exact (show False from r).elim
 | some u=>exact ⟨u,rfl,r⟩
section
variable {P:Program}{w:World}{H H':Hp}{h h':Heap}{a C dx:Addr}{fs fs':List (Str×V)}
theorem ZdX (D:HOk P w H h)(e:H a=some (.ins C dx fs)):∃B,ObjM h a dx C B/\(∀f,RelO (fs.lookup f) (B f))/\PySem.Within B (fs.map (·.1))/\fs.length<=1000/\H dx=some (.own a):=by
 obtain ⟨d,z,F,G,B,n,r,q⟩:=(show ObjOk P w H h a (.ins C dx fs) from D a _ e);exact ⟨B,⟨G,n,F⟩,r,q,z,d⟩
end
structure Cls (K:W.Frag)(C:Addr):Prop where
 pg:W.plainGet K C Str.empty=true
 hd:W.hasDictIn K C=true
 po:W.plainOver K C=true
 sa:W.findIn K (.ref C) "__setattr__" = some (some (.builtin "object.__setattr__"))
theorem Cls.get {K:W.Frag}{C:Addr}(c:Cls K C)(f:Str):W.plainGet K C f=true:=c.pg
section
variable {X:Cx}{qQ:List (Addr×Obj)}{σ:St}{H:Hp}{s:Shared}{A:Around}{E:Value->Shared->Prop}{Q:Value->Shared->Prop}{c:Value}{b:Bool}
inductive Y9 (K:W.Frag)(H:Hp):V->Value->Prop where
 | non:Y9 K H .non (.type "NoneType")
 | bl (x:Bool):Y9 K H (.bl x) (.type "bool")
 | int (i:Int):Y9 K H (.int i) (.type "int")
 | str (x:Str):Y9 K H (.str x) (.type "str")
 | flt (x:UInt64):Y9 K H (.flt x) (.type "float")
 | lst {a:Addr} {xs:List V} (e:H a=some (.lst xs)):Y9 K H (.ref a) (.type "list")
 | frz {a:Addr} {o:Obj} {xs:List V} (e:H a=some (.frz o (.lst xs))):Y9 K H (.ref a) (.type "list")
 | tup {a:Addr} {xs:List V} (e:H a=some (.tup xs)):Y9 K H (.ref a) (.type "tuple")
 | dK {a:Addr} {kvs:List (Key×V)} (e:H a=some (.dK kvs)):Y9 K H (.ref a) (.type "dict")
 | dT {a:Addr} {kvs:List (List Key×V)} (e:H a=some (.dT kvs)):Y9 K H (.ref a) (.type "dict")
 | ins {a C dx:Addr} {fs:List (Str×V)} (e:H a=some (.ins C dx fs)) (cl:Cls K C) (ha:W.findIn K (.ref C) "__class__" = some (some (.builtin "object.__class__")))
   (hn:W.specialIn K (.builtin "object.__class__") "__get__" = some (some (.builtin "getset_descriptor.__get__"))) (htk:W.takesIn K (.builtin "object.__class__")=some true)
   (hm:W.mroIn K C (.type "object")=some true):Y9 K H (.ref a) (.ref C)
theorem ZX {x:V}{u t:Value}(I:Inv X qQ σ H s)(B:RelV x u)(ty:Y9 X.K H x t)(e:W.kitOne X.K t c=some b)(h:∀tk,Q (.bool b) { s with toks:=tk }) :
  wpAny (model X.prog X.w) A (call (.builtin "isinstance") [u,c]) Q E s:=by
 cases ty with
 | non=>cases (show u=Value.none from B);exact Ycx W.kitx_none I.kIn True.intro e (λz=>nomatch z) h
 | bl y=>cases (show u=Value.bool y from B);exact Ycx W.kitx_bool I.kIn True.intro e (λz=>nomatch z) h
 | int i=>obtain ⟨t,q⟩:=(show ∃t,u=Value.int i t from B);cases q;exact Ycx W.kitx_int I.kIn True.intro e (λz=>nomatch z) h
 | str y=>obtain ⟨t,q⟩:=(show ∃t,u=Value.str y t from B);cases q;exact Ycx W.kitx_str I.kIn True.intro e (λz=>nomatch z) h
 | flt y=>obtain ⟨t,q⟩:=(show ∃t,u=Value.float y t from B);cases q;exact Ycx W.kitx_float I.kIn True.intro e (λz=>nomatch z) h
 | @lst a xs ea=>
  cases (show u=Value.ref a from B);obtain ⟨_,_,n,_,h1⟩:=(show ObjOk X.prog X.w H s.heap a (.lst xs) from I.hok a _ ea);exact Ycx W.kitx_list I.kIn ⟨_,h1,rfl⟩ e (λz=>nomatch z) h
 | @frz a ob xs ea=>
  cases (show u=Value.ref a from B);obtain ⟨_,_,_,n,_,h1⟩:=(show ObjOk X.prog X.w H s.heap a (.frz ob (.lst xs)) from I.hok a _ ea);exact Ycx W.kitx_list I.kIn ⟨_,h1,rfl⟩ e (λz=>nomatch z) h
 | @tup a xs ea=>
  cases (show u=Value.ref a from B);obtain ⟨_,_,_,p⟩:=(show ObjOk X.prog X.w H s.heap a (.tup xs) from I.hok a _ ea);obtain ⟨o,h1,h2,_⟩:=p;exact Ycx W.kitx_tuple I.kIn ⟨o,h1,h2⟩ e (λz=>nomatch z) h
 | @dK a kvs ea=>
  cases (show u=Value.ref a from B);obtain ⟨_,_,vs,_,p⟩:=(show ObjOk X.prog X.w H s.heap a (.dK kvs) from I.hok a _ ea);obtain ⟨o,es,ep,h1,h2,_⟩:=p;exact Ycx W.kitx_dict I.kIn ⟨o,h1,h2.1⟩ e (λz=>nomatch z) h
 | @dT a kvs ea=>
  cases (show u=Value.ref a from B);obtain ⟨_,_,xs,_,o,es,ep,h1,h2,_⟩:=(show ObjOk X.prog X.w H s.heap a (.dT kvs) from I.hok a _ ea);exact Ycx W.kitx_dict I.kIn ⟨o,h1,h2.1⟩ e (λz=>nomatch z) h
 | @ins a C dx fs ea cl ha hn htk hm=>
  cases (show u=Value.ref a from B);obtain ⟨D,O,_⟩:=ZdX I.hok ea;obtain ⟨F,J,_⟩:=O.look;exact Ycx (W.kitx_own (cl.get _) cl.hd ha hn htk hm) I.kIn J e (λz=>nomatch z) h
end
structure Room (k:Nat)(A:Around):Prop where
 hd:A.handled=none
 dp:A.depth+3 * k+5<recursionLimit
 un:A.units+16 * k+200<cLine
theorem Room.mono {j k:Nat}{A:Around}(r:Room k A)(h:j<=k):Room j A:=⟨r.hd,by have:=r.dp;lia,by have:=r.un;lia⟩
theorem Room.deeper {k:Nat}{A:Around}(r:Room (k+1) A)(env:Env):Room k (A.deeper env):=
 ⟨r.hd,by have:=r.dp;show A.depth+1+3 * k+5<_;lia,by have:=r.un;show A.units+3+16 * k+200<_;lia⟩
theorem Room.depth {k:Nat}{A:Around}(r:Room k A):A.depth<recursionLimit:=by have:=r.dp;lia
theorem Room.units {k:Nat}{A:Around}(r:Room k A):A.units+64<cLine:=by have:=r.un;lia
def Ze7:TA:=λ_ H Q=>Q [] H
def ZY (ta:TE)(B:TA):TA:=λσ H Q=>ta σ H λx H1=>B σ H1 λxs H2=>Q (x::xs) H2
section
variable {X:Cx}{e:Expr}{es:List Expr}{te:TE}{t:TA}{pos:Pos}
theorem Gd:PA X [] Ze7:=λ_ _ _ _ H Q I h=>Calls.spliced_nil ⟨[],H,I,.nil,h⟩
theorem Ga (B:PE X e te)(D:PA X es t)(F:starEach (e::es) X.env=(false,eval e X.env)::starEach es X.env:=by rfl):PA X (e::es) (ZY te t):=by
 intro pos qQ s σ H Q I h;rw [F];show wpAny _ _ (spliced ((false,eval e X.env)::backTo pos (starEach es X.env))) _ _ s;refine Calls.spliced_cons (thn (B qQ s σ H _ I h) λu s1 ⟨x,H1,G,r1,q1⟩=>?_);exact thn (D pos qQ s1 σ H1 _ G q1) λus U ⟨xs,H2,L,N,O⟩=>⟨x::xs,H2,L,.cons r1 N,O⟩
def Zio (t:TA):TE:=λσ H Q=>t σ H λxs H1=>xs.length<=sizeLine/\∀p,H1 p=none->Q (.ref p) (upd H1 p (.tup xs))
def Zip (t:TA):TE:=λσ H Q=>t σ H λxs H1=>xs.length<=sizeLine/\∀p,H1 p=none->Q (.ref p) (upd H1 p (.lst xs))
theorem G0 {x1}(h:PA X es t):PE X (.Tuple es x1 pos) (Zio t):=by
 intro qQ s σ H Q I D;refine wpAny_Tuple_spliced (thn (h pos qQ s σ H _ I D) λus s1 ⟨xs,H1,B,r,z,q⟩=>⟨by rw [<-r.length];exact z,?_⟩);have F:H1 s1.heap.objs.size=none:=B.hok.fresh (Yac _);refine ⟨.ref s1.heap.objs.size,upd H1 s1.heap.objs.size (.tup xs),B.laid (t':=s1.toks) (λb u e=>Yao _ e) (Yac _) ?_,rfl,q _ F⟩;exact ⟨z,us,r,⟨_,Ybh _ rfl,rfl,_,rfl⟩⟩
theorem Ji (h:PA X es t):PE X (.List es pos) (Zip t):=by
 intro qQ s σ H Q I D;refine wpAny_List_spliced (thn (h pos qQ s σ H _ I D) λus s1 ⟨xs,H1,B,r,z,q⟩=>⟨by rw [<-r.length];exact z,?_⟩);have F:H1 s1.heap.objs.size=none:=B.hok.fresh (Yac _);refine ⟨.ref s1.heap.objs.size,upd H1 s1.heap.objs.size (.lst xs),B.laid (t':=s1.toks) (λb u e=>Yao _ e) (Yac _) ?_,rfl,q _ F⟩;exact ⟨z,us,0,r,Ybh _ rfl⟩
end
abbrev Sp:=List V->Hp->VK->XK->Prop
abbrev CXT:=List Env->Hp->Shared->XK->Value->Shared->Prop
structure Zha (P:Program)(w:World)(K:W.Frag)(mg:Str->Option Value)(base:Heap)(A:Around)(outer:List Env)(s:Shared)(H:Hp):Prop where
 frames:A.frames=some outer
 mod:Mod K mg base
 bs:∀b o,base.get? b=some o->s.heap.get? b=some o/\H b=none
 bsz:base.objs.size<=s.heap.objs.size
 funs:s.heap.FunFrames base outer
 frf:∀b∈frs outer,H b=none
 hok:HOk P w H s.heap
 bare:AllBare s.gens
def CE (outer:List Env)(P:Program)(w:World)(H:Hp)(s:Shared)(Q:VK)(u:Value)(s':Shared):Prop:=
 ∃v H',s'.os=s.os/\AllBare s'.gens/\Un (frs outer) [] H H' s.heap s'.heap/\HOk P w H' s'.heap/\RelV v u/\Q v H'
def CR (CX:CXT)(outer:List Env)(P:Program)(w:World)(H:Hp)(s:Shared)(Q:VK)(E:XK)(r:Result)(s':Shared):Prop:=
 match r with
 | .ok (.ret u)=>CE outer P w H s Q u s'
 | .ok _=>False
 | .error e=>CX outer H s E e s'
structure GJ (P:Program)(w:World)(K:W.Frag)(mg:Str->Option Value)(base:Heap)(CX:CXT)(k:Nat)(f:Addr)(fd:FuncData)(ps:List Str)(sp:Sp):Prop where
 len:∀vs H Q E,sp vs H Q E->vs.length=ps.length
 run:∀(A:Around)(outer:List Env)(s:Shared)(H:Hp)(args:Args)(us:List Value)(vs:List V)(Q:VK)(E:XK),Room k A->Zha P w K mg base A outer s H->BindsTo s fd args (ps.zip us)->Vals vs us->sp vs H Q E ->
  codeAny (model P w) A (.call (.ref f) args) (CR CX outer P w H s Q E) s
section
variable {X:Cx}{qQ:List (Addr×Obj)}{σ:St}{H:Hp}{s s':Shared}
theorem Inv.env0 (I:Inv X qQ σ H s):Zha X.prog X.w X.K X.mg X.base X.A X.stack s H:=
 ⟨I.ok.frames,I.ok.mod,I.bs,Ycc I.ok.bsz I.sz,I.stack,I.stkFree,I.hok,I.bare⟩
theorem Inv.after {Q:VK}{u:Value}(I:Inv X qQ σ H s)(h:CE X.stack X.prog X.w H s Q u s'):EP X qQ σ Q u s':=by
 obtain ⟨v,H',G,B,un,D,r,q⟩:=h;obtain ⟨L,g,d,t,F⟩:=s';obtain rfl:F=s.os:=G;exact ⟨v,H',I.call (h':=L) (g':=g) (d':=d) (t':=t) (ch:=[]) un D B (λb z=>absurd z (by simp)),r,q⟩
end
def Zhs (sp:Sp)(dvs:List V)(E:XK)(t:TA):TE:=λσ H Q=>t σ H λvs H1=>sp (vs++dvs) H1 Q E
def Binds (K:W.Frag)(fd:FuncData)(ps:List Str)(ds:List Value):Prop:=
 ∀(s:Shared)(us:List Value),K.In s.heap->(us++ds).length=ps.length->BindsTo s fd ⟨us,[]⟩ (ps.zip (us++ds))
theorem Binds.all {K:W.Frag}{fd:FuncData}{ps:List Str}(h:∀us:List Value,us.length=ps.length->bindArgs fd ⟨us,[]⟩=pure (ps.zip us)):Binds K fd ps []:=λs us _ B=>by
 rw [Ybr] at B ⊢;exact .of_eq (h us B)
def WB (CX:CXT)(X:Cx)(E:XK):Prop:=∀(qQ:List (Addr×Obj))(σ:St)(H:Hp)(s:Shared)(e:Value)(s':Shared),Inv X qQ σ H s->CX X.stack H s E e s'->X.xe e s'
section
variable {X:Cx}{CX:CXT}{k:Nat}{f C:Addr}{fd:FuncData}{ps:List Str}{sp:Sp}{dvs:List V}{ds:List Value}{E:XK}{x m:Str}{p pos apos:Pos}{e o:Expr}{es:List Expr}{ta:TE}{t:TA}
theorem Zfv {qQ:List (Addr×Obj)}{σ:St}{H:Hp}{s:Shared}{Q:VK}{us:List Value}{vs:List V}(F:GJ X.prog X.w X.K X.mg X.base CX k f fd ps sp)(G:Room k X.A)(L:Binds X.K fd ps ds)(N:Vals dvs ds)(O:WB CX X E)(I:Inv X qQ σ H s)(r:Vals vs us)(h:sp (vs++dvs) H Q E):wpAny (model X.prog X.w) X.A (call (.ref f) us) (EP X qQ σ Q) X.xe s:=by
 have D:Vals (vs++dvs) (us++ds):=r.append N;have U:(us++ds).length=ps.length:=by rw [<-D.length];exact F.len _ _ _ _ h
 refine wpAny_call (codeAny_mono (F.run X.A X.stack s H ⟨us,[]⟩ (us++ds) (vs++dvs) Q E G I.env0 (L s us I.kIn U) D h) λr s' B=>?_);cases r with
 | error e=>exact O qQ σ H s e s' I B
 | ok fl=>
  cases fl with
  | ret u=>exact I.after B
  | next=>exact False.elim B
  | brk=>exact False.elim B
  | cont=>exact False.elim B
theorem Gj (F:GJ X.prog X.w X.K X.mg X.base CX k f fd ps sp)(L:Room k X.A)(N:Gl X x)(O:X.mg x=some (.ref f))(U:W.keepIn X.K (.ref f)=true)(Y:Binds X.K fd ps ds)(Z:Vals dvs ds)(hx:WB CX X E)(ha:PA X (e::es) t)(B:(x == ("__debug__" : Str))=false:=by decide)(he:starEach (e::es) X.env=(false,eval e X.env)::starEach es X.env:=by rfl)(D:(backTo pos (starEach es X.env)).any (·.1)=false:=by rfl) :
  PE X (.Call (.Name x p) (e::es) [] pos) (Zhs sp dvs E t):=by
 intro qQ s σ H Q I h;refine Yeq (Xx I N O ?_ B);refine W.callWith_K (h₀:=X.base) I.ok.mod.kin U (thn (ha pos qQ s σ H _ I h) λus s1 ⟨vs,H1,G,r,q⟩=>⟨G.kIn,?_⟩) he D;exact Zfv F L Y Z hx G r q
end
def PK (X:Cx)(kws:List Keyword)(t:TA):Prop:=
 ∀(pos:Pos)(qQ:List (Addr×Obj))(s:Shared)(σ:St)(H:Hp)(Q:List V->Hp->Prop),Inv X qQ σ H s->t σ H Q->wpAny (model X.prog X.w) X.A (evalAll ((backToKw pos (keywordEach kws X.env)).map (·.2))) (AP X qQ σ Q) X.xe s
section
variable {X:Cx}{CX:CXT}{k:Nat}{f C:Addr}{fd:FuncData}{ps ks:List Str}{sp:Sp}{E:XK}{x m:Str}{p pos apos kpos:Pos}{e o:Expr}{es:List Expr}{kws:List Keyword}{te ta:TE}{t tk:TA}{nm:Option Str}
theorem Zfw:PK X [] Ze7:=λ_ _ _ _ H Q I h=>wpAny_evalAll_nil ⟨[],H,I,.nil,h⟩
theorem ZdY (B:PE X e te)(D:PK X kws t):PK X (⟨nm,e,kpos⟩::kws) (ZY te t):=by
 intro pos qQ s σ H Q I h;show wpAny _ _ (evalAll ((do let v <- eval e X.env;standAt pos;pure v)::(backToKw pos (keywordEach kws X.env)).map (·.2))) _ _ s;refine wpAny_evalAll_cons (Yab (thn (B qQ s σ H _ I h) λu s1 ⟨x,H1,F,r1,q1⟩=>Yab (wpAny_standAt (Yag ?_))));exact thn (D pos qQ s1 σ H1 _ F q1) λus O ⟨xs,H2,G,L,N⟩=>⟨x::xs,H2,G,.cons r1 L,N⟩
variable {g:List Value->List Value->List Value}{gV:List V->List V->List V}
end
structure Gp (N P:List Str)(sc:Scope):Prop where
 kind:sc.kind=.function
 co:sc.isCoroutine=false
 gen:sc.isGenerator=false
 nd:N.Nodup
 pre:N.take P.length=P
 par:∀x∈P,sc.names.lookup x=some .local\/sc.names.lookup x=some .cell
 nofree:∀y∈sc.names,y.2≠.free
theorem WC {B:Str->Option NameKind}{x:Str}:∀{binds:List (Str×Value)}{m:Str->Option Value},(∀v,(x,v) ∉ binds)->bindL B binds m x=m x
 | [],_,_=>rfl
 | (n,v)::r,m,h=>by
  unfold bindL;rw [WC λw D=>h w (Ybm _ D)];split
  ·have:x≠n:=by rintro rfl;exact h v Yaz
   simp [this]
  ·rfl
theorem WD {B:Str->Option NameKind}{x:Str}:∀{binds:List (Str×Value)}{m:Str->Option Value},(∀v,(x,v) ∉ binds)->bindC B binds m x=m x
 | [],_,_=>rfl
 | (n,v)::r,m,h=>by
  unfold bindC;rw [WD λw D=>h w (Ybm _ D)];split
  ·rfl
  ·have:x≠n:=by rintro rfl;exact h v Yaz
   simp [this]
theorem WE {kindOf:Str->Option NameKind}{x:Str}{v:Value}:∀{P:List Str}{vs:List Value}{i:Nat}{m:Str->Option Value},P.Nodup->P[i]?=some x->vs[i]?=some v->kindOf x=some .local ->
  bindL kindOf (P.zip vs) m x=some v
 | [],_,_,_,_,h,_,_=>by simp at h
 | _::_,[],_,_,_,_,h,_=>by simp at h
 | p::P,w::vs,0,m,nd,h1,h2,hk=>by
  simp at h1 h2;subst h1;subst h2;show bindL kindOf ((p,w)::P.zip vs) m p=_;unfold bindL;rw [WC λv hv=>(List.nodup_cons.mp nd).1 (List.of_mem_zip hv).1,if_pos hk];simp
 | p::P,w::vs,i+1,m,nd,h1,h2,hk=>by
  show bindL kindOf ((p,w)::P.zip vs) m x=_;unfold bindL;exact WE (i:=i) (List.nodup_cons.mp nd).2 (by simpa using h1) (by simpa using h2) hk
theorem WF {kindOf:Str->Option NameKind}{x:Str}{v:Value}:∀{P:List Str}{vs:List Value}{i:Nat}{m:Str->Option Value},P.Nodup->P[i]?=some x->vs[i]?=some v->kindOf x≠some .local ->
  bindC kindOf (P.zip vs) m x=some v
 | [],_,_,_,_,h,_,_=>by simp at h
 | _::_,[],_,_,_,_,h,_=>by simp at h
 | p::P,w::vs,0,m,nd,h1,h2,hk=>by
  simp at h1 h2;subst h1;subst h2;show bindC kindOf ((p,w)::P.zip vs) m p=_;unfold bindC;rw [WD λv hv=>(List.nodup_cons.mp nd).1 (List.of_mem_zip hv).1,if_neg hk];simp
 | p::P,w::vs,i+1,m,nd,h1,h2,hk=>by
  show bindC kindOf ((p,w)::P.zip vs) m x=_;unfold bindC;exact WF (i:=i) (List.nodup_cons.mp nd).2 (by simpa using h1) (by simpa using h2) hk
def start (N:List Str)(vs:List V):St:=vs.map some++List.replicate (N.length-vs.length) none
def ZZ (CX:CXT)(P:Program)(w:World)(K:W.Frag)(mg:Str->Option Value)(base:Heap)(N:List Str)(qual:Str)(scope:Scope)(f:Addr)(cd:Value)(A:Around)(outer:List Env)(s:Shared)(H:Hp)(E:XK):Cx where
 prog:=P
 w:=w
 K:=K
 mg:=mg
 base:=base
 A:=A.deeper (envOfC qual scope s.heap.objs.size f cd)
 N:=N
 s₀:=s
 H₀:=H
 env:=envOfC qual scope s.heap.objs.size f cd
 outer:=outer
 stack:=envOfC qual scope s.heap.objs.size f cd::outer
 ex:=[]
 calm:=true
 fn:=λ_=>true
 pn:=[]
 xe:=λe s'=>wpAny (model P w) (A.deeper (envOfC qual scope s.heap.objs.size f cd)) (leaving (envOfC qual scope s.heap.objs.size f cd) e) (λ_ s''=>CX outer H s E e s'') (λe' s''=>CX outer H s E e' s'') s'
theorem Yg {B:Scope}{n:Nat}{x:Str}(h:B.names.lookup x=some .cell):∃c,(cellsFrom n B.names []).lookup x=some c:=by
 have q:=W.cellsFrom_some B.names n [] (.inl h);exact Yeg.mp q
theorem Z0 {CX:CXT}{P:Program}{w:World}{K:W.Frag}{mg:Str->Option Value}{base:Heap}{N ps:List Str}{B:Str}{scope:Scope}{f:Addr}{U:Value}{A:Around}{outer:List Env}{s s1:Shared}{H:Hp}{E:XK}{us:List Value}{vs:List V}(S:Gp N ps scope)(hd:A.handled=none)(D:Zha P w K mg base A outer s H)(hl:vs.length=ps.length)(r:Vals vs us)(x:InCallC s s.heap.objs.size (bindL (envOfC B scope s.heap.objs.size f U).kindOf (ps.zip us) λ_=>none) (cellsFrom (s.heap.objs.size+1) scope.names []) (bindC (envOfC B scope s.heap.objs.size f U).kindOf (ps.zip us) λ_=>none) s1) :
  Inv (ZZ CX P w K mg base N B scope f U A outer s H E) [] (start N vs) H s1:=by
 have aa:ps.length<=N.length:=by have:=Ybb List.length S.pre;rw [Ybn] at this;lia
 obtain ⟨h1,tk,rfl,Y⟩:=x.done;have F:∀b:Addr,b ∉ (ZZ CX P w K mg base N B scope f U A outer s H E).ex:=λb z=>absurd (show b∈([]:List Addr) from z) (by simp);refine ⟨⟨D.mod,S.kind,rfl,rfl,Yac _,λy z c h1 h2=>?_,λy G=>?_,λy c _ h=>?_,λ_=>hd,Around.frames_deeper D.frames,.inr ⟨rfl,rfl⟩,λb z=>absurd z (F b),D.bs,D.bsz,λb _ _=>F b,λb z=>absurd z (F b),D.funs,D.frf⟩,
  rfl,D.bare,Un.kept Y,⟨_,x.toInCall.ns,λi y v h1 h2 h3=>?_⟩,λy c h=>⟨_,x.cell y c h⟩,D.hok.fresh (Yac _),λy c h=>?_,λp L=>absurd (show p∈([]:List (Addr×Obj)) from L) (by simp),D.hok.kept Y,?_⟩
 ·exact name_of_addr x.apart (Ydn h1) (Ydn h2)
 ·have G:scope.names.lookup y=some .cell\/scope.names.lookup y=some .free:=G;rcases G with G | G
  ·exact Yg G
  ·exact absurd rfl (S.nofree _ (Ydn G))
 ·exact Yds (x.above y c (Ydn h))
 ·have hi:i<vs.length:=by
   unfold start at h2;by_cases hi:i<vs.length
   ·exact hi
   ·rw [Ycs (by simpa using hi)] at h2;rw [List.getElem?_replicate] at h2;split at h2 <;> cases h2
  have ha:vs[i]?=some v:=by
   unfold start at h2;rw [Ydf (by simpa using hi),Yau] at h2;cases e:vs[i]? with
   | none=>rw [e] at h2;cases h2
   | some a=>rw [e] at h2;cases h2;rfl
  obtain ⟨u,Z,rv⟩:=r.get ha;have L:ps[i]?=some y:=by
   rw [<-S.pre,List.getElem?_take_of_lt (by lia)];exact h1
  have O:ps.Nodup:=by rw [<-S.pre];exact S.nd.sublist (List.take_sublist _ _)
  refine ⟨u,rv,?_⟩;rcases S.par y (Ybs L) with k | k
  ·exact .inl ⟨k,WE O L Z k⟩
  ·obtain ⟨c,e⟩:=Yg (n:=s.heap.objs.size+1) k;refine .inr ⟨.inl k,c,e,?_⟩;have q:=x.cell y c e;rw [WF O L Z (by show scope.names.lookup y≠_;rw [k];decide)] at q;exact q
 ·exact D.hok.fresh (Yds (x.above y c (Ydn h)))
 ·unfold start;show _=N.length;rw [Yan,Yaa,Ydy]
  lia
theorem ZdZ {CX:CXT}{P:Program}{w:World}{K:W.Frag}{mg:Str->Option Value}{base:Heap}{k:Nat}{f:Addr}{name B:Str}{F:Arguments}{body:List Stmt}{scope:Scope}{dV kV O pm D ct oc:Value}{an od:Option Addr}{aa:Array (Option Value)}{N ps:List Str}{sp:Sp}(lk:K.lookup f=some ⟨oc,od,.func (W.fnOf name B F body scope dV kV O pm an D ct),aa⟩)(ab:W.codeIn K D B=true)(S:Gp N ps scope)(len:∀vs H Q E,sp vs H Q E->vs.length=ps.length)(qG:∀(A:Around)(outer:List Env)(s:Shared)(H:Hp)(vs:List V)(Q:VK)(E:XK),Room k (A.deeper (envOfC B scope s.heap.objs.size f D))->sp vs H Q E ->
   ∃t,PSs (ZZ CX P w K mg base N B scope f D A outer s H E) body t/\t { nx:=λ_ H'=>Q .non H',rt:=Q } (start N vs) H) :
  GJ P w K mg base CX (k+1) f (W.fnOf name B F body scope dV kV O pm an D ct) ps sp:=by
 refine ⟨len,λA outer s H ad us vs Q E hr U hb r Y=>?_⟩;have hl:=len _ _ _ _ Y;have KX:K.In s.heap:=U.mod.kin.keeps λb o e=>(U.bs b o e).1;have ac:s.heap.NoLimit:=U.mod.nolimit.keeps λb o e=>(U.bs b o e).1;have G:∀y∈ps.zip us,scope.names.lookup y.1=some .local\/(scope.names.lookup y.1=some .cell/\((cellsFrom (s.heap.objs.size+1) scope.names []).lookup y.1).isSome=true):=λ⟨n,v⟩ hy=>by
  rcases S.par n (List.of_mem_zip hy).1 with q | q
  ·exact .inl q
  ·exact .inr ⟨q,W.cellsFrom_some _ _ _ (.inl q)⟩
 refine codeAny_call_function hr.depth (KX _ _ lk) rfl S.co S.gen rfl (W.codeRec_of KX ab) (hb _ _ _ _ ?_);refine wpAny_newFunctionEnv_cells S.kind G λae he s1 x=>?_;subst he;refine ⟨ac.keeps x.toInCall.keep,codeAny_func ?_⟩;obtain ⟨t,ht,hq⟩:=qG A outer s H vs Q E (hr.deeper _) Y;have I:Inv (ZZ CX P w K mg base N B scope f D A outer s H E) [] (start N vs) H s1:=Z0 S hr.hd U hl r x;refine Yci (ht [] s1 (start N vs) H _ I hq) (λfl s' L=>?_) λe s' L=>L;have fin:∀{Z:St}{H':Hp}{v:V}{u:Value},Inv (ZZ CX P w K mg base N B scope f D A outer s H E) [] Z H' s'->RelV v u->Q v H'->CE outer P w H s Q u s':=
  λ{Z H' v u} J rv q=>⟨v,H',J.os,J.bare,J.base,J.hok,rv,q⟩
 cases fl with
 | ret u=>
  obtain ⟨v,Z,H',J,rv,q⟩:=L;exact fin J rv q
 | next=>
  obtain ⟨Z,H',J,q⟩:=L;exact fin (v:=V.non) (u:=Value.none) J rfl q
 | brk=>
  obtain ⟨_,_,_,q⟩:=L;exact False.elim q
 | cont=>
  obtain ⟨_,_,_,q⟩:=L;exact False.elim q
section
variable {X:Cx}{x:Str}{p pos:Pos}{e:Expr}{es:List Expr}{t:TA}{id T:String}{r:List V->Hp->VK->Prop}
def tCB (r:List V->Hp->VK->Prop)(t:TA):TE:=λσ H Q=>t σ H λvs H1=>r vs H1 Q
theorem Gu (F:JE X (.builtin id) r)(G:Gl X x)(L:X.mg x=none)(N:bootBuiltins x=some (.builtin id))(O:PA X (e::es) t)(U:x ≠ "__name__" := by decide)(B:(x == ("__debug__" : Str))=false:=by decide)(Y:starEach (e::es) X.env=(false,eval e X.env)::starEach es X.env:=by rfl)(D:(backTo pos (starEach es X.env)).any (·.1)=false:=by rfl):PE X (.Call (.Name x p) (e::es) [] pos) (tCB r t):=by
 intro qQ s σ H Q I h;refine Yeq (OR I G L N ?_ U B);exact PyProof.Rows.callWith_builtin1 (thn (O pos qQ s σ H _ I h) λus s1 ⟨vs,H1,Z,r1,q1⟩=>F qQ s1 σ H1 vs us Q Z r1 q1) Y D
theorem Jk (F:JE X (.type T) r)(G:Gl X x)(L:X.mg x=none)(N:bootBuiltins x=some (.type T))(O:PA X (e::es) t)(U:x ≠ "__name__" := by decide)(B:(x == ("__debug__" : Str))=false:=by decide)(Y:starEach (e::es) X.env=(false,eval e X.env)::starEach es X.env:=by rfl)(D:(backTo pos (starEach es X.env)).any (·.1)=false:=by rfl):PE X (.Call (.Name x p) (e::es) [] pos) (tCB r t):=by
 intro qQ s σ H Q I h;refine Yeq (OR I G L N ?_ U B);exact Yep (thn (O pos qQ s σ H _ I h) λus s1 ⟨vs,H1,Z,r1,q1⟩=>F qQ s1 σ H1 vs us Q Z r1 q1) Y D
end
end L2
namespace HT
open PySem PyProof.Rows
section
variable {prog:Program}{w:World}{A:Around}{E:Value->Shared->Prop}{s:Shared}
def sIx (n d:Nat):Option Int->Nat
 | none=>d
 | some v=>if v<0 then (v+(n:Int)).toNat else min v.toNat n
theorem sIx_none (n d:Nat):sIx n d none=d:=rfl
theorem sIx_nat (n d k:Nat):sIx n d (some (k:Int))=min k n:=by
 show (if (k:Int)<0 then ((k:Int)+(n:Int)).toNat else min (k:Int).toNat n)=min k n;rw [if_neg (by lia),Ybu]
end
end HT
namespace L2
open PySem PySem.Spec PyProof.Rows
abbrev TO:=St->Hp->(Option Int->Hp->Prop)->Prop
def PO (X:Cx)(e:Option Expr)(t:TO):Prop:=
 ∀(qQ:List (Addr×Obj))(s:Shared)(σ:St)(H:Hp)(Q:Option Int->Hp->Prop),Inv X qQ σ H s->t σ H Q ->
  wpAny (model X.prog X.w) X.A (evalPart e X.env) (λu s'=>∃o H',Inv X qQ σ H' s'/\IsPart u o/\Q o H') X.xe s
def Zd0:TO:=λ_ H Q=>Q none H
def Zht (t:TE):TO:=λσ H Q=>t σ H λx H1=>∃i,x=.int i/\Q (some i) H1
theorem Uf {ns:List Int}:∀{us:List Value},Vals (ns.map V.int) us->IntsAre us ns:=by
 induction ns with
 | nil=>intro us r;rw [List.map_nil] at r;cases r;exact .nil
 | cons n ns ih=>
  intro us r;rw [Yat] at r;cases r with
  | cons r1 r2=>
   obtain ⟨t,e⟩:=r1;subst e;exact .cons n t (ih r2)
section
variable {X:Cx}{e:Expr}{te:TE}{lo hi:Option Expr}{tl th:TO}{pos p2:Pos}
theorem UX:PO X none Zd0:=by
 intro qQ s σ H Q I h;rw [evalPart_none];exact Yag ⟨none,H,I,.none,h⟩
theorem OG (h:PE X e te):PO X (some e) (Zht te):=by
 intro qQ s σ H Q I B;rw [evalPart_some];refine thn (h qQ s σ H _ I B) λu s1 ⟨x,H1,D,r1,q1⟩=>?_;obtain ⟨i,rfl,q⟩:=q1;obtain ⟨t,rfl⟩:=r1;exact ⟨some i,H1,D,.int i t,q⟩
def SlR (X:Cx)(r:V->Option Int->Option Int->Hp->VK->Prop):Prop:=
 ∀(qQ:List (Addr×Obj))(s:Shared)(σ:St)(H:Hp)(x:V)(v vl vu:Value)(lo hi:Option Int)(sl:Addr)(Q:VK),Inv X qQ σ H s->RelV x v->s.heap.IsSliceOf sl vl vu .none->IsPart vl lo->IsPart vu hi->r x lo hi H Q ->
  ∃T id,typeLookup (.type T) "__getitem__" = pure (some (.builtin id))/\s.TypeIs v T/\wpAny (model X.prog X.w) X.A (getItem v (.ref sl)) (EP X qQ σ Q) X.xe s
def tSl (r:V->Option Int->Option Int->Hp->VK->Prop)(te:TE)(tl th:TO):TE:=λσ H Q=>te σ H λx H1=>tl σ H1 λl H2=>th σ H2 λu B=>r x l u B Q
theorem Oj {r:V->Option Int->Option Int->Hp->VK->Prop}(L:SlR X r)(N:PE X e te)(O:PO X lo tl)(U:PO X hi th):PE X (.Subscript e (.Slice lo hi none p2) pos) (tSl r te tl th):=by
 intro qQ s σ H Q I h;refine Subscript_ (thn (N qQ s σ H _ I h) λv s1 ⟨x,H1,Y,r1,q1⟩=>?_);refine wpAny_Slice (thn (O qQ s1 σ H1 _ Y q1) λD Z ⟨l,H2,I2,pl,q2⟩=>thn (U qQ Z σ H2 _ I2 q2) λF B ⟨u,G,I3,pu,q3⟩=>?_);rw [evalPart_none];refine Yag ?_;have I4:Inv X qQ σ G { B with heap:=B.heap.push { cls:=.type "slice", data:=.fields #[D,F,.none] } }:=I3.kept (t':=B.toks) λb ob q=>Yao _ q;obtain ⟨T,id,hT,ht,hg⟩:=L qQ { B with heap:=B.heap.push { cls:=.type "slice", data:=.fields #[D,F,.none] } } σ G x v D F l u B.heap.objs.size Q I4 r1 (Heap.IsSliceOf.new ..) pl pu q3;show wpAny (model X.prog X.w) X.A (subscriptTail e (.Slice lo hi none p2) v (.ref B.heap.objs.size)) (EP X qQ σ Q) X.xe { B with heap:=B.heap.push { cls:=.type "slice", data:=.fields #[D,F,.none] } };exact tail_any (ops:=[.ref B.heap.objs.size,v]) ht hT hg (by with_unfolding_all rfl)
def WG (xs:List V)(lo hi:Option Int):List V:=(xs.drop (HT.sIx xs.length 0 lo)).take (HT.sIx xs.length xs.length hi-HT.sIx xs.length 0 lo)
theorem UY (xs:List V)(lo hi:Option Int):(WG xs lo hi).length<=xs.length:=by
 unfold WG;rw [Ybn,Yct]
 lia
end
def ixN (n:Nat)(i:Int):Option Nat:=if 0<=i then (if i<n then some i.toNat else none) else if -(n:Int)<=i then some (i+n).toNat else none
def atI {α:Type}(xs:List α)(i:Int):Option α:=(ixN xs.length i).bind λj=>xs[j]?
theorem Z1 {n:Nat}{i:Int}{j:Nat}(h:ixN n i=some j):seqIndex? i n=some j/\j<n/\-(n:Int)<=i/\i<n:=by
 unfold ixN at h;by_cases h0:0<=i
 ·rw [if_pos h0] at h;by_cases h1:i<n
  ·rw [if_pos h1] at h;have e:i.toNat=j:=Yaw h;exact ⟨by rw [seqIndex_of h0 h1,e],by lia,by lia,h1⟩
  ·rw [if_neg h1] at h;cases h
 ·rw [if_neg h0] at h;by_cases h1:-(n:Int)<=i
  ·rw [if_pos h1] at h;have e:(i+n).toNat=j:=Yaw h;exact ⟨by rw [seqIndex_neg (by lia) h1,e],by lia,h1,by lia⟩
  ·rw [if_neg h1] at h;cases h
theorem Xz {α:Type}{xs:List α}{i:Int}{v:α}(h:atI xs i=some v):∃j,seqIndex? i xs.length=some j/\xs[j]?=some v/\j<xs.length/\-(xs.length:Int)<=i/\i<xs.length:=by
 unfold atI at h;cases e:ixN xs.length i with
 | none=>rw [e] at h;cases h
 | some j=>
  rw [e] at h;obtain ⟨h1,h2,B,D⟩:=Z1 e;exact ⟨j,h1,h,h2,B,D⟩
theorem GD {α:Type}{xs:List α}{j:Nat}{v:α}(h:xs[j]?=some v):atI xs (j:Int)=some v:=by
 have B:j<xs.length:=(Ybf.mp h).1;have e:ixN xs.length (j:Int)=some j:=by
  unfold ixN;rw [if_pos (by lia),if_pos (by lia)];simp
 unfold atI;rw [e];exact h
def Zd1 (b:Expr):Prop:=∀o i,subscripted b false o i=operate [o,i] (getItem o i)
def IxR (X:Cx)(r:R2):Prop:=
 ∀(value B:Expr)(qQ:List (Addr×Obj))(s:Shared)(σ:St)(H:Hp)(x y:V)(v u:Value)(Q:VK),Inv X qQ σ H s->RelV x v->RelV y u->r x y H Q ->
  subscripted B false v u=operate [v,u] (getItem v u)->wpAny (model X.prog X.w) X.A (subscriptTail value B v u) (EP X qQ σ Q) X.xe s
def MtR (X:Cx)(id:String)(r:V->List V->Hp->VK->Prop):Prop:=
 ∀(qQ:List (Addr×Obj))(s:Shared)(σ:St)(H:Hp)(x:V)(xs:List V)(v:Value)(us:List Value)(Q:VK),Inv X qQ σ H s->RelV x v->Vals xs us->r x xs H Q ->
  wpAny (model X.prog X.w) X.A (call (.builtin id) (v::us)) (EP X qQ σ Q) X.xe s
section
variable {X:Cx}{a b:Expr}{ta tb:TE}{pos:Pos}
theorem GE {r:R2}(B:IxR X r)(D:PE X a ta)(F:PE X b tb)(G:Zd1 b):PE X (.Subscript a b pos) (tOp r ta tb):=by
 intro qQ s σ H Q I h;exact Subscript_ (Zhq D F I h λv u L x y H2 N O U q=>B a b qQ L σ H2 x y v u Q N O U q (G _ _))
def Ziq (K:W.Frag):R2:=λx y H Q=>∃p xs i v,x=.ref p/\y=.int i/\SqL K H p xs/\atI xs i=some v/\Q v H
def Zir (K:W.Frag):R2:=λx y H Q=>∃p xs i v,x=.ref p/\y=.int i/\SqT K H p xs/\atI xs i=some v/\Q v H
def Zi5:R2:=λx y H Q=>∃z i c,x=.str z/\y=.int i/\z.length<=sizeLine/\atI z.cps.toList i=some c/\Q (.str ⟨#[c]⟩) H
theorem Zd2:IxR X (Ziq X.K):=by
 intro value B qQ s σ H x y v u Q I O U h L;obtain ⟨p,xs,i,z,rfl,rfl,Y,Z,q⟩:=h;cases O;obtain ⟨t,rfl⟩:=U;obtain ⟨D,r,pl,hz⟩:=I.list Y;obtain ⟨j,h1,h2,h3,h4,h5⟩:=Xz Z;obtain ⟨w,N,F⟩:=r.get h2;have hl:=r.length;have hn:=Us;have fin:EP X qQ σ Q w s:=⟨z,H,I,F,q⟩;by_cases h0:0<=i
 ·have G:i.toNat=j:=by
   rw [seqIndex_of h0 h5] at h1;exact Yaw h1
  exact item_listR pl.isList h0 (by lia) (by rw [G];simpa using N) fin L
 ·have G:(i+(D.toArray.size:Int)).toNat=j:=by
   rw [seqIndex_neg (by lia) h4] at h1;rw [Ybd,<-hl];exact Yaw h1
  exact subscriptTail_builtinR (x:=w) pl.isList.typeIs slot_list_getitem.lookup
   (wpAny_getItem_list_neg (Q:=λr s'=>r=w/\EP X qQ σ Q r s') pl.isList (by lia) (by rw [Ybd] <;> lia) (by lia) (by rw [G];simpa using N) ⟨rfl,fin⟩) L
theorem Zfx:IxR X (Zir X.K):=by
 intro value B qQ s σ H x y v u Q I F G h L;obtain ⟨p,xs,i,z,rfl,rfl,N,O,q⟩:=h;cases F;obtain ⟨t,rfl⟩:=G;obtain ⟨U,r,pl,hz⟩:=I.tuple N;obtain ⟨j,h1,h2,h3,h4,h5⟩:=Xz O;obtain ⟨w,Y,D⟩:=r.get h2;have Z:=r.length;have hn:=Us;have fin:EP X qQ σ Q w s:=⟨z,H,I,D,q⟩;exact subscriptTail_builtinR (x:=w) pl.typeIs slot_tuple_getitem.lookup
  (getItem_tuple (j:=j) (Q:=λr s'=>r=w/\EP X qQ σ Q r s') pl (by lia) (by lia) (by rw [Ybd,<-Z];exact h1) (by simpa using Y) ⟨rfl,fin⟩) L
theorem Zfy:IxR X Zi5:=by
 intro value B qQ s σ H x y v u Q I D F h G;obtain ⟨z,i,c,rfl,rfl,hz,L,q⟩:=h;obtain ⟨t,rfl⟩:=D;obtain ⟨t',rfl⟩:=F;obtain ⟨j,h1,h2,h3,N,O⟩:=Xz L;have U:z.cps.toList.length=z.length:=by simp [Str.length]
 rw [U] at h1 N O;have hn:=Us;exact tail_any (typeIs_str s z t) slot_str_getitem.lookup (getItem_str (c:=c) (by
  have Y:decide (i < -(2 ^ 63:Int))=false:=Yak (by lia);have Z:decide (i>=2 ^ 63)=false:=Yak (by lia);rw [Y,Z,Bool.or_false]) (by rw [h1];simpa using h2) ⟨.str ⟨#[c]⟩,H,I.tok _,⟨_,rfl⟩,q⟩) G
theorem Za (its:List Value)(n j:Nat)(u:Value):Obj.mapSeq (·.setIfInBounds j u) { cls:=.type "list", data:=.seq its.toArray n }={ cls:=.type "list", data:=.seq (its.set j u).toArray n }:=by
 simp [Obj.mapSeq]
theorem Inv.lst {qQ:List (Addr×Obj)}{σ:St}{H:Hp}{s:Shared}{p:Addr}{xs:List V}(I:Inv X qQ σ H s)(h:H p=some (.lst xs)) :
  ∃(B:List Value)(n:Nat),Vals xs B/\s.heap.get? p=some { cls:=.type "list", data:=.seq B.toArray n }/\xs.length<=sizeLine:=by
 obtain ⟨z,B,n,r,e⟩:=I.hok p _ h;exact ⟨B,n,r,e,z⟩
theorem Inv.lstUpd {qQ:List (Addr×Obj)}{σ:St}{H:Hp}{s:Shared}{p:Addr}{xs ys:List V}{its its':List Value}{n B:Nat}{f:Obj->Obj}(I:Inv X qQ σ H s)(h:H p=some (.lst xs))(F:s.heap.get? p=some { cls:=.type "list", data:=.seq its.toArray n })(D:f { cls:=.type "list", data:=.seq its.toArray n }={ cls:=.type "list", data:=.seq its'.toArray B })(r:Vals ys its')(hz:ys.length<=sizeLine)(t:Nat) :
  Inv X qQ σ (upd H p (.lst ys)) { s with heap:=s.heap.update p f,toks:=t }:=by
 have e:(s.heap.update p f).get? p=some { cls:=.type "list", data:=.seq its'.toArray B }:=by
  rw [Yck f F (by rw [D] <;> rfl),D]
 refine I.write (x:=p) (e:=p) (by rw [h];trivial) (.inl rfl) (λb u G q=>(Ycy _ _ (Ne.symm G)).trans q) ⟨_,e⟩ ?_;exact ⟨hz,its',B,r,e⟩
def Zhu:V->V->V->Hp->(Hp->Prop)->Prop:=λo i v H Q=>∃p xs k j,o=.ref p/\i=.int k/\H p=some (.lst xs)/\ixN xs.length k=some j/\Q (upd H p (.lst (xs.set j v)))
theorem Ol:Zii X Zhu:=by
 intro qQ s σ H o i v ov iv u Q I Y Z rv h;obtain ⟨p,xs,k,j,rfl,rfl,L,hj,q⟩:=h;cases Y;obtain ⟨t,rfl⟩:=Z;obtain ⟨B,n,r,D,hz⟩:=I.lst L;obtain ⟨h1,h2,N,O⟩:=Z1 hj;have F:=r.length;have hn:=Us;have U:Inv X qQ σ (upd H p (.lst (xs.set j v))) { s with heap:=s.heap.update p (Obj.mapSeq (·.setIfInBounds j u)) }:=
  I.lstUpd L D (Za B n j u) (r.set rv j) (by rw [List.length_set];exact hz) s.toks
 by_cases h0:0<=k
 ·have G:k.toNat=j:=by
   rw [seqIndex_of h0 O] at h1;exact Yaw h1
  exact W.ki_setAt D h0 (by lia) (by rw [Ybd,<-F];exact O) (by rw [G];exact ⟨_,U,q⟩)
 ·have G:(k+(B.toArray.size:Int)).toNat=j:=by
   rw [seqIndex_neg (by lia) N] at h1;rw [Ybd,<-F];exact Yaw h1
  exact W.ki_setBack D (by lia) (by rw [Ybd,<-F];exact N) (by lia) (by rw [G];exact ⟨_,U,q⟩)
theorem WH (lo hi:Option Int)(n:Nat):(sliceBounds lo hi none n).1=((HT.sIx n 0 lo:Nat):Int)/\(sliceBounds lo hi none n).2.1=((HT.sIx n n hi:Nat):Int)/\(sliceBounds lo hi none n).2.2=1:=by
 refine ⟨?_,?_,rfl⟩
 ·cases lo with
  | none=>simp [sliceBounds,HT.sIx]
  | some i=>
   simp only [sliceBounds,HT.sIx,Option.getD_none,show (1:Int) > 0 by decide,if_true];by_cases h:i<0
   ·simp only [h,if_true] <;> lia
   ·simp only [h,Ycz] <;> lia
 ·cases hi with
  | none=>simp [sliceBounds,HT.sIx]
  | some i=>
   simp only [sliceBounds,HT.sIx,Option.getD_none,show (1:Int) > 0 by decide,if_true];by_cases h:i<0
   ·simp only [h,if_true] <;> lia
   ·simp only [h,Ycz] <;> lia
theorem VT (its:List Value)(lo hi:Option Int):slicePick its.toArray lo hi none=((its.drop (HT.sIx its.length 0 lo)).take (HT.sIx its.length its.length hi-HT.sIx its.length 0 lo)).toArray:=by
 obtain ⟨h1,h2,B⟩:=WH lo hi its.toArray.size;unfold slicePick;rw [h1,h2,B];simp only [sliceRange_one,pick_run,Ybd] <;> rfl
def Zis (K:W.Frag):V->Option Int->Option Int->Hp->VK->Prop:=λx lo hi H Q=>∃a xs,x=.ref a/\SqL K H a xs/\∀p,H p=none->Q (.ref p) (upd H p (.lst (WG xs lo hi)))
theorem Zd3:SlR X (Zis X.K):=by
 intro qQ s σ H x v Y Z lo hi sl Q I D F pl G h;obtain ⟨a,xs,rfl,L,q⟩:=h;cases D;obtain ⟨N,r,B,O⟩:=I.list L;have U:=r.length;refine ⟨"list", _,slot_list_getitem.lookup,B.isList.typeIs,?_⟩;refine wpAny_getItem_list_slice B.isList F pl G .none (by simp) ?_ (by rw [Ybd] <;> lia);rw [VT,<-U];refine ⟨.ref s.heap.objs.size,_,I.laid (t':=s.toks) (o:=.lst (WG xs lo hi)) (λb ob q=>Yao _ q) (Yac _) ?_,rfl,q _ (I.hok.fresh (Yac _))⟩;exact ⟨Ycc (UY xs lo hi) O,_,0,(r.drop (HT.sIx xs.length 0 lo)).take (HT.sIx xs.length xs.length hi-HT.sIx xs.length 0 lo),Ybh _ rfl⟩
def Vr:V->Bool
 | .non=>true
 | .bl _=>true
 | .int _=>true
 | .str _=>true
 | _=>false
def eqV:V->V->Bool
 | .non,.non=>true
 | .bl a,.bl b=>a == b
 | .bl a,.int b=>(if a then 1 else 0) == b
 | .int a,.bl b=>a == (if b then 1 else 0)
 | .int a,.int b=>a == b
 | .str a,.str b=>a == b
 | _,_=>false
theorem Zfz {A:Around}{s:Shared}{y x:V}{u v:Value}(F:RelV y u)(B:RelV x v)(L:Vr y=true)(G:Vr x=true):SeqAt.EqAt A s u v (eqV y x):=by
 cases y with
 | non=>
  cases F;cases x with
  | non=>cases B;exact SeqAt.EqAt.same _
  | bl b=>cases B;exact SeqAt.EqAt.none_bool b
  | int b=>obtain ⟨t,rfl⟩:=B;exact SeqAt.EqAt.none_int b t
  | str b=>obtain ⟨t,rfl⟩:=B;exact SeqAt.EqAt.none_str b t
  | _=>exact absurd (show false=true from G) Yax
 | bl a=>
  cases F;cases x with
  | non=>cases B;exact SeqAt.EqAt.bool_none a
  | bl b=>cases B;exact SeqAt.EqAt.bool_bool a b
  | int b=>obtain ⟨t,rfl⟩:=B;exact SeqAt.EqAt.bool_int a b t
  | str b=>obtain ⟨t,rfl⟩:=B;exact SeqAt.EqAt.bool_str a b t
  | _=>exact absurd (show false=true from G) Yax
 | int a=>
  obtain ⟨D,rfl⟩:=F;cases x with
  | non=>cases B;exact SeqAt.EqAt.int_none a D
  | bl b=>cases B;exact SeqAt.EqAt.int_bool a D b
  | int b=>obtain ⟨t,rfl⟩:=B;exact SeqAt.EqAt.int_int a D b t
  | str b=>obtain ⟨t,rfl⟩:=B;exact SeqAt.EqAt.int_str a D b t
  | _=>exact absurd (show false=true from G) Yax
 | str a=>
  obtain ⟨D,rfl⟩:=F;cases x with
  | non=>cases B;exact SeqAt.EqAt.str_none a D
  | bl b=>cases B;exact SeqAt.EqAt.str_bool a D b
  | int b=>obtain ⟨t,rfl⟩:=B;exact SeqAt.EqAt.str_int a D b t
  | str b=>obtain ⟨t,rfl⟩:=B;exact SeqAt.EqAt.str_str a D b t
  | _=>exact absurd (show false=true from G) Yax
 | _=>exact absurd (show false=true from L) Yax
def eqU (x:V)(u:Value):Bool:=match u with
 | .none=>eqV .non x
 | .bool b=>eqV (.bl b) x
 | .int i _=>eqV (.int i) x
 | .str z _=>eqV (.str z) x
 | _=>false
theorem Zc8 {x y:V}{u:Value}(r:RelV y u)(f:Vr y=true):eqU x u=eqV y x:=by
 cases y with
 | non=>cases r;rfl
 | bl b=>cases r;rfl
 | int i=>obtain ⟨t,rfl⟩:=r;rfl
 | str z=>obtain ⟨t,rfl⟩:=r;rfl
 | _=>exact absurd (show false=true from f) Yax
theorem UZ {x:V}:∀{xs:List V}{us:List Value},Vals xs us->xs.all Vr=true->us.any (eqU x)=xs.any λy=>eqV y x
 | _,_,.nil,_=>rfl
 | y::xs,u::us,.cons r t,f=>by
  rw [List.all_cons,Ycl] at f;rw [List.any_cons,List.any_cons,Zc8 r f.1,UZ t f.2]
theorem OT {A:Around}{s:Shared}{x:V}{v:Value}(rx:RelV x v)(fx:Vr x=true):∀{xs:List V}{us:List Value},Vals xs us->xs.all Vr=true->∀u∈us,SeqAt.EqAt A s u v (eqU x u)
 | _,_,.nil,_=>λu hu=>by cases hu
 | y::xs,u::us,.cons r t,f=>λu' hu=>by
  rw [List.all_cons,Ycl] at f;rcases Yar.mp hu with rfl | hu
  ·rw [Zc8 r f.1];exact Zfz r rx f.1 fx
  ·exact OT rx fx t f.2 u' hu
def inV (x:V)(xs:List V):Bool:=xs.any λy=>eqV y x
def rIn (K:W.Frag)(B:Bool):R2:=λx y H Q=>∃p xs,y=.ref p/\(SqL K H p xs\/SqT K H p xs)/\Vr x=true/\xs.all Vr=true/\Q (.bl (if B then !inV x xs else inV x xs)) H
theorem Z3:OpR X (compareOp .In) (rIn X.K false):=by
 intro qQ s σ H x y v u Q I G N h;obtain ⟨p,xs,rfl,D,L,fs,q⟩:=h;cases N;rcases D with D | D
 ·obtain ⟨B,r,pl,O⟩:=I.list D;refine SeqAt.in_listAt (eqU x) pl.isList (λw F=>OT G L r fs w (by simpa using F)) ⟨.bl _,H,I,rfl,?_⟩;rw [show B.toArray.any (eqU x)=B.any (eqU x) by simp,UZ r fs];exact q
 ·obtain ⟨B,r,pl,O⟩:=I.tuple D;refine SeqAt.in_tupleAt (eqU x) pl (λw F=>OT G L r fs w (by simpa using F)) ⟨.bl _,H,I,rfl,?_⟩;rw [show B.toArray.any (eqU x)=B.any (eqU x) by simp,UZ r fs];exact q
theorem WI:OpR X (compareOp .NotIn) (rIn X.K true):=by
 intro qQ s σ H x y v u Q I G N h;obtain ⟨p,xs,rfl,D,L,fs,q⟩:=h;cases N;rcases D with D | D
 ·obtain ⟨B,r,pl,O⟩:=I.list D;refine SeqAt.notIn_listAt (eqU x) pl.isList (λw F=>OT G L r fs w (by simpa using F)) ⟨.bl _,H,I,rfl,?_⟩;rw [show B.toArray.any (eqU x)=B.any (eqU x) by simp,UZ r fs];exact q
 ·obtain ⟨B,r,pl,O⟩:=I.tuple D;refine SeqAt.notIn_tupleAt (eqU x) pl (λw F=>OT G L r fs w (by simpa using F)) ⟨.bl _,H,I,rfl,?_⟩;rw [show B.toArray.any (eqU x)=B.any (eqU x) by simp,UZ r fs];exact q
theorem WJ:JE X (.builtin "len") (λxs H Q=>∃p ys,xs=[.ref p]/\(SqL X.K H p ys\/SqT X.K H p ys)/\Q (.int ys.length) H):=by
 intro qQ s σ H xs us Q I r h;obtain ⟨p,ys,rfl,B,q⟩:=h;obtain ⟨u,rfl,L⟩:=ZS r;cases L;have O:=Us;rcases B with B | B
 ·obtain ⟨D,F,pl,N⟩:=I.list B;have G:=F.length;exact Calls.call_len_list pl.isList (by simp only [Ybd] <;> lia) ⟨.int ys.length,H,I.tok _,⟨s.toks+1,by rw [Ybd,G]⟩,q⟩
 ·obtain ⟨D,F,pl,N⟩:=I.tuple B;have G:=F.length;exact len_tuple pl (by simp only [Ybd] <;> lia) ⟨.int ys.length,H,I.tok _,⟨s.toks+1,by rw [Ybd,G]⟩,q⟩
theorem WK:JE X (.type "list") (λxs H Q=>∃p ys,xs=[.ref p]/\(SqL X.K H p ys\/SqT X.K H p ys)/\∀l,H l=none->Q (.ref l) (upd H l (.lst ys))):=by
 intro qQ s σ H xs us Q I r h;obtain ⟨p,ys,rfl,G,q⟩:=h;obtain ⟨u,rfl,Z⟩:=ZS r;cases Z;have fin:∀(B:List Value),Vals ys B->ys.length<=sizeLine->∀(h':Heap)(D:Nat),(∀b o',s.heap.get? b=some o'->h'.get? b=some o') ->
   h'.get? s.heap.objs.size=some { cls:=.type "list", dict:=none,data:=.seq B.toArray D,slots:=#[] }->EP X qQ σ Q (.ref s.heap.objs.size) { s with heap:=h' }:=λB F L h' D N e=>
  ⟨.ref s.heap.objs.size,_,I.laid (t':=s.toks) N (Yac _) (show ObjOk X.prog X.w _ h' _ (.lst ys) from ⟨L,B,D,F,e⟩),rfl,q _ (I.hok.fresh (Yac _))⟩
 rcases G with G | G
 ·obtain ⟨B,F,pl,L⟩:=I.list G;have qV:=F.length;obtain ⟨o,O,U,n,Y⟩:=pl.isList;exact call_list_seq p (.inl rfl) O U Y (λh' D N e=>fin B F L h' D N e) (by simp only [Ybd] <;> lia)
 ·obtain ⟨B,F,pl,L⟩:=I.tuple G;have qV:=F.length;obtain ⟨o,O,U,n,Y⟩:=pl;exact call_list_seq p (.inr rfl) O U Y (λh' D N e=>fin B F L h' D N e) (by simp only [Ybd] <;> lia)
theorem VU:JE X (.type "tuple") (λxs H Q=>∃p ys,xs=[.ref p]/\((SqL X.K H p ys/\∀l,H l=none->Q (.ref l) (upd H l (.tup ys)))\/(SqT X.K H p ys/\Q (.ref p) H))):=by
 intro qQ s σ H xs us Q I r h;obtain ⟨p,ys,rfl,h⟩:=h;obtain ⟨u,rfl,N⟩:=ZS r;cases N;rcases h with ⟨D,q⟩ | ⟨D,q⟩
 ·obtain ⟨B,F,pl,G⟩:=I.list D;have Y:=F.length;refine call_tuple_list pl.isList (λh' O=>?_) (by simp only [Ybd] <;> lia);have L:Inv X qQ σ H { s with heap:=h' }:=I.kept (t':=s.toks) O;have U:Inv X qQ σ (upd H h'.objs.size (.tup ys)) { s with heap:=h'.push { cls:=.type "tuple", data:=.seq B.toArray } }:=
   L.laid (t':=s.toks) (λb o e=>Yao _ e) (Yac _) (show ObjOk X.prog X.w _ _ _ (.tup ys) from ⟨G,B,F,IsTup.new _ _⟩)
  exact ⟨.ref h'.objs.size,_,U,rfl,q _ (L.hok.fresh (Yac _))⟩
 ·obtain ⟨B,F,pl,G⟩:=I.tuple D;exact call_tuple_same pl ⟨.ref p,H,I,rfl,q⟩
def tyV (K:W.Frag)(T:String)(x:V)(H:Hp):Prop:=match x with
 | .str _=>T = "str"
 | .int _=>T = "int"
 | .ref p=>(T = "list" /\ ∃xs,SqL K H p xs)\/(T = "tuple" /\ ∃o,K.lookup p=some o/\o.cls=.type "tuple" /\ o.dict=none) \/
   (T = "dict" /\ ((∃kvs,H p=some (.dK kvs))\/∃kvs,H p=some (.dT kvs)))\/(T = "set" /\ ∃S n,H p=some (.set S n))
 | _=>False
theorem ZfA {qQ:List (Addr×Obj)}{σ:St}{H:Hp}{s:Shared}{T:String}{x:V}{v:Value}(I:Inv X qQ σ H s)(r:RelV x v)(ty:tyV X.K T x H) :
  s.TypeIs v T/\∀a,v=.ref a->∃G,s.heap.get? a=some G/\G.dict=none:=by
 cases x with
 | str z=>
  obtain ⟨t,rfl⟩:=r;cases (show T = "str" from ty);exact ⟨typeIs_str s z t,λ_ e=>nomatch e⟩
 | int i=>
  obtain ⟨t,rfl⟩:=r;cases (show T = "int" from ty);exact ⟨typeIs_int s i t,λ_ e=>nomatch e⟩
 | ref p=>
  cases r;rcases ty with ⟨rfl,xs,L⟩ | ⟨rfl,o,B,N,D⟩ | ⟨rfl,B⟩ | ⟨rfl,S,n,B⟩
  ·obtain ⟨O,_,pl,_⟩:=I.list L;refine ⟨pl.isList.typeIs,λa e=>?_⟩;cases e;obtain ⟨o,n,e,c,D,_⟩:=pl;exact ⟨o,e,D⟩
  ·refine ⟨⟨o,I.kIn p o B,N⟩,λa e=>?_⟩;cases e;exact ⟨o,I.kIn _ o B,D⟩
  ·have z:∃o,s.heap.get? p=some o/\o.ExactDict:=by
    rcases B with ⟨kvs,B⟩ | ⟨kvs,B⟩
    ·obtain ⟨_,_,_,_,o,_,_,e,ex,_⟩:=I.hok p _ B;exact ⟨o,e,ex⟩
    ·obtain ⟨_,_,_,_,o,_,_,e,ex,_⟩:=I.hok p _ B;exact ⟨o,e,ex⟩
   obtain ⟨o,e,ex⟩:=z;refine ⟨⟨o,e,ex.1⟩,λa F=>?_⟩;cases F;exact ⟨o,e,ex.2.1⟩
  ·obtain ⟨o,_,_,_,e,ex,_⟩:=I.hok p _ B;refine ⟨⟨o,e,ex.1⟩,λa F=>?_⟩;cases F;exact ⟨o,e,ex.2.1⟩
 | _=>exact False.elim ty
def tBM (K:W.Frag)(T:String)(r:V->List V->Hp->VK->Prop)(to:TE)(t:TA):TE:=λσ H Q=>to σ H λx H1=>tyV K T x H1/\t σ H1 λxs H2=>r x xs H2 Q
variable {o e:Expr}{es:List Expr}{to:TE}{t:TA}{name:Str}{apos qK:Pos}{T id:String}{r:V->List V->Hp->VK->Prop}
theorem OU (Y:PlainAttrs T)(G:Slot T name id)(N:typeOf (.builtin id)=pure (.type "method_descriptor"))(Z:MtR X id r)(ho:PE X o to)(ha:PA X (e::es) t)(D:attributeBase o name X.env (eval o X.env)=eval o X.env:=by rfl)(L:((backTo qK (starEach (e::es) X.env)).all (λx=>!x.1) && (backToKw qK (keywordEach [] X.env)).all (λx=>x.1.isSome)
   && decide ((e::es).length+([]:List Keyword).length+(if ([]:List Keyword).isEmpty then 0 else 1)<30))=true:=by rfl)(F:(apos.endLine == qK.line)=true:=by rfl)(hs:starEach (e::es) X.env=(false,eval e X.env)::starEach es X.env:=by rfl)(B:(backTo qK (starEach es X.env)).any (·.1)=false:=by rfl) :
  PE X (.Call (.Attribute o name apos) (e::es) [] qK) (tBM X.K T r to t):=by
 intro qQ s σ H Q I h;refine wpAny_Call_method_late D L F rfl (thn (ho qQ s σ H _ I h) λv s1 ⟨x,H1,O,r1,ty,q1⟩=>?_);obtain ⟨h1,h2⟩:=ZfA O r1 ty;refine ⟨T,id,Y,G,N,h1,h2,?_⟩;have U:=ha qK qQ s1 σ H1 _ O q1;rw [hs] at U ⊢;refine Calls.callWith_builtin (by show (false || (backTo qK (starEach es X.env)).any (·.1))=false;rw [B] <;> rfl) (Calls.evalArgs_plain ?_);exact thn U λus s2 ⟨vs,H2,I2,r2,q2⟩=>Z qQ s2 σ H2 x vs v us Q I2 r1 r2 q2
end
def MtM (X:Cx)(id:String)(r:V->List V->Hp->VK->Prop):Prop:=
 ∀(qQ:List (Addr×Obj))(s:Shared)(σ:St)(H:Hp)(x:V)(xs:List V)(v:Value)(us:List Value)(Q:VK),Inv X qQ σ H s->RelV x v->Vals xs us->r x xs H Q ->
  wpAny (model X.prog X.w) X.A (call (.builtin id) (v::us)) (EP X qQ σ Q) X.xe s
theorem Vals.one:∀{x:V}{us:List Value},Vals [x] us->∃u,us=[u]/\RelV x u
 | _,_,.cons r .nil=>⟨_,rfl,r⟩
theorem Vals.two:∀{x y:V}{us:List Value},Vals [x,y] us->∃u v,us=[u,v]/\RelV x u/\RelV y v
 | _,_,_,.cons r (.cons q .nil)=>⟨_,_,rfl,r,q⟩
theorem Vals.zero:∀{us:List Value},Vals [] us->us=[]
 | _,.nil=>rfl
theorem Vals.eraseIdx:∀{xs:List V}{us:List Value}(i:Nat),Vals xs us->Vals (xs.eraseIdx i) (us.eraseIdx i)
 | _,_,_,.nil=>.nil
 | _,_,0,.cons _ t=>t
 | _,_,i+1,.cons r t=>.cons r (Vals.eraseIdx i t)
theorem Vals.rep {xs:List V}{us:List Value}(h:Vals xs us):∀k:Nat,Vals (List.replicate k xs).flatten (List.replicate k us).flatten
 | 0=>.nil
 | k+1=>by
  rw [Yda,Yda,List.flatten_cons,List.flatten_cons];exact Vals.append h (Vals.rep h k)
theorem U0 {α:Type}:∀(l:List α)(i:Nat),(l.eraseIdx i).length<=l.length
 | [],_=>Yac _
 | _::_,0=>Nat.le_succ _
 | _::r,i+1=>Nat.succ_le_succ (U0 r i)
theorem WL (its:List Value):∀(k:Nat)(acc:List Value),
  List.foldl (λB D=>B++D) acc.toArray (List.replicate k its.toArray)=(acc++(List.replicate k its).flatten).toArray
 | 0,acc=>by simp
 | k+1,acc=>by
  have e:acc.toArray++its.toArray=(acc++its).toArray:=by simp
  have F:(acc++its)++(List.replicate k its).flatten=acc++(List.replicate (k+1) its).flatten:=by
   rw [Yda,List.flatten_cons,Ybp]
  rw [<-F,<-WL its k (acc++its),<-e,Yda,List.foldl_cons]
section
variable {X:Cx}{qQ:List (Addr×Obj)}{σ:St}{H:Hp}{s:Shared}{l b:Addr}{xs ys zs:List V}
theorem Inv.lset {its its':List Value}{n:Nat}{f:Array Value->Array Value}{t':Nat}(I:Inv X qQ σ H s)(B:H l=some (.lst xs))(e:s.heap.get? l=some { cls:=.type "list", data:=.seq its.toArray n })(D:f its.toArray=its'.toArray)(F:Vals ys its')(hz:ys.length<=sizeLine) :
  Inv X qQ σ (upd H l (.lst ys)) { s with heap:=s.heap.update l (Obj.mapSeq f),toks:=t' }:=by
 have q:=PySem.IsL.update e f;rw [D] at q;refine I.write (x:=l) (e:=l) (by rw [B];exact trivial) (.inl rfl) (λN u G L=>(Ycy s.heap (Obj.mapSeq f) (Ne.symm G)).trans L) ⟨_,q⟩ ?_;exact ⟨hz,its',_,F,q⟩
theorem Inv.lnew {its:List Value}{t':Nat}(I:Inv X qQ σ H s)(B:Vals ys its)(hz:ys.length<=sizeLine) :
  Inv X qQ σ (upd H s.heap.objs.size (.lst ys)) { s with heap:=s.heap.push { cls:=.type "list", data:=.seq its.toArray },toks:=t' }:=
 I.laid (λ_ _ q=>Yao _ q) (Yac _) ⟨hz,its,0,B,Ybh _ rfl⟩
theorem Inv.fresh (I:Inv X qQ σ H s):H s.heap.objs.size=none:=I.hok.fresh (Yac _)
theorem Inv.lstM (I:Inv X qQ σ H s)(D:H l=some (.lst xs)):xs.length<=sizeLine/\∃(B:List Value)(n:Nat),Vals xs B/\xs.length=B.length/\s.heap.get? l=some { cls:=.type "list", data:=.seq B.toArray n }:=by
 obtain ⟨z,B,n,r,e⟩:=I.hok l _ D;exact ⟨z,B,n,r,r.length,e⟩
theorem ZbT {n:Nat}(h:n<=sizeLine):Builtin.List.listTooLong n=false:=by
 unfold Builtin.List.listTooLong;exact Yak (by lia)
end
section
variable {X:Cx}
def VV:V->List V->Hp->VK->Prop:=λx vs H Q=>∃l xs y,x=.ref l/\vs=[y]/\H l=some (.lst xs)/\xs.length<sizeLine/\Q .non (upd H l (.lst (xs++[y])))
theorem G5:MtM X "list.append" VV:=by
 intro qQ s σ H x vs v us Q I G L h;obtain ⟨l,xs,y,rfl,rfl,D,O,q⟩:=h;cases G;obtain ⟨u,rfl,N⟩:=L.one;obtain ⟨z,B,n,r,U,e⟩:=I.lstM D;refine call_meets F.slot_list_append ⟨_,e,rfl⟩ F.entry_list_append (F.args_list_append_2 _ _) (PySem.list_append l B.toArray n u (by rw [Ybd];lia)) ⟨e,?_⟩;refine ⟨.non,_,I.lset (its':=B++[u]) D e (by simp) (r.append (.cons N .nil)) ?_,rfl,q⟩;rw [Yan,Ybl]
 lia
def Zi6:R2:=λx y H Q=>∃l b xs zs,x=.ref l/\y=.ref b/\H l=some (.lst xs)/\H b=some (.lst zs)/\xs.length+zs.length<=sizeLine/\∀p,H p=none->Q (.ref p) (upd H p (.lst (xs++zs)))
theorem Vz:OpR X (binaryOp .Add) Zi6:=by
 intro qQ s σ H x y v u Q I F G h;obtain ⟨l,b,xs,zs,rfl,rfl,L,N,hz,q⟩:=h;cases F;cases G;obtain ⟨z,D,n,r,hl,e⟩:=I.lstM L;obtain ⟨z2,B,n2,O,U,Y⟩:=I.lstM N;refine PySem.P.add_list e Y ?_ (by rw [Ybd,Ybd];lia);have Z:D.toArray++B.toArray=(D++B).toArray:=by simp
 rw [Z];exact ⟨.ref _,_,I.lnew (t':=s.toks) (r.append O) (by rw [Yan];lia),rfl,q _ I.fresh⟩
def Zi7:R2:=λx y H Q=>∃l k xs,x=.ref l/\y=.int k/\H l=some (.lst xs)/\-(2 ^ 63)<=k/\k<2 ^ 63/\xs.length * k.toNat<=sizeLine /\
 ∀p,H p=none->Q (.ref p) (upd H p (.lst (List.replicate k.toNat xs).flatten))
theorem Zd4 {α:Type}(xs:List α)(k:Nat):(List.replicate k xs).flatten.length=k * xs.length:=by
 induction k with
 | zero=>simp
 | succ k ih=>rw [Yda,List.flatten_cons,Yan,ih,Nat.succ_mul,Nat.add_comm]
theorem Zc9:OpR X (binaryOp .Mult) Zi7:=by
 intro qQ s σ H x y v u Q I rx ry h;obtain ⟨l,k,xs,rfl,rfl,hH,h1,h2,Z,q⟩:=h;cases rx;obtain ⟨t,rfl⟩:=ry;obtain ⟨z,B,n,r,hl,e⟩:=I.lstM hH;have qV:B.toArray.size * k.toNat<=sizeLine:=by rw [Ybd,<-hl];exact Z
 have G:¬ B.toArray.size * k.toNat > (2 ^ 63-1) / 8:=by
  have:(sizeLine:Nat)<=(2 ^ 63-1) / 8:=by decide
  lia
 have L:¬ (!Builtin.List.listFitsIndex k)=true:=by
  rw [fitsIndex_both h1 h2];exact Yax
 have D:¬ Builtin.List.listTooLong (B.toArray.size * k.toNat)=true:=by
  rw [ZbT qV];exact Yax
 have N:List.foldl (λO Y=>O++Y) #[] (List.replicate (if B.toArray.isEmpty=true then 0 else k.toNat) B.toArray)=(List.replicate k.toNat B).flatten.toArray:=by
  have f0:∀m:Nat,List.foldl (λO Y=>O++Y) #[] (List.replicate m B.toArray)=(List.replicate m B).flatten.toArray:=λm=>by
   have:=WL B m [];rw [List.nil_append] at this;exact this
  rw [f0];cases B with
  | nil=>simp
  | cons a r'=>rw [if_neg (by simp)]
 refine wpAny_binaryOp_repeat_ref (T := "list") (U := "int") (by decide) ⟨_,e,rfl⟩ (λs'=>typeIs_int s' k t) noFill_list_mul F.fills_int_mul F.slot_int_rmul repeat_list F.slot_int_index.lookup
  (call_meets F.slot_int_rmul (typeIs_int s k t) F.entry_int_rmul (F.args_int_rmul_2 _ _) (int___rmul___int_list k t l B.toArray n)
   ⟨e,rfl,⟨_,e,rfl⟩,call_meets F.slot_list_mul ⟨_,e,rfl⟩ F.entry_list_mul (F.args_list_mul_2 _ _) (AutoListH.list___mul___list_int_3 l B.toArray n k t L G D) ⟨e,?_⟩⟩)
 rw [N];exact ⟨.ref _,_,I.lnew (t':=s.toks) (r.rep k.toNat) (by rw [Zd4,Nat.mul_comm];exact Z),rfl,q _ I.fresh⟩
end
end L2
namespace Att
open PySem PySem.W PySem.Calls PyProof.Rows
theorem U1 {P:Params}{h:Heap}:∀(ns:List Int)(vs:List Value),WellAll P h vs (ns.map WData.int)->IntsAre vs ns:=by
 intro ns
 induction ns with
 | nil=>
  intro vs w;rw [List.map_nil] at w;cases w;exact .nil
 | cons n ns ih=>
  intro vs w;rw [Yat] at w;cases w with
  | cons a b=>
   cases a;exact .cons _ _ (ih _ b)
theorem Z4 {l:OpenLaw}{n:Nat}(U:l.most=some n){P:Params}{h:Heap}{args:List WData}{B:List Value}(D:l.row.toRowW.claim.pre args=true)(L:WellAll P h B args) :
  ∃a vs ns,B=[Value.ref a]/\args=[WData.list (ns.map WData.int)]/\h.get? a=some { cls:=.type "list", data:=.seq vs.toArray }/\IntsAre vs ns/\ns.length<=n:=by
 have N:WShape.hasAll [] args [.list .int]=true:=(pre_splitW D).1;have O:l.pre.holds [] { args:=args }=true:=(pre_splitW D).2;obtain ⟨d,r,rfl,h1,h2⟩:=hasAllW_cons N;obtain rfl:=hasAllW_nil h2;obtain ⟨xs,rfl,Y⟩:=hasW_list h1;obtain ⟨ns,rfl⟩:=items_int Y;have Z:ns.length<=n:=by
  unfold OpenLaw.pre at O;have F:(WTm.not (.lt (.lit (.int (n:Int))) (.len (.arg 0)))).holds [] { args:=[.list (ns.map .int)] }=true:=by
   have F:=(holds_andW O).1;rw [U] at F;exact F
  have G:=condW_of F (w_not (w_lt w_lit (w_len_list (w_arg rfl))));rw [Yaa] at G;refine Nat.le_of_not_lt λq=>?_;have q':(n:Int)<((ns.length:Nat):Int):=by lia
  first
   | (rw [Yae q'] at G;exact absurd G (by decide))
   | (simp at G;lia)
 cases L with
 | cons w1 w2=>
  cases w2;cases w1 with
  | list ho qY=>exact ⟨_,_,ns,rfl,rfl,ho,U1 ns _ qY,Z⟩
theorem Z5 (l:OpenLaw)(args:List WData):l.row.toRowW.claim.post args (.bool true) args=true:=
 postW_of (r:=l.row.toRowW) (X:=(true == true))
  (show WShape.has [] (.bool true) .bool=true by first | rfl | decide | simp [WShape.has,WShape.arms,WShape.armsAll])
  (show (WTm.eq .res (.lit (.bool true))).value [] { args:=args,res:=some (.bool true),after:=args }=some (.bool (true == true)) from w_eq_bool (w_res rfl) w_lit) rfl
theorem attach_call {l:OpenLaw}{n:Nat}{q:Program}{B:List Str}{XP:(Str->Option Value)->Heap->Prop}{YP:World->Heap->Prop}{d:DefRec}(hn:l.most=some n)(N:d.params.defaults=[])(call:∀(w:World)(s₀ s₁:Shared)(mg mb:Str->Option Value)(fa:Addr)(o:Obj)(pm cd doc:Value)(a:Addr)(vs:List Value)(ns:List Int),
   Ground q B [] XP w s₀ mg mb s₁.heap->YP w s₁.heap ->
   s₁.heap.get? fa=some o->o.data=.func (docDef d.name d.params d.body d.scope pm cd doc)->s₁.heap.CodeRec cd d.name->mg d.name=some (.ref fa) ->
   s₁.heap.get? a=some { cls:=.type "list", data:=.seq vs.toArray }->IntsAre vs ns->ns.length<=n->s₁.gens=#[] ->
   codeAny (model l.prog w) callerA (.call (.ref fa) ⟨[.ref a],[]⟩) (λr s'=>r=.ok (.ret (.bool true))/\OldK s₁.heap s'.heap/\s'.os=s₁.os/\AllBare s'.gens) s₁) :
  WalkO q B XP YP l.row.toRowW d [] (λf vs=>PySem.call f vs):=by
 intro w s₀ s₁ mg mb G Y fa o pm cd doc dV kV ho hd O hD U hg aa ab as F ac ad Z ae;obtain rfl:dV=.none:=Dflts.none hD N;obtain rfl:kV=.none:=Dflts.noKw hD;obtain ⟨a,vs,ns,rfl,rfl,L,D,qV⟩:=Z4 hn F Z;refine enter_call (codeAny_mono (call w s₀ s₁ mg mb fa o pm cd doc a vs ns G Y ho (fd_plain hd) O U L D qV hg) λr s' hq=>?_);obtain ⟨rfl,h2,h3,h4⟩:=hq;exact ⟨.inl ⟨.bool true,.bool true,[],rfl,λ_=>rfl,.bool true,Z5 l _,λ_=>⟨List.Pairwise.nil,λ_ hm=>(nomatch hm)⟩⟩,h2,h3,h4⟩
end Att
namespace L2
open PySem PySem.Spec PyProof.Rows
theorem WM:∀{vs:List Value}{ns:List Int},IntsAre vs ns->Vals (ns.map V.int) vs
 | _,_,.nil=>.nil
 | _,_,.cons n t h=>.cons ⟨t,rfl⟩ (WM h)
def Zhv (H:Hp):Prop:=∀b,H b=none\/∃o xs,H b=some (.frz o (.lst xs))
theorem ZbU {P:Program}{w:World}{K:W.Frag}{mg mb:Str->Option Value}{CX:CXT}{k:Nat}{fa a:Addr}{fd:FuncData}{x:Str}{sp:Sp}{B:Shared}{vs:List Value}{ns:List Int}(KX:K.In B.heap)(U:B.heap.Ns mainGlobals mg)(G:B.heap.Ns builtinsNs mb)(ae:∀x:Str,x ≠ "__name__" -> mb x=bootBuiltins x)(Y:B.heap.NoLimit)(hg:B.gens=#[])(ha:B.heap.get? a=some { cls:=.type "list", data:=.seq vs.toArray })(hi:IntsAre vs ns)(hl:ns.length<=sizeLine)(hr:Room k callerA)(F:∀base:Heap,K.In base->base.Ns mainGlobals mg->GJ P w K mg base CX k fa fd [x] sp)(O:∀(s:Shared)(u:Value),BindsTo s fd ⟨[u],[]⟩ [(x,u)])(af:∀H:Hp,Zhv H->SqL K H a (ns.map V.int)->sp [.ref a] H (λv _=>v=.bl true) λ_ _ _=>False)(ag:∀H e s',CX [] H B (λ_ _ _=>False) e s'->False) :
  codeAny (model P w) callerA (.call (.ref fa) ⟨[.ref a],[]⟩) (λr s'=>r=.ok (.ret (.bool true))/\OldK B.heap s'.heap/\s'.os=B.os/\AllBare s'.gens) B:=by
 have rv:=WM hi;have Z:=hi.length;have N:∀H:Hp,Zhv H->SqL K H a (ns.map V.int)->HOk P w H B.heap->(∀b,H b≠none->b=a)->(H a≠none->K.lookup a=none) ->
   codeAny (model P w) callerA (.call (.ref fa) ⟨[.ref a],[]⟩) (λr s'=>r=.ok (.ret (.bool true))/\OldK B.heap s'.heap/\s'.os=B.os/\AllBare s'.gens) B:=by
  intro H hO hS aa hA hK;have D:∀{b:Addr}{o:Obj},B.heap.get? b=some o->H b=none->(ZbN B.heap H).get? b=some o:=λe n=>ZbO e n;have ah:∀{b:Addr}{o:Obj}{es:Array DictEntry}{ep:Nat},B.heap.get? b=some o->o.data=.dict es ep->H b=none:=λ{b o es ep} e d=>by
   cases q:H b with
   | none=>rfl
   | some u=>
    have e':b=a:=hA b (by rw [q];simp);subst e';rw [ha] at e;cases e;have d':Data.seq vs.toArray _=Data.dict es ep:=d;cases d'
  have L:∀{b:Addr}{m:Str->Option Value},B.heap.Ns b m->(ZbN B.heap H).Ns b m:=λ{b m} ⟨o,es,ep,e,d,r⟩=>⟨o,es,ep,D e (ah e d),d,r⟩;have ab:K.In (ZbN B.heap H):=λb o e=>D (KX b o e) (by
   cases q:H b with
   | none=>rfl
   | some u=>
    have e':b=a:=hA b (by rw [q];simp);subst e';rw [hK (by rw [q];simp)] at e;cases e)
  have hM:Mod K mg (ZbN B.heap H):=⟨ab,L U,⟨mb,L G,ae⟩,let ⟨mc,h1,h2⟩:=Y;⟨mc,L h1,h2⟩⟩;have e0:Zha P w K mg (ZbN B.heap H) callerA [] B H:=⟨rfl,hM,λb o e=>ZdQ e,Nat.le_of_eq (ZJ _ _),trivial,λb G=>absurd (show b∈([]:List Addr) from G) (by simp),aa,.of_eq hg⟩;refine codeAny_mono ((F _ ab (L U)).run callerA [] B H ⟨[.ref a],[]⟩ [.ref a] [.ref a] _ _ hr e0 (O B (.ref a)) (.cons rfl .nil) (af H hO hS)) λr s' h=>?_;cases r with
  | error e=>exact (ag H e s' h).elim
  | ok fl=>
   cases fl with
   | next=>exact False.elim h
   | brk=>exact False.elim h
   | cont=>exact False.elim h
   | ret u=>
    obtain ⟨v,H',os,ac,un,ad,r',q⟩:=h;have q':v=.bl true:=q;subst q';obtain rfl:u=Value.bool true:=r';refine ⟨rfl,OldK.of_keep λb o e=>?_,os,ac⟩;cases q:H b with
    | none=>exact un.keep b o e q (by intro z;exact absurd (show b∈([]:List Addr) from z) (by simp)) (by simp)
    | some u=>
     rcases hO b with z | ⟨ob,xs,z⟩
     ·rw [q] at z;cases z
     ·have z2:=un.frzs b ob _ z;obtain ⟨e1,_⟩:=aa b _ z;obtain ⟨e2,_⟩:=ad b _ z2;rw [e] at e1;cases e1;exact e2
 cases hk:K.lookup a with
 | some o=>
  have e:=KX a o hk;rw [ha] at e;cases e;refine N (λ_=>none) (λ_=>.inl rfl) (.inr ⟨_,vs.toArray,_,hk,rfl,rfl,rfl,by rw [Ybd,Z];exact hl,by simpa using rv⟩) (λb u z=>by have z':(none:Option HO)=some u:=z;cases z') (λb z=>absurd rfl z) λz=>absurd rfl z
 | none=>
  refine N (λb=>if b=a then some (.frz { cls:=.type "list", data:=.seq vs.toArray } (.lst (ns.map V.int))) else none) (λb=>?_) (.inl (.inr ⟨{ cls:=.type "list", data:=.seq vs.toArray },if_pos rfl⟩)) (λb u z=>?_) (λb z=>?_) λ_=>hk
  ·by_cases G:b=a
   ·exact .inr ⟨_,_,if_pos G⟩
   ·exact .inl (if_neg G)
  ·by_cases G:b=a
   ·have z':=(if_pos G).symm.trans z;cases z';subst G;exact ⟨ha,by rw [Yaa];exact hl,vs,_,rv,ha⟩
   ·have z':=(if_neg G).symm.trans z;cases z'
  ·by_cases G:b=a
   ·exact G
   ·exact absurd (if_neg G) z
theorem walk_of {l:W.OpenLaw}{n k:Nat}{q:Program}{B:List Str}{XP:(Str->Option Value)->Heap->Prop}{YP:World->Heap->Prop}{d:DefRec}{K:Params->W.Frag}{CX:World->CXT}{sp:World->Sp}{x:Str}(hn:l.most=some n)(N:n<=sizeLine)(O:d.params.defaults=[])(hr:Room k callerA)(hY:∀(w:World)(h:Heap),YP w h->(K w.params).In h)(F:∀(w:World)(mg:Str->Option Value)(fa:Addr)(h:Heap),(K w.params).In h->h.Ns mainGlobals mg->mg d.name=some (.ref fa) ->
   ∃fd:FuncData,(∀(s:Shared)(u:Value),BindsTo s fd ⟨[u],[]⟩ [(x,u)]) /\
    ∀base:Heap,(K w.params).In base->base.Ns mainGlobals mg->GJ l.prog w (K w.params) mg base (CX w) k fa fd [x] (sp w))(U:∀(w:World)(H:Hp)(a:Addr)(ns:List Int),ns.length<=n->Zhv H->SqL (K w.params) H a (ns.map V.int)->sp w [.ref a] H (λv _=>v=.bl true) λ_ _ _=>False)(Z:∀(w:World)(H:Hp)(s:Shared)(e:Value)(s':Shared),CX w [] H s (λ_ _ _=>False) e s'->False) :
  W.WalkO q B XP YP l.row.toRowW d [] (λf vs=>PySem.call f vs):=by
 refine Att.attach_call hn O λw s₀ s₁ mg mb fa o pm cd ab a vs ns G Y ho hd ac aa L D qV hg=>?_;have KX:=hY w _ Y;obtain ⟨fd,hb,hF⟩:=F w mg fa _ KX G.T.g aa;exact ZbU KX G.T.g G.T.b G.T.builtins G.T.nolimit hg L D (Ycc qV N) hr hF hb (λH hO hS=>U w H a ns qV hO hS) λH e s'=>Z w H s₁ e s'
def Jj (s:Stmt):Arguments:=match s with
 | .FunctionDef _ a _ _ _ _ _ _ _ _=>a
 | _=>{ posonlyargs:=[],args:=[],vararg:=none,kwonlyargs:=[],kw_defaults:=[],kwarg:=none,defaults:=[] }
def G3 (s:Stmt):List Stmt:=match s with
 | .FunctionDef _ _ b _ _ _ _ _ _ _=>b
 | _=>[]
def Ge (s:Stmt):Scope:=match s with
 | .FunctionDef _ _ _ _ _ _ sc _ _ _=>sc
 | _=>{ kind:=.function,names:=[],isGenerator:=false,isCoroutine:=false }
abbrev CX0:CXT:=λ_ _ _ _ _ _=>False
abbrev E0:XK:=λ_ _ _=>False
theorem GP {X:Cx}:WB CX0 X E0:=λ_ _ _ _ _ _ _ h=>h.elim
structure Fun (K:W.Frag)(x qual:Str)(st:Stmt)(f:Addr)(fd:FuncData):Prop where
 ex:∃(oc:Value)(od:Option Addr)(kV doc pm:Value)(an:Option Addr)(cdv ct:Value)(osl:Array (Option Value)),
  fd=W.fnOf x qual (Jj st) (G3 st) (Ge st) .none kV doc pm an cdv ct/\K.lookup f=some ⟨oc,od,.func fd,osl⟩/\W.codeIn K cdv qual=true
 kp:W.keepIn K (.ref f)=true
section
variable {P:Program}{w:World}{K:W.Frag}{mg:Str->Option Value}{base:Heap}
theorem Zi8 {α:Type}{l:List α}(h:l.length=0):l=[]:=List.length_eq_zero_iff.mp h
theorem Zd5 {α:Type}{l:List α}{n:Nat}(h:l.length=n+1):∃a t,l=a::t/\t.length=n:=by
 cases l with
 | nil=>cases h
 | cons a t=>exact ⟨a,t,rfl,by simpa using h⟩
theorem Zda {α:Type}{l:List α}(h:l.length=1):∃a,l=[a]:=by
 obtain ⟨a,t,rfl,g⟩:=Zd5 h;exact ⟨a,by rw [Zi8 g]⟩
theorem Wt {α:Type}{l:List α}(h:l.length=2):∃D B,l=[D,B]:=by
 obtain ⟨a,t,rfl,g⟩:=Zd5 h;obtain ⟨B,rfl⟩:=Zda g;exact ⟨a,B,rfl⟩
theorem Z6 {α:Type}{l:List α}(h:l.length=3):∃F B D,l=[F,B,D]:=by
 obtain ⟨a,t,rfl,g⟩:=Zd5 h;obtain ⟨B,D,rfl⟩:=Wt g;exact ⟨a,B,D,rfl⟩
theorem Zhb {α:Type}{l:List α}(h:l.length=4):∃G B D F,l=[G,B,D,F]:=by
 obtain ⟨a,t,rfl,g⟩:=Zd5 h;obtain ⟨B,D,F,rfl⟩:=Z6 g;exact ⟨a,B,D,F,rfl⟩
theorem Zi9 {α:Type}{l:List α}(h:l.length=5):∃L B D F G,l=[L,B,D,F,G]:=by
 obtain ⟨a,t,rfl,g⟩:=Zd5 h;obtain ⟨B,D,F,G,rfl⟩:=Zhb g;exact ⟨a,B,D,F,G,rfl⟩
theorem Zja {α:Type}{l:List α}(h:l.length=6):∃N B D F G L,l=[N,B,D,F,G,L]:=by
 obtain ⟨a,t,rfl,g⟩:=Zd5 h;obtain ⟨B,D,F,G,L,rfl⟩:=Zi9 g;exact ⟨a,B,D,F,G,L,rfl⟩
theorem Zjt {α:Type}{l:List α}(h:l.length=7):∃O B D F G L N,l=[O,B,D,F,G,L,N]:=by
 obtain ⟨a,t,rfl,g⟩:=Zd5 h;obtain ⟨B,D,F,G,L,N,rfl⟩:=Zja g;exact ⟨a,B,D,F,G,L,N,rfl⟩
theorem Fun.ok {x B:Str}{st:Stmt}{f:Addr}{fd:FuncData}{N ps:List Str}{k:Nat}{sp:Sp}(F:Fun K x B st f fd)(S:Gp N ps (Ge st))(len:∀vs H Q E,sp vs H Q E->vs.length=ps.length)(O:∀(D:Value)(A:Around)(outer:List Env)(s:Shared)(H:Hp)(vs:List V)(Q:VK)(E:XK),Room k (A.deeper (envOfC B (Ge st) s.heap.objs.size f D))->sp vs H Q E ->
   ∃t,PSs (ZZ CX0 P w K mg base N B (Ge st) f D A outer s H E).nox (G3 st) t/\t { nx:=λ_ H'=>Q .non H',rt:=Q } (start N vs) H):GJ P w K mg base CX0 (k+1) f fd ps sp:=by
 obtain ⟨oc,od,kV,U,pm,an,D,ct,Y,rfl,Z,G⟩:=F.ex;refine ZdZ Z G S len λA outer s H vs Q E hr L=>?_;obtain ⟨t,h,q⟩:=O D A outer s H vs Q E hr L;exact ⟨t,h.nox,q⟩
theorem Fun.binds {x B:Str}{st:Stmt}{f:Addr}{fd:FuncData}{ps:List Str}(F:Fun K x B st f fd)(h:∀(kV D G:Value)(an:Option Addr)(cdv ct:Value)(us:List Value),us.length=ps.length->bindArgs (W.fnOf x B (Jj st) (G3 st) (Ge st) .none kV D G an cdv ct) ⟨us,[]⟩=pure (ps.zip us)):Binds K fd ps []:=by
 obtain ⟨O,U,kV,D,G,an,cdv,ct,L,rfl,Y,N⟩:=F.ex;exact .all (h kV D G an cdv ct)
theorem Z7 {x B:Str}{st:Stmt}{f:Addr}{O:Value}{U L:Option Addr}{G:Array (Option Value)}{kV F N D ct:Value}(l:K.lookup f=some ⟨O,U,.func (W.fnOf x B (Jj st) (G3 st) (Ge st) .none kV F N L D ct),G⟩)(c:W.codeIn K D B=true)(k:W.keepIn K (.ref f)=true):Fun K x B st f (W.fnOf x B (Jj st) (G3 st) (Ge st) .none kV F N L D ct):=⟨⟨O,U,kV,F,N,L,D,ct,G,rfl,l,c⟩,k⟩
end
section
variable {X:Cx}
theorem pv (i:Nat){x:Str}{pos:Pos}(D:X.N[i]?=some x:=by rfl)(F:Vis X.env.scope x:=by first | exact Or.inl rfl | exact Or.inr (Or.inl rfl) | exact Or.inr (Or.inr rfl))(G:(x == ("__debug__" : Str))=false:=by decide)(B:(x == ("__classdict__" : Str))=false:=by decide):PE X (.Name x pos) (Y6 i):=Zfl D F G B
end
theorem JI {A B:Prop}(h:B):if false=true then A else B:=by
 rw [if_neg Yax];exact h
theorem JQ {A B:Prop}(h:A):if true=true then A else B:=by
 rw [if_pos rfl];exact h
theorem OA {c A B:Prop}[Decidable c](h1:c->A)(h2:¬ c->B):if c then A else B:=by
 by_cases h:c
 ·rw [if_pos h];exact h1 h
 ·rw [if_neg h];exact h2 h
def Same (H H':Hp):Prop:=∀b o,H b=some o->H' b=some o
theorem Same.refl (H:Hp):Same H H:=λ_ _ h=>h
theorem Same.trans {H H1 H2:Hp}(a:Same H H1)(b:Same H1 H2):Same H H2:=λc o h=>b c o (a c o h)
theorem Same.free {H H':Hp}(e:Same H H'){l:Addr}(h:H' l=Option.none):H l=Option.none:=by
 cases q:H l with
 | none=>rfl
 | some o=>
  rw [e l o q] at h;cases h
theorem Same.seq {K:W.Frag}{H H':Hp}{a:Addr}{xs:List V}(e:Same H H')(h:SqL K H a xs):SqL K H' a xs:=by
 rcases h with (h | ⟨o,h⟩) | h
 ·exact .inl (.inl (e _ _ h))
 ·exact .inl (.inr ⟨o,e _ _ h⟩)
 ·exact .inr h
section
variable {prog:Program}{w:World}{A:Around}{R:Result->Shared->Prop}{s:Shared}
theorem WN {elt qU iter:Expr}{ifs:List Expr}{scope:Scope}{pos:Pos}{G acc:Value}{env:Env}(I:Nat->Shared->Prop)(D:∀n s,I n s->wpAny (model prog w) A (pyNext G) (λr s1=>match r with
   | none=>R (.ok .next) s1
   | some v=>wpAny (model prog w) A (letOwnedTupleGo qU G v) (λ_ F=>wpAny (model prog w) A (assign qU env v) (λ_ O=>
     wpAny (model prog w) A (forIn ifs true λc r=>if r=true then do let ok <- isTrue c env (eval c env);pure (ForInStep.yield ok) else pure (ForInStep.yield r)) (λok L=>
      if ok=true then wpAny (model prog w) A (eval elt env) (λx U=>
       wpAny (model prog w) A (call (.builtin "list.append") [acc,x]) (λ_ Y=>∃m,m<n/\I m Y) (λ_ _=>False) U) (λ_ _=>False) L
      else ∃m,m<n/\I m L) (λ_ _=>False) O) (λ_ _=>False) F) (λ_ _=>False) s1) (λ_ _=>False) s)(n:Nat)(h:I n s) :
  codeAny (model prog w) A (.compLoop (.ListComp elt [⟨qU,iter,ifs,0⟩] scope pos) 0 G acc env) R s:=by
 have B:∀{E:Value->Shared->Prop},∀(x:Value)(s:Shared),(λ(_:Value) (_:Shared)=>False) x s->E x s:=λ_ _ z=>False.elim z;refine codeAny_loop rfl I (λn s hI=>?_) n h;show wpAny _ A ((compTurn (.ListComp elt [⟨qU,iter,ifs,0⟩] scope pos) 0 G acc env).onRaise (λx=>do noteFrame x env;theTreesLotGoes x)) _ _ s;refine wpAny_noted ?_;rw [compTurn_list];refine Yab (wpAny_standAt (Yab (Yci (D n s hI) (λr s1 h1=>?_) B)));cases r with
 | none=>exact Yag h1
 | some v=>
  refine Yab (Yci h1 (λ_ F N=>?_) B);refine Yab (Yci N (λ_ O h2=>Yab (Yci h2 (λok L Z=>?_) B)) B);cases ok with
  | false=>exact Yag ⟨rfl,Z⟩
  | true=>
   exact Yab (Yab (Yci Z (λx U h4=>Yab (Yci h4 (λ_ Y h5=>Yag (Yag ⟨rfl,h5⟩)) B)) B))
end
def Cx.comp (X:Cx)(scope:Scope)(cl:List (Str×Addr))(N:List Str)(C:Addr)(s:Shared)(H:Hp)(fp:List Addr):Cx:=
 { X with N:=N,s₀:=s,H₀:=H,env:=compEnvC scope cl C X.env,outer:=X.stack,ex:=fp,fn:=λ_=>false,pn:=[],xe:=λ_ _=>False }
def ZfB (X:Cx)(ifs:List Expr)(t:TT):Prop:=
 ∀(qQ:List (Addr×Obj))(s:Shared)(σ:St)(H:Hp)(Q:Bool->Hp->Prop),Inv X qQ σ H s->t σ H Q ->
  wpAny (model X.prog X.w) X.A (forIn ifs true λc r=>if r=true then do let ok <- isTrue c X.env (eval c X.env);pure (ForInStep.yield ok) else pure (ForInStep.yield r)) (TP X qQ σ Q) X.xe s
def ZbJ:TT:=λ_ H Q=>Q true H
theorem JB {X:Cx}:ZfB X [] ZbJ:=λ_ _ _ H _ I h=>wpAny_tests_nil ⟨H,I,h⟩
theorem Jm {X:Cx}{c:Expr}{t:TT}(h:PT X c t):ZfB X [c] t:=λqQ s σ H Q I B=>wpAny_tests_one (h qQ s σ H Q I B)
structure J0 (X:Cx)(scope:Scope)(cl:List (Str×Addr))(own:List Str)(fr:List (Str×Nat)):Prop where
 clos:closureFor scope X.env=pure cl
 nocell:∀y∈scope.names,y.2≠.cell
 kind:scope.kind=.function
 names:∀y∈scope.names,y.2=.local->scope.names.lookup y.1=some .local
 cls:∀y c,cl.lookup y=some c->X.env.cells.lookup y=some c
 has:∀y,((relabel scope X.env).names.lookup y=some .cell\/(relabel scope X.env).names.lookup y=some .free)->∃c,cl.lookup y=some c
 free:∀p∈fr,X.N[p.2]?=some p.1/\(X.env.kindOf p.1=some .cell\/X.env.kindOf p.1=some .free)/\((relabel scope X.env).names.lookup p.1=some .cell\/(relabel scope X.env).names.lookup p.1=some .free)
def OB (own:List Str)(fr:List (Str×Nat))(σ:St):St:=own.map (λ_=>none)++fr.map λp=>(σ[p.2]?).join
def Od:St->St->Prop
 | [],[]=>True
 | none::r,_::r'=>Od r r'
 | some v::r,some v'::r'=>v=v'/\Od r r'
 | _,_=>False
theorem Om:∀{a b:St},Od a b->∀(i:Nat)(v:V),a[i]?=some (some v)->b[i]?=some (some v)
 | [],[],_,i,v,h=>by simp at h
 | [],_::_,z,_,_,_=>z.elim
 | none::r,[],z,_,_,_=>z.elim
 | some _::r,[],z,_,_,_=>z.elim
 | some _::r,none::_,z,_,_,_=>z.elim
 | none::r,_::r',z,0,v,h=>by simp at h
 | none::r,_::r',z,i+1,v,h=>by
  have:=Om (a:=r) (b:=r') z i v (by simpa using h);simpa using this
 | some x::r,some x'::r',z,0,v,h=>by
  obtain ⟨e,_⟩:=z;subst e;simpa using h
 | some x::r,some x'::r',z,i+1,v,h=>by
  have:=Om (a:=r) (b:=r') z.2 i v (by simpa using h);simpa using this
def Js (J:It)(D:Addr)(g:TG)(tc:TT)(te:TE)(G:St)(W:Nat->Nat->List V->Hp->Prop)(R:Hp->Prop):Prop:=
 ∀i m ys H2,W i m ys H2->(J.stop i H2/\R H2)\/(J.go i H2/\∃N:List V->Hp->Prop,(∀B H',N B H'->∃L,L<m/\W (i+1) L B H')/\∀x O,J.yld i H2 x O->g x G O λF Z=>Od G F/\tc F Z λb U=>
  if b=true then te F U λy Y=>Y D=some (.lst ys)/\ys.length<sizeLine/\N (ys++[y]) (upd Y D (.lst (ys++[y])))
  else N ys U)
def ZfC (wi:TI)(g:TG)(tc:TT)(te:TE)(own:List Str)(fr:List (Str×Nat)):TE:=λσ H Q=>wi σ H λJ H1=>∀D,H1 D=none ->
 ∃W:Nat->Nat->List V->Hp->Prop,(∃m,W 0 m [] (upd H1 D (.lst [])))/\Js J D g tc te (OB own fr σ) W λH2=>Q (.ref D) H2
section
variable {X:Cx}{qU iter elt:Expr}{ifs:List Expr}{scope:Scope}{cl:List (Str×Addr)}{own:List Str}{fr:List (Str×Nat)}{pos:Pos}{wi:TI}{g:TG}{tc:TT}{te:TE}
theorem Inv.sub_pins {qQ B:List (Addr×Obj)}{σ:St}{H:Hp}{s:Shared}(I:Inv X qQ σ H s)(h:∀p∈B,p∈qQ):Inv X B σ H s:=I.pins_of λp D=>I.pin p (Ycn _ (h p D))
theorem Zd6 {qQ:List (Addr×Obj)}{σ:St}{H:Hp}{s:Shared}{C:Addr}{fp:List Addr}(S:J0 X scope cl own fr)(I:Inv X qQ σ H s)(D:∀b∈fp,ZbI X qQ H b)(G:s.heap.objs.size<=C)(F:∀b∈fp,b<s.heap.objs.size) :
  (X.comp scope cl (own++fr.map (·.1)) C s H fp).Ok:=by
 refine ⟨I.ok.mod,?_,I.ok.glob,I.ok.blt,G,λx y c h1 h2=>I.ok.inj x y c (S.cls x c h1) (S.cls y c h2),S.has,λx c z=>absurd z (by simp [Cx.comp]),I.ok.hd,I.ok.frames,.inl rfl,
  λb B=>⟨Yaq (Ybe (F b B) G),λx c h=>(D b B).2.2.2.2.1 x c (S.cls x c h)⟩,I.bs,Ycc I.ok.bsz I.sz,λb o e B=>?_,λb B z=>?_,I.stack,I.stkFree⟩
 ·show (relabel scope X.env).kind=.function;exact S.kind
 ·rcases (D b B).2.2.2.1 with z | z
  ·exact I.ok.noex b o e z
  ·exact absurd (Ybe (Yaj e) (Ycc I.ok.bsz z)) (Ybt _)
 ·rcases Yar.mp (I.stkSub b z) with q | q
  ·exact (D b B).2.1 q
  ·exact (D b B).2.2.1 q
theorem VA (own:List Str)(fr:List (Str×Nat))(σ:St):(OB own fr σ).length=(own++fr.map (·.1)).length:=by
 unfold OB;simp
theorem VB {qQ:List (Addr×Obj)}{σ:St}{H:Hp}{s:Shared}{it:Addr}{fp:List Addr}{tn:Nat->Heap->Prop}{J:It}{E:Value->Shared->Prop}{RR:Value->Addr->Result->Shared->Prop}{Rf:Addr->Hp->Prop}(hc:X.calm=true)(S:J0 X scope cl own fr)(I:Inv X qQ σ H s)(T:ZbP X.prog X.w X.K qU J fp it tn)(st:tn 0 s.heap)(hf:∀b∈fp,ZbI X qQ H b)(hg:∀C s H fp,PG (X.comp scope cl (own++fr.map (·.1)) C s H fp) qU g)(ht:∀C s H fp,ZfB (X.comp scope cl (own++fr.map (·.1)) C s H fp) ifs tc)(he:∀C s H fp,PE (X.comp scope cl (own++fr.map (·.1)) C s H fp) elt te)(hw:∀D,H D=none->∃W:Nat->Nat->List V->Hp->Prop,(∃m,W 0 m [] (upd H D (.lst [])))/\Js J D g tc te (OB own fr σ) W (Rf D))(ao:∀D C s' H',s.heap.objs.size<=C->C≠D->(∃m,s'.heap.Ns C m)->H' C=none->Un (frs X.stack) fp H H' s.heap s'.heap->HOk X.prog X.w H' s'.heap->AllBare s'.gens->s'.os=s.os->Rf D H'->RR (.ref D) C (.ok .next) s') :
  wpAny (model X.prog X.w) X.A (newList []) (λacc s3=>wpAny (model X.prog X.w) X.A (newFunctionEnv scope X.env.globals cl [] X.env.qual none .none (some X.env)) (λaa s4=>
   codeAny (model X.prog X.w) X.A (.compStart (.ListComp elt [⟨qU,iter,ifs,0⟩] scope pos) 0 (.ref it) acc { aa with scope:=relabel scope X.env }) (RR acc aa.locals) s4) E s3) E s:=by
 have ae:∀b∈fp,b<s.heap.objs.size:=λb F=>by
  obtain ⟨o,e,_⟩:=T.obj 0 s.heap st b F;exact Yaj e
 have hD:H s.heap.objs.size=none:=I.fresh;obtain ⟨W,⟨m0,w0⟩,ab⟩:=hw s.heap.objs.size hD;have I1:Inv X qQ σ (upd H s.heap.objs.size (.lst [])) { s with heap:=s.heap.push { cls:=.type "list", data:=.seq ([]:List Value).toArray },toks:=s.toks }:=I.lnew .nil (Ybc _);refine wpAny_newObj_type (wpAny_newFunctionEnv S.nocell (by intro y hy;simp at hy) (λh1 G L=>?_) S.kind);dsimp only at G L ⊢;generalize hH2:s.heap.push { cls:=.type "list", dict:=none,data:=.seq ([]:List Value).toArray }=H2 at G L ⊢ I1;have az:H2.objs.size=s.heap.objs.size+1:=by rw [<-hH2,Ydb]
 have O:s.heap.objs.size<=H2.objs.size:=by lia
 have ag:s.heap.objs.size≠H2.objs.size:=by lia
 have ah:∀b o,H2.get? b=some o->h1.get? b=some o:=λb o e=>L.extBut b o (Yaq (Yaj e)) (Yao _ e);have up:∀b o,s.heap.get? b=some o->h1.get? b=some o:=λb o e=>ah b o (hH2▸Yao _ e);have Z:=Zd6 (C:=H2.objs.size) S I hf O ae;have I0:∀tk,Inv (X.comp scope cl (own++fr.map (·.1)) H2.objs.size s H fp) [] (OB own fr σ) (upd H s.heap.objs.size (.lst [])) { s with heap:=h1,toks:=tk }:=by
  intro tk;have ai:HOk X.prog X.w (upd H s.heap.objs.size (.lst [])) h1:=I1.hok.kept ah;refine ⟨Z,rfl,I.bare,⟨λb o e n _ _=>up b o e,λb o e n _ _=>⟨o.slots,up b o e⟩,λb o e n _=>?_,λb o e _=>⟨o,up b o e⟩,λb xs q=>?_,λb o u q=>?_,λb ps q=>⟨#[],?_⟩⟩,
   ⟨_,G,λi x v e1 e2 e3=>?_⟩,λx c e=>?_,?_,λx c e=>?_,λp hp=>?_,ai,VA own fr σ⟩
  ·have e':s.heap.get? b=some o:=e;show upd H s.heap.objs.size (.lst []) b=none;rw [Gr (Yaq (Yaj e'))];exact n
  ·rw [Gr (Gh q hD)];exact q
  ·rw [Gr (Gh q hD)];exact q
  ·have q':H b=some (.tbl ps):=q;rw [Gr (Gh q' hD),q'];simp
  ·-- the free names
   have B:(OB own fr σ)[i]?=some (some v):=e2;have ac:(own++fr.map (·.1))[i]?=some x:=e1;unfold OB at B;by_cases hi:i<own.length
   ·rw [Ydf (by simpa using hi),Yau] at B;cases q:own[i]? with
    | none=>rw [q] at B;cases B
    | some y=>rw [q] at B;cases B
   ·rw [Ycs (by simpa using hi),Yaa,Yau] at B;rw [Ycs (by lia),Yau] at ac;cases q:fr[i-own.length]? with
    | none=>rw [q] at B;cases B
    | some p=>
     rw [q] at ac B;have ex:p.1=x:=Yaw ac;have ev:(σ[p.2]?).join=some v:=Yaw B;have ap:σ[p.2]?=some (some v):=by
      cases z:σ[p.2]? with
      | none=>rw [z] at ev;cases ev
      | some o=>rw [z] at ev;cases o with
       | none=>cases ev
       | some v'=>have:v'=v:=Yaw ev;rw [this]
     obtain ⟨f1,f2,f3⟩:=S.free p (Ybs q);subst ex;obtain ⟨m,hn,hl⟩:=I.loc;have aq:Vis X.env.scope p.1:=by
      rcases f2 with f2 | f2
      ·exact .inr (.inl f2)
      ·exact .inr (.inr f2)
     obtain ⟨u,ru,lk⟩:=hl p.2 p.1 v f1 ap aq;refine ⟨u,ru,?_⟩;rcases lk with ⟨k,_⟩ | ⟨k,c,e,z⟩
     ·rcases f2 with f2 | f2 <;> (rw [f2] at k;cases k)
     ·obtain ⟨c',aj⟩:=S.has p.1 f3;have e':=S.cls _ _ aj;rw [e] at e';cases e';obtain ⟨oc,ho,hd⟩:=z;exact .inr ⟨f3,c,aj,⟨oc,up _ _ ho,hd⟩⟩
  ·obtain ⟨v,oc,ho,hd⟩:=I.cell x c (S.cls x c e);exact ⟨v,oc,up _ _ ho,hd⟩
  ·show upd H s.heap.objs.size (.lst []) H2.objs.size=none;rw [Gr (Ne.symm ag)];exact I.hok.fresh O
  ·obtain ⟨v,z⟩:=I.cell x c (S.cls x c e);show upd H s.heap.objs.size (.lst []) c=none;rw [Gr (Yaq z.lt)];exact I.freeC x c (S.cls x c e)
  ·exact absurd (show p∈([]:List (Addr×Obj)) from hp) (by simp)
 have ar:∀b∈fp,upd H s.heap.objs.size (.lst []) b=none:=λb F=>by rw [Gr (Yaq (ae b F))];exact (hf b F).1
 have ak:tn 0 h1:=T.keep 0 _ _ st λb F o e=>up b o e;have U:∀{H':Hp},(∀b∈fp,H' b=none)->∀b∈fp,ZbI (X.comp scope cl (own++fr.map (·.1)) H2.objs.size s H fp) [] H' b:=λhn b F=>
  ⟨hn b F,(Z.exf b F).1,Z.exfs b F,.inl F,(Z.exf b F).2,λp hp=>absurd (show p∈([]:List (Addr×Obj)) from hp) (by simp)⟩
 have loop:∀s3:Shared,(∃tk,s3={ s with heap:=h1,toks:=tk }) ->
   codeAny (model X.prog X.w) X.A (.compLoop (.ListComp elt [⟨qU,iter,ifs,0⟩] scope pos) 0 (.ref it) (.ref s.heap.objs.size) (compEnvC scope cl H2.objs.size X.env)) (RR (.ref s.heap.objs.size) H2.objs.size) s3:=by
  rintro s3 ⟨tk,rfl⟩;refine WN (λn s'=>∃i ys H',Inv (X.comp scope cl (own++fr.map (·.1)) H2.objs.size s H fp) [] (OB own fr σ) H' s'/\tn i s'.heap/\(∀b∈fp,H' b=none)/\W i n ys H') ?_ m0 ⟨0,[],_,I0 tk,ak,ar,w0⟩;rintro n s4 ⟨i,ys,H4,I4,al,am,w4⟩;rcases ab i n ys H4 w4 with ⟨an,q⟩ | ⟨go,N,hN,step⟩
  ·refine thn (T.done (X.comp scope cl (own++fr.map (·.1)) H2.objs.size s H fp) rfl rfl rfl hc i [] s4 _ H4 _ I4 (U am) al an) λr s5 ⟨hr,I5⟩=>?_;subst hr;exact ao _ _ s5 H4 O (Ne.symm ag) ⟨_,I5.loc.choose_spec.1⟩ I5.free I5.base I5.hok I5.bare I5.os q
  ·refine thn (T.item (X.comp scope cl (own++fr.map (·.1)) H2.objs.size s H fp) rfl rfl rfl hc i [] s4 _ H4 _ I4 (U am) al go) λr s5 ⟨u,hr,h5⟩=>?_;subst hr;refine thn h5 λ_ s6 ⟨x,H6,I6,r6,y6,ad,as⟩=>?_;have au:=I6.pinned (U as) (T.obj _ _ ad);refine thn (hg H2.objs.size s H fp _ s6 _ H6 x u _ au r6 (step x H6 y6)) λ_ s7 ⟨σ7,H7,I7,k7,q7⟩=>?_;refine thn (ht H2.objs.size s H fp _ s7 σ7 H7 _ I7 q7) λok s8 ⟨H8,I8,q8⟩=>?_;have Y:∀{s9:Shared}{σ9:St}{H9:Hp}{zs:List V},Inv (X.comp scope cl (own++fr.map (·.1)) H2.objs.size s H fp) ([]++WA fp s6.heap) σ9 H9 s9->(∀(i:Nat) v,(OB own fr σ)[i]?=some (some v)->σ9[i]?=some (some v))->(∃m',m'<n/\W (i+1) m' zs H9) ->
     ∃m,m<n/\∃i ys H',Inv (X.comp scope cl (own++fr.map (·.1)) H2.objs.size s H fp) [] (OB own fr σ) H' s9/\tn i s9.heap/\(∀b∈fp,H' b=none)/\W i m ys H':=by
    intro s9 σ9 H9 zs I9 hσ ⟨m',hm,w9⟩;refine ⟨m',hm,i+1,zs,H9,(I9.sub_pins (λp hp=>absurd (show p∈([]:List (Addr×Obj)) from hp) (by simp))).weak ?_ hσ,T.keep _ _ _ ad λb F o e=>(I9.pin (b,o) (Ycn _ (Ycn _ (Oi F e)))).1,λb F=>?_,w9⟩
    ·rw [I9.len];exact VA own fr σ
    ·obtain ⟨o,e,d⟩:=T.obj _ _ ad b F;exact (I9.pin (b,o) (Ycn _ (Ycn _ (Oi F e)))).2.1
   cases ok with
   | false=>exact (if_neg Yax).mpr (Y I8 (Om k7) (hN _ _ ((if_neg Yax).mp q8)))
   | true=>
    refine (if_pos rfl).mpr ?_;have av:=(if_pos rfl).mp q8;refine thn (he H2.objs.size s H fp _ s8 σ7 H8 _ I8 av) λy s9 ⟨yv,H9,I9,r9,aw,hz,q9⟩=>?_;refine thn (G5 _ s9 σ7 H9 (.ref s.heap.objs.size) [yv] (.ref s.heap.objs.size) [y] (λ_ H'=>H'=upd H9 s.heap.objs.size (.lst (ys++[yv]))) I9 rfl (.cons r9 .nil) ⟨_,ys,yv,rfl,rfl,aw,hz,rfl⟩) λ_ a0 ⟨_,a1,ax,_,ay⟩=>?_;subst ay;exact Y ax (Om k7) (hN _ _ q9)
 exact codeAny_compStart_list (loop _ ⟨_,rfl⟩) (T.self _ 0 _ _ _ ak (loop _ ⟨_,rfl⟩))
theorem VC {qQ:List (Addr×Obj)}{σ:St}{H H':Hp}{s s':Shared}{fp:List Addr}(I:Inv X qQ σ H s)(D:∀b∈fp,ZbI X qQ H b)(un:Un (frs X.stack) fp H H' s.heap s'.heap)(G:HOk X.prog X.w H' s'.heap)(B:AllBare s'.gens)(L:s'.os=s.os):Inv X qQ σ H' s':=
 I.call' L un G B λb F=>⟨(D b F).2.2.2.1,(D b F).2.1,(D b F).2.2.2.2.1,(D b F).2.2.2.2.2⟩
theorem Yh {qQ:List (Addr×Obj)}{σ B:St}{H H':Hp}{s s':Shared}{C:Addr}{h':Heap}(I:Inv X qQ σ H s)(D:s.heap.objs.size<=C)(F:H' C=none)(G:Inv X qQ B H' s')(L:Heap.SameBut C s'.heap h') :
  Inv X qQ B H' { s' with heap:=h' }:=by
 obtain ⟨N,O,f2,U,Y,Z⟩:=I.fpOk D F;exact G.turned (t':=s'.toks) (λb o hb e=>(L.2 b hb).trans e) N O U Y Z
theorem Jd (Y:X.calm=true)(S:J0 X scope cl own fr)(hi:PI X qU iter wi)(Z:∀C s H fp,PG (X.comp scope cl (own++fr.map (·.1)) C s H fp) qU g)(ht:∀C s H fp,ZfB (X.comp scope cl (own++fr.map (·.1)) C s H fp) ifs tc)(he:∀C s H fp,PE (X.comp scope cl (own++fr.map (·.1)) C s H fp) elt te)(hs:∀x,foldedSetIterable iter X.env x=pure x:=by intro _;rfl):PE X (.ListComp elt [⟨qU,iter,ifs,0⟩] scope pos) (ZfC wi g tc te own fr):=by
 intro qQ s σ H Q I h;rw [eval_ListComp];refine wpAny_comprehension_free (use:=none) rfl hs S.clos S.kind S.names (thn (hi qQ s σ H _ I h) λv s1 h1=>thn h1 λaa s2 h2=>?_);obtain ⟨it,fp,tn,J,H2,e,F,T,G,U,hw⟩:=h2;subst e;refine VB (RR:=λacc C=>compPost (model X.prog X.w) X.A X.xe none (EP X qQ σ Q) acc C) Y S F T G U Z ht he hw ?_;rintro D C s' H' hC ab ⟨m,hn⟩ L un N B os q;refine ⟨m,hn,λh' O=>⟨.ref D,H',?_,rfl,q⟩⟩;exact Yh (C:=C) (σ:=σ) F hC L (VC F U un N B os) O
theorem U2 {i:Nat}{y:Str}{F B:Pos}(hN:X.N.Nodup)(O:X.N[i]?=some y)(hx:Loc X.env.scope y)(hc:X.calm=true)(S:J0 X scope cl own fr)(hi:PI X qU iter wi)(hg:∀C s H fp,PG (X.comp scope cl (own++fr.map (·.1)) C s H fp) qU g)(ht:∀C s H fp,ZfB (X.comp scope cl (own++fr.map (·.1)) C s H fp) ifs tc)(he:∀C s H fp,PE (X.comp scope cl (own++fr.map (·.1)) C s H fp) elt te)(hf:X.fn y=true\/X.env.scope.names.lookup y=some .local:=by first | exact .inl rfl | exact .inr rfl | assumption)(U:swapsWith (.ListComp elt [⟨qU,iter,ifs,0⟩] scope pos) (some (.Name y F)) B.line X.env=pure true:=by rfl)(hs:∀x,foldedSetIterable iter X.env x=pure x:=by intro _;rfl):PS X (.Assign [.Name y F] (.ListComp elt [⟨qU,iter,ifs,0⟩] scope pos) B) (Zhn (ZfC wi g tc te own fr) (GB i)):=by
 intro qQ s σ H Dn I h;rw [exec_Assign_Name_used _ _ _ _ U];refine Yab (wpAny_standAt (Yab ?_));show wpAny _ X.A (do let _ <- comprehension (.ListComp elt [⟨qU,iter,ifs,0⟩] scope pos) scope X.env _ (newList []) false (eval iter X.env) (some (assign (.Name y F) X.env))) _ _ s;refine Yab (Yci (wpAny_comprehension_free (use:=some (assign (.Name y F) X.env)) (Q:=λ_ s'=>SP X qQ Dn .next s') rfl hs S.clos S.kind S.names (thn (hi qQ s σ H _ I h) λv s1 h1=>thn h1 λaf s2 h2=>?_))
  (λ_ s' hq=>Yag (Yag hq)) λ_ _ e=>e)
 obtain ⟨it,fp,tn,J,H2,e,G,T,Y,f2,hw⟩:=h2;subst e;refine VB (RR:=λacc C=>compPost (model X.prog X.w) X.A X.xe (some (assign (.Name y F) X.env)) (λ_ s'=>SP X qQ Dn .next s') acc C) hc S G T Y f2 hg ht he hw ?_;rintro D C s' H' Z ag ⟨m,hn⟩ aa un ab L os q;have I3:Inv X qQ σ H' s':=VC G f2 un ab L os;show wpAny _ X.A (assign (.Name y F) X.env (.ref D)) _ _ s';refine wpAny_assign_Name (Wx I3 hN O hx (v:=.ref D) rfl (λs4 I4 ⟨a,ac,ha⟩=>?_) hf);have ad:C≠a:=by
  rcases ha with z | z
  ·rw [z];exact Ydm (Ybe G.lt Z)
  ·obtain ⟨v,q⟩:=G.cell y a z;exact Ydm (Ybe q.lt Z)
 refine ⟨m,hn.sameBut ac ad,λh' ae=>⟨_,H',Yh (C:=C) (σ:=σ) G Z aa I4 ae,q⟩⟩
end
theorem GF {K:PySem.W.Frag}{a D:Addr}{xs:List V}{g:TG}{tc:TT}{te:TE}{G:St}{R:Hp->Prop}{H1:Hp}(B:Nat->List V->Hp->Prop)(h0:B 0 [] (upd H1 D (.lst [])))(U:∀i ys H,i<=xs.length->B i ys H->SqL K H a xs)(Y:∀i x ys H,xs[i]?=some x->B i ys H->g x G H λL Z=>Od G L/\tc L Z λb N=>if b=true then te L N λy O=>O D=some (.lst ys)/\ys.length<sizeLine/\B (i+1) (ys++[y]) (upd O D (.lst (ys++[y]))) else B (i+1) ys N)(hd:∀ys H,B xs.length ys H->R H):∃W:Nat->Nat->List V->Hp->Prop,(∃m,W 0 m [] (upd H1 D (.lst [])))/\Js (Itl K a) D g tc te G W R:=by
 refine ⟨λi m ys H=>m=xs.length-i/\i<=xs.length/\B i ys H,⟨_,rfl,Ybc _,h0⟩,?_⟩;rintro i m ys H ⟨rfl,hi,p⟩;have q:=U i ys H hi p;by_cases F:i<xs.length
 ·refine .inr ⟨⟨xs,xs[i],q,by simp [F]⟩,B (i+1),λaa H' p'=>⟨xs.length-(i+1),by lia,rfl,F,p'⟩,λx H' y=>?_⟩;obtain ⟨e,y⟩:=y;subst e;exact Y i x ys _ (y xs q) p
 ·have e:i=xs.length:=by lia
  subst e;exact .inl ⟨⟨xs,q,Yac _⟩,hd ys H p⟩
theorem VD {lo:Int}{n:Nat}{D:Addr}{g:TG}{tc:TT}{te:TE}{G:St}{R:Hp->Prop}{H1:Hp}(B:Nat->List V->Hp->Prop)(h0:B 0 [] (upd H1 D (.lst [])))(U:∀i ys H,i<n->B i ys H->g (.int (lo+i)) G H λL Y=>Od G L/\tc L Y λb N=>if b=true then te L N λy O=>O D=some (.lst ys)/\ys.length<sizeLine/\B (i+1) (ys++[y]) (upd O D (.lst (ys++[y]))) else B (i+1) ys N)(Z:∀ys H,B n ys H->R H):∃W:Nat->Nat->List V->Hp->Prop,(∃m,W 0 m [] (upd H1 D (.lst [])))/\Js (Itr lo n) D g tc te G W R:=by
 refine ⟨λi m ys H=>m=n-i/\i<=n/\B i ys H,⟨_,rfl,Ybc _,h0⟩,?_⟩;rintro i m ys H ⟨rfl,hi,p⟩;by_cases F:i<n
 ·refine .inr ⟨F,B (i+1),λaa H' p'=>⟨n-(i+1),by lia,rfl,F,p'⟩,λx H' y=>?_⟩;obtain ⟨e,y⟩:=y;subst e y;exact U i ys _ F p
 ·have e:i=n:=by lia
  subst e;exact .inl ⟨Yac _,Z ys H p⟩
theorem Jt {X:Cx}{scope:Scope}{own:List Str}(B:∀y∈scope.names,y.2≠.free)(G:∀y∈scope.names,y.2≠.cell)(L:scope.kind=.function)(N:∀y∈scope.names,y.2=.local->scope.names.lookup y.1=some .local):J0 X scope [] own []:=by
 have D:(relabel scope X.env).names=scope.names:=by
  unfold relabel;dsimp only;refine (List.map_congr_left λp F=>?_).trans (List.map_id _);obtain ⟨n,k⟩:=p;have:(k == NameKind.free)=false:=by
   have:=B _ F;cases k <;> first | rfl | exact absurd rfl this
  simp [this]
 refine ⟨closureFor_none B,G,L,N,λy c h=>by simp at h,λy h=>?_,λp F=>by simp at F⟩;rw [D] at h;rcases h with h | h
 ·exact absurd rfl (G _ (Ydn h))
 ·exact absurd rfl (B _ (Ydn h))
def ZbV (a C:Addr)(h:Heap):Prop:=∃B vs,h.get? a=some B/\B.cls=.ref C/\B.data=.fields vs
def Zit (a C:Addr):HO:=.ext (ZbV a C)
theorem ObjOk.there {P:Program}{w:World}{H:Hp}{h:Heap}{a:Addr}{u:HO}(ok:ObjOk P w H h a u):∃v,h.get? a=some v:=by
 cases u with
 | lst xs=>obtain ⟨_,_,_,_,e⟩:=ok;exact ⟨_,e⟩
 | tup xs=>obtain ⟨_,_,_,o,e,_⟩:=ok;exact ⟨_,e⟩
 | dK kvs=>obtain ⟨_,_,_,_,o,_,_,e,_⟩:=ok;exact ⟨_,e⟩
 | dT kvs=>obtain ⟨_,_,_,_,o,_,_,e,_⟩:=ok;exact ⟨_,e⟩
 | set S n=>obtain ⟨o,_,_,_,e,_⟩:=ok;exact ⟨_,e⟩
 | ins C dx fs=>obtain ⟨_,_,_,e,_⟩:=ok;exact ⟨_,e⟩
 | own y=>obtain ⟨_,e⟩:=ok;exact ⟨_,e⟩
 | xd fs=>obtain ⟨_,⟨_,_,_,e,_⟩,_⟩:=ok;exact ⟨_,e⟩
 | rng lo hi=>obtain ⟨_,_,_,e⟩:=ok;exact ⟨_,e⟩
 | frz ob u=>obtain ⟨e,_⟩:=ok;exact ⟨_,e⟩
 | tbl ps=>exact ⟨_,show h.get? a=some _ from ok⟩
 | met f y=>exact ⟨_,show h.get? a=some _ from ok⟩
 | ext φ=>obtain ⟨_,⟨_,e⟩,_⟩:=ok;exact ⟨_,e⟩
def Zhw (P:Program)(w:World)(outer:List Env)(H H':Hp)(s:Shared)(a C:Addr)(s':Shared):Prop:=
 ∃(t:Addr)(B:Heap),s'.os=s.os/\AllBare s'.gens/\Un (frs outer) [] H H' s.heap s'.heap/\HOk P w H' s'.heap/\Heap.FlyingW B outer a (.ref C) (.ref t) s'.heap /\
  (∀b o,s'.heap.get? b=some o->H' b≠none->B.get? b=some o)/\(∀b D o,s.heap.get? b=some D->s'.heap.get? b=some o->b ∉ frs outer->B.get? b=some o)
def CXr (P:Program)(w:World):CXT:=λB H s E e s'=>∃(a C:Addr)(H':Hp),e=.ref a/\Zhw P w B H H' s a C s'/\E (.ref C) none H'
section
variable {X:Cx}{qQ:List (Addr×Obj)}{σ:St}{H:Hp}{s:Shared}
def Yi (X:Cx)(E:XK):Prop:=∀(qQ:List (Addr×Obj))(σ:St)(H:Hp)(s:Shared)(h':Heap)(a C:Addr)(vs:List Value),Inv X qQ σ H s->Heap.MadeExcOf s.heap h' a (.ref C) vs->E (.ref C) none H->X.xe (.ref a) { s with heap:=h' }
theorem JF {P:Program}{w:World}{K:W.Frag}{mg:Str->Option Value}{base:Heap}{N:List Str}{B:Str}{scope:Scope}{f:Addr}{L:Value}{A:Around}{outer:List Env}{s:Shared}{H:Hp}{E:XK} :
  Yi (ZZ (CXr P w) P w K mg base N B scope f L A outer s H E) E:=by
 intro qQ σ H1 s1 h' a C vs I hx hE;have ad:=I.ok.frames;have aa:s1.heap.FunFrames base (envOfC B scope s.heap.objs.size f L::outer):=I.stack;have ae:∀Y∈(envOfC B scope s.heap.objs.size f L::outer),∀b,Y.frame=some b->b∈frs (envOfC B scope s.heap.objs.size f L::outer):=λY he b O=>Ydx.mpr ⟨Y,he,O⟩;have D:∀b o,s1.heap.get? b=some o->b ∉ frs (envOfC B scope s.heap.objs.size f L::outer)->(W.hideAll s1.heap (frs (envOfC B scope s.heap.objs.size f L::outer))).get? b=some o:=λb o e n=>W.hideAll_get _ e n;refine wpAny_leaves_madeW (base:=W.hideAll s1.heap (frs (envOfC B scope s.heap.objs.size f L::outer))) ad rfl (λb o q=>W.of_hideAll _ q) (W.funFrames_hide aa ae) hx λh2 t fl tu tn sm=>?_;refine ⟨a,C,H1,rfl,⟨t,_,I.os,I.bare,⟨λb o e n O _=>?_,λb o e n O _=>?_,λb o e n _=>?_,λb o e _=>?_,I.base.tups,I.base.frzs,I.base.tbls⟩,λb u e=>?_,fl,λb o e n=>?_,λb o0 o e0 e nb=>?_⟩,hE⟩
 ·have F:s1.heap.get? b=some o:=I.base.keep b o e n O (by intro z;exact absurd (show b∈([]:List Addr) from z) (by simp));refine fl.1 b o (D b o F λz=>?_);rcases Yar.mp (I.stkSub b z) with q | q
  ·exact absurd (Ybe (Yaj e) I.ok.above) (by rw [q];exact Ybt _)
  ·exact O q
 ·obtain ⟨sl,F⟩:=I.base.slot b o e n O (by intro z;exact absurd (show b∈([]:List Addr) from z) (by simp));have nf:∀vs,o.data≠.fields vs:=by
   obtain ⟨_,o',G,Z⟩:=I.funs.mem (show b∈(outer.filterMap (·.frame)) from O);rw [F] at G;cases G;exact Z
  obtain ⟨ab,U⟩:=sm b { o with slots:=sl } (hx.keeps b _ F) nf;exact ⟨ab,U⟩
 ·exact I.base.free b o e n (by intro z;exact absurd (show b∈([]:List Addr) from z) (by simp))
 ·obtain ⟨o1,F⟩:=I.base.there b o e (by intro z;exact absurd (show b∈([]:List Addr) from z) (by simp));by_cases O:b∈frs (envOfC B scope s.heap.objs.size f L::outer)
  ·obtain ⟨_,o',G,Z⟩:=aa.mem O;rw [F] at G;cases G;obtain ⟨ab,U⟩:=sm b o1 (hx.keeps b _ F) Z;exact ⟨_,U⟩
  ·exact ⟨o1,fl.1 b o1 (D b o1 F O)⟩
 ·have trk:∀c v,s1.heap.get? c=some v->H1 c≠none->h2.get? c=some v:=λc v q hc=>fl.1 c v (D c v q λz=>hc (I.stkFree c z));refine (I.hok b u e).stay (λc v hc q=>trk c v q ?_) (λ_ q=>q) λ_ _ q=>q;rcases hc with z | z
  ·rw [z,e];simp
  ·rw [z];simp
 ·cases q':H1 b with
  | none=>exact absurd q' n
  | some u=>
   obtain ⟨v,q⟩:=(I.hok b u q').there;have nb:b ∉ frs (envOfC B scope s.heap.objs.size f L::outer):=λz=>n (I.stkFree b z);have U:=fl.1 b v (D b v q nb);rw [e] at U;cases U;exact D b _ q nb
 ·obtain ⟨o1,F⟩:=I.base.there b o0 e0 (by intro z;exact absurd (show b∈([]:List Addr) from z) (by simp));have ac:b ∉ frs (envOfC B scope s.heap.objs.size f L::outer):=λz=>by
   rcases Yar.mp (I.stkSub b z) with q | q
   ·exact absurd (Ybe (Yaj e0) I.ok.above) (by rw [q];exact Ybt _)
   ·exact nb q
  have U:=fl.1 b o1 (D b o1 F ac);have e':h2.get? b=some o:=e;rw [e'] at U;cases U;exact D b _ F ac
theorem ZbW {P:Program}{w:World}{outer:List Env}{H H':Hp}{s s':Shared}{a C t:Addr}{B h2:Heap}(un:Un (frs outer) [] H H' s.heap s'.heap)(Y:HOk P w H' s'.heap)(fr:s'.heap.FunFrames B outer)(trk:∀b o,s'.heap.get? b=some o->H' b≠none->B.get? b=some o)(N:∀b o0 o,s.heap.get? b=some o0->s'.heap.get? b=some o->b ∉ frs outer->B.get? b=some o)(st:B.StaysIn h2)(sm:s'.heap.UpToSlots h2) :
  Un (frs outer) [] H H' s.heap h2/\HOk P w H' h2:=by
 refine ⟨⟨λb o e n F O=>st b o (N b o o e (un.keep b o e n F O) F),λb o e n F O=>?_,un.free,λb o e O=>?_,un.tups,un.frzs,un.tbls⟩,λb u e=>?_⟩
 ·obtain ⟨sl,L⟩:=un.slot b o e n F O;obtain ⟨_,o',D,G⟩:=fr.mem F;rw [L] at D;cases D;obtain ⟨U,Z⟩:=sm b _ L G;exact ⟨U,Z⟩
 ·obtain ⟨o1,L⟩:=un.there b o e O;by_cases F:b∈frs outer
  ·obtain ⟨_,o',D,G⟩:=fr.mem F;rw [L] at D;cases D;obtain ⟨U,Z⟩:=sm b _ L G;exact ⟨_,Z⟩
  ·exact ⟨o1,st b o1 (N b o o1 e L F)⟩
 ·refine (Y b u e).stay (λc v hc q=>st c v (trk c v q ?_)) (λ_ q=>q) λ_ _ q=>q;rcases hc with z | z
  ·rw [z,e];simp
  ·rw [z];simp
end
abbrev Ziu:List Value:=[.type "ValueError", .type "Exception", .type "BaseException", .type "object"]
abbrev ExcC (K:W.Frag)(C:Addr):Prop:=W.excIn K C Ziu "ValueError.__new__" = true
theorem XA {K:W.Frag}{h:Heap}{C:Addr}(Z:K.In h)(ex:ExcC K C):∃D F G,(∃aa ab ac ad ae L af N O j0 j1 j2 j3 j5,
  h.get? C=some (excClassObj aa ab C F ac D ad ae L af N O j0 j1 j2 j3 j5 "ValueError.__new__"))/\h.Ns F G/\G "__init__" = none/\OwnTail h Ziu D:=by
 have ex':=ex;unfold ExcC W.excIn at ex';split at ex'
 ·rename_i O U Y lk;have ag:=Z _ _ lk;split at ex'
  ·rename_i C' B j0 j1 j2 j3 n' j5 hm hs;rw [Ycl,Ycl,Ycl,Ycl,Ycl,Ybo,Ybo,Ybo] at ex';obtain ⟨⟨⟨⟨⟨z1,z2⟩,z3⟩,z4⟩,z5⟩,z6⟩:=ex';have ah:U.hasDel=false:=by simpa using z3
   subst z1 z2;cases U with
   | mk a1 a2 a3 a4 a5 a6 a7 a8 a9 a10 a11=>
    have ai:a3=.ref C'::B:=hm;have aj:a11=false:=ah;subst ai aj;have es:Y=#[j0,j1,j2,j3,some (.builtin "ValueError.__new__"),j5]:=by
     cases Y with
     | mk l=>exact Ybb Array.mk hs
    subst es;exact ⟨B,a4,_,⟨_,_,_,_,_,_,_,_,_,_,_,_,_,_,ag⟩,.of_isNs (W.isNs_of_in Z z5),W.nsMap_none_of_in Z z5 z6,W.tail_of_in Z z4⟩
  ·cases ex'
 ·cases ex'
section
variable {X:Cx}
def ZfD (C:Addr)(E:XK)(t:TA):TS:=λ_ σ H=>t σ H λvs H1=>vs.length<=sizeLine/\E (.ref C) none H1
theorem OV {C:Addr}{E:XK}{x:Str}{np qK pos:Pos}{e:Expr}{es:List Expr}{t:TA}(hc:X.calm=true)(hR:Yi X E)(hg:Gl X x)(U:X.mg x=some (.ref C))(ex:ExcC X.K C)(ha:PA X (e::es) t)(Y:(x == ("__debug__" : Str))=false:=by decide)(he:starEach (e::es) X.env=(false,eval e X.env)::starEach es X.env:=by rfl)(Z:(backTo qK (starEach es X.env)).any (·.1)=false:=by rfl) :
  PS X (.Raise (some (.Call (.Name x np) (e::es) [] qK)) none pos) (ZfD C E t):=by
 intro qQ s σ H D I h;obtain ⟨B,aa,ac,⟨ad,ae,af,ag,ah,G,ai,L,aj,j0,j1,j2,j3,j5,hC⟩,hN,ak,T⟩:=XA I.mod.kin ex;refine wpAny_Raise_call_subT (C:=C) (nm:=ad) (q:=ae) (N:=aa) (bs:=af) (bm:=B) (hdct:=ag) (sn:=ah) (sub:=G) (ab:=ai) (col:=L) (dd:=aj) (k0:=j0) (k1:=j1) (k2:=j2) (k3:=j3) (k5:=j5)
  PySem.F.excBase_ValueError (mN:=ac) (T.hasType PySem.F.excBase_ValueError.hasBase) (I.ok.hd hc) (by rw [he];show (false || (backTo qK (starEach es X.env)).any (·.1))=false;rw [Z];rfl) ak (Xx I hg U ⟨rfl,?_⟩ Y)
 have hA:=ha qK qQ s σ H _ I h;rw [he] at hA ⊢;refine Calls.evalArgs_plain (thn hA λus s2 ⟨vs,H2,O,r2,hl,q2⟩=>?_);exact ⟨rfl,by rw [<-r2.length];exact hl,O.bk _ _ hC,hN.keeps O.bk,T.keeps O.bk,λh' a U=>hR qQ σ H2 s2 h' a C us O U q2⟩
variable {qQ:List (Addr×Obj)}{σ:St}{H:Hp}{s:Shared}
end
theorem Yj {M:Model}{h:Heap}{a C:Addr}(B:ZbV a C h):W.Looks M h (typeOf (.ref a)) (.ref C):=by
 obtain ⟨D,vs,e,c,d⟩:=B;exact c▸(W.Looks.ld e).andThen .now
theorem Z8 {K:W.Frag}{prog:Program}{w:World}{A:Around}{E:Value->Shared->Prop}{Q:Option Value->Shared->Prop}{s:Shared}{a C:Addr}(D:K.In s.heap)(hx:ZbV a C s.heap)(L:W.findIn K (.ref C) "__getattribute__" = some (some (.builtin "BaseException.__getattribute__")))(G:W.findIn K (.ref C) "__getattr__" = some none)(N:W.findIn K (.ref C) "__class__" = some (some (.builtin "object.__class__")))(hm:W.mroIn K C (.type "object")=some true)(hB:W.subIn K (.ref C) (.type "BaseException")=some true)(h:Q (some (.ref C)) { s with toks:=s.toks+1 }):wpAny (model prog w) A (getAttr? (.ref a) "__class__") Q E s:=by
 have B:=Yj (M:=model prog w) hx;have L1:=W.looks_findIn (M:=model prog w) D L;have L2:=W.looks_findIn (M:=model prog w) D G;have L3:=W.looks_findIn (M:=model prog w) D N;have L4:=W.looks_subIn (M:=model prog w) D hB;obtain ⟨h0,g,d,t,os⟩:=s;have f3:=PySem.F.attr_ValueError.ga.bind (.ref a);unfold getAttr? getAttrBy? getAttrBy;refine Yab (wpAny_mkText (Yab (Yeh (Ycw (Yab (B.at (Yab (L1.at ?_))))))));dsimp only;have O:(onTheHeap (Value.ref C) && Value.builtin "BaseException.__getattribute__" == Value.builtin "object.__getattribute__")=false:=by
  have z:(Value.builtin "BaseException.__getattribute__" == Value.builtin "object.__getattribute__")=false:=by decide +kernel
  rw [z,Bool.and_false]
 rw [O];simp only [Ydo,Ycz];unfold getAttrByItsOwn
 repeat (any_goals (first | assumption | with_reducible refine B.at ?_ | with_reducible refine L2.at ?_ | wp_step))
 have U:splitId "BaseException.__getattribute__" = some ("BaseException", "__getattribute__"):=by decide +kernel
 have Y:builtinKind "BaseException.__getattribute__" = some .slot:=by decide +kernel
 have aa:=PySem.F.args_bexc_ga (.ref a) (.str (Str.ofString "__class__") t);refine codeAny_call_builtin PySem.F.attr_ValueError.ga.plain PySem.F.entry_bexc_ga ?_;show wpAny _ _ (checkBuiltinCall "BaseException.__getattribute__" ⟨[.ref a,.str (Str.ofString "__class__") t],[]⟩) _ _ _;simp only [checkBuiltinCall,Y,U];refine Yab ?_;unfold isInstance;have f5:=PySem.F.typeOf_object_class;have f6:=PySem.F.slot_gs_get.lookup;have f7:=PySem.F.slot_gs_set.lookup;have ab:(⟨h0,g,d,t+1,os⟩:Shared).TypeIs (.builtin "object.__class__") "getset_descriptor" := PySem.F.typeOf_object_class;refine Yab (B.at (L4.at ?_))
 repeat (any_goals (first | assumption | with_reducible refine B.at ?_ | with_reducible refine L3.at ?_ | wp_step))
 have Lo:W.Looks (model prog w) h0 (isSubtype (.ref C) (.type (".".intercalate ("object.__class__".cutAt '.').dropLast))) true:=by
  rw [PySem.F.owner_object_class];exact W.looks_mroIn D hm
 have Z:(⟨h0,g,d,t+1,os⟩:Shared).TypeIs (.builtin "object.__class__") "getset_descriptor" := PySem.F.typeOf_object_class;refine codeAny_call_builtin PySem.F.slot_gs_get.plain PySem.F.entry_gs_get (PySem.F.slot_gs_get.check _ _ _ _ _ _ _ _ Z (PySem.F.args_gs_get _ _ _) ?_)
 repeat (any_goals (first | assumption | with_reducible refine B.at ?_ | with_reducible refine Lo.at ?_ | wp_step))
 refine ⟨Code.quiet_builtin _ (by decide +kernel),Ydg PySem.F.entry_object_class ?_⟩
 repeat (any_goals (first | assumption | with_reducible refine B.at ?_ | wp_step))
structure Zhx (K:W.Frag)(C:Addr):Prop where
 ex:ExcC K C
 ga:W.findIn K (.ref C) "__getattribute__" = some (some (.builtin "BaseException.__getattribute__"))
 nga:W.findIn K (.ref C) "__getattr__" = some none
 cl:W.findIn K (.ref C) "__class__" = some (some (.builtin "object.__class__"))
 ob:W.mroIn K C (.type "object")=some true
 be:W.subIn K (.ref C) (.type "BaseException")=some true
theorem Yk {K:W.Frag}{a C:Addr}(k:Zhx K C):W.KitX K (.ref a) (.ref C) (ZbV a C) where
 ty:=λ_ _ _ p=>Yj p
 it:=λM h KX _=>by
  obtain ⟨_,_,_,⟨_,_,_,_,_,_,_,_,_,_,_,_,_,_,hC⟩,_⟩:=XA KX k.ex;intro A Q E s kk q;unfold isType loadHead;exact Yab (wpAny_loadPart (kk _ _ hC) (Yag q))
 ne:=λh tp dd its n sl KX htp=>by
  obtain ⟨_,_,_,⟨_,_,_,_,_,_,_,_,_,_,_,_,_,_,hC⟩,_⟩:=XA KX k.ex;refine Ydz.mpr λq=>?_;have e:C=tp:=Value.ref.inj (Ybo.mp q);rw [<-e,hC] at htp;have z:=Ybb Obj.data (Yaw htp);unfold excClassObj at z;cases z
 ca:=λKX p q=>Z8 KX p k.ga k.nga k.cl k.ob k.be q
def WP:V->Value
 | .ty n=>.type n
 | .ref a=>.ref a
 | _=>.none
def Z9:V->Bool
 | .ty _=>true
 | .ref _=>true
 | _=>false
theorem RelV.cls {c:V}{u:Value}(r:RelV c u)(h:Z9 c=true):u=WP c:=by
 cases c with
 | ty n=>exact r
 | ref a=>exact r
 | _=>cases h
theorem Vals.cls:∀{cs:List V}{us:List Value},Vals cs us->cs.all Z9=true->us=cs.map WP
 | _,_,.nil,_=>rfl
 | _,_,.cons r t,h=>by
  rw [List.all_cons,Ycl] at h;rw [Yat,r.cls h.1,Vals.cls t h.2]
def Ziv (K:W.Frag):List V->Hp->VK->Prop:=λxs H Q=>∃x c b,xs=[x,c]/\Q (.bl b) H /\
 ((∃t,Y9 K H x t/\Z9 c=true/\W.kitOne K t (WP c)=some b) \/
  (∃a C,x=.ref a/\H a=some (Zit a C)/\Zhx K C/\Z9 c=true/\W.kitOne K (.ref C) (WP c)=some b) \/
  (∃a C B cs,x=.ref a/\H a=some (Zit a C)/\Zhx K C/\c=.ref B/\H B=some (.tup cs)/\cs.all Z9=true/\W.kitAny K (.ref C) (cs.map WP)=some b))
theorem VW {X:Cx}:JE X (.builtin "isinstance") (Ziv X.K):=by
 intro qQ s σ H xs us Q I U h;obtain ⟨x,c,b,rfl,q,h⟩:=h;obtain ⟨u,Y,rfl,D,F⟩:=U.two;have fin:∀tk,EP X qQ σ Q (.bool b) { s with toks:=tk }:=λtk=>⟨.bl b,H,I.tok tk,rfl,q⟩;rcases h with ⟨t,ty,B,e⟩ | ⟨a,C,rfl,G,k,B,e⟩ | ⟨a,C,O,cs,rfl,G,k,rfl,Z,B,e⟩
 ·rw [F.cls B];exact ZX I D ty e fin
 ·rw [F.cls B];cases (show u=Value.ref a from D);obtain ⟨p,_⟩:=I.hok a _ G;exact Ycx (Yk k) I.kIn p e (λz=>nomatch z) fin
 ·cases (show u=Value.ref a from D);cases (show Y=Value.ref O from F);obtain ⟨p,_⟩:=I.hok a _ G;obtain ⟨_,its,r,o,eo,co,n,dn⟩:=I.hok O _ Z;obtain ⟨L,aa,N,ab⟩:=o;cases (show L=.type "tuple" from co);cases (show N=.seq its.toArray n from dn);exact W.kia_tup (its:=its) (Yk k) I.kIn p eo (by rw [r.cls B];exact e) (λz=>nomatch z) fin
mutual
inductive DatV (K:W.Frag)(H:Hp):V->PyData->Prop
 | non:DatV K H .non .none
 | bl (b:Bool):DatV K H (.bl b) (.bool b)
 | int (i:Int):DatV K H (.int i) (.int i)
 | str (x:Str):DatV K H (.str x) (.str x)
 | lst {a:Addr} {xs:List V} {ds:List PyData}:SqL K H a xs->DatVs K H xs ds->DatV K H (.ref a) (.list ds)
 | tup {a:Addr} {xs:List V} {ds:List PyData}:SqT K H a xs->DatVs K H xs ds->DatV K H (.ref a) (.tuple ds)
inductive DatVs (K:W.Frag)(H:Hp):List V->List PyData->Prop
 | nil:DatVs K H [] []
 | cons {x:V} {d:PyData} {xs:List V} {ds:List PyData}:DatV K H x d->DatVs K H xs ds->DatVs K H (x::xs) (d::ds)
end
section
variable {X:Cx}{qQ:List (Addr×Obj)}{σ:St}{H:Hp}{s:Shared}
mutual
theorem DatV.reads (I:Inv X qQ σ H s):∀{x:V}{d:PyData}{u:Value},DatV X.K H x d->RelV x u->∃B,Reads s.heap u d B
 | _,_,_,.non,r=>by cases r;exact ⟨_,.none⟩
 | _,_,_,.bl b,r=>by cases r;exact ⟨_,.bool b⟩
 | _,_,_,.int i,r=>by obtain ⟨t,rfl⟩:=r;exact ⟨_,.int i t⟩
 | _,_,_,.str x,r=>by obtain ⟨t,rfl⟩:=r;exact ⟨_,.str x t⟩
 | _,_,_,.lst hq hs,r=>by
  cases r;obtain ⟨D,F,⟨o,n,e,c,N,G⟩,_⟩:=I.list hq;obtain ⟨B,L⟩:=DatVs.reads I hs F;exact ⟨_,.list e c G (by simpa using L)⟩
 | _,_,_,.tup hq hs,r=>by
  cases r;obtain ⟨D,F,⟨o,e,c,n,G⟩,_⟩:=I.tuple hq;obtain ⟨B,L⟩:=DatVs.reads I hs F;exact ⟨_,.tuple e c G (by simpa using L)⟩
theorem DatVs.reads (I:Inv X qQ σ H s):∀{xs:List V}{ds:List PyData}{us:List Value},DatVs X.K H xs ds->Vals xs us->∃B,ReadsAll s.heap us ds B
 | _,_,_,.nil,.nil=>⟨_,.nil⟩
 | _,_,_,.cons h hs,.cons r rs=>by
  obtain ⟨B,ra⟩:=DatV.reads I h r;obtain ⟨bs,D⟩:=DatVs.reads I hs rs;exact ⟨_,.cons ra D⟩
end
end
def Zhc (K:W.Frag)(B:Bool):R2:=λx y H Q=>∃D F,DatV K H x D/\DatV K H y F/\SeqAt.shaped D=true/\SeqAt.shaped F=true/\Q (.bl (B != PyData.eqv D F)) H
theorem ZfE {X:Cx}(B:X.A.units+64<cLine):OpR X (compareOp .Eq) (Zhc X.K false):=by
 intro qQ s σ H x y v u Q I D F h;obtain ⟨G,L,h1,h2,s1,N,q⟩:=h;obtain ⟨U,r1⟩:=h1.reads I D;obtain ⟨bs,O⟩:=h2.reads I F;exact eq_dataH r1 O s1 N B ⟨.bl _,H,I,by cases PyData.eqv G L <;> rfl,q⟩
theorem ZfF {X:Cx}(B:X.A.units+64<cLine):OpR X (compareOp .NotEq) (Zhc X.K true):=by
 intro qQ s σ H x y v u Q I D F h;obtain ⟨G,L,h1,h2,s1,N,q⟩:=h;obtain ⟨U,r1⟩:=h1.reads I D;obtain ⟨bs,O⟩:=h2.reads I F;exact ne_dataH r1 O s1 N B ⟨.bl _,H,I,by cases PyData.eqv G L <;> rfl,q⟩
theorem Same.new {H:Hp}{p:Addr}{o:HO}(h:H p=none):Same H (upd H p o):=λb u e=>by rw [Gr (Gh e h)];exact e
theorem Same.put {H H1:Hp}{p:Addr}{o:HO}(s:Same H H1)(h:H p=none):Same H (upd H1 p o):=λb u e=>by rw [Gr (Gh e h)];exact s b u e
theorem Gq {H:Hp}{p b:Addr}{o u:HO}(h:H b=some u)(n:b≠p):upd H p o b=some u:=by rw [Gr n];exact h
inductive Prs (H:Hp):List V->List (Int×Int)->Prop
 | nil:Prs H [] []
 | cons {p:Addr} {a b:Int} {xs:List V} {rs:List (Int×Int)}:H p=some (.tup [.int a,.int b])->Prs H xs rs->Prs H (.ref p::xs) ((a,b)::rs)
theorem Prs.len {H:Hp}{xs:List V}{rs:List (Int×Int)}(h:Prs H xs rs):xs.length=rs.length:=by
 induction h with
 | nil=>rfl
 | cons _ _ ih=>rw [Ybi,Ybi,ih]
theorem Prs.snoc {H:Hp}{xs:List V}{rs:List (Int×Int)}(h:Prs H xs rs){p:Addr}{a b:Int}(e:H p=some (.tup [.int a,.int b])):Prs H (xs++[.ref p]) (rs++[(a,b)]):=by
 induction h with
 | nil=>exact .cons e .nil
 | cons e1 _ ih=>exact .cons e1 ih
theorem Prs.keep {H H':Hp}{xs:List V}{rs:List (Int×Int)}(h:Prs H xs rs)(k:∀p ys,H p=some (.tup ys)->H' p=some (.tup ys)):Prs H' xs rs:=by
 induction h with
 | nil=>exact .nil
 | cons e1 _ ih=>exact .cons (k _ _ e1) ih
theorem Prs.same {H H':Hp}{xs:List V}{rs:List (Int×Int)}(h:Prs H xs rs)(k:Same H H'):Prs H' xs rs:=h.keep λp ys e=>k p _ e
theorem UC {H:Hp}{l:Addr}{zs:List V}{o:HO}(h:H l=some (.lst zs)):∀p ys,H p=some (.tup ys)->upd H l o p=some (.tup ys):=λp ys e=>Gq e (J4 e h (λz=>by cases z))
theorem Yl {H:Hp}{l:Addr}{o:HO}(h:H l=none):∀p ys,H p=some (.tup ys)->upd H l o p=some (.tup ys):=λp ys e=>Gq e (Gh e h)
def prD (r:Int×Int):PyData:=.tuple [.int r.1,.int r.2]
theorem Prs.dats {K:W.Frag}{H:Hp}{xs:List V}{rs:List (Int×Int)}(h:Prs H xs rs):DatVs K H xs (rs.map prD):=by
 induction h with
 | nil=>exact .nil
 | cons e _ ih=>exact .cons (.tup (SqT.of e) (.cons (.int _) (.cons (.int _) .nil))) ih
theorem XB (r q:Int×Int):PyData.eqv (prD r) (prD q)=decide (r=q):=by
 obtain ⟨a,b⟩:=r;obtain ⟨c,d⟩:=q;simp only [prD,PyData.eqv,PyData.eqvAll,Prod.mk.injEq];by_cases h1:a=c <;> by_cases h2:b=d <;> simp [h1,h2]
section
variable {P:Program}{w:World}{K:W.Frag}{mg:Str->Option Value}{base:Heap}
theorem Fun.okR {x B:Str}{st:Stmt}{f:Addr}{fd:FuncData}{N ps:List Str}{k:Nat}{sp:Sp}(F:Fun K x B st f fd)(S:Gp N ps (Ge st))(len:∀vs H Q E,sp vs H Q E->vs.length=ps.length)(O:∀(D:Value)(A:Around)(outer:List Env)(s:Shared)(H:Hp)(vs:List V)(Q:VK)(E:XK),Room k (A.deeper (envOfC B (Ge st) s.heap.objs.size f D))->sp vs H Q E ->
   ∃t,PSs (ZZ (CXr P w) P w K mg base N B (Ge st) f D A outer s H E) (G3 st) t/\t { nx:=λ_ H'=>Q .non H',rt:=Q } (start N vs) H):GJ P w K mg base (CXr P w) (k+1) f fd ps sp:=by
 obtain ⟨oc,od,kV,U,pm,an,D,ct,Y,rfl,Z,G⟩:=F.ex;refine ZdZ Z G S len λA outer s H vs Q E hr L=>?_;obtain ⟨t,h,q⟩:=O D A outer s H vs Q E hr L;exact ⟨t,h,q⟩
theorem Zb {X:Cx}:WB (CXr X.prog X.w) X E0:=λ_ _ _ _ _ _ _ ⟨_,_,_,_,_,h⟩=>h.elim
end
section
variable {X:Cx}
theorem Zaa {x:Str}{T:String}{pos:Pos}(B:X.mg x=none)(D:bootBuiltins x=some (.type T))(F:Gl X x:=by rfl)(G:x ≠ "__name__" := by decide)(L:(x == ("__debug__" : Str))=false:=by decide):PE X (.Name x pos) (tC (.ty T)):=ZdR F B D rfl G L
end
theorem VX:bootBuiltins "isinstance" = some (.builtin "isinstance"):=by first | rfl | decide +kernel
theorem Ug:bootBuiltins "tuple" = some (.type "tuple"):=by first | rfl | decide +kernel
theorem JG:bootBuiltins "list" = some (.type "list"):=by first | rfl | decide +kernel
theorem Zab:bootBuiltins "bool" = some (.type "bool"):=by first | rfl | decide +kernel
theorem ZbX:bootBuiltins "int" = some (.type "int"):=by first | rfl | decide +kernel
theorem Ym {K:W.Frag}{t:Value}:W.kitOne K t t=some true:=by
 unfold W.kitOne;rw [if_pos (Yei t)]
section
variable {X:Cx}(K:W.Frag)
theorem Zjb (h:X.K=K:=by rfl):JE X (.builtin "isinstance") (Ziv K):=h▸VW
theorem U3 (h:X.K=K:=by rfl):IxR X (Ziq K):=h▸Zd2
theorem Ut (h:X.K=K:=by rfl):IxR X (Zir K):=h▸Zfx
theorem kIn (h:X.K=K:=by rfl):OpR X (compareOp .In) (rIn K false):=h▸Z3
theorem Zac (h:X.K=K:=by rfl):OpR X (compareOp .NotIn) (rIn K true):=h▸WI
theorem Zd7 (h:X.K=K:=by rfl):JE X (.builtin "len") (λxs H Q=>∃p ys,xs=[.ref p]/\(SqL K H p ys\/SqT K H p ys)/\Q (.int ys.length) H):=h▸WJ
theorem VY (h:X.K=K:=by rfl):JE X (.type "list") (λxs H Q=>∃p ys,xs=[.ref p]/\(SqL K H p ys\/SqT K H p ys)/\∀l,H l=none->Q (.ref l) (upd H l (.lst ys))):=h▸WK
theorem Ziw (B:X.A.units+64<cLine)(h:X.K=K:=by rfl):OpR X (compareOp .Eq) (Zhc K false):=h▸ZfE B
theorem ZE (B:X.A.units+64<cLine)(h:X.K=K:=by rfl):OpR X (compareOp .NotEq) (Zhc K true):=h▸ZfF B
theorem kSl (h:X.K=K:=by rfl):SlR X (Zis K):=h▸Zd3
theorem Wu {es:List Expr}{k:Nat}{t:TGs}{n:Nat}{pos:Pos}(D:X.calm=true)(h:PGs X es t)(F:X.K=K:=by rfl)(G:(assignEach es X.env).length=n:=by rfl)(B:(assignEach es X.env).findIdx? (·.1)=none:=by rfl):PG X (.Tuple es k pos) (Zij K n t):=F▸Zfn D h G B
theorem Oy {tg l:Expr}{tl:TE}(B:PE X l tl)(h:X.K=K:=by rfl):PI X tg l (Zfp K tl):=h▸ZdU B
end
end L2
namespace L2
open PySem
def Vs (r c:Nat)(p:Nat):List (Int×Int):=
 (if ((p:Int)+1) % (c:Int)=0 then [] else [((p:Int),(p:Int)+1)])++(if (p:Int)+(c:Int)<(r:Int) * (c:Int) then [((p:Int),(p:Int)+(c:Int))] else [])
def gRoads (r c i:Nat):List (Int×Int):=(List.range i).flatMap (Vs r c)
def Zc (r c i j:Nat):List (Int×Int):=
 (if (j:Int)<(c:Int)-1 then [((i:Int) * (c:Int)+(j:Int),(i:Int) * (c:Int)+(j:Int)+1)] else []) ++
 (if (i:Int)<(r:Int)-1 then [((i:Int) * (c:Int)+(j:Int),((i:Int)+1) * (c:Int)+(j:Int))] else [])
def Zd8 (r c i j:Nat):List (Int×Int):=(List.range j).flatMap (Zc r c i)
def VE (r c i:Nat):List (Int×Int):=(List.range i).flatMap λk=>Zd8 r c k c
theorem OH (r c i:Nat):gRoads r c (i+1)=gRoads r c i++Vs r c i:=by
 unfold gRoads;rw [List.range_succ,List.flatMap_append,List.flatMap_singleton]
theorem Zad (r c i j:Nat):Zd8 r c i (j+1)=Zd8 r c i j++Zc r c i j:=by
 unfold Zd8;rw [List.range_succ,List.flatMap_append,List.flatMap_singleton]
theorem XC (r c i:Nat):VE r c (i+1)=VE r c i++Zd8 r c i c:=by
 unfold VE;rw [List.range_succ,List.flatMap_append,List.flatMap_singleton]
theorem Zd9 {r c i j:Nat}(hi:i<r)(N:j<c):Vs r c (i * c+j)=Zc r c i j:=by
 have B:(((i * c+j:Nat):Int)+1) % (c:Int)=0↔¬ ((j:Int)<(c:Int)-1):=by
  have q:(((i * c+j:Nat):Int)+1) % (c:Int)=(((j+1) % c:Nat):Int):=by
   have:((i * c+j:Nat):Int)+1=((j+1+c * i:Nat):Int):=by push_cast;rw [Int.mul_comm];lia
   rw [this,<-Int.natCast_emod,Nat.add_mul_mod_self_left]
  rw [q];by_cases h:j+1=c
  ·rw [h,Nat.mod_self];constructor
   ·intro _;lia
   ·intro _;rfl
  ·rw [Nat.mod_eq_of_lt (by lia)];constructor
   ·intro z;lia
   ·intro z;lia
 have D:(((i * c+j:Nat):Int)+(c:Int)<(r:Int) * (c:Int))↔(i:Int)<(r:Int)-1:=by
  constructor
  ·intro z;by_cases h:i+1<r
   ·lia
   ·exfalso;have:r=i+1:=by lia
    subst this;have m:((i+1:Nat):Int) * (c:Int)=(i:Int) * (c:Int)+(c:Int):=by push_cast;rw [Int.add_mul,Int.one_mul]
    rw [m] at z
    push_cast at z
    lia
  ·intro z;have h:i+2<=r:=by lia
   have m:=Nat.mul_le_mul_right c h;have O:(i+2) * c=i * c+2 * c:=Nat.add_mul i 2 c;have F:((i * c+j+c:Nat):Int)<((r * c:Nat):Int):=by lia
   push_cast at F ⊢
   exact F
 have G:((i:Int)+1) * (c:Int)+(j:Int)=((i * c+j:Nat):Int)+(c:Int):=by
  push_cast
  rw [Int.add_mul,Int.one_mul]
  lia
 have L:(i:Int) * (c:Int)+(j:Int)=((i * c+j:Nat):Int):=by push_cast;rfl
 unfold Vs Zc;rw [G,L]
 congr 1
 ·by_cases h:(j:Int)<(c:Int)-1
  ·rw [if_neg (λz=>(B.mp z) h),if_pos h]
  ·rw [if_pos (B.mpr h),if_neg h]
 ·by_cases h:(i:Int)<(r:Int)-1
  ·rw [if_pos (D.mpr h),if_pos h]
  ·rw [if_neg (λz=>h (D.mp z)),if_neg h]
theorem Zdb {r c i:Nat}(hi:i<r):∀{j:Nat},j<=c->((List.range j).map λk=>i * c+k).flatMap (Vs r c)=Zd8 r c i j
 | 0,_=>rfl
 | j+1,hj=>by
  rw [Zad,<-Zdb hi (j:=j) (by lia),List.range_succ,Yal,List.flatMap_append]
  congr 1
  rw [List.map_singleton,List.flatMap_singleton,Zd9 hi (by lia)]
theorem Yn {r c:Nat}:∀{i:Nat},i<=r->gRoads r c (i * c)=VE r c i
 | 0,_=>by rw [Nat.zero_mul];rfl
 | i+1,hi=>by
  rw [XC,<-Yn (i:=i) (by lia),<-Zdb (i:=i) (by lia) (Yac c)];unfold gRoads;rw [Nat.add_mul,Nat.one_mul,List.range_add,List.flatMap_append]
theorem Yo {H H2:Hp}{l t:Addr}{xs:List V}{rs:List (Int×Int)}{a b:Int}(s:Same H H2)(F:H l=none)(h2:H2 l=some (.lst xs))(G:Prs H2 xs rs)(D:H2 t=none) :
  Same H (upd (upd H2 t (.tup [.int a,.int b])) l (.lst (xs++[.ref t])))/\upd (upd H2 t (.tup [.int a,.int b])) l (.lst (xs++[.ref t])) l=some (.lst (xs++[.ref t])) /\
   Prs (upd (upd H2 t (.tup [.int a,.int b])) l (.lst (xs++[.ref t]))) (xs++[.ref t]) (rs++[(a,b)]):=by
 have B:t≠l:=λz=>by rw [z,h2] at D;cases D
 have s1:Same H (upd H2 t (.tup [.int a,.int b])):=s.put (s.free D);refine ⟨s1.put F,Gb,?_⟩;have L:=G.keep (Yl (o:=.tup [.int a,.int b]) D);have N:=L.keep (UC (H:=upd H2 t (.tup [.int a,.int b])) (l:=l) (zs:=xs) (o:=.lst (xs++[.ref t])) (Gq h2 (Ne.symm B)));exact N.snoc (by rw [Gr B,Gb])
end L2
namespace L2
open PySem PySem.Spec PyProof.Rows
def AllP {α:Type}(P:α->Prop):List α->Prop
 | []=>True
 | x::r=>P x/\AllP P r
theorem AllP.mem {α:Type}{P:α->Prop}:∀{l:List α},AllP P l->∀x∈l,P x
 | _::_,h,_,.head _=>h.1
 | _::_,h,x,.tail _ m=>AllP.mem h.2 x m
theorem Gk {X:Cx}{scope:Scope}{cl:List (Str×Addr)}{own:List Str}{fr:List (Str×Nat)}(L:List (Str×NameKind))(B:closureFor scope X.env=pure cl)(G:(relabel scope X.env).names=L)(U:∀y∈scope.names,y.2≠.cell)(Y:scope.kind=.function)(Z:∀y∈scope.names,y.2=.local->scope.names.lookup y.1=some .local)(D:AllP (λp=>X.env.cells.lookup p.1=some p.2) cl)(O:AllP (λp=>(p.2=.cell\/p.2=.free)->∃c,cl.lookup p.1=some c) L)(F:AllP (λp=>X.N[p.2]?=some p.1/\(X.env.kindOf p.1=some .cell\/X.env.kindOf p.1=some .free)/\(L.lookup p.1=some .cell\/L.lookup p.1=some .free)) fr):J0 X scope cl own fr:=
 ⟨B,U,Y,Z,λy c h=>D.mem (y,c) (Ydn h),λy h=>by
  rw [G] at h;rcases h with h | h
  ·exact O.mem _ (Ydn h) (.inl rfl)
  ·exact O.mem _ (Ydn h) (.inr rfl),λp hp=>by
  rw [G];exact F.mem p hp⟩
theorem GG {k:NameKind}{P:Prop}(h:k=.cell\/k=.free)(h1:(k == .cell)=false:=by rfl)(h2:(k == .free)=false:=by rfl):P:=by
 rcases h with z | z
 ·subst z;exact absurd h1 (by decide)
 ·subst z;exact absurd h2 (by decide)
theorem Yp:bootBuiltins "min" = some (.builtin "min"):=by first | rfl | decide +kernel
theorem Prs.get {H:Hp}:∀{xs:List V}{rs:List (Int×Int)},Prs H xs rs->∀{i:Nat}{x:V},xs[i]?=some x->∃t r,x=.ref t/\H t=some (.tup [.int r.1,.int r.2])/\rs[i]?=some r
 | _,_,.nil,_,_,h=>by simp at h
 | _,_,.cons (a:=a) (b:=b) e _,0,_,h=>by
  simp at h;subst h;exact ⟨_,(a,b),rfl,e,rfl⟩
 | _,_,.cons _ r,i+1,x,h=>by
  obtain ⟨t,q,h1,h2,h3⟩:=Prs.get r (i:=i) (x:=x) (by simpa using h);exact ⟨t,q,h1,h2,by simpa using h3⟩
theorem Prs.erase {H:Hp}:∀{xs:List V}{rs:List (Int×Int)},Prs H xs rs->∀i:Nat,Prs H (xs.eraseIdx i) (rs.eraseIdx i)
 | _,_,.nil,_=>.nil
 | _,_,.cons _ r,0=>r
 | _,_,.cons e r,i+1=>.cons e (Prs.erase r i)
theorem J6 {t u:TS}{D:Ends}{σ:St}{H:Hp}(F:St->Hp->Prop)(h2:∀ B H',F B H'->u D B H')(h1:(∀ B H',F B H'->u D B H')->t { D with nx:=u D } σ H):Zig t u D σ H:=h1 h2
theorem Yq:∀{xs:List V}{us:List Value},xs.length=us.length->(∀(i:Nat) x u,xs[i]?=some x->us[i]?=some u->RelV x u)->Vals xs us
 | [],[],_,_=>.nil
 | [],_::_,h,_=>by simp at h
 | _::_,[],h,_=>by simp at h
 | x::xs,u::us,h,k=>.cons (k 0 x u rfl rfl) (Yq (by simpa using h) λi y v e1 e2=>k (i+1) y v (by simpa using e1) (by simpa using e2))
section
variable {X:Cx}
theorem OI:UnR X (unaryOp .USub) (rU λi=>.int (-i)):=by
 intro qQ s σ H x v Q I B h;obtain ⟨i,rfl,q⟩:=h;obtain ⟨t,rfl⟩:=B;exact neg_int ⟨.int (-i),H,I.tok _,⟨_,rfl⟩,q⟩
theorem Yr {xs:List V}{k:Nat}:WG xs (some (k:Int)) none=xs.drop k:=by
 unfold WG;rw [HT.sIx_none,HT.sIx_nat];by_cases h:k<=xs.length
 ·rw [Yea h,Yeb (by rw [Yct];exact Yac _)]
 ·rw [Yej (by lia),List.drop_length,Yek (by lia),List.take_nil]
theorem VZ {xs:List V}{n:Int}(h0:0<=n)(h1:n<xs.length):atI xs n=some (xs.getD n.toNat .non):=by
 obtain ⟨k,rfl⟩:=Int.eq_ofNat_of_zero_le h0;have B:k<xs.length:=by lia
 refine GD ?_;show xs[k]?=some (xs.getD k .non);rw [Yai,Yah B]
 rfl
theorem Je {K:W.Frag}{H:Hp}:∀ns:List Int,DatVs K H (ns.map V.int) (ns.map PyData.int)
 | []=>.nil
 | n::ns=>.cons (.int n) (Je ns)
theorem Ys:∀ns:List Int,PyData.canLayAll0 (ns.map PyData.int)=true
 | []=>by simp [PyData.canLayAll0]
 | n::ns=>by
  rw [Yat];simp [PyData.canLayAll0,PyData.canLay0,Ys ns]
theorem VF:∀ns:List Int,PyData.depthAll (ns.map PyData.int)<=1
 | []=>by simp [PyData.depthAll]
 | n::ns=>by
  have ih:=VF ns;rw [Yat];simp only [PyData.depthAll,PyData.depth]
  lia
theorem GW (ns:List Int):SeqAt.shaped (.list (ns.map PyData.int))=true:=by
 unfold SeqAt.shaped;rw [Ycl];have:=VF ns;refine ⟨by simp only [PyData.canLay0];exact Ys ns,Yae ?_⟩;simp only [PyData.depth]
 lia
theorem OW (ns ms:List Int):PyData.eqv (.list (ns.map PyData.int)) (.list (ms.map PyData.int))=decide (ns=ms):=by
 rw [<-W.ked_eqvAll];simp only [PyData.eqv]
theorem Zae {P:Program}{w:World}{K:W.Frag}{mg:Str->Option Value}{base:Heap}{N:List Str}{D:Str}{scope:Scope}{f:Addr}{U:Value}{A:Around}{outer:List Env}{s:Shared}{H:Hp}{E:XK} :
  WB (CXr P w) (ZZ (CXr P w) P w K mg base N D scope f U A outer s H E) E:=by
 intro qQ σ H1 s1 ev s' I h;obtain ⟨a,C,H',rfl,⟨t,B,os,Y,un,Z,fl,trk,aa⟩,hE⟩:=h;have ad:=I.ok.frames;have nox:∀b:Addr,b ∉ (ZZ (CXr P w) P w K mg base N D scope f U A outer s H E).ex:=λb z=>absurd (show b∈([]:List Addr) from z) (by simp);refine wpAny_leaves_onW ad rfl fl λh2 G sm=>?_;obtain ⟨u2,k2⟩:=ZbW (t:=t) (a:=a) (C:=C) un Z fl.2.2.1 trk aa G.1 sm;have u1:Un (frs (envOfC D scope s.heap.objs.size f U::outer)) [] H H1 s.heap s1.heap:=Un.mono I.base (λb F=>by
  have ae:b∈frs outer:=F;obtain ⟨L,he,q⟩:=Ydx.mp ae;exact Ydx.mpr ⟨L,Ybm _ he,q⟩) (λb F=>absurd F (nox b))
 have O:=u1.trans u2;have ab:∀b o,s.heap.get? b=some o->b ∉ frs outer->b ∉ frs (envOfC D scope s.heap.objs.size f U::outer):=λb o e F z=>by
  rcases Yar.mp (I.stkSub b z) with q | q
  ·exact absurd (Ybe (Yaj e) I.ok.above) (by rw [q];exact Ybt _)
  ·exact F q
 have ac:∀b,b∈frs outer->b∈frs (envOfC D scope s.heap.objs.size f U::outer):=λb F=>by
  obtain ⟨L,he,q⟩:=Ydx.mp F;exact Ydx.mpr ⟨L,Ybm _ he,q⟩
 refine ⟨a,C,H',rfl,⟨t,B,os.trans I.os,Y,⟨λb o e n F hx=>O.keep b o e n (ab b o e F) hx,λb o e n F hx=>O.slot b o e n (ac b F) hx,O.free,O.there,O.tups,O.frzs,O.tbls⟩,k2,G,λb o e n=>?_,λb o0 o e0 e nb=>?_⟩,hE⟩
 ·cases q':H' b with
  | none=>exact absurd q' n
  | some u=>
   obtain ⟨v,q⟩:=(Z b u q').there;have e1:=trk b v q n;have e2:=G.1 b v e1;have e':h2.get? b=some o:=e;rw [e'] at e2;cases e2;exact e1
 ·obtain ⟨o1,e1⟩:=u1.there b o0 e0 (by simp);obtain ⟨o2,e2⟩:=un.there b o1 e1 (by simp);have e3:=aa b o1 o2 e1 e2 (ab b o0 e0 nb);have e4:=G.1 b o2 e3;have e':h2.get? b=some o:=e;rw [e'] at e4;cases e4;exact e3
open Classical in
noncomputable def XD (h:Heap)(u:Value):PyData:=if q:∃d B,Reads h u d B/\SeqAt.shaped d=true then choose q else .none
theorem ZbY {h:Heap}{u:Value}{d:PyData}{B:List Addr}(r:Reads h u d B)(D:SeqAt.shaped d=true):XD h u=d:=by
 have q:∃d B,Reads h u d B/\SeqAt.shaped d=true:=⟨d,B,r,D⟩;unfold XD;rw [dif_pos q];obtain ⟨F,G,s'⟩:=Classical.choose_spec q;exact SeqAt.Reads.unique _ _ _ _ _ (SeqAt.canLay_of_shaped s') G r
theorem Zdc {h:Heap}:∀{us:List Value}{ds:List PyData}{as:List Addr},ReadsAll h us ds as->(∀e∈ds,SeqAt.shaped e=true)->(∀u∈us,∃D,Reads h u (XD h u) D/\SeqAt.shaped (XD h u)=true)/\us.map (XD h)=ds
 | _,_,_,.nil,_=>⟨λu B=>by simp at B,rfl⟩
 | _,_,_,.cons r rs,hs=>by
  obtain ⟨i1,i2⟩:=Zdc rs λe G=>hs e (Ybm _ G);have h0:=hs _ (Yaz ..);have F:=ZbY r h0;refine ⟨λu B=>?_,by rw [Yat,F,i2]⟩;rcases Yar.mp B with rfl | B
  ·rw [F];exact ⟨_,r,h0⟩
  ·exact i1 u B
theorem Jg (r:Int×Int):SeqAt.shaped (prD r)=true:=by
 unfold SeqAt.shaped prD;simp [PyData.canLay0,PyData.canLayAll0,PyData.depth,PyData.depthAll]
theorem ZbZ (rs:List (Int×Int)):∀e∈rs.map prD,SeqAt.shaped e=true:=λe B=>by
 obtain ⟨r,_,rfl⟩:=Yam.mp B;exact Jg r
end
section
variable {X:Cx}
def Ite (K:W.Frag)(a:Addr):It:=
 ⟨λi H=>∃xs x,SqL K H a xs/\xs[i]?=some x,λi H x H'=>∃T y,x=.ref T/\H T=none/\H'=upd H T (.tup [.int (i:Nat),y])/\∀xs,SqL K H a xs->xs[i]?=some y,λi H=>∃xs,SqL K H a xs/\xs.length<=i⟩
theorem Zaf {P:Program}{w:World}{K:W.Frag}{elts:List Expr}{k:Nat}{pos:Pos}(a e it:Addr)(hne:e≠it) :
  ZbP P w K (.Tuple elts k pos) (Ite K a) [e,it] e (λi h=>(∃old,IsEnum h e it ((i:Nat):Int) old)/\h.IsListIter it a i) where
 mem:=by simp
 obj:=λi h st b hb=>by
  obtain ⟨⟨old,he⟩,⟨o,ei,c,d⟩⟩:=st;rcases Yar.mp hb with rfl | hb
  ·exact ⟨_,he,λv z=>by
    have z':Data.fields _=Data.cell v:=z;cases z'⟩
  ·have eb:b=it:=by simpa using hb
   subst eb;exact ⟨o,ei,λv z=>by rw [d] at z;cases z⟩
 keep:=λi h h' st q=>by
  obtain ⟨⟨old,he⟩,hi⟩:=st;exact ⟨⟨old,q e (by simp) _ he⟩,hi.at λo ho=>q it (by simp) o ho⟩
 item:=by
  intro X hP hw hK hc i qQ s σ H E I hf st hg;subst hP hw hK;obtain ⟨xs,x,hq,hx⟩:=hg;obtain ⟨its,rv,p,hz⟩:=I.list hq;obtain ⟨u,hu,ru⟩:=rv.get hx;obtain ⟨⟨old,he⟩,hit⟩:=st;refine wpAny_pyNext_enum_item he hit p.isList (x:=u) (by simpa using hu) hne λh1 heo hit1 ht1 hz1 hk1=>?_;refine ⟨_,rfl,wpAny_letOwnedTupleGo_enum (s:={ s with heap:=h1,toks:=s.toks+1 }) heo λh2 he2 hs2=>?_⟩;have hs2':Heap.SameBut e h1 h2:=hs2;have hfr:H s.heap.objs.size=none:=I.fresh;have hel:e<s.heap.objs.size:=Yaj he;have kk:∀b o,b ∉ [e,it]->s.heap.get? b=some o->h2.get? b=some o:=λb o hb q=>by
   have n1:b≠e:=λz=>hb (by simp [z]);have n2:b≠it:=λz=>hb (by simp [z]);exact (hs2'.2 b n1).trans (hk1 b o n1 n2 q)
  have nT:∀b o,s.heap.get? b=some o->b≠s.heap.objs.size:=λb o q=>Yaq (Yaj q);have trk:∀c u,H c=some u->c ∉ [e,it]:=λc u q z=>by
   rw [(hf c z).1] at q;cases q
  refine ⟨.ref s.heap.objs.size,upd H s.heap.objs.size (.tup [.int (i:Nat),x]),I.call' (ch:=[e,it]) rfl ⟨λb o q _ _ hb=>kk b o hb q,λb o q _ _ hb=>⟨o.slots,kk b o hb q⟩,λb o q n _=>by rw [Gr (nT b o q)];exact n,
   λb o q hb=>⟨o,kk b o hb q⟩,λb ys q=>by rw [Gr (Gh q hfr)];exact q,λb o u q=>by rw [Gr (Gh q hfr)];exact q,λb ps q=>⟨#[],by rw [Gr (Gh q hfr),q];simp⟩⟩ (λb v q=>?_) I.bare (λb hb=>?_),
   rfl,⟨_,x,rfl,hfr,rfl,λys hy=>by rw [I.list_inj hy hq];exact hx⟩,⟨⟨_,by rw [Int.natCast_add];exact he2⟩,hit1.extBut hs2'.extBut (Ne.symm hne)⟩,λb hb=>?_⟩
  ·by_cases hb:b=s.heap.objs.size
   ·subst hb;rw [Gb] at q;cases q;refine ⟨by have h16:=Yay.symm;rw [<-h16];show 2<=16777216;lia,[.int (i:Nat) s.toks,u],.cons ⟨_,rfl⟩ (.cons ru .nil),⟨_,(hs2'.2 _ (Ydm hel)).trans ht1,rfl,_,rfl⟩⟩
   ·rw [Gr hb] at q;refine (I.hok b v q).stay (λc v' hc z=>kk c v' ?_ z) (λc z=>by rw [Gr (Gh z hfr)];exact z) λc ys z=>by rw [Gr (Gh z hfr)];exact z
    rcases hc with rfl | hc
    ·exact trk _ _ q
    ·exact trk _ _ hc
  ·obtain ⟨f0,f1,f2,f3,f4,f5⟩:=hf b hb;exact ⟨f3,f1,f4,f5⟩
  ·have ho:∃o,s.heap.get? b=some o:=by
    rcases Yar.mp hb with rfl | hb
    ·exact ⟨_,he⟩
    ·have eb:b=it:=by simpa using hb
     subst eb;obtain ⟨o,ei,_⟩:=hit;exact ⟨o,ei⟩
   obtain ⟨o,ho⟩:=ho;rw [Gr (nT b o ho)];exact (hf b hb).1
 done:=by
  intro X hP hw hK hc i qQ s σ H E I hf st hg;subst hP hw hK;obtain ⟨xs,hq,hx⟩:=hg;obtain ⟨its,rv,p,hz⟩:=I.list hq;obtain ⟨⟨old,he⟩,hit⟩:=st;obtain ⟨f0,f1,f2,f3,f4,f5⟩:=hf it (by simp);have hl:=rv.length;exact wpAny_pyNext_enum_end (I.ok.hd hc) he hit p.isList (by simp;lia) λh' eb=>⟨rfl,I.turned (t':=s.toks) (λb o hb q=>eb b o hb q) f0 f1 f3 f4 f5⟩
 self:=λ_ _ _ _ _ ⟨⟨_,he⟩,_⟩ h=>wpAny_pyIter_enum he h
def ZfG (K:W.Frag)(ta:TA):TI:=λσ H R=>ta σ H λvs H1=>∃a xs,vs=[.ref a]/\SqL K H1 a xs/\R (Ite K a) H1
theorem Zea {B:List Expr}{k:Nat}{L:Pos}{l:Expr}{ta:TA}{p pos:Pos}(N:Gl X "enumerate")(O:X.mg "enumerate" = none)(U:PA X [l] ta)(Y:starEach [l] X.env=[(false,eval l X.env)]:=by rfl) :
  PI X (.Tuple B k L) (.Call (.Name "enumerate" p) [l] [] pos) (ZfG X.K ta):=by
 intro qQ s σ H R I h;refine Call_ (OR I N O boot_enumerate (Yep (thn (U pos qQ s σ H _ I h) λus s1 ⟨vs,H1,D,r1,q1⟩=>?_) Y rfl));obtain ⟨a,xs,e,Z,q⟩:=q1;subst e;obtain ⟨u,rfl,ru⟩:=r1.one;cases ru;obtain ⟨aa,rv,pl,hz⟩:=D.list Z;refine call_enumerate_list pl.isList λh' G hI ab hk=>?_;refine wpAny_pyIter_enum G ?_;refine ⟨s1.heap.objs.size+1,[s1.heap.objs.size+1,s1.heap.objs.size],_,_,H1,rfl,D.kept (t':=s1.toks) hk,Zaf a _ _ (Nat.succ_ne_self _),⟨⟨_,G⟩,hI⟩,λb F=>?_,q⟩;have e:s1.heap.objs.size<=b:=by
  rcases Yar.mp F with rfl | F
  ·exact Nat.le_succ _
  ·have eb:b=s1.heap.objs.size:=by simpa using F
   rw [eb];exact Yac _
 exact D.fpOk e (D.hok.fresh e)
theorem XE (K:W.Frag){B:List Expr}{k:Nat}{D:Pos}{l:Expr}{ta:TA}{p pos:Pos}(F:Gl X "enumerate")(G:X.mg "enumerate" = none)(L:PA X [l] ta)(h:X.K=K:=by rfl)(N:starEach [l] X.env=[(false,eval l X.env)]:=by rfl) :
  PI X (.Tuple B k D) (.Call (.Name "enumerate" p) [l] [] pos) (ZfG K ta):=h▸Zea F G L N
end
theorem U4 {K:PySem.W.Frag}{a D:Addr}{xs:List V}{g:TG}{tc:TT}{te:TE}{G:St}{R:Hp->Prop}{H1:Hp}(B:Nat->List V->Hp->Prop)(h0:B 0 [] (upd H1 D (.lst [])))(U:∀i ys H,i<=xs.length->B i ys H->SqL K H a xs)(Y:∀i x ys H T,xs[i]?=some x->B i ys H->H T=none->g (.ref T) G (upd H T (.tup [.int (i:Nat),x])) λL Z=>Od G L/\tc L Z λb N=>if b=true then te L N λy O=>O D=some (.lst ys)/\ys.length<sizeLine/\B (i+1) (ys++[y]) (upd O D (.lst (ys++[y]))) else B (i+1) ys N)(hd:∀ys H,B xs.length ys H->R H):∃W:Nat->Nat->List V->Hp->Prop,(∃m,W 0 m [] (upd H1 D (.lst [])))/\Js (Ite K a) D g tc te G W R:=by
 refine ⟨λi m ys H=>m=xs.length-i/\i<=xs.length/\B i ys H,⟨_,rfl,Ybc _,h0⟩,?_⟩;rintro i m ys H ⟨rfl,hi,p⟩;have q:=U i ys H hi p;by_cases F:i<xs.length
 ·refine .inr ⟨⟨xs,xs[i],q,by simp [F]⟩,B (i+1),λaa H' p'=>⟨xs.length-(i+1),by lia,rfl,F,p'⟩,λx H' y=>?_⟩;obtain ⟨T,y',rfl,hT,rfl,y⟩:=y;exact Y i y' ys _ T (y xs q) p hT
 ·have e:i=xs.length:=by lia
  subst e;exact .inl ⟨⟨xs,q,Yac _⟩,hd ys H p⟩
section
variable {X:Cx}{a b c d:Expr}{ta tb tc td:TE}{pos:Pos}
theorem V0:bootBuiltins "all" = some (.builtin "all"):=by first | rfl | decide +kernel
theorem Zb0:bootBuiltins "set" = some (.type "set"):=by first | rfl | decide +kernel
theorem U5:∀{bs:List Bool}{us:List Value},Vals (bs.map V.bl) us->us=bs.map Value.bool
 | [],_,.nil=>rfl
 | b::bs,_,.cons r t=>by rw [Yat,<-U5 t];cases r;rfl
theorem Zag (bs:List Bool):(List.range bs.length).all (λi=>bs.getD i false)=bs.all id:=by
 induction bs with
 | nil=>rfl
 | cons b bs ih=>
  rw [Ybi,List.range_succ_eq_map,List.all_cons,List.all_map,List.all_cons];show (b && _)=(b && _)
  congr 1
theorem Zix (K:W.Frag)(N:X.calm=true)(h:X.K=K:=by rfl):JE X (.builtin "all") (λxs H Q=>∃(p:Addr)(bs:List Bool),xs=[.ref p]/\SqL K H p (bs.map V.bl)/\Q (.bl (bs.all id)) H):=by
 subst h;intro qQ s σ H xs us Q I O h;obtain ⟨p,bs,rfl,U,q⟩:=h;obtain ⟨u,rfl,Y⟩:=O.one;cases Y;obtain ⟨D,r,pl,hz⟩:=I.list U;have e:=U5 r;have Z:X.A.in1.handled=none:=I.ok.hd N;obtain ⟨o,eo,_⟩:=id pl.isList;have F:p<s.heap.objs.size:=Yaj eo;refine call_all_walk (wpAny_pyIter_list pl.isList ?_);refine ⟨s.heap.objs.size,_,_,_,_,_,λi=>bs.getD i false,rfl,Walks.list Z s.heap.objs.size p (Yaq F) D.toArray,⟨⟨_,Ybh _ rfl,rfl,rfl⟩,pl.isList.at λo e=>Yao _ e⟩,?_,λh' tk hk=>?_⟩
 ·intro i v s' Q' E' hv G;have B:D[i]?=some v:=by simpa using hv
  rw [e,Yau] at B;cases z:bs[i]? with
  | none=>rw [z] at B;cases B
  | some b=>
   rw [z] at B;cases B;have eb:bs.getD i false=b:=by rw [Yai,z];rfl
   exact Ydl (by rw [<-eb];exact G)
 ·have hl:D.toArray.size=bs.length:=by rw [Ybd,e,Yaa]
  have I1:Inv X qQ σ H { s with heap:=s.heap.push { cls:=.type "list_iterator", data:=.fields #[.ref p,.int 0 0] } }:=I.kept (t':=s.toks) λb o e=>Yao _ e;refine ⟨.bl _,H,I.kept λb o L=>hk b o ?_ (Yao _ L),?_,q⟩
  ·intro z;have:b=s.heap.objs.size:=by simpa using z
   exact absurd (Yaj L) (by rw [this];exact Ybt _)
  ·show Value.bool _=Value.bool _;rw [hl,Zag]
theorem Zhy (K:W.Frag)(G:X.calm=true)(h:X.K=K:=by rfl):JE X (.type "set") (λxs H Q=>∃(p:Addr)(ns:List Int),xs=[.ref p]/\SqL K H p (ns.map V.int)/\ns.length<1000 /\
  ∀l,H l=none->Q (.ref l) (upd H l (.set (λL=>(firstMet (λi=>ns.getD i 0) ns.length).any (· == L)) (firstMet (λi=>ns.getD i 0) ns.length).length))):=by
 subst h;intro qQ s σ H xs us Q I N h;obtain ⟨p,ns,rfl,O,U,q⟩:=h;obtain ⟨u,rfl,Y⟩:=N.one;cases Y;obtain ⟨B,r,pl,hz⟩:=I.list O;have D:=r.length;rw [Yaa] at D;refine call_set_list (I.ok.hd G) pl.isList (by simpa using Uf r) (by rw [Ybd,<-D];exact Ybe (Nat.succ_lt_succ U) (by decide)) λh' tk F Z=>?_;have es:B.toArray.size=ns.length:=by rw [Ybd];exact D.symm
 rw [es] at F;exact ⟨.ref _,_,I.laid (o:=.set _ _) (λb o e=>Z b o (Yaj e) e) (Yac _) F,rfl,q _ I.fresh⟩
theorem Zeb:JE X (.builtin "len") (λxs H Q=>∃p S n,xs=[.ref p]/\H p=some (.set S n)/\n<2 ^ 60/\Q (.int (n:Nat)) H):=by
 intro qQ s σ H xs us Q I B h;obtain ⟨p,S,n,rfl,D,U,q⟩:=h;obtain ⟨u,rfl,F⟩:=B.one;cases F;obtain ⟨o,es,ep,t,G,L,N,Y,Z,e6,O,rfl⟩:=I.hok p _ D;refine call_len_set G L N O (by lia) ?_;exact ⟨.int _,H,I.tok _,⟨_,rfl⟩,q⟩
end
section
variable {κ:Type}[DecidableEq κ]
def JJ (kvs:List (κ×V))(k:κ):Option V:=(kvs.find? λB=>decide (B.1=k)).map (·.2)
def Uu (kvs:List (κ×V))(k:κ)(v:V):List (κ×V):=
 if (kvs.any λB=>decide (B.1=k))=true then kvs.map (λB=>if B.1=k then (B.1,v) else B) else kvs++[(k,v)]
theorem Ju {p:κ×V}{r:List (κ×V)}{k:κ}(e:p.1=k):JJ (p::r) k=some p.2:=by simp [JJ,Ybv,e]
theorem Jv {p:κ×V}{r:List (κ×V)}{k:κ}(e:¬ p.1=k):JJ (p::r) k=JJ r k:=by simp [JJ,Ybv,e]
theorem UD (k:κ):∀kvs:List (κ×V),(kvs.any λkv=>decide (kv.1=k))=(JJ kvs k).isSome
 | []=>rfl
 | p::r=>by
  rw [List.any_cons];by_cases e:p.1=k
  ·simp only [Ju e,Yae e,Bool.true_or,Option.isSome_some]
  ·rw [Jv e,Yak e,Bool.false_or];exact UD k r
theorem Yt (k j:κ)(y:V):∀kvs:List (κ×V),JJ (kvs.map λB=>if B.1=k then (B.1,y) else B) j=(JJ kvs j).map λx=>if j=k then y else x
 | []=>rfl
 | p::r=>by
  have ih:=Yt k j y r;rw [Yat];by_cases h:p.1=k
  ·rw [if_pos h];by_cases e:p.1=j
   ·rw [Ju (p:=(p.1,y)) e,Ju e,Option.map_some,if_pos (e.symm.trans h)]
   ·rw [Jv (p:=(p.1,y)) e,Jv e,ih]
  ·rw [if_neg h];by_cases e:p.1=j
   ·rw [Ju (p:=p) e,Ju e,Option.map_some,if_neg (λz=>h (e.trans z))]
   ·rw [Jv (p:=p) e,Jv e,ih]
theorem WQ (k j:κ)(y:V):∀kvs:List (κ×V),JJ kvs k=none->JJ (kvs++[(k,y)]) j=if j=k then some y else JJ kvs j
 | [],_=>by
  by_cases e:k=j
  ·rw [if_pos e.symm];exact Ju (p:=(k,y)) e
  ·rw [if_neg (λz=>e z.symm)];exact Jv (p:=(k,y)) e
 | p::r,hn=>by
  rw [List.cons_append];have hk:¬ p.1=k:=λz=>by rw [Ju z] at hn;cases hn
  rw [Jv hk] at hn;have B:=WQ k j y r hn;by_cases e:p.1=j
  ·rw [Ju e,Ju e,if_neg (λz=>hk (e.trans z))]
  ·rw [Jv e,Jv e,B]
theorem UE (kvs:List (κ×V))(k j:κ)(y:V):JJ (Uu kvs k y) j=if j=k then some y else JJ kvs j:=by
 unfold Uu;by_cases a:(kvs.any λB=>decide (B.1=k))=true
 ·rw [if_pos a,Yt];rw [UD] at a;by_cases e:j=k
  ·obtain ⟨x,D⟩:=Yeg.mp a;rw [if_pos e,e,D,Option.map_some,if_pos rfl]
  ·rw [if_neg e];cases JJ kvs j with
   | none=>rfl
   | some x=>rw [Option.map_some,if_neg e]
 ·rw [if_neg a];refine WQ k j y kvs ?_;rw [UD] at a;cases q:JJ kvs k with
  | none=>rfl
  | some x=>rw [q] at a;exact (a rfl).elim
theorem Jo (kvs:List (κ×V))(k:κ)(v:V):(Uu kvs k v).length<=kvs.length+1:=by
 unfold Uu;split
 ·rw [Yaa];lia
 ·rw [Yan,Ybi,List.length_nil];lia
theorem RelO.isSome_eq {o:Option V}{u:Option Value}(r:RelO o u):o.isSome=u.isSome:=by
 cases o with
 | none=>cases u with
  | none=>rfl
  | some _=>exact (show False from r).elim
 | some _=>cases u with
  | none=>exact (show False from r).elim
  | some _=>rfl
theorem RelO.getD {o:Option V}{u:Option Value}{d:V}{d':Value}(r:RelO o u)(B:RelV d d'):RelV (o.getD d) (u.getD d'):=by
 cases o with
 | none=>cases u with
  | none=>exact B
  | some _=>exact (show False from r).elim
 | some _=>cases u with
  | none=>exact (show False from r).elim
  | some _=>exact r
theorem KV.val {kvs:List (κ×V)}{vs:List (κ×Value)}(r:KV kvs vs)(k:κ):RelO (JJ kvs k) (valueAt vs k):=by
 unfold KV at r
 induction r with
 | nil=>exact True.intro
 | @cons p q ps B h t F=>
  obtain ⟨h1,h2⟩:=h;by_cases e:p.1=k
  ·have D:q.1=k:=h1.symm.trans e;have b:valueAt (q::B) k=some q.2:=by simp [valueAt,Ybv,D]
   rw [Ju e,b];exact h2
  ·have D:¬ q.1=k:=λz=>e (h1.trans z);have b:valueAt (q::B) k=valueAt B k:=by simp [valueAt,Ybv,D]
   rw [Jv e,b];exact F
theorem KV.any {kvs:List (κ×V)}{vs:List (κ×Value)}(r:KV kvs vs)(k:κ):(kvs.any λB=>decide (B.1=k))=vs.any λB=>decide (B.1=k):=by
 unfold KV at r
 induction r with
 | nil=>rfl
 | cons h t ih=>rw [List.any_cons,List.any_cons,ih,h.1]
theorem KV.repl {kvs:List (κ×V)}{vs:List (κ×Value)}(r:KV kvs vs)(k:κ){y:V}{u:Value}(D:RelV y u) :
  KV (kvs.map λB=>if B.1=k then (B.1,y) else B) (vs.map λB=>if B.1=k then (B.1,u) else B):=by
 unfold KV at r ⊢
 induction r with
 | nil=>exact .nil
 | @cons p q ps qs h t ih=>
  rw [Yat,Yat];refine .cons ?_ ih;obtain ⟨h1,h2⟩:=h;by_cases e:p.1=k
  ·rw [if_pos e,if_pos (h1.symm.trans e)];exact ⟨h1,D⟩
  ·rw [if_neg e,if_neg (λz=>e (h1.trans z))];exact ⟨h1,h2⟩
theorem KV.put {kvs:List (κ×V)}{vs:List (κ×Value)}(r:KV kvs vs)(k:κ){y:V}{u:Value}(B:RelV y u):KV (Uu kvs k y) (stored vs k u):=by
 unfold Uu stored;rw [r.any k];by_cases e:(vs.any λD=>decide (D.1=k))=true
 ·rw [if_pos e,if_pos e];exact r.repl k B
 ·rw [if_neg e,if_neg e];exact Paired.snoc r ⟨rfl,B⟩
theorem KV.length {kvs:List (κ×V)}{vs:List (κ×Value)}(r:KV kvs vs):kvs.length=vs.length:=Ycv r
end
theorem Zd {P:Program}{w:World}{k:Key}{u:Value}(r:RelV (kV k) u):(GM P w).is k u=true:=by
 cases k with
 | inl i=>obtain ⟨t,e⟩:=(show ∃t,u=Value.int i t from r);subst e;exact Xu P w i t
 | inr x=>obtain ⟨t,e⟩:=(show ∃t,u=Value.str x t from r);subst e;exact Xv P w x t
theorem WR {P:Program}{w:World}:∀{ks:List Key}{us:List Value},Vals (ks.map kV) us->ItemsAre (GM P w) ks us
 | [],_,r=>by rw [List.map_nil] at r;cases r;exact .nil
 | k::ks,_,r=>by
  rw [Yat] at r;cases r with
  | cons h t=>exact .cons (Zd h) (WR t)
abbrev KT (H:Hp):List (List Key×V)->List (List Key×Addr×Value)->Prop:=Paired λp q=>p.1=q.1/\H q.2.1=some (.tup (p.1.map kV))/\RelV p.2 q.2.2
theorem KT.val {H:Hp}{kvs:List (List Key×V)}{xs:List (List Key×Addr×Value)}(r:KT H kvs xs)(k:List Key):RelO (JJ kvs k) ((atKey xs k).map (·.2)):=by
 induction r with
 | nil=>exact True.intro
 | @cons p q ps B h t F=>
  obtain ⟨h1,_,h2⟩:=h;by_cases e:p.1=k
  ·have D:q.1=k:=h1.symm.trans e;have b:atKey (q::B) k=some q.2:=by simp [atKey,Ybv,D]
   rw [Ju e,b];exact h2
  ·have D:¬ q.1=k:=λz=>e (h1.trans z);have b:atKey (q::B) k=atKey B k:=by simp [atKey,Ybv,D]
   rw [Jv e,b];exact F
theorem KT.repl {H:Hp}{kvs:List (List Key×V)}{xs:List (List Key×Addr×Value)}(r:KT H kvs xs)(k:List Key){y:V}{u:Value}(D:RelV y u) :
  KT H (kvs.map λB=>if B.1=k then (B.1,y) else B) (xs.map (putAt k u)):=by
 induction r with
 | nil=>exact .nil
 | @cons p q ps qs h t ih=>
  rw [Yat,Yat];refine .cons ?_ ih;obtain ⟨h1,h2,F⟩:=h;unfold putAt;by_cases e:p.1=k
  ·rw [if_pos e,if_pos (h1.symm.trans e)];exact ⟨h1,h2,D⟩
  ·rw [if_neg e,if_neg (λz=>e (h1.trans z))];exact ⟨h1,h2,F⟩
theorem KT.put {H:Hp}{kvs:List (List Key×V)}{xs:List (List Key×Addr×Value)}(r:KT H kvs xs)(k:List Key){b:Addr}{y:V}{u:Value}(D:H b=some (.tup (k.map kV)))(B:RelV y u) :
  KT H (Uu kvs k y) (storedH xs k b u):=by
 have e:(kvs.any λF=>decide (F.1=k))=(atKey xs k).isSome:=by
  rw [UD,(r.val k).isSome_eq,Option.isSome_map]
 unfold Uu storedH;rw [e];by_cases q:(atKey xs k).isSome=true
 ·rw [if_pos q,if_pos q];exact r.repl k B
 ·rw [if_neg q,if_neg q];exact Paired.snoc r ⟨rfl,D,B⟩
theorem KT.keeps {H H':Hp}{kvs:List (List Key×V)}{xs:List (List Key×Addr×Value)}(r:KT H kvs xs)(B:∀b ys,H b=some (.tup ys)->H' b=some (.tup ys)):KT H' kvs xs:=
 Paired.mapP r λ_ _ z=>⟨z.1,B _ _ z.2.1,z.2.2⟩
section
variable {P:Program}{w:World}{H:Hp}{h:Heap}{a:Addr}
theorem ZfH {u:HO}(ok:HOk P w H h)(e:Rd H a u):ObjOk P w H h a u:=e.ok ok
theorem WS {kvs:List (Key×V)}(ok:HOk P w H h)(e:Rd H a (.dK kvs)):kvs.length<=sizeLine/\(a == sysModules)=false/\∃vs,KV kvs vs/\h.DictOf (GM P w) a vs:=
 show ObjOk P w H h a (.dK kvs) from ZfH ok e
theorem Zhz {kvs:List (Key×V)}(ok:HOk P w H h)(e:H a=some (.dK kvs)):kvs.length<=sizeLine/\(a == sysModules)=false/\∃vs,KV kvs vs/\h.DictOf (GM P w) a vs:=WS ok (.inl e)
theorem U6 {ks:List Key}(ok:HOk P w H h)(e:H a=some (.tup (ks.map kV))):(tupleKind (GM P w)).is h ks a:=by
 obtain ⟨_,B,r,o,h1,h2,n,D⟩:=(show ObjOk P w H h a (.tup (ks.map kV)) from ok a _ e);exact ⟨o,B.toArray,n,h1,h2,D,by simpa using WR r⟩
theorem XF {kvs:List (List Key×V)}(ok:HOk P w H h)(e:Rd H a (.dT kvs)):kvs.length<=sizeLine/\(a == sysModules)=false /\
  ∃xs,KT H kvs xs/\h.DictOfH (tupleKind (GM P w)) a xs:=by
 obtain ⟨z,y,xs,r,o,es,ep,h1,h2,D,F,G⟩:=(show ObjOk P w H h a (.dT kvs) from ZfH ok e);refine ⟨z,y,xs,r,o,es,ep,h1,h2,D,F,λx B=>?_,G⟩;have all:∀{l:List (List Key×V)}{m:List (List Key×Addr×Value)},KT H l m->∀x∈m,(tupleKind (GM P w)).is h x.1 x.2.1:=by
  intro l m q
  induction q with
  | nil=>intro x B;exact nomatch B
  | @cons p q ps qs hq t ih=>
   intro x B;rcases Yar.mp B with e | B
   ·subst e;exact U6 ok (by rw [<-hq.1];exact hq.2.1)
   ·exact ih x B
 exact all r x B
theorem ZfI {kvs:List (List Key×V)}(ok:HOk P w H h)(e:H a=some (.dT kvs)):kvs.length<=sizeLine/\(a == sysModules)=false /\
  ∃xs,KT H kvs xs/\h.DictOfH (tupleKind (GM P w)) a xs:=XF ok (.inl e)
end
def DGet (H:Hp)(a:Addr)(y:V)(r:Option V):Prop:=
 (∃kvs k,Rd H a (.dK kvs)/\y=kV k/\r=JJ kvs k)\/∃kvs k b,Rd H a (.dT kvs)/\y=.ref b/\H b=some (.tup (k.map kV))/\r=JJ kvs k
def DPut (H:Hp)(a:Addr)(y v:V)(H':Hp):Prop:=
 (∃kvs k,H a=some (.dK kvs)/\y=kV k/\kvs.length<sizeLine/\H'=upd H a (.dK (Uu kvs k v))) \/
 ∃kvs k b,H a=some (.dT kvs)/\y=.ref b/\H b=some (.tup (k.map kV))/\kvs.length<sizeLine/\H'=upd H a (.dT (Uu kvs k v))
theorem DGet.k {H:Hp}{a:Addr}{kvs:List (Key×V)}{k:Key}(e:H a=some (.dK kvs)):DGet H a (kV k) (JJ kvs k):=.inl ⟨kvs,k,.inl e,rfl,rfl⟩
theorem DGet.t {H:Hp}{a b:Addr}{kvs:List (List Key×V)}{k:List Key}(e:H a=some (.dT kvs))(B:H b=some (.tup (k.map kV))):DGet H a (.ref b) (JJ kvs k):=.inr ⟨kvs,k,b,.inl e,rfl,B,rfl⟩
theorem DPut.k {H:Hp}{a:Addr}{kvs:List (Key×V)}{k:Key}{v:V}(e:H a=some (.dK kvs))(B:kvs.length<sizeLine):DPut H a (kV k) v (upd H a (.dK (Uu kvs k v))):=.inl ⟨kvs,k,e,rfl,B,rfl⟩
theorem DPut.t {H:Hp}{a b:Addr}{kvs:List (List Key×V)}{k:List Key}{v:V}(e:H a=some (.dT kvs))(B:H b=some (.tup (k.map kV)))(D:kvs.length<sizeLine) :
  DPut H a (.ref b) v (upd H a (.dT (Uu kvs k v))):=.inr ⟨kvs,k,b,e,rfl,B,D,rfl⟩
section
variable {X:Cx}{qQ:List (Addr×Obj)}{σ:St}{H:Hp}{s:Shared}{a:Addr}{y v:V}{u r:Value}{o:Option V}{A:Around}{E:Value->Shared->Prop}
theorem Inv.big (I:Inv X qQ σ H s):sysModules<s.heap.objs.size:=by
 have h:mainGlobals<s.heap.objs.size:=(I.mod.glob.keeps I.bk).lt;exact Nat.lt_trans (by decide) h
theorem Zah {Q:Value->Shared->Prop}(Y:A.units+1<cLine)(I:Inv X qQ σ H s)(g:DGet H a y (some v))(U:RelV y u)(h:∀F s',Inv X qQ σ H s'->RelV v F->Q F s') :
  wpAny (model X.prog X.w) A (getItem (.ref a) u) Q E s:=by
 rcases g with ⟨kvs,k,e,G,l⟩ | ⟨kvs,k,b,e,G,Z,l⟩
 ·subst G;obtain ⟨z,hd,vs,B,L⟩:=WS I.hok e;obtain ⟨F,N,D⟩:=RelO.some_of (v:=v) (o:=valueAt vs k) (by rw [l];exact B.val k);exact wpAny_getItem_of (Zd U) L.mapOf N (h F _ (I.tok _) D)
 ·subst G;cases (show u=Value.ref b from U);obtain ⟨z,hd,xs,B,L⟩:=XF I.hok e;obtain ⟨F,N,D⟩:=RelO.some_of (v:=v) (o:=(atKey xs k).map (·.2)) (by rw [l];exact B.val k);obtain ⟨p,hp,O⟩:=Ybg.mp N;refine wpAny_getItem_heap (tupleKind_room_in1 Y) (U6 I.hok Z) L hp ?_;rw [O];exact h F _ (I.tok _) D
theorem Zjc {Q:Value->Shared->Prop}(N:A.units+1<cLine)(I:Inv X qQ σ H s)(g:DGet H a y o)(L:RelV y u)(h:∀s',Inv X qQ σ H s'->Q (.bool o.isSome) s') :
  wpAny (model X.prog X.w) A (compareOp .In u (.ref a)) Q E s:=by
 rcases g with ⟨kvs,k,e,D,l⟩ | ⟨kvs,k,b,e,D,O,l⟩
 ·subst D;obtain ⟨z,F,vs,B,G⟩:=WS I.hok e;refine wpAny_in_of (Zd L) F G.mapOf ?_;rw [<-(B.val k).isSome_eq,<-l];exact h _ (I.tok _)
 ·subst D;cases (show u=Value.ref b from L);obtain ⟨z,F,xs,B,G⟩:=XF I.hok e;refine wpAny_in_heap (tupleKind_room_in1 N) (U6 I.hok O) F G ?_;have q:=(B.val k).isSome_eq;rw [Option.isSome_map] at q;rw [<-q,<-l];exact h _ (I.tok _)
theorem Zec {Q:Value->Shared->Prop}(N:A.units+1<cLine)(I:Inv X qQ σ H s)(g:DGet H a y o)(L:RelV y u)(h:∀s',Inv X qQ σ H s'->Q (.bool (!o.isSome)) s') :
  wpAny (model X.prog X.w) A (compareOp .NotIn u (.ref a)) Q E s:=by
 rcases g with ⟨kvs,k,e,D,l⟩ | ⟨kvs,k,b,e,D,O,l⟩
 ·subst D;obtain ⟨z,F,vs,B,G⟩:=WS I.hok e;refine wpAny_notIn_of (Zd L) F G.mapOf ?_;rw [<-(B.val k).isSome_eq,<-l];exact h _ (I.tok _)
 ·subst D;cases (show u=Value.ref b from L);obtain ⟨z,F,xs,B,G⟩:=XF I.hok e;refine wpAny_notIn_heap (tupleKind_room_in1 N) (U6 I.hok O) F G ?_;have q:=(B.val k).isSome_eq;rw [Option.isSome_map] at q;rw [<-q,<-l];exact h _ (I.tok _)
theorem XG {h':Heap}{t':Nat}{B:HO}(I:Inv X qQ σ H s)(D:Mut (H a))(F:Heap.SameBut a s.heap h')(G:∃q,h'.get? a=some q)(new:ObjOk X.prog X.w (upd H a B) h' a B) :
  Inv X qQ σ (upd H a B) { s with heap:=h',toks:=t' }:=
 I.write (x:=a) (e:=a) D (.inl rfl) (λb q L z=>(F.2 b L).trans z) G new
theorem ZfJ {P:Program}{w:World}{H':Hp}{h':Heap}{kvs:List (Key×V)}{vs:List (Key×Value)}(z:kvs.length<=sizeLine)(D:(a == sysModules)=false)(B:KV kvs vs)(dd:h'.DictOf (GM P w) a vs) :
  ObjOk P w H' h' a (.dK kvs):=⟨z,D,vs,B,dd⟩
theorem Zai {H':Hp}{Q:Unit->Shared->Prop}(hu:A.units+1<cLine)(I:Inv X qQ σ H s)(g:DPut H a y v H')(ry:RelV y u)(rv:RelV v r)(h:∀s',Inv X qQ σ H' s'->Q () s') :
  wpAny (model X.prog X.w) A (setItem (.ref a) u r) Q E s:=by
 rcases g with ⟨kvs,k,e,G,l,L⟩ | ⟨kvs,k,b,e,G,eb,l,L⟩
 ·subst G L;obtain ⟨z,N,vs,B,O⟩:=Zhz I.hok e;have U:vs.length<=sizeLine:=by rw [<-B.length];exact z
  have Y:(Uu kvs k v).length<=sizeLine:=by have:=Jo kvs k v;lia
  refine wpAny_setItem_pairs (hsz:=U) (Zd ry) O λh' D Z=>h _ ?_;have he:∃q,h'.get? a=some q:=let ⟨q,_,_,F,_⟩:=D;⟨q,F⟩;exact XG I (by rw [e];exact True.intro) Z he (ZfJ Y N (B.put k rv) D)
 ·subst G L;cases (show u=Value.ref b from ry);obtain ⟨z,N,xs,B,O⟩:=ZfI I.hok e;have U:xs.length<=sizeLine:=by rw [<-Ycv B];exact z
  have Y:(Uu kvs k v).length<=sizeLine:=by have:=Jo kvs k v;lia
  refine wpAny_setItem_heap (hsz:=U) (tupleKind_room_in1 hu) (U6 I.hok eb) O λh' D Z=>h _ ?_;obtain ⟨q,es,ep,F,h2,h3,h4,_,h5⟩:=D;refine XG I (by rw [e];exact True.intro) Z ⟨q,F⟩ ⟨Y,N,_,(B.put k eb rv).keeps λc ys ec=>?_,q,es,ep,F,h2,h3,h4,h5⟩;rw [Gr (J4 ec e (λz=>nomatch z))];exact ec
end
def Ziy (i:Expr):Prop:=∀B D,subscripted i false B D=operate [B,D] (getItem B D)
theorem Zed {prog:Program}{w:World}{A:Around}{E:Value->Shared->Prop}{s:Shared}{env:Env}{value B:Expr}{pos:Pos}{T id:String}{Q:Value->Shared->Prop}(O:typeLookup (.type T) "__getitem__" = pure (some (.builtin id)))(U:Ziy B)(h:wpAny (model prog w) A (eval value env) (λo G=>wpAny (model prog w) A (eval B env) (λi D=>D.TypeIs o T/\wpAny (model prog w) A (getItem o i) Q E D) E G) E s) :
  wpAny (model prog w) A (eval (.Subscript value B pos) env) Q E s:=by
 refine Subscript_ (Yci h (λo G Y=>Yci Y (λi D F=>?_) λ_ _ x=>x) λ_ _ x=>x);obtain ⟨L,F⟩:=F;unfold subscriptTail;refine Yab ?_;rw [getitemInPython_of_ne L.not_modules];refine Yab (wpAny_specialOf L O ?_);have fin:wpAny (model prog w) A (subscripted B false o i) (λr N=>wpAny (model prog w) A (letTemporaryGo value o r >>= λ_=>pure r) Q E N) E D:=by
  rw [U o i];exact wpAny_operating (Yci F (λr N Z=>Yab (wpAny_letTemporaryGo (Yag Z))) λ_ _ x=>x)
 first
  | exact Yag (Yab fin)
  | exact Yab (Yag (Yab fin))
  | exact Yab fin
theorem XH {X:Cx}{qQ:List (Addr×Obj)}{σ:St}{H:Hp}{s:Shared}{a:Addr}{y:V}{o:Option V}(I:Inv X qQ σ H s)(g:DGet H a y o):s.TypeIs (.ref a) "dict" := by
 rcases g with ⟨kvs,k,e,_,_⟩ | ⟨kvs,k,b,e,_,_,_⟩
 ·obtain ⟨_,_,vs,_,B⟩:=WS I.hok e;exact B.typeIs
 ·obtain ⟨_,_,xs,_,B⟩:=XF I.hok e;exact B.typeIs
def ZhA (td ty:TE):TE:=λσ H Q=>td σ H λx H1=>ty σ H1 λy H2=>∃a v,x=.ref a/\DGet H2 a y (some v)/\Q v H2
def Ziz (ty td:TE):TE:=λσ H Q=>ty σ H λy H1=>td σ H1 λx H2=>∃a o,x=.ref a/\DGet H2 a y o/\Q (.bl o.isSome) H2
def Zee (ty td:TE):TE:=λσ H Q=>ty σ H λy H1=>td σ H1 λx H2=>∃a o,x=.ref a/\DGet H2 a y o/\Q (.bl (!o.isSome)) H2
def ZhB (td ty tv:TE):TS:=λD σ H=>tv σ H λv H1=>td σ H1 λx H2=>ty σ H2 λy F=>∃a B,x=.ref a/\DPut F a y v B/\D.nx σ B
section
variable {X:Cx}{o i e value:Expr}{pos pos' tpos:Pos}{td ty tv:TE}
theorem JV (G:X.A.units+1<cLine)(L:PE X o td)(hi:PE X i ty)(N:Ziy i):PE X (.Subscript o i pos) (ZhA td ty):=by
 intro qQ s σ H Q I h;refine Zed PySem.F.slot_dict_getitem.lookup N (thn (L qQ s σ H _ I h) λu s1 ⟨x,H1,O,U,q1⟩=>thn (hi qQ s1 σ H1 _ O q1) λiv s2 ⟨y,H2,D,Y,a,v,ex,g,Z⟩=>?_);subst ex;obtain rfl:u=Value.ref a:=U;exact ⟨XH D g,Zah G D g Y λw' s3 I3 B=>⟨v,H2,I3,B,Z⟩⟩
theorem Zdd (B:X.A.units+1<cLine)(hi:PE X i ty)(D:PE X o td):PC X .In i o (Ziz ty td):=by
 intro qQ s σ H Q I h;refine thn (hi qQ s σ H _ I h) λZ s1 ⟨y,H1,F,G,q1⟩=>thn (D qQ s1 σ H1 _ F q1) λu s2 ⟨x,H2,L,N,a,O,ex,g,U⟩=>?_;subst ex;obtain rfl:u=Value.ref a:=N;exact Zjc B L g G λs3 Y=>⟨.bl O.isSome,H2,Y,rfl,U⟩
theorem Zaj (B:X.A.units+1<cLine)(hi:PE X i ty)(D:PE X o td):PC X .NotIn i o (Zee ty td):=by
 intro qQ s σ H Q I h;refine thn (hi qQ s σ H _ I h) λZ s1 ⟨y,H1,F,G,q1⟩=>thn (D qQ s1 σ H1 _ F q1) λu s2 ⟨x,H2,L,N,a,O,ex,g,U⟩=>?_;subst ex;obtain rfl:u=Value.ref a:=N;exact Zec B L g G λs3 Y=>⟨.bl (!O.isSome),H2,Y,rfl,U⟩
theorem Uh (B:X.A.units+1<cLine)(F:PE X o td)(hi:PE X i ty)(G:PE X value tv)(L:swapsWith value (some (.Subscript o i pos')) pos.line X.env=pure false) :
  PS X (.Assign [.Subscript o i pos'] value pos) (ZhB td ty tv):=by
 intro qQ s σ H D I h;refine wpAny_Assign_Subscript (thn (G qQ s σ H _ I h) λr s1 ⟨v,H1,N,O,q1⟩=>thn (F qQ s1 σ H1 _ N q1) λu U ⟨x,H2,Y,Z,q2⟩=>thn (hi qQ U σ H2 _ Y q2) λiv s3 ⟨y,H3,I3,ry,a,H4,ex,g,q3⟩=>?_) L;subst ex;obtain rfl:u=Value.ref a:=Z;exact Zai B I3 g ry O λs4 I4=>⟨σ,H4,I4,q3⟩
end
theorem Yu {P:Program}{w:World}{H:Hp}(h:Heap)(B:sysModules<h.objs.size):ObjOk P w H (h.push { cls:=.type "dict", data:=.dict #[] }) h.objs.size (.dK []):=
 ⟨Ybc _,Ydw.mpr (Ne.symm (Yaq B)),[],.nil,Heap.DictOf.new h⟩
theorem Zb1 {P:Program}{w:World}{H:Hp}(h:Heap)(B:sysModules<h.objs.size):ObjOk P w H (h.push { cls:=.type "dict", data:=.dict #[] }) h.objs.size (.dT []):=
 ⟨Ybc _,Ydw.mpr (Ne.symm (Yaq B)),[],.nil,_,#[],0,Ybh _ rfl,⟨rfl,rfl,rfl⟩,rfl,rfl,Yec⟩
def ZfK:TE:=λ_ H Q=>∀p,H p=none->Q (.ref p) (upd H p (.dK []))
def ZfL:TE:=λ_ H Q=>∀p,H p=none->Q (.ref p) (upd H p (.dT []))
section
variable {X:Cx}{pos:Pos}
theorem Zb2:PE X (.Dict [] [] pos) ZfK:=λqQ s σ H Q I h=>
 wpAny_Dict_empty ⟨.ref s.heap.objs.size,_,I.laid (a:=s.heap.objs.size) (o:=.dK []) (t':=s.toks) (λ_ _ q=>Yao _ q) (Yac _) (Yu s.heap I.big),rfl,h _ (I.hok.fresh (Yac _))⟩
theorem V1:PE X (.Dict [] [] pos) ZfL:=λqQ s σ H Q I h=>
 wpAny_Dict_empty ⟨.ref s.heap.objs.size,_,I.laid (a:=s.heap.objs.size) (o:=.dT []) (t':=s.toks) (λ_ _ q=>Yao _ q) (Yac _) (Zb1 s.heap I.big),rfl,h _ (I.hok.fresh (Yac _))⟩
end
structure M2 (X:Cx)(o:Expr)(m:Str)(apos:Pos)(e f:Expr)(qK:Pos):Prop where
 base:attributeBase o m X.env (eval o X.env)=eval o X.env
 few:((backTo qK (starEach [e,f] X.env)).all (λx=>!x.1) && (backToKw qK (keywordEach [] X.env)).all (λx=>x.1.isSome)
  && decide (([e,f]:List Expr).length+([]:List Keyword).length+(if ([]:List Keyword).isEmpty then 0 else 1)<30))=true
 line:(apos.endLine == qK.line)=true
 trees:backTo qK (starEach [e,f] X.env)=[(false,eval e X.env),(false,eval f X.env)]
def IsD (H:Hp)(a:Addr):Prop:=(∃kvs,Rd H a (.dK kvs))\/∃kvs,Rd H a (.dT kvs)
theorem Zak {X:Cx}{qQ:List (Addr×Obj)}{σ:St}{H:Hp}{s:Shared}{a:Addr}(I:Inv X qQ σ H s)(d:IsD H a) :
  s.TypeIs (.ref a) "dict" /\ (∀b,Value.ref a=.ref b->∃B,s.heap.get? b=some B/\B.dict=none)/\(a == sysModules)=false:=by
 rcases d with ⟨kvs,e⟩ | ⟨kvs,e⟩
 ·obtain ⟨_,F,vs,_,D⟩:=WS I.hok e;refine ⟨D.typeIs,λb q=>?_,F⟩;cases q;obtain ⟨B,_,_,h1,h2,_⟩:=D;exact ⟨B,h1,h2.2.1⟩
 ·obtain ⟨_,F,xs,_,D⟩:=XF I.hok e;refine ⟨D.typeIs,λb q=>?_,F⟩;cases q;obtain ⟨B,_,_,h1,h2,_⟩:=D;exact ⟨B,h1,h2.2.1⟩
section
variable {X:Cx}{qQ:List (Addr×Obj)}{σ:St}{H:Hp}{s:Shared}{a:Addr}{y d:V}{u r:Value}{o:Option V}{A:Around}{E:Value->Shared->Prop}
theorem ZfM {Q:Value->Shared->Prop}(Y:A.units+1<cLine)(I:Inv X qQ σ H s)(g:DGet H a y o)(N:RelV y u)(O:RelV d r)(h:∀U s',Inv X qQ σ H s'->RelV (o.getD d) U->Q U s') :
  wpAny (model X.prog X.w) A (call (.builtin "dict.get") [.ref a,u,r]) Q E s:=by
 rcases g with ⟨kvs,k,e,G,l⟩ | ⟨kvs,k,b,e,G,Z,l⟩
 ·subst G;obtain ⟨z,L,vs,B,D⟩:=WS I.hok e;refine call_meetsIn PySem.F.slot_dict_get D.typeIs PySem.F.entry_dict_get (PySem.F.args_dict_get_3 _ _ _) (meets_dict_get_default (GM X.prog X.w) a (Zd N) L r) ⟨_,D.mapOf,h _ _ (I.tok _) ?_⟩;rw [l];exact (B.val k).getD O
 ·subst G;cases (show u=Value.ref b from N);obtain ⟨z,L,xs,B,D⟩:=XF I.hok e;refine call_meetsIn PySem.F.slot_dict_get D.typeIs PySem.F.entry_dict_get (PySem.F.args_dict_get_3 _ _ _) (meetsH_dict_get_default (tupleKind (GM X.prog X.w)) a b L r) ⟨tupleKind_room_in1 Y,k,xs,U6 I.hok Z,D,h _ _ (I.tok _) ?_⟩;rw [l];exact (B.val k).getD O
end
def ZfN (td ty tx:TE):TE:=λσ H Q=>td σ H λx H1=>∃a,x=.ref a/\IsD H1 a/\ty σ H1 λy H2=>tx σ H2 λz B=>∃o,DGet B a y o/\Q (o.getD z) B
section
variable {X:Cx}{o e f:Expr}{apos qK:Pos}{td ty tx:TE}
theorem Zb3 (G:X.A.units+1<cLine)(L:PE X o td)(N:PE X e ty)(O:PE X f tx)(m:M2 X o "get" apos e f qK):PE X (.Call (.Attribute o "get" apos) [e,f] [] qK) (ZfN td ty tx):=by
 intro qQ s σ H Q I h;refine wpAny_Call_method m.base m.few m.line PySem.F.plainAttrs_dict PySem.F.slot_dict_get PySem.F.type_dict_get (thn (L qQ s σ H _ I h) λu s1 ⟨x,H1,D,U,a,ex,d,q1⟩=>?_);subst ex;obtain rfl:u=Value.ref a:=U;obtain ⟨Y,Z,_⟩:=Zak D d;refine ⟨Y,Z,?_⟩;rw [m.trees];refine Calls.callWith_builtin rfl (Calls.evalArgs_plain (Calls.spliced_cons (thn (N qQ s1 σ H1 _ D q1) λiv s2 ⟨y,H2,I2,ry,q2⟩=>
  Calls.spliced_cons (thn (O qQ s2 σ H2 _ I2 q2) λfv s3 ⟨z,H3,I3,rz,ov,g,q3⟩=>Calls.spliced_nil ?_))))
 exact ZfM G I3 g ry rz λw' s4 I4 B=>⟨_,H3,I4,B,q3⟩
end
structure Lane where
 it:Addr
 l:Addr
 xs:Array Value
def Lane.On (r:Lane)(k:Nat)(h:Heap):Prop:=h.IsListIter r.it r.l k/\h.IsList r.l r.xs
theorem Lane.On.keep {r:Lane}{k:Nat}{h h':Heap}(x:r.On k h)(e:∀c,c=r.it\/c=r.l->∀o,h.get? c=some o->h'.get? c=some o):r.On k h':=
 ⟨x.1.at (e _ (.inl rfl)),x.2.at (e _ (.inr rfl))⟩
structure ZfO (rs:List Lane):Prop where
 nd:(rs.map Lane.it).Nodup
 ls:∀r∈rs,∀q∈rs,q.l≠r.it
abbrev XI (h:Heap)(z TI TO:Addr)(B:Value)(D:Bool):Prop:=
 h.get? z=some { cls:=.type "zip", dict:=none,data:=.fields #[B,.bool D,.bool false,.ref TI,.ref TO],slots:=#[] }
section
variable {prog:Program}{w:World}{A:Around}{E:Value->Shared->Prop}{s:Shared}
theorem Zal {z TI TO T:Addr}{B:Bool}{o:Obj}{Q:Bool->Shared->Prop}(hz:XI s.heap z TI TO (rawInt T) B)(D:s.heap.get? T=some o)(h:∀h',XI h' z TI TO (rawInt T) true->Heap.SameBut z s.heap h'->Q false { s with heap:=h' }):wpAny (model prog w) A (Builtin.SmallTypes.ownedTupleIsFree (.ref z)) Q E s:=by
 wp_walk using wpAny_field hz rfl rfl
 refine W.kdx_alive (a:=T) D ?_;cases B
 ·wp_walk using wpAny_field hz rfl rfl
  exact h _ (Yck _ hz rfl) (Ydp ..)
 ·wp_walk using wpAny_field hz rfl rfl
  exact h s.heap hz ⟨rfl,λ_ _=>rfl⟩
theorem Zb4 {z TI TO T:Addr}{f1:Bool}{o:Obj}{rs:List Lane}{k:Nat}{Q:Value->Shared->Prop}(hh:A.handled=none)(ap:ZfO rs)(hz:XI s.heap z TI TO (rawInt T) f1)(hT:s.heap.get? T=some o)(hr:∀r∈rs,r.it≠z/\r.l≠z)(aa:s.heap.get? TI=some { cls:=.type "tuple", data:=.seq (rs.map λr=>Value.ref r.it).toArray })(h0:rs≠[])(hl:rs.length<=64)(on:∀r∈rs,r.On k s.heap)(hQ:∀(vs:List Value) h',rs.map (λr=>r.xs[k]?)=vs.map some->XI h' z TI TO (rawInt T) true->(∀r∈rs,r.On (k+1) h')->h'.get? s.heap.objs.size=some { cls:=.type "tuple", data:=.seq vs.toArray }->h'.objs.size=s.heap.objs.size+1 ->
   (∀c o,c≠z->c ∉ rs.map Lane.it->s.heap.get? c=some o->h'.get? c=some o)->Q (.ref s.heap.objs.size) { s with heap:=h' })(hE:∀h' e,(∃r∈rs,r.xs[k]?=none)->(∀c o,c≠z->c ∉ rs.map Lane.it->s.heap.get? c=some o->h'.get? c=some o)->(∃o,h'.get? e=some o/\o.cls=.type "StopIteration")->E (.ref e) { s with heap:=h' }) :
  wpAny (model prog w) A (Builtin.«zip.__next__» ⟨[.ref z],[]⟩) (λfin s'=>∃v,fin=.done (.ret v)/\Q v s') E s:=by
 have af:(rs.map λr=>Value.ref r.it).toArray.isEmpty=false:=by cases rs with
  | nil=>exact absurd rfl h0
  | cons=>rfl
 wp_walk using wpAny_field hz rfl rfl,wpAny_seqItems aa rfl,Zal hz hT
 intro h1 z1 s1
 wp_walk
 refine MeetsSeq2.wpAny_forIn_array _ (λrest b s'=>∃F B h',rs=F++B/\rest=B.map (λr=>Value.ref r.it)/\b.1=none/\F.map (λr=>r.xs[k]?)=b.2.toList.map some/\s'={ s with heap:=h' }/\h'.objs.size=s.heap.objs.size /\
   (∀r∈F,r.On (k+1) h')/\(∀r∈B,r.On k h')/\∀c o,c ∉ rs.map Lane.it->h1.get? c=some o->h'.get? c=some o) _ ?_ ?_ _ _ ?_
 ·rintro x rest ⟨b1,b2⟩ s' ⟨F,B,h',G,hx,hb,hv,rfl,hsz,L,N,Z⟩;cases B with
  | nil=>cases hx
  | cons r B=>
   obtain ⟨rfl,rfl⟩:x=Value.ref r.it/\rest=B.map (λr=>Value.ref r.it):=by cases hx;exact ⟨rfl,rfl⟩
   have O:r∈rs:=by rw [G];simp
   have nd:=ap.nd;rw [G,Yal,Yat,Ycu] at nd;obtain ⟨-,ab,ac⟩:=nd;have nr:∀q,q∈F\/q∈B->q.it≠r.it/\q.l≠r.it:=λq D=>⟨D.elim (λy=>ac _ (List.mem_map_of_mem y) _ Yaz) (λy e=>(List.nodup_cons.1 ab).1 (e▸List.mem_map_of_mem y)),ap.ls r O q (by rw [G];rcases D with y | y <;> simp [y])⟩;have o0:=N r Yaz;refine Yab (Ycw (?_:wpAny _ _ (Builtin.SmallTypes.nextOf (.ref r.it) >>= λv=>pure (some v)) _ _ _));cases e:r.xs[k]? with
   | none=>
    refine Yab (wpAny_nextOf_list_end hh o0.1 o0.2 e λh2 e2 U c2=>?_);exact hE h2 e2 ⟨r,O,e⟩ (λc o Y c3 q=>U c o (λy=>c3 (y▸List.mem_map_of_mem O)) (Z c o c3 (by rw [s1.2 c Y];exact q))) c2
   | some v=>
    refine Yab (wpAny_nextOf_list_item o0.1 o0.2 e λh2 ad U=>?_)
    wp_walk
    have ot:∀q,q∈F\/q∈B->∀c,c=q.it\/c=q.l->∀o,h'.get? c=some o->h2.get? c=some o:=λq D c hc o y=>by
     rw [U.2 c (hc.elim (λy=>y▸(nr q D).1) (λy=>y▸(nr q D).2))];exact y
    refine ⟨F++[r],B,h2,by rw [G];simp,rfl,rfl,?_,rfl,U.1.trans hsz,λq D=>?_,λq D=>(N q (Ybm _ D)).keep (ot q (.inr D)),λc o Y q=>?_⟩
    ·rw [Yal,hv];simp [e]
    ·rcases Yav.1 D with y | y
     ·exact (L q y).keep (ot q (.inl y))
     ·cases Yas.1 y;exact ⟨ad,o0.2.at λo y=>by rw [U.2 _ (ap.ls r O r O)];exact y⟩
    ·rw [U.2 c (λy=>Y (y▸List.mem_map_of_mem O))];exact Z c o Y q
 ·rintro ⟨b1,b2⟩ s' ⟨F,B,h',G,hx,hb,hv,rfl,hsz,L,N,Z⟩;cases B with
  | cons=>cases hx
  | nil=>
   cases hb;rw [Ybr] at G;subst G;have ae:b2.toList.length<=sizeLine:=by
    have:=Ybb List.length hv;rw [Yaa,Yaa] at this;rw [<-this,Yay];lia
   wp_walk using wpAny_newTuple (hsz:=ae)
   have pu:∀c o,h'.get? c=some o->(h'.push { cls:=.type "tuple", data:=.seq b2.toList.toArray }).get? c=some o:=λc o=>Yao _;refine ⟨_,rfl,?_⟩;rw [hsz];refine hQ b2.toList _ hv (pu _ _ (Z _ _ (λy=>?_) z1)) (λr y=>(L r y).keep λc _=>pu c) ?_ (by rw [Ydb,hsz]) λc o Y c2 q=>pu _ _ (Z _ _ c2 (by rw [s1.2 c Y];exact q))
   ·obtain ⟨r,y,e⟩:=Yam.1 y;exact (hr r y).1 e
   ·rw [<-hsz];exact Ybh _ rfl
 ·exact ⟨[],rs,h1,rfl,rfl,rfl,rfl,rfl,s1.1,λ_ y=>absurd y (List.not_mem_nil),λr y=>(on r y).keep λc hc o q=>by rw [s1.2 c (hc.elim (λe=>e▸(hr r y).1) (λe=>e▸(hr r y).2))];exact q,λ_ _ _ q=>q⟩
theorem Zb5 {z TI TO T:Addr}{L:Bool}{o:Obj}{rs:List Lane}{k:Nat}{Q:Option Value->Shared->Prop}(N:A.in1.handled=none)(O:ZfO rs)(hz:XI s.heap z TI TO (rawInt T) L)(U:s.heap.get? T=some o)(Y:∀r∈rs,r.it≠z/\r.l≠z)(B:s.heap.get? TI=some { cls:=.type "tuple", data:=.seq (rs.map λr=>Value.ref r.it).toArray })(h0:rs≠[])(Z:rs.length<=64)(on:∀r∈rs,r.On k s.heap)(hQ:∀(vs:List Value) h',rs.map (λr=>r.xs[k]?)=vs.map some->XI h' z TI TO (rawInt T) true->(∀r∈rs,r.On (k+1) h')->h'.get? s.heap.objs.size=some { cls:=.type "tuple", data:=.seq vs.toArray }->h'.objs.size=s.heap.objs.size+1 ->
   (∀c o,c≠z->c ∉ rs.map Lane.it->s.heap.get? c=some o->h'.get? c=some o)->Q (some (.ref s.heap.objs.size)) { s with heap:=h' })(hN:∀h',(∃r∈rs,r.xs[k]?=none)->(∀c o,c≠z->c ∉ rs.map Lane.it->s.heap.get? c=some o->h'.get? c=some o)->Q none { s with heap:=h' }):wpAny (model prog w) A (pyNext (.ref z)) Q E s:=by
 have ty:s.TypeIs (.ref z) "zip" := ⟨_,hz,rfl⟩;refine Yab (Yeh (Yer ty F.slot_zip_next (Yco F.slot_zip_next ty F.entry_zip_next (Zb4 N O hz U Y B h0 Z on ?_ ?_) (F.args_zip_next_1 _))))
 ·intro vs h' D G a3 a4 a5 a6
  wp_walk
  exact hQ vs h' D G a3 a4 a5 a6
 ·rintro h' e D G ⟨o',e1,e2⟩;exact Yab (wpAny_isInstance ⟨o',e1,e2⟩ isSubtype_stop (Yag (hN h' D G)))
def ZipSt (S z TI TO:Addr)(a b:Lane)(i:Nat)(h:Heap):Prop:=
 ((IsZip h z TI TO .none/\∃x y,IsPair h TO x y)\/∃(T:Addr)(f1:Bool)(o:Obj),XI h z TI TO (rawInt T) f1/\h.get? T=some o/\T≠z/\T≠a.it/\T≠b.it/\T≠S)/\IsPair h TI (.ref a.it) (.ref b.it)/\a.On i h/\b.On i h/\S<h.objs.size
abbrev Zap (z TI TO:Addr)(a b:Lane):Prop:=ZipApart z TI TO a.it b.it a.l b.l
theorem ZipSt.next {S z TI TO:Addr}{a b:Lane}{i:Nat}{Q:Option Value->Shared->Prop}(hh:A.in1.handled=none)(D:Zap z TI TO a b)(st:ZipSt S z TI TO a b i s.heap)(hQ:∀x y h',a.xs[i]?=some x->b.xs[i]?=some y->ZipSt S z TI TO a b (i+1) h'->IsPair h' s.heap.objs.size x y->h'.objs.size=s.heap.objs.size+1->(∀c o,c ∉ [z,TO,a.it,b.it]->s.heap.get? c=some o->h'.get? c=some o)->Q (some (.ref s.heap.objs.size)) { s with heap:=h' })(hN:∀h',a.xs[i]?=none\/b.xs[i]?=none->(∀c o,c ∉ [z,TO,a.it,b.it]->s.heap.get? c=some o->h'.get? c=some o)->Q none { s with heap:=h' }) :
  wpAny (model prog w) A (pyNext (.ref z)) Q E s:=by
 obtain ⟨st,G,L,N,lS⟩:=st;have new:∀c,(∃o,s.heap.get? c=some o)->s.heap.objs.size≠c:=λc ⟨o,y⟩ e=>Ybt _ (e▸Yaj y);have na:=new a.it ⟨_,L.1.choose_spec.1⟩;have nb:=new b.it ⟨_,N.1.choose_spec.1⟩;have aa:∀{c},c≠z->c≠TO->c≠a.it->c≠b.it->c ∉ [z,TO,a.it,b.it]:=λh1 h2 h3 h4 h=>by simp [h1,h2,h3,h4] at h
 have B:∀{c},c ∉ [z,TO,a.it,b.it]->c≠z/\c≠TO/\c≠a.it/\c≠b.it:=λh=>by simpa using h
 rcases st with ⟨U,p,q,O⟩ | ⟨T,f1,o,U,hT,t1,t2,t3,t4⟩
 ·have nz:=new z ⟨_,U⟩;cases ea:a.xs[i]? with
  | none=>exact wpAny_pyNext_zip_end hh D U G O L.1 N.1 L.2 N.2 (.inl ea) λh' F=>hN h' (.inl ea) λc o y=>F c o (B y).1 (B y).2.1 (B y).2.2.1 (B y).2.2.2
  | some x=>
   cases eb:b.xs[i]? with
   | none=>exact wpAny_pyNext_zip_end hh D U G O L.1 N.1 L.2 N.2 (.inr eb) λh' F=>hN h' (.inr eb) λc o y=>F c o (B y).1 (B y).2.1 (B y).2.2.1 (B y).2.2.2
   | some y=>
    refine wpAny_pyNext_zip_item D U G O L.1 N.1 L.2 N.2 ea eb λh' b1 b2 b3 b4 Z Y F=>hQ x y h' ea eb ⟨.inr ⟨_,_,_,b1,Z,nz,na,nb,Ydm lS⟩,?_,⟨b3,L.2.at λo=>?_⟩,⟨b4,N.2.at λo=>?_⟩,by rw [Y];exact Ydt lS⟩ Z Y λc o y=>F c o (B y).1 (B y).2.1 (B y).2.2.1 (B y).2.2.2
    ·exact F _ _ D.TIz D.TITO D.TIi1 D.TIi2 G
    ·exact F _ o D.l1z D.l1TO D.l1i1 D.l1i2
    ·exact F _ o D.l2z D.l2TO D.l2i1 D.l2i2
 ·refine Zb5 (rs:=[a,b]) hh ⟨?_,?_⟩ U hT ?_ G (by simp) (by simp) (k:=i) (λr hr=>?_) ?_ ?_
  ·simpa using D.i12
  ·simpa using ⟨⟨D.l1i1,D.l2i1⟩,D.l1i2,D.l2i2⟩
  ·simpa using ⟨⟨D.i1z,D.l1z⟩,D.i2z,D.l2z⟩
  ·simp only [Yar,List.not_mem_nil,or_false] at hr;rcases hr with rfl | rfl
   ·exact L
   ·exact N
  ·intro vs h' e b1 on Z Y F
   match vs,e with
   | [x,y],e=>
    simp only [Yat,List.map_nil,List.cons.injEq,and_true] at e;refine hQ x y h' e.1 e.2 ⟨.inr ⟨T,true,o,b1,F _ _ t1 (by simp [t2,t3]) hT,t1,t2,t3,t4⟩,F _ _ D.TIz (by simp [D.TIi1,D.TIi2]) G,on a (by simp),on b (by simp),by rw [Y];exact Ydt lS⟩ Z Y λc o y=>F c o (B y).1 (by simp [(B y).2.2.1,(B y).2.2.2])
   | [],e=>simp at e
   | [_],e=>simp at e
   | _::_::_::_,e=>simp at e
  ·intro h' e F;refine hN h' (by simpa using e) λc o y=>F c o (B y).1 (by simp [(B y).2.2.1,(B y).2.2.2])
theorem ZipSt.aside {S z TI TO:Addr}{a b:Lane}{i:Nat}{h:Heap}(f:Obj->Obj)(O:S ∉ [z,TI,TO,a.it,b.it,a.l,b.l])(st:ZipSt S z TI TO a b i h):ZipSt S z TI TO a b i (h.update S f):=by
 obtain ⟨st,F,U,Y,Z⟩:=st;have L:∀c o,c≠S->h.get? c=some o->(h.update S f).get? c=some o:=λc o B y=>(Ycy _ _ (Ne.symm B)).trans y;have D:∀c,c∈[z,TI,TO,a.it,b.it,a.l,b.l]->∀o,h.get? c=some o->(h.update S f).get? c=some o:=λc B o=>L c o λe=>O (e▸B);refine ⟨st.imp (λ⟨G,x,y,p⟩=>⟨D z (by simp) _ G,x,y,D TO (by simp) _ p⟩) λ⟨T,f1,o,G,hT,t1,t2,t3,N⟩=>⟨T,f1,o,D z (by simp) _ G,L T o N hT,t1,t2,t3,N⟩,D TI (by simp) _ F,U.keep λc B=>D c (by rcases B with rfl | rfl <;> simp),
  Y.keep λc B=>D c (by rcases B with rfl | rfl <;> simp),by rw [Heap.size_update];exact Z⟩
end
theorem HOk.stayOn {P:Program}{w:World}{H:Hp}{h h':Heap}(x:HOk P w H h)(k:∀b u o,H b=some u->h.get? b=some o->h'.get? b=some o):HOk P w H h':=λa o e=>
 (x a o e).stay (λb u B q=>B.elim (λz=>k b o u (by rw [z];exact e) q) (λz=>k b _ u z q)) (λ_ q=>q) λ_ _ q=>q
def ZL (P:Program)(w:World)(H0:Hp)(h0:Heap)(z TO i1 i2 S:Addr)(ns ms:List Int)(i:Nat)(h:Heap)(acc:Array Value):Prop:=
 ∃(B:Hp)(vs:List V),Same H0 B/\(∀b o,B b=some o->H0 b=none->h0.objs.size<=b)/\(B z=none/\B TO=none/\B i1=none/\B i2=none/\B S=none)/\HOk P w B h/\Vals vs acc.toList/\Prs B vs ((ns.zip ms).take i) /\
  (∀b o,h0.get? b=some o->h.get? b=some o)/\h0.objs.size<=h.objs.size
section
variable {P:Program}{w:World}{H0:Hp}{h0:Heap}{z TO i1 i2 S:Addr}{ns ms:List Int}{i:Nat}{h h':Heap}{acc:Array Value}
theorem ZL.put (L:ZL P w H0 h0 z TO i1 i2 S ns ms i h acc)(F:h0.objs.size<=S)(B:∀b o,b≠S->h.get? b=some o->h'.get? b=some o)(hsz:h.objs.size<=h'.objs.size):ZL P w H0 h0 z TO i1 i2 S ns ms i h' acc:=by
 obtain ⟨G,vs,N,O,D,U,Y,Z,a7,a8⟩:=L;refine ⟨G,vs,N,O,D,U.stayOn λb u o e q=>B b o (λy=>?_) q,Y,Z,λb o e=>B b o (Yaq (Ybe (Yaj e) F)) (a7 b o e),Ycc a8 hsz⟩;rw [y,D.2.2.2.2] at e;cases e
theorem ZL.next {a b:Int}{x y:Value}(L:ZL P w H0 h0 z TO i1 i2 S ns ms i h acc)(G:z<h.objs.size/\TO<h.objs.size/\i1<h.objs.size/\i2<h.objs.size/\S<h.objs.size)(N:h0.objs.size<=z/\h0.objs.size<=TO/\h0.objs.size<=i1/\h0.objs.size<=i2)(ha:ns[i]?=some a)(hb:ms[i]?=some b)(rx:RelV (.int a) x)(ry:RelV (.int b) y)(hT:IsPair h' h.objs.size x y)(hsz:h'.objs.size=h.objs.size+1)(O:∀c o,c≠z->c≠TO->c≠i1->c≠i2->h.get? c=some o->h'.get? c=some o):ZL P w H0 h0 z TO i1 i2 S ns ms (i+1) h' (acc.push (.ref h.objs.size)):=by
 obtain ⟨D,vs,a1,a2,⟨U,Y,Z,f4,f5⟩,a4,a5,a6,a7,a8⟩:=L;obtain ⟨l1,l2,l3,l4,l5⟩:=G;obtain ⟨g1,g2,g3,g4⟩:=N;have hn:D h.objs.size=none:=a4.fresh (Yac _);have nn:∀c o,D c=some o->c≠z/\c≠TO/\c≠i1/\c≠i2:=λc o e=>⟨λq=>(by rw [q,U] at e;cases e),λq=>(by rw [q,Y] at e;cases e),λq=>(by rw [q,Z] at e;cases e),λq=>(by rw [q,f4] at e;cases e)⟩;have b1:HOk P w D h':=a4.stayOn λc u o e q=>O c o (nn c u e).1 (nn c u e).2.1 (nn c u e).2.2.1 (nn c u e).2.2.2 q;have F:Same D (upd D h.objs.size (.tup [.int a,.int b])):=Same.new hn;refine ⟨upd D h.objs.size (.tup [.int a,.int b]),vs++[.ref h.objs.size],a1.trans F,λc o e n=>?_,⟨?_,?_,?_,?_,?_⟩,λc o e=>?_,?_,?_,λc o e=>?_,by lia⟩
 ·by_cases B:c=h.objs.size
  ·rw [B];exact a8
  ·rw [Gr B] at e;exact a2 c o e n
 ·rw [Gr (Yaq l1)];exact U
 ·rw [Gr (Yaq l2)];exact Y
 ·rw [Gr (Yaq l3)];exact Z
 ·rw [Gr (Yaq l4)];exact f4
 ·rw [Gr (Yaq l5)];exact f5
 ·by_cases B:c=h.objs.size
  ·subst B;rw [Gb] at e;cases e;exact ⟨by show 2<=sizeLine;decide,[x,y],.cons rx (.cons ry .nil),⟨_,hT,rfl,_,rfl⟩⟩
  ·rw [Gr B] at e;exact (b1 c o e).stay (λ_ _ _ q=>q) (λd q=>F _ _ q) λd xs q=>F _ _ q
 ·rw [Yel];exact a5.append (.cons rfl .nil)
 ·have e:(ns.zip ms)[i]?=some (a,b):=by
   rw [List.getElem?_zip_eq_some];exact ⟨ha,hb⟩
  rw [Ybw,e];exact (a6.same F).snoc Gb
 ·have B:=Yaj e;exact O c o (Yaq (Ybe B g1)) (Yaq (Ybe B g2)) (Yaq (Ybe B g3)) (Yaq (Ybe B g4)) (a7 c o e)
end
abbrev Zb6 (h:Heap)(S:Addr)(acc:Array Value)(c:Nat):Prop:=h.get? S=some { cls:=.type "list", dict:=none,data:=.seq acc c,slots:=#[] }
structure Fed (prog:Program)(w:World)(A:Around)(I S:Addr)(n:Nat)(St:Nat->Heap->Array Value->Prop)(Fi:Heap->Array Value->Prop):Prop where
 give:∀i (s:Shared) acc (Q:Option Value->Shared->Prop) E,i<n->St i s.heap acc ->
  (∀v h',(∀o,s.heap.get? S=some o->h'.get? S=some o)->St (i+1) h' (acc.push v)->Q (some v) { s with heap:=h' })->wpAny (model prog w) A (pyNext (.ref I)) Q E s
 stop:∀(s:Shared) acc (o:Obj) (Q:Option Value->Shared->Prop) E,s.heap.get? S=some o->St n s.heap acc->(∀h',(∀o,s.heap.get? S=some o->h'.get? S=some o)->Fi h' acc->Q none { s with heap:=h' })->wpAny (model prog w) A (pyNext (.ref I)) Q E s
 aside:∀i h f acc,St i h acc->St i (h.update S f) acc
section
variable {prog:Program}{w:World}{A:Around}{I S:Addr}{n:Nat}{St:Nat->Heap->Array Value->Prop}{Fi:Heap->Array Value->Prop}
theorem Fed.loop (W:Fed prog w A.in1 I S n St Fi)(hn:n<=1000)(res:Value){R:Result->Shared->Prop}:∀(k:Nat)(s:Shared)(acc:Array Value)(c:Nat),acc.size+k=n->St acc.size s.heap acc->Zb6 s.heap S acc c ->
  (∀h' acc' c',acc'.size=n->Fi h' acc'->Zb6 h' S acc' c'->R (.ok (.ret res)) { s with heap:=h' })->codeAny (model prog w) A (.builtin "list.extend.loop" ⟨[.ref S,.ref I,res],[]⟩) R s
 | 0,s,acc,c,e,st,hS,hR=>Ydg F.entry_extend_loop <| (Ydq F.plain_extend_loop _)▸Yab (W.stop s acc _ _ _ hS (by rw [Nat.add_zero] at e;exact e▸st) λh' k1 f=>Yag (hR h' acc c e f (k1 _ hS)))
 | k+1,s,acc,c,e,st,hS,hR=>Ydg F.entry_extend_loop <| (Ydq F.plain_extend_loop _)▸Yab (W.give _ s acc _ _ (by lia) st λv h' k1 st1=>by
   have h16:=Yay;have hS1:=k1 _ hS;refine Yab (wpAny_updateSeq (s:={ s with heap:=h' }) (f:=(·.push v)) hS1 rfl (Yag ⟨Ydh F.plain_extend_loop _,?_⟩) (by lia) (by rw [Ycp];lia));have es:acc.size+1=(acc.push v).size:=(Ycp ..).symm;exact W.loop hn res k _ (acc.push v) _ (by lia) (W.aside _ _ _ _ (es▸st1)) (Yck _ hS1 rfl) hR)
end
section
variable {prog:Program}{w:World}{A:Around}{E:Value->Shared->Prop}{s:Shared}
namespace ZF
theorem no_len:typeLookup (.type "zip") "__len__" = pure none:=by rw [typeLookup_type,builtinLookup_eq_fast];kernel_rfl
theorem no_hint:typeLookup (.type "zip") "__length_hint__" = pure none:=by rw [typeLookup_type,builtinLookup_eq_fast];kernel_rfl
end ZF
theorem Zb7 {z TI TO:Addr}{D:Value}{n:Nat}{St:Nat->Heap->Array Value->Prop}{Fi:Heap->Array Value->Prop}{Q:Value->Shared->Prop}(hz:IsZip s.heap z TI TO D)(W:Fed prog w A.in1.in1 z s.heap.objs.size n St Fi)(hn:n<=1000)(st:St 0 (s.heap.push { cls:=.type "list", data:=.seq #[] }) #[])(hQ:∀h' acc c,acc.size=n->Fi h' acc->Zb6 h' s.heap.objs.size acc c->Q (.ref s.heap.objs.size) { s with heap:=h' }):wpAny (model prog w) A (call (.type "list") [.ref z]) Q E s:=by
 have O:Zb6 (s.heap.push { cls:=.type "list", data:=.seq #[] }) s.heap.objs.size #[] 0:=Ybh _ rfl;have G:IsZip (s.heap.push { cls:=.type "list", data:=.seq #[] }) z TI TO D:=Yao _ hz;have U:s.heap.objs.size≠z:=λe=>Ybt _ (e▸Yaj hz);refine callType_codes F.called_list (F.typeCall_list_1 _) F.entry_list_init (code_list_new (.ref z) (Q₁:=λv t=>v=.ref s.heap.objs.size/\t.heap=s.heap.push { cls:=.type "list", data:=.seq #[] }/\t={ s with heap:=t.heap }) ⟨rfl,rfl,rfl⟩) ?_;rintro _ t ⟨rfl,Y,Z⟩;rw [Z,Y];clear Z Y t;refine ⟨⟨_,O,rfl⟩,F.args_list_init_2 _ _,?_⟩;generalize s.heap.push { cls:=.type "list", data:=.seq #[] }=h1 at *;generalize s.heap.objs.size=S at *
 wp_walk
 rw [if_neg (by simp [Builtin.List.listSameRef,U])];have B:IsZip (h1.update S (Obj.mapSeq λ_=>#[])) z TI TO D:=(Ycy _ _ U).trans G;have L:=Yck (Obj.mapSeq λ_=>(#[]:Array Value)) O rfl;have N:=W.aside 0 h1 (Obj.mapSeq λ_=>#[]) _ st;generalize h1.update S (Obj.mapSeq λ_=>#[])=h2 at *;refine Yab (wpAny_pyIter_zip B ?_);have nl:=ZF.no_len;have nh:=ZF.no_hint;have ty:Shared.TypeIs { s with heap:=h2 } (.ref z) "zip" := ⟨_,B,rfl⟩
 wp_walk
 exact ⟨Ydh F.plain_extend_loop _,W.loop hn .none n _ #[] _ (by simp) (W.aside _ _ _ _ (W.aside _ _ _ _ N)) (Yck _ (Yck _ L rfl) rfl) λh' acc c e f l=>⟨rfl,hQ h' acc c e f l⟩⟩
theorem Zef {P:Program}{H0:Hp}{h0:Heap}{z TI TO S:Addr}{a b:Lane}{ns ms:List Int}(hh:A.in1.handled=none)(D:Zap z TI TO a b)(hS:S ∉ [z,TI,TO,a.it,b.it,a.l,b.l])(G:z<S/\TO<S/\a.it<S/\b.it<S)(B:h0.objs.size<=z/\h0.objs.size<=TO/\h0.objs.size<=a.it/\h0.objs.size<=b.it)(Y:h0.objs.size<=S)(vx:Vals (ns.map V.int) a.xs.toList)(vy:Vals (ms.map V.int) b.xs.toList) :
  Fed prog w A z S (min ns.length ms.length) (λi h acc=>ZipSt S z TI TO a b i h/\ZL P w H0 h0 z TO a.it b.it S ns ms i h acc) (ZL P w H0 h0 z TO a.it b.it S ns ms (min ns.length ms.length)):=by
 have S4:S ∉ [z,TO,a.it,b.it]:=λh=>hS (by simp only [Yar,List.not_mem_nil,or_false] at h ⊢;rcases h with h | h | h | h <;> simp [h]);have N:∀{F:List Int}{r:Lane}{i:Nat},Vals (F.map V.int) r.xs.toList->(hi:i<F.length)->∃u,r.xs[i]?=some u/\RelV (.int F[i]) u:=λ{F r i} v hi=>by
  obtain ⟨u,g,x⟩:=v.get (show (F.map V.int)[i]?=some (.int F[i]) by rw [Yau,Yah hi];rfl);exact ⟨u,by simpa using g,x⟩
 have last:∀{F:List Int}{r:Lane}{i:Nat}{u:Value},Vals (F.map V.int) r.xs.toList->r.xs[i]?=some u->i<F.length:=λ{F r i u} v e=>by
  have l:=v.length;rw [Yaa] at l;rw [l,Ybj];exact (Array.getElem?_eq_some_iff.1 e).1
 have out:∀{c},c≠z->c≠TO->c≠a.it->c≠b.it->c ∉ [z,TO,a.it,b.it]:=λh1 h2 h3 h4 h=>by simp [h1,h2,h3,h4] at h
 refine ⟨λi s acc Q E hi ⟨st,L⟩ hQ=>?_,λs acc oS Q E eS ⟨st,L⟩ hQ=>?_,λi h f acc ⟨st,L⟩=>⟨st.aside f hS,L.put Y (λc o U y=>(Ycy _ _ (Ne.symm U)).trans y) (Nat.le_of_eq (Heap.size_update ..).symm)⟩⟩
 ·obtain ⟨x,ex,rx⟩:=N (i:=i) vx (by lia);obtain ⟨y,ey,ry⟩:=N (i:=i) vy (by lia);have Z:=st.2.2.2.2;refine st.next hh D (λx' y' h' fx fy ab p sz O=>?_) λh' e=>?_
  ·rw [ex] at fx;rw [ey] at fy;cases fx;cases fy;exact hQ _ h' (λo=>O S o S4) ⟨ab,L.next ⟨Nat.lt_trans G.1 Z,Nat.lt_trans G.2.1 Z,Nat.lt_trans G.2.2.1 Z,Nat.lt_trans G.2.2.2 Z,Z⟩ B (Yah (by lia)) (Yah (by lia)) rx ry p sz λc o h1 h2 h3 h4=>O c o (out h1 h2 h3 h4)⟩
  ·rw [ex,ey] at e;simp at e
 ·refine st.next hh D (λx' y' h' fx fy=>?_) λh' e O=>hQ h' (λo=>O S o S4) ?_
  ·have:=last vx fx;have:=last vy fy;lia
  ·obtain ⟨Hj,vs,a1,a2,a3,a4,a5,a6,a7,a8⟩:=L;have ac:∀c,h0.objs.size > c->c ∉ [z,TO,a.it,b.it]:=λc U=>out (Yaq (Ybe U B.1)) (Yaq (Ybe U B.2.1)) (Yaq (Ybe U B.2.2.1)) (Yaq (Ybe U B.2.2.2));have aa:∀c o,Hj c=some o->c ∉ [z,TO,a.it,b.it]:=λc o y h=>by
    simp only [Yar,List.not_mem_nil,or_false] at h;rcases h with rfl | rfl | rfl | rfl <;> simp [a3] at y
   exact ⟨Hj,vs,a1,a2,a3,a4.stayOn λc u o e y=>O c o (aa c u e) y,a5,a6,λc o y=>O c o (ac c (Yaj y)) (a7 c o y),Yds (Nat.lt_of_le_of_lt Y (Yaj (O S oS S4 eS)))⟩
end
section
variable {X:Cx}
theorem Zam:bootBuiltins "zip" = some (.type "zip"):=by first | rfl | decide +kernel
def Zb8 (K:W.Frag)(ta:TA):TE:=λσ H Q=>ta σ H λvs H1=>∃(B D:Addr)(ns ms:List Int),vs=[.ref B,.ref D]/\SqL K H1 B (ns.map V.int)/\SqL K H1 D (ms.map V.int)/\ns.length<=1000 /\
 ∀(S:Addr)(ws:List V)(H':Hp),Same H1 H'->H1 S=none->H' S=some (.lst ws)->Prs H' ws (ns.zip ms)->Q (.ref S) H'
theorem Ze {a b:Expr}{ta:TA}{p p2 pos B:Pos}(K:W.Frag)(hc:X.calm=true)(hg:Gl X "list")(hm:X.mg "list" = none)(aa:Gl X "zip")(ab:X.mg "zip" = none)(ha:PA X [a,b] ta)(hK:X.K=K:=by rfl)(hs:starEach [Expr.Call (.Name "zip" p2) [a,b] [] B] X.env=[(false,eval (.Call (.Name "zip" p2) [a,b] [] B) X.env)]:=by rfl)(ac:starEach [a,b] X.env=(false,eval a X.env)::starEach [b] X.env:=by rfl)(ad:(backTo B (starEach [b] X.env)).any (·.1)=false:=by rfl) :
  PE X (.Call (.Name "list" p) [.Call (.Name "zip" p2) [a,b] [] B] [] pos) (Zb8 K ta):=by
 subst hK;intro qQ s σ H Q I h;refine Yeq (OR I hg hm JG (Yep ?_ hs rfl) (by decide) (by decide));rw [hs];refine Calls.spliced_cons ?_;refine Yeq (OR I aa ab Zam (Yep (thn (ha B qQ s σ H _ I h) λus s1 ⟨vs,H1,F,r1,q1⟩=>?_) ac ad) (by decide) (by decide));obtain ⟨O,U,ns,ms,rfl,ae,af,hn,q⟩:=q1;obtain ⟨u1,u2,rfl,ag,ah⟩:=r1.two;cases ag;cases ah;obtain ⟨xs,v1,p1,as⟩:=F.list ae;obtain ⟨ys,v2,G,au⟩:=F.list af;refine call_zip_2 p1.isList G.isList λh' hz ai aj ak al Y hk=>?_;refine Calls.spliced_nil ?_;have am:O<s1.heap.objs.size:=by obtain ⟨_,e,_⟩:=p1.isList;exact Yaj e
 have an:U<s1.heap.objs.size:=by obtain ⟨_,e,_⟩:=G.isList;exact Yaj e
 have D:ZipApart (s1.heap.objs.size+4) (s1.heap.objs.size+2) (s1.heap.objs.size+3) s1.heap.objs.size (s1.heap.objs.size+1) O U:=by
  constructor <;> (first | exact Yaq (by lia) | exact Ydm (by lia) | (apply Yaq;exact Ybe (by assumption) (by lia)))
 have ao:=v1.length;rw [Yaa] at ao;have fr:∀b,s1.heap.objs.size<=b->H1 b=none:=λb N=>F.hok.fresh N;have hS:h'.objs.size ∉ [s1.heap.objs.size+4,s1.heap.objs.size+2,s1.heap.objs.size+3,s1.heap.objs.size,s1.heap.objs.size+1,O,U]:=by
  simp only [Yar,List.not_mem_nil,or_false];have g1:O<h'.objs.size:=by rw [Y];exact Ybe am (by lia)
  have g2:U<h'.objs.size:=by rw [Y];exact Ybe an (by lia)
  rintro (e | e | e | e | e | e | e) <;> first | lia | exact Ydm g1 e | exact Ydm g2 e
 have up:∀b o,s1.heap.get? b=some o->(h'.push { cls:=.type "list", data:=.seq #[] }).get? b=some o:=λb o e=>Yao _ (hk b o e);have Z:∀b o,h'.get? b=some o->(h'.push { cls:=.type "list", data:=.seq #[] }).get? b=some o:=λb o e=>Yao _ e;have ap:=v2.length;rw [Yaa] at ap;refine Zb7 hz (Zef (P:=X.prog) (H0:=H1) (h0:=s1.heap) (a:=⟨s1.heap.objs.size,O,xs.toArray⟩) (b:=⟨s1.heap.objs.size+1,U,ys.toArray⟩) (F.ok.hd hc) D hS ⟨by show _<h'.objs.size;lia,by show _<h'.objs.size;lia,by show s1.heap.objs.size<h'.objs.size;lia,by show s1.heap.objs.size+1<h'.objs.size;lia⟩
  ⟨by lia,by lia,Yac _,by show _<=s1.heap.objs.size+1;lia⟩ (by show _<=h'.objs.size;lia) v1 v2) (by lia)
  ⟨⟨.inl ⟨Z _ _ hz,_,_,Z _ _ aj⟩,Z _ _ ai,⟨ak.at λo=>Z _ o,p1.isList.at λo=>up _ o⟩,⟨al.at λo=>Z _ o,G.isList.at λo=>up _ o⟩,by rw [Ydb];exact Nat.lt_succ_self _⟩,
   H1,[],Same.refl _,λb o e n=>(by rw [n] at e;cases e),⟨fr _ (by lia),fr _ (by lia),fr _ (Yac _),fr _ (by show _<=s1.heap.objs.size+1;lia),fr _ (by show _<=h'.objs.size;lia)⟩,F.hok.kept λb u e=>up b u e,.nil,.nil,up,by rw [Ydb];show _<=h'.objs.size+1;lia⟩ ?_
 ·intro h2 acc c z2 L e2;obtain ⟨Hj,ws,a1,a2,⟨f1,f2,f3,f4,f5⟩,a4,a5,a6,a7,a8⟩:=L;have av:=Yay.symm;have aq:(ns.zip ms).take (min ns.length ms.length)=ns.zip ms:=Yeb (by rw [List.length_zip];lia);rw [aq] at a6;have ar:ws.length<=sizeLine:=by rw [a5.length,Ybj,z2];lia
  have sm:Same Hj (upd Hj h'.objs.size (.lst ws)):=Same.new f5;have S1:=a1.trans sm;refine ⟨.ref h'.objs.size,upd Hj h'.objs.size (.lst ws),F.un (h':=h2) (t':=s1.toks) ⟨λb o e _ _ _=>a7 b o e,λb o e _ _ _=>⟨o.slots,a7 b o e⟩,λb o e n _=>?_,λb o e _=>⟨o,a7 b o e⟩,λb ys e=>S1 _ _ e,λb o u e=>S1 _ _ e,λb ps e=>⟨#[],by rw [S1 _ _ e];simp⟩⟩ (λb o e=>?_),rfl,?_⟩
  ·have N:=Yaj e;rw [Gr (Yaq (Ybe N (show s1.heap.objs.size<=h'.objs.size by lia)))];cases z:Hj b with
   | none=>rfl
   | some u=>exact absurd (Ybe N (a2 b u z n)) (Ybt _)
  ·by_cases N:b=h'.objs.size
   ·subst N;rw [Gb] at e;cases e;exact ⟨ar,acc.toList,c,a5,e2⟩
   ·rw [Gr N] at e;exact (a4 b o e).stay (λ_ _ _ q=>q) (λd q=>sm _ _ q) λd xs q=>sm _ _ q
  ·refine q _ ws _ S1 ?_ Gb (a6.same sm);exact F.hok.fresh (by lia)
theorem WT:bootBuiltins "min" = some (.builtin "min"):=by first | rfl | decide +kernel
theorem Zjd (K:W.Frag)(hc:X.calm=true)(h:X.K=K:=by rfl):JE X (.builtin "min") (λxs H Q=>∃(p:Addr)(ns:List Int),xs=[.ref p]/\SqL K H p (ns.map V.int)/\ns≠[]/\∀m,m∈ns->(∀n∈ns,m<=n)->Q (.int m) H):=by
 subst h;intro qQ s σ H xs us Q I rv h;obtain ⟨p,ns,rfl,hq,O,q⟩:=h;obtain ⟨u,rfl,U⟩:=rv.one;cases U;obtain ⟨B,r,pl,hz⟩:=I.list hq;have hh:X.A.in1.handled=none:=I.ok.hd hc;have Z:=r.length;rw [Yaa] at Z;have aa:0<ns.length:=List.length_pos_iff.mpr O;obtain ⟨o,eo,_⟩:=id pl.isList;have G:p<s.heap.objs.size:=Yaj eo;have D:∀(i:Nat)(v:Value),B.toArray[i]?=some v->∃t,v=Value.int (ns.getD i 0) t:=λi v Y=>by
  have F:B[i]?=some v:=by simpa using Y
  have hi:i<B.length:=(Ybf.mp F).1;have ex:(ns.map V.int)[i]?=some (.int (ns[i]'(by lia))):=by rw [Yau,Yah (by lia)];rfl
  obtain ⟨u,gu,U⟩:=r.get ex;rw [gu] at F;cases F;obtain ⟨t,rfl⟩:=U;exact ⟨t,by rw [Yai,Yah (by lia)];rfl⟩
 refine call_min_walk (wpAny_pyIter_list pl.isList ?_);refine ⟨s.heap.objs.size,_,_,_,_,_,_,rfl,Walks.list hh s.heap.objs.size p (Yaq G) B.toArray,⟨⟨_,Ybh _ rfl,rfl,rfl⟩,pl.isList.at λo e=>Yao _ e⟩,?_,by rw [Ybd];lia,CmpOf.ints_lt (λi=>ns.getD i 0) D,λv h' tk Y hk=>?_⟩
 ·intro b hb;have e:b=s.heap.objs.size\/b=p:=by simpa using hb
  have L:(s.heap.push { cls:=.type "list_iterator", data:=.fields #[.ref p,.int 0 0] }).objs.size=s.heap.objs.size+1:=Ydb ..;show b<(s.heap.push { cls:=.type "list_iterator", data:=.fields #[.ref p,.int 0 0] }).objs.size;rw [L];rcases e with e | e
  ·rw [e];exact Nat.lt_succ_self _
  ·rw [e];exact Ydt G
 ·obtain ⟨t,rfl⟩:=D _ v Y;have hA:=argBest_lt (λi=>ns.getD i 0) (B.toArray.size-1);have L:B.toArray.size=ns.length:=by rw [Ybd];exact Z.symm
  generalize hg:argBest (λi j=>decide (ns.getD i 0<ns.getD j 0)) (B.toArray.size-1)=g at hA ⊢;have N:g<ns.length:=by lia
  have eg:ns.getD g 0=ns[g]:=by rw [Yai,Yah N];rfl
  refine ⟨.int (ns.getD g 0),H,I.kept λb o e'=>hk b o ?_ (Yao _ e'),⟨t,rfl⟩,q _ (by rw [eg];exact Ycd N) λn hn=>?_⟩
  ·intro z;have:b=s.heap.objs.size:=by simpa using z
   exact absurd (Yaj e') (by rw [this];exact Ybt _)
  ·obtain ⟨j,hj,rfl⟩:=Yby hn;have:=hA.2 j (by lia);have ej:ns.getD j 0=ns[j]:=by rw [Yai,Yah hj];rfl
   rw [<-ej];exact this
end
theorem UF {K:PySem.W.Frag}{a:Addr}{xs:List V}{g:TG}{tb:TS}{D:Ends}{σ:St}{H:Hp}(B:Nat->St->Hp->Prop)(h0:B 0 σ H)(U:∀i σ H,i<=xs.length->B i σ H->SqL K H a xs)(Y:∀i x σ H T,xs[i]?=some x->B i σ H->H T=none->g (.ref T) σ (upd H T (.tup [.int (i:Nat),x])) λG H2=>tb { D with nx:=B (i+1),ct:=B (i+1),bk:=D.nx } G H2)(Z:∀ σ H,B xs.length σ H->D.nx σ H) :
  ∃W:Nat->Nat->St->Hp->Prop,(∃m,W 0 m σ H)/\∀i m σ H,W i m σ H ->
   ((Ite K a).stop i H/\D.nx σ H)\/((Ite K a).go i H/\∃N:St->Hp->Prop,(∀ L H',N L H'->∃O,O<m/\W (i+1) O L H')/\∀x H',(Ite K a).yld i H x H'->g x σ H' λG H2=>tb { D with nx:=N,ct:=N,bk:=D.nx } G H2):=by
 refine ⟨λi m σ H=>m=xs.length-i/\i<=xs.length/\B i σ H,⟨xs.length,by simp,Ybc _,h0⟩,?_⟩;rintro i m σ H ⟨rfl,hi,p⟩;have q:=U i σ H hi p;by_cases F:i<xs.length
 ·refine .inr ⟨⟨xs,xs[i],q,by simp [F]⟩,B (i+1),λL H' p'=>⟨xs.length-(i+1),by lia,rfl,F,p'⟩,λx H' y=>?_⟩;obtain ⟨T,y',rfl,hT,rfl,hy⟩:=y;exact Y i y' σ H T (hy xs q) p hT
 ·have e:i=xs.length:=by lia
  subst e;exact .inl ⟨⟨xs,q,Yac _⟩,Z σ H p⟩
structure FunD (K:W.Frag)(x qual:Str)(st:Stmt)(dV:Value)(f:Addr)(fd:FuncData):Prop where
 ex:∃(oc:Value)(od:Option Addr)(kV doc pm:Value)(an:Option Addr)(cdv ct:Value)(osl:Array (Option Value)),
  fd=W.fnOf x qual (Jj st) (G3 st) (Ge st) dV kV doc pm an cdv ct/\K.lookup f=some ⟨oc,od,.func fd,osl⟩/\W.codeIn K cdv qual=true
 kp:W.keepIn K (.ref f)=true
section
variable {P:Program}{w:World}{K:W.Frag}{mg:Str->Option Value}{base:Heap}
theorem FunD.ok {x B:Str}{st:Stmt}{O:Value}{f:Addr}{fd:FuncData}{N ps:List Str}{k:Nat}{sp:Sp}(F:FunD K x B st O f fd)(S:Gp N ps (Ge st))(len:∀vs H Q E,sp vs H Q E->vs.length=ps.length)(U:∀(D:Value)(A:Around)(outer:List Env)(s:Shared)(H:Hp)(vs:List V)(Q:VK)(E:XK),Room k (A.deeper (envOfC B (Ge st) s.heap.objs.size f D))->sp vs H Q E ->
   ∃t,PSs (ZZ CX0 P w K mg base N B (Ge st) f D A outer s H E).nox (G3 st) t/\t { nx:=λ_ H'=>Q .non H',rt:=Q } (start N vs) H):GJ P w K mg base CX0 (k+1) f fd ps sp:=by
 obtain ⟨oc,od,kV,Y,pm,an,D,ct,Z,rfl,lk,G⟩:=F.ex;refine ZdZ lk G S len λA outer s H vs Q E hr L=>?_;obtain ⟨t,h,q⟩:=U D A outer s H vs Q E hr L;exact ⟨t,h.nox,q⟩
theorem Zeg {x B:Str}{st:Stmt}{f:Addr}{U:Value}{Y L:Option Addr}{G:Array (Option Value)}{N kV F O D ct:Value}(l:K.lookup f=some ⟨U,Y,.func (W.fnOf x B (Jj st) (G3 st) (Ge st) N kV F O L D ct),G⟩)(c:W.codeIn K D B=true)(k:W.keepIn K (.ref f)=true):FunD K x B st N f (W.fnOf x B (Jj st) (G3 st) (Ge st) N kV F O L D ct):=⟨⟨U,Y,kV,F,O,L,D,ct,G,rfl,l,c⟩,k⟩
end
end L2
namespace L2
open PySem PySem.Spec PyProof.Rows
section
variable {X:Cx}(K:W.Frag)
theorem ZhC {tg:Expr}{l:Expr}{tl:TE}(B:PE X l tl)(h:X.K=K:=by rfl):PI X tg l (Zik K tl):=h▸Zfq B
inductive Tus (H:Hp):List V->List (List Int)->Prop
 | nil:Tus H [] []
 | cons {p:Addr} {r:List Int} {xs:List V} {rs:List (List Int)}:H p=some (.tup (r.map V.int))->Tus H xs rs->Tus H (.ref p::xs) (r::rs)
theorem Tus.len {H:Hp}{xs:List V}{rs:List (List Int)}(h:Tus H xs rs):xs.length=rs.length:=by
 induction h with
 | nil=>rfl
 | cons _ _ ih=>rw [Ybi,Ybi,ih]
theorem Tus.get {H:Hp}:∀{xs:List V}{rs:List (List Int)},Tus H xs rs->∀{i:Nat}{x:V},xs[i]?=some x->∃t r,x=.ref t/\H t=some (.tup (r.map V.int))/\rs[i]?=some r
 | _,_,.nil,_,_,h=>by simp at h
 | _,_,.cons (r:=r) e _,0,_,h=>by
  simp at h;subst h;exact ⟨_,r,rfl,e,rfl⟩
 | _,_,.cons _ t,i+1,_,h=>by
  rw [Yey] at h ⊢;exact Tus.get t h
end
theorem Zb9 {K:PySem.W.Frag}{a D:Addr}{xs:List V}{g:TG}{tc:TT}{te:TE}{G:St}{R:Hp->Prop}{H1:Hp}(B:Nat->List V->Hp->Prop)(h0:B 0 [] (upd H1 D (.lst [])))(U:∀i ys H,i<=xs.length->B i ys H->SqT K H a xs)(Y:∀i x ys H,xs[i]?=some x->B i ys H->g x G H λL Z=>Od G L/\tc L Z λb N=>if b=true then te L N λy O=>O D=some (.lst ys)/\ys.length<sizeLine/\B (i+1) (ys++[y]) (upd O D (.lst (ys++[y]))) else B (i+1) ys N)(hd:∀ys H,B xs.length ys H->R H):∃W:Nat->Nat->List V->Hp->Prop,(∃m,W 0 m [] (upd H1 D (.lst [])))/\Js (Itt K a) D g tc te G W R:=by
 refine ⟨λi m ys H=>m=xs.length-i/\i<=xs.length/\B i ys H,⟨_,rfl,Ybc _,h0⟩,?_⟩;rintro i m ys H ⟨rfl,hi,p⟩;have q:=U i ys H hi p;by_cases F:i<xs.length
 ·refine .inr ⟨⟨xs,xs[i],q,by simp [F]⟩,B (i+1),λaa H' p'=>⟨xs.length-(i+1),by lia,rfl,F,p'⟩,λx H' y=>?_⟩;obtain ⟨e,y⟩:=y;subst e;exact Y i x ys _ (y xs q) p
 ·have e:i=xs.length:=by lia
  subst e;exact .inl ⟨⟨xs,q,Yac _⟩,hd ys H p⟩
open AutoSeq1 (wpAny_loadPart') in
theorem XJ (L:Addr)(its:Array Value)(c:Nat)(y:Value)(N:Value->Bool)(B:Nat)(ha:B<its.size)(O:N its[B]=true)(D:its.size<=sizeLine):∀(left i:Nat),B-i=left->i<=B ->
  (∀m (hm:m<its.size),i<=m->m<B->N its[m]=false)->Meets (Builtin.«list.remove.loop» ⟨[.ref L,y,rawInt i],[]⟩)
   (λA R s=>s.heap.get? L=some { cls:=.type "list", dict:=none,data:=.seq its c,slots:=#[] }/\(∀z,z∈its->SeqAt.EqAt A.in1 s z y (N z))/\R (.ok (.ret .none)) { s with heap:=s.heap.update L (Obj.mapSeq λzs=>zs.eraseIdxIfInBounds B) }):=by
 intro left
 induction left with
 | zero=>
  intro i hk U Y prog w A R s ⟨F,G,h⟩;obtain ⟨hp,g,d,tk,os⟩:=s;have e:i=B:=by lia
  subst e
  wp_walk using wpAny_loadPart' F
  have Z:its[((i:Nat):Int).toNat]?=some its[i]:=by simp [ha]
  rw [Z];refine Yab (G _ (Array.getElem_mem ha) prog w _ _ ?_);rw [O];have g2:(its.eraseIdxIfInBounds i).size<=sizeLine+1:=Ycc (MeetsSeq.size_erased its _) (Nat.le_succ_of_le D)
  wp_walk using (wpAny_updateSeq F rfl (hz:=D) (_hz':=g2)),wpAny_loadPart' F
  simpa using h
 | succ left ih=>
  intro i hk U Y prog w A R s ⟨F,G,h⟩;obtain ⟨hp,g,d,tk,os⟩:=s;have hi:i<its.size:=by lia
  wp_walk using wpAny_loadPart' F
  have Z:its[((i:Nat):Int).toNat]?=some its[i]:=by simp [hi]
  have g2:((i:Int)+1)=((i+1:Nat):Int):=by lia
  rw [Z];refine Yab (G _ (Array.getElem_mem hi) prog w _ _ ?_);rw [Y i hi (Yac _) (by lia)]
  wp_walk
  rw [g2];refine ⟨Ydh MeetsSeq.plain_remove_loop _,Ydg MeetsSeq.entry_remove_loop ?_⟩;rw [Ydq MeetsSeq.plain_remove_loop _];exact ih (i+1) (by lia) (by lia) (λm hm m1 m2=>Y m hm (by lia) m2) prog w A R _ ⟨F,G,h⟩
open AutoSeq1 (wpAny_loadPart') in
theorem Zf (L:Addr)(its:Array Value)(c:Nat)(y:Value)(F:Value->Bool)(B:Nat)(U:B<its.size)(G:F its[B]=true)(Y:∀m (N:m<its.size),m<B->F its[m]=false)(D:its.size<=sizeLine):Meets (Builtin.«list.remove» ⟨[.ref L,y],[]⟩)
   (λA R s=>s.heap.get? L=some { cls:=.type "list", dict:=none,data:=.seq its c,slots:=#[] }/\(∀z,z∈its->SeqAt.EqAt A.in1 s z y (F z))/\R (.ok (.ret .none)) { s with heap:=s.heap.update L (Obj.mapSeq λzs=>zs.eraseIdxIfInBounds B) }):=by
 intro prog w A R s ⟨O,Z,h⟩;obtain ⟨hp,g,d,tk,os⟩:=s
 wp_walk using wpAny_loadPart' O
 refine ⟨Ydh MeetsSeq.plain_remove_loop _,Ydg MeetsSeq.entry_remove_loop ?_⟩;rw [Ydq MeetsSeq.plain_remove_loop _];exact XJ L its c y F B U G D _ 0 rfl (Ybc _) (λm N _ m2=>Y m N m2) prog w A R _ ⟨O,Z,h⟩
section
variable {X:Cx}
def ZfP (K:W.Frag):V->List V->Hp->VK->Prop:=λx vs H Q=>∃l xs y d ds j,x=.ref l/\vs=[y]/\H l=some (.lst xs)/\DatV K H y d/\DatVs K H xs ds/\SeqAt.shaped d=true/\(∀e∈ds,SeqAt.shaped e=true) /\
 j<xs.length/\(∀e,ds[j]?=some e->PyData.eqv e d=true)/\(∀m,m<j->∀e,ds[m]?=some e->PyData.eqv e d=false)/\Q .non (upd H l (.lst (xs.eraseIdx j)))
theorem ZhD (K:W.Frag)(hu:X.A.units+65<cLine)(hK:X.K=K:=by rfl):MtM X "list.remove" (ZfP K):=by
 subst hK;intro qQ s σ H x vs v us Q I rx rv h;obtain ⟨l,xs,y,d,ds,j,rfl,rfl,hH,hd,N,sd,O,hj,U,no,q⟩:=h;cases rx;obtain ⟨u,rfl,ru⟩:=rv.one;obtain ⟨z,B,n,r,hl,e⟩:=I.lstM hH;obtain ⟨as,ra⟩:=hd.reads I ru;obtain ⟨bs,rb⟩:=N.reads I r;obtain ⟨k1,k2⟩:=Zdc rb O;have Y:X.A.in1.units+64<cLine:=by rw [Around.in1_units];lia
 have qV:B.length=xs.length:=hl.symm;have D:∀m (L:m<B.length),ds[m]?=some (XD s.heap B[m]):=λm L=>by
  rw [<-k2,Yau,Yah L]
  rfl
 have G:B.toArray.size<=sizeLine:=by rw [Ybd];lia
 refine call_meets PySem.F.slot_list_remove ⟨_,e,rfl⟩ PySem.F.entry_list_remove (PySem.F.args_list_remove_2 _ _) (Zf l B.toArray n u (λw=>PyData.eqv (XD s.heap w) d) j (by rw [Ybd];lia) (U _ (D j (by lia))) (λm L Z=>no m Z _ (D m (by simpa using L))) G) ⟨e,λw hw=>?_,?_⟩
 ·obtain ⟨aa,r',s'⟩:=k1 w (by simpa using hw);exact W.keq_at r' ra s' sd Y
 ·refine ⟨.non,_,I.lset (its':=B.eraseIdx j) hH e ?_ (r.eraseIdx j) ?_,rfl,q⟩
  ·show B.toArray.eraseIdxIfInBounds j=(B.eraseIdx j).toArray;rw [List.eraseIdxIfInBounds_toArray]
  ·have:=U0 xs j
   lia
theorem Zje {K:W.Frag}{H:Hp}{l p:Addr}{xs:List V}{rs:List (Int×Int)}{t:Int×Int}{Q:VK}(N:H l=some (.lst xs))(F:Prs H xs rs)(O:H p=some (.tup [.int t.1,.int t.2]))(U:t∈rs)(q:∀B:List V,B.length<=xs.length->Prs H B (rs.erase t)->Q .non (upd H l (.lst B))):ZfP K (.ref l) [.ref p] H Q:=by
 have L:rs.idxOf t<rs.length:=List.idxOf_lt_length_iff.mpr U;have Y:=F.len;refine ⟨l,xs,.ref p,prD t,rs.map prD,rs.idxOf t,rfl,rfl,N,.tup (SqT.of O) (.cons (.int _) (.cons (.int _) .nil)),F.dats,Jg t,ZbZ rs,by lia,λe D=>?_,λm G e D=>?_,?_⟩
 ·rw [Yau,Yah L] at D;cases D;rw [XB];exact Yae (List.getElem_idxOf L)
 ·rw [Yau,Yah (by lia)] at D;cases D;rw [XB];refine Yak λz=>?_;have:=List.not_of_lt_findIdx G;rw [z] at this;simp at this
 ·have:=U0 xs (rs.idxOf t);refine q _ (by lia) ?_;rw [List.erase_eq_eraseIdx_of_idxOf (i:=rs.idxOf t) rfl];exact F.erase _
end
end L2
namespace L2
open PySem PySem.Spec PyProof.Rows
def ltP (x y:Int×Int):Bool:=decide (x.1<y.1) || (decide (x.1=y.1) && decide (x.2<y.2))
section
variable {prog:Program}{w:World}{A:Around}{E:Value->Shared->Prop}{s:Shared}
theorem lt_int {x y:Int}{t u:Tok}{Q:Value->Shared->Prop}(h:Q (.bool (decide (x<y))) s):wpAny (model prog w) A (richCompare .Lt (.int x t) (.int y u)) Q E s:=
 CmpOf.ints_lt (P:=λi v=>∃t,v=.int (if i=0 then x else y) t) (λi=>if i=0 then x else y) (λ_ _ p=>p) 0 1 _ _ s Q E ⟨t,rfl⟩ ⟨u,rfl⟩ h
theorem Zeh {a b:Addr}{x y:Int×Int}{F B G D:Tok}{P:PySem.Fin->Shared->Prop}(N:s.heap.IsTuple a #[.int x.1 F,.int x.2 B])(O:s.heap.IsTuple b #[.int y.1 G,.int y.2 D])(h:P (.done (.ret (.bool (ltP x y)))) s) :
  wpAny (model prog w) A (Builtin.«tuple.__lt__» ⟨[.ref a,.ref b],[]⟩) P E s:=by
 obtain ⟨oa,U,ca,na,Y⟩:=N;obtain ⟨Z,L,cb,nb,db⟩:=O;show wpAny _ _ (isInstance (.ref b) (.type "tuple") >>= _) _ _ s;refine Yab (wpAny_isInstance (T := "tuple") ⟨Z,L,cb⟩ isSubtype_tuple_tuple ?_);simp only [Bool.not_true,Ydo,Ycz];refine Yab (wpAny_tupleItemsOf U Y (Yab (wpAny_tupleItemsOf L db (Yab ?_))));show wpAny _ _ (forIn [(Value.int x.1 F,Value.int y.1 G),(Value.int x.2 B,Value.int y.2 D)] _ _) _ _ s;rw [List.forIn_cons];refine Yab (Yab (wpAny_eqBool_int ?_));by_cases h1:x.1=y.1
 ·rw [show (x.1 == y.1)=true by rw [h1];exact Yei _];simp only [Bool.not_true,Ydo,Ycz];refine Yag ?_;show wpAny _ _ (forIn [(Value.int x.2 B,Value.int y.2 D)] _ _) _ _ s;rw [List.forIn_cons];refine Yab (Yab (wpAny_eqBool_int ?_));by_cases h2:x.2=y.2
  ·rw [show (x.2 == y.2)=true by rw [h2];exact Yei _];simp only [Bool.not_true,Ydo,Ycz];refine Yag ?_;show wpAny _ _ (forIn [] _ _) _ _ s;rw [List.forIn_nil];refine Yag (Yag ?_);have e:ltP x y=false:=by unfold ltP;rw [h1,h2];simp
   rw [e] at h;exact h
  ·rw [show (x.2 == y.2)=false by rw [Ydw];exact h2];simp only [Bool.not_false,if_true];refine Yab (Ycq (Yab (lt_int ?_)));have e:ltP x y=decide (x.2<y.2):=by unfold ltP;rw [h1];simp
   rw [e] at h;exact Yab (Yag (Yag (Yag (Yag h))))
 ·rw [show (x.1 == y.1)=false by rw [Ydw];exact h1];simp only [Bool.not_false,if_true];refine Yab (Ycq (Yab (lt_int ?_)));have e:ltP x y=decide (x.1<y.1):=by unfold ltP;rw [Yak h1];simp
  rw [e] at h;exact Yab (Yag (Yag (Yag (Yag h))))
theorem Zei {a b:Addr}{x y:Int×Int}{L N O U:Tok}{Q:Value->Shared->Prop}(B:s.heap.IsTuple a #[.int x.1 L,.int x.2 N])(D:s.heap.IsTuple b #[.int y.1 O,.int y.2 U])(Y:A.units<cLine)(h:Q (.bool (ltP x y)) s):wpAny (model prog w) A (richCompare .Lt (.ref a) (.ref b)) Q E s:=by
 have G:s.TypeIs (.ref a) "tuple" := B.elim λo z=>⟨o,z.1,z.2.1⟩;have Z:s.TypeIs (.ref b) "tuple" := D.elim λo z=>⟨o,z.1,z.2.1⟩;exact wpAny_richCompare_same_room (op:=.Lt) G Z F.slot_tuple_lt (Yco F.slot_tuple_lt G F.entry_tuple_lt (Zeh B D ⟨_,rfl,(λe=>nomatch e),h⟩) (F.args_tuple_lt_2 _ _)) Y
end
def ZfQ (prog:Program)(w:World)(A:Around)(op:CmpOp)(J:Heap->Prop)(P:Nat->Value->Prop)(B:Nat->Nat->Bool):Prop:=
 ∀(s:Shared)(i j:Nat)(vi vj:Value)(Q E:Value->Shared->Prop),J s.heap->P i vi->P j vj->Q (.bool (B i j)) s->wpAny (model prog w) A (richCompare op vi vj) Q E s
section
variable {prog:Program}{w:World}{A:Around}{R:Result->Shared->Prop}{I:Addr}{fp wr:List Addr}{n:Nat}{P:Nat->Value->Prop}{St:Nat->Heap->Prop}{J:Heap->Prop}{kw:List (Str×Value)}
theorem Zan (W:Walks prog w A.in1 I fp wr n P St)(Y:Nat->Nat->Bool)(ab:ZfQ prog w A.in1 .Lt J P Y)(D:Addr)(hD:D ∉ fp)(B:∀h h':Heap,J h->(∀b o,b ∉ wr->b≠D->h.get? b=some o->h'.get? b=some o)->J h') :
  ∀(left m:Nat)(s:Shared)(best:Value)(c:Nat),n-(m+1)=left->m+1<=n->St (m+1) s.heap->J s.heap->P (argBest Y m) best ->
  s.heap.get? D=some { cls:=.type "list", dict:=none,data:=.seq #[best,best] c,slots:=#[] } ->
  (∀v h' tk,P (argBest Y (n-1)) v->(∀b o,b ∉ wr->b≠D->s.heap.get? b=some o->h'.get? b=some o)->R (.ok (.ret v)) { s with heap:=h',toks:=tk }) ->
  codeAny (model prog w) A (.builtin "min.loop" ⟨[.ref I,.none,.ref D],kw⟩) R s:=by
 have Z:D ∉ wr:=λz=>hD (W.sub _ z);have nm:(toString "min" ++ toString ".loop" : String) = "min.loop" := by decide
 intro left
 induction left with
 | zero=>
  intro m s best c hl hm st j pb gD hR;have en:m+1=n:=by lia
  refine Ydg F.entry_min_loop ?_;rw [Ydq Ydu _];show wpAny _ A.in1 (seqItems? (.ref D) >>= _) _ _ s;refine Yab (wpAny_seqItems gD rfl (show wpAny _ A.in1 (tryCatch (pyNext (.ref I)) _ >>= _) _ _ s from Yab (wpAny_tryCatch (W.done s _ _ (en▸st) λh' tk kept=>?_))));show wpAny _ A.in1 (updateSeq D (λ_=>#[]) >>= _) _ _ _;refine Yab (wpAny_updateSeq (kept D _ Z gD) rfl (Yab (wpAny_letGo (Yag (hR best _ tk (by rw [<-en];exact pb) λb o G L e=>?_)))));exact (Ycy _ _ (Ne.symm L)).trans (kept b o G e)
 | succ left ih=>
  intro m s best c hl hm st j pb gD hR;refine Ydg F.entry_min_loop ?_;rw [Ydq Ydu _];show wpAny _ A.in1 (seqItems? (.ref D) >>= _) _ _ s;refine Yab (wpAny_seqItems gD rfl (show wpAny _ A.in1 (tryCatch (pyNext (.ref I)) _ >>= _) _ _ s from Yab (wpAny_tryCatch (W.item (m+1) s _ _ (by lia) st λv h' tk pv aa kept=>?_))));have N:=kept D _ Z gD;have j':J h':=B _ _ j λb o G _ e=>kept b o G e;show wpAny _ A.in1 (tryCatch (holding [v,v] (richCompare .Lt v best >>= _)) _ >>= _) _ _ _;refine Yab (wpAny_tryCatch (Ycw (Yab (ab _ (m+1) (argBest Y m) v best _ _ j' pv pb (Yab (Ycw (Ydl (Yab (wpAny_letGo (Yag ?_))))))))));cases hb:Y (m+1) (argBest Y m) with
  | true=>
   simp only [if_true];refine Yab (wpAny_updateSeq N rfl (Yab (wpAny_letGo ?_)));rw [nm];refine Yag ⟨Ydh Ydu _,ih (m+1) _ v _ (by lia) (by lia) (W.frame _ _ _ aa λb bf o e=>?_) (B _ _ j' λb o _ L e=>(Ycy _ _ (Ne.symm L)).trans e) (by simp only [argBest,hb,if_true];exact pv) (Yck _ N rfl) λv' h2 O U k2=>?_⟩
   ·exact (Ycy _ _ (λz:D=b=>hD (by rw [z];exact bf))).trans e
   ·exact hR v' h2 O U λb o G L e=>k2 b o G L ((Ycy _ _ (Ne.symm L)).trans (kept b o G e))
  | false=>
   simp only [Ydo,Ycz];refine Yab (wpAny_letGo ?_);rw [nm];refine Yag ⟨Ydh Ydu _,ih (m+1) _ best c (by lia) (by lia) aa j' (by simp only [argBest,hb,Ydo,Ycz];exact pb) N λv' h2 O U k2=>?_⟩;exact hR v' h2 O U λb o G L e=>k2 b o G L (kept b o G e)
theorem VG (W:Walks prog w A.in1 I fp wr n P St)(O:Nat->Nat->Bool)(U:ZfQ prog w A.in1 .Lt J P O)(D:Addr)(Y:D ∉ fp)(B:∀h h':Heap,J h->(∀b o,b ∉ wr->b≠D->h.get? b=some o->h'.get? b=some o)->J h')(hn:0<n){s:Shared}{c:Nat}(st:St 0 s.heap)(j:J s.heap)(gD:s.heap.get? D=some { cls:=.type "list", dict:=none,data:=.seq #[] c,slots:=#[] })(hR:∀v h' tk,P (argBest O (n-1)) v->(∀b o,b ∉ wr->b≠D->s.heap.get? b=some o->h'.get? b=some o)->R (.ok (.ret v)) { s with heap:=h',toks:=tk }) :
  codeAny (model prog w) A (.builtin "min.loop" ⟨[.ref I,.none,.ref D],kw⟩) R s:=by
 have Z:D ∉ wr:=λz=>Y (W.sub _ z);have nm:(toString "min" ++ toString ".loop" : String) = "min.loop" := by decide
 refine Ydg F.entry_min_loop ?_;rw [Ydq Ydu _];show wpAny _ A.in1 (seqItems? (.ref D) >>= _) _ _ s;refine Yab (wpAny_seqItems gD rfl (show wpAny _ A.in1 (tryCatch (pyNext (.ref I)) _ >>= _) _ _ s from Yab (wpAny_tryCatch (W.item 0 s _ _ hn st λv h' tk pv aa kept=>?_))));have G:=kept D _ Z gD;have j':J h':=B _ _ j λb o L _ e=>kept b o L e;show wpAny _ A.in1 (updateSeq D (λ_=>#[v,v]) >>= _) _ _ _;refine Yab (wpAny_updateSeq G rfl ?_);rw [nm];refine Yag ⟨Ydh Ydu _,Zan W O U D Y B _ 0 _ v _ rfl hn (W.frame _ _ _ aa λb bf o e=>?_) (B _ _ j' λb o _ N e=>(Ycy _ _ (Ne.symm N)).trans e) pv (Yck _ G rfl) λv' h2 ab ac k2=>?_⟩
 ·exact (Ycy _ _ (λz:D=b=>Y (by rw [z];exact bf))).trans e
 ·exact hR v' h2 ab ac λb o L N e=>k2 b o L N ((Ycy _ _ (Ne.symm N)).trans (kept b o L e))
end
theorem ltP_iff {x y:Int×Int}:ltP x y=true↔x.1<y.1\/(x.1=y.1/\x.2<y.2):=by
 unfold ltP;rw [Bool.or_eq_true,Ycl,decide_eq_true_iff,decide_eq_true_iff,decide_eq_true_iff]
theorem WU (f:Nat->Int×Int):∀k,argBest (λi j=>ltP (f i) (f j)) k<=k/\∀j,j<=k->ltP (f j) (f (argBest (λi j=>ltP (f i) (f j)) k))=false
 | 0=>⟨Yac _,λj D=>by
  have:j=0:=by lia
  subst this;rw [<-Bool.not_eq_true];intro z;have:=ltP_iff.mp z;have e:argBest (λi j=>ltP (f i) (f j)) 0=0:=rfl;rw [e] at this
  lia⟩
 | k+1=>by
  obtain ⟨i1,i2⟩:=WU f k;have e:argBest (λi j=>ltP (f i) (f j)) (k+1)=if ltP (f (k+1)) (f (argBest (λi j=>ltP (f i) (f j)) k))=true then k+1 else argBest (λi j=>ltP (f i) (f j)) k:=rfl
  rw [e];generalize argBest (λi j=>ltP (f i) (f j)) k=g at i1 i2;by_cases z:ltP (f (k+1)) (f g)=true
  ·rw [if_pos z];refine ⟨Yac _,λj D=>?_⟩;rw [<-Bool.not_eq_true];intro y;have z1:=ltP_iff.mp z;have F:=ltP_iff.mp y;by_cases B:j=k+1
   ·subst B;lia
   ·have:=i2 j (by lia);rw [<-Bool.not_eq_true,ltP_iff] at this
    lia
  ·rw [if_neg z];refine ⟨by lia,λj D=>?_⟩;by_cases B:j=k+1
   ·rw [B];exact Ydz.mpr z
   ·exact i2 j (by lia)
section
variable {X:Cx}
def Zde (xs:List V)(rs:List (Int×Int))(t:Addr)(r:Int×Int):Prop:=(∃i:Nat,xs[i]?=some (.ref t)/\rs[i]?=some r)/\∀r'∈rs,ltP r' r=false
theorem Zca {qQ:List (Addr×Obj)}{s:Shared}{σ:St}{H:Hp}{Q:VK}{p:Addr}{xs:List V}{rs:List (Int×Int)}{its:List Value}{kw:List (Str×Value)}(hc:X.calm=true)(hu:X.A.units+1<cLine)(I:Inv X qQ σ H s)(r:Vals xs its)(pl:PlainL s.heap p its.toArray)(pr:Prs H xs rs)(aa:rs≠[])(q:∀t r,Zde xs rs t r->Q (.ref t) H){R:Result->Shared->Prop}(hR:∀v s',EP X qQ σ Q v s'->R (.ok (.ret v)) s'):∀c:Nat,
  codeAny (model X.prog X.w) X.A (.builtin "min.loop" ⟨[.ref s.heap.objs.size,.none,.ref (s.heap.objs.size+1)],kw⟩) R { s with heap:=(s.heap.push { cls:=.type "list_iterator", data:=.fields #[.ref p,.int 0 0] }).push { cls:=.type "list", dict:=none,data:=.seq #[] c,slots:=#[] } }:=by
 intro c;have hl:=r.length;have hx:=pr.len;have O:0<rs.length:=List.length_pos_iff.mpr aa;have hh:X.A.in1.handled=none:=I.ok.hd hc;obtain ⟨o,eo,_⟩:=id pl.isList;have U:p<s.heap.objs.size:=Yaj eo;have e1:(s.heap.push { cls:=.type "list_iterator", data:=.fields #[.ref p,.int 0 0] }).objs.size=s.heap.objs.size+1:=Ydb ..;have G:∀i v,its[i]?=some v->∃t D F,v=.ref t/\xs[i]?=some (.ref t)/\rs[i]?=some (rs.getD i (0,0))/\s.heap.IsTuple t #[.int (rs.getD i (0,0)).1 D,.int (rs.getD i (0,0)).2 F]:=λi v N=>by
  have hi:i<its.length:=(Ybf.mp N).1;have L:xs[i]?=some xs[i]:=Yah (by lia);obtain ⟨t,q',et,eh,Y⟩:=pr.get L;obtain ⟨u,gu,ru⟩:=r.get L;rw [gu] at N;cases N;rw [et] at ru;cases ru;have eg:rs.getD i (0,0)=q':=by rw [Yai,Y];rfl
  obtain ⟨ae,r2,ab,_⟩:=I.tuple (SqT.of eh);cases r2 with
  | cons a1 r3=>
   cases r3 with
   | cons a2 r4=>
    cases r4;obtain ⟨D,rfl⟩:=a1;obtain ⟨F,rfl⟩:=a2;exact ⟨t,D,F,rfl,by rw [L,et],by rw [eg];exact Y,by rw [eg];exact ab⟩
 have B:∀b o,s.heap.get? b=some o->((s.heap.push { cls:=.type "list_iterator", data:=.fields #[.ref p,.int 0 0] }).push { cls:=.type "list", dict:=none,data:=.seq #[] c,slots:=#[] }).get? b=some o:=λb o e=>Yao _ (Yao _ e);have W:=Walks.list (prog:=X.prog) (w:=X.w) hh s.heap.objs.size p (Yaq U) its.toArray;have ac:its.toArray.size=rs.length:=by rw [Ybd];lia
 refine VG (J:=λh=>∀i t D F,its[i]?=some (.ref t)->s.heap.IsTuple t #[.int (rs.getD i (0,0)).1 D,.int (rs.getD i (0,0)).2 F]->h.IsTuple t #[.int (rs.getD i (0,0)).1 D,.int (rs.getD i (0,0)).2 F]) W (λi j=>ltP (rs.getD i (0,0)) (rs.getD j (0,0))) ?cmp (s.heap.objs.size+1) ?hD ?kJ (by rw [ac];exact O) ?st ?j (by rw [<-e1];exact Ybh _ rfl) ?fin
 case cmp=>
  intro s' i j vi vj Q' E' Z hi hj hq;obtain ⟨a,D,F,rfl,_,_,ha⟩:=G i vi (by simpa using hi);obtain ⟨b,w1,w2,rfl,_,_,hb⟩:=G j vj (by simpa using hj);exact Zei (Z i a D F (by simpa using hi) ha) (Z j b w1 w2 (by simpa using hj) hb) (by rw [Around.in1_units];exact hu) hq
 case hD=>
  intro z;have:s.heap.objs.size+1=s.heap.objs.size\/s.heap.objs.size+1=p:=by simpa using z
  rcases this with e | e
  ·exact absurd e (Nat.succ_ne_self _)
  ·exact absurd U (by rw [<-e];exact Nat.not_lt.mpr (Nat.le_succ _))
 case kJ=>
  intro h h' Z kp i t D F hi hT;obtain ⟨o',g',rest⟩:=Z i t D F hi hT;obtain ⟨o0,g0,_⟩:=hT;have ht:t<s.heap.objs.size:=Yaj g0;refine ⟨o',kp t o' (λz=>?_) (Yaq (Ydt ht)) g',rest⟩;have:t=s.heap.objs.size:=by simpa using z
  exact absurd ht (by rw [this];exact Ybt _)
 case st=>
  refine ⟨⟨_,Yao _ (Ybh _ rfl),rfl,rfl⟩,pl.isList.at λo e=>B _ _ e⟩
 case j=>
  intro i t D F hi hT;obtain ⟨o0,g0,rest⟩:=hT;exact ⟨o0,B _ _ g0,rest⟩
 case fin=>
  intro v h' tk N hk;obtain ⟨b1,b2⟩:=WU (λi=>rs.getD i (0,0)) (its.toArray.size-1);generalize argBest (λi j=>ltP (rs.getD i (0,0)) (rs.getD j (0,0))) (its.toArray.size-1)=g at N b1 b2;obtain ⟨t,D,F,rfl,ex,Y,_⟩:=G g v (by simpa using N);refine hR _ _ ⟨.ref t,H,I.kept λb o e'=>hk b o ?_ ?_ (B b o e'),rfl,q t _ ⟨⟨g,ex,Y⟩,λr' ad=>?_⟩⟩
  ·intro z;have:b=s.heap.objs.size:=by simpa using z
   exact absurd (Yaj e') (by rw [this];exact Ybt _)
  ·exact Yaq (Ydt (Yaj e'))
  ·obtain ⟨j,hj,rfl⟩:=Yby ad;have:=b2 j (by lia);rw [Yai,Yah hj] at this;exact this
def Zdf (X:Cx)(f:Value)(ks:List Str)(r:List V->List V->Hp->VK->Prop):Prop:=∀(qQ:List (Addr×Obj))(s:Shared)(σ:St)(H:Hp)(xs:List V)(us:List Value)(zs:List V)(ws:List Value)(Q:VK),Inv X qQ σ H s->Vals xs us->Vals zs ws->r xs zs H Q->wpAny (model X.prog X.w) X.A (call f us (ks.zip ws)) (EP X qQ σ Q) X.xe s
def Zjf (r:List V->List V->Hp->VK->Prop)(t tk:TA):TE:=λσ H Q=>t σ H λvs H1=>tk σ H1 λzs H2=>r vs zs H2 Q
theorem Zao {id:String}{ks:List Str}{r:List V->List V->Hp->VK->Prop}{x:Str}{p pos:Pos}{e:Expr}{es:List Expr}{kws:List Keyword}{t tk:TA}(N:Zdf X (.builtin id) ks r)(O:Gl X x)(U:X.mg x=none)(Y:bootBuiltins x=some (.builtin id))(Z:PA X (e::es) t)(B:PK X kws tk)(D:(backToKw pos (keywordEach kws X.env)).filterMap (·.1)=ks:=by rfl)(hn:x ≠ "__name__" := by decide)(F:(x == ("__debug__" : Str))=false:=by decide)(he:backTo pos (starEach (e::es) X.env)=(false,eval e X.env)::backTo pos (starEach es X.env):=by rfl)(G:(backTo pos (starEach (e::es) X.env)).any (·.1)=false:=by rfl)(qY:(backToKw pos (keywordEach kws X.env)).all (·.1.isSome)=true:=by rfl)(L:(backToKw pos (keywordEach kws X.env)).any (·.1.isNone)=false:=by rfl):PE X (.Call (.Name x p) (e::es) kws pos) (Zjf r t tk):=by
 intro qQ s σ H Q I h;refine Yeq (OR I O U Y ?_ hn F);refine PyProof.Rows.callWith_kw (thn (Z pos qQ s σ H _ I h) λus s1 ⟨vs,H1,I1,r1,q1⟩=>thn (B pos qQ s1 σ H1 _ I1 q1) λws s2 ⟨zs,H2,I2,r2,q2⟩=>?_) he G qY L;rw [D];exact N qQ s2 σ H2 vs us zs ws Q I2 r1 r2 q2
theorem WV {prog:Program}{w:World}{A:Around}{E:Value->Shared->Prop}{s:Shared}{id:String}{b:Builtin}{args:Args}{Q:Value->Shared->Prop}(D:builtinKind id=none)(F:plainId id=true)(nb:entryFor table id=some b)(na:argsOk id args)(h:wpAny (model prog w) A.in1 (b args) (λfin z=>match fin with
   | .done f=>(match (Except.ok f:Result) with | .ok (.ret v)=>Q v z | .ok _=>False | .error e=>E e z)
   | .again c=>c.quiet=true/\codeAny (model prog w) A c (λr z=>match r with | .ok (.ret v)=>Q v z | .ok _=>False | .error e=>E e z) z) E s) :
  wpAny (model prog w) A (call (.builtin id) args.pos args.kw) Q E s:=by
 refine wpAny_call (codeAny_call_builtin F nb ?_);simp only [checkBuiltinCall,D];cases sg:Manifest.signature? id with
 | none=>exact Yag h
 | some sig=>
  have B:Bind.checkArgs id sig args=pure ():=by simpa only [argsOk,sg] using na
  show wpAny _ A.in1 (Bind.checkArgs id sig args) _ _ s;rw [B];exact Yag h
theorem Zaq (a b:Value):argsOk "min" ⟨[a],[(Str.ofString "default", b)]⟩:=by unfold argsOk;kernel_rfl
theorem ZfR (K:PySem.W.Frag)(O:X.calm=true)(hu:X.A.units+1<cLine)(h:X.K=K:=by rfl):Zdf X (.builtin "min") ["default"] (λvs zs H Q=>∃(p:Addr)(xs:List V)(rs:List (Int×Int))(d:V),vs=[.ref p]/\zs=[d]/\SqL K H p xs/\Prs H xs rs/\(rs=[]->Q d H)/\∀t r,Zde xs rs t r->Q (.ref t) H):=by
 subst h;intro qQ s σ H xs us zs ws Q I rv rz h;obtain ⟨p,xs,rs,d,rfl,rfl,hq,U,q0,q⟩:=h;obtain ⟨u,rfl,ru⟩:=rv.one;obtain ⟨L,rfl,rd⟩:=rz.one;cases ru;obtain ⟨D,r,pl,hz⟩:=I.list hq;have nm:(toString "min" ++ toString ".loop" : String) = "min.loop" := by decide
 refine WV (args:=⟨[.ref p],[(Str.ofString "default", L)]⟩) F.kind_min F.plain_min F.entry_min (Zaq _ _) ?_;refine Yab (wpAny_of_eq (show Builtin.Builtins.bindParams "min" ["key", "default"] 0 ⟨[],[(Str.ofString "default", L)]⟩=pure [none,some L] from rfl) (Yab (Yag (Yab (wpAny_pyIter_list pl.isList (Yab (wpAny_newObj_type ?_)))))));rw [nm];have Y:(s.heap.push { cls:=.type "list_iterator", data:=.fields #[.ref p,.int 0 0] }).objs.size=s.heap.objs.size+1:=Ydb ..;refine Yag ⟨Ydh Ydu _,?_⟩;show codeAny _ _ (.builtin "min.loop" ⟨[.ref s.heap.objs.size,.none,.ref (s.heap.push { cls:=.type "list_iterator", data:=.fields #[.ref p,.int 0 0] }).objs.size],[(Str.ofString "default", L)]⟩) _ _;rw [Y];by_cases B:rs=[]
 ·have hh:X.A.in1.handled=none:=I.ok.hd O;obtain ⟨o,eo,_⟩:=id pl.isList;have N:p<s.heap.objs.size:=Yaj eo;have G:D=[]:=by
   have:=r.length;have:=U.len;rw [B,List.length_nil] at this;exact List.length_eq_zero_iff.mp (by lia)
  have W:=Walks.list (prog:=X.prog) (w:=X.w) hh s.heap.objs.size p (Yaq N) D.toArray;refine Ydg F.entry_min_loop ?_;rw [Ydq Ydu _];show wpAny _ X.A.in1 (seqItems? (.ref (s.heap.objs.size+1)) >>= _) _ _ _;refine Yab (wpAny_seqItems (by rw [<-Y];exact Ybh _ rfl) rfl ?_);refine Yab (wpAny_tryCatch (W.done _ _ _ ?_ λh' tk kept=>?_))
  ·rw [G];exact ⟨⟨_,Yao _ (Ybh _ rfl),rfl,rfl⟩,by rw [<-G];exact pl.isList.at λo e=>Yao _ (Yao _ e)⟩
  ·refine Yab (Ycq (Yag ⟨d,H,I.kept λb o Z=>kept b o ?_ (Yao _ (Yao _ Z)),rd,q0 B⟩));intro z;have:b=s.heap.objs.size:=by simpa using z
   exact absurd (Yaj Z) (by rw [this];exact Ybt _)
 ·exact Zca O hu I r pl U B q (λv s' h=>h) 0
end
def Oe:Bool->Keyed->Array Keyed->Nat->Nat->Nat->StateT SortSt Sem (Option Nat):=sortPriv% PySem.Builtin.gallop
def V2:Array Keyed->Array Keyed->StateT SortSt Sem (Array Keyed):=sortPriv% PySem.Builtin.mergeLo
def V3:Array Keyed->Array Keyed->StateT SortSt Sem (Array Keyed):=sortPriv% PySem.Builtin.mergeHi
def U7:Nat->StateT SortSt Sem Unit:=sortPriv% PySem.Builtin.setMinGallop
def Ui (left:Bool)(key:Keyed)(arr:Array Keyed)(base i:Nat):StateT SortSt Sem (Option Bool):=do
 let x <- elem' arr (base+i)
 if left then lt' x key else return (<- lt' key x).map (!·)
def OX (left:Bool)(key:Keyed)(arr:Array Keyed)(base n lo hi:Nat):StateT SortSt Sem (Option Nat):=do
 let mut lo:=lo
 let mut hi:=hi
 for _ in [:n] do
  if lo>=hi then break
  let m:=lo+(hi-lo) / 2
  let some more <- Ui left key arr base m | return none
  if more then lo:=m+1
  else hi:=m
 return some hi
def V4 (left:Bool)(key:Keyed)(arr:Array Keyed)(base n hint:Nat):StateT SortSt Sem (Option Nat):=do
 let mut lastofs:=0
 let mut ofs:=1
 let maxofs:=n-hint
 for _ in [:n] do
  if ofs>=maxofs then break
  let some more <- Ui left key arr base (hint+ofs) | return none
  if !more then break
  lastofs:=ofs
  ofs:=2 * ofs+1
 OX left key arr base n (hint+lastofs+1) (hint+min ofs maxofs)
def Uj (left:Bool)(key:Keyed)(arr:Array Keyed)(base n hint:Nat):StateT SortSt Sem (Option Nat):=do
 let mut lastofs:=0
 let mut ofs:=1
 let maxofs:=hint+1
 for _ in [:n] do
  if ofs>=maxofs then break
  let some found <- Ui left key arr base (hint-ofs) | return none
  if found then break
  lastofs:=ofs
  ofs:=2 * ofs+1
 OX left key arr base n (hint+1-min ofs maxofs) (hint-lastofs)
theorem Zg (left:Bool)(key:Keyed)(arr:Array Keyed)(base n hint:Nat):Oe left key arr base n hint=(do
  let some right <- Ui left key arr base hint | return none
  if right then V4 left key arr base n hint else Uj left key arr base n hint):=rfl
section
variable {M:Model}{A:Around}{E:Value->Shared->Prop}{s:Shared}{kd:SortKind}{b:Keyed->Keyed->Bool}{good:Keyed->Prop}
structure WO (b:Keyed->Keyed->Bool):Prop where
 irr:∀x,b x x=false
 tr:∀x y z,b x y=true->b y z=true->b x z=true
 neg:∀x y z,b x z=true->b x y=true\/b y z=true
def Ux (M:Model)(A:Around)(E:Value->Shared->Prop)(s:Shared)(kd:SortKind)(b:Keyed->Keyed->Bool)(good:Keyed->Prop):Prop:=
 ∀(x y:Keyed)(st:SortSt)(Q:Option Bool->SortSt->Prop),good x->good y->kindOf st=kd->Q (some (b x y)) st->wpS M A E s (lt' x y) Q st
theorem GA {arr:Array Keyed}{i:Nat}{x:Keyed}{st:SortSt}{Q:Keyed->SortSt->Prop}(h:arr[i]?=some x)(q:Q x st):wpS M A E s (elem' arr i) Q st:=by
 rw [elem'_eq,h];exact Yaf q
def byd (b:Keyed->Keyed->Bool)(left:Bool)(key:Keyed)(arr:Array Keyed)(base i:Nat):Bool:=match arr[base+i]? with
 | some x=>if left then b x key else !b key x
 | none=>false
theorem Oo {left:Bool}{key:Keyed}{arr:Array Keyed}{base i:Nat}{x:Keyed}{st:SortSt}{Q:Option Bool->SortSt->Prop}(L:Ux M A E s kd b good)(B:good key)(D:arr[base+i]?=some x)(F:good x)(G:kindOf st=kd)(q:Q (some (byd b left key arr base i)) st):wpS M A E s (Ui left key arr base i) Q st:=by
 unfold Ui;refine Yad (GA D ?_);unfold byd at q;rw [D] at q;cases left with
 | true=>exact L x key st Q F B G q
 | false=>exact Yad (L key x st _ B F G (Yaf q))
section
variable {left:Bool}{key:Keyed}{arr:Array Keyed}{base n hint:Nat}{st:SortSt}{Q:Option Nat->SortSt->Prop}
structure Gal (b:Keyed->Keyed->Bool)(good:Keyed->Prop)(left:Bool)(key:Keyed)(arr:Array Keyed)(base n:Nat):Prop where
 gk:good key
 it:∀i,i<n->∃x,arr[base+i]?=some x/\good x
 mono:∀i j,i<=j->j<n->byd b left key arr base j=true->byd b left key arr base i=true
theorem Jh {lo hi:Nat}(L:Ux M A E s kd b good)(G:Gal b good left key arr base n)(O:kindOf st=kd)(h1:lo<=hi)(h2:hi<=n)(D:∀i,i<lo->byd b left key arr base i=true)(F:∀i,hi<=i->i<n->byd b left key arr base i=false)(q:∀k,k<=n->(∀i,i<k->byd b left key arr base i=true)->(∀i,k<=i->i<n->byd b left key arr base i=false)->Q (some k) st):wpS M A E s (OX left key arr base n lo hi) Q st:=by
 unfold OX;refine Yad (Ycf (λk c B=>B=st/\∃lo hi,c=(none,lo,hi)/\lo<=hi/\hi<=n/\hi-lo<=n-k/\(∀i,i<lo->byd b left key arr base i=true)/\(∀i,hi<=i->i<n->byd b left key arr base i=false)) ?_ ?_ ⟨rfl,lo,hi,rfl,h1,h2,by lia,D,F⟩)
 ·rintro k c B _ hk ⟨rfl,lo,hi,rfl,h1,h2,N,D,F⟩;dsimp only;split
  ·rename_i U;have:lo=hi:=by lia
   subst this;refine Yaf ?_;dsimp only;exact Yaf (q lo h2 D F)
  ·rename_i U;obtain ⟨x,Y,Z⟩:=G.it (lo+(hi-lo) / 2) (by lia);refine Yad (Oo L G.gk Y Z O ?_);dsimp only;cases hb:byd b left key arr base (lo+(hi-lo) / 2) with
   | true=>
    refine Yaf ⟨rfl,_,_,rfl,by lia,h2,by lia,λi aa=>G.mono i (lo+(hi-lo) / 2) (by lia) (by lia) hb,F⟩
   | false=>
    refine Yaf ⟨rfl,_,_,rfl,by lia,by lia,by lia,D,λi h8 h9=>?_⟩;cases hc:byd b left key arr base i with
    | false=>rfl
    | true=>rw [G.mono _ i h8 h9 hc] at hb;cases hb
 ·rintro c B ⟨rfl,lo,hi,rfl,h1,h2,N,D,F⟩;have:lo=hi:=by simp at N;lia
  subst this;exact Yaf (q lo h2 D F)
theorem JK (L:Ux M A E s kd b good)(G:Gal b good left key arr base n)(N:kindOf st=kd)(hn:hint<n)(q:∀k,k<=n->(∀i,i<k->byd b left key arr base i=true)->(∀i,k<=i->i<n->byd b left key arr base i=false)->Q (some k) st):wpS M A E s (Oe left key arr base n hint) Q st:=by
 rw [Zg];obtain ⟨x,hx,gx⟩:=G.it hint hn;have F:∀i j,byd b left key arr base i=false->i<=j->j<n->byd b left key arr base j=false:=λi j h1 h2 h3=>by
  cases hc:byd b left key arr base j with
  | false=>rfl
  | true=>rw [G.mono _ j h2 h3 hc] at h1;cases h1
 refine Yad (Oo L G.gk hx gx N ?_);cases hb:byd b left key arr base hint with
 | true=>
  show wpS M A E s (V4 left key arr base n hint) Q st;unfold V4;refine Yad (Ycf (λk c D=>D=st/\∃last B,c=(none,last,B)/\last<B/\k+1<=B/\hint+last<n/\byd b left key arr base (hint+last)=true) ?_ ?_ ⟨rfl,0,1,rfl,by lia,by lia,hn,hb⟩)
  ·rintro k c D _ hk ⟨rfl,last,B,rfl,h1,h2,h3,O⟩;dsimp only;split
   ·rename_i U;refine Yaf ?_;dsimp only;rw [Yej U];exact Jh L G N (by lia) (by lia) (λi hi=>G.mono i _ (show i<=hint+last by lia) h3 O) (λi Y Z=>by lia) q
   ·rename_i U;obtain ⟨y,hy,gy⟩:=G.it (hint+B) (by lia);refine Yad (Oo L G.gk hy gy N ?_);dsimp only;cases hb2:byd b left key arr base (hint+B) with
    | true=>exact Yaf ⟨rfl,_,_,rfl,by lia,by lia,by lia,hb2⟩
    | false=>
     refine Yaf ?_;dsimp only;rw [Yea (by lia)];exact Jh L G N (by lia) (by lia) (λi hi=>G.mono i _ (show i<=hint+last by lia) h3 O) (λi Y Z=>F _ i hb2 Y Z) q
  ·rintro c D ⟨rfl,last,B,rfl,h1,h2,h3,O⟩;dsimp only;have U:n-hint<=B:=by simp at h2;lia
   rw [Yej U];exact Jh L G N (by lia) (by lia) (λi hi=>G.mono i _ (show i<=hint+last by lia) h3 O) (λi Y Z=>by lia) q
 | false=>
  show wpS M A E s (Uj left key arr base n hint) Q st;unfold Uj;refine Yad (Ycf (λk c D=>D=st/\∃last B,c=(none,last,B)/\last<B/\k+1<=B/\last<=hint/\byd b left key arr base (hint-last)=false) ?_ ?_ ⟨rfl,0,1,rfl,by lia,by lia,by lia,hb⟩)
  ·rintro k c D _ hk ⟨rfl,last,B,rfl,h1,h2,h3,O⟩;dsimp only;split
   ·rename_i U;refine Yaf ?_;dsimp only;rw [Yej U];exact Jh L G N (by lia) (by lia) (λi hi=>by lia) (λi Y Z=>F _ i O Y Z) q
   ·rename_i U;obtain ⟨y,hy,gy⟩:=G.it (hint-B) (by lia);refine Yad (Oo L G.gk hy gy N ?_);dsimp only;cases hb2:byd b left key arr base (hint-B) with
    | false=>exact Yaf ⟨rfl,_,_,rfl,by lia,by lia,by lia,hb2⟩
    | true=>
     refine Yaf ?_;dsimp only;rw [Yea (by lia)];exact Jh L G N (by lia) (by lia) (λi hi=>G.mono i (hint-B) (by lia) (by lia) hb2) (λi Y Z=>F _ i O Y Z) q
  ·rintro c D ⟨rfl,last,B,rfl,h1,h2,h3,O⟩;dsimp only;have U:hint+1<=B:=by simp at h2;lia
   rw [Yej U];exact Jh L G N (by lia) (by lia) (λi hi=>by lia) (λi Y Z=>F _ i O Y Z) q
end
end
abbrev MLs:=Option (Array Keyed)×Array Keyed×Nat×Nat×Nat×Nat
abbrev MLt:=Option (Array Keyed)×Array Keyed×Nat×Nat×Nat×Nat×Nat
def OC (a b out:Array Keyed)(ia ib:Nat):Array Keyed:=out++a.extract ia++b.extract ib
def VH (a b out:Array Keyed)(ia ib:Nat):Array Keyed:=out++b.extract ib++a.extract ia
def Zcb (a b:Array Keyed)(mg:Nat):Nat->MLs->StateT SortSt Sem (ForInStep MLs):=λ_ r=>
 let out:=r.2.1;let ia:=r.2.2.1;let ib:=r.2.2.2.1;let qZ:=r.2.2.2.2.1;let qX:=r.2.2.2.2.2
 do
 let x <- elem' b ib
 let y <- elem' a ia
 match <- lt' x y with
 | some bWins=>
  if bWins=true then do
   let z <- elem' b ib
   let out:=out.push z
   let ib:=ib+1
   let qX:=qX+1
   let qZ:=0
   if (ib == b.size)=true then pure (.done (some (OC a b out ia ib),out,ia,ib,qZ,qX))
   else if qX>=mg then pure (.done (none,out,ia,ib,qZ,qX))
   else pure (.yield (none,out,ia,ib,qZ,qX))
  else do
   let z <- elem' a ia
   let out:=out.push z
   let ia:=ia+1
   let qZ:=qZ+1
   let qX:=0
   if (ia+1 == a.size)=true then pure (.done (some (VH a b out ia ib),out,ia,ib,qZ,qX))
   else if qZ>=mg then pure (.done (none,out,ia,ib,qZ,qX))
   else pure (.yield (none,out,ia,ib,qZ,qX))
 | _=>pure (.done (some (OC a b out ia ib),out,ia,ib,qZ,qX))
def mlD (a b:Array Keyed)(D B k:Nat)(out:Array Keyed)(ia ib:Nat):StateT SortSt Sem (ForInStep MLt):=do
 let qX:=k
 let z <- elem' a ia
 let out:=out.push z
 let ia:=ia+1
 if (ia+1 == a.size)=true then pure (.done (some (VH a b out ia ib),out,ia,ib,D,B,qX))
 else if (decide (B<7) && decide (qX<7))=true then pure (.done (none,out,ia,ib,D,B,qX))
 else pure (.yield (none,out,ia,ib,D,B,qX))
def mlC (a b:Array Keyed)(B D F:Nat)(out:Array Keyed)(ia ib:Nat):StateT SortSt Sem (ForInStep MLt):=do
 let z <- elem' b ib
 let out:=out.push z
 let ib:=ib+1
 if (ib == b.size)=true then pure (.done (some (OC a b out ia ib),out,ia,ib,B,D,F))
 else do
  let y <- elem' a ia
  match <- Oe true y b ib (b.size-ib) 0 with
  | some k=>
   let F:=k
   if k > 0 then
    let out:=out++b.extract ib (ib+k)
    let ib:=ib+k
    if (ib == b.size)=true then pure (.done (some (OC a b out ia ib),out,ia,ib,B,D,F))
    else mlD a b B D k out ia ib
   else mlD a b B D k out ia ib
  | _=>pure (.done (some (OC a b out ia ib),out,ia,ib,B,D,F))
def mlB (a b:Array Keyed)(B D F:Nat)(out:Array Keyed)(ia ib:Nat):StateT SortSt Sem (ForInStep MLt):=do
 U7 B
 let x <- elem' b ib
 match <- Oe false x a ia (a.size-ia) 0 with
 | some k=>
  let D:=k
  if k > 0 then
   let out:=out++a.extract ia (ia+k)
   let ia:=ia+k
   if (ia+1 == a.size)=true then pure (.done (some (VH a b out ia ib),out,ia,ib,B,D,F))
   else if (ia == a.size)=true then pure (.done (some (OC a b out ia ib),out,ia,ib,B,D,F))
   else mlC a b B D F out ia ib
  else mlC a b B D F out ia ib
 | _=>pure (.done (some (OC a b out ia ib),out,ia,ib,B,D,F))
def Zcc (a b:Array Keyed):Nat->MLt->StateT SortSt Sem (ForInStep MLt):=λ_ r=>
 let out:=r.2.1;let ia:=r.2.2.1;let ib:=r.2.2.2.1;let qJ:=r.2.2.2.2.1;let qZ:=r.2.2.2.2.2.1;let qX:=r.2.2.2.2.2.2
 if qJ > 1 then mlB a b (qJ-1) qZ qX out ia ib else mlB a b qJ qZ qX out ia ib
abbrev MLo:=Option (Array Keyed)×Array Keyed×Nat×Nat×Nat
def Zcd (a b:Array Keyed):Nat->MLo->StateT SortSt Sem (ForInStep MLo):=λ_ r=>
 let out:=r.2.1;let ia:=r.2.2.1;let ib:=r.2.2.2.1;let qJ:=r.2.2.2.2
 do
 let r <- forIn [:a.size+b.size] ((none,out,ia,ib,0,0):MLs) (Zcb a b qJ)
 match r.1 with
 | some x=>pure (.done (some x,r.2.1,r.2.2.1,r.2.2.2.1,qJ))
 | none=>do
  liftM (rule "list.sort.gallop")
  let r <- forIn [:a.size+b.size] ((none,r.2.1,r.2.2.1,r.2.2.2.1,qJ+1,r.2.2.2.2.1,r.2.2.2.2.2):MLt) (Zcc a b)
  match r.1 with
  | some x=>pure (.done (some x,r.2.1,r.2.2.1,r.2.2.2.1,r.2.2.2.2.1))
  | none=>do
   U7 (r.2.2.2.2.1+1)
   pure (.yield (none,r.2.1,r.2.2.1,r.2.2.2.1,r.2.2.2.2.1+1))
theorem Jz {α β:Type}{m:StateT SortSt Sem α}{f g:α->StateT SortSt Sem β}(h:∀x,f x=g x):m >>= f=m >>= g:=by rw [funext h]
theorem V5 {α:Type}{c:Prop}[Decidable c]{x y u v:α}(h1:x=y)(h2:u=v):(if c then x else u)=if c then y else v:=by rw [h1,h2]
theorem U8 {β:Type}{r:Std.Legacy.Range}{c:β}{f g:Nat->β->StateT SortSt Sem (ForInStep β)}(h:∀i x,f i x=g i x):forIn r c f=forIn r c g:=by rw [funext λi=>funext (h i)]
theorem XM (a b:Array Keyed):V2 a b=(do
  liftM (rule "list.sort.merge-lo")
  let x <- elem' b 0
  let out:=#[x]
  if (1 == b.size)=true then pure (OC a b out 0 1)
  else if (0+1 == a.size)=true then pure (VH a b out 0 1)
  else do
   let st <- get
   let r <- forIn [:a.size+b.size] ((none,out,0,1,gallopOf st):MLo) (Zcd a b)
   match r.1 with
   | some r=>pure r
   | none=>liftM (unsupported "internal:list.sort.merge-bound")):=by
 refine Jz (m:=liftM (rule "list.sort.merge-lo")) λ_=>?_;refine Jz (m:=elem' b 0) λx=>?_;refine V5 (c:=(1 == b.size)=true) rfl ?_;refine V5 (c:=(0+1 == a.size)=true) rfl ?_;refine Jz (m:=get) λst=>?_;refine (Ybb (λm:StateT SortSt Sem MLo=>m >>= _) (U8 (r:=[:a.size+b.size]) (c:=((none,#[x],0,1,gallopOf st):MLo)) (g:=Zcd a b) λi r=>?_)).trans ?_;rotate_left
 ·refine Jz λr=>?_;obtain ⟨r1,D⟩:=r;cases r1 <;> rfl
 unfold Zcd;refine (Ybb (λm:StateT SortSt Sem MLs=>m >>= _) (U8 (r:=[:a.size+b.size]) (g:=Zcb a b r.2.2.2.2) λi r=>rfl)).trans ?_;refine Jz λq=>?_;obtain ⟨q1,B⟩:=q;cases q1 with
 | some z=>rfl
 | none=>
  refine Jz (m:=liftM (rule "list.sort.gallop")) λ_=>?_;refine (Ybb (λm:StateT SortSt Sem MLt=>m >>= _) (U8 (r:=[:a.size+b.size]) (g:=Zcc a b) λi r=>rfl)).trans ?_;refine Jz λq=>?_;obtain ⟨q1,B⟩:=q;cases q1 <;> rfl
section
variable {b:Keyed->Keyed->Bool}
abbrev kle (b:Keyed->Keyed->Bool)(x y:Keyed):Prop:=b y x=false
theorem WO.le_trans (W:WO b){x y z:Keyed}(h1:kle b x y)(h2:kle b y z):kle b x z:=by
 cases h:b z x with
 | false=>exact h
 | true=>
  rcases W.neg z y x h with q | q
  ·rw [show b z y=false from h2] at q;cases q
  ·rw [show b y x=false from h1] at q;cases q
theorem WO.le_of_lt (W:WO b){x y:Keyed}(h:b x y=true):kle b x y:=by
 cases q:b y x with
 | false=>exact q
 | true=>
  have:=W.tr _ _ _ h q;rw [W.irr] at this;cases this
theorem WO.le_refl (W:WO b)(x:Keyed):kle b x x:=W.irr x
structure Mrg (b:Keyed->Keyed->Bool)(all out ra rb:List Keyed):Prop where
 perm:(out++ra++rb).Perm all
 so:out.Pairwise (kle b)
 le:∀x∈out,∀y∈ra++rb,kle b x y
 sa:ra.Pairwise (kle b)
 sb:rb.Pairwise (kle b)
theorem Mrg.len {all out B D:List Keyed}(h:Mrg b all out B D):out.length+B.length+D.length=all.length:=by
 have:=h.perm.length_eq;rw [Yan,Yan] at this;exact this
theorem Mrg.moveA {all out u F G:List Keyed}(h:Mrg b all out (u++F) G)(N:∀x∈u,∀y∈G,kle b x y):Mrg b all (out++u) F G:=by
 have L:=Ycg.mp h.sa;refine ⟨by rw [Ybp out u F];exact h.perm,Ycg.mpr ⟨h.so,L.1,λx D y B=>h.le x D y (by simp [B])⟩,λx D y B=>?_,L.2.1,h.sb⟩;rcases Yav.mp D with D | D
 ·refine h.le x D y ?_;rcases Yav.mp B with B | B
  ·simp [B]
  ·simp [B]
 ·rcases Yav.mp B with B | B
  ·exact L.2.2 x D y B
  ·exact N x D y B
theorem Mrg.moveB {all out u F L:List Keyed}(h:Mrg b all out F (u++L))(N:∀x∈u,∀y∈F,kle b x y):Mrg b all (out++u) F L:=by
 have G:=Ycg.mp h.sb;refine ⟨?_,Ycg.mpr ⟨h.so,G.1,λx D y B=>h.le x D y (by simp [B])⟩,λx D y B=>?_,h.sa,G.2.1⟩
 ·refine List.Perm.trans ?_ h.perm;simp only [Ybp];refine List.Perm.append_left _ ?_;rw [<-Ybp,<-Ybp];exact List.Perm.append_right _ List.perm_append_comm
 ·rcases Yav.mp D with D | D
  ·refine h.le x D y ?_;rcases Yav.mp B with B | B
   ·simp [B]
   ·simp [B]
  ·rcases Yav.mp B with B | B
   ·exact N x D y B
   ·exact G.2.2 x D y B
def JH (b:Keyed->Keyed->Bool)(all r:List Keyed):Prop:=r.Perm all/\r.Pairwise (kle b)
theorem Mrg.endA {all out B D:List Keyed}(h:Mrg b all out B D)(hz:∀x∈B,∀y∈D,kle b x y):JH b all (out++B++D):=by
 refine ⟨h.perm,?_⟩;rw [Ybp];exact Ycg.mpr ⟨h.so,Ycg.mpr ⟨h.sa,h.sb,hz⟩,h.le⟩
theorem Mrg.endB {all out D F:List Keyed}(h:Mrg b all out D F)(hz:∀x∈F,∀y∈D,kle b x y):JH b all (out++F++D):=by
 refine ⟨?_,?_⟩
 ·refine List.Perm.trans ?_ h.perm;rw [Ybp,Ybp];exact List.Perm.append_left _ List.perm_append_comm
 ·rw [Ybp];exact Ycg.mpr ⟨h.so,Ycg.mpr ⟨h.sb,h.sa,hz⟩,λx G y B=>h.le x G y (by
   rcases Yav.mp B with B | B <;> simp [B])⟩
end
theorem UG (a:Array Keyed)(i:Nat):(a.extract i).toList=a.toList.drop i:=by
 rw [Yes,Yet,Yeb];rw [Yct];exact Yac _
theorem Yv (a:Array Keyed)(i k:Nat):(a.extract i (i+k)).toList=(a.toList.drop i).take k:=by
 rw [Yes,Yet,Nat.add_sub_cancel_left]
theorem JM {a:Array Keyed}{i:Nat}{x:Keyed}(h:a[i]?=some x):a.toList.drop i=x::a.toList.drop (i+1):=by
 rw [<-Ybz] at h;obtain ⟨h1,h2⟩:=Ybf.mp h;rw [List.drop_eq_getElem_cons h1,h2]
def SameG (st B:SortSt):Prop:=kindOf B=kindOf st/\arrOf B=arrOf st/\pendingOf B=pendingOf st/\failedOf B=failedOf st
theorem SameG.refl (st:SortSt):SameG st st:=⟨rfl,rfl,rfl,rfl⟩
theorem SameG.trans {st D B:SortSt}(h:SameG st D)(k:SameG D B):SameG st B:=⟨k.1.trans h.1,k.2.1.trans h.2.1,k.2.2.1.trans h.2.2.1,k.2.2.2.trans h.2.2.2⟩
section
variable {M:Model}{A:Around}{E:Value->Shared->Prop}{s:Shared}{kd:SortKind}{b:Keyed->Keyed->Bool}{good:Keyed->Prop}
theorem Op {g:Nat}{st:SortSt}{Q:Unit->SortSt->Prop}(q:∀B,SameG st B->Q () B):wpS M A E s (U7 g) Q st:=by
 refine Ycr (f:=λs=>SortSt.mk' (kindOf s) (arrOf s) (pendingOf s) g (failedOf s)) (q _ ⟨rfl,rfl,rfl,rfl⟩)
structure Two (b:Keyed->Keyed->Bool)(good:Keyed->Prop)(a c:Array Keyed):Prop where
 ga:∀x∈a.toList,good x
 gc:∀x∈c.toList,good x
 sa:a.toList.Pairwise (kle b)
 sc:c.toList.Pairwise (kle b)
 na:0<a.size
 nc:0<c.size
 first:∀x,c[0]?=some x->∀y∈a.toList,kle b x y
 last:∀z,a[a.size-1]?=some z->∀y∈c.toList,kle b y z
variable {a c:Array Keyed}
theorem Two.at (T:Two b good a c){i:Nat}(h:i<a.size):∃x,a[i]?=some x/\good x:=⟨a[i],by simp [h],T.ga _ (by simp)⟩
theorem Two.ct (T:Two b good a c){i:Nat}(h:i<c.size):∃x,c[i]?=some x/\good x:=⟨c[i],by simp [h],T.gc _ (by simp)⟩
def ML (b:Keyed->Keyed->Bool)(a c out:Array Keyed)(ia ib:Nat):Prop:=Mrg b (a.toList++c.toList) out.toList (a.toList.drop ia) (c.toList.drop ib)
theorem ML.done {out:Array Keyed}{ia ib:Nat}(h:ML b a c out ia ib)(e:ib=c.size\/ia=a.size):JH b (a.toList++c.toList) (OC a c out ia ib).toList:=by
 unfold OC;rw [Ycj,Ycj,UG,UG];refine Mrg.endA h λx B y D=>?_;rcases e with e | e
 ·rw [Yek (by rw [e,Ybj];exact Yac _)] at D;cases D
 ·rw [Yek (by rw [e,Ybj];exact Yac _)] at B;cases B
theorem ML.last {out:Array Keyed}{ia ib:Nat}(T:Two b good a c)(h:ML b a c out ia ib)(e:ia+1=a.size):JH b (a.toList++c.toList) (VH a c out ia ib).toList:=by
 unfold VH;rw [Ycj,Ycj,UG,UG];refine Mrg.endB h λx F y B=>?_;obtain ⟨z,D,_⟩:=T.at (i:=ia) (by lia);rw [JM D,Yek (by rw [Ybj];lia)] at B;have:y=z:=by simpa using B
 subst this;exact T.last y (by rw [<-e];exact D) x (List.mem_of_mem_drop F)
theorem ML.pushB {out:Array Keyed}{ia ib:Nat}{x:Keyed}(h:ML b a c out ia ib)(B:c[ib]?=some x)(D:∀y∈a.toList.drop ia,kle b x y):ML b a c (out.push x) ia (ib+1):=by
 unfold ML at h ⊢;rw [Yel];rw [JM B] at h;exact Mrg.moveB (u:=[x]) h λz F y G=>by
  have:z=x:=by simpa using F
  subst this;exact D y G
theorem ML.pushA {out:Array Keyed}{ia ib:Nat}{x:Keyed}(h:ML b a c out ia ib)(B:a[ia]?=some x)(D:∀y∈c.toList.drop ib,kle b x y):ML b a c (out.push x) (ia+1) ib:=by
 unfold ML at h ⊢;rw [Yel];rw [JM B] at h;exact Mrg.moveA (u:=[x]) h λz F y G=>by
  have:z=x:=by simpa using F
  subst this;exact D y G
theorem ML.takeA {out:Array Keyed}{ia ib k:Nat}(h:ML b a c out ia ib)(B:∀x∈(a.toList.drop ia).take k,∀y∈c.toList.drop ib,kle b x y):ML b a c (out++a.extract ia (ia+k)) (ia+k) ib:=by
 unfold ML at h ⊢;rw [Ycj,Yv];rw [<-Yeu k (a.toList.drop ia),List.drop_drop] at h;exact Mrg.moveA h B
theorem ML.takeB {out:Array Keyed}{ia ib k:Nat}(h:ML b a c out ia ib)(B:∀x∈(c.toList.drop ib).take k,∀y∈a.toList.drop ia,kle b x y):ML b a c (out++c.extract ib (ib+k)) ia (ib+k):=by
 unfold ML at h ⊢;rw [Ycj,Yv];rw [<-Yeu k (c.toList.drop ib),List.drop_drop] at h;exact Mrg.moveB h B
theorem V6 {l:List Keyed}{x:Keyed}(W:WO b)(h:(x::l).Pairwise (kle b)):∀y∈x::l,kle b x y:=λy B=>by
 rcases Yar.mp B with rfl | B
 ·exact W.le_refl _
 ·exact (Yed.mp h).1 y B
theorem Zar (W:WO b)(L:Ux M A E s kd b good)(T:Two b good a c){out:Array Keyed}{ia ib mg:Nat}{st:SortSt}(hs:kindOf st=kd)(h:ML b a c out ia ib)(h1:ia+1<a.size)(h2:ib<c.size){Q:MLs->SortSt->Prop}(q1:∀r y G,SameG st G->JH b (a.toList++c.toList) r.toList->Q (some r,y) G)(q2:∀B D F U Y G,SameG st G->ML b a c B D F->D+1<a.size->F<c.size->out.size<B.size->Q (none,B,D,F,U,Y) G) :
  wpS M A E s (forIn [:a.size+c.size] ((none,out,ia,ib,0,0):MLs) (Zcb a c mg)) Q st:=by
 refine Ycf (λk r G=>SameG st G/\∃B D F U Y,r=(none,B,D,F,U,Y)/\ML b a c B D F/\D+1<a.size/\F<c.size/\out.size+k<=B.size) ?_ ?_ ⟨SameG.refl _,_,_,_,_,_,rfl,h,h1,h2,Yac _⟩
 ·rintro k r O _ hk ⟨N,B,D,F,U,Y,rfl,h,h1,h2,h3⟩;have aa:kindOf O=kd:=N.1.trans hs;unfold Zcb;dsimp only;obtain ⟨x,Z,gx⟩:=T.ct h2;obtain ⟨y,hy,gy⟩:=T.at (i:=D) (by lia);refine Yad (GA Z (Yad (GA hy (Yad (L x y O _ gx gy aa ?_)))));have sA:(a.toList.drop D).Pairwise (kle b):=h.sa;have sB:(c.toList.drop F).Pairwise (kle b):=h.sb;rw [JM hy] at sA;rw [JM Z] at sB;dsimp only;cases hb:b x y with
  | true=>
   rw [if_pos rfl];refine Yad (GA Z ?_);have h':=h.pushB Z λz hz=>by
    rw [JM hy] at hz;exact W.le_trans (W.le_of_lt hb) (V6 W sA z hz)
   split
   ·rename_i e;exact Yaf (q1 _ _ _ N (h'.done (.inl (eq_of_beq e))))
   ·rename_i e;have e:F+1<c.size:=by
     have:F+1≠c.size:=λz=>e (Ybo.mpr z)
     lia
    split
    ·exact Yaf (q2 _ _ _ _ _ _ N h' h1 e (by rw [Ycp];lia))
    ·exact Yaf ⟨N,_,_,_,_,_,rfl,h',h1,e,by rw [Ycp];lia⟩
  | false=>
   rw [if_neg Yax];refine Yad (GA hy ?_);have h':=h.pushA hy λz hz=>by
    rw [JM Z] at hz;exact W.le_trans hb (V6 W sB z hz)
   split
   ·rename_i e;exact Yaf (q1 _ _ _ N (h'.last T (eq_of_beq e)))
   ·rename_i e;have e:D+1+1<a.size:=by
     have:D+1+1≠a.size:=λz=>e (Ybo.mpr z)
     lia
    split
    ·exact Yaf (q2 _ _ _ _ _ _ N h' e h2 (by rw [Ycp];lia))
    ·exact Yaf ⟨N,_,_,_,_,_,rfl,h',e,h2,by rw [Ycp];lia⟩
 ·rintro r O ⟨N,B,D,F,U,Y,rfl,h,h1,h2,h3⟩;exact q2 _ _ _ _ _ _ N h h1 h2 (by have:=T.na;simp at h3;lia)
end
def Rng (b:Keyed->Keyed->Bool)(arr:Array Keyed)(lo hi:Nat):Prop:=∀i j x y,lo<=i->i<=j->j<hi->arr[i]?=some x->arr[j]?=some y->kle b x y
section
variable {M:Model}{A:Around}{E:Value->Shared->Prop}{s:Shared}{kd:SortKind}{b:Keyed->Keyed->Bool}{good:Keyed->Prop}
theorem Zce (W:WO b):∀{l:List Keyed}{i j:Nat}{x y:Keyed},l.Pairwise (kle b)->i<=j->l[i]?=some x->l[j]?=some y->kle b x y
 | [],_,_,_,_,_,_,h,_=>by simp at h
 | z::l,0,0,x,y,_,_,h1,h2=>by
  simp at h1 h2;subst h1 h2;exact W.le_refl _
 | z::l,0,j+1,x,y,h,_,h1,h2=>by
  simp at h1 h2;subst h1;exact (Yed.mp h).1 y (Ybs h2)
 | z::l,i+1,0,_,_,_,h,_,_=>by lia
 | z::l,i+1,j+1,x,y,h,hij,h1,h2=>by
  simp at h1 h2;exact Zce W (Yed.mp h).2 (by lia) h1 h2
theorem Zdg (W:WO b){arr:Array Keyed}{lo:Nat}(h:(arr.toList.drop lo).Pairwise (kle b)):Rng b arr lo arr.size:=λi j x y h1 h2 F B D=>by
 refine Zce (i:=i-lo) (j:=j-lo) W h (by lia) ?_ ?_
 ·rw [Yev,Ydr h1,Ybz];exact B
 ·rw [Yev,Ydr (Ycc h1 h2),Ybz];exact D
theorem VI (W:WO b){left:Bool}{key:Keyed}{arr:Array Keyed}{base n:Nat}(N:good key)(F:∀i,i<n->∃x,arr[base+i]?=some x/\good x)(h:Rng b arr base (base+n)):Gal b good left key arr base n:=by
 refine ⟨N,F,λi j h1 h2 B=>?_⟩;obtain ⟨x,G,_⟩:=F i (by lia);obtain ⟨y,L,_⟩:=F j h2;have D:=h (base+i) (base+j) x y (by lia) (by lia) (by lia) G L;unfold byd at B ⊢;rw [L] at B;rw [G];dsimp only at B ⊢;cases left with
 | true=>
  rw [if_pos rfl] at B ⊢;rcases W.neg y x key B with z | z
  ·rw [show b y x=false from D] at z;cases z
  ·exact z
 | false=>
  rw [if_neg Yax] at B ⊢;rw [Bool.not_eq_true'] at B ⊢;exact W.le_trans (x:=x) (y:=y) (z:=key) D B
variable {a c:Array Keyed}
theorem Yw {arr:Array Keyed}{base k:Nat}{x:Keyed}(h:x∈(arr.toList.drop base).take k):∃i,i<k/\arr[base+i]?=some x:=by
 obtain ⟨i,hi⟩:=List.mem_iff_getElem?.mp h;rw [Yew] at hi;split at hi
 ·rw [Yev,Ybz] at hi;exact ⟨i,by assumption,hi⟩
 ·cases hi
theorem Yx {arr:Array Keyed}{base:Nat}{x:Keyed}(h:x∈arr.toList.drop base):∃i,base+i<arr.size/\arr[base+i]?=some x:=by
 obtain ⟨i,hi⟩:=List.mem_iff_getElem?.mp h;rw [Yev,Ybz] at hi;exact ⟨i,(Array.getElem?_eq_some_iff.mp hi).1,hi⟩
section
variable {out:Array Keyed}{ia ib:Nat}{st:SortSt}{Q:ForInStep MLt->SortSt->Prop}
structure Zcf (b:Keyed->Keyed->Bool)(a c:Array Keyed)(n:Nat)(st:SortSt)(Q:ForInStep MLt->SortSt->Prop):Prop where
 fin:∀r y st',SameG st st'->JH b (a.toList++c.toList) r.toList->Q (.done (some r,y)) st'
 brk:∀out' ia' ib' y st',SameG st st'->ML b a c out' ia' ib'->ia'+1<a.size->ib'<c.size->n<=out'.size->Q (.done (none,out',ia',ib',y)) st'
 go:∀out' ia' ib' y st',SameG st st'->ML b a c out' ia' ib'->ia'+1<a.size->ib'<c.size->n<=out'.size->Q (.yield (none,out',ia',ib',y)) st'
theorem Zas (T:Two b good a c){mg F k n:Nat}(R:Zcf b a c n st Q)(h:ML b a c out ia ib)(h1:ia+1<a.size)(h2:ib<c.size)(L:n<=out.size)(G:∀x,a[ia]?=some x->∀y∈c.toList.drop ib,kle b x y) :
  wpS M A E s (mlD a c mg F k out ia ib) Q st:=by
 unfold mlD;obtain ⟨x,D,N⟩:=T.at (i:=ia) (by lia);refine Yad (GA D ?_);have h':=h.pushA D (G x D);have B:n<=(out.push x).size:=by rw [Ycp];lia
 dsimp only;split
 ·rename_i e;exact Yaf (R.fin _ _ _ (SameG.refl _) (h'.last T (eq_of_beq e)))
 ·rename_i e;have e:ia+1+1<a.size:=by
   have:ia+1+1≠a.size:=λz=>e (Ybo.mpr z)
   lia
  split
  ·exact Yaf (R.brk _ _ _ _ _ (SameG.refl _) h' e h2 B)
  ·exact Yaf (R.go _ _ _ _ _ (SameG.refl _) h' e h2 B)
theorem Zat (W:WO b)(L:Ux M A E s kd b good)(T:Two b good a c){mg ac bc n:Nat}(R:Zcf b a c n st Q)(hs:kindOf st=kd)(h:ML b a c out ia ib)(h1:ia+1<a.size)(h2:ib<c.size)(hn:n<=out.size)(hl:∀x,c[ib]?=some x->∀y∈a.toList.drop ia,kle b x y):wpS M A E s (mlC a c mg ac bc out ia ib) Q st:=by
 unfold mlC;obtain ⟨x,Y,gx⟩:=T.ct h2;obtain ⟨y,F,gy⟩:=T.at (i:=ia) (by lia);refine Yad (GA Y ?_);have h':=h.pushB Y (hl x Y);have N:n<=(out.push x).size:=by rw [Ycp];lia
 generalize out.push x=O at h' N;dsimp only;split
 ·rename_i e;exact Yaf (R.fin _ _ _ (SameG.refl _) (h'.done (.inl (eq_of_beq e))))
 ·rename_i e;have e:ib+1<c.size:=by
   have:ib+1≠c.size:=λz=>e (Ybo.mpr z)
   lia
  refine Yad (GA F ?_);have sB:Rng b c (ib+1) c.size:=Zdg W h'.sb;have sA:(a.toList.drop ia).Pairwise (kle b):=h'.sa;rw [JM F] at sA;have G:Gal b good true y c (ib+1) (c.size-(ib+1)):=VI W gy (λi hi=>T.ct (by lia)) (by rw [Ydr (by lia)];exact sB);refine Yad (JK L G hs (by lia) λk hk k1 k2=>?_);dsimp only;have tk:∀z∈(c.toList.drop (ib+1)).take k,∀v∈a.toList.drop ia,kle b z v:=λz hz v D=>by
   obtain ⟨i,hi,ez⟩:=Yw hz;have:=k1 i hi;unfold byd at this;rw [ez] at this;dsimp only at this;rw [if_pos rfl] at this;rw [JM F] at D;exact W.le_trans (W.le_of_lt this) (V6 W sA v D)
  have tr:∀v∈c.toList.drop (ib+1+k),kle b y v:=λv D=>by
   obtain ⟨i,hi,ev⟩:=Yx D;have:=k2 (k+i) (by lia) (by lia);unfold byd at this;rw [show ib+1+(k+i)=ib+1+k+i by lia,ev] at this;dsimp only at this;rw [if_pos rfl] at this;exact this
  split
  ·have h3:=h'.takeB tk;have Z:n<=(O++c.extract (ib+1) (ib+1+k)).size:=by rw [Array.size_append];lia
   split
   ·rename_i U;exact Yaf (R.fin _ _ _ (SameG.refl _) (h3.done (.inl (eq_of_beq U))))
   ·rename_i U;have U:ib+1+k<c.size:=by
     have:ib+1+k≠c.size:=λz=>U (Ybo.mpr z)
     lia
    exact Zas T R h3 h1 U Z λx' B v D=>by
     rw [F] at B;cases B;exact tr v D
  ·rename_i aa;have:k=0:=by lia
   subst this;exact Zas T R h' h1 e N λx' B v D=>by
    rw [F] at B;cases B;exact tr v D
theorem Zej (W:WO b)(L:Ux M A E s kd b good)(T:Two b good a c){mg ac bc n:Nat}(R:∀N,SameG st N->Zcf b a c n N Q)(hs:kindOf st=kd)(h:ML b a c out ia ib)(h1:ia+1<a.size)(h2:ib<c.size)(hn:n<=out.size) :
  wpS M A E s (mlB a c mg ac bc out ia ib) Q st:=by
 unfold mlB;refine Yad (Op λO sg=>?_);have R:=R O sg;have F:kindOf O=kd:=sg.1.trans hs;obtain ⟨x,U,gx⟩:=T.ct h2;refine Yad (GA U ?_);have sA:Rng b a ia a.size:=Zdg W h.sa;have sB:(c.toList.drop ib).Pairwise (kle b):=h.sb;rw [JM U] at sB;have G:Gal b good false x a ia (a.size-ia):=VI W gx (λi hi=>T.at (by lia)) (by rw [Ydr (by lia)];exact sA);refine Yad (JK L G F (by lia) λk hk k1 k2=>?_);dsimp only;have tk:∀z∈(a.toList.drop ia).take k,∀v∈c.toList.drop ib,kle b z v:=λz hz v D=>by
  obtain ⟨i,hi,ez⟩:=Yw hz;have:=k1 i hi;unfold byd at this;rw [ez] at this;dsimp only at this;rw [if_neg Yax,Bool.not_eq_true'] at this;rw [JM U] at D;exact W.le_trans this (V6 W sB v D)
 have tr:∀v∈a.toList.drop (ia+k),kle b x v:=λv D=>by
  obtain ⟨i,hi,ev⟩:=Yx D;have:=k2 (k+i) (by lia) (by lia);unfold byd at this;rw [show ia+(k+i)=ia+k+i by lia,ev] at this;dsimp only at this;rw [if_neg Yax,Bool.not_eq_false'] at this;exact W.le_of_lt this
 split
 ·have Y:=h.takeA tk;have Z:n<=(out++a.extract ia (ia+k)).size:=by rw [Array.size_append];lia
  split
  ·rename_i e2;exact Yaf (R.fin _ _ _ (SameG.refl _) (Y.last T (eq_of_beq e2)))
  ·rename_i e2;split
   ·rename_i e3;exact Yaf (R.fin _ _ _ (SameG.refl _) (Y.done (.inr (eq_of_beq e3))))
   ·rename_i e3;have e4:ia+k+1<a.size:=by
     have:ia+k+1≠a.size:=λz=>e2 (Ybo.mpr z);have:ia+k≠a.size:=λz=>e3 (Ybo.mpr z)
     lia
    exact Zat W L T R F Y e4 h2 Z λx' B v D=>by
     rw [U] at B;cases B;exact tr v D
 ·have:k=0:=by lia
  subst this;exact Zat W L T R F h h1 h2 hn λx' B v D=>by
   rw [U] at B;cases B;exact tr v D
end
theorem Zau (W:WO b)(L:Ux M A E s kd b good)(T:Two b good a c){out:Array Keyed}{ia ib n:Nat}{y:Nat×Nat×Nat}{st:SortSt}(hs:kindOf st=kd)(h:ML b a c out ia ib)(h1:ia+1<a.size)(h2:ib<c.size){Q:MLt->SortSt->Prop}(q1:∀r y D,SameG st D->JH b (a.toList++c.toList) r.toList->Q (some r,y) D)(q2:∀B F G y D,SameG st D->ML b a c B F G->F+1<a.size->G<c.size->out.size<=B.size->Q (none,B,F,G,y) D) :
  wpS M A E s (forIn [:n] ((none,out,ia,ib,y):MLt) (Zcc a c)) Q st:=by
 refine Ycf (λk r D=>SameG st D/\∃B F G y,r=(none,B,F,G,y)/\ML b a c B F G/\F+1<a.size/\G<c.size/\out.size<=B.size) ?_ ?_ ⟨SameG.refl _,_,_,_,_,rfl,h,h1,h2,Yac _⟩
 ·rintro k r N _ hk ⟨Y,B,F,G,y,rfl,h,h1,h2,Z⟩;have aa:kindOf N=kd:=Y.1.trans hs;have R:∀D,SameG N D->Zcf b a c out.size D (λr D=>match r with
   | .done c'=>Q c' D
   | .yield c'=>SameG st D/\∃B F G y,c'=(none,B,F,G,y)/\ML b a c B F G/\F+1<a.size/\G<c.size/\out.size<=B.size):=λD U=>
   ⟨λr y O g m=>q1 r y O ((Y.trans U).trans g) m,λo i j y O g m p1 p2 p3=>q2 o i j y O ((Y.trans U).trans g) m p1 p2 p3,λo i j y O g m p1 p2 p3=>⟨(Y.trans U).trans g,o,i,j,y,rfl,m,p1,p2,p3⟩⟩
  unfold Zcc;dsimp only;have mono:∀mg,wpS M A E s (mlB a c mg y.2.1 y.2.2 B F G) _ N:=λmg=>Zej W L T R aa h h1 h2 Z;split
  ·exact wpS_mono (mono _) λr D hr=>by cases r <;> exact hr
  ·exact wpS_mono (mono _) λr D hr=>by cases r <;> exact hr
 ·rintro r N ⟨Y,B,F,G,y,rfl,h,h1,h2,Z⟩;exact q2 _ _ _ _ _ Y h h1 h2 Z
theorem XN (W:WO b)(L:Ux M A E s kd b good)(T:Two b good a c){st:SortSt}(hs:kindOf st=kd){Q:Array Keyed->SortSt->Prop}(q:∀r G,SameG st G->JH b (a.toList++c.toList) r.toList->Q r G):wpS M A E s (V2 a c) Q st:=by
 rw [XM];refine Yad (wpS_lift (Ycq ⟨rfl,?_⟩));obtain ⟨x,hx,gx⟩:=T.ct T.nc;refine Yad (GA hx ?_);have h0:ML b a c #[x] 0 1:=by
  have z:ML b a c #[] 0 0:=⟨by simp,by simp,by simp,by simpa using T.sa,by simpa using T.sc⟩;exact z.pushB hx λy hy=>T.first x hx y (by simpa using hy)
 have hc:=T.nc;have ha:=T.na;dsimp only;split
 ·rename_i e;exact Yaf (q _ _ (SameG.refl _) (h0.done (.inl (eq_of_beq e))))
 ·rename_i e;have e:1<c.size:=by
   have:1≠c.size:=λz=>e (Ybo.mpr z)
   lia
  split
  ·rename_i N;exact Yaf (q _ _ (SameG.refl _) (h0.last T (eq_of_beq N)))
  ·rename_i N;have N:0+1<a.size:=by
    have:0+1≠a.size:=λz=>N (Ybo.mpr z)
    lia
   refine Yad (wpS_get ?_);refine Yad (Ycf (λk r G=>SameG st G/\∃B D F mg,r=(none,B,D,F,mg)/\ML b a c B D F/\D+1<a.size/\F<c.size/\k<B.size) ?_ ?_ ⟨SameG.refl _,_,_,_,_,rfl,h0,N,e,by simp⟩)
   ·rintro k r O _ hk ⟨U,B,D,F,mg,rfl,h,h1,h2,h3⟩;have Y:kindOf O=kd:=U.1.trans hs;unfold Zcd;dsimp only;refine Yad (Zar W L T Y h h1 h2 (λr y Z g m=>?_) (λo i j ac bc Z g m p1 p2 p3=>?_))
    ·refine Yaf ?_;dsimp only;exact Yaf (q r Z (U.trans g) m)
    ·dsimp only;refine Yad (wpS_lift (Ycq ⟨rfl,?_⟩));refine Yad (Zau W L T (g.1.trans Y) m p1 p2 (λr y aa g3 m3=>?_) (λo3 i3 j3 y3 aa g3 m3 r1 r2 r3=>?_))
     ·refine Yaf ?_;dsimp only;exact Yaf (q r aa ((U.trans g).trans g3) m3)
     ·dsimp only;refine Yad (Op λab g4=>?_);exact Yaf ⟨((U.trans g).trans g3).trans g4,_,_,_,_,rfl,m3,r1,r2,by lia⟩
   ·rintro r O ⟨U,B,D,F,mg,rfl,h,h1,h2,h3⟩;exfalso;have:=Mrg.len h;rw [Yan,Yct,Yct,Ybj,Ybj,Ybj] at this;simp at h3
    lia
end
abbrev MHs:=Option (Array Keyed)×Nat×Nat×Array Keyed×Nat×Nat
abbrev MHt:=Option (Array Keyed)×Nat×Nat×Array Keyed×Nat×Nat×Nat
abbrev MHo:=Option (Array Keyed)×Nat×Nat×Array Keyed×Nat
def OD (a b out:Array Keyed)(na nb:Nat):Array Keyed:=a.extract 0 na++b.extract 0 nb++out.reverse
def Uk (a b out:Array Keyed)(na nb:Nat):Array Keyed:=b.extract 0 nb++a.extract 0 na++out.reverse
def Zcg (a b:Array Keyed)(mg:Nat):Nat->MHs->StateT SortSt Sem (ForInStep MHs):=λ_ r=>
 let na:=r.2.1;let nb:=r.2.2.1;let out:=r.2.2.2.1;let qZ:=r.2.2.2.2.1;let qX:=r.2.2.2.2.2
 do
 let x <- elem' b (nb-1)
 let y <- elem' a (na-1)
 match <- lt' x y with
 | some aWins=>
  if aWins=true then do
   let na:=na-1
   let z <- elem' a na
   let out:=out.push z
   let qZ:=qZ+1
   let qX:=0
   if (na == 0)=true then pure (.done (some (OD a b out na nb),na,nb,out,qZ,qX))
   else if qZ>=mg then pure (.done (none,na,nb,out,qZ,qX))
   else pure (.yield (none,na,nb,out,qZ,qX))
  else do
   let nb:=nb-1
   let z <- elem' b nb
   let out:=out.push z
   let qX:=qX+1
   let qZ:=0
   if (nb == 1)=true then pure (.done (some (Uk a b out na nb),na,nb,out,qZ,qX))
   else if qX>=mg then pure (.done (none,na,nb,out,qZ,qX))
   else pure (.yield (none,na,nb,out,qZ,qX))
 | _=>pure (.done (some (OD a b out na nb),na,nb,out,qZ,qX))
def mhD (a b:Array Keyed)(F B D:Nat)(na nb:Nat)(out:Array Keyed):StateT SortSt Sem (ForInStep MHt):=do
 let na:=na-1
 let z <- elem' a na
 let out:=out.push z
 if (na == 0)=true then pure (.done (some (OD a b out na nb),na,nb,out,F,B,D))
 else if (decide (B<7) && decide (D<7))=true then pure (.done (none,na,nb,out,F,B,D))
 else pure (.yield (none,na,nb,out,F,B,D))
def mhC (a b:Array Keyed)(D F B:Nat)(na nb:Nat)(out:Array Keyed):StateT SortSt Sem (ForInStep MHt):=do
 let nb:=nb-1
 let z <- elem' b nb
 let out:=out.push z
 if (nb == 1)=true then pure (.done (some (Uk a b out na nb),na,nb,out,D,F,B))
 else do
  let y <- elem' a (na-1)
  match <- Oe true y b 0 nb (nb-1) with
  | some at_=>
   let k:=nb-at_
   let B:=k
   if k > 0 then
    let out:=out++(b.extract at_ nb).reverse
    let nb:=at_
    if (nb == 1)=true then pure (.done (some (Uk a b out na nb),na,nb,out,D,F,B))
    else if (nb == 0)=true then pure (.done (some (OD a b out na nb),na,nb,out,D,F,B))
    else mhD a b D F B na nb out
   else mhD a b D F B na nb out
  | _=>pure (.done (some (OD a b out na nb),na,nb,out,D,F,B))
def mhB (a b:Array Keyed)(B D F:Nat)(na nb:Nat)(out:Array Keyed):StateT SortSt Sem (ForInStep MHt):=do
 U7 B
 let x <- elem' b (nb-1)
 match <- Oe false x a 0 na (na-1) with
 | some at_=>
  let k:=na-at_
  let D:=k
  if k > 0 then
   let out:=out++(a.extract at_ na).reverse
   let na:=at_
   if (na == 0)=true then pure (.done (some (OD a b out na nb),na,nb,out,B,D,F))
   else mhC a b B D F na nb out
  else mhC a b B D F na nb out
 | _=>pure (.done (some (OD a b out na nb),na,nb,out,B,D,F))
def Zch (a b:Array Keyed):Nat->MHt->StateT SortSt Sem (ForInStep MHt):=λ_ r=>
 let na:=r.2.1;let nb:=r.2.2.1;let out:=r.2.2.2.1;let qJ:=r.2.2.2.2.1;let qZ:=r.2.2.2.2.2.1;let qX:=r.2.2.2.2.2.2
 if qJ > 1 then mhB a b (qJ-1) qZ qX na nb out else mhB a b qJ qZ qX na nb out
def Zci (a b:Array Keyed):Nat->MHo->StateT SortSt Sem (ForInStep MHo):=λ_ r=>
 let na:=r.2.1;let nb:=r.2.2.1;let out:=r.2.2.2.1;let qJ:=r.2.2.2.2
 do
 let r <- forIn [:a.size+b.size] ((none,na,nb,out,0,0):MHs) (Zcg a b qJ)
 match r.1 with
 | some x=>pure (.done (some x,r.2.1,r.2.2.1,r.2.2.2.1,qJ))
 | none=>do
  liftM (rule "list.sort.gallop")
  let r <- forIn [:a.size+b.size] ((none,r.2.1,r.2.2.1,r.2.2.2.1,qJ+1,r.2.2.2.2.1,r.2.2.2.2.2):MHt) (Zch a b)
  match r.1 with
  | some x=>pure (.done (some x,r.2.1,r.2.2.1,r.2.2.2.1,r.2.2.2.2.1))
  | none=>do
   U7 (r.2.2.2.2.1+1)
   pure (.yield (none,r.2.1,r.2.2.1,r.2.2.2.1,r.2.2.2.2.1+1))
theorem XO (a b:Array Keyed):V3 a b=(do
  liftM (rule "list.sort.merge-hi")
  let x <- elem' a (a.size-1)
  let out:=#[x]
  if (a.size-1 == 0)=true then pure (OD a b out (a.size-1) b.size)
  else if (b.size == 1)=true then pure (Uk a b out (a.size-1) b.size)
  else do
   let st <- get
   let r <- forIn [:a.size+b.size] ((none,a.size-1,b.size,out,gallopOf st):MHo) (Zci a b)
   match r.1 with
   | some r=>pure r
   | none=>liftM (unsupported "internal:list.sort.merge-bound")):=by
 refine Jz (m:=liftM (rule "list.sort.merge-hi")) λ_=>?_;refine Jz (m:=elem' a (a.size-1)) λx=>?_;refine V5 (c:=(a.size-1 == 0)=true) rfl ?_;refine V5 (c:=(b.size == 1)=true) rfl ?_;refine Jz (m:=get) λst=>?_;refine (Ybb (λm:StateT SortSt Sem MHo=>m >>= _) (U8 (r:=[:a.size+b.size]) (c:=((none,a.size-1,b.size,#[x],gallopOf st):MHo)) (g:=Zci a b) λi r=>?_)).trans ?_;rotate_left
 ·refine Jz λr=>?_;obtain ⟨r1,D⟩:=r;cases r1 <;> rfl
 unfold Zci;refine (Ybb (λm:StateT SortSt Sem MHs=>m >>= _) (U8 (r:=[:a.size+b.size]) (g:=Zcg a b r.2.2.2.2) λi r=>rfl)).trans ?_;refine Jz λq=>?_;obtain ⟨q1,B⟩:=q;cases q1 with
 | some z=>rfl
 | none=>
  refine Jz (m:=liftM (rule "list.sort.gallop")) λ_=>?_;refine (Ybb (λm:StateT SortSt Sem MHt=>m >>= _) (U8 (r:=[:a.size+b.size]) (g:=Zch a b) λi r=>rfl)).trans ?_;refine Jz λq=>?_;obtain ⟨q1,B⟩:=q;cases q1 <;> rfl
section
variable {b:Keyed->Keyed->Bool}
structure MrgH (b:Keyed->Keyed->Bool)(all out ra rb:List Keyed):Prop where
 perm:(ra++rb++out).Perm all
 so:out.Pairwise (kle b)
 le:∀x∈ra++rb,∀y∈out,kle b x y
 sa:ra.Pairwise (kle b)
 sb:rb.Pairwise (kle b)
theorem MrgH.len {all out B D:List Keyed}(h:MrgH b all out B D):B.length+D.length+out.length=all.length:=by
 have:=h.perm.length_eq;rw [Yan,Yan] at this;exact this
theorem MrgH.moveB {all out u F L:List Keyed}(h:MrgH b all out F (L++u))(N:∀x∈u,∀y∈F,kle b y x):MrgH b all (u++out) F L:=by
 have G:=Ycg.mp h.sb;refine ⟨?_,Ycg.mpr ⟨G.2.1,h.so,λx B y D=>h.le x (by simp [B]) y D⟩,λx B y D=>?_,h.sa,G.1⟩
 ·have:=h.perm;simp only [Ybp] at this ⊢;exact this
 ·rcases Yav.mp D with D | D
  ·rcases Yav.mp B with B | B
   ·exact N y D x B
   ·exact G.2.2 x B y D
  ·refine h.le x ?_ y D;rcases Yav.mp B with B | B <;> simp [B]
theorem MrgH.moveA {all out u L F:List Keyed}(h:MrgH b all out (L++u) F)(N:∀x∈u,∀y∈F,kle b y x):MrgH b all (u++out) L F:=by
 have G:=Ycg.mp h.sa;refine ⟨?_,Ycg.mpr ⟨G.2.1,h.so,λx B y D=>h.le x (by simp [B]) y D⟩,λx B y D=>?_,G.1,h.sb⟩
 ·refine List.Perm.trans ?_ h.perm;simp only [Ybp];refine List.Perm.append_left _ ?_;rw [<-Ybp,<-Ybp];exact List.Perm.append_right _ List.perm_append_comm
 ·rcases Yav.mp D with D | D
  ·rcases Yav.mp B with B | B
   ·exact G.2.2 x B y D
   ·exact N y D x B
  ·refine h.le x ?_ y D;rcases Yav.mp B with B | B <;> simp [B]
theorem MrgH.endA {all out B D:List Keyed}(h:MrgH b all out B D)(hz:∀x∈B,∀y∈D,kle b x y):JH b all (B++D++out):=
 ⟨h.perm,Ycg.mpr ⟨Ycg.mpr ⟨h.sa,h.sb,hz⟩,h.so,h.le⟩⟩
theorem MrgH.endB {all out D F:List Keyed}(h:MrgH b all out D F)(hz:∀x∈F,∀y∈D,kle b x y):JH b all (F++D++out):=by
 refine ⟨List.Perm.trans (List.Perm.append_right _ List.perm_append_comm) h.perm,Ycg.mpr ⟨Ycg.mpr ⟨h.sb,h.sa,hz⟩,h.so,λx B y G=>h.le x ?_ y G⟩⟩;rcases Yav.mp B with B | B <;> simp [B]
end
theorem Yy (a:Array Keyed)(k:Nat):(a.extract 0 k).toList=a.toList.take k:=by
 rw [Yes,Yet,List.drop_zero,Nat.sub_zero]
theorem Zav (a:Array Keyed){i j:Nat}(h:i<=j):a.toList.take j=a.toList.take i++(a.extract i j).toList:=by
 rw [Yes,Yet];have:=Yeu i (a.toList.take j);rw [List.take_take,Yea h,List.drop_take] at this;exact this.symm
theorem Zaw {a:Array Keyed}{i:Nat}{x:Keyed}(h:a[i]?=some x):a.toList.take (i+1)=a.toList.take i++[x]:=by
 rw [<-Ybz] at h;rw [Ybw,h]
 rfl
theorem taken {arr:Array Keyed}{k:Nat}{x:Keyed}(h:x∈arr.toList.take k):∃i,i<k/\arr[i]?=some x:=by
 obtain ⟨i,hi⟩:=List.mem_iff_getElem?.mp h;rw [Yew] at hi;split at hi
 ·rw [Ybz] at hi;exact ⟨i,by assumption,hi⟩
 ·cases hi
theorem XQ {arr:Array Keyed}{i j:Nat}{x:Keyed}(h:x∈(arr.extract i j).toList):∃k,i<=k/\k<j/\arr[k]?=some x:=by
 rw [Yes,Yet] at h;obtain ⟨k,B⟩:=List.mem_iff_getElem?.mp h;rw [Yew] at B;split at B
 ·rw [Yev,Ybz] at B;exact ⟨i+k,by lia,by lia,B⟩
 ·cases B
section
variable {M:Model}{A:Around}{E:Value->Shared->Prop}{s:Shared}{kd:SortKind}{b:Keyed->Keyed->Bool}{good:Keyed->Prop}{a c:Array Keyed}
def MH (b:Keyed->Keyed->Bool)(a c:Array Keyed)(na nb:Nat)(out:Array Keyed):Prop:=MrgH b (a.toList++c.toList) out.toList.reverse (a.toList.take na) (c.toList.take nb)
theorem Zax (W:WO b){arr:Array Keyed}{hi:Nat}(h:(arr.toList.take hi).Pairwise (kle b)):Rng b arr 0 (0+hi):=λi j x y h1 h2 F B D=>by
 refine Zce (i:=i) (j:=j) W h h2 ?_ ?_
 ·rw [Yew,if_pos (by lia),Ybz];exact B
 ·rw [Yew,if_pos (by lia),Ybz];exact D
theorem MH.done {out:Array Keyed}{na nb:Nat}(h:MH b a c na nb out)(e:na=0\/nb=0):JH b (a.toList++c.toList) (OD a c out na nb).toList:=by
 unfold OD;rw [Ycj,Ycj,Yy,Yy,Array.toList_reverse];refine MrgH.endA h λx B y D=>?_;rcases e with e | e
 ·rw [e] at B;simp at B
 ·rw [e] at D;simp at D
theorem MH.first {out:Array Keyed}{na nb:Nat}(T:Two b good a c)(h:MH b a c na nb out)(e:nb=1):JH b (a.toList++c.toList) (Uk a c out na nb).toList:=by
 unfold Uk;rw [Ycj,Ycj,Yy,Yy,Array.toList_reverse];refine MrgH.endB h λx B y D=>?_;obtain ⟨i,hi,ex⟩:=taken B;have:i=0:=by lia
 subst this;exact T.first x ex y (List.mem_of_mem_take D)
theorem MH.pushB {out:Array Keyed}{na nb:Nat}{x:Keyed}(h:MH b a c na (nb+1) out)(B:c[nb]?=some x)(D:∀y∈a.toList.take na,kle b y x):MH b a c na nb (out.push x):=by
 unfold MH at h ⊢;rw [Yel,List.reverse_append];rw [Zaw B] at h;exact MrgH.moveB (u:=[x]) h λz F y G=>by
  have:z=x:=by simpa using F
  subst this;exact D y G
theorem MH.pushA {out:Array Keyed}{na nb:Nat}{x:Keyed}(h:MH b a c (na+1) nb out)(B:a[na]?=some x)(D:∀y∈c.toList.take nb,kle b y x):MH b a c na nb (out.push x):=by
 unfold MH at h ⊢;rw [Yel,List.reverse_append];rw [Zaw B] at h;exact MrgH.moveA (u:=[x]) h λz F y G=>by
  have:z=x:=by simpa using F
  subst this;exact D y G
theorem MH.takeA {out:Array Keyed}{na nb k:Nat}(h:MH b a c na nb out)(B:k<=na)(D:∀x∈(a.extract k na).toList,∀y∈c.toList.take nb,kle b y x):MH b a c k nb (out++(a.extract k na).reverse):=by
 unfold MH at h ⊢;rw [Ycj,Array.toList_reverse,List.reverse_append,List.reverse_reverse];rw [Zav a B] at h;exact MrgH.moveA h D
theorem MH.takeB {out:Array Keyed}{na nb k:Nat}(h:MH b a c na nb out)(B:k<=nb)(D:∀x∈(c.extract k nb).toList,∀y∈a.toList.take na,kle b y x):MH b a c na k (out++(c.extract k nb).reverse):=by
 unfold MH at h ⊢;rw [Ycj,Array.toList_reverse,List.reverse_append,List.reverse_reverse];rw [Zav c B] at h;exact MrgH.moveB h D
theorem V7 (W:WO b){arr:Array Keyed}{k:Nat}{x:Keyed}(h:(arr.toList.take (k+1)).Pairwise (kle b))(B:arr[k]?=some x):∀y∈arr.toList.take (k+1),kle b y x:=λy D=>by
 obtain ⟨i,hi,F⟩:=taken D;exact Zax W h i k y x (Ybc _) (by lia) (by lia) F B
theorem Zay (W:WO b)(L:Ux M A E s kd b good)(T:Two b good a c){out:Array Keyed}{na nb mg:Nat}{st:SortSt}(hs:kindOf st=kd)(h:MH b a c na nb out)(h1:0<na/\na<=a.size)(h2:1<nb/\nb<=c.size){Q:MHs->SortSt->Prop}(q1:∀r y G,SameG st G->JH b (a.toList++c.toList) r.toList->Q (some r,y) G)(q2:∀B D F U Y G,SameG st G->MH b a c B D F->(0<B/\B<=a.size)->(1<D/\D<=c.size)->out.size<F.size->Q (none,B,D,F,U,Y) G) :
  wpS M A E s (forIn [:a.size+c.size] ((none,na,nb,out,0,0):MHs) (Zcg a c mg)) Q st:=by
 refine Ycf (λk r G=>SameG st G/\∃B D F U Y,r=(none,B,D,F,U,Y)/\MH b a c B D F/\(0<B/\B<=a.size)/\(1<D/\D<=c.size)/\out.size+k<=F.size) ?_ ?_ ⟨SameG.refl _,_,_,_,_,_,rfl,h,h1,h2,Yac _⟩
 ·rintro k r O _ hk ⟨N,B,D,F,U,Y,rfl,h,h1,h2,h3⟩;have aa:kindOf O=kd:=N.1.trans hs;obtain ⟨B,rfl⟩:∃n,B=n+1:=⟨B - 1,by lia⟩;obtain ⟨D,rfl⟩:∃n,D=n+1:=⟨D - 1,by lia⟩;unfold Zcg;dsimp only [Nat.add_sub_cancel];obtain ⟨x,Z,gx⟩:=T.ct (i:=D) (by lia);obtain ⟨y,hy,gy⟩:=T.at (i:=B) (by lia);refine Yad (GA Z (Yad (GA hy (Yad (L x y O _ gx gy aa ?_)))));dsimp only;cases hb:b x y with
  | true=>
   rw [if_pos rfl];refine Yad (GA hy ?_);have h':=h.pushA hy λz hz=>W.le_trans (V7 W h.sb Z z hz) (W.le_of_lt hb);split
   ·rename_i e;exact Yaf (q1 _ _ _ N (h'.done (.inl (eq_of_beq e))))
   ·rename_i e;have e:0<B:=by
     have:B≠0:=λz=>e (Ybo.mpr z)
     lia
    split
    ·exact Yaf (q2 _ _ _ _ _ _ N h' ⟨e,by lia⟩ h2 (by rw [Ycp];lia))
    ·exact Yaf ⟨N,_,_,_,_,_,rfl,h',⟨e,by lia⟩,h2,by rw [Ycp];lia⟩
  | false=>
   rw [if_neg Yax];refine Yad (GA Z ?_);have h':=h.pushB Z λz hz=>W.le_trans (V7 W h.sa hy z hz) hb;split
   ·rename_i e;exact Yaf (q1 _ _ _ N (h'.first T (eq_of_beq e)))
   ·rename_i e;have e:1<D:=by
     have:D≠1:=λz=>e (Ybo.mpr z)
     lia
    split
    ·exact Yaf (q2 _ _ _ _ _ _ N h' h1 ⟨e,by lia⟩ (by rw [Ycp];lia))
    ·exact Yaf ⟨N,_,_,_,_,_,rfl,h',h1,⟨e,by lia⟩,by rw [Ycp];lia⟩
 ·rintro r O ⟨N,B,D,F,U,Y,rfl,h,h1,h2,h3⟩;exact q2 _ _ _ _ _ _ N h h1 h2 (by have:=T.na;simp at h3;lia)
section
variable {out:Array Keyed}{na nb:Nat}{st:SortSt}{Q:ForInStep MHt->SortSt->Prop}
structure Zcj (b:Keyed->Keyed->Bool)(a c:Array Keyed)(n:Nat)(st:SortSt)(Q:ForInStep MHt->SortSt->Prop):Prop where
 fin:∀r y st',SameG st st'->JH b (a.toList++c.toList) r.toList->Q (.done (some r,y)) st'
 brk:∀na' nb' out' y st',SameG st st'->MH b a c na' nb' out'->(0<na'/\na'<=a.size)->(1<nb'/\nb'<=c.size)->n<=out'.size->Q (.done (none,na',nb',out',y)) st'
 go:∀na' nb' out' y st',SameG st st'->MH b a c na' nb' out'->(0<na'/\na'<=a.size)->(1<nb'/\nb'<=c.size)->n<=out'.size->Q (.yield (none,na',nb',out',y)) st'
theorem Zaz (T:Two b good a c){mg F G n:Nat}(R:Zcj b a c n st Q)(h:MH b a c (na+1) nb out)(h1:na+1<=a.size)(h2:1<nb/\nb<=c.size)(N:n<=out.size)(L:∀x,a[na]?=some x->∀y∈c.toList.take nb,kle b y x) :
  wpS M A E s (mhD a c mg F G (na+1) nb out) Q st:=by
 unfold mhD;dsimp only [Nat.add_sub_cancel];obtain ⟨x,D,O⟩:=T.at (i:=na) (by lia);refine Yad (GA D ?_);have h':=h.pushA D (L x D);have B:n<=(out.push x).size:=by rw [Ycp];lia
 split
 ·rename_i e;exact Yaf (R.fin _ _ _ (SameG.refl _) (h'.done (.inl (eq_of_beq e))))
 ·rename_i e;have e:0<na:=by
   have:na≠0:=λz=>e (Ybo.mpr z)
   lia
  split
  ·exact Yaf (R.brk _ _ _ _ _ (SameG.refl _) h' ⟨e,by lia⟩ h2 B)
  ·exact Yaf (R.go _ _ _ _ _ (SameG.refl _) h' ⟨e,by lia⟩ h2 B)
theorem ZaA (W:WO b)(L:Ux M A E s kd b good)(T:Two b good a c){mg ac bc n:Nat}(R:Zcj b a c n st Q)(hs:kindOf st=kd)(h:MH b a c (na+1) (nb+1) out)(h1:na+1<=a.size)(h2:0<nb/\nb+1<=c.size)(hn:n<=out.size)(hl:∀x,c[nb]?=some x->∀y∈a.toList.take (na+1),kle b y x):wpS M A E s (mhC a c mg ac bc (na+1) (nb+1) out) Q st:=by
 unfold mhC;dsimp only [Nat.add_sub_cancel];obtain ⟨x,U,gx⟩:=T.ct (i:=nb) (by lia);obtain ⟨y,O,gy⟩:=T.at (i:=na) (by lia);refine Yad (GA U ?_);have h':=h.pushB U (hl x U);have F:n<=(out.push x).size:=by rw [Ycp];lia
 generalize out.push x=N at h' F;split
 ·rename_i e;exact Yaf (R.fin _ _ _ (SameG.refl _) (h'.first T (eq_of_beq e)))
 ·rename_i e;have e:1<nb:=by
   have:nb≠1:=λz=>e (Ybo.mpr z)
   lia
  refine Yad (GA O ?_);have G:Gal b good true y c 0 nb:=VI W gy (λi hi=>by rw [Ydc];exact T.ct (by lia)) (Zax W h'.sb);refine Yad (JK L G hs (by lia) λk hk k1 k2=>?_);dsimp only;have tk:∀z∈(c.extract k nb).toList,∀v∈a.toList.take (na+1),kle b v z:=λz hz v D=>by
   obtain ⟨i,hi,hj,ez⟩:=XQ hz;have:=k2 i hi hj;unfold byd at this;rw [Ydc,ez] at this;dsimp only at this;rw [if_pos rfl] at this;exact W.le_trans (V7 W h'.sa O v D) this
  have tr:∀v∈c.toList.take k,kle b v y:=λv D=>by
   obtain ⟨i,hi,ev⟩:=taken D;have:=k1 i hi;unfold byd at this;rw [Ydc,ev] at this;dsimp only at this;rw [if_pos rfl] at this;exact W.le_of_lt this
  split
  ·have Y:=h'.takeB hk tk;have Z:n<=(N++(c.extract k nb).reverse).size:=by rw [Array.size_append];lia
   split
   ·rename_i e2;exact Yaf (R.fin _ _ _ (SameG.refl _) (Y.first T (eq_of_beq e2)))
   ·rename_i e2;split
    ·rename_i e3;exact Yaf (R.fin _ _ _ (SameG.refl _) (Y.done (.inr (eq_of_beq e3))))
    ·rename_i e3;have e4:1<k:=by
      have:k≠1:=λz=>e2 (Ybo.mpr z);have:k≠0:=λz=>e3 (Ybo.mpr z)
      lia
     exact Zaz T R Y h1 ⟨e4,by lia⟩ Z λx' B v D=>by
      rw [O] at B;cases B;exact tr v D
  ·have:k=nb:=by lia
   subst this;exact Zaz T R h' h1 ⟨e,by lia⟩ F λx' B v D=>by
    rw [O] at B;cases B;exact tr v D
theorem Zek (W:WO b)(L:Ux M A E s kd b good)(T:Two b good a c){mg ac bc n:Nat}(R:∀N,SameG st N->Zcj b a c n N Q)(hs:kindOf st=kd)(h:MH b a c na (nb+1) out)(h1:0<na/\na<=a.size)(h2:0<nb/\nb+1<=c.size)(hn:n<=out.size) :
  wpS M A E s (mhB a c mg ac bc na (nb+1) out) Q st:=by
 unfold mhB;refine Yad (Op λO sg=>?_);have R:=R O sg;have D:kindOf O=kd:=sg.1.trans hs;dsimp only [Nat.add_sub_cancel];obtain ⟨x,U,gx⟩:=T.ct (i:=nb) (by lia);refine Yad (GA U ?_);have G:Gal b good false x a 0 na:=VI W gx (λi hi=>by rw [Ydc];exact T.at (by lia)) (Zax W h.sa);refine Yad (JK L G D (by lia) λk hk k1 k2=>?_);dsimp only;have tk:∀z∈(a.extract k na).toList,∀v∈c.toList.take (nb+1),kle b v z:=λz hz v F=>by
  obtain ⟨i,hi,hj,ez⟩:=XQ hz;have:=k2 i hi hj;unfold byd at this;rw [Ydc,ez] at this;dsimp only at this;rw [if_neg Yax,Bool.not_eq_false'] at this;exact W.le_trans (V7 W h.sb U v F) (W.le_of_lt this)
 have tr:∀v∈a.toList.take k,kle b v x:=λv F=>by
  obtain ⟨i,hi,ev⟩:=taken F;have:=k1 i hi;unfold byd at this;rw [Ydc,ev] at this;dsimp only at this;rw [if_neg Yax,Bool.not_eq_true'] at this;exact this
 split
 ·have h3:=h.takeA hk tk;have Y:n<=(out++(a.extract k na).reverse).size:=by rw [Array.size_append];lia
  split
  ·rename_i Z;exact Yaf (R.fin _ _ _ (SameG.refl _) (h3.done (.inl (eq_of_beq Z))))
  ·rename_i Z;have:k≠0:=λz=>Z (Ybo.mpr z);obtain ⟨k,rfl⟩:∃n,k=n+1:=⟨k-1,by lia⟩;exact ZaA W L T R D h3 (by lia) h2 Y λx' B v F=>by
    rw [U] at B;cases B;exact tr v F
 ·have:k=na:=by lia
  subst this;obtain ⟨k,rfl⟩:∃n,k=n+1:=⟨k-1,by lia⟩;exact ZaA W L T R D h (by lia) h2 hn λx' B v F=>by
   rw [U] at B;cases B;exact tr v F
end
theorem ZaB (W:WO b)(L:Ux M A E s kd b good)(T:Two b good a c){out:Array Keyed}{na nb n:Nat}{y:Nat×Nat×Nat}{st:SortSt}(hs:kindOf st=kd)(h:MH b a c na nb out)(h1:0<na/\na<=a.size)(h2:1<nb/\nb<=c.size){Q:MHt->SortSt->Prop}(q1:∀r y G,SameG st G->JH b (a.toList++c.toList) r.toList->Q (some r,y) G)(q2:∀F D B y G,SameG st G->MH b a c F D B->(0<F/\F<=a.size)->(1<D/\D<=c.size)->out.size<=B.size->Q (none,F,D,B,y) G) :
  wpS M A E s (forIn [:n] ((none,na,nb,out,y):MHt) (Zch a c)) Q st:=by
 refine Ycf (λk r G=>SameG st G/\∃F D B y,r=(none,F,D,B,y)/\MH b a c F D B/\(0<F/\F<=a.size)/\(1<D/\D<=c.size)/\out.size<=B.size) ?_ ?_ ⟨SameG.refl _,_,_,_,_,rfl,h,h1,h2,Yac _⟩
 ·rintro k r N _ hk ⟨Y,F,D,B,y,rfl,h,h1,h2,Z⟩;have aa:kindOf N=kd:=Y.1.trans hs;have R:∀G,SameG N G->Zcj b a c out.size G (λr G=>match r with
   | .done c'=>Q c' G
   | .yield c'=>SameG st G/\∃F D B y,c'=(none,F,D,B,y)/\MH b a c F D B/\(0<F/\F<=a.size)/\(1<D/\D<=c.size)/\out.size<=B.size):=λG U=>
   ⟨λr y O g m=>q1 r y O ((Y.trans U).trans g) m,λo i j y O g m p1 p2 p3=>q2 o i j y O ((Y.trans U).trans g) m p1 p2 p3,λo i j y O g m p1 p2 p3=>⟨(Y.trans U).trans g,o,i,j,y,rfl,m,p1,p2,p3⟩⟩
  unfold Zch;dsimp only;obtain ⟨D,rfl⟩:∃n,D=n+1:=⟨D - 1,by lia⟩;have mono:∀mg,wpS M A E s (mhB a c mg y.2.1 y.2.2 F (D+1) B) _ N:=λmg=>Zek W L T R aa h h1 ⟨by lia,h2.2⟩ Z;split
  ·exact wpS_mono (mono _) λr G hr=>by cases r <;> exact hr
  ·exact wpS_mono (mono _) λr G hr=>by cases r <;> exact hr
 ·rintro r N ⟨Y,F,D,B,y,rfl,h,h1,h2,Z⟩;exact q2 _ _ _ _ _ Y h h1 h2 Z
theorem XR (W:WO b)(L:Ux M A E s kd b good)(T:Two b good a c){st:SortSt}(hs:kindOf st=kd){Q:Array Keyed->SortSt->Prop}(q:∀r G,SameG st G->JH b (a.toList++c.toList) r.toList->Q r G):wpS M A E s (V3 a c) Q st:=by
 rw [XO];refine Yad (wpS_lift (Ycq ⟨rfl,?_⟩));have hc:=T.nc;have ha:=T.na;obtain ⟨x,hx,gx⟩:=T.at (i:=a.size-1) (by lia);refine Yad (GA hx ?_);have h0:MH b a c (a.size-1) c.size #[x]:=by
  have z:MH b a c (a.size-1+1) c.size #[]:=by
   unfold MH;rw [Nat.sub_add_cancel (by lia),Yeb (by simp),Yeb (by simp)];exact ⟨by simp,by simp,by simp,T.sa,T.sc⟩
  exact z.pushA hx λy hy=>T.last x hx y (List.mem_of_mem_take hy)
 dsimp only;split
 ·rename_i e;exact Yaf (q _ _ (SameG.refl _) (h0.done (.inl (eq_of_beq e))))
 ·rename_i e;have e:0<a.size-1:=by
   have:a.size-1≠0:=λz=>e (Ybo.mpr z)
   lia
  split
  ·rename_i N;exact Yaf (q _ _ (SameG.refl _) (h0.first T (eq_of_beq N)))
  ·rename_i N;have N:1<c.size:=by
    have:c.size≠1:=λz=>N (Ybo.mpr z)
    lia
   refine Yad (wpS_get ?_);refine Yad (Ycf (λk r G=>SameG st G/\∃D F B mg,r=(none,D,F,B,mg)/\MH b a c D F B/\(0<D/\D<=a.size)/\(1<F/\F<=c.size)/\k<B.size) ?_ ?_ ⟨SameG.refl _,_,_,_,_,rfl,h0,⟨e,by lia⟩,⟨N,Yac _⟩,by simp⟩)
   ·rintro k r O _ hk ⟨U,D,F,B,mg,rfl,h,h1,h2,h3⟩;have Y:kindOf O=kd:=U.1.trans hs;unfold Zci;dsimp only;refine Yad (Zay W L T Y h h1 h2 (λr y Z g m=>?_) (λo i j ac bc Z g m p1 p2 p3=>?_))
    ·refine Yaf ?_;dsimp only;exact Yaf (q r Z (U.trans g) m)
    ·dsimp only;refine Yad (wpS_lift (Ycq ⟨rfl,?_⟩));refine Yad (ZaB W L T (g.1.trans Y) m p1 p2 (λr y aa g3 m3=>?_) (λo3 i3 j3 y3 aa g3 m3 r1 r2 r3=>?_))
     ·refine Yaf ?_;dsimp only;exact Yaf (q r aa ((U.trans g).trans g3) m3)
     ·dsimp only;refine Yad (Op λab g4=>?_);exact Yaf ⟨((U.trans g).trans g3).trans g4,_,_,_,_,rfl,m3,r1,r2,by lia⟩
   ·rintro r O ⟨U,D,F,B,mg,rfl,h,h1,h2,h3⟩;exfalso;have:=MrgH.len h;rw [Yan,Ybn,Ybn,List.length_reverse,Ybj,Ybj,Ybj] at this;simp at h3
    lia
end
abbrev Asc:=Option (Option Nat)×Nat
abbrev Dsc:=Option (Option Nat)×Nat×Nat
def Zel (lo:Nat):Nat->Asc->StateT SortSt Sem (ForInStep Asc):=λ_ r=>do
 match <- ltAt' (lo+r.2) (lo+r.2-1) with
 | some smaller=>if smaller=true then pure (.done (none,r.2)) else pure (.yield (none,r.2+1))
 | _=>pure (.done (some none,r.2))
def Zhd (lo:Nat):Nat->Dsc->StateT SortSt Sem (ForInStep Dsc):=λ_ r=>do
 match <- ltAt' (lo+r.2.1) (lo+r.2.1-1) with
 | some smaller=>
  if smaller=true then
   if r.2.2 > 0 then do
    reverseSlice' (lo+r.2.1-(r.2.2+1)) (lo+r.2.1)
    pure (.yield (none,r.2.1+1,0))
   else pure (.yield (none,r.2.1+1,0))
  else do
   match <- ltAt' (lo+r.2.1-1) (lo+r.2.1) with
   | some larger=>if larger=true then pure (.done (none,r.2.1,r.2.2)) else pure (.yield (none,r.2.1+1,r.2.2+1))
   | _=>pure (.done (some none,r.2.1,r.2.2))
 | _=>pure (.done (some none,r.2.1,r.2.2))
def WW (lo n B:Nat):StateT SortSt Sem (Option Nat):=do
 reverseSlice' lo (lo+n)
 let r <- forIn [n:B] ((none,n):Asc) (Zel lo)
 match r.1 with
 | some x=>pure x
 | none=>pure (some r.2)
def Zh (lo n B:Nat):StateT SortSt Sem (Option Nat):=do
 liftM (rule "list.sort.descending-run")
 let r <- forIn [n+1:B] ((none,n+1,0):Dsc) (Zhd lo)
 match r.1 with
 | some x=>pure x
 | none=>(if r.2.2 > 0 then (do
   reverseSlice' (lo+r.2.1-(r.2.2+1)) (lo+r.2.1)
   WW lo r.2.1 B) else WW lo r.2.1 B)
theorem XS (lo D:Nat):countRun' lo D=(do
  let r <- forIn [1:D] ((none,1):Asc) (Zel lo)
  match r.1 with
  | some x=>pure x
  | none=>(if (r.2 == D)=true then pure (some r.2) else (if r.2 > 1 then (do
    match <- ltAt' lo (lo+r.2-1) with
    | some rose=>(if rose=true then pure (some r.2) else (do
      reverseSlice' lo (lo+r.2)
      Zh lo r.2 D))
    | _=>pure none)
   else Zh lo r.2 D))):=by
 rw [countRun'_eq];refine (Ybb (λm:StateT SortSt Sem Asc=>m >>= _) (U8 (r:=[1:D]) (c:=((none,1):Asc)) (g:=Zel lo) λi r=>rfl)).trans ?_;refine Jz λr=>?_;obtain ⟨r1,B⟩:=r;cases r1 with
 | some z=>rfl
 | none=>
  refine V5 (c:=(B == D)=true) rfl ?_;refine V5 (c:=B > 1) ?_ ?_
  ·refine Jz λz=>?_;cases z with
   | none=>rfl
   | some z=>
    refine V5 (c:=z=true) rfl ?_;refine Jz λ_=>?_;unfold Zh;refine Jz λ_=>?_;refine (Ybb (λm:StateT SortSt Sem Dsc=>m >>= _) (U8 (r:=[B+1:D]) (c:=((none,B+1,0):Dsc)) (g:=Zhd lo) λi r=>rfl)).trans ?_;refine Jz λr=>?_;obtain ⟨r1,B,F⟩:=r;cases r1 with
    | some z=>rfl
    | none=>
     refine V5 (c:=F > 0) (Jz λ_=>?_) ?_
     all_goals
      unfold WW;refine Jz λ_=>?_;refine (Ybb (λm:StateT SortSt Sem Asc=>m >>= _) (U8 (r:=[B:D]) (c:=((none,B):Asc)) (g:=Zel lo) λi r=>rfl)).trans ?_;refine Jz λr=>?_;obtain ⟨r1,B⟩:=r;cases r1 <;> rfl
  ·unfold Zh;refine Jz λ_=>?_;refine (Ybb (λm:StateT SortSt Sem Dsc=>m >>= _) (U8 (r:=[B+1:D]) (c:=((none,B+1,0):Dsc)) (g:=Zhd lo) λi r=>rfl)).trans ?_;refine Jz λr=>?_;obtain ⟨r1,B,F⟩:=r;cases r1 with
   | some z=>rfl
   | none=>
    refine V5 (c:=F > 0) (Jz λ_=>?_) ?_
    all_goals
     unfold WW;refine Jz λ_=>?_;refine (Ybb (λm:StateT SortSt Sem Asc=>m >>= _) (U8 (r:=[B:D]) (c:=((none,B):Asc)) (g:=Zel lo) λi r=>rfl)).trans ?_;refine Jz λr=>?_;obtain ⟨r1,B⟩:=r;cases r1 <;> rfl
structure Ah (lo:Nat)(st st':SortSt):Prop where
 kd:kindOf st'=kindOf st
 pe:pendingOf st'=pendingOf st
 fa:failedOf st'=failedOf st
 pm:(arrOf st').Perm (arrOf st)
 lw:∀i,i<lo->(arrOf st')[i]?=(arrOf st)[i]?
theorem Ah.refl (lo:Nat)(st:SortSt):Ah lo st st:=⟨rfl,rfl,rfl,.refl _,λ_ _=>rfl⟩
theorem Ah.trans {lo:Nat}{st D B:SortSt}(h:Ah lo st D)(k:Ah lo D B):Ah lo st B:=
 ⟨k.kd.trans h.kd,k.pe.trans h.pe,k.fa.trans h.fa,k.pm.trans h.pm,λi hi=>(k.lw i hi).trans (h.lw i hi)⟩
theorem Ah.size {lo:Nat}{st B:SortSt}(h:Ah lo st B):(arrOf B).size=(arrOf st).size:=h.pm.size_eq
def AllG (good:Keyed->Prop)(arr:Array Keyed):Prop:=∀x∈arr.toList,good x
theorem AllG.perm {good:Keyed->Prop}{a c:Array Keyed}(h:AllG good a)(p:c.Perm a):AllG good c:=λx B=>h x (p.toList.mem_iff.mp B)
theorem AllG.at {good:Keyed->Prop}{a:Array Keyed}(h:AllG good a){i:Nat}(hi:i<a.size):∃x,a[i]?=some x/\good x:=⟨a[i],by simp [hi],h _ (by simp)⟩
def ZbK (b:Keyed->Keyed->Bool)(arr:Array Keyed)(lo hi:Nat):Prop:=∀i j x y,lo<=i->i<=j->j<hi->arr[i]?=some x->arr[j]?=some y->kle b y x
section
variable {M:Model}{A:Around}{E:Value->Shared->Prop}{s:Shared}{kd:SortKind}{b:Keyed->Keyed->Bool}{good:Keyed->Prop}
theorem OY {st:SortSt}{i j:Nat}{Q:Option Bool->SortSt->Prop}(L:Ux M A E s kd b good)(F:kindOf st=kd)(G:AllG good (arrOf st))(hi:i<(arrOf st).size)(N:j<(arrOf st).size)(q:∀x y,(arrOf st)[i]?=some x->(arrOf st)[j]?=some y->Q (some (b x y)) st):wpS M A E s (ltAt' i j) Q st:=by
 obtain ⟨x,B,O⟩:=G.at hi;obtain ⟨y,D,U⟩:=G.at N;rw [ltAt'_eq];refine Yad (wpS_get ?_);exact Yad (GA B (Yad (GA D (L x y st Q O U F (q x y B D)))))
theorem Zem (arr:Array Keyed)(W:WO b)(lo:Nat):Rng b arr lo (lo+1):=λi j x y h1 h2 F D B=>by
 have:i=j:=by lia
 subst this;rw [D] at B;cases B;exact W.le_refl _
theorem Zck {arr:Array Keyed}(W:WO b){lo n:Nat}{x y:Keyed}(h:Rng b arr lo (lo+n))(O:0<n)(L:arr[lo+n-1]?=some x)(G:arr[lo+n]?=some y)(D:kle b x y):Rng b arr lo (lo+n+1):=λi j u v h1 h2 U B F=>by
 by_cases N:j<lo+n
 ·exact h i j u v h1 h2 N B F
 ·have:j=lo+n:=by lia
  subst this;rw [G] at F;cases F;by_cases hi:i=lo+n
  ·subst hi;rw [G] at B;cases B;exact W.le_refl _
  ·exact W.le_trans (h i (lo+n-1) u x h1 (by lia) (by lia) B L) D
theorem Of {arr:Array Keyed}(W:WO b){lo n:Nat}{x y:Keyed}(h:ZbK b arr lo (lo+n))(O:0<n)(L:arr[lo+n-1]?=some x)(G:arr[lo+n]?=some y)(D:kle b y x):ZbK b arr lo (lo+n+1):=λi j u v h1 h2 U B F=>by
 by_cases N:j<lo+n
 ·exact h i j u v h1 h2 N B F
 ·have:j=lo+n:=by lia
  subst this;rw [G] at F;cases F;by_cases hi:i=lo+n
  ·subst hi;rw [G] at B;cases B;exact W.le_refl _
  ·exact W.le_trans D (h i (lo+n-1) u x h1 (by lia) (by lia) B L)
theorem ZaC (W:WO b)(L:Ux M A E s kd b good){st:SortSt}{lo a B:Nat}{Q:Asc->SortSt->Prop}(hs:kindOf st=kd)(G:AllG good (arrOf st))(hn:lo+B<=(arrOf st).size)(h1:1<=a)(h2:a<=B)(h3:Rng b (arrOf st) lo (lo+a))(q:∀n,a<=n->n<=B->Rng b (arrOf st) lo (lo+n)->(n=B\/∃x y,(arrOf st)[lo+n-1]?=some x/\(arrOf st)[lo+n]?=some y/\b y x=true)->Q (none,n) st):wpS M A E s (forIn [a:B] ((none,a):Asc) (Zel lo)) Q st:=by
 refine Ycf (λk r D=>D=st/\r=(none,k)/\a<=k/\k<=B/\Rng b (arrOf st) lo (lo+k)) ?_ ?_ ⟨rfl,rfl,Yac _,h2,h3⟩
 ·rintro k r D _ hk ⟨rfl,rfl,O,U,F⟩;unfold Zel;refine Yad (OY L hs G (by show lo+k<_;lia) (by show lo+k-1<_;lia) λy x Y Z=>?_);dsimp only;split
  ·rename_i N;exact Yaf (q k O U F (.inr ⟨x,y,Z,Y,N⟩))
  ·rename_i N;exact Yaf ⟨rfl,rfl,by lia,by lia,Zck W F (by lia) Z Y (Ydz.mpr N)⟩
 ·rintro r D ⟨rfl,rfl,O,U,F⟩;rw [Nat.max_eq_right h2] at F ⊢;exact q B h2 (Yac _) F (.inl rfl)
def ZaD (b:Keyed->Keyed->Bool)(arr:Array Keyed)(lo hi:Nat):Prop:=∀i j x y,lo<=i->i<hi->lo<=j->j<hi->arr[i]?=some x->arr[j]?=some y->kle b x y
theorem OZ {st:SortSt}{lo i j:Nat}(h:lo<=i)(B:j<=(arrOf st).size):Ah lo st (setArr st (mirror (arrOf st) i j ((j-i) / 2))):=by
 refine ⟨rfl,rfl,rfl,mirror_perm _ _ _ _,λk D=>?_⟩;show (mirror (arrOf st) i j ((j-i) / 2))[k]?=_;rw [Yem B,if_neg (by lia)]
theorem Zi {arr:Array Keyed}{lo hi:Nat}(F:hi<=arr.size)(h:ZbK b arr lo hi):Rng b (mirror arr lo hi ((hi-lo) / 2)) lo hi:=λi j x y h1 h2 G B D=>by
 rw [Yem F,if_pos (by lia)] at B D;exact h (lo+hi-1-j) (lo+hi-1-i) y x (by lia) (by lia) (by lia) D B
theorem OJ {arr:Array Keyed}{lo hi i j:Nat}(O:j<=arr.size)(h1:lo<=i)(h2:i<=j)(Z:j<=hi)(U:ZaD b arr i j)(h:ZbK b arr lo hi):ZbK b (mirror arr i j ((j-i) / 2)) lo hi:=λp q x y G Y L D B=>by
 rw [Yem O] at D B;by_cases N:i<=p/\p<j
 ·rw [if_pos N] at D;by_cases F:i<=q/\q<j
  ·rw [if_pos F] at B;exact U (i+j-1-q) (i+j-1-p) y x (by lia) (by lia) (by lia) (by lia) B D
  ·rw [if_neg F] at B;exact h _ q x y (by lia) (by lia) L D B
 ·rw [if_neg N] at D;by_cases F:i<=q/\q<j
  ·rw [if_pos F] at B;exact h p _ x y G (by lia) (by lia) D B
  ·rw [if_neg F] at B;exact h p q x y G Y L D B
def ZhE (b:Keyed->Keyed->Bool)(lo D:Nat)(st:SortSt)(Q:Option Nat->SortSt->Prop):Prop:=∀m B,Ah lo st B->1<=m->m<=D->Rng b (arrOf B) lo (lo+m)->Q (some m) B
theorem WX (W:WO b)(L:Ux M A E s kd b good){st:SortSt}{lo n F:Nat}{Q:Option Nat->SortSt->Prop}(N:kindOf st=kd)(G:AllG good (arrOf st))(O:lo+F<=(arrOf st).size)(h1:1<=n)(h2:n<=F)(U:ZbK b (arrOf st) lo (lo+n))(q:ZhE b lo F st Q):wpS M A E s (WW lo n F) Q st:=by
 unfold WW;rw [reverseSlice'_eq];refine Yad (Ycr ?_);have B:=OZ (st:=st) (lo:=lo) (i:=lo) (j:=lo+n) (Yac _) (by lia);have r:=Zi (arr:=arrOf st) (lo:=lo) (hi:=lo+n) (by lia) U;generalize hst:setArr st (mirror (arrOf st) lo (lo+n) ((lo+n-lo) / 2))=D at B;have Y:arrOf D=mirror (arrOf st) lo (lo+n) ((lo+n-lo) / 2):=by rw [<-hst]
 rw [<-Y] at r;refine Yad (ZaC W L (B.kd.trans N) (G.perm B.pm) (by rw [B.size];exact O) h1 h2 r λm k1 Z k3 _=>?_);dsimp only;exact Yaf (q m D B (by lia) Z k3)
theorem WY (W:WO b)(L:Ux M A E s kd b good){st:SortSt}{lo n N:Nat}{Q:Option Nat->SortSt->Prop}(hs:kindOf st=kd)(G:AllG good (arrOf st))(hn:lo+N<=(arrOf st).size)(h2:n+1<=N)(h3:ZbK b (arrOf st) lo (lo+(n+1)))(q:ZhE b lo N st Q):wpS M A E s (Zh lo n N) Q st:=by
 unfold Zh;refine Yad (wpS_lift (Ycq ⟨rfl,?_⟩));have fin:∀m B D,Ah lo st D->n+1<=m->m<=N->ZbK b (arrOf D) lo (lo+m)->B+1<=m->ZaD b (arrOf D) (lo+m-(B+1)) (lo+m) ->
   wpS M A E s (if B > 0 then (do reverseSlice' (lo+m-(B+1)) (lo+m);WW lo m N) else WW lo m N) Q D:=by
  intro m B D F k1 k2 Y k4 k5;have G1:=G.perm F.pm;have ad:lo+N<=(arrOf D).size:=by rw [F.size];exact hn
  split
  ·rw [reverseSlice'_eq];refine Yad (Ycr ?_);have O:=OZ (st:=D) (lo:=lo) (i:=lo+m-(B+1)) (j:=lo+m) (by lia) (by lia);have r:=OJ (arr:=arrOf D) (lo:=lo) (hi:=lo+m) (i:=lo+m-(B+1)) (j:=lo+m) (by lia) (by lia) (by lia) (Yac _) k5 Y;generalize hst:setArr D (mirror (arrOf D) (lo+m-(B+1)) (lo+m) ((lo+m-(lo+m-(B+1))) / 2))=aa at O;have e1:arrOf aa=mirror (arrOf D) (lo+m-(B+1)) (lo+m) ((lo+m-(lo+m-(B+1))) / 2):=by rw [<-hst]
   rw [<-e1] at r;have Z:=F.trans O;exact WX W L (Z.kd.trans hs) (G.perm Z.pm) (by rw [Z.size];exact hn) (by lia) k2 r λm' ab a'=>q m' ab (Z.trans a')
  ·exact WX W L (F.kd.trans hs) G1 ad (by lia) k2 Y λm' ab a'=>q m' ab (F.trans a')
 have ac:∀(arr:Array Keyed) m,ZaD b arr (lo+m-(0+1)) (lo+m):=λarr m i j x y i1 i2 i3 i4 e1 e2=>by
  have:i=j:=by lia
  subst this;rw [e1] at e2;cases e2;exact W.le_refl _
 refine Yad (Ycf (λk r D=>Ah lo st D/\∃B,r=(none,k,B)/\n+1<=k/\k<=N/\ZbK b (arrOf D) lo (lo+k)/\B+1<=k/\ZaD b (arrOf D) (lo+k-(B+1)) (lo+k)) ?_ ?_ ⟨Ah.refl _ _,0,rfl,Yac _,h2,h3,by lia,ac _ _⟩)
 ·rintro k r D _ hk ⟨F,B,rfl,k1,k2,Y,k4,k5⟩;have G1:=G.perm F.pm;have ad:lo+N<=(arrOf D).size:=by rw [F.size];exact hn
  have ae:=F.kd.trans hs;unfold Zhd;refine Yad (OY L ae G1 (by show lo+k<_;lia) (by show lo+k-1<_;lia) λy x hy hx=>?_);dsimp only;split
  ·rename_i hb;have U:=W.le_of_lt hb;split
   ·rw [reverseSlice'_eq];refine Yad (Ycr ?_);have O:=OZ (st:=D) (lo:=lo) (i:=lo+k-(B+1)) (j:=lo+k) (by lia) (by lia);have r:=OJ (arr:=arrOf D) (lo:=lo) (hi:=lo+k) (i:=lo+k-(B+1)) (j:=lo+k) (by lia) (by lia) (by lia) (Yac _) k5 Y;have e3:(mirror (arrOf D) (lo+k-(B+1)) (lo+k) ((lo+k-(lo+k-(B+1))) / 2))[lo+k]?=some y:=by rw [Yem (by lia),if_neg (by lia)];exact hy
    have e4:∃z,(mirror (arrOf D) (lo+k-(B+1)) (lo+k) ((lo+k-(lo+k-(B+1))) / 2))[lo+k-1]?=some z/\kle b y z:=by
     obtain ⟨z,hz,_⟩:=G1.at (i:=lo+k-(B+1)) (by lia);refine ⟨z,?_,W.le_trans U (Y (lo+k-(B+1)) (lo+k-1) z x (by lia) (by lia) (by lia) hz hx)⟩;rw [Yem (by lia),if_pos (by lia),<-hz]
     congr 1
     lia
    generalize hst:setArr D (mirror (arrOf D) (lo+k-(B+1)) (lo+k) ((lo+k-(lo+k-(B+1))) / 2))=aa at O;have e1:arrOf aa=mirror (arrOf D) (lo+k-(B+1)) (lo+k) ((lo+k-(lo+k-(B+1))) / 2):=by rw [<-hst]
    rw [<-e1] at r e3 e4;obtain ⟨z,hz,aj⟩:=e4;exact Yaf ⟨F.trans O,0,rfl,by lia,by lia,Of W r (by lia) hz e3 aj,by lia,ac _ _⟩
   ·exact Yaf ⟨F,0,rfl,by lia,by lia,Of W Y (by lia) hx hy U,by lia,ac _ _⟩
  ·rename_i hb;have ak:kle b x y:=Ydz.mpr hb;refine Yad (OY L ae G1 (by show lo+k-1<_;lia) (by show lo+k<_;lia) λx' y' af ag=>?_);rw [hx] at af;cases af;rw [hy] at ag;cases ag;dsimp only;split
   ·refine Yaf ?_;dsimp only;exact fin k B D F k1 k2 Y k4 k5
   ·rename_i al;have U:kle b y x:=Ydz.mpr al;refine Yaf ⟨F,B+1,rfl,by lia,by lia,Of W Y (by lia) hx hy U,by lia,λi j u v i1 i2 i3 i4 e1 e2=>?_⟩;have ai:∀i u,lo+k-(B+1)<=i->i<lo+(k+1)->(arrOf D)[i]?=some u->kle b u x/\kle b x u:=λi u p1 p2 e=>by
     by_cases hi:i<lo+k
     ·exact ⟨k5 i (lo+k-1) u x p1 hi (by lia) (by lia) e hx,k5 (lo+k-1) i x u (by lia) (by lia) p1 hi hx e⟩
     ·have:i=lo+k:=by lia
      subst this;rw [hy] at e;cases e;exact ⟨U,ak⟩
    exact W.le_trans (ai i u (by lia) i2 e1).1 (ai j v (by lia) i4 e2).2
 ·rintro r D ⟨F,B,rfl,k1,k2,Y,k4,k5⟩;dsimp only;rw [Nat.max_eq_right h2] at *;exact fin N B D F k1 k2 Y k4 k5
theorem V8 (W:WO b)(L:Ux M A E s kd b good){st:SortSt}{lo F:Nat}{Q:Option Nat->SortSt->Prop}(Y:kindOf st=kd)(G:AllG good (arrOf st))(hn:lo+F<=(arrOf st).size)(h1:1<=F)(q:ZhE b lo F st Q):wpS M A E s (countRun' lo F) Q st:=by
 rw [XS];refine Yad (ZaC W L Y G hn (Yac _) h1 (Zem _ W _) λn k1 k2 Z k4=>?_);dsimp only;split
 ·exact Yaf (q n st (Ah.refl _ _) k1 k2 Z)
 ·rename_i e;have e:n≠F:=λz=>e (Ybo.mpr z);obtain ⟨x,y,hx,hy,hb⟩:=k4.resolve_left e;have N:=W.le_of_lt hb;split
  ·rename_i B;refine Yad (OY L Y G (by lia) (by lia) λu v hu hv=>?_);rw [hx] at hv;cases hv;dsimp only;split
   ·exact Yaf (q n st (Ah.refl _ _) k1 k2 Z)
   ·rename_i aa;have O:kle b x u:=Ydz.mpr aa;have al:ZaD b (arrOf st) lo (lo+n):=λi j p r i1 i2 i3 i4 B D=>
     W.le_trans (Z i (lo+n-1) p x i1 (by lia) (by lia) B hx) (W.le_trans O (Z lo j u r (Yac _) i3 i4 hu D))
    have ni:ZbK b (arrOf st) lo (lo+n):=λi j p r i1 i2 i3 B D=>al j i r p (by lia) i3 i1 (by lia) D B;rw [reverseSlice'_eq];refine Yad (Ycr ?_);have U:=OZ (st:=st) (lo:=lo) (i:=lo) (j:=lo+n) (Yac _) (by lia);have r:=OJ (arr:=arrOf st) (lo:=lo) (hi:=lo+n) (i:=lo) (j:=lo+n) (by lia) (Yac _) (by lia) (Yac _) al ni;have e3:(mirror (arrOf st) lo (lo+n) ((lo+n-lo) / 2))[lo+n]?=some y:=by rw [Yem (by lia),if_neg (by lia)];exact hy
    have e4:(mirror (arrOf st) lo (lo+n) ((lo+n-lo) / 2))[lo+n-1]?=some u:=by
     rw [Yem (by lia),if_pos (by lia),<-hu]
     congr 1
     lia
    generalize hst:setArr st (mirror (arrOf st) lo (lo+n) ((lo+n-lo) / 2))=ab at U;have B:arrOf ab=mirror (arrOf st) lo (lo+n) ((lo+n-lo) / 2):=by rw [<-hst]
    rw [<-B] at r e3 e4;exact WY W L (U.kd.trans Y) (G.perm U.pm) (by rw [U.size];exact hn) (by lia) (Of W r (by lia) e4 e3 (W.le_trans N O)) λm' ac a'=>q m' ac (U.trans a')
  ·have:n=1:=by lia
   subst this;refine WY W L Y G hn (by lia) (Of W (λi j p r i1 i2 i3 B D=>?_) (by lia) hx hy N) q;have:i=j:=by lia
   subst this;rw [B] at D;cases D;exact W.le_refl _
theorem Zj (W:WO b){arr:Array Keyed}{lo k l:Nat}{p:Keyed}(Z:lo+k<arr.size)(hl:l<=k)(h:Rng b arr lo (lo+k))(hp:arr[lo+k]?=some p)(h1:∀i x,i<l->arr[lo+i]?=some x->kle b x p)(h2:∀i x,l<=i->i<k->arr[lo+i]?=some x->kle b p x) :
  Rng b (bubble arr (lo+k) (lo+k-(lo+l))) lo (lo+(k+1)):=by
 have e0:lo+k-(lo+k-(lo+l))=lo+l:=by lia
 have L:∀q,(bubble arr (lo+k) (lo+k-(lo+l)))[q]?=if q=lo+l then some p else if lo+l<q/\q<=lo+k then arr[q-1]? else arr[q]?:=λq=>by
  rw [getElem?_bubble Z _ (by lia),e0,hp]
 intro i j x y i1 i2 i3 D B;rw [L] at D B;have N:∀q z,lo<=q->q<lo+l->arr[q]?=some z->kle b z p:=λq z q1 q2 e=>h1 (q-lo) z (by lia) (by rw [Ydr q1];exact e);have F:∀q z,lo+l<=q->q<lo+k->arr[q]?=some z->kle b p z:=λq z q1 q2 e=>h2 (q-lo) z (by lia) (by lia) (by rw [Ydr (by lia)];exact e);by_cases O:i=lo+l
 ·rw [if_pos O] at D;cases D;by_cases G:j=lo+l
  ·rw [if_pos G] at B;cases B;exact W.le_refl _
  ·rw [if_neg G,if_pos (by lia)] at B;exact F (j-1) y (by lia) (by lia) B
 ·rw [if_neg O] at D;by_cases U:lo+l<i/\i<=lo+k
  ·rw [if_pos U] at D;rw [if_neg (by lia),if_pos (by lia)] at B;exact h (i-1) (j-1) x y (by lia) (by lia) (by lia) D B
  ·rw [if_neg U] at D;by_cases G:j=lo+l
   ·rw [if_pos G] at B;cases B;exact N i x i1 (by lia) D
   ·rw [if_neg G] at B;by_cases Y:lo+l<j/\j<=lo+k
    ·rw [if_pos Y] at B;exact h i (j-1) x y i1 (by lia) (by lia) D B
    ·rw [if_neg Y] at B;exact h i j x y i1 i2 (by lia) D B
theorem ZaE {st:SortSt}{lo src d:Nat}(h1:src<(arrOf st).size)(h2:d<=src)(B:lo<=src-d):Ah lo st (setArr st (bubble (arrOf st) src d)):=by
 refine ⟨rfl,rfl,rfl,bubble_perm _ _ _,λk D=>?_⟩;show (bubble (arrOf st) src d)[k]?=_;rw [getElem?_bubble h1 _ h2,if_neg (by lia),if_neg (by lia)]
theorem Zk (W:WO b)(L:Ux M A E s kd b good){st:SortSt}{lo n ok:Nat}{Q:Bool->SortSt->Prop}(hs:kindOf st=kd)(G:AllG good (arrOf st))(hn:lo+n<=(arrOf st).size)(h1:1<=ok)(h2:ok<=n)(h3:Rng b (arrOf st) lo (lo+ok))(q:∀D,Ah lo st D->Rng b (arrOf D) lo (lo+n)->Q true D):wpS M A E s (binarySort' lo n ok) Q st:=by
 rw [binarySort'_eq,Nat.max_eq_left h1];refine Yad (Ycf (λk r B=>Ah lo st B/\r=(none,())/\ok<=k/\k<=n/\Rng b (arrOf B) lo (lo+k)) ?_ ?_ ⟨Ah.refl _ _,rfl,Yac _,h2,h3⟩)
 ·rintro k r B _ hk ⟨F,rfl,k1,k2,N⟩;have G1:=G.perm F.pm;have ac:lo+n<=(arrOf B).size:=by rw [F.size];exact hn
  have aa:=F.kd.trans hs;obtain ⟨p,hp,gp⟩:=G1.at (i:=lo+k) (by lia);have fin:∀l,l<=k->(∀i x,i<l->(arrOf B)[lo+i]?=some x->kle b x p)->(∀i x,l<=i->i<k->(arrOf B)[lo+i]?=some x->kle b p x) ->
    wpS M A E s (do moveDown' (lo+k) (lo+l);pure (ForInStep.yield ((none,()):Option Bool×Unit))) (λr D=>match r with
     | .done c'=>False
     | .yield c'=>Ah lo st D/\c'=(none,())/\ok<=k+1/\k+1<=n/\Rng b (arrOf D) lo (lo+(k+1))) B:=by
   intro l hl g1 O;rw [moveDown'_eq];refine Yad (Ycr ?_);have ab:=ZaE (st:=B) (lo:=lo) (src:=lo+k) (d:=lo+k-(lo+l)) (by lia) (by lia) (by lia);exact Yaf ⟨F.trans ab,rfl,by lia,by lia,Zj W (by lia) hl N hp g1 O⟩
  dsimp only;refine Yad (Ycf (λi c D=>D=B/\∃l r,c=(none,l,r)/\l<=r/\r<=k/\r-l<=k-i/\(∀i x,i<l->(arrOf B)[lo+i]?=some x->kle b x p)/\(∀i x,r<=i->i<k->(arrOf B)[lo+i]?=some x->kle b p x)) ?_ ?_ ⟨rfl,0,k,rfl,by lia,by lia,by lia,λi x hi=>by lia,λi x h1 h2=>by lia⟩)
  ·rintro i c D _ hi ⟨rfl,l,r,rfl,g1,O,g3,Z,g5⟩;dsimp only;split
   ·have:l=r:=by lia
    subst this;refine Yaf ?_;dsimp only;exact wpS_mono (fin l O Z g5) λr D U=>by
     cases r with
     | done z=>exact False.elim U
     | yield z=>exact U
   ·refine Yad (OY L aa G1 (by lia) (by lia) λp' m Y hm=>?_);rw [hp] at Y;cases Y;dsimp only;split
    ·rename_i hb;refine Yaf ⟨rfl,_,_,rfl,by lia,by lia,by lia,Z,λj x j1 j2 e=>?_⟩;exact W.le_trans (W.le_of_lt hb) (N _ (lo+j) m x (by lia) (by lia) (by lia) hm e)
    ·rename_i hb;refine Yaf ⟨rfl,_,_,rfl,by lia,by lia,by lia,λj x j1 e=>?_,g5⟩;exact W.le_trans (N (lo+j) _ x m (by lia) (by lia) (by lia) e hm) (Ydz.mpr hb)
  ·rintro c D ⟨rfl,l,r,rfl,g1,O,g3,Z,g5⟩;have:l=r:=by simp at g3;lia
   subst this;dsimp only;exact wpS_mono (fin l O Z g5) λr D U=>by
     cases r with
     | done z=>exact False.elim U
     | yield z=>exact U
 ·rintro r B ⟨F,rfl,k1,k2,N⟩;dsimp only;rw [Nat.max_eq_right h2] at N;exact Yaf (q B F N)
def O0 (arr:Array Keyed)(base:Nat)(l:List Keyed):Array Keyed:=List.foldl (λa (x:Keyed×Nat)=>a.setIfInBounds (base+x.2) x.1) arr l.zipIdx
def Zcl (D:Nat)(B:Array Keyed):StateT SortSt Sem Bool:=do
 modify λs=>setArr s (O0 (arrOf s) D B.toList)
 let s <- get
 pure (failedOf s).isNone
def ZfS (st:SortSt)(D na B nb:Nat):StateT SortSt Sem Bool:=(if (nb == 0)=true then pure true else (if na<=nb then (do
  let m <- V2 ((arrOf st).extract D B) ((arrOf st).extract B (B+nb))
  Zcl D m) else (do
  let m <- V3 ((arrOf st).extract D B) ((arrOf st).extract B (B+nb))
  Zcl D m)))
def ZfT (st:SortSt)(B na D nb:Nat):StateT SortSt Sem Bool:=(if (na == 0)=true then pure true else (do
  let y <- elem' (arrOf st) (B+na-1)
  match <- Oe true y (arrOf st) D nb (nb-1) with
  | some nb=>ZfS st B na D nb
  | _=>pure false))
theorem XT (i:Nat):mergeAt' i=(do
  let st <- get
  match (pendingOf st)[i]?,(pendingOf st)[i+1]? with
  | some (sa,na,power),some (sb,nb,_)=>do
   set (setPending st (((pendingOf st).setIfInBounds i (sa,na+nb,power)).eraseIdxIfInBounds (i+1)))
   let x <- elem' (arrOf st) sb
   match <- Oe false x (arrOf st) sa na 0 with
   | some k=>ZfT st (sa+k) (na-k) sb nb
   | _=>pure false
  | _,_=>liftM (unsupported "internal:list.sort.pending")):=by
 refine Jz (m:=get) λst=>?_;cases (pendingOf st)[i]? with
 | none=>rfl
 | some p=>
  cases (pendingOf st)[i+1]? with
  | none=>rfl
  | some q=>
   obtain ⟨sa,na,D⟩:=p;obtain ⟨sb,nb,B⟩:=q
   rfl
theorem Zdh:∀(l:List Keyed)(arr:Array Keyed)(base n i:Nat),base+n+l.length<=arr.size ->
  (List.foldl (λa (x:Keyed×Nat)=>a.setIfInBounds (base+x.2) x.1) arr (l.zipIdx n))[i]?=if base+n<=i/\i<base+n+l.length then l[i-(base+n)]? else arr[i]?
 | [],arr,base,n,i,_=>by
  rw [if_neg (by simp)]
  rfl
 | x::l,arr,base,n,i,h=>by
  rw [List.zipIdx_cons,List.foldl_cons];rw [Ybi] at h;have ih:=Zdh l (arr.setIfInBounds (base+n) x) base (n+1) i (by rw [Array.size_setIfInBounds];lia);refine ih.trans ?_;rw [Ybi];by_cases h1:base+(n+1)<=i/\i<base+(n+1)+l.length
  ·rw [if_pos h1,if_pos (by lia)];rw [show i-(base+n)=(i-(base+(n+1)))+1 by lia,Yey]
  ·rw [if_neg h1,Array.getElem?_setIfInBounds];by_cases h2:base+n=i
   ·subst h2;rw [if_pos rfl,if_pos (by lia),if_pos (by lia),Ydi]
    rfl
   ·rw [if_neg h2,if_neg (by lia)]
theorem Zdi {arr:Array Keyed}{base:Nat}{l:List Keyed}(h:base+l.length<=arr.size)(i:Nat):(O0 arr base l)[i]?=if base<=i/\i<base+l.length then l[i-base]? else arr[i]?:=Zdh l arr base 0 i h
theorem Zcm {arr:Array Keyed}{base:Nat}{l:List Keyed}(h:base+l.length<=arr.size)(p:l.Perm ((arr.toList.drop base).take l.length)):(O0 arr base l).Perm arr:=by
 have e:(O0 arr base l).toList=arr.toList.take base++l++arr.toList.drop (base+l.length):=by
  refine List.ext_getElem? λi=>?_;have B:arr.toList.length=arr.size:=Ybj;rw [Ybz,Zdi h];rw [Ybp,List.getElem?_append,Ybn,B,Yea (by lia)];by_cases h1:i<base
  ·rw [if_neg (by lia),if_pos h1,Yew,if_pos h1,Ybz]
  ·rw [if_neg h1,List.getElem?_append];by_cases h2:i<base+l.length
   ·rw [if_pos (by lia),if_pos (by lia)]
   ·rw [if_neg (by lia),if_neg (by lia),Yev,Ybz]
    congr 1
    lia
 have D:arr.toList=arr.toList.take base++(arr.toList.drop base).take l.length++arr.toList.drop (base+l.length):=by
  rw [Ybp,<-List.drop_drop,Yeu,Yeu]
 rw [Array.perm_iff_toList_perm,e];exact ((List.Perm.append_left _ p).append_right _).trans (.of_eq D.symm)
theorem UH {arr:Array Keyed}{lo mid hi:Nat}(h1:Rng b arr lo mid)(h2:Rng b arr mid hi)(G:∀i j x y,lo<=i->i<mid->mid<=j->j<hi->arr[i]?=some x->arr[j]?=some y->kle b x y):Rng b arr lo hi:=λi j x y i1 i2 F B D=>by
 by_cases L:j<mid
 ·exact h1 i j x y i1 i2 L B D
 ·by_cases N:i<mid
  ·exact G i j x y i1 N (by lia) F B D
  ·exact h2 i j x y (by lia) i2 F B D
theorem Zdj {arr:Array Keyed}{lo hi:Nat}(B:hi<=arr.size)(h:Rng b arr lo hi):(arr.extract lo hi).toList.Pairwise (kle b):=by
 rw [Yez];intro i j D F G;have sz:(arr.extract lo hi).toList.length=hi-lo:=by rw [Ybj,Yex,Yea B]
 refine h (lo+i) (lo+j) _ _ (by lia) (by lia) (by lia) ?_ ?_
 ·simp [Array.getElem_extract]
 ·simp [Array.getElem_extract]
def MgQ (b:Keyed->Keyed->Bool)(st:SortSt)(lo hi:Nat)(Q:Bool->SortSt->Prop):Prop:=∀B,kindOf B=kindOf st->pendingOf B=pendingOf st->failedOf B=failedOf st->(arrOf B).Perm (arrOf st) ->
 (∀i,i<lo\/hi<=i->(arrOf B)[i]?=(arrOf st)[i]?)->Rng b (arrOf B) lo hi->Q true B
structure GalF (b:Keyed->Keyed->Bool)(arr:Array Keyed)(sa k sb nb hi:Nat):Prop where
 k0:sa<=k
 k1:k<sb
 n0:0<nb
 n1:sb+nb<=hi
 ra:Rng b arr sa sb
 rb:Rng b arr sb hi
 lowA:∀i x y,sa<=i->i<k->arr[i]?=some x->arr[sb]?=some y->kle b x y
 highA:∀i x y,k<=i->i<sb->arr[i]?=some x->arr[sb]?=some y->kle b y x
 lowB:∀i x y,sb<=i->i<sb+nb->arr[i]?=some x->arr[sb-1]?=some y->kle b x y
 highB:∀i x y,sb+nb<=i->i<hi->arr[i]?=some x->arr[sb-1]?=some y->kle b y x
theorem GalF.two {arr:Array Keyed}{Z k D nb hi:Nat}(F:GalF b arr Z k D nb hi)(hh:hi<=arr.size)(G:AllG good arr):Two b good (arr.extract k D) (arr.extract D (D+nb)):=by
 have h0:=F.k0;have h1:=F.k1;have h2:=F.n0;have h3:=F.n1;have B:∀{i j x},x∈(arr.extract i j).toList->good x:=λ{i j x} L=>by
  obtain ⟨q,_,_,e⟩:=XQ L;rw [<-Ybz] at e;exact G x (Ybs e)
 refine ⟨λx=>B,λx=>B,Zdj (by lia) λi j x y i1 i2 U=>F.ra i j x y (by lia) i2 U,Zdj (by lia) λi j x y i1 i2 U=>F.rb i j x y i1 i2 (by lia),by rw [Yex];lia,by rw [Yex];lia,λx L y O=>?_,λz N y O=>?_⟩
 ·have L:arr[D]?=some x:=by
   rw [Array.getElem?_extract,if_pos (by lia)] at L;exact L
  obtain ⟨q,q1,Y,e⟩:=XQ O;exact F.highA q y x q1 Y e L
 ·have N:arr[D-1]?=some z:=by
   rw [Yex,Array.getElem?_extract,if_pos (by lia)] at N;rw [<-N]
   congr 1
   lia
  obtain ⟨q,q1,Y,e⟩:=XQ O;exact F.lowB q y z q1 (by lia) e N
theorem GalF.fin (W:WO b){st:SortSt}{sa k B nb hi:Nat}{Q:Bool->SortSt->Prop}(F:GalF b (arrOf st) sa k B nb hi)(hh:hi<=(arrOf st).size)(q:MgQ b st sa hi Q)(hf:failedOf st=none){m:Array Keyed}{L:SortSt}(U:SameG st L)(hm:JH b (((arrOf st).extract k B).toList++((arrOf st).extract B (B+nb)).toList) m.toList):wpS M A E s (Zcl k m) Q L:=by
 have h0:=F.k0;have h1:=F.k1;have h2:=F.n0;have h3:=F.n1;unfold Zcl;refine Yad (Ycr (Yad (wpS_get (Yaf ?_))));show Q (failedOf L).isNone _;rw [U.2.2.2,hf];have hl:m.toList.length=B+nb-k:=by
  have:=hm.1.length_eq;rw [Yan,Ybj,Ybj,Ybj,Yex,Yex] at this;rw [Ybj]
  lia
 have hb:k+m.toList.length<=(arrOf st).size:=by lia
 have D:((arrOf st).toList.drop k).take m.toList.length=((arrOf st).extract k B).toList++((arrOf st).extract B (B+nb)).toList:=by
  have x1:((arrOf st).extract k (B+nb)).toList=((arrOf st).toList.drop k).take m.toList.length:=by
   rw [hl,Yes,Yet]
  rw [<-x1,<-Ycj,Array.extract_append_extract]
  congr 2 <;> lia
 have O:=Zdi (arr:=arrOf st) (base:=k) (l:=m.toList) hb;have mem:∀i x,k<=i->i<B+nb->(O0 (arrOf st) k m.toList)[i]?=some x->(∃j,k<=j/\j<B/\(arrOf st)[j]?=some x)\/(∃j,B<=j/\j<B+nb/\(arrOf st)[j]?=some x):=λi x i1 i2 e=>by
  rw [O,if_pos (by lia)] at e;have hx:=hm.1.mem_iff.mp (Ybs e);rcases Yav.mp hx with hx | hx
  ·exact .inl (XQ hx)
  ·exact .inr (XQ hx)
 obtain ⟨b0,Y⟩:∃x,(arrOf st)[B]?=some x:=⟨_,Yen (by lia)⟩;obtain ⟨aL,aa⟩:∃x,(arrOf st)[B-1]?=some x:=⟨_,Yen (by lia)⟩;refine q _ U.1 U.2.2.1 ?_ ?_ (λi ab=>?_) ?_
 ·show failedOf L=failedOf st;exact U.2.2.2
 ·show (O0 (arrOf L) k m.toList).Perm (arrOf st);rw [U.2.1];exact Zcm hb (hm.1.trans (.of_eq D.symm))
 ·show (O0 (arrOf L) k m.toList)[i]?=_;rw [U.2.1,O,if_neg (by lia)]
 ·show Rng b (O0 (arrOf L) k m.toList) sa hi;rw [U.2.1];have N:∀i,i<k\/B+nb<=i->(O0 (arrOf st) k m.toList)[i]?=(arrOf st)[i]?:=λi ab=>by rw [O,if_neg (by lia)]
  refine UH (mid:=k) (λi j x y i1 i2 Z D G=>?_) (UH (mid:=B+nb) (λi j x y i1 i2 Z D G=>?_) (λi j x y i1 i2 Z D G=>?_) (λi j x y i1 i2 Z i4 D G=>?_)) (λi j x y i1 i2 Z i4 D G=>?_)
  ·rw [N i (by lia)] at D;rw [N j (by lia)] at G;exact F.ra i j x y i1 i2 (by lia) D G
  ·rw [O,if_pos (by lia)] at D G;exact Zce W hm.2 (by lia) D G
  ·rw [N i (by lia)] at D;rw [N j (by lia)] at G;exact F.rb i j x y (by lia) i2 Z D G
  ·rw [N j (by lia)] at G;rcases mem i x i1 i2 D with ⟨p,p1,p2,e⟩ | ⟨p,p1,p2,e⟩
   ·exact W.le_trans (F.ra p (B-1) x aL (by lia) (by lia) (by lia) e aa) (F.highB j y aL Z i4 G aa)
   ·exact F.rb p j x y p1 (by lia) i4 e G
  ·rw [N i (by lia)] at D;have xb:=F.lowA i x b0 i1 i2 D Y;by_cases cj:j<B+nb
   ·rcases mem j y Z cj G with ⟨p,p1,p2,e⟩ | ⟨p,p1,p2,e⟩
    ·exact F.ra i p x y i1 (by lia) p2 D e
    ·exact W.le_trans xb (F.rb B p b0 y (Yac _) p1 (by lia) Y e)
   ·rw [N j (by lia)] at G;exact W.le_trans xb (F.rb B j b0 y (Yac _) (by lia) i4 Y G)
theorem XU (W:WO b)(L:Ux M A E s kd b good){st:SortSt}{i D na sb nb pw ae:Nat}{Q:Bool->SortSt->Prop}(hs:kindOf st=kd)(hf:failedOf st=none)(G:AllG good (arrOf st))(p1:(pendingOf st)[i]?=some (D,na,pw))(p2:(pendingOf st)[i+1]?=some (sb,nb,ae))(e:sb=D+na)(af:0<na)(al:0<nb)(hh:sb+nb<=(arrOf st).size)(ra:Rng b (arrOf st) D sb)(rb:Rng b (arrOf st) sb (sb+nb))(q:MgQ b (setPending st (((pendingOf st).setIfInBounds i (D,na+nb,pw)).eraseIdxIfInBounds (i+1))) D (sb+nb) Q):wpS M A E s (mergeAt' i) Q st:=by
 subst e;rw [XT];refine Yad (wpS_get ?_);rw [p1,p2];dsimp only;refine Yad ?_;show wpS M A E s (set _) _ st;refine (show wpS M A E s (modify λ_=>setPending st (((pendingOf st).setIfInBounds i (D,na+nb,pw)).eraseIdxIfInBounds (i+1))) _ st from Ycr ?_);generalize hst:setPending st (((pendingOf st).setIfInBounds i (D,na+nb,pw)).eraseIdxIfInBounds (i+1))=B at q;have ea:arrOf B=arrOf st:=by rw [<-hst]
 have ek:kindOf B=kd:=by rw [<-hst];exact hs
 have ef:failedOf B=none:=by rw [<-hst];exact hf
 rw [<-ea] at G hh ra rb ⊢;obtain ⟨b0,U,ag⟩:=G.at (i:=D+na) (by lia);obtain ⟨aL,Y,ah⟩:=G.at (i:=D+na-1) (by lia);refine Yad (GA U ?_);have G1:Gal b good false b0 (arrOf B) D na:=VI W ag (λi hi=>G.at (by lia)) ra;refine Yad (JK L G1 ek af λk hk k1 k2=>?_);have ab:∀i x y,D<=i->i<D+k->(arrOf B)[i]?=some x->(arrOf B)[D+na]?=some y->kle b x y:=λi x y i1 i2 N O=>by
  rw [U] at O;cases O;have:=k1 (i-D) (by lia);unfold byd at this;rw [Ydr i1,N] at this;dsimp only at this;rw [if_neg Yax,Bool.not_eq_true'] at this;exact this
 have ac:∀i x y,D+k<=i->i<D+na->(arrOf B)[i]?=some x->(arrOf B)[D+na]?=some y->kle b y x:=λi x y i1 i2 N O=>by
  rw [U] at O;cases O;have:=k2 (i-D) (by lia) (by lia);unfold byd at this;rw [Ydr (by lia),N] at this;dsimp only at this;rw [if_neg Yax,Bool.not_eq_false'] at this;exact W.le_of_lt this
 dsimp only;unfold ZfT;rw [show arrOf st=arrOf B from ea.symm];split
 ·rename_i e0;have e0:na-k=0:=eq_of_beq e0;refine Yaf (q B rfl rfl rfl (.refl _) (λ_ _=>rfl) (UH ra rb λi j x y i1 i2 i3 i4 N O=>?_));exact W.le_trans (ab i x b0 i1 (by lia) N U) (rb (D+na) j b0 y (Yac _) i3 i4 U O)
 ·rename_i e0;have e0:na-k≠0:=λz=>e0 (Ybo.mpr z);refine Yad (GA (show (arrOf B)[D+k+(na-k)-1]?=some aL by rw [<-Y];congr 1;lia) ?_);have G2:Gal b good true aL (arrOf B) (D+na) nb:=VI W ah (λi hi=>G.at (by lia)) rb;refine Yad (JK L G2 ek (by lia) λZ am ai aj=>?_);have ad:∀i x y,D+na<=i->i<D+na+Z->(arrOf B)[i]?=some x->(arrOf B)[D+na-1]?=some y->kle b x y:=λi x y i1 i2 N O=>by
   rw [Y] at O;cases O;have:=ai (i-(D+na)) (by lia);unfold byd at this;rw [Ydr i1,N] at this;dsimp only at this;rw [if_pos rfl] at this;exact W.le_of_lt this
  have aa:∀i x y,D+na+Z<=i->i<D+na+nb->(arrOf B)[i]?=some x->(arrOf B)[D+na-1]?=some y->kle b y x:=λi x y i1 i2 N O=>by
   rw [Y] at O;cases O;have:=aj (i-(D+na)) (by lia) (by lia);unfold byd at this;rw [Ydr (by lia),N] at this;dsimp only at this;rw [if_pos rfl] at this;exact this
  dsimp only;unfold ZfS;split
  ·rename_i N;have N:Z=0:=eq_of_beq N;refine Yaf (q B rfl rfl rfl (.refl _) (λ_ _=>rfl) (UH ra rb λi j x y i1 i2 i3 i4 f1 f2=>?_));exact W.le_trans (ra i (D+na-1) x aL i1 (by lia) (by lia) f1 Y) (aa j y aL (by lia) i4 f2 Y)
  ·rename_i N;have N:Z≠0:=λz=>N (Ybo.mpr z);have F:GalF b (arrOf B) D (D+k) (D+na) Z (D+na+nb):=⟨by lia,by lia,by lia,by lia,ra,rb,ab,ac,ad,aa⟩;have T:=F.two hh G;split
   ·refine Yad ?_;rw [show arrOf st=arrOf B from ea.symm];exact XN W L T ek λr ak sg m=>F.fin W hh q ef sg m
   ·refine Yad ?_;rw [show arrOf st=arrOf B from ea.symm];exact XR W L T ek λr ak sg m=>F.fin W hh q ef sg m
end
def Runs (b:Keyed->Keyed->Bool)(arr:Array Keyed):Nat->List (Nat×Nat×Nat)->Nat->Prop
 | s,[],e=>s=e
 | s,x::rest,e=>x.1=s/\0<x.2.1/\Rng b arr s (s+x.2.1)/\Runs b arr (s+x.2.1) rest e
section
variable {b:Keyed->Keyed->Bool}{arr arr':Array Keyed}
theorem Runs.le:∀{p:List (Nat×Nat×Nat)}{s e:Nat},Runs b arr s p e->s+p.length<=e
 | [],s,e,h=>by have h:s=e:=h;simp [h]
 | x::p,s,e,h=>by
  have:=Runs.le h.2.2.2;have:=h.2.1;rw [Ybi]
  lia
theorem Runs.app:∀{u v:List (Nat×Nat×Nat)}{s e:Nat},Runs b arr s (u++v) e↔∃m,Runs b arr s u m/\Runs b arr m v e
 | [],v,s,e=>⟨λh=>⟨s,rfl,h⟩,λ⟨m,h1,h2⟩=>by have h1:s=m:=h1;rw [h1];exact h2⟩
 | x::u,v,s,e=>by
  constructor
  ·rintro ⟨h1,h2,h3,h4⟩;obtain ⟨m,k1,k2⟩:=Runs.app.mp h4;exact ⟨m,⟨h1,h2,h3,k1⟩,k2⟩
  ·rintro ⟨m,⟨h1,h2,h3,k1⟩,k2⟩;exact ⟨h1,h2,h3,Runs.app.mpr ⟨m,k1,k2⟩⟩
theorem Runs.keep:∀{p:List (Nat×Nat×Nat)}{s e:Nat},Runs b arr s p e->(∀i,s<=i->i<e->arr'[i]?=arr[i]?)->Runs b arr' s p e
 | [],_,_,h,_=>h
 | x::p,s,e,h,k=>by
  have:=Runs.le h.2.2.2;refine ⟨h.1,h.2.1,λi j u v i1 i2 F B D=>?_,Runs.keep h.2.2.2 λi i1 i2=>k i (by lia) i2⟩;rw [k i i1 (by lia)] at B;rw [k j (by lia) (by lia)] at D;exact h.2.2.1 i j u v i1 i2 F B D
theorem Runs.push {p:List (Nat×Nat×Nat)}{s lo n B:Nat}(h:Runs b arr s p lo)(D:0<n)(F:Rng b arr lo (lo+n)):Runs b arr s (p++[(lo,n,B)]) (lo+n):=
 Runs.app.mpr ⟨lo,h,rfl,D,F,rfl⟩
theorem Runs.two {p:List (Nat×Nat×Nat)}{i e B na G D nb F:Nat}(h:Runs b arr 0 p e)(h1:p[i]?=some (B,na,G))(h2:p[i+1]?=some (D,nb,F)) :
  D=B+na/\0<na/\0<nb/\D+nb<=e/\Rng b arr B D/\Rng b arr D (D+nb) /\
   ((∀i,i<B\/D+nb<=i->arr'[i]?=arr[i]?)->Rng b arr' B (D+nb)->Runs b arr' 0 ((p.set i (B,na+nb,G)).eraseIdx (i+1)) e):=by
 obtain ⟨l1,e1⟩:=Ybf.mp h1;obtain ⟨l2,e2⟩:=Ybf.mp h2;have d:p=p.take i++(B,na,G)::(D,nb,F)::p.drop (i+2):=by
  conv=>lhs;rw [<-Yeu i p,List.drop_eq_getElem_cons l1,e1,List.drop_eq_getElem_cons l2,e2]
 have N:(p.take i).length=i:=by rw [Ybn];lia
 generalize p.take i=u at d N;generalize p.drop (i+2)=v at d;subst d;obtain ⟨m,k1,O,U,Y,Z,k6,k7,L⟩:=Runs.app.mp h;have O:B=m:=O;have U:0<na:=U;have Z:D=m+na:=Z;have k6:0<nb:=k6;have Y:Rng b arr m (m+na):=Y;have k7:Rng b arr (m+na) (m+na+nb):=k7;have L:Runs b arr (m+na+nb) v e:=L;subst O Z;have k9:B+na+nb+v.length<=e:=L.le;refine ⟨rfl,U,k6,by lia,Y,k7,λho hr=>?_⟩;have es:((u++(B,na,G)::(B+na,nb,F)::v).set i (B,na+nb,G)).eraseIdx (i+1)=u++(B,na+nb,G)::v:=by
  rw [List.set_append,if_neg (by lia),N,Ydi,List.set_cons_zero,List.eraseIdx_append_of_length_le (by lia),N,Nat.add_sub_cancel_left]
  rfl
 rw [es];refine Runs.app.mpr ⟨B,k1.keep λj j1 j2=>ho j (.inl j2),rfl,by show 0<na+nb;lia,by show Rng b arr' B (B+(na+nb));rw [<-Nat.add_assoc];exact hr,?_⟩;show Runs b arr' (B+(na+nb)) v e;rw [<-Nat.add_assoc];exact L.keep λj j1 j2=>ho j (.inr j1)
theorem Runs.pow:∀{p:List (Nat×Nat×Nat)}{s e:Nat}(i:Nat)(f:Nat×Nat×Nat->Nat×Nat×Nat),(∀x,(f x).1=x.1/\(f x).2.1=x.2.1)->Runs b arr s p e->Runs b arr s (p.modify i f) e
 | [],_,_,i,f,_,h=>by cases i <;> exact h
 | x::p,s,e,0,f,hf,h=>by
  rw [List.modify_zero_cons];obtain ⟨q1,q2⟩:=hf x;refine ⟨q1.trans h.1,by rw [q2];exact h.2.1,by rw [q2];exact h.2.2.1,by rw [q2];exact h.2.2.2⟩
 | x::p,s,e,i+1,f,hf,h=>by
  rw [List.modify_succ_cons];exact ⟨h.1,h.2.1,h.2.2.1,Runs.pow i f hf h.2.2.2⟩
theorem Runs.one (W:WO b){p:List (Nat×Nat×Nat)}{e:Nat}(h:Runs b arr 0 p e)(B:p.length<=1):Rng b arr 0 e:=by
 match p,h,B with
 | [],h,_=>
  have h:0=e:=h;subst h;intro i j x y i1 i2 F
  lia
 | [x],h,_=>
  have D:0+x.2.1=e:=h.2.2.2;rw [<-D];exact h.2.2.1
end
section
variable {M:Model}{A:Around}{E:Value->Shared->Prop}{s:Shared}{kd:SortKind}{b:Keyed->Keyed->Bool}{good:Keyed->Prop}
structure SI (b:Keyed->Keyed->Bool)(kd:SortKind)(st0 st:SortSt)(lo:Nat):Prop where
 ki:kindOf st=kd
 fa:failedOf st=none
 pm:(arrOf st).Perm (arrOf st0)
 ru:Runs b (arrOf st) 0 (pendingOf st).toList lo
theorem SI.size {B st:SortSt}{lo:Nat}(h:SI b kd B st lo):(arrOf st).size=(arrOf B).size:=h.pm.size_eq
theorem SI.merge (W:WO b)(L:Ux M A E s kd b good){D st:SortSt}{lo i:Nat}{Q:Bool->SortSt->Prop}(G:AllG good (arrOf D))(h:SI b kd D st lo)(Z:lo<=(arrOf D).size)(hi:i+1<(pendingOf st).size)(q:∀B,SI b kd D B lo->(pendingOf B).size+1=(pendingOf st).size->(∀i,lo<=i->(arrOf B)[i]?=(arrOf st)[i]?)->Q true B):wpS M A E s (mergeAt' i) Q st:=by
 obtain ⟨⟨F,na,N⟩,p1⟩:∃x,(pendingOf st)[i]?=some x:=⟨_,Yen (by lia)⟩;obtain ⟨⟨sb,nb,aa⟩,p2⟩:∃x,(pendingOf st)[i+1]?=some x:=⟨_,Yen hi⟩;have two:=λarr'=>Runs.two (arr':=arr') h.ru (by rw [Ybz];exact p1) (by rw [Ybz];exact p2);obtain ⟨t1,t2,t3,t4,t5,t6,_⟩:=two (arrOf st);have ab:=h.size;refine XU W L h.ki h.fa (G.perm h.pm) p1 p2 t1 t2 t3 (by lia) t5 t6 λB k1 k2 k3 U O k6=>?_;have e0:arrOf (setPending st (((pendingOf st).setIfInBounds i (F,na+nb,N)).eraseIdxIfInBounds (i+1)))=arrOf st:=rfl;rw [e0] at U O;have e1:pendingOf B=((pendingOf st).setIfInBounds i (F,na+nb,N)).eraseIdxIfInBounds (i+1):=k2;have Y:(pendingOf B).toList=((pendingOf st).toList.set i (F,na+nb,N)).eraseIdx (i+1):=by
  rw [e1,Array.toList_eraseIdxIfInBounds,Array.toList_setIfInBounds]
 refine q B ⟨k1.trans h.ki,k3.trans h.fa,U.trans h.pm,?_⟩ ?_ λj hj=>O j (.inr (by lia))
 ·rw [Y];exact (two (arrOf B)).2.2.2.2.2.2 O k6
 ·have:=Ybb List.length Y;rw [Ybj,List.length_eraseIdx,List.length_set,Ybj,if_pos hi] at this
  lia
theorem Uy (W:WO b)(L:Ux M A E s kd b good){st:SortSt}{Q:Unit->SortSt->Prop}(hs:kindOf st=kd)(hf:failedOf st=none)(hp:pendingOf st=#[])(G:AllG good (arrOf st))(q:∀ac,(arrOf ac).Perm (arrOf st)->failedOf ac=none->Rng b (arrOf ac) 0 (arrOf st).size->Q () ac):wpS M A E s sortRuns' Q st:=by
 rw [sortRuns'_eq];refine Yad (wpS_get ?_);dsimp only;generalize hsz:(arrOf st).size=size at q;generalize minRun' size size 0=U;refine Yad (wpS_mono (Q:=λr Z=>r=(none,size)/\SI b kd st Z size) (Ycf (λk r Z=>∃lo,r=(none,lo)/\k<=lo/\lo<=size/\SI b kd st Z lo) ?_ ?_ ⟨0,rfl,Yac _,Ybc _,hs,hf,.refl _,by rw [hp];rfl⟩) ?_)
 ·rintro k r Z _ hk ⟨lo,rfl,k1,k2,I⟩;dsimp only;split
  ·have:lo=size:=by lia
   subst this;exact Yaf ⟨rfl,I⟩
  ·rename_i aj;have s1:(arrOf Z).size=size:=I.size.trans hsz;refine Yad (V8 W L I.ki (G.perm I.pm) (by lia) (by lia) λn F ah n1 n2 n3=>?_);have Y:SI b kd st F lo:=⟨ah.kd.trans I.ki,ah.fa.trans I.fa,ah.pm.trans I.pm,by rw [ah.pe];exact I.ru.keep λi _ hi=>ah.lw i hi⟩;dsimp only;have O:∀D n,SI b kd st D lo->0<n->Rng b (arrOf D) lo (lo+n)->SI b kd st (setPending D ((pendingOf D).push (lo,n,0))) (lo+n):=by
    intro D n I3 n1 n3;refine ⟨I3.ki,I3.fa,I3.pm,?_⟩;show Runs b (arrOf D) 0 ((pendingOf D).push (lo,n,0)).toList (lo+n);rw [Yel];exact I3.ru.push n1 n3
   have pow:∀D pw,SI b kd st D lo->SI b kd st (setPending D ((pendingOf D).modify ((pendingOf D).size-1) λx=>(x.1,x.2.1,pw))) lo:=by
    intro D pw I3;refine ⟨I3.ki,I3.fa,I3.pm,?_⟩;show Runs b (arrOf D) 0 ((pendingOf D).modify ((pendingOf D).size-1) λx=>(x.1,x.2.1,pw)).toList lo;rw [Array.toList_modify];exact I3.ru.pow _ _ λx=>⟨rfl,rfl⟩
   split
   ·rename_i ad;refine Yad (wpS_lift (Ycq ⟨rfl,?_⟩));have s2:(arrOf F).size=size:=Y.size.trans hsz;refine Yad (Zk W L Y.ki (G.perm Y.pm) (by lia) n1 (by lia) n3 λD ab r3=>?_);have I3:SI b kd st D lo:=⟨ab.kd.trans Y.ki,ab.fa.trans Y.fa,ab.pm.trans Y.pm,by rw [ab.pe];exact Y.ru.keep λi _ hi=>ab.lw i hi⟩;rw [show (!true)=false from rfl,if_neg Yax];have hN:1<=min (size-lo) U/\lo+min (size-lo) U<=size:=by lia
    clear ad;generalize min (size-lo) U=N at r3 hN;refine Yad (wpS_get ?_);cases hbk:(pendingOf D).back? with
    | none=>exact Yad (Ycr (Yaf ⟨_,rfl,by lia,by lia,O D _ I3 (by lia) r3⟩))
    | some x=>
     obtain ⟨s1,n1,ae⟩:=x;dsimp only;refine Yad (wpS_mono (Q:=λr B=>r=(none,())/\SI b kd st B lo/\∀i,lo<=i->(arrOf B)[i]?=(arrOf D)[i]?) (Ycf (λ_ r B=>r=(none,())/\SI b kd st B lo/\∀i,lo<=i->(arrOf B)[i]?=(arrOf D)[i]?) ?_ (λ_ _ z=>z) ⟨rfl,I3,λ_ _=>rfl⟩) ?_)
     ·rintro k' r B _ af ⟨rfl,I4,same⟩;refine Yad (wpS_get ?_);by_cases hz:(pendingOf B).size > 1
      ·obtain ⟨⟨z1,z2,z3⟩,pz⟩:∃x,(pendingOf B)[(pendingOf B).size-2]?=some x:=⟨_,Yen (by lia)⟩;rw [if_pos hz,pz];dsimp only;split
       ·exact Yaf ⟨rfl,I4,same⟩
       ·refine Yad (I4.merge W L G (by lia) (by lia) λag I5 _ aa=>?_);rw [show (!true)=false from rfl,if_neg Yax];exact Yaf ⟨rfl,I5,λi hi=>(aa i hi).trans (same i hi)⟩
      ·rw [if_neg hz];exact Yaf ⟨rfl,I4,same⟩
     ·rintro r B ⟨rfl,I4,same⟩;dsimp only;refine Yad (Ycr (Yad (Ycr (Yaf ⟨_,rfl,by lia,by lia,?_⟩))));refine O _ _ (pow B _ I4) (by lia) λi j x y i1 i2 i3 e1 e2=>?_;have e1:(arrOf B)[i]?=some x:=e1;have e2:(arrOf B)[j]?=some y:=e2;rw [same i i1] at e1;rw [same j (by lia)] at e2;exact r3 i j x y i1 i2 i3 e1 e2
   ·have hN:1<=n/\lo+n<=size:=by lia
    refine Yad (wpS_get ?_);cases hbk:(pendingOf F).back? with
    | none=>exact Yad (Ycr (Yaf ⟨_,rfl,by lia,by lia,O F _ Y (by lia) n3⟩))
    | some x=>
     obtain ⟨s1,n1,ae⟩:=x;dsimp only;refine Yad (wpS_mono (Q:=λr B=>r=(none,())/\SI b kd st B lo/\∀i,lo<=i->(arrOf B)[i]?=(arrOf F)[i]?) (Ycf (λ_ r B=>r=(none,())/\SI b kd st B lo/\∀i,lo<=i->(arrOf B)[i]?=(arrOf F)[i]?) ?_ (λ_ _ z=>z) ⟨rfl,Y,λ_ _=>rfl⟩) ?_)
     ·rintro k' r B _ af ⟨rfl,I4,same⟩;refine Yad (wpS_get ?_);by_cases hz:(pendingOf B).size > 1
      ·obtain ⟨⟨z1,z2,z3⟩,pz⟩:∃x,(pendingOf B)[(pendingOf B).size-2]?=some x:=⟨_,Yen (by lia)⟩;rw [if_pos hz,pz];dsimp only;split
       ·exact Yaf ⟨rfl,I4,same⟩
       ·refine Yad (I4.merge W L G (by lia) (by lia) λag I5 _ aa=>?_);rw [show (!true)=false from rfl,if_neg Yax];exact Yaf ⟨rfl,I5,λi hi=>(aa i hi).trans (same i hi)⟩
      ·rw [if_neg hz];exact Yaf ⟨rfl,I4,same⟩
     ·rintro r B ⟨rfl,I4,same⟩;dsimp only;refine Yad (Ycr (Yad (Ycr (Yaf ⟨_,rfl,by lia,by lia,?_⟩))));refine O _ _ (pow B _ I4) (by lia) λi j x y i1 i2 i3 e1 e2=>?_;have e1:(arrOf B)[i]?=some x:=e1;have e2:(arrOf B)[j]?=some y:=e2;rw [same i i1] at e1;rw [same j (by lia)] at e2;exact n3 i j x y i1 i2 i3 e1 e2
 ·rintro r Z ⟨lo,rfl,k1,k2,I⟩;have:lo=size:=by simp at k1;lia
  subst this;exact ⟨rfl,I⟩
 ·rintro r Z ⟨rfl,I⟩;dsimp only;refine Yad (wpS_mono (Q:=λr F=>r=(none,())/\SI b kd st F size/\(pendingOf F).size<=1) (Ycf (λk r F=>r=(none,())/\SI b kd st F size/\(pendingOf F).size+k<=size+1) ?_ ?_ ⟨rfl,I,?_⟩) ?_)
  ·rintro k r F _ hk ⟨rfl,Y,hz⟩;refine Yad (wpS_get ?_);split
   ·rename_i h1;exact Yaf ⟨rfl,Y,h1⟩
   ·rename_i h1;generalize hi:(if Option.any _ _=true then (pendingOf F).size-2-1 else (pendingOf F).size-2)=i;have ai:i+1<(pendingOf F).size:=by
     rw [<-hi];have key:∀(c:Prop)[Decidable c](m:Nat),(if c then m-1 else m)<=m:=λc _ m=>by split <;> lia
     refine Nat.lt_of_le_of_lt (Nat.succ_le_succ (key _ ((pendingOf F).size-2))) ?_
     lia
    refine Yad (Y.merge W L G (by lia) ai λD I3 h3 _=>?_);rw [show (!true)=false from rfl,if_neg Yax];exact Yaf ⟨rfl,I3,by lia⟩
  ·rintro r F ⟨rfl,Y,hz⟩;exact ⟨rfl,Y,by simp at hz;lia⟩
  ·have:=I.ru.le;rw [Ybj] at this
   lia
  ·rintro r F ⟨rfl,Y,h1⟩;refine Yaf (q F Y.pm Y.fa ?_);exact Y.ru.one W (by rw [Ybj];exact h1)
end
section
variable {prog:Program}{w:World}{A:Around}{E:Value->Shared->Prop}{s:Shared}{kd:SortKind}{b:Keyed->Keyed->Bool}{good:Keyed->Prop}
def O1 (s:Shared)(a:Addr)(vs:List Value):Shared:={ s with heap:=((s.heap.update a (Obj.mapSeq λ_=>#[])).push (seqObj "tuple" vs.toArray 0)).push (seqObj "list" #[] 0) }
theorem ZaF (W:WO b){arr:Array Keyed}(h:arr.size<2):Rng b arr 0 arr.size:=λi j x y i1 i2 F D B=>by
 have:i=j:=by lia
 subst this;rw [D] at B;cases B;exact W.le_refl _
theorem V9 {a:Addr}{vs:List Value}{n:Nat}{P:PySem.Fin->Shared->Prop}(W:WO b)(U:s.heap.get? a=some (seqObj "list" vs.toArray n))(hz:vs.length<=sizeLine)(hg:∀v∈vs,good (v,v))(hk:2<=vs.length->∀{E':Value->Shared->Prop}{R:SortKind->Shared->Prop},R kd (O1 s a vs)->wpAny (model prog w) A (keyKind' vs.toArray) R E' (O1 s a vs))(L:Ux (model prog w) A E (O1 s a vs) kd b good)(q:∀out:Array Keyed,out.Perm (pairsOf vs)->Rng b out 0 vs.length->P (.done (.ret .none)) { s with heap:=sortedHeap s.heap a vs (out.map (·.2)) }) :
  wpAny (model prog w) A (Builtin.«list.sort» { pos:=[.ref a] }) P E s:=by
 rw [list_sort_plain];refine Yab (listItems_at U rfl ?_);refine Yab (listUpdate_at U rfl ?_ (by rw [Ybd];exact hz) (Ybc _));have D:=get?_update_seq U (λ_=>#[]);generalize (if ((#[]:Array Value).size == vs.toArray.size)=true then n else n+1)=n1 at D;refine Yab (seqEpoch_at D rfl ?_);refine Yab (wpAny_newTuple ?_ hz);refine Yab (wpAny_newList ?_ (Ybc _));refine Ycw ?_;have B:(O1 s a vs).heap.get? a=some (seqObj "list" #[] n1):=Yao _ (Yao _ D);show wpAny (model prog w) A _ P E (O1 s a vs);have G:(pairsOf vs).size=vs.length:=pairsOf_size vs;dsimp only [Ybd];split
 ·rename_i h2;have h2:vs.length<2:=by simpa using h2
  refine Yab (Yag ?_);refine Yab (Yci (Q:=λr s'=>s'=O1 s a vs/\failedOf r.2=none/\(arrOf r.2).Perm (pairsOf vs)/\Rng b (arrOf r.2) 0 vs.length) (Yag ⟨rfl,rfl,.refl _,?_⟩) ?_ (λ_ _ z=>z))
  ·have:=ZaF W (arr:=pairsOf vs) (by lia);rw [G] at this;exact this
  ·rintro ⟨_,st⟩ s' ⟨rfl,F,N,Y⟩;dsimp only;refine Yab (seqEpoch_at B rfl ?_);have F:failedOf st=none:=F;have Z:((arrOf st).map (·.2)).size<=sizeLine+1:=by
    have this:(arrOf st).size=(pairsOf vs).size:=N.size_eq;rw [pairsOf_size] at this;rw [Array.size_map]
    lia
   refine Yab (listUpdate_at B rfl ?_ (Ybc _) Z);have:(n1 != n1)=false:=by simp
   rw [this,F];exact Yag (q (arrOf st) N Y)
 ·rename_i h2;have h2:¬ vs.length<2:=by simpa using h2
  refine Yab (hk (by lia) ?_);refine Yab (Yci (Q:=λr s'=>s'=O1 s a vs/\failedOf r.2=none/\(arrOf r.2).Perm (pairsOf vs)/\Rng b (arrOf r.2) 0 vs.length) ?_ ?_ (λ_ _ z=>z))
  ·refine Uy (st:=SortSt.mk' kd (vs.toArray.zip vs.toArray) #[] 7 none) (Q:=λ_ st=>failedOf st=none/\(arrOf st).Perm (pairsOf vs)/\Rng b (arrOf st) 0 vs.length) W L rfl rfl rfl (λx O=>?_) λaa k1 k2 k3=>⟨k2,k1,?_⟩
   ·have O:x∈(pairsOf vs).toList:=O;rw [pairsOf_toList] at O;obtain ⟨e,hm⟩:=mem_zip_self O;obtain ⟨x1,x2⟩:=x;have e:x1=x2:=e;subst e;exact hg _ hm
   ·have e:(arrOf (SortSt.mk' kd (vs.toArray.zip vs.toArray) #[] 7 none)).size=vs.length:=G;rw [e] at k3;exact k3
  ·rintro ⟨_,st⟩ s' ⟨rfl,F,N,Y⟩;dsimp only;refine Yab (seqEpoch_at B rfl ?_);have F:failedOf st=none:=F;have Z:((arrOf st).map (·.2)).size<=sizeLine+1:=by
    have this:(arrOf st).size=(pairsOf vs).size:=N.size_eq;rw [pairsOf_size] at this;rw [Array.size_map]
    lia
   refine Yab (listUpdate_at B rfl ?_ (Ybc _) Z);have:(n1 != n1)=false:=by simp
   rw [this,F];exact Yag (q (arrOf st) N Y)
theorem O2 {h:Heap}{a c:Addr}{o:Obj}{f:Obj->Obj}(B:c≠a)(e:h.get? c=some o):(h.update a f).get? c=some o:=(Heap.get?_update_ne h c a f B).trans e
theorem Zl {l:Addr}{vs:List Value}{Q:Value->Shared->Prop}(W:WO b)(G:s.heap.IsList l vs.toArray)(hz:vs.length<=sizeLine)(N:∀v∈vs,good (v,v))(O:∀h':Heap,(∀c o,s.heap.get? c=some o->h'.get? c=some o)->2<=vs.length->∀{E':Value->Shared->Prop}{R:SortKind->Shared->Prop},R kd { s with heap:=h' }->wpAny (model prog w) A.in1.in1 (keyKind' vs.toArray) R E' { s with heap:=h' })(L:∀h':Heap,(∀c o,s.heap.get? c=some o->h'.get? c=some o)->Ux (model prog w) A.in1.in1 E { s with heap:=h' } kd b good)(q:∀out:Array Keyed,out.Perm (pairsOf vs)->Rng b out 0 vs.length->Q (.ref (s.heap.objs.size+1)) { s with heap:=sortedAll s.heap vs (out.map (·.2)) }) :
  wpAny (model prog w) A (call (.builtin "sorted") [.ref l]) Q E s:=by
 refine Calls.call_function_entry kind_sorted plain_sorted entry_sorted (args_sorted1 _) ?_;unfold Builtin.sorted;refine Yab (Yag ?_);refine Yab (collect_list G ?_ hz);refine Yab (wpAny_newList ?_ hz);refine Yab (Ycw ?_);generalize hh1:(s.heap.push (seqObj "list" #[] 0)).update s.heap.objs.size (Obj.mapSeq λx=>x++vs.toArray)=h1;have B:h1.objs.size=s.heap.objs.size+1:=by rw [<-hh1,Heap.size_update,Ydb]
 have U:∀c o,s.heap.get? c=some o->h1.get? c=some o:=λc o e=>by
  rw [<-hh1];exact O2 (Yaq (Yaj e)) (Yao _ e)
 generalize hh2:h1.push { cls:=Value.type "list", data:=Data.seq vs.toArray }=h2;have D:h2.get? h1.objs.size=some (seqObj "list" vs.toArray 0):=by rw [<-hh2];exact Ybh _ rfl
 have Y:∀c o,s.heap.get? c=some o->h2.get? c=some o:=λc o e=>by
  rw [<-hh2];exact Yao _ (U c o e)
 have F:∀c o,s.heap.get? c=some o->(O1 { s with heap:=h2 } h1.objs.size vs).heap.get? c=some o:=λc o e=>by
  unfold O1;refine Yao _ (Yao _ (O2 ?_ (Y c o e)));have:=Yaj e;rw [B];exact Yaq (Ydt this)
 refine Yco (s:={ s with heap:=h2 }) slot_list_sort ⟨_,D,rfl⟩ entry_list_sort ?_ (args_list_sort _);refine V9 (s:={ s with heap:=h2 }) W D hz N (λh=>O _ F h) (L _ F) λout p r=>⟨.none,rfl,Yag ⟨_,rfl,?_⟩⟩;have e:({ s with heap:=sortedHeap h2 h1.objs.size vs (out.map (·.2)) }:Shared)={ s with heap:=sortedAll s.heap vs (out.map (·.2)) }:=by
  unfold sortedAll;rw [B,<-hh2,<-hh1]
 show Q (.ref h1.objs.size) { s with heap:=sortedHeap h2 h1.objs.size vs (out.map (·.2)) };rw [e,B];exact q out p r
def Zju:Keyed->Keyed->Bool:=λx y=>match x.1,y.1 with
 | .int i _,.int j _=>decide (i<j)
 | _,_=>false
def ZbL:Value->Int
 | .int i _=>i
 | _=>0
end
def JW:List Int->List Int->Bool
 | [],[]=>false
 | [],_::_=>true
 | _::_,[]=>false
 | x::xs,y::ys=>if x=y then JW xs ys else decide (x<y)
section
variable {prog:Program}{w:World}{A:Around}{E:Value->Shared->Prop}{s:Shared}
theorem Yz {its:List Value}{ns:List Int}(h:IntsAre its ns):its.length=ns.length:=by
 induction h with
 | nil=>rfl
 | cons n t h ih=>simp [ih]
end
end L2
namespace L2
open PySem PySem.Spec PyProof.Rows Classical
theorem UI:∀xs:List Int,JW xs xs=false
 | []=>rfl
 | x::xs=>by
  unfold JW;rw [if_pos rfl];exact UI xs
theorem XV:∀{xs ys zs:List Int},JW xs ys=true->JW ys zs=true->JW xs zs=true
 | [],[],_,h,_=>by simp [JW] at h
 | [],_::_,[],_,h=>by simp [JW] at h
 | [],_::_,_::_,_,_=>rfl
 | _::_,[],_,h,_=>by simp [JW] at h
 | _::_,_::_,[],_,h=>by simp [JW] at h
 | x::xs,y::ys,z::zs,h1,h2=>by
  unfold JW at h1 h2 ⊢;by_cases e1:x=y
  ·rw [if_pos e1] at h1;by_cases e2:y=z
   ·rw [if_pos e2] at h2;rw [if_pos (e1.trans e2)];exact XV h1 h2
   ·rw [if_neg e2] at h2;rw [if_neg (by rw [e1];exact e2),e1];exact h2
  ·rw [if_neg e1] at h1;have h1:=Yba h1;by_cases e2:y=z
   ·rw [if_neg (by rw [<-e2];exact e1),<-e2];exact Yae h1
   ·rw [if_neg e2] at h2;have h2:=Yba h2;rw [if_neg (by lia)];exact Yae (by lia)
theorem YA:∀{xs ys:List Int},JW xs ys=false->JW ys xs=false->xs=ys
 | [],[],_,_=>rfl
 | [],_::_,h,_=>by simp [JW] at h
 | _::_,[],_,h=>by simp [JW] at h
 | x::xs,y::ys,h1,h2=>by
  unfold JW at h1 h2;by_cases e:x=y
  ·rw [if_pos e] at h1;rw [if_pos e.symm] at h2;rw [e,YA h1 h2]
  ·rw [if_neg e] at h1;rw [if_neg (Ne.symm e)] at h2;have h1:=of_decide_eq_false h1;have h2:=of_decide_eq_false h2
   lia
theorem ZfU {α:Type}{κ:Keyed->α}{lt:α->α->Bool}(B:∀a,lt a a=false)(F:∀{a b c},lt a b=true->lt b c=true->lt a c=true)(D:∀{a b},lt a b=false->lt b a=false->a=b):WO (λx y=>lt (κ x) (κ y)):=by
 refine ⟨λx=>B _,λx y z=>F,λx y z h=>?_⟩;cases h1:lt (κ x) (κ y) with
 | true=>exact .inl rfl
 | false=>
  cases h2:lt (κ y) (κ x) with
  | true=>exact .inr (F h2 h)
  | false=>
   rw [<-D h1 h2];exact .inr h
section
variable {prog:Program}{w:World}{A:Around}{E:Value->Shared->Prop}{s:Shared}{b:Keyed->Keyed->Bool}{good:Keyed->Prop}
theorem Zcn (h:∀x y,good x->good y->∀{E':Value->Shared->Prop}{Q:Bool->Shared->Prop},Q (b x y) s->wpAny (model prog w) A (oneLt' true x.1 y.1) Q E' s):Ux (model prog w) A E s oneType' b good:=by
 intro x y st Q B D F q;rw [lt'_eq];refine Yad (wpS_get ?_);refine Yad (wpS_lift ?_);rw [F,keyLt'_oneType];exact Yeh (h x y B D ⟨rfl,Yaf q⟩)
theorem Ul {β:Type}{f:Value->Sem β}{g:Value->β}:∀{vs:List Value}{Q:List β->Shared->Prop},(∀v∈vs,∀{Q:β->Shared->Prop},Q (g v) s->wpAny (model prog w) A (f v) Q E s)->Q (vs.map g) s->wpAny (model prog w) A (List.mapM f vs) Q E s
 | [],Q,_,q=>by
  rw [List.mapM_nil];exact Yag q
 | v::vs,Q,h,q=>by
  rw [List.mapM_cons];refine Yab (h v (Yaz ..) ?_);exact Yab (Ul (λu hu=>h u (Ybm _ hu)) (Yag q))
theorem WZ {α β:Type}{m:Sem α}{f:α->β}{Q:β->Shared->Prop}(h:wpAny (model prog w) A m (λa s'=>Q (f a) s') E s):wpAny (model prog w) A (f <$> m) Q E s:=by
 rw [map_eq_pure_bind];exact Yab (Yci h (λa s' z=>Yag z) λ_ _ z=>z)
theorem XW {T:String}{vs:List Value}{R:SortKind->Shared->Prop}(G:T ≠ "tuple")(h:∀v∈vs,s.TypeIs v T)(h2:2<=vs.length)(q:R oneType' s):wpAny (model prog w) A (keyKind' vs.toArray) R E s:=by
 rw [keyKind'_eq,List.mapM_toArray];have L:(Value.type T != Value.type "tuple")=true:=by
  rw [bne_iff_ne];intro e;injection e with e
  exact G e
 refine Yab (WZ (Ul (g:=λ_=>none) (λv F Q q=>?_) ?_))
 ·show wpAny _ _ (typeOf v >>= _) _ _ s;refine Yab (wpAny_typeOf (h v F) ?_);rw [if_pos L];exact Yag q
 ·obtain ⟨B,D,rest,rfl⟩:∃B D rest,vs=B::D::rest:=by
   match vs,h2 with
   | B::D::rest,_=>exact ⟨B,D,rest,rfl⟩
  rw [if_neg (by simp)];rw [if_neg (by simp)];rw [oneTypeOnly'_eq,List.mapM_toArray];refine Yab (Yab (WZ (Ul (g:=λ_=>Value.type T) (λv F Q q=>wpAny_typeOf (h v F) q) ?_)));simp only [Yat,List.getElem?_toArray,List.getElem?_cons_zero];refine Yag ?_;rw [if_pos (by simp)];exact Yag q
end
def ltI (x y:Int):Bool:=decide (x<y)
theorem ZfV:WO (λx y=>ltI (ZbL x.1) (ZbL y.1)):=ZfU (κ:=λx:Keyed=>ZbL x.1) (lt:=ltI) (λa=>by simp [ltI]) (λ{a b c} h1 h2=>by
  have h1:=Yba h1;have h2:=Yba h2;exact Yae (by lia)) (λ{a b} h1 h2=>by
  have h1:=of_decide_eq_false h1;have h2:=of_decide_eq_false h2
  lia)
theorem W0 {b:Keyed->Keyed->Bool}{out:Array Keyed}{n:Nat}(h:Rng b out 0 n)(F:out.size=n):out.toList.Pairwise (kle b):=by
 rw [Yez];intro i j hi B D;rw [Ybj] at hi B;exact h i j _ _ (Ybc _) (by lia) (by lia) (by simp [hi]) (by simp [B])
theorem Zco {vs:List Value}{out:Array Keyed}(h:out.Perm (pairsOf vs)):(out.map (·.2)).toList.Perm vs/\(∀x∈out.toList,x.1=x.2/\x.1∈vs)/\out.size=vs.length:=by
 have p:out.toList.Perm (vs.zip vs):=by
  have:=h.toList;rw [pairsOf_toList] at this;exact this
 refine ⟨?_,λx B=>mem_zip_self (p.mem_iff.mp B),by rw [h.size_eq,pairsOf_size]⟩;rw [Array.toList_map];have:=p.map (λx:Keyed=>x.2);rw [show (vs.zip vs).map (λx:Keyed=>x.2)=vs from List.map_snd_zip (Yac _)] at this;exact this
section
variable {X:Cx}(K:W.Frag)
def ZfW:List V->Hp->VK->Prop:=λxs H Q=>∃(p:Addr)(ns:List Int),xs=[.ref p]/\SqL K H p (ns.map V.int)/\∀(l:Addr)(ns':List Int),H l=none->ns'.Perm ns->ns'.Pairwise (· <= ·)->Q (.ref l) (upd H l (.lst (ns'.map V.int)))
theorem ZaG (h:X.K=K:=by rfl):JE X (.builtin "sorted") (ZfW K):=by
 subst h;intro qQ s σ H xs us Q I rv h;obtain ⟨p,ns,rfl,hq,q⟩:=h;obtain ⟨u,rfl,ru⟩:=rv.one;cases ru;obtain ⟨B,r,pl,U⟩:=I.list hq;have hl:=r.length;rw [Yaa] at hl U;have hi:=Uf r;have D:∀v∈B,∃i t,v=.int i t:=hi.all;refine Zl (good:=λx=>∃i t,x.1=.int i t) ZfV pl.isList (by lia) D (λh' k h2 E' R q=>?_) (λh' k=>Zcn λx y gx gy E' Q q=>?_) λout hp hr=>?_
 ·exact XW (T := "int") (by decide) (λv hv=>by obtain ⟨i,t,rfl⟩:=D v hv;exact typeIs_int _ _ _) h2 q
 ·obtain ⟨i,t,e1⟩:=gx;obtain ⟨j,u,e2⟩:=gy;simp only [e1,e2] at q ⊢;exact oneLt_int q
 ·obtain ⟨o1,F,o3⟩:=Zco hp;obtain ⟨e,he⟩:=sortedAll_at s.heap B (out.map (·.2));have G:∀l:List Keyed,(∀x∈l,x.1=x.2/\x.1∈B)->Vals ((l.map λx=>ZbL x.2).map V.int) (l.map (·.2)):=by
   intro l
   induction l with
   | nil=>intro _;exact .nil
   | cons x l ih=>
    intro h;obtain ⟨h1,h2⟩:=h x (Yaz ..);obtain ⟨i,t,e⟩:=D x.1 h2;rw [h1] at e;refine .cons ⟨t,?_⟩ (ih λy L=>h y (Ybm _ L));show x.2=.int (ZbL x.2) t;rw [e]
    rfl
  have N:=G out.toList F;have Y:(out.toList.map λx=>ZbL x.2).Perm ns:=by
   have Z:=o1.map ZbL;rw [Array.toList_map,Yca] at Z;refine Z.trans (.of_eq ?_);have:∀{B:List Value}{ns:List Int},IntsAre B ns->B.map ZbL=ns:=by
    intro B ns h
    induction h with
    | nil=>rfl
    | cons n t h ih=>rw [Yat,ih];rfl
   exact this hi
  have ps:(out.toList.map λx=>ZbL x.2).Pairwise (· <= ·):=by
   rw [Yee];refine (W0 hr o3).imp_of_mem λ{x y} hx L O=>?_;have:=of_decide_eq_false O;rw [<-(F x hx).1,<-(F y L).1]
   lia
  refine ⟨.ref _,_,I.laid (a:=s.heap.objs.size+1) (t':=s.toks) (o:=.lst ((out.toList.map λx=>ZbL x.2).map V.int)) (λb o e=>sortedAll_old e) (Nat.le_succ _) ⟨by rw [Yaa,Y.length_eq];exact U,(out.map (·.2)).toList,e,by rw [Array.toList_map];exact N,he⟩,rfl,q _ _ (I.hok.fresh (Nat.le_succ _)) Y ps⟩
end
end L2
namespace L2
open PySem PySem.Spec PyProof.Rows
section
variable {X:Cx}
theorem Inv.freeze {qQ:List (Addr×Obj)}{σ:St}{H:Hp}{s:Shared}{a:Addr}{kvs:List (Key×V)}(I:Inv X qQ σ H s)(e:H a=some (.dK kvs)):∃o,Inv X qQ σ (upd H a (.frz o (.dK kvs))) s:=by
 have B:ObjOk X.prog X.w H s.heap a (.dK kvs):=I.hok a _ e;obtain ⟨z,D,vs,r,o,es,ep,h1,h2⟩:=id B;refine ⟨o,?_⟩;have:=I.write (x:=a) (e:=a) (o:=.frz o (.dK kvs)) (h':=s.heap) (t':=s.toks) (by rw [e];exact True.intro) (.inl rfl) (λb u _ q=>q) ⟨_,h1⟩ ⟨h1,B⟩;exact this
def ItD (a:Addr)(o:Obj)(kvs:List (Key×V)):It:=
 ⟨λi H=>H a=some (.frz o (.dK kvs))/\i<kvs.length,λi H x H'=>H'=H/\∃k v,kvs[i]?=some (k,v)/\x=kV k,λi H=>H a=some (.frz o (.dK kvs))/\kvs.length<=i⟩
theorem Zdk:∀{kvs:List (Key×V)}{vs:List (Key×Value)}{i:Nat}{k:Key}{v:V},KV kvs vs->kvs[i]?=some (k,v)->∃u,vs[i]?=some (k,u)
 | _,_,i,k,v,.nil,e=>by simp at e
 | p::ps,q::qs,0,k,v,.cons r t,e=>by
  simp at e;subst e;obtain ⟨q1,q2⟩:=q;have:k=q1:=r.1;subst this;exact ⟨q2,rfl⟩
 | p::ps,q::qs,i+1,k,v,.cons _ t,e=>by
  obtain ⟨u,h⟩:=Zdk (i:=i) t (by simpa using e);exact ⟨u,by simpa using h⟩
theorem ZfX {P:Program}{w:World}{k:Key}{u:Value}(h:(GM P w).is k u=true):RelV (kV k) u:=by
 rcases GT (show Xs k u=true from h) with ⟨i,t,rfl,rfl⟩ | ⟨x,t,rfl,rfl⟩
 ·exact ⟨t,rfl⟩
 ·exact ⟨t,rfl⟩
theorem XX {qQ:List (Addr×Obj)}{σ:St}{H:Hp}{s:Shared}{a:Addr}{o:Obj}{kvs:List (Key×V)}{es:Array DictEntry}{ep:Nat}(I:Inv X qQ σ H s)(e:H a=some (.frz o (.dK kvs)))(B:o.data=.dict es ep) :
  ∃vs,KV kvs vs/\s.heap.DictAt (GM X.prog X.w) a vs ep:=by
 obtain ⟨h1,z,Y,vs,r,o',F,G,h2,L,D,N,O,U⟩:=(show ObjOk X.prog X.w H s.heap a (.frz o (.dK kvs)) from I.hok a _ e);rw [h1] at h2;cases h2;rw [B] at D;cases D;exact ⟨vs,r,o,es,h1,L,B,N,O,U⟩
theorem ZaH {P:Program}{w:World}{K:W.Frag}{tg:Expr}(a it:Addr)(o:Obj)(kvs:List (Key×V))(es:Array DictEntry)(ep:Nat)(ho:o.data=.dict es ep) :
  ZbP P w K tg (ItD a o kvs) [it] it (λi h=>h.IsKeyIter it a i kvs.length ep) where
 mem:=by simp
 obj:=λi h st b hb=>by
  have e:b=it:=by simpa using hb
  subst e;obtain ⟨o,e,c,d⟩:=st;exact ⟨o,e,λv z=>by rw [d] at z;cases z⟩
 keep:=λi h h' st k=>by
  obtain ⟨o,e,c,d⟩:=st;exact ⟨o,k it (by simp) o e,c,d⟩
 item:=by
  intro X hP hw hK hc i qQ s σ H E I hf st hg;subst hP hw hK;obtain ⟨hq,hi⟩:=hg;obtain ⟨vs,r,da⟩:=XX I hq ho;have qV:kvs.length=vs.length:=Ycv r;obtain ⟨⟨k,v⟩,hx⟩:∃x,kvs[i]?=some x:=⟨_,Yah hi⟩;obtain ⟨u,hu⟩:=Zdk r hx;obtain ⟨f0,f1,f2,f3,f4,f5⟩:=hf it (by simp);refine wpAny_pyNext_dict_item (knd:=GM X.prog X.w) (kvs:=vs) (by rw [<-qV];exact st) da hu λkey h' hk st' sb=>?_;have I1:Inv X qQ σ H { s with heap:=h' }:=I.turned (t':=s.toks) (λb o hb e=>(sb.2 b hb).trans e) f0 f1 f3 f4 f5;obtain ⟨o',e,c,d⟩:=id st';exact ⟨key,rfl,ZM (s:={ s with heap:=h' }) e c d (by decide) ⟨kV k,H,I1,ZfX hk,⟨rfl,k,v,hx,rfl⟩,by rw [qV];exact st',λb hb=>(hf b hb).1⟩⟩
 done:=by
  intro X hP hw hK hc i qQ s σ H E I hf st hg;subst hP hw hK;obtain ⟨hq,hi⟩:=hg;obtain ⟨vs,r,da⟩:=XX I hq ho;have qV:kvs.length=vs.length:=Ycv r;obtain ⟨f0,f1,f2,f3,f4,f5⟩:=hf it (by simp);exact wpAny_pyNext_dict_end (knd:=GM X.prog X.w) (I.ok.hd hc) (by rw [<-qV];exact st) da (List.getElem?_eq_none_iff.mpr (by lia)) λh' eb=>⟨rfl,I.turned (t':=s.toks) (λb o hb e=>eb b o hb e) f0 f1 f3 f4 f5⟩
 self:=λ_ _ _ _ _ st h=>wpAny_pyIter_keyiter st h
def ZfY (tl:TE):TI:=λσ H R=>tl σ H λx H1=>∃a o kvs,x=.ref a/\H1 a=some (.frz o (.dK kvs))/\R (ItD a o kvs) H1
theorem Zcp {tg l:Expr}{tl:TE}(G:PE X l tl):PI X tg l (ZfY tl):=by
 intro qQ s σ H R I h;refine thn (G qQ s σ H _ I h) λv s1 ⟨x,H1,B,r1,q1⟩=>?_;obtain ⟨a,o,kvs,e,D,q⟩:=q1;subst e;cases r1;obtain ⟨h1,z,L,N,Z,o',es,ep,h2,h3,F,h5⟩:=(show ObjOk X.prog X.w H1 s1.heap a (.frz o (.dK kvs)) from B.hok a _ D);rw [h1] at h2;cases h2;obtain ⟨vs,r,O⟩:=XX B D F;have U:kvs.length=vs.length:=Ycv r;refine wpAny_pyIter_dict (knd:=GM X.prog X.w) L O ?_;refine ⟨s1.heap.objs.size,[s1.heap.objs.size],_,_,H1,rfl,B.kept (t':=s1.toks) λb o e=>Yao _ e,ZaH a _ o kvs es ep F,⟨_,Ybh _ rfl,rfl,by rw [U];rfl⟩,λb Y=>?_,q⟩;have e:b=s1.heap.objs.size:=by simpa using Y
 subst e;exact B.fpOk (Yac _) (B.hok.fresh (Yac _))
theorem Zm {a D:Addr}{o:Obj}{kvs:List (Key×V)}{g:TG}{tc:TT}{te:TE}{G:St}{R:Hp->Prop}{H1:Hp}(B:Nat->List V->Hp->Prop)(h0:B 0 [] (upd H1 D (.lst [])))(U:∀i ys H,i<=kvs.length->B i ys H->H a=some (.frz o (.dK kvs)))(Y:∀i k v ys H,kvs[i]?=some (k,v)->B i ys H->g (kV k) G H λL Z=>Od G L/\tc L Z λb N=>if b=true then te L N λy O=>O D=some (.lst ys)/\ys.length<sizeLine/\B (i+1) (ys++[y]) (upd O D (.lst (ys++[y]))) else B (i+1) ys N)(hd:∀ys H,B kvs.length ys H->R H):∃W:Nat->Nat->List V->Hp->Prop,(∃m,W 0 m [] (upd H1 D (.lst [])))/\Js (ItD a o kvs) D g tc te G W R:=by
 refine ⟨λi m ys H=>m=kvs.length-i/\i<=kvs.length/\B i ys H,⟨_,rfl,Ybc _,h0⟩,?_⟩;rintro i m ys H ⟨rfl,hi,p⟩;have q:=U i ys H hi p;by_cases F:i<kvs.length
 ·refine .inr ⟨⟨q,F⟩,B (i+1),λaa H' p'=>⟨kvs.length-(i+1),by lia,rfl,F,p'⟩,λx H' y=>?_⟩;obtain ⟨e,k,v,ek,rfl⟩:=y;subst e;exact Y i k v ys _ ek p
 ·have e:i=kvs.length:=by lia
  subst e;exact .inl ⟨⟨q,Yac _⟩,hd ys H p⟩
theorem Zjg {qQ:List (Addr×Obj)}{σ:St}{H:Hp}{s:Shared}{a:Addr}{kvs:List (Key×V)}{A:Around}{E:Value->Shared->Prop}{Q:Bool->Shared->Prop}(I:Inv X qQ σ H s)(e:Rd H a (.dK kvs))(q:∀s',Inv X qQ σ H s'->Q (!kvs.isEmpty) s'):wpAny (model X.prog X.w) A (truthy (.ref a)) Q E s:=by
 obtain ⟨D,B,vs,r,m⟩:=WS I.hok e;have F:=Us;have G:kvs.length=vs.length:=Ycv r;exact wpAny_truthy_dict B m (by lia) (by rw [Vx r];exact q _ (I.tok _))
theorem ZaI {a:Expr}{ta:TE}(D:PE X a ta)(F:∀B,isTrue a X.env B=(do let v <- B;standAt a.pos;holding [v] (truthy v))) :
  PT X a (λσ H Q=>ta σ H λx H'=>∃p kvs,x=.ref p/\Rd H' p (.dK kvs)/\Q (!kvs.isEmpty) H'):=by
 intro qQ s σ H Q I h;refine isTrue_plain (thn (D qQ s σ H _ I h) λv s1 ⟨x,H1,G,r1,p,kvs,e,L,q1⟩=>?_) (F _);subst e;cases r1;exact Zjg G L λs' N=>⟨H1,N,q1⟩
theorem ZaJ {prog:Program}{w:World}{A:Around}{I:Addr}{fp wr:List Addr}{n:Nat}{P:Nat->Value->Prop}{St:Nat->Heap->Prop}{J:Heap->Prop}{R:Result->Shared->Prop}(W:Walks prog w A.in1 I fp wr n P St)(G:Nat->Bool)(Z:∀(s:Shared)(i:Nat)(v:Value)(Q:Bool->Shared->Prop)(E:Value->Shared->Prop),J s.heap->P i v->(∀tk,Q (G i) { s with toks:=tk })->wpAny (model prog w) A.in1 (truthy v) Q E s)(B:∀h h':Heap,J h->(∀b o,b ∉ wr->h.get? b=some o->h'.get? b=some o)->J h') :
  ∀(k i:Nat)(s:Shared),n-i=k->i<=n->St i s.heap->J s.heap->(∀h' tk,(∀b o,b ∉ wr->s.heap.get? b=some o->h'.get? b=some o)->R (.ok (.ret (.bool (((List.range n).drop i).all G)))) { s with heap:=h',toks:=tk }) ->
  codeAny (model prog w) A (.builtin "all.loop" ⟨[.ref I],[]⟩) R s:=by
 intro k
 induction k with
 | zero=>
  intro i s hk hi st j D;have en:i=n:=by lia
  subst en;refine Ydg F.entry_all_loop ?_;rw [Ydq F.plain_all_loop _];unfold Builtin.«all.loop»;refine Yab (W.done s _ _ st λh' tk kept=>?_);refine Yab (Ycq ?_);have:=D h' tk kept;rw [Yek (by rw [Ycb];exact Yac _)] at this;exact Yag this
 | succ k ih=>
  intro i s hk hi st j D;refine Ydg F.entry_all_loop ?_;rw [Ydq F.plain_all_loop _];unfold Builtin.«all.loop»;refine Yab (W.item i s _ _ (by lia) st λv h' tk pv L kept=>?_);have U:=B _ _ j kept;refine Yab (Ycw (Z _ i v _ _ U pv λN=>Yab (wpAny_letGo ?_)));have Y:(List.range n).drop i=i::(List.range n).drop (i+1):=by
   rw [List.drop_eq_getElem_cons (by rw [Ycb];lia),List.getElem_range]
  cases hb:G i with
  | true=>
   rw [if_pos rfl];refine Yag ⟨Ydh F.plain_all_loop _,ih (i+1) _ (by lia) (by lia) L U λh2 O k2=>?_⟩;have:=D h2 O λb o nb e=>k2 b o nb (kept b o nb e);rw [Y,List.all_cons,hb,Bool.true_and] at this;exact this
  | false=>
   rw [if_neg Yax];refine Yab (Ycq ?_);have:=D h' N kept;rw [Y,List.all_cons,hb,Bool.false_and] at this;exact Yag this
theorem ZhF (K:PySem.W.Frag)(hc:X.calm=true)(h:X.K=K:=by rfl):JE X (.builtin "all") (λxs H Q=>∃(p:Addr)(zs:List (Addr×List V)),xs=[.ref p]/\SqL K H p (zs.map λz=>V.ref z.1)/\(∀z∈zs,SqL K H z.1 z.2)/\Q (.bl (zs.all λz=>!z.2.isEmpty)) H):=by
 subst h;intro qQ s σ H xs us Q I rv h;obtain ⟨p,zs,rfl,hq,hz,q⟩:=h;obtain ⟨u,rfl,Z⟩:=rv.one;cases Z;obtain ⟨G,r,pl,aa⟩:=I.list hq;have hh:X.A.in1.handled=none:=I.ok.hd hc;obtain ⟨o,eo,_⟩:=id pl.isList;have ab:p<s.heap.objs.size:=Yaj eo;have qV:=r.length;rw [Yaa] at qV;have ge:∀(i:Nat)(v:Value),G.toArray[i]?=some v->∃z,zs[i]?=some z/\v=.ref z.1:=λi v hv=>by
  have U:G[i]?=some v:=by simpa using hv
  have hi:i<G.length:=(Ybf.mp U).1;obtain ⟨z,e⟩:∃z,zs[i]?=some z:=⟨_,Yah (by lia)⟩;obtain ⟨u,hu,Z⟩:=r.get (show (zs.map λz=>V.ref z.1)[i]?=some (V.ref z.1) by rw [Yau,e];rfl);rw [U] at hu;cases hu;exact ⟨z,e,Z⟩
 refine call_function_tree PySem.F.kind_all PySem.F.plain_all PySem.F.entry_all (PySem.F.args_all1 _) ?_;show wpAny _ _ (oneArg "all" ⟨[.ref p],[]⟩ >>= _) _ _ s;refine Yab (Yab (Yag (Yag ?_)));refine Yab (wpAny_pyIter_list pl.isList ?_);refine Yag ⟨Ydh F.plain_all_loop _,?_⟩;have kz:∀z∈zs,∃D:List Value,Vals z.2 D/\s.heap.IsList z.1 D.toArray/\z.2.length<=sizeLine:=λz B=>by
  obtain ⟨D,N,L,O⟩:=I.list (hz z B);exact ⟨D,N,L.isList,O⟩
 have Y:∀z∈zs,z.1<s.heap.objs.size:=λz B=>by
  obtain ⟨D,_,L,_⟩:=kz z B;obtain ⟨o,e,_⟩:=L;exact Yaj e
 have W:=Walks.list (prog:=X.prog) (w:=X.w) hh s.heap.objs.size p (Yaq ab) G.toArray;refine ZaJ (J:=λh=>∀z∈zs,∃D:List Value,Vals z.2 D/\h.IsList z.1 D.toArray/\z.2.length<=sizeLine/\z.1<s.heap.objs.size) W (λi=>match zs[i]? with | some z=>!z.2.isEmpty | none=>true) (λs' i v Q' E' j pv q'=>?_) (λh h' j k z B=>?_) G.toArray.size 0 _ rfl (Ybc _)
  ⟨⟨_,Ybh _ rfl,rfl,rfl⟩,pl.isList.at λo e=>Yao _ e⟩ (λz B=>?_) (λh' tk hk=>?_)
 ·obtain ⟨z,ez,rfl⟩:=ge i v pv;obtain ⟨D,N,L,O,_⟩:=j z (Ybs ez);rw [ez] at q';have hl:=Us;have:=N.length;exact wpAny_truthy_list L (by simp only [Ybd];lia) (by rw [Ue N];exact q' _)
 ·obtain ⟨D,N,L,O,zl⟩:=j z B;refine ⟨D,N,L.at λo e=>k _ o ?_ e,O,zl⟩;intro y;have:z.1=s.heap.objs.size:=by simpa using y
  exact absurd zl (by rw [this];exact Ybt _)
 ·obtain ⟨D,N,L,O⟩:=kz z B;exact ⟨D,N,L.at λo e=>Yao _ e,O,Y z B⟩
 ·refine ⟨.bl _,H,I.kept λb o e'=>hk b o ?_ (Yao _ e'),?_,q⟩
  ·intro z;have:b=s.heap.objs.size:=by simpa using z
   exact absurd (Yaj e') (by rw [this];exact Ybt _)
  ·show Value.bool _=Value.bool _
   congr 1
   rw [Ybd,<-qV,List.drop_zero];clear hk W kz Y ge qV aa pl r hq hz q
   induction zs with
   | nil=>rfl
   | cons z zs ih=>
    rw [Ybi,List.range_succ_eq_map,List.all_cons,List.all_map,List.all_cons]
    congr 1
theorem ZiA (K:W.Frag)(Y:X.calm=true)(h:X.K=K:=by rfl):JE X (.builtin "any") (λxs H Q=>∃(p:Addr)(bs:List Bool),xs=[.ref p]/\SqL K H p (bs.map V.bl)/\Q (.bl (bs.any id)) H):=by
 subst h;intro qQ s σ H xs us Q I Z h;obtain ⟨p,bs,rfl,L,q⟩:=h;obtain ⟨u,rfl,ru⟩:=Z.one;cases ru;obtain ⟨D,r,pl,hz⟩:=I.list L;have e:=U5 r;have hh:X.A.in1.handled=none:=I.ok.hd Y;obtain ⟨o,eo,_⟩:=id pl.isList;have F:p<s.heap.objs.size:=Yaj eo;refine call_any_walk (wpAny_pyIter_list pl.isList ?_);refine ⟨s.heap.objs.size,_,_,_,_,_,λi=>bs.getD i false,rfl,Walks.list hh s.heap.objs.size p (Yaq F) D.toArray,⟨⟨_,Ybh _ rfl,rfl,rfl⟩,pl.isList.at λo e=>Yao _ e⟩,?_,λh' tk N=>?_⟩
 ·intro i v s' Q' E' hv G;have B:D[i]?=some v:=by simpa using hv
  rw [e,Yau] at B;cases z:bs[i]? with
  | none=>rw [z] at B;cases B
  | some b=>
   rw [z] at B;cases B;have eb:bs.getD i false=b:=by rw [Yai,z];rfl
   exact Ydl (by rw [<-eb];exact G)
 ·have O:D.toArray.size=bs.length:=by rw [Ybd,e,Yaa]
  refine ⟨.bl _,H,I.kept λb o U=>N b o ?_ (Yao _ U),?_,q⟩
  ·intro z;have:b=s.heap.objs.size:=by simpa using z
   exact absurd (Yaj U) (by rw [this];exact Ybt _)
  ·show Value.bool _=Value.bool _
   congr 1
   rw [O];clear N O hz pl r L e q
   induction bs with
   | nil=>rfl
   | cons b bs ih=>
    rw [Ybi,List.range_succ_eq_map,List.any_cons,List.any_map,List.any_cons];show (b || _)=(b || _)
    congr 1
theorem YB:bootBuiltins "any" = some (.builtin "any"):=by first | rfl | decide +kernel
end
mutual
inductive Th (H:Hp):V->PyData->Prop
 | non:Th H .non .none
 | bl (b:Bool):Th H (.bl b) (.bool b)
 | int (i:Int):Th H (.int i) (.int i)
 | str (x:Str):Th H (.str x) (.str x)
 | lst {a:Addr} {xs:List V} {ds:List PyData}:H a=some (.lst xs)->xs.length<=1000->Ths H xs ds->Th H (.ref a) (.list ds)
 | tup {a:Addr} {xs:List V} {ds:List PyData}:H a=some (.tup xs)->xs.length<=1000->Ths H xs ds->Th H (.ref a) (.tuple ds)
inductive Ths (H:Hp):List V->List PyData->Prop
 | nil:Ths H [] []
 | cons {x:V} {d:PyData} {xs:List V} {ds:List PyData}:Th H x d->Ths H xs ds->Ths H (x::xs) (d::ds)
end
mutual
theorem Th.same {H H':Hp}(s:Same H H'):∀{v:V}{d:PyData},Th H v d->Th H' v d
 | _,_,.non=>.non
 | _,_,.bl b=>.bl b
 | _,_,.int i=>.int i
 | _,_,.str x=>.str x
 | _,_,.lst e z h=>.lst (s _ _ e) z (Ths.same s h)
 | _,_,.tup e z h=>.tup (s _ _ e) z (Ths.same s h)
theorem Ths.same {H H':Hp}(s:Same H H'):∀{vs:List V}{ds:List PyData},Ths H vs ds->Ths H' vs ds
 | _,_,.nil=>.nil
 | _,_,.cons h t=>.cons (Th.same s h) (Ths.same s t)
end
section
variable {X:Cx}{a:Expr}{ta:TE}{pos:Pos}
theorem ZaK (K:W.Frag)(h:X.K=K:=by rfl):JE X (.type "tuple") (λxs H Q=>∃p ys,xs=[.ref p]/\((SqL K H p ys/\∀l,H l=none->Q (.ref l) (upd H l (.tup ys)))\/(SqT K H p ys/\Q (.ref p) H))):=h▸VU
end
end L2
namespace L2
open PySem
def G4 (n:Int)(rs:List (Int×Int)):Prop:=1<=n/\n<=100/\rs.length<=200/\(∀p∈rs,0<=p.1/\p.1<p.2/\p.2<n)/\rs.Nodup
def ZfZ (K:W.Frag):List V->Hp->VK->Prop:=λxs H Q=>∃(p:Addr)(ns:List Int),xs=[.ref p]/\SqL K H p (ns.map V.int)/\ns.length<10000/\∀(l:Addr)(ns':List Int),H l=none->ns'.Perm ns->ns'.Pairwise (· <= ·)->Q (.ref l) (upd H l (.lst (ns'.map V.int)))
theorem Zdl {X:Cx}(K:W.Frag)(h:X.K=K:=by rfl):JE X (.builtin "sorted") (ZfZ K):=by
 intro qQ s σ H xs us Q I B z;obtain ⟨p,ns,e,D,_,q⟩:=z;exact ZaG K h qQ s σ H xs us Q I B ⟨p,ns,e,D,q⟩
end L2
namespace L2
open PySem PySem.Spec PyProof.Rows
section
variable {prog:Program}{w:World}{A:Around}{E:Value->Shared->Prop}{s:Shared}
theorem ZaL {B d:Addr}{i ep:Nat}{es:Array DictEntry}{o:Obj}{e:DictEntry}{Q:Value->Shared->Prop}(hit:s.heap.IsKeyIter B d i es.size ep)(N:s.heap.get? d=some o)(O:o.data=.dict es ep)(hi:es[i]?=some e)(q:∀h',h'.IsKeyIter B d (i+1) es.size ep->Heap.SameBut B s.heap h'->Q e.key { s with heap:=h' }):wpAny (model prog w) A (Builtin.«dict_keyiterator.__next__» ⟨[.ref B],[]⟩) (λfin s'=>∃v,fin=.done (.ret v)/\Q v s') E s:=by
 obtain ⟨⟨c0,d0,t0,Z⟩,D,F,G⟩:=id hit;subst F G;have T:=hit.typeIs
 wp_walk using wpAny_fieldsOf D rfl,wpAny_dictEntries N O,wpAny_dictEpoch N O,Yfa T,wpAny_isOneOf_keyiter T
 rw [if_neg (by lia),Ybu,hi]
 wp_walk using Yfa T,wpAny_isOneOf_keyiter T,wpAny_setField D rfl
 case hi=>exact (by decide:(0:Nat)+1<4)
 case h=>
  have L:(s.heap.update B (Obj.mapFields (·.setIfInBounds 1 (rawInt ((i:Int)+1))))).IsKeyIter B d (i+1) es.size ep:=by
   exact ⟨_,Yck _ D rfl,rfl,rfl⟩
  have U:Heap.SameBut B s.heap (s.heap.update B (Obj.mapFields (·.setIfInBounds 1 (rawInt ((i:Int)+1))))):=Ydp ..;have Y:=L.typeIs (s:={ s with heap:=s.heap.update B (Obj.mapFields (·.setIfInBounds 1 (rawInt ((i:Int)+1)))) });show wpAny _ _ _ _ _ { s with heap:=s.heap.update B (Obj.mapFields (·.setIfInBounds 1 (rawInt ((i:Int)+1)))) };generalize s.heap.update B (Obj.mapFields (·.setIfInBounds 1 (rawInt ((i:Int)+1))))=h1 at L U Y ⊢
  wp_walk using wpAny_isOneOf_keyiter Y
  exact ⟨_,rfl,q _ L U⟩
theorem ZaM {B d:Addr}{i ep:Nat}{es:Array DictEntry}{o:Obj}{Q:Value->Shared->Prop}(U:A.handled=none)(hit:s.heap.IsKeyIter B d i es.size ep)(L:s.heap.get? d=some o)(N:o.data=.dict es ep)(hi:es[i]?=none)(q:∀h' e,(∀c o,c≠B->s.heap.get? c=some o->h'.get? c=some o)->(∃o,h'.get? e=some o/\o.cls=.type "StopIteration")->E (.ref e) { s with heap:=h' }):wpAny (model prog w) A (Builtin.«dict_keyiterator.__next__» ⟨[.ref B],[]⟩) (λfin s'=>∃v,fin=.done (.ret v)/\Q v s') E s:=by
 obtain ⟨⟨Z,d0,t0,Y⟩,D,F,G⟩:=id hit;subst F G;have T:=hit.typeIs
 wp_walk using wpAny_fieldsOf D rfl,wpAny_dictEntries L N,wpAny_dictEpoch L N,Yfa T,wpAny_isOneOf_keyiter T
 rw [if_neg (by lia),Ybu,hi]
 wp_walk using Yfa T,wpAny_setField D rfl
 case hi=>exact (by decide:(0:Nat)<4)
 case h=>
  have O:Heap.SameBut B s.heap (s.heap.update B (Obj.mapFields (·.setIfInBounds 0 Value.none))):=Ydp ..;show wpAny _ _ _ _ _ { s with heap:=s.heap.update B (Obj.mapFields (·.setIfInBounds 0 Value.none)) };generalize s.heap.update B (Obj.mapFields (·.setIfInBounds 0 Value.none))=h1 at O ⊢
  wp_walk using wpAny_raiseNew_none U
  exact q _ _ (λc o n e=>Yao _ (Yao _ (by rw [O.2 c n];exact e))) ⟨_,Ybh _ rfl,rfl⟩
theorem W4 {B d:Addr}{i ep:Nat}{es:Array DictEntry}{o:Obj}{e:DictEntry}{Q:Option Value->Shared->Prop}(hit:s.heap.IsKeyIter B d i es.size ep)(D:s.heap.get? d=some o)(G:o.data=.dict es ep)(hi:es[i]?=some e)(q:∀h',h'.IsKeyIter B d (i+1) es.size ep->Heap.SameBut B s.heap h'->Q (some e.key) { s with heap:=h' }):wpAny (model prog w) A (pyNext (.ref B)) Q E s:=by
 refine Yab (Yeh (Yer hit.typeIs Yfb (Yco Yfb hit.typeIs F.entry_dict_keyiterator_next (ZaL hit D G hi λh' k b=>?_) (F.args_dict_keyiterator_next_1 _))))
 wp_walk
 exact q h' k b
theorem W5 {B d:Addr}{i ep:Nat}{es:Array DictEntry}{o:Obj}{Q:Option Value->Shared->Prop}(D:A.in1.handled=none)(hit:s.heap.IsKeyIter B d i es.size ep)(G:s.heap.get? d=some o)(L:o.data=.dict es ep)(hi:es[i]?=none)(q:∀h',(∀c o,c≠B->s.heap.get? c=some o->h'.get? c=some o)->Q none { s with heap:=h' }):wpAny (model prog w) A (pyNext (.ref B)) Q E s:=by
 refine Yab (Yeh (Yer hit.typeIs Yfb (Yco Yfb hit.typeIs F.entry_dict_keyiterator_next (ZaM D hit G L hi ?_) (F.args_dict_keyiterator_next_1 _))));rintro h' e k ⟨o',N,O⟩;exact Yab (wpAny_isInstance ⟨o',N,O⟩ isSubtype_stop (Yag (q h' k)))
theorem ZaN {d:Addr}{ep:Nat}{es:Array DictEntry}{o:Obj}{Q:Value->Shared->Prop}(L:(d == sysModules)=false)(B:s.heap.get? d=some o)(G:o.ExactDict)(D:o.data=.dict es ep)(q:∀h',h'.IsKeyIter s.heap.objs.size d 0 es.size ep->(∀c o,s.heap.get? c=some o->h'.get? c=some o)->Q (.ref s.heap.objs.size) { s with heap:=h' }):wpAny (model prog w) A (pyIter (.ref d)) Q E s:=by
 have T:s.TypeIs (.ref d) "dict" := ⟨o,B,G.1⟩;refine wpAny_pyIter_slot T F.slot_dict_iter (Yco F.slot_dict_iter T F.entry_dict_iter ?_ (F.args_dict_iter_1 _))
 wp_walk using wpAny_notOrdered_dict T,wpAny_dictEntries B D,wpAny_dictEpoch B D
 exact ⟨_,rfl, "dict_keyiterator", _,⟨_,Ybh _ rfl,rfl⟩,F.slot_dict_keyiterator_next.lookup,q _ ⟨_,Ybh _ rfl,rfl,rfl⟩ λc o e=>Yao _ e⟩
end
section
variable {X:Cx}
theorem Inv.freezeT {qQ:List (Addr×Obj)}{σ:St}{H:Hp}{s:Shared}{a:Addr}{kvs:List (List Key×V)}(I:Inv X qQ σ H s)(e:H a=some (.dT kvs)):∃o,Inv X qQ σ (upd H a (.frz o (.dT kvs))) s:=by
 have B:ObjOk X.prog X.w H s.heap a (.dT kvs):=I.hok a _ e;obtain ⟨z,D,xs,r,o,es,ep,h1,h2⟩:=id B;have F:∀b ys,H b=some (.tup ys)->upd H a (.frz o (.dT kvs)) b=some (.tup ys):=λb ys q=>by rw [Gr (J4 q e (λz=>by cases z))];exact q
 refine ⟨o,I.write (x:=a) (e:=a) (o:=.frz o (.dT kvs)) (h':=s.heap) (t':=s.toks) (by rw [e];exact True.intro) (.inl rfl) (λb u _ q=>q) ⟨_,h1⟩ ⟨h1,z,D,xs,Paired.mapP r λp q y=>⟨y.1,F _ _ y.2.1,y.2.2⟩,o,es,ep,h1,h2⟩⟩
def ItT (a:Addr)(o:Obj)(kvs:List (List Key×V)):It:=
 ⟨λi H=>H a=some (.frz o (.dT kvs))/\i<kvs.length,λi H x H'=>H'=H/\∃k v b,kvs[i]?=some (k,v)/\x=.ref b/\H b=some (.tup (k.map kV)),λi H=>H a=some (.frz o (.dT kvs))/\kvs.length<=i⟩
theorem YC {α β:Type}{F:α->β->Prop}{l:List α}{m:List β}(h:Paired F l m):∀{i:Nat}{x:α},l[i]?=some x->∃y,m[i]?=some y/\F x y:=by
 induction h with
 | nil=>intro i x e;simp at e
 | @cons p q _ _ r _ ih=>
  intro i x e;cases i with
  | zero=>simp at e;subst e;exact ⟨q,by simp,r⟩
  | succ i=>simp at e;obtain ⟨y,h1,h2⟩:=ih e;exact ⟨y,by simpa using h1,h2⟩
theorem UJ {qQ:List (Addr×Obj)}{σ:St}{H:Hp}{s:Shared}{a:Addr}{o:Obj}{kvs:List (List Key×V)}(I:Inv X qQ σ H s)(e:H a=some (.frz o (.dT kvs))) :
  (a == sysModules)=false/\s.heap.get? a=some o/\o.ExactDict/\∃es ep,o.data=.dict es ep/\es.size=kvs.length/\∀(i:Nat) k v,kvs[i]?=some (k,v)->∃(B:DictEntry)(b:Addr),es[i]?=some B/\B.key=.ref b/\H b=some (.tup (k.map kV)):=by
 obtain ⟨h1,z,F,xs,r,o',es,ep,h2,G,L,D,Y⟩:=(show ObjOk X.prog X.w H s.heap a (.frz o (.dT kvs)) from I.hok a _ e);rw [h1] at h2;cases h2;refine ⟨F,h1,G,es,ep,L,?_,λi k v hi=>?_⟩
 ·rw [<-Ybj,D,Yaa,Ycv r]
 ·obtain ⟨⟨N,b,u⟩,O,Z,U,_⟩:=YC r hi;refine ⟨entryOfKey (tupleKind (GM X.prog X.w)) (N,b,u),b,?_,rfl,U⟩;rw [<-Ybz,D,Yau,O]
  rfl
theorem Zn {P:Program}{w:World}{K:W.Frag}{tg:Expr}(a it:Addr)(o:Obj)(kvs:List (List Key×V))(es:Array DictEntry)(ep:Nat)(ho:o.data=.dict es ep)(hsz:es.size=kvs.length) :
  ZbP P w K tg (ItT a o kvs) [it] it (λi h=>h.IsKeyIter it a i es.size ep) where
 mem:=by simp
 obj:=λi h st b hb=>by
  have e:b=it:=by simpa using hb
  subst e;obtain ⟨o,e,c,d⟩:=st;exact ⟨o,e,λv z=>by rw [d] at z;cases z⟩
 keep:=λi h h' st k=>by
  obtain ⟨o,e,c,d⟩:=st;exact ⟨o,k it (by simp) o e,c,d⟩
 item:=by
  intro X hP hw hK hc i qQ s σ H E I hf st hg;subst hP hw hK;obtain ⟨hq,hi⟩:=hg;obtain ⟨hd,h1,h2,es',ep',h3,h4,h5⟩:=UJ I hq;rw [ho] at h3;cases h3;obtain ⟨⟨k,v⟩,hx⟩:∃x,kvs[i]?=some x:=⟨_,Yah hi⟩;obtain ⟨de,b,hde,hkey,hb⟩:=h5 i k v hx;obtain ⟨f0,f1,f2,f3,f4,f5⟩:=hf it (by simp);refine W4 st h1 ho hde λh' st' sb=>?_;have I1:Inv X qQ σ H { s with heap:=h' }:=I.turned (t':=s.toks) (λb o hb e=>(sb.2 b hb).trans e) f0 f1 f3 f4 f5;obtain ⟨o',e,c,d⟩:=id st';exact ⟨de.key,rfl,ZM (s:={ s with heap:=h' }) e c d (by decide) ⟨.ref b,H,I1,hkey,⟨rfl,k,v,b,hx,rfl,hb⟩,st',λb hb=>(hf b hb).1⟩⟩
 done:=by
  intro X hP hw hK hc i qQ s σ H E I hf st hg;subst hP hw hK;obtain ⟨hq,hi⟩:=hg;obtain ⟨hd,h1,h2,es',ep',h3,h4,h5⟩:=UJ I hq;rw [ho] at h3;cases h3;obtain ⟨f0,f1,f2,f3,f4,f5⟩:=hf it (by simp);exact W5 (I.ok.hd hc) st h1 ho (Array.getElem?_eq_none (by lia)) λh' eb=>⟨rfl,I.turned (t':=s.toks) (λb o hb e=>eb b o hb e) f0 f1 f3 f4 f5⟩
 self:=λ_ _ _ _ _ st h=>wpAny_pyIter_keyiter st h
def Zf0 (tl:TE):TI:=λσ H R=>tl σ H λx H1=>∃a kvs,x=.ref a/\((H1 a=some (.dT kvs)/\∀o,R (ItT a o kvs) (upd H1 a (.frz o (.dT kvs))))\/∃o,H1 a=some (.frz o (.dT kvs))/\R (ItT a o kvs) H1)
theorem Zcq {tg l:Expr}{tl:TE}(G:PE X l tl):PI X tg l (Zf0 tl):=by
 intro qQ s σ H R I h;refine thn (G qQ s σ H _ I h) λv s1 ⟨x,H1,D,r1,q1⟩=>?_;obtain ⟨a,kvs,e,q⟩:=q1;subst e;cases r1;obtain ⟨o,H2,B,L,N⟩:∃o H2,Inv X qQ σ H2 s1/\H2 a=some (.frz o (.dT kvs))/\R (ItT a o kvs) H2:=by
  rcases q with ⟨e,q⟩ | ⟨o,e,q⟩
  ·obtain ⟨o,B⟩:=D.freezeT e;exact ⟨o,_,B,Gb,q o⟩
  ·exact ⟨o,H1,D,e,q⟩
 obtain ⟨O,h1,h2,es,ep,F,U,h5⟩:=UJ B L;refine ZaN O h1 h2 F λh' st Y=>?_;refine ⟨s1.heap.objs.size,[s1.heap.objs.size],_,_,H2,rfl,B.kept (t':=s1.toks) Y,Zn a _ o kvs es ep F U,st,λb Z=>?_,N⟩;have e:b=s1.heap.objs.size:=by simpa using Z
 subst e;exact B.fpOk (Yac _) (B.hok.fresh (Yac _))
theorem Zo {a D:Addr}{o:Obj}{kvs:List (List Key×V)}{g:TG}{tc:TT}{te:TE}{G:St}{R:Hp->Prop}{H1:Hp}(B:Nat->List V->Hp->Prop)(h0:B 0 [] (upd H1 D (.lst [])))(U:∀i ys H,i<=kvs.length->B i ys H->H a=some (.frz o (.dT kvs)))(Y:∀i k v b ys H,kvs[i]?=some (k,v)->H b=some (.tup (k.map kV))->B i ys H->g (.ref b) G H λL Z=>Od G L/\tc L Z λc N=>if c=true then te L N λy O=>O D=some (.lst ys)/\ys.length<sizeLine/\B (i+1) (ys++[y]) (upd O D (.lst (ys++[y]))) else B (i+1) ys N)(hd:∀ys H,B kvs.length ys H->R H):∃W:Nat->Nat->List V->Hp->Prop,(∃m,W 0 m [] (upd H1 D (.lst [])))/\Js (ItT a o kvs) D g tc te G W R:=by
 refine ⟨λi m ys H=>m=kvs.length-i/\i<=kvs.length/\B i ys H,⟨_,rfl,Ybc _,h0⟩,?_⟩;rintro i m ys H ⟨rfl,hi,p⟩;have q:=U i ys H hi p;by_cases F:i<kvs.length
 ·refine .inr ⟨⟨q,F⟩,B (i+1),λaa H' p'=>⟨kvs.length-(i+1),by lia,rfl,F,p'⟩,λx H' y=>?_⟩;obtain ⟨e,k,v,b,ek,rfl,eb⟩:=y;subst e;exact Y i k v b ys _ ek eb p
 ·have e:i=kvs.length:=by lia
  subst e;exact .inl ⟨⟨q,Yac _⟩,hd ys H p⟩
end
def Zf1 (S:Addr)(h:Heap)(D d:Addr)(i n ep:Nat):Prop:=∃(B:Value)(f1:Bool)(ok ov:Value),h.get? D=some { cls:=.type "dict_itemiterator", data:=.fields #[B,.bool f1,.ref d,.int i 0,.int n 0,.int ep 0,ok,ov] }/\(B=.none\/∃(a:Addr)(oa:Obj),B=rawInt a/\h.get? a=some oa/\a≠D/\a≠S)
section
variable {prog:Program}{w:World}{A:Around}{E:Value->Shared->Prop}{s:Shared}
theorem Zp {S D d:Addr}{i ep:Nat}{es:Array DictEntry}{o:Obj}{Q:Value->Shared->Prop}(L:A.handled=none)(st:Zf1 S s.heap D d i es.size ep)(F:s.heap.get? d=some o)(G:o.data=.dict es ep)(hi:es[i]?=none)(q:∀h' e,(∀c o,c≠D->s.heap.get? c=some o->h'.get? c=some o)->(∃o,h'.get? e=some o/\o.cls=.type "StopIteration")->E (.ref e) { s with heap:=h' }):wpAny (model prog w) A (Builtin.«dict_itemiterator.__next__» ⟨[.ref D],[]⟩) (λfin s'=>∃v,fin=.done (.ret v)/\Q v s') E s:=by
 obtain ⟨N,O,ok,U,B,Y⟩:=st;have T:s.TypeIs (.ref D) "dict_itemiterator" := ⟨_,B,rfl⟩
 wp_walk using wpAny_fieldsOf B rfl,wpAny_dictEntries F G,wpAny_dictEpoch F G,wpAny_typeNameOfWhole_itemiter T,wpAny_isOneOf_itemiter T
 rw [if_neg (by lia),Ybu,hi]
 wp_walk using wpAny_typeNameOfWhole_itemiter T,wpAny_raiseNew_none L
 exact q _ _ (λc o n e=>Yao _ (Yao _ ((Heap.get?_update_ne _ _ _ _ n).trans e))) ⟨_,Ybh _ rfl,rfl⟩
theorem Zq {S B d:Addr}{i ep:Nat}{es:Array DictEntry}{o:Obj}{Q:Option Value->Shared->Prop}(D:A.in1.handled=none)(st:Zf1 S s.heap B d i es.size ep)(G:s.heap.get? d=some o)(L:o.data=.dict es ep)(hi:es[i]?=none)(q:∀h',(∀c o,c≠B->s.heap.get? c=some o->h'.get? c=some o)->Q none { s with heap:=h' }):wpAny (model prog w) A (pyNext (.ref B)) Q E s:=by
 have T:s.TypeIs (.ref B) "dict_itemiterator" := let ⟨_,_,_,_,e,_⟩:=st;⟨_,e,rfl⟩;refine Yab (Yeh (Yer T F.slot_dict_itemiterator_next (Yco F.slot_dict_itemiterator_next T F.entry_dict_itemiterator_next (Zp D st G L hi ?_) (F.args_dict_itemiterator_next_1 _))));rintro h' e k ⟨o',N,O⟩;exact Yab (wpAny_isInstance ⟨o',N,O⟩ isSubtype_stop (Yag (q h' k)))
theorem Zr {d:Addr}{ep:Nat}{es:Array DictEntry}{o:Obj}{Q:Value->Shared->Prop}(G:(d == sysModules)=false)(B:s.heap.get? d=some o)(D:o.ExactDict)(L:o.data=.dict es ep)(q:Q (.ref s.heap.objs.size) { s with heap:=s.heap.push { cls:=.type "dict_items", data:=.fields #[.ref d] } }):wpAny (model prog w) A (call (.builtin "dict.items") [.ref d]) Q E s:=by
 have T:s.TypeIs (.ref d) "dict" := ⟨o,B,D.1⟩;refine Yco F.slot_dict_items T F.entry_dict_items ?_ (F.args_dict_items_1 _)
 wp_walk using wpAny_notOrdered_dict T
 exact ⟨_,rfl,q⟩
end
end L2
namespace L2
open PySem PySem.Spec PyProof.Rows Classical
section
variable {prog:Program}{w:World}{A:Around}{E:Value->Shared->Prop}{s:Shared}
theorem ZaO {β:Type}{f:Value×Value->β->Sem (ForInStep β)}{c0:β}{cR:Bool->β}{Q:β->Shared->Prop}(feq:∀(x:Int)(t u:Tok){Q:ForInStep β->Shared->Prop},Q (.yield c0) s->wpAny (model prog w) A (f (.int x t,.int x u) c0) Q E s)(fne:∀(x y:Int)(t u:Tok){Q:ForInStep β->Shared->Prop},x≠y->Q (.done (cR (decide (x<y)))) s->wpAny (model prog w) A (f (.int x t,.int y u) c0) Q E s) :
  ∀{xs ys:List Value}{ns ms:List Int},IntsAre xs ns->IntsAre ys ms->Q (cR (JW ns ms)) s->(decide (ns.length<ms.length)=JW ns ms->Q c0 s)->wpAny (model prog w) A (forIn (xs.zip ys) c0 f) Q E s
 | _,_,_,_,.nil,hy,_,q=>by
  rw [List.zip_nil_left,List.forIn_nil];refine Yag (q ?_);cases hy <;> simp [JW]
 | _,_,_,_,.cons n t hx,.nil,_,q=>by
  rw [List.zip_nil_right,List.forIn_nil];exact Yag (q (by simp [JW]))
 | _,_,_,_,.cons n t hx,.cons m u hy,q1,q2=>by
  rw [List.zip_cons_cons,List.forIn_cons];by_cases e:n=m
  ·subst e;refine Yab (feq n t u ?_);dsimp only;unfold JW at q1 q2;rw [if_pos rfl] at q1 q2;exact ZaO feq fne hx hy q1 λz=>q2 (by rw [<-z];simp)
  ·refine Yab (fne n m t u e ?_);dsimp only;unfold JW at q1;rw [if_neg e] at q1;exact Yag q1
theorem Zcr {a b:Addr}{xs ys:Array Value}{ns ms:List Int}{P:PySem.Fin->Shared->Prop}(L:s.heap.IsTuple a xs)(N:s.heap.IsTuple b ys)(D:IntsAre xs.toList ns)(F:IntsAre ys.toList ms)(h:P (.done (.ret (.bool (JW ns ms)))) s) :
  wpAny (model prog w) A (Builtin.«tuple.__lt__» ⟨[.ref a,.ref b],[]⟩) P E s:=by
 obtain ⟨oa,O,ca,na,U⟩:=L;obtain ⟨Y,G,Z,nb,db⟩:=N;show wpAny _ _ (isInstance (.ref b) (.type "tuple") >>= _) _ _ s;refine Yab (wpAny_isInstance (T := "tuple") ⟨Y,G,Z⟩ isSubtype_tuple_tuple ?_);simp only [Bool.not_true,Ydo,Ycz];refine Yab (wpAny_tupleItemsOf O U (Yab (wpAny_tupleItemsOf G db (Yab ?_))));refine ZaO (cR:=λc=>(some (PySem.Fin.done (.ret (.bool c))),())) ?_ ?_ D F ?_ ?_
 ·intro x t u Q q;refine Yab (wpAny_eqBool_int ?_);rw [show (x == x)=true from Yei _];simp only [Bool.not_true,Ydo,Ycz];exact Yag q
 ·intro x y t u Q B q;refine Yab (wpAny_eqBool_int ?_);rw [show (x == y)=false by rw [Ydw];exact B];simp only [Bool.not_false,if_true];exact Yab (Ycq (Yab (lt_int (Yab (Yag (Yag q))))))
 ·exact Yag h
 ·intro z;refine Yag ?_;have e:Builtin.Tuple.tupleCompareSizes .Lt xs.size ys.size=.bool (JW ns ms):=by
   rw [<-z,<-Yz D,<-Yz F,Ybj,Ybj]
   rfl
  show P (.done (.ret (Builtin.Tuple.tupleCompareSizes .Lt xs.size ys.size))) s;rw [e];exact h
theorem Zf2 {a b:Addr}{xs ys:Array Value}{ns ms:List Int}{Q:Value->Shared->Prop}(B:s.heap.IsTuple a xs)(D:s.heap.IsTuple b ys)(L:IntsAre xs.toList ns)(N:IntsAre ys.toList ms)(O:A.units<cLine)(h:Q (.bool (JW ns ms)) s):wpAny (model prog w) A (richCompare .Lt (.ref a) (.ref b)) Q E s:=by
 have G:s.TypeIs (.ref a) "tuple" := B.elim λo z=>⟨o,z.1,z.2.1⟩;have U:s.TypeIs (.ref b) "tuple" := D.elim λo z=>⟨o,z.1,z.2.1⟩;exact wpAny_richCompare_same_room (op:=.Lt) G U F.slot_tuple_lt (Yco F.slot_tuple_lt G F.entry_tuple_lt (Zcr B D L N ⟨_,rfl,(λe=>nomatch e),h⟩) (F.args_tuple_lt_2 _ _)) O
end
end L2
namespace L2
open PySem PySem.Spec PyProof.Rows
theorem Zcs {a b c:List Int}(h1:JW b a=false)(h2:JW c b=false):JW c a=false:=by
 cases h:JW c a with
 | false=>rfl
 | true=>
  cases h3:JW a b with
  | true=>rw [XV h h3] at h2;cases h2
  | false=>
   rw [YA h3 h1] at h;rw [h] at h2;cases h2
theorem YD (f:Nat->List Int):∀k,argBest (λi j=>JW (f i) (f j)) k<=k/\∀j,j<=k->JW (f j) (f (argBest (λi j=>JW (f i) (f j)) k))=false
 | 0=>⟨Yac _,λj D=>by
  have:j=0:=by lia
  subst this;exact UI _⟩
 | k+1=>by
  obtain ⟨i1,i2⟩:=YD f k;have e:argBest (λi j=>JW (f i) (f j)) (k+1)=if JW (f (k+1)) (f (argBest (λi j=>JW (f i) (f j)) k))=true then k+1 else argBest (λi j=>JW (f i) (f j)) k:=rfl
  rw [e];generalize argBest (λi j=>JW (f i) (f j)) k=g at i1 i2;by_cases z:JW (f (k+1)) (f g)=true
  ·rw [if_pos z];refine ⟨Yac _,λj D=>?_⟩;by_cases B:j=k+1
   ·subst B;exact UI _
   ·refine Zcs ?_ (i2 j (by lia));cases h:JW (f g) (f (k+1)) with
    | false=>rfl
    | true=>have:=XV h z;rw [UI] at this;cases this
  ·rw [if_neg z];refine ⟨by lia,λj D=>?_⟩;by_cases B:j=k+1
   ·rw [B];exact Ydz.mpr z
   ·exact i2 j (by lia)
section
variable {X:Cx}
def Zdm (xs:List V)(rs:List (List Int))(t:Addr)(r:List Int):Prop:=(∃i:Nat,xs[i]?=some (.ref t)/\rs[i]?=some r)/\∀r'∈rs,JW r' r=false
def ZhG (K:W.Frag):List V->Hp->VK->Prop:=λvs H Q=>∃(p:Addr)(xs:List V)(rs:List (List Int)),vs=[.ref p]/\SqL K H p xs/\Tus H xs rs/\rs≠[]/\∀t r,Zdm xs rs t r->Q (.ref t) H
theorem ZaP {qQ:List (Addr×Obj)}{s:Shared}{σ:St}{H:Hp}{Q:VK}{p:Addr}{xs:List V}{rs:List (List Int)}{its:List Value}{kw:List (Str×Value)}(hc:X.calm=true)(hu:X.A.units+1<cLine)(I:Inv X qQ σ H s)(r:Vals xs its)(pl:PlainL s.heap p its.toArray)(pr:Tus H xs rs)(aa:rs≠[])(q:∀t r,Zdm xs rs t r->Q (.ref t) H){R:Result->Shared->Prop}(hR:∀v s',EP X qQ σ Q v s'->R (.ok (.ret v)) s'):∀c:Nat,
  codeAny (model X.prog X.w) X.A (.builtin "min.loop" ⟨[.ref s.heap.objs.size,.none,.ref (s.heap.objs.size+1)],kw⟩) R { s with heap:=(s.heap.push { cls:=.type "list_iterator", data:=.fields #[.ref p,.int 0 0] }).push { cls:=.type "list", dict:=none,data:=.seq #[] c,slots:=#[] } }:=by
 intro c;have hl:=r.length;have hx:=pr.len;have N:0<rs.length:=List.length_pos_iff.mpr aa;have hh:X.A.in1.handled=none:=I.ok.hd hc;obtain ⟨o,eo,_⟩:=id pl.isList;have O:p<s.heap.objs.size:=Yaj eo;have e1:(s.heap.push { cls:=.type "list_iterator", data:=.fields #[.ref p,.int 0 0] }).objs.size=s.heap.objs.size+1:=Ydb ..;have F:∀i v,its[i]?=some v->∃t,∃D:Array Value,v=.ref t/\xs[i]?=some (.ref t)/\rs[i]?=some (rs.getD i [])/\s.heap.IsTuple t D/\IntsAre D.toList (rs.getD i []):=λi v L=>by
  have hi:i<its.length:=(Ybf.mp L).1;have G:xs[i]?=some xs[i]:=Yah (by lia);obtain ⟨t,q',et,eh,Y⟩:=pr.get G;obtain ⟨u,gu,ru⟩:=r.get G;rw [gu] at L;cases L;rw [et] at ru;cases ru;have eg:rs.getD i []=q':=by rw [Yai,Y];rfl
  obtain ⟨U,r2,ab,_⟩:=I.tuple (SqT.of eh);exact ⟨t,U.toArray,rfl,by rw [G,et],by rw [eg];exact Y,ab,by rw [eg];exact Uf r2⟩
 have B:∀b o,s.heap.get? b=some o->((s.heap.push { cls:=.type "list_iterator", data:=.fields #[.ref p,.int 0 0] }).push { cls:=.type "list", dict:=none,data:=.seq #[] c,slots:=#[] }).get? b=some o:=λb o e=>Yao _ (Yao _ e);have W:=Walks.list (prog:=X.prog) (w:=X.w) hh s.heap.objs.size p (Yaq O) its.toArray;have ac:its.toArray.size=rs.length:=by rw [Ybd];lia
 refine VG (J:=λh=>∀t,∀D:Array Value,s.heap.IsTuple t D->h.IsTuple t D) W (λi j=>JW (rs.getD i []) (rs.getD j [])) ?cmp (s.heap.objs.size+1) ?hD ?kJ (by rw [ac];exact N) ?st ?j (by rw [<-e1];exact Ybh _ rfl) ?fin
 case cmp=>
  intro s' i j vi vj Q' E' Z hi hj hq;obtain ⟨a,u1,rfl,_,_,ha,ia⟩:=F i vi (by simpa using hi);obtain ⟨b,w1,rfl,_,_,hb,ib⟩:=F j vj (by simpa using hj);exact Zf2 (Z a u1 ha) (Z b w1 hb) ia ib (by rw [Around.in1_units];exact hu) hq
 case hD=>
  intro z;have:s.heap.objs.size+1=s.heap.objs.size\/s.heap.objs.size+1=p:=by simpa using z
  rcases this with e | e
  ·exact absurd e (Nat.succ_ne_self _)
  ·exact absurd O (by rw [<-e];exact Nat.not_lt.mpr (Nat.le_succ _))
 case kJ=>
  intro h h' Z kp t D hT;obtain ⟨o',g',rest⟩:=Z t D hT;obtain ⟨o0,g0,_⟩:=hT;have ht:t<s.heap.objs.size:=Yaj g0;refine ⟨o',kp t o' (λz=>?_) (Yaq (Ydt ht)) g',rest⟩;have:t=s.heap.objs.size:=by simpa using z
  exact absurd ht (by rw [this];exact Ybt _)
 case st=>
  refine ⟨⟨_,Yao _ (Ybh _ rfl),rfl,rfl⟩,pl.isList.at λo e=>B _ _ e⟩
 case j=>
  intro t D hT;obtain ⟨o0,g0,rest⟩:=hT;exact ⟨o0,B _ _ g0,rest⟩
 case fin=>
  intro v h' tk L hk;obtain ⟨b1,b2⟩:=YD (λi=>rs.getD i []) (its.toArray.size-1);generalize argBest (λi j=>JW (rs.getD i []) (rs.getD j [])) (its.toArray.size-1)=g at L b1 b2;obtain ⟨t,u1,rfl,ex,Y,_⟩:=F g v (by simpa using L);refine hR _ _ ⟨.ref t,H,I.kept λb o e'=>hk b o ?_ ?_ (B b o e'),rfl,q t _ ⟨⟨g,ex,Y⟩,λr' ad=>?_⟩⟩
  ·intro z;have:b=s.heap.objs.size:=by simpa using z
   exact absurd (Yaj e') (by rw [this];exact Ybt _)
  ·exact Yaq (Ydt (Yaj e'))
  ·obtain ⟨j,hj,rfl⟩:=Yby ad;have:=b2 j (by lia);rw [Yai,Yah hj] at this;exact this
theorem Zf3 (K:W.Frag)(D:X.calm=true)(G:X.A.units+1<cLine)(h:X.K=K:=by rfl):JE X (.builtin "min") (ZhG K):=by
 subst h;intro qQ s σ H xs us Q I L h;obtain ⟨p,xs,rs,rfl,N,O,B,q⟩:=h;obtain ⟨u,rfl,U⟩:=L.one;cases U;obtain ⟨Y,r,pl,hz⟩:=I.list N;have nm:(toString "min" ++ toString ".loop" : String) = "min.loop" := by decide
 refine call_function_tree F.kind_min F.plain_min F.entry_min (F.args_min1 _) ?_;refine Yab (wpAny_of_eq (show Builtin.Builtins.bindParams "min" ["key", "default"] 0 ⟨[],[]⟩=pure [none,none] from rfl) (Yab (Yag (Yab (wpAny_pyIter_list pl.isList (Yab (wpAny_newObj_type ?_)))))));rw [nm];have Z:(s.heap.push { cls:=.type "list_iterator", data:=.fields #[.ref p,.int 0 0] }).objs.size=s.heap.objs.size+1:=Ydb ..;refine Yag ⟨Ydh Ydu _,?_⟩;show codeAny _ _ (.builtin "min.loop" ⟨[.ref s.heap.objs.size,.none,.ref (s.heap.push { cls:=.type "list_iterator", data:=.fields #[.ref p,.int 0 0] }).objs.size],[]⟩) _ _;rw [Z];exact ZaP D G I r pl O B q (λv s' h=>h) 0
end
end L2
namespace L2
open PySem PySem.Spec PyProof.Rows Classical
section
variable {X:Cx}(K:W.Frag)
def IVw (v d:Addr):HO:=.ext λh=>h.IsItemsView v d
abbrev kvI (x:List Int×Int):List Key×V:=(x.1.map Sum.inl,.int x.2)
theorem OE (ns:List Int):(ns.map (Sum.inl:Int->Key)).map kV=ns.map V.int:=by rw [Yca];rfl
end
end L2
namespace L2
open PySem PySem.Spec PyProof.Rows
variable {X:Cx}
theorem Zf4:JE X (.builtin "len") (λxs H Q=>∃x:Str,xs=[.str x]/\x.length<=16777216/\Q (.int x.length) H):=by
 intro qQ s σ H xs us Q I B h;obtain ⟨x,rfl,F,q⟩:=h;obtain ⟨u,rfl,D⟩:=B.one;obtain ⟨t,rfl⟩:=D;refine P.len_str (by lia) ?_;exact ⟨.int _,H,I.tok _,⟨_,rfl⟩,q⟩
def ZhH (ta tb:TE):TE:=λσ H Q=>ta σ H λx H1=>tb σ H1 λy H2=>∃a b,x=.str a/\y=.str b/\a.length+b.length<=16777216/\Q (.str (a++b)) H2
theorem Zen {a b:Expr}{ta tb:TE}{pos:Pos}(B:PE X a ta)(D:PE X b tb):PE X (.BinOp a .Add b pos) (ZhH ta tb):=by
 intro qQ s σ H Q I h;refine wpAny_BinOp (bin B D I h λv u U x y H2 F G L q=>?_);obtain ⟨i,j,rfl,rfl,N,q⟩:=q;obtain ⟨t,rfl⟩:=G;obtain ⟨O,rfl⟩:=L;exact SBL.add (hsz:=N) λO k _=>⟨.str _,H2,F.tok _,⟨_,rfl⟩,q⟩
theorem W6:∀{ys:List Str}{its:List Value},Vals (ys.map V.str) its->∃l:List (Str×Tok),strValues l=its/\l.map (·.1)=ys
 | [],_,h=>by cases h;exact ⟨[],rfl,rfl⟩
 | y::ys,_,h=>by
  cases h with
  | cons r h=>
   obtain ⟨t,rfl⟩:=r;obtain ⟨l,rfl,e⟩:=W6 h;exact ⟨(y,t)::l,rfl,by rw [Yat,e]⟩
theorem Zeo (K:W.Frag)(B:X.K=K:=by rfl):MtR X "str.join" (λx xs H Q=>∃a l ys,x=.str a/\xs=[.ref l]/\SqL K H l (ys.map V.str)/\JoinOk a ys=true/\Q (.str (Txt.join a ys)) H):=by
 subst B;intro qQ s σ H x xs v us Q I D F h;obtain ⟨a,l,ys,rfl,rfl,G,L,q⟩:=h;obtain ⟨u,rfl,N⟩:=F.one;cases N;obtain ⟨O,rfl⟩:=D;obtain ⟨U,Y,pl,_⟩:=I.list G;obtain ⟨Z,rfl,e⟩:=W6 Y;exact SC.join pl.isList e L λO k=>⟨.str _,H,I.tok _,⟨_,rfl⟩,q⟩
end L2
namespace L2
open PySem PySem.Spec PyProof.Rows Classical
theorem ZaQ {a b:Str}(h:a.cps.toList=b.cps.toList):a=b:=by
 cases a;cases b
 congr 1
 exact Array.toList_inj.mp h
end L2
namespace L2
open PySem PySem.Spec PyProof.Rows
def mkS (l:List Nat):Str:=⟨l.toArray⟩
def Zf5:TE:=λ_ H Q=>∀p,H p=none->∀o,Q (.ref p) (upd H p (.frz o (.dK [])))
theorem Zct (c:Nat)(n:Nat):(List.replicate n (#[c]:Array Nat)).foldl (·++·) #[]=(List.replicate n c).toArray:=by
 have key:∀(n:Nat)(a:Array Nat),((List.replicate n (#[c]:Array Nat)).foldl (·++·) a).toList=a.toList++List.replicate n c:=by
  intro n
  induction n with
  | zero=>intro a;simp
  | succ n ih=>intro a;rw [Yda,List.foldl_cons,ih];simp [Yda]
 apply Array.toList_inj.mp;rw [key];simp
section
variable {X:Cx}
theorem Zcu {pos:Pos}:PE X (.Dict [] [] pos) Zf5:=λqQ s σ H Q I h=>
 wpAny_Dict_empty (by
  have D:=I.laid (a:=s.heap.objs.size) (o:=.dK []) (t':=s.toks) (λ_ _ q=>Yao _ q) (Yac _) (Yu s.heap I.big);obtain ⟨o,B⟩:=D.freeze Gb;rw [UR] at B;exact ⟨.ref s.heap.objs.size,_,B,rfl,h _ (I.hok.fresh (Yac _)) o⟩)
def ZhI:V->V->Hp->VK->Prop:=λx y H Q=>∃(c n:Nat),x=.str (mkS [c])/\y=.int (n:Int)/\1<=n/\n<=1000/\Q (.str (mkS (List.replicate n c))) H
theorem Zep:OpR X (binaryOp .Mult) ZhI:=by
 intro qQ s σ H x y v u Q I D F h;obtain ⟨c,n,rfl,rfl,h1,h2,q⟩:=h;obtain ⟨t,rfl⟩:=D;obtain ⟨L,rfl⟩:=F;have G:¬ ((n:Int)<1):=by lia
 have B:(mkS [c]).length=1:=rfl;refine P.mul_str ?_ (λ_ _=>?_) (λ_ _=>?_) ?_
 ·rw [Yak (show ¬ ((n:Int) < -(2 ^ 63:Int)) by lia),Yak (show ¬ ((n:Int)>=2 ^ 63) by lia)]
  rfl
 ·rw [B];intro z;have:(1:Int)<=(2 ^ 63-1) / (n:Int):=Int.le_ediv_of_mul_le (by lia) (by lia)
  lia
 ·rw [B,Ybu];unfold Builtin.Str.tooLong;exact Yak (by have:=Yay;lia)
 ·rw [if_neg G];split
  ·rename_i z;rw [B] at z;have:n=1:=(by have z:(n:Int)=1:=(by simpa using z);lia);subst this;exact ⟨.str _,H,I,⟨_,rfl⟩,q⟩
  ·rw [Ybu,show (mkS [c]).cps=#[c] from rfl,Zct];refine ⟨?_,.str _,H,I.tok _,⟨_,rfl⟩,q⟩;have:=Yay;show (List.replicate n c).toArray.size<=_;rw [Ybd,Ydy]
   lia
theorem VJ:∀(l:List Nat)(acc:Array Nat),((l.map λc=>mkS [c]).foldl (λacc p=>acc++(mkS []).cps++p.cps) acc).toList=acc.toList++l
 | [],acc=>by simp
 | c::l,acc=>by
  rw [Yat,List.foldl_cons,VJ l];simp only [Ycj];show acc.toList++[]++[c]++_=_;simp
theorem Zs (l:List Nat):Txt.join (mkS []) (l.map λc=>mkS [c])=mkS l:=by
 have e:(Txt.join (mkS []) (l.map λc=>mkS [c])).cps=(mkS l).cps:=by
  apply Array.toList_inj.mp;cases l with
  | nil=>rfl
  | cons c l=>exact VJ l #[c]
 generalize Txt.join (mkS []) (l.map λc=>mkS [c])=x at e;cases x;cases e
 rfl
theorem Zcv (l:List Nat)(h:l.length<=1000):JoinOk (mkS []) (l.map λc=>mkS [c])=true:=by
 unfold PySem.JoinOk;have key:∀(l:List Nat)(a:Nat),(l.map λc=>mkS [c]).foldl (λa s=>a+s.length+(mkS []).length) a<=a+l.length:=by
  intro l
  induction l with
  | nil=>intro a;exact Yac _
  | cons p l ih=>
   intro a;rw [Yat,List.foldl_cons];refine Ycc (ih _) ?_;have h1:(mkS [p]).length=1:=rfl;have h2:(mkS []).length=0:=rfl;rw [Ybi]
   lia
 have B:=key l 0;rw [List.foldl_toArray'] <;> try rfl
 simp only [Bool.not_eq_true'];unfold Builtin.Str.tooLong;apply Yak;rw [Yay]
 lia
theorem ZaR {e:Expr}{t u:TT}(h1:PT X e t)(h2:PT X e u):PT X e (λσ H Q=>t σ H Q\/u σ H Q):=by
 intro qQ s σ H Q I h;rcases h with h | h
 ·exact h1 qQ s σ H Q I h
 ·exact h2 qQ s σ H Q I h
theorem ZaS {g l:Expr}{t u:TI}(h1:PI X g l t)(h2:PI X g l u):PI X g l (λσ H R=>t σ H R\/u σ H R):=by
 intro qQ s σ H R I h;rcases h with h | h
 ·exact h1 qQ s σ H R I h
 ·exact h2 qQ s σ H R I h
end
variable {X:Cx}
theorem Wa (z:Str)(lo hi:Option Int):(StrLaws.sliceText z lo hi).length<=z.length/\∀c∈(StrLaws.sliceText z lo hi).cps.toList,c∈z.cps.toList:=by
 refine ⟨PyProof.Txt.length_slice_le z lo hi,?_⟩;unfold StrLaws.sliceText;split
 ·exact λc h=>h
 ·intro c h;have h:c∈List.filterMap (λi=>z.cps[i]?) (Builtin.Str.strSliceIndices lo hi 1 z.length):=h;obtain ⟨i,_,e⟩:=Ydx.mp h;obtain ⟨h1,h2⟩:=Array.getElem?_eq_some_iff.mp e;rw [<-h2];simp
theorem ZiB:SlR X (λx lo hi H Q=>∃z:Str,x=.str z/\z.length<=sizeLine/\Q (.str (StrLaws.sliceText z lo hi)) H):=by
 intro qQ s σ H x v F G lo hi L Q I N O pl U h;obtain ⟨z,rfl,Y,q⟩:=h;obtain ⟨t,rfl⟩:=N;refine ⟨"str", _,PyProof.Rows.slot_str_getitem.lookup,typeIs_str _ _ _,?_⟩;have key:∀(l u:Option (Int×Tok)),F=partValue l->G=partValue u->lo=l.map (·.1)->hi=u.map (·.1)->wpAny (model X.prog X.w) X.A (getItem (.str z t) (.ref L)) (EP X qQ σ Q) X.xe s:=by
  intro l u Z e2 e3 e4;subst Z e2 e3 e4;refine wpAny_getItem_str_slice (l:=l) (u:=u) (st:=none) O rfl ?_;have fin:∀(y:Str)(D:Tok)(k:Nat),y=StrLaws.sliceText z (l.map (·.1)) (u.map (·.1))->EP X qQ σ Q (.str y D) { s with toks:=k }:=λy D k e=>⟨.str y,H,I.tok _,⟨_,rfl⟩,e▸q⟩;unfold sliceMade;split
  ·rename_i B;rw [Made.post.eq_1];exact fin z t s.toks (if_pos B).symm
  ·rename_i B;have e:(⟨(List.filterMap (λi=>z.cps[i]?) (slicePicked z l u none)).toArray⟩:Str)=StrLaws.sliceText z (l.map (·.1)) (u.map (·.1)):=(if_neg B).symm;rw [Made.post.eq_3];exact ⟨by rw [e];exact Ycc (Wa z _ _).1 Y,fin _ _ _ e⟩
 cases pl <;> cases U
 ·exact key none none rfl rfl rfl rfl
 ·exact key none (some (_,_)) rfl rfl rfl rfl
 ·exact key (some (_,_)) none rfl rfl rfl rfl
 ·exact key (some (_,_)) (some (_,_)) rfl rfl rfl rfl
end L2
namespace L2
open PySem PySem.Spec PyProof.Rows
theorem Zdn (c:Nat):∀l:List Nat,cnt c l=(l.count c:Int)
 | []=>rfl
 | n::l=>by
  rw [cnt_cons,Zdn c l,List.count_cons];by_cases h:n=c
  ·rw [if_pos h,if_pos (by rw [h];exact Yei c)]
   lia
  ·rw [if_neg h,if_neg (λz=>h (eq_of_beq z))]
   lia
variable {X:Cx}
theorem ZaT:MtR X "str.count" (λx xs H Q=>∃(a:List Nat)(c:Nat),x=.str (mkS a)/\xs=[.str (mkS [c])]/\Q (.int (a.count c:Nat)) H):=by
 intro qQ s σ H x xs v us Q I B D h;obtain ⟨a,c,rfl,rfl,q⟩:=h;obtain ⟨u,rfl,F⟩:=D.one;obtain ⟨t,rfl⟩:=F;obtain ⟨G,rfl⟩:=B;have e:Txt.count (mkS a) (mkS [c])=((a.count c:Nat):Int):=(count_cnt (mkS a) c).trans (Zdn c a);exact SC.count (by rw [e];exact ⟨.int _,H,I.tok _,⟨_,rfl⟩,q⟩)
end L2
namespace L2
open PySem PySem.Spec PyProof.Rows
section
variable {prog:Program}{w:World}{A:Around}{E:Value->Shared->Prop}{s:Shared}{d:Addr}{o:Obj}{es:Array DictEntry}{ep:Nat}
theorem W9 (D:(d == sysModules)=false):MeetsIn prog w (Builtin.«dict.__len__» ⟨[.ref d],[]⟩) (λ_ R s=>∃o es ep,s.heap.get? d=some o/\o.data=.dict es ep/\R (.ok (.ret (.int es.size s.toks))) { s with toks:=s.toks+1 }):=
 .of_wp λA R s ⟨o,es,ep,F,B,h⟩=>by
  show wpAny _ _ (dictSize d >>= _) _ _ s;unfold dictSize;refine Yab (Yab (wpAny_dictEntries F B (Yag ?_)));show wpAny _ _ (Builtin.Dict.pendingCount d >>= _) _ _ s;refine Yab (wpAny_pendingCount_other D ?_);refine wpAny_ret_mkInt ?_;rw [Nat.add_zero];exact h
theorem Xa {Q:Value->Shared->Prop}(N:(d == sysModules)=false)(D:s.heap.get? d=some o)(O:o.ExactDict)(B:o.data=.dict es ep)(G:(es.size:Int)<2 ^ 63)(h:Q (.int es.size (s.toks+1)) { s with toks:=s.toks+1+1 }):wpAny (model prog w) A (call (.builtin "len") [.ref d]) Q E s:=by
 have L:s.TypeIs (.ref d) "dict" := ⟨o,D,O.1⟩;refine Calls.call_function_entry kind_len plain_len entry_len (args_len1 _) ?_;unfold Builtin.«len»;refine Yab (m:=oneArg "len" _) (Yag ?_);refine Yab (m:=callSpecial? (.ref d) (Str.ofString "__len__")) (Yer (name:=Str.ofString "__len__") L F.slot_dict_len
  (call_meetsIn F.slot_dict_len L F.entry_dict_len (F.args_dict_len_1 _) (W9 N) ⟨o,es,ep,D,B,?_⟩))
 show wpAny _ _ _ _ _ { s with toks:=s.toks+1 };refine Yab (Ycw (Yag ?_));refine Yab (wpAny_letGo ?_);show wpAny _ _ (if ((es.size:Nat):Int)<0 then _ else _) _ _ _;rw [if_neg (by lia)];show wpAny _ _ (if ((es.size:Nat):Int)>=2 ^ 63 then _ else _) _ _ _;rw [if_neg (by lia)];exact Yab (wpAny_mkInt (Yag ⟨_,rfl,h⟩))
end
section
variable {prog:Program}{w:World}{A:Around}{E:Value->Shared->Prop}{s:Shared}
theorem Zcw {F d:Addr}{i ep:Nat}{es:Array DictEntry}{o:Obj}{e:DictEntry}{ok U:Value}{Q:Value->Shared->Prop}(G:IsItemIter s.heap F d i es.size ep ok U)(ho:s.heap.get? d=some o)(hd:o.data=.dict es ep)(hi:es[i]?=some e)(q:∀h' Y Z,IsItemIterOut h' F d (i+1) es.size ep Y Z s.heap.objs.size->h'.get? s.heap.objs.size=some { cls:=.type "tuple", data:=.seq #[e.key,e.val] }->h'.objs.size=s.heap.objs.size+1->(∀b o,b≠F->s.heap.get? b=some o->h'.get? b=some o)->Q (.ref s.heap.objs.size) { s with heap:=h' }) :
  wpAny (model prog w) A (Builtin.«dict_itemiterator.__next__» ⟨[.ref F],[]⟩) (λfin s'=>∃v,fin=.done (.ret v)/\Q v s') E s:=by
 have T:s.TypeIs (.ref F) "dict_itemiterator" := ⟨_,G,rfl⟩
 wp_walk using wpAny_fieldsOf G rfl,wpAny_dictEntries ho hd,wpAny_dictEpoch ho hd,wpAny_typeNameOfWhole_itemiter T,wpAny_isOneOf_itemiter T
 rw [if_neg (by lia),Ybu,hi]
 wp_walk using wpAny_typeNameOfWhole_itemiter T,wpAny_isOneOf_itemiter T,wpAny_setField G rfl
 case hi=>exact (by decide:(2:Nat)+1<8)
 case h=>
  have B1:Heap.SameBut F s.heap (s.heap.update F (Obj.mapFields (·.setIfInBounds 3 (rawInt ((i:Int)+1))))):=Ydp ..;have L:(s.heap.update F (Obj.mapFields (·.setIfInBounds 3 (rawInt ((i:Int)+1))))).get? F=some { cls:=.type "dict_itemiterator", data:=.fields #[.none,.bool false,.ref d,.int ((i+1:Nat):Int) 0,.int es.size 0,.int ep 0,ok,U] }:=Yck _ G rfl;show wpAny _ _ _ _ _ { s with heap:=s.heap.update F (Obj.mapFields (·.setIfInBounds 3 (rawInt ((i:Int)+1)))) };generalize s.heap.update F (Obj.mapFields (·.setIfInBounds 3 (rawInt ((i:Int)+1))))=h1 at B1 L ⊢;have T1:Shared.TypeIs { s with heap:=h1 } (.ref F) "dict_itemiterator" := ⟨_,L,rfl⟩
  wp_walk using wpAny_isOneOf_itemiter T1
  have hz:h1.objs.size=s.heap.objs.size:=B1.1;have N:(h1.push { cls:=.type "tuple", data:=.seq #[e.key,e.val] }).get? F=some { cls:=.type "dict_itemiterator", data:=.fields #[.none,.bool false,.ref d,.int ((i+1:Nat):Int) 0,.int es.size 0,.int ep 0,ok,U] }:=Yao _ L;have tp:(h1.push { cls:=.type "tuple", data:=.seq #[e.key,e.val] }).get? s.heap.objs.size=some { cls:=.type "tuple", data:=.seq #[e.key,e.val] }:=by rw [<-hz];exact Ybh _ rfl
  have sz:(h1.push { cls:=.type "tuple", data:=.seq #[e.key,e.val] }).objs.size=s.heap.objs.size+1:=by rw [Ydb,hz]
  have kp:∀b o,b≠F->s.heap.get? b=some o->(h1.push { cls:=.type "tuple", data:=.seq #[e.key,e.val] }).get? b=some o:=λb o n z=>Yao _ ((B1.2 b n).trans z);have ni:s.heap.objs.size≠F:=Ydm (Yaj G);rw [hz];generalize h1.push { cls:=.type "tuple", data:=.seq #[e.key,e.val] }=h2 at N tp sz kp ⊢;have e3:=Yck (Obj.mapFields λx=>x.setIfInBounds 6 e.key) N rfl;have b3:Heap.SameBut F h2 (h2.update F (Obj.mapFields λx=>x.setIfInBounds 6 e.key)):=Ydp ..;generalize h2.update F (Obj.mapFields λx=>x.setIfInBounds 6 e.key)=h3 at e3 b3 ⊢;have e4:=Yck (Obj.mapFields λx=>x.setIfInBounds (6+1) e.val) e3 rfl;have b4:Heap.SameBut F h3 (h3.update F (Obj.mapFields λx=>x.setIfInBounds (6+1) e.val)):=Ydp ..;generalize h3.update F (Obj.mapFields λx=>x.setIfInBounds (6+1) e.val)=h4 at e4 b4 ⊢;have e5:=Yck (Obj.mapFields λx=>x.setIfInBounds 0 (rawInt (s.heap.objs.size:Nat))) e4 rfl;have b5:Heap.SameBut F h4 (h4.update F (Obj.mapFields λx=>x.setIfInBounds 0 (rawInt (s.heap.objs.size:Nat)))):=Ydp ..;generalize h4.update F (Obj.mapFields λx=>x.setIfInBounds 0 (rawInt (s.heap.objs.size:Nat)))=h5 at e5 b5 ⊢;have e6:=Yck (Obj.mapFields λx=>x.setIfInBounds 1 (Value.bool false)) e5 rfl;have b6:Heap.SameBut F h5 (h5.update F (Obj.mapFields λx=>x.setIfInBounds 1 (Value.bool false))):=Ydp ..;generalize h5.update F (Obj.mapFields λx=>x.setIfInBounds 1 (Value.bool false))=h6 at e6 b6 ⊢;have B:Heap.SameBut F h2 h6:=((b3.trans b4).trans b5).trans b6;exact ⟨_,rfl,q h6 _ _ e6 ((B.2 _ ni).trans tp) (B.1.trans sz) λb o n z=>(B.2 b n).trans (kp b o n z)⟩
theorem Zcx {B d:Addr}{i ep:Nat}{es:Array DictEntry}{o:Obj}{e:DictEntry}{ok N:Value}{Q:Option Value->Shared->Prop}(D:IsItemIter s.heap B d i es.size ep ok N)(O:s.heap.get? d=some o)(U:o.data=.dict es ep)(hi:es[i]?=some e)(q:∀h' G L,IsItemIterOut h' B d (i+1) es.size ep G L s.heap.objs.size->h'.get? s.heap.objs.size=some { cls:=.type "tuple", data:=.seq #[e.key,e.val] }->h'.objs.size=s.heap.objs.size+1->(∀b o,b≠B->s.heap.get? b=some o->h'.get? b=some o)->Q (some (.ref s.heap.objs.size)) { s with heap:=h' }) :
  wpAny (model prog w) A (pyNext (.ref B)) Q E s:=by
 have T:s.TypeIs (.ref B) "dict_itemiterator" := ⟨_,D,rfl⟩;refine Yab (Yeh (Yer T F.slot_dict_itemiterator_next (Yco F.slot_dict_itemiterator_next T F.entry_dict_itemiterator_next (Zcw D O U hi λh' a b c Y Z f=>?_) (F.args_dict_itemiterator_next_1 _))))
 wp_walk
 exact q h' a b c Y Z f
theorem Zcy {v d:Addr}{ep:Nat}{es:Array DictEntry}{o:Obj}{Q:Value->Shared->Prop}(G:s.heap.IsItemsView v d)(L:s.heap.get? d=some o)(N:o.data=.dict es ep)(q:∀h',IsItemIter h' s.heap.objs.size d 0 es.size ep .none .none->h'.objs.size=s.heap.objs.size+1->(∀c o,s.heap.get? c=some o->h'.get? c=some o)->Q (.ref s.heap.objs.size) { s with heap:=h' }):wpAny (model prog w) A (pyIter (.ref v)) Q E s:=by
 have T:=G.typeIs;obtain ⟨U,B,O,D⟩:=id G;refine wpAny_pyIter_slot T F.slot_dict_items_iter (Yco F.slot_dict_items_iter T F.entry_dict_items_iter ?_ (F.args_dict_items_iter_1 _))
 wp_walk using wpAny_dictEntries L N,wpAny_dictEpoch L N,wpAny_field B D (x:=.ref d) rfl
 exact ⟨_,rfl, "dict_itemiterator", _,⟨_,Ybh _ rfl,rfl⟩,F.slot_dict_itemiterator_next.lookup,q _ (Ybh _ rfl) (Ydb ..) λc o e=>Yao _ e⟩
end
theorem Uz:entryFor table "dict_itemiterator.__iter__" = some Builtin.«dict_keyiterator.__iter__»:=entryFor_alias (id' := "dict_keyiterator.__iter__") (by kernel_rfl) rfl (by decide +kernel) (by kernel_rfl)
theorem Zcz {prog:Program}{w:World}{A:Around}{E:Value->Shared->Prop}{s:Shared}{B d:Addr}{i n ep:Nat}{ok G:Value}{Q:Value->Shared->Prop}(L:IsItemIter s.heap B d i n ep ok G)(h:Q (.ref B) s):wpAny (model prog w) A (pyIter (.ref B)) Q E s:=by
 have D:s.TypeIs (.ref B) "dict_itemiterator" := ⟨_,L,rfl⟩;refine wpAny_pyIter_slot D F.slot_dict_itemiterator_iter (Yco F.slot_dict_itemiterator_iter D Uz ?_ (F.args_dict_itemiterator_iter_1 _));show wpAny _ _ (ret (.ref B)) _ _ s;exact Yag ⟨_,rfl, "dict_itemiterator", _,D,F.slot_dict_itemiterator_next.lookup,h⟩
section
variable {X:Cx}
theorem Xb {qQ:List (Addr×Obj)}{σ:St}{H:Hp}{s:Shared}{a:Addr}{o:Obj}{kvs:List (List Key×V)}(I:Inv X qQ σ H s)(e:H a=some (.frz o (.dT kvs))) :
  (a == sysModules)=false/\s.heap.get? a=some o/\o.ExactDict/\∃es ep,o.data=.dict es ep/\es.size=kvs.length/\∀(i:Nat) k v,kvs[i]?=some (k,v)->∃(B:DictEntry)(b:Addr),es[i]?=some B/\B.key=.ref b/\H b=some (.tup (k.map kV))/\RelV v B.val:=by
 obtain ⟨h1,z,F,xs,r,o',es,ep,h2,G,L,D,Z⟩:=(show ObjOk X.prog X.w H s.heap a (.frz o (.dT kvs)) from I.hok a _ e);rw [h1] at h2;cases h2;refine ⟨F,h1,G,es,ep,L,?_,λi k v hi=>?_⟩
 ·rw [<-Ybj,D,Yaa,Ycv r]
 ·obtain ⟨⟨N,b,u⟩,O,e1,U,Y⟩:=YC r hi;refine ⟨entryOfKey (tupleKind (GM X.prog X.w)) (N,b,u),b,?_,rfl,U,Y⟩;rw [<-Ybz,D,Yau,O]
  rfl
def ItI (d:Addr)(o:Obj)(kvs:List (List Key×V)):It:=
 ⟨λi H=>H d=some (.frz o (.dT kvs))/\i<kvs.length,λi H x H'=>∃T k y b,x=.ref T/\H T=none/\kvs[i]?=some (k,y)/\H b=some (.tup (k.map kV))/\H'=upd H T (.tup [.ref b,y]),λi H=>H d=some (.frz o (.dT kvs))/\kvs.length<=i⟩
theorem ZcA {P:Program}{w:World}{K:W.Frag}{elts:List Expr}{n:Nat}{pos:Pos}(d it:Addr)(o:Obj)(kvs:List (List Key×V))(es:Array DictEntry)(ep:Nat)(ho:o.data=.dict es ep)(hsz:es.size=kvs.length) :
  ZbP P w K (.Tuple elts n pos) (ItI d o kvs) [it] it (λi h=>∃ok ov,IsItemIter h it d i es.size ep ok ov) where
 mem:=by simp
 obj:=λi h ⟨ok,ov,he⟩ b hb=>by
  have e:b=it:=by simpa using hb
  subst e;exact ⟨_,he,λv z=>by
   have z':Data.fields _=Data.cell v:=z;cases z'⟩
 keep:=λi h h' ⟨ok,ov,he⟩ q=>⟨ok,ov,q it (by simp) _ he⟩
 item:=by
  intro X hP hw hK hc i qQ s σ H E I hf st hg;subst hP hw hK;obtain ⟨ok,ov,he⟩:=st;obtain ⟨hq,hi⟩:=hg;obtain ⟨hd,h1,h2,es',ep',h3,h4,h5⟩:=Xb I hq;rw [ho] at h3;cases h3;obtain ⟨⟨k,y⟩,hx⟩:∃x,kvs[i]?=some x:=⟨_,Yah hi⟩;obtain ⟨de,b,hde,hkey,hb,rv⟩:=h5 i k y hx;refine Zcx he h1 ho hde λhA ok1 ov1 heo htp hz hk1=>?_;refine ⟨_,rfl,wpAny_letOwnedTupleGo_items (s:={ s with heap:=hA }) heo λhB he2 hs2=>?_⟩;have hs2':Heap.SameBut it hA hB:=hs2;have hfr:H s.heap.objs.size=none:=I.fresh;have hel:it<s.heap.objs.size:=Yaj he;have kk:∀b o,b ∉ [it]->s.heap.get? b=some o->hB.get? b=some o:=λb o hb q=>by
   have n1:b≠it:=λz=>hb (by simp [z]);exact (hs2'.2 b n1).trans (hk1 b o n1 q)
  have nT:∀b o,s.heap.get? b=some o->b≠s.heap.objs.size:=λb o q=>Yaq (Yaj q);have trk:∀c u,H c=some u->c ∉ [it]:=λc u q z=>by
   rw [(hf c z).1] at q;cases q
  refine ⟨.ref s.heap.objs.size,upd H s.heap.objs.size (.tup [.ref b,y]),I.call' (ch:=[it]) (s':={ s with heap:=hB }) rfl ⟨λb o q _ _ hb=>kk b o hb q,λb o q _ _ hb=>⟨o.slots,kk b o hb q⟩,λb o q n _=>by rw [Gr (nT b o q)];exact n,
   λb o q hb=>⟨o,kk b o hb q⟩,λb ys q=>by rw [Gr (Gh q hfr)];exact q,λb o u q=>by rw [Gr (Gh q hfr)];exact q,λb ps q=>⟨#[],by rw [Gr (Gh q hfr),q];simp⟩⟩ (λc v q=>?_) I.bare (λc hc'=>?_),
   rfl,⟨_,k,y,b,rfl,hfr,hx,hb,rfl⟩,⟨_,_,he2⟩,λc hc'=>?_⟩
  ·by_cases hcz:c=s.heap.objs.size
   ·subst hcz;rw [Gb] at q;cases q;refine ⟨by have h16:=Yay.symm;rw [<-h16];show 2<=16777216;lia,[.ref b,de.val],.cons rfl (.cons rv .nil),⟨_,(hs2'.2 _ (Ydm hel)).trans htp,rfl,_,by rw [hkey]⟩⟩
   ·rw [Gr hcz] at q;refine (I.hok c v q).stay (λc' v' hc'' z=>kk c' v' ?_ z) (λc' z=>by rw [Gr (Gh z hfr)];exact z) λc' ys z=>by rw [Gr (Gh z hfr)];exact z
    rcases hc'' with rfl | hc''
    ·exact trk _ _ q
    ·exact trk _ _ hc''
  ·obtain ⟨f0,f1,f2,f3,f4,f5⟩:=hf c hc';exact ⟨f3,f1,f4,f5⟩
  ·have e:c=it:=by simpa using hc'
   subst e;rw [Gr (nT c _ he)];exact (hf c hc').1
 done:=by
  intro X hP hw hK hc i qQ s σ H E I hf st hg;subst hP hw hK;obtain ⟨ok,ov,he⟩:=st;obtain ⟨hq,hi⟩:=hg;obtain ⟨hd,h1,h2,es',ep',h3,h4,h5⟩:=Xb I hq;rw [ho] at h3;cases h3;obtain ⟨f0,f1,f2,f3,f4,f5⟩:=hf it (by simp);exact Zq (S:=it) (I.ok.hd hc) ⟨.none,false,ok,ov,he,.inl rfl⟩ h1 ho (Array.getElem?_eq_none (by lia)) λh' eb=>⟨rfl,I.turned (t':=s.toks) (λb o hb e=>eb b o hb e) f0 f1 f3 f4 f5⟩
 self:=λ_ _ _ _ _ ⟨ok,ov,he⟩ h=>Zcz he h
def Zjh (tl:TE):TI:=λσ H R=>tl σ H λx H1=>∃v d o kvs,x=.ref v/\H1 v=some (IVw v d)/\H1 d=some (.frz o (.dT kvs))/\R (ItI d o kvs) H1
theorem Zdo {B:List Expr}{n:Nat}{L:Pos}{l:Expr}{tl:TE}(N:PE X l tl):PI X (.Tuple B n L) l (Zjh tl):=by
 intro qQ s σ H R I h;refine thn (N qQ s σ H _ I h) λv s1 ⟨x,H1,D,r1,q1⟩=>?_;obtain ⟨F,d,o,kvs,e,O,U,q⟩:=q1;subst e;cases r1;obtain ⟨hd,h1,h2,es,ep,G,Y,h5⟩:=UJ D U;obtain ⟨Z,_⟩:=(show ObjOk X.prog X.w H1 s1.heap F (IVw F d) from D.hok F _ O);refine Zcy Z h1 G λh' st sz kp=>?_;refine ⟨s1.heap.objs.size,[s1.heap.objs.size],_,_,H1,rfl,D.kept (t':=s1.toks) kp,ZcA d _ o kvs es ep G Y,⟨_,_,st⟩,λb hb=>?_,q⟩;have e:b=s1.heap.objs.size:=by simpa using hb
 subst e;exact D.fpOk (Yac _) (D.hok.fresh (Yac _))
end
theorem Zeq {d:Addr}{o:Obj}{kvs:List (List Key×V)}{g:TG}{tb:TS}{D:Ends}{σ:St}{H:Hp}(B:Nat->St->Hp->Prop)(h0:B 0 σ H)(U:∀i σ H,i<=kvs.length->B i σ H->H d=some (.frz o (.dT kvs)))(Y:∀i k v b T σ H,kvs[i]?=some (k,v)->H b=some (.tup (k.map kV))->B i σ H->H T=none->g (.ref T) σ (upd H T (.tup [.ref b,v])) λG H2=>tb { D with nx:=B (i+1),ct:=B (i+1),bk:=D.nx } G H2)(Z:∀ σ H,B kvs.length σ H->D.nx σ H) :
  ∃W:Nat->Nat->St->Hp->Prop,(∃m,W 0 m σ H)/\∀i m σ H,W i m σ H ->
   ((ItI d o kvs).stop i H/\D.nx σ H)\/((ItI d o kvs).go i H/\∃N:St->Hp->Prop,(∀ L H',N L H'->∃O,O<m/\W (i+1) O L H')/\∀x H',(ItI d o kvs).yld i H x H'->g x σ H' λG H2=>tb { D with nx:=N,ct:=N,bk:=D.nx } G H2):=by
 refine ⟨λi m σ H=>m=kvs.length-i/\i<=kvs.length/\B i σ H,⟨_,rfl,Ybc _,h0⟩,?_⟩;rintro i m σ H ⟨rfl,hi,p⟩;have q:=U i σ H hi p;by_cases F:i<kvs.length
 ·refine .inr ⟨⟨q,F⟩,B (i+1),λL H' p'=>⟨kvs.length-(i+1),by lia,rfl,F,p'⟩,λx H' y=>?_⟩;obtain ⟨T,k,v,b,rfl,hT,ek,eb,rfl⟩:=y;exact Y i k v b T σ _ ek eb p hT
 ·have e:i=kvs.length:=by lia
  subst e;exact .inl ⟨⟨q,Yac _⟩,Z σ H p⟩
theorem Zf6 {X:Cx}:JE X (.builtin "len") (λxs H Q=>∃p kvs,xs=[.ref p]/\(H p=some (.dT kvs)\/∃o,H p=some (.frz o (.dT kvs)))/\kvs.length<=1000/\Q (.int (kvs.length:Nat)) H):=by
 intro qQ s σ H xs us Q I D h;obtain ⟨p,kvs,rfl,B,U,q⟩:=h;obtain ⟨u,rfl,F⟩:=D.one;cases F;obtain ⟨_,G,xs,r,o,es,ep,h1,h2,L,N,_⟩:ObjOk X.prog X.w H s.heap p (.dT kvs):=by
  rcases B with B | ⟨o,B⟩
  ·exact I.hok p _ B
  ·exact (show ObjOk X.prog X.w H s.heap p (.frz o (.dT kvs)) from I.hok p _ B).2
 have e:es.size=kvs.length:=by rw [<-Ybj,N,Yaa,Ycv r]
 have O:=Yay.symm;refine Xa G h1 h2 L (by lia) ?_;exact ⟨.int (kvs.length:Nat),H,I.tok _,⟨s.toks+1,by rw [e]⟩,q⟩
section
variable {prog:Program}{w:World}{κ:Type}[DecidableEq κ]{knd:HeapKind prog w κ}{A:Around}{E:Value->Shared->Prop}{s:Shared}
theorem Zer {d a:Addr}{xs:List (κ×Addr×Value)}{k:κ}{v:Value}{Q:Value->Shared->Prop}(hu:knd.room A)(B:knd.is s.heap k a)(hm:s.heap.DictOfH knd d xs)(hsz:xs.length<=sizeLine)(U:∀u,(atKey xs k).map (·.2)=some u->Q u { s with toks:=s.toks+knd.draws k })(new:(atKey xs k).map (·.2)=none->∀h',h'.DictOfH knd d (storedH xs k a v)->Heap.SameBut d s.heap h'->Q v { s with heap:=h',toks:=s.toks+knd.draws k }) :
  wpAny (model prog w) A (dictSetDefault d (.ref a) v) Q E s:=by
 obtain ⟨o,es,ep,L,hc,G,O,N,Y⟩:=hm;have sz:=size_of_entries O;unfold dictSetDefault
 try with_reducible refine Ycw ?_
 refine Yab (knd.pyHash hu B (Yab (wpAny_dictFind_heap (s:={ s with toks:=s.toks+knd.draws k }) hu B L G O N Y (λD=>?absent) λj p hj=>?there)))
 case there=>
  refine Yab (wpAny_dictEntries (s:={ s with toks:=s.toks+knd.draws k }) L G ?_);rw [entry_at O j,hj];exact Yab (Ycq (Yag (U p.2 (by rw [atKey_of_get Y hj];rfl))))
 case absent=>
  have na:=atKey_none_of_get D;have keep:∀x∈xs++[(k,a,v)],knd.is (s.heap.update d (Obj.mapDictKeys (λes=>es.push ⟨knd.hash k,.ref a,v⟩))) x.1 x.2.1:=λx F=>by
   refine knd.keeps ?_ L G (Ydp ..);rcases Yav.mp F with F | F
   ·exact N x F
   ·rw [Yas.mp F];exact B
  refine Yab (Ycq (Yab (wpAny_updateDictKeys (hz:=by lia) (s:={ s with toks:=s.toks+knd.draws k }) L G (Yag (new (by rw [na];rfl) _ ⟨_,_,ep+1,Yck _ L (Obj.isFreed_of_dict (Obj.data_mapDictKeys G _)),hc.mapDictKeys _,Obj.data_mapDictKeys G _,?_,?_,?_⟩ (Ydp ..))))))
  ·rw [storedH_new na,Yel,O,Yal]
   rfl
  ·rw [storedH_new na];exact keep
  ·rw [storedH_new na,Yal,Ycu];refine ⟨Y,by simp,λx F y Z e=>?_⟩;have Z:y=k:=by simpa using Z
   exact not_mem_keys_of_get D (by rw [<-Z,<-e];exact F)
end
section
variable {X:Cx}
def Zf7 (td ty tx:TE):TE:=λσ H Q=>td σ H λx H1=>∃a,x=.ref a/\(∃kvs,H1 a=some (.dT kvs))/\ty σ H1 λy H2=>tx σ H2 λz B=>∃kvs k b,y=.ref b/\B a=some (.dT kvs)/\B b=some (.tup (k.map kV))/\kvs.length<sizeLine /\
 (∀v,JJ kvs k=some v->Q v B)/\(JJ kvs k=none->Q z (upd B a (.dT (Uu kvs k z))))
theorem Xc {qQ:List (Addr×Obj)}{σ:St}{H:Hp}{s:Shared}{a b:Addr}{z:V}{r:Value}{A:Around}{E:Value->Shared->Prop}{kvs:List (List Key×V)}{k:List Key}{Q:Value->Shared->Prop}(hu:A.units+1<cLine)(I:Inv X qQ σ H s)(e:H a=some (.dT kvs))(Y:H b=some (.tup (k.map kV)))(hl:kvs.length<sizeLine)(rz:RelV z r)(G:∀v Z s',JJ kvs k=some v->Inv X qQ σ H s'->RelV v Z->Q Z s')(new:∀s',JJ kvs k=none->Inv X qQ σ (upd H a (.dT (Uu kvs k z))) s'->Q r s') :
  wpAny (model X.prog X.w) A (call (.builtin "dict.setdefault") [.ref a,.ref b,r]) Q E s:=by
 obtain ⟨_,hd,xs,B,L⟩:=ZfI I.hok e;have hz:xs.length<=sizeLine:=by rw [<-Ycv B];lia
 refine Yco PySem.F.slot_dict_setdefault L.typeIs PySem.F.entry_dict_setdefault ?_ (PySem.F.args_dict_setdefault_3 _ _ _);unfold Builtin.«dict.setdefault»;refine Yab ?_;unfold Builtin.Dict.keyAndDefault;refine Yab (wpAny_notOrdered_dict L.typeIs ?_);show wpAny _ _ (pure (a,Value.ref b,some r)) _ _ s;refine Yag ?_;show wpAny _ _ (if (a == sysModules)=true then _ else (dictSetDefault a (.ref b) r >>= _)) _ _ s;rw [if_neg (by rw [hd];exact Yax)];refine Yab (Zer (tupleKind_room_in1 hu) (U6 I.hok Y) L hz (λu N=>Yag ⟨u,rfl,?_⟩) λhn h' O hs=>Yag ⟨r,rfl,new _ ?_ ?_⟩)
 ·have D:=B.val k;rw [N] at D;cases hv:JJ kvs k with
  | none=>rw [hv] at D;cases D
  | some v=>rw [hv] at D;exact G v u _ hv (I.tok _) D
 ·have D:=B.val k;rw [hn] at D;cases hv:JJ kvs k with
  | none=>rfl
  | some v=>rw [hv] at D;cases D
 ·obtain ⟨q,es,ep,hq,h2,h3,h4,_,h5⟩:=O;have U:(Uu kvs k z).length<=sizeLine:=by have:=Jo kvs k z;lia
  refine XG I (by rw [e];exact True.intro) hs ⟨q,hq⟩ ⟨U,hd,_,(B.put k Y rz).keeps λc ys ec=>?_,q,es,ep,hq,h2,h3,h4,h5⟩;rw [Gr (J4 ec e (λz=>nomatch z))];exact ec
theorem ZaU {o e f:Expr}{apos qK:Pos}{td ty tx:TE}(U:X.A.units+1<cLine)(Y:PE X o td)(Z:PE X e ty)(hf:PE X f tx)(m:M2 X o "setdefault" apos e f qK):PE X (.Call (.Attribute o "setdefault" apos) [e,f] [] qK) (Zf7 td ty tx):=by
 intro qQ s σ H Q I h;refine wpAny_Call_method m.base m.few m.line PySem.F.plainAttrs_dict PySem.F.slot_dict_setdefault PySem.F.type_dict_setdefault (thn (Y qQ s σ H _ I h) λu s1 ⟨x,H1,N,rx,a,ex,⟨B,ed⟩,q1⟩=>?_);subst ex;obtain rfl:u=Value.ref a:=rx;obtain ⟨t1,t2,_⟩:=Zak N (.inr ⟨B,.inl ed⟩);refine ⟨t1,t2,?_⟩;rw [m.trees];refine Calls.callWith_builtin rfl (Calls.evalArgs_plain (Calls.spliced_cons (thn (Z qQ s1 σ H1 _ N q1) λiv s2 ⟨y,H2,I2,ry,q2⟩=>
  Calls.spliced_cons (thn (hf qQ s2 σ H2 _ I2 q2) λfv s3 ⟨z,H3,I3,O,kvs,k,b,ey,ea,eb,hl,D,new⟩=>Calls.spliced_nil ?_))))
 subst ey;obtain rfl:iv=Value.ref b:=ry;exact Xc U I3 ea eb hl O (λv w' s' hv G L=>⟨v,H3,G,L,D v hv⟩) λs' hn G=>⟨z,_,G,O,new hn⟩
end
end L2
namespace L2
open PySem PySem.Spec PyProof.Rows Classical
section
variable {prog:Program}{w:World}{A:Around}{E:Value->Shared->Prop}{s:Shared}
theorem Zt {d:Addr}{ep:Nat}{es:Array DictEntry}{o:Obj}{Q:Value->Shared->Prop}(L:(d == sysModules)=false)(B:s.heap.get? d=some o)(G:o.ExactDict)(D:o.data=.dict es ep)(q:Q (.ref s.heap.objs.size) { s with heap:=s.heap.push { cls:=.type "dict_keyiterator", data:=.fields #[.ref d,.int 0 0,.int es.size 0,.int ep 0] } }):wpAny (model prog w) A (pyIter (.ref d)) Q E s:=by
 have T:s.TypeIs (.ref d) "dict" := ⟨o,B,G.1⟩;refine wpAny_pyIter_slot T F.slot_dict_iter (Yco F.slot_dict_iter T F.entry_dict_iter ?_ (F.args_dict_iter_1 _))
 wp_walk using wpAny_notOrdered_dict T,wpAny_dictEntries B D,wpAny_dictEpoch B D
 exact ⟨_,rfl, "dict_keyiterator", _,⟨_,Ybh _ rfl,rfl⟩,F.slot_dict_keyiterator_next.lookup,q⟩
end
theorem ZcB {P:Program}{w:World}{d:Addr}{es:Array DictEntry}{ep:Nat}(hs:(d == sysModules)=false):W.KdlSrc P w "dict" d d es.size (λi v=>∃e,es[i]?=some e/\v=e.key) (λh=>∃o,h.get? d=some o/\o.ExactDict/\o.data=.dict es ep) where
 type:=λ_ ⟨o,h1,h2,_⟩=>⟨o,h1,h2.1⟩
 there:=λ_ ⟨o,h1,_,_⟩=>⟨Yaj h1,Yaj h1⟩
 keep:=λ_ _ ⟨o,h1,h2,h3⟩ k=>⟨o,k d (.inl rfl) o h1,h2,h3⟩
 notList:=by decide
 notTuple:=by decide
 hint:=λ_ _ _ _ ⟨o,h1,h2,_⟩ q=>W.kdl_hint_dict ⟨o,h1,h2.1⟩ q
 iter:=λA s hh h=>by
  obtain ⟨o,h1,h2,h3⟩:=h;have hlt:d<s.heap.objs.size:=Yaj h1;refine ⟨{ cls:=.type "dict_keyiterator", data:=.fields #[.ref d,.int 0 0,.int es.size 0,.int ep 0] },λi h'=>h'.IsKeyIter s.heap.objs.size d i es.size ep/\h'.get? d=some o,λ_ _ q=>Zt hs h1 h2 h3 q,?_,⟨⟨_,Ybh _ rfl,rfl,rfl⟩,Yao _ h1⟩⟩;refine ⟨λb hb=>?_,λi g1 g2 st k=>?_,λi s1 Q E hi st hq=>?_,λs1 Q E st hq=>?_,λi s1 Q E st hq=>?_⟩
  ·rw [Yas.mp hb];exact Yaz
  ·obtain ⟨⟨oi,a1,a2,a3⟩,a4⟩:=st;exact ⟨⟨oi,k _ (by simp) _ a1,a2,a3⟩,k d (by simp) _ a4⟩
  ·have he:es[i]?=some es[i]:=Yen hi;refine W4 st.1 st.2 h3 he λh' hi' sb=>hq _ h' s1.toks ⟨_,he,rfl⟩ ⟨hi',(sb.2 d (Yaq hlt)).trans st.2⟩ λb o hb e=>(sb.2 b (λz=>hb (by rw [z];exact Yaz))).trans e
  ·exact W5 hh st.1 st.2 h3 (Array.getElem?_eq_none (Yac _)) λh' he=>hq h' s1.toks λb o hb e=>he b o (λz=>hb (by rw [z];exact Yaz)) e
  ·exact wpAny_pyIter_keyiter st.1 hq
theorem Xd {H:Hp}:∀{kvs:List (List Key×V)}{ys:List (List Key×Addr×Value)}{ns:List (List Int)},Paired (λ(p:List Key×V) (q:List Key×Addr×Value)=>p.1=q.1/\H q.2.1=some (.tup (p.1.map kV))/\RelV p.2 q.2.2) kvs ys->kvs.map (·.1)=ns.map (λn=>n.map Sum.inl) ->
  ∃zs:List (Addr×List Int),zs.map (·.1)=ys.map (·.2.1)/\zs.map (·.2)=ns/\∀z∈zs,H z.1=some (.tup (z.2.map V.int))
 | [],[],[],.nil,_=>⟨[],rfl,rfl,λz B=>by cases B⟩
 | [],[],_::_,.nil,e=>by cases e
 | p::kvs,q::ys,[],_,e=>by cases e
 | p::kvs,q::ys,n::ns,.cons ⟨_,r2,_⟩ r,e=>by
  injection e with ea eb
  obtain ⟨zs,z1,z2,z3⟩:=Xd r eb;refine ⟨(q.2.1,n)::zs,by rw [Yat,Yat,z1],by rw [Yat,z2],λz B=>?_⟩;rcases Yar.mp B with rfl | B
  ·have ea:p.1=n.map Sum.inl:=ea;rw [r2,ea,OE]
  ·exact z3 z B
end L2
namespace L2
open PySem PySem.Spec PyProof.Rows
section
variable {X:Cx}
def ZhJ (t:TE):TE:=λσ H Q=>t σ H λv H1=>∃d kvs,v=.ref d/\H1 d=some (.dT kvs)/\∀o,Q v (upd H1 d (.frz o (.dT kvs)))
theorem ZaV {e:Expr}{t:TE}(h:PE X e t):PE X e (ZhJ t):=by
 intro qQ s σ H Q I B;refine thn (h qQ s σ H _ I B) λu s1 ⟨x,H1,D,F,d,kvs,ex,G,q⟩=>?_;obtain ⟨o,L⟩:=D.freezeT G;exact ⟨x,_,L,F,q o⟩
theorem ZaW:MtR X "dict.items" (λx xs H Q=>∃d kvs o,x=.ref d/\xs=[]/\H d=some (.frz o (.dT kvs))/\∀v,H v=none->Q (.ref v) (upd H v (IVw v d))):=by
 intro qQ s σ H x xs v us Q I F G h;obtain ⟨d,kvs,L,rfl,rfl,N,q⟩:=h;cases F;have B:=G.zero;subst B;obtain ⟨_,_,O,ys,_,o,es,ep,h1,h2,U,_⟩:=(show ObjOk X.prog X.w H s.heap d (.frz L (.dT kvs)) from I.hok d _ N);have Y:H s.heap.objs.size=none:=I.hok.fresh (Yac _);refine Zr O h1 h2 U ⟨.ref s.heap.objs.size,upd H s.heap.objs.size (IVw s.heap.objs.size d),I.laid (t':=s.toks) (λb u e=>Yao _ e) (Yac _) ?_,rfl,q _ Y⟩;have D:(s.heap.push { cls:=.type "dict_items", data:=.fields #[.ref d] }).get? s.heap.objs.size=some { cls:=.type "dict_items", data:=.fields #[.ref d] }:=Ybh _ rfl;exact ⟨⟨_,D,rfl,rfl⟩,⟨_,D⟩,λZ g2 ⟨o,e,r⟩ k=>⟨o,k _ e,r⟩⟩
def ZhK (to:TE):TE:=λσ H Q=>to σ H λx H1=>∃d kvs B,x=.ref d/\H1 d=some (.frz B (.dT kvs))/\∀v,H1 v=none->Q (.ref v) (upd H1 v (IVw v d))
theorem ZaX {o:Expr}{apos qK:Pos}{to:TE}(O:PE X o to)(B:attributeBase o "items" X.env (eval o X.env)=eval o X.env:=by rfl)(D:(apos.endLine == qK.line)=true:=by rfl):PE X (.Call (.Attribute o "items" apos) [] [] qK) (ZhK to):=by
 intro qQ s σ H Q I h;refine wpAny_Call_method0_late B D (thn (O qQ s σ H _ I h) λv s1 ⟨x,H1,G,r1,d,kvs,L,e,N,q1⟩=>?_);subst e;obtain rfl:v=Value.ref d:=r1;obtain ⟨h1,h2,_⟩:=Zak G (.inr ⟨kvs,.inr ⟨L,N⟩⟩);exact ⟨"dict", "dict.items", PySem.F.plainAttrs_dict,PySem.F.slot_dict_items,PySem.F.type_dict_items,h1,h2,Calls.callWith_builtin rfl (PySem.evalArgs_none (ZaW qQ s1 σ H1 (.ref d) [] (.ref d) [] Q G rfl .nil ⟨d,kvs,L,rfl,rfl,N,q1⟩))⟩
end
section
variable {X:Cx}{K:W.Frag}{w:World}
theorem Zes (hc:X.calm=true)(h:X.K=K:=by rfl):JE X (.type "list") (λxs H Q=>∃(p:Addr)(kvs:List (List Key×V))(ns:List (List Int)),xs=[.ref p]/\(H p=some (.dT kvs)\/∃o,H p=some (.frz o (.dT kvs)))/\kvs.map (·.1)=ns.map (λn=>n.map Sum.inl)/\ns.length<=1000 /\
  ∀(l:Addr)(zs:List (Addr×List Int)),H l=none->zs.map (·.2)=ns->(∀z∈zs,H z.1=some (.tup (z.2.map V.int)))->Q (.ref l) (upd H l (.lst (zs.map λz=>V.ref z.1)))):=by
 subst h;intro qQ s σ H xs us Q I rv h;obtain ⟨p,kvs,ns,rfl,F,hk,hl,q⟩:=h;obtain ⟨u,rfl,ru⟩:=rv.one;cases ru;obtain ⟨_,hd,ys,pr,o,es,ep,h1,h2,h3,h4,_⟩:ObjOk X.prog X.w H s.heap p (.dT kvs):=by
  rcases F with F | ⟨o,F⟩
  ·exact I.hok p _ F
  ·exact (show ObjOk X.prog X.w H s.heap p (.frz o (.dT kvs)) from I.hok p _ F).2
 have aa:=Yay.symm;obtain ⟨D,ez,G,hz⟩:=Xd (ys:=ys) pr hk;have U:D.map (λz=>Value.ref z.1)=es.toList.map (·.key):=by
  rw [h4,Yca];rw [show D.map (λz=>Value.ref z.1)=(D.map (·.1)).map Value.ref from by rw [Yca];rfl,ez,Yca]
  rfl
 have qV:es.size=D.length:=by
  have:=Ybb List.length U;rw [Yaa,Yaa,Ybj] at this;exact this.symm
 have ab:D.length=ns.length:=by rw [<-G,Yaa]
 refine W.kdl_call (ZcB (P:=X.prog) (w:=X.w) (d:=p) (es:=es) (ep:=ep) hd) (I.ok.hd hc) ⟨o,h1,h2,h3⟩ (by lia) λh' tk B c' L hS hit=>?_;have ac:B.size=es.size:=hit.1;have e9:B.toList.length=B.size:=Ybj;have N:(D.map λz=>V.ref z.1).length=B.toList.length:=by rw [Yaa,e9];lia
 have hv:Vals (D.map λz=>V.ref z.1) B.toList:=by
  refine Yq N λi x u Y Z=>?_;rw [Ybz] at Z;obtain ⟨e,he,rfl⟩:=hit.2 i u Z;rw [Yau] at Y;obtain ⟨z,O,rfl⟩:=Ybg.mp Y;have:=Ybb (λl=>l[i]?) U;simp only [Yau,O,Ybz,he,Option.map_some] at this;rw [<-Yaw this]
  rfl
 exact ⟨.ref _,_,I.laid (o:=.lst (D.map λz=>V.ref z.1)) L (Yac _) ⟨by rw [Yaa];lia,B.toList,c',hv,hS⟩,rfl,q _ D I.fresh G hz⟩
theorem ZcC {d D:Addr}{o:Obj}{kvs:List (List Key×V)}{g:TG}{tc:TT}{te:TE}{G:St}{R:Hp->Prop}{H1:Hp}(B:Nat->List V->Hp->Prop)(h0:B 0 [] (upd H1 D (.lst [])))(U:∀i ys H,i<=kvs.length->B i ys H->H d=some (.frz o (.dT kvs)))(Y:∀i k v b T ys H,kvs[i]?=some (k,v)->H b=some (.tup (k.map kV))->B i ys H->H T=none->g (.ref T) G (upd H T (.tup [.ref b,v])) λL Z=>Od G L/\tc L Z λc N=>if c=true then te L N λy O=>O D=some (.lst ys)/\ys.length<sizeLine/\B (i+1) (ys++[y]) (upd O D (.lst (ys++[y]))) else B (i+1) ys N)(hd:∀ys H,B kvs.length ys H->R H):∃W:Nat->Nat->List V->Hp->Prop,(∃m,W 0 m [] (upd H1 D (.lst [])))/\Js (ItI d o kvs) D g tc te G W R:=by
 refine ⟨λi m ys H=>m=kvs.length-i/\i<=kvs.length/\B i ys H,⟨_,rfl,Ybc _,h0⟩,?_⟩;rintro i m ys H ⟨rfl,hi,p⟩;have q:=U i ys H hi p;by_cases F:i<kvs.length
 ·refine .inr ⟨⟨q,F⟩,B (i+1),λaa H' p'=>⟨kvs.length-(i+1),by lia,rfl,F,p'⟩,λx H' y=>?_⟩;obtain ⟨T,k,v,b,rfl,hT,ek,eb,rfl⟩:=y;exact Y i k v b T ys _ ek eb p hT
 ·have e:i=kvs.length:=by lia
  subst e;exact .inl ⟨⟨q,Yac _⟩,hd ys H p⟩
end
end L2
namespace L2
open PySem
def FX (K:W.Frag)(x:Str)(st:Stmt)(f:Addr):Prop:=
 ∃(F kV D G B ct:Value)(od an:Option Addr)(sl:Array (Option Value)),W.nsIn K mainGlobals x=some (some (.ref f))/\K.lookup f=some ⟨F,od,.func (W.fnOf x x (Jj st) (G3 st) (Ge st) .none kV D G an B ct),sl⟩/\W.codeIn K B x=true/\W.keepIn K (.ref f)=true
theorem FX.mk {K:W.Frag}{x:Str}{st:Stmt}{f:Addr}{F kV D G B ct:Value}{L N:Option Addr}{O:Array (Option Value)}(a:W.nsIn K mainGlobals x=some (some (.ref f)))(b:K.lookup f=some ⟨F,L,.func (W.fnOf x x (Jj st) (G3 st) (Ge st) .none kV D G N B ct),O⟩)(c:W.codeIn K B x=true)(d:W.keepIn K (.ref f)=true):FX K x st f:=⟨_,_,_,_,_,_,_,_,_,a,b,c,d⟩
theorem FX.go {K:W.Frag}{x:Str}{st:Stmt}{f:Addr}{h:Heap}{mg:Str->Option Value}(z:FX K x st f)(X:K.In h)(G:h.Ns mainGlobals mg)(ps:List Str)(D:∀(kV B L:Value)(an:Option Addr)(cdv ct:Value)(us:List Value),us.length=ps.length->bindArgs (W.fnOf x x (Jj st) (G3 st) (Ge st) .none kV B L an cdv ct) ⟨us,[]⟩=pure (ps.zip us)) :
  ∃fd,Fun K x x st f fd/\Binds K fd ps []/\mg x=some (.ref f):=by
 obtain ⟨_,_,_,_,_,_,_,_,_,a,b,c,d⟩:=z;have F:=Z7 (st:=st) b c d;exact ⟨_,F,F.binds (ps:=ps) D,Ybx X G a⟩
def FY (K:W.Frag)(x y:Str)(F:Value)(st:Stmt)(f:Addr):Prop:=
 ∃(G kV D L B ct:Value)(od an:Option Addr)(sl:Array (Option Value)),W.nsIn K mainGlobals x=some (some (.ref f))/\K.lookup f=some ⟨G,od,.func (W.fnOf y y (Jj st) (G3 st) (Ge st) F kV D L an B ct),sl⟩/\W.codeIn K B y=true/\W.keepIn K (.ref f)=true
theorem FY.mk {K:W.Frag}{x y:Str}{F:Value}{st:Stmt}{f:Addr}{G kV D L B ct:Value}{N O:Option Addr}{U:Array (Option Value)}(a:W.nsIn K mainGlobals x=some (some (.ref f)))(b:K.lookup f=some ⟨G,N,.func (W.fnOf y y (Jj st) (G3 st) (Ge st) F kV D L O B ct),U⟩)(c:W.codeIn K B y=true)(d:W.keepIn K (.ref f)=true):FY K x y F st f:=⟨_,_,_,_,_,_,_,_,_,a,b,c,d⟩
theorem FY.go {K:W.Frag}{x y:Str}{st:Stmt}{f:Addr}{h:Heap}{mg:Str->Option Value}(z:FY K x y .none st f)(X:K.In h)(G:h.Ns mainGlobals mg)(ps:List Str)(D:∀(kV B L:Value)(an:Option Addr)(cdv ct:Value)(us:List Value),us.length=ps.length->bindArgs (W.fnOf y y (Jj st) (G3 st) (Ge st) .none kV B L an cdv ct) ⟨us,[]⟩=pure (ps.zip us)) :
  ∃fd,Fun K y y st f fd/\Binds K fd ps []/\mg x=some (.ref f):=by
 obtain ⟨_,_,_,_,_,_,_,_,_,a,b,c,d⟩:=z;have F:=Z7 (st:=st) b c d;exact ⟨_,F,F.binds (ps:=ps) D,Ybx X G a⟩
end L2
namespace M
open PySem L2
def top (i:Nat):Stmt:=PySem.Challenge.pw_onceways_k71_words_of_a_closed_way.main.body.getD i (.Pass ⟨0,0,0,0⟩)
abbrev sGr:Stmt:=top 6
abbrev sIs:Stmt:=top 7
abbrev Zhe:Stmt:=top 8
abbrev Zf8:Stmt:=top 9
abbrev sLr:Stmt:=top 17
abbrev sSo:Stmt:=top 18
abbrev sFm:Stmt:=top 20
abbrev sId:Stmt:=top 21
abbrev sIl:Stmt:=top 22
abbrev sIf:Stmt:=top 23
abbrev sIm:Stmt:=top 24
abbrev sFe:Stmt:=top 25
abbrev sWr:Stmt:=top 26
abbrev sLb:Stmt:=top 27
abbrev sDe:Stmt:=top 28
abbrev Ze8:Stmt:=top 30
abbrev Zf9:Stmt:=top 31
abbrev Zga:Stmt:=top 33
abbrev Zhf:Stmt:=top 34
abbrev ZcD:Stmt:=top 35
abbrev Zgb:Stmt:=top 36
abbrev Zgc:Stmt:=top 37
abbrev Ze9:Stmt:=top 38
abbrev sRr:Stmt:=top 40
abbrev sSg:Stmt:=top 41
abbrev sWn:Stmt:=top 42
abbrev sWf:Stmt:=top 43
abbrev sIc:Stmt:=top 44
abbrev sSw:Stmt:=top 45
abbrev Zhg:Stmt:=top 47
abbrev sMi:Stmt:=top 48
abbrev Zgd:Stmt:=top 49
abbrev Zfa:Stmt:=top 50
abbrev Zfb:Stmt:=top 51
abbrev Zge:Stmt:=top 52
abbrev Zhh:Stmt:=top 53
abbrev Zfc:Stmt:=top 54
abbrev Zgf:Stmt:=top 55
abbrev ZbM:Stmt:=top 56
theorem two_le:2<=sizeLine:=by decide
theorem YE (p:Int):∀ms:List Int,inV (.int p) (ms.map V.int)=decide (p∈ms):=by
 intro ms;unfold inV
 induction ms with
 | nil=>rfl
 | cons m ms ih=>
  rw [Yat,List.any_cons,ih];by_cases h1:p=m <;> by_cases h2:p∈ms <;> simp [eqV,h1,h2] <;> (try lia) <;> (try (intro z;exact h1 z.symm))
theorem Xe (ms:List Int):(ms.map V.int).all Vr=true:=by
 rw [List.all_map];exact List.all_eq_true.mpr λ_ _=>rfl
section
variable {P:Program}{w:World}{K:W.Frag}{mg:Str->Option Value}{base:Heap}
theorem ZcE:bootBuiltins "max" = some (.builtin "max"):=by first | rfl | decide +kernel
structure WebAt (H:Hp)(wb l:Addr)(k:Int)(xs:List V)(rs:List (Int×Int)):Prop where
 w:H wb=some (.tup [.int k,.ref l])
 l:H l=some (.lst xs)
 p:Prs H xs rs
theorem WebAt.same {H H':Hp}{B l:Addr}{k:Int}{xs:List V}{rs:List (Int×Int)}(h:WebAt H B l k xs rs)(s:Same H H'):WebAt H' B l k xs rs:=⟨s _ _ h.w,s _ _ h.l,h.p.same s⟩
def J9 (rs:List (Int×Int))(p q:Int):Nat->Option V
 | 0=>none
 | i+1=>if rs.getD i (0,0)=(p,q)\/rs.getD i (0,0)=(q,p) then some (.int (i:Nat)) else J9 rs p q i
def ky (p q:Int):List Key:=[.inl p,.inl q]
theorem ky_inj {p q a b:Int}:ky p q=ky a b↔p=a/\q=b:=by
 unfold ky;constructor
 ·intro h;injection h with h1 h2
  injection h2 with h2 _
  exact ⟨Sum.inl.inj h1,Sum.inl.inj h2⟩
 ·rintro ⟨rfl,rfl⟩;rfl
def Zet:Sp:=λvs H Q _=>∃(B l:Addr)(k:Int)(xs:List V)(rs:List (Int×Int)),vs=[.ref B]/\WebAt H B l k xs rs/\xs.length<=200 /\
 ∀(d:Addr)(H':Hp)(kvs:List (List Key×V)),Same H H'->H d=none->H' d=some (.dT kvs)->(∀p q,JJ kvs (ky p q)=J9 rs p q rs.length)->Q (.ref d) H'
theorem scNbs:Gp ["web", "numbers", "number", "road"] ["web"] (Ge Ze8):=⟨rfl,rfl,rfl,by decide +kernel,rfl,by decide +kernel,by decide +kernel⟩
theorem Zdp {f:Addr}{fd:FuncData}(F:Fun K "numbers_by_step" "numbers_by_step" Ze8 f fd)(B:mg "enumerate" = none):GJ P w K mg base CX0 1 f fd ["web"] Zet:=by
 refine F.ok scNbs (λvs H Q E h=>?_) (λaa A ab s H vs Q E hr h=>?_)
 ·obtain ⟨_,_,_,_,_,rfl,_⟩:=h
  rfl
 ·obtain ⟨wb,l,k,xs,rs,rfl,W,hx,q⟩:=h;have L:(A.deeper (PyProof.Rows.envOfC "numbers_by_step" (Ge Ze8) s.heap.objs.size f aa)).units+1<cLine:=by have:=hr.un;lia
  have ad:=Yay.symm;refine ⟨_,Gc (Gm (i:=1) scNbs.nd rfl (Or.inl rfl) V1)
    (Gc (JY Ycm rfl (XE K rfl B (Ga (GE (Ut K) (pv 0) Gg (λ_ _=>rfl)) Gd)) (Wu K (n:=2) rfl (Gn (Gi (i:=2) scNbs.nd rfl (Or.inl rfl)) (Gn (Gi (i:=3) scNbs.nd rfl (Or.inl rfl)) Jb)))
    (Gc (Uh L (pv 1) (pv 3) (pv 2) rfl)
    (Gf (Uh L (pv 1) (G0 (Ga (GE (Ut K) (pv 3) Gg (λ_ _=>rfl)) (Ga (GE (Ut K) (pv 3) Gg (λ_ _=>rfl)) Gd))) (pv 2) rfl))))
    (Gf (Gs (pv 1)))),?_⟩
  refine λd Z=>?_;have s1:Same H (upd H d (.dT [])):=Same.new Z;refine ⟨_,rfl,wb,_,_,_,rfl,rfl,SqT.of (s1 _ _ W.w),GD (j:=1) rfl,l,xs,rfl,SqL.of (s1 _ _ W.l),?_⟩;refine UF (K:=K) (a:=l) (xs:=xs) (λi σ H2=>∃(v2 v3:Option V)(kvs:List (List Key×V)),σ=[some (.ref wb),some (.ref d),v2,v3]/\Same H H2/\H2 d=some (.dT kvs)/\kvs.length<=2 * i/\∀p q,JJ kvs (ky p q)=J9 rs p q i)
   ⟨none,none,[],rfl,s1,Gb,Ybc _,λ_ _=>rfl⟩ (λi σ H2 _ ⟨_,_,_,_,D,_⟩=>SqL.of (D _ _ W.l)) ?_ ?_
  ·rintro i x σ H2 T N ⟨v2,v3,kvs,rfl,D,O,len,val⟩ hT;obtain ⟨t,r,rfl,et,er⟩:=(W.same D).p.get N;have hi:i<xs.length:=(Ybf.mp N).1;have s3:Same H (upd H2 T (.tup [.int (i:Nat),.ref t])):=D.put (D.free hT);have G:Same H2 (upd H2 T (.tup [.int (i:Nat),.ref t])):=Same.new hT;have U:d≠T:=Gh O hT;refine ⟨T,_,rfl,SqT.of Gb,rfl,_,_,rfl,_,_,rfl,rfl,?_⟩;refine ⟨_,rfl,_,rfl,_,rfl,d,_,rfl,DPut.t (k:=ky r.1 r.2) (Gq O U) (G _ _ et) (by lia),?_⟩;have s4:=s3.put (o:=.dT (Uu kvs (ky r.1 r.2) (.int (i:Nat)))) Z;have Y:upd (upd H2 T (.tup [.int (i:Nat),.ref t])) d (.dT (Uu kvs (ky r.1 r.2) (.int (i:Nat)))) t=some (.tup [.int r.1,.int r.2]):=Gq (G _ _ et) (J4 (G _ _ et) (Gq O U) (λz=>by cases z));have ae:=Jo kvs (ky r.1 r.2) (.int (i:Nat));refine ⟨_,rfl,_,rfl,_,rfl,t,_,_,_,rfl,rfl,SqT.of Y,GD (j:=1) rfl,_,rfl,t,_,_,_,rfl,rfl,SqT.of Y,GD (j:=0) rfl,(by show 2<=sizeLine;decide),λu hu=>?_⟩;have ac:d≠u:=λz=>by rw [<-z,Gb] at hu;cases hu
   refine ⟨d,_,rfl,DPut.t (k:=ky r.2 r.1) (Gq Gb ac) Gb (by lia),?_⟩;refine ⟨_,_,_,rfl,((s4.put (s4.free hu)).put Z),Gb,?_,λp q=>?_⟩
   ·have:=Jo (Uu kvs (ky r.1 r.2) (.int (i:Nat))) (ky r.2 r.1) (.int (i:Nat))
    lia
   ·rw [UE,UE,val p q];have e:rs.getD i (0,0)=r:=by rw [Yai,er];rfl
    show _=if rs.getD i (0,0)=(p,q)\/rs.getD i (0,0)=(q,p) then some (V.int (i:Nat)) else J9 rs p q i
    rw [e];obtain ⟨r1,r2⟩:=r;by_cases h1:p=r2/\q=r1
    ·rw [if_pos (ky_inj.mpr h1),if_pos (.inr (by rw [h1.1,h1.2]))]
    ·rw [if_neg λz=>h1 (ky_inj.mp z)];by_cases h2:p=r1/\q=r2
     ·rw [if_pos (ky_inj.mpr h2),if_pos (.inl (by rw [h2.1,h2.2]))]
     ·rw [if_neg λz=>h2 (ky_inj.mp z),if_neg];rintro (z | z)
      ·injection z with z1 z2
       exact h2 ⟨z1.symm,z2.symm⟩
      ·injection z with z1 z2
       exact h1 ⟨z2.symm,z1.symm⟩
  ·rintro σ H2 ⟨v2,v3,kvs,rfl,D,O,len,val⟩;rw [W.p.len] at val;exact ⟨_,rfl,q d H2 kvs D Z O val⟩
def Gx (ns:List Int)(c:Bool):List (Int×Int):=ns.zip (ns.drop 1)++(if c=true then [(ns.getD (ns.length-1) 0,ns.getD 0 0)] else [])
def Zeu:Sp:=λvs H Q _=>∃(pl:Addr)(ns:List Int)(c:Bool),vs=[.ref pl,.bl c]/\H pl=some (.lst (ns.map V.int))/\ns.length<=300/\(c=true->ns≠[]) /\
 ∀(S:Addr)(ws:List V)(H':Hp),Same H H'->H S=none->H' S=some (.lst ws)->Prs H' ws (Gx ns c)->Q (.ref S) H'
theorem scSte:Gp ["places", "closed", "steps"] ["places", "closed"] (Ge Zf9):=⟨rfl,rfl,rfl,by decide +kernel,rfl,by decide +kernel,by decide +kernel⟩
theorem XY {ns:List Int}(h:ns≠[]):atI (ns.map V.int) (-1)=some (.int (ns.getD (ns.length-1) 0)):=by
 have B:0<ns.length:=List.length_pos_iff.mpr h;have e:ixN (ns.map V.int).length (-1)=some (ns.length-1):=by
  unfold ixN;rw [if_neg (by decide),Yaa,if_pos (by lia)]
  congr 1
  lia
 unfold atI;rw [e];show (ns.map V.int)[ns.length-1]?=_;rw [Yau,Yah (show ns.length-1<ns.length by lia),Yai,Yah (show ns.length-1<ns.length by lia)]
 rfl
theorem JS {ns:List Int}{i:Int}(h0:0<=i)(h1:i<ns.length):atI (ns.map V.int) i=some (.int (ns.getD i.toNat 0)):=by
 obtain ⟨k,rfl⟩:=Int.eq_ofNat_of_zero_le h0;have B:k<ns.length:=by lia
 refine GD ?_;show (ns.map V.int)[k]?=some (.int (ns.getD k 0));rw [Yau,Yai,Yah B]
 rfl
theorem Zdq {f:Addr}{fd:FuncData}(F:Fun K "steps_of" "steps_of" Zf9 f fd)(G:mg "list" = none)(L:mg "zip" = none):GJ P w K mg base CX0 1 f fd ["places", "closed"] Zeu:=by
 refine F.ok scSte (λvs H Q E h=>?_) (λac A Z s H vs Q E hr h=>?_)
 ·obtain ⟨_,_,_,rfl,_⟩:=h
  rfl
 ·obtain ⟨pl,ns,c,rfl,Y,hn,hc,q⟩:=h;have ad:=Yay.symm;refine ⟨_,Gc (Gm (i:=2) scSte.nd rfl (Or.inl rfl) (Ze K rfl rfl G rfl L (Ga (pv 0) (Ga (Oj (kSl K) (pv 0) (OG Gg) UX) Gd))))
    (Gc (Jn (JL (pv 1)) (Gf (Jq (OU Ydd Ydj Ydk G5 (pv 2) (Ga (G0 (Ga (GE (U3 K) (pv 0) (Xy OI Gg) (λ_ _=>rfl)) (Ga (GE (U3 K) (pv 0) Gg (λ_ _=>rfl)) Gd))) Gd)))) Gz)
    (Gf (Gs (pv 2)))),?_⟩
  refine ⟨_,rfl,_,rfl,_,rfl,pl,_,rfl,SqL.of Y,λp2 aa=>?_⟩;have s1:Same H (upd H p2 (.lst (WG (ns.map V.int) (some 1) none))):=Same.new aa;have ec:WG (ns.map V.int) (some 1) none=(ns.drop 1).map V.int:=by rw [show (some (1:Int))=some ((1:Nat):Int) from rfl,Yr,List.map_drop]
  refine ⟨pl,p2,ns,ns.drop 1,rfl,SqL.of (s1 _ _ Y),by rw [<-ec];exact SqL.of Gb,by lia,λS ws H2 s2 hS N pS=>?_⟩;have B:=s1.trans s2;have D:=s1.free hS;have ae:ws.length<=300:=by rw [pS.len,List.length_zip];lia
  refine ⟨_,rfl,c,rfl,?_⟩;refine OA (λz=>?_) (λz=>?_)
  ·have O:=hc z;have ab:0<ns.length:=List.length_pos_iff.mpr O;refine ⟨_,rfl,.inl ⟨rfl,_,SqL.of N⟩,_,rfl,_,rfl,pl,_,_,_,rfl,rfl,SqL.of (B _ _ Y),XY O,_,rfl,pl,_,_,_,rfl,rfl,SqL.of (B _ _ Y),JS (i:=0) (by decide) (by lia),(by show 2<=sizeLine;decide),λt ht=>?_⟩;have U:S≠t:=Gh N ht;refine ⟨S,_,_,rfl,rfl,Gq N U,by lia,?_⟩;have s3:=(B.put (o:=.tup [.int (ns.getD (ns.length-1) 0),.int (ns.getD 0 0)]) (B.free ht));refine ⟨_,rfl,q S _ _ (s3.put D) D Gb ?_⟩;unfold Gx;rw [if_pos z];have tg:∀p ys,(upd H2 t (.tup [.int (ns.getD (ns.length-1) 0),.int (ns.getD 0 0)])) p=some (.tup ys)->(upd (upd H2 t (.tup [.int (ns.getD (ns.length-1) 0),.int (ns.getD 0 0)])) S (.lst (ws++[.ref t]))) p=some (.tup ys):=λp ys e=>Gq e (J4 e (Gq N U) (λz=>by cases z));exact Prs.keep (Prs.snoc (pS.same (Same.new ht)) Gb) tg
  ·refine ⟨_,rfl,q S ws H2 B D N ?_⟩;unfold Gx;rw [if_neg z,Ybr];exact pS
def Adj (rs:List (Int×Int))(p q:Int):Prop:=(p,q)∈rs\/(q,p)∈rs
theorem OK (rs:List (Int×Int))(p q:Int):∀i,(J9 rs p q i).isSome=true↔∃j,j<i/\(rs.getD j (0,0)=(p,q)\/rs.getD j (0,0)=(q,p))
 | 0=>⟨λh=>(by cases h),λ⟨j,hj,_⟩=>absurd hj (Nat.not_lt_zero j)⟩
 | i+1=>by
  have ih:=OK rs p q i;show (if rs.getD i (0,0)=(p,q)\/rs.getD i (0,0)=(q,p) then some (V.int (i:Nat)) else J9 rs p q i).isSome=true↔_;by_cases z:rs.getD i (0,0)=(p,q)\/rs.getD i (0,0)=(q,p)
  ·rw [if_pos z];exact ⟨λ_=>⟨i,Nat.lt_succ_self i,z⟩,λ_=>rfl⟩
  ·rw [if_neg z,ih];constructor
   ·rintro ⟨j,hj,e⟩;exact ⟨j,Ydt hj,e⟩
   ·rintro ⟨j,hj,e⟩;refine ⟨j,?_,e⟩;rcases Nat.lt_or_ge j i with h | h
    ·exact h
    ·have:j=i:=by lia
     subst this;exact absurd e z
theorem Wb (rs:List (Int×Int))(p q:Int):(J9 rs p q rs.length).isSome=true↔Adj rs p q:=by
 rw [OK];constructor
 ·rintro ⟨j,B,e⟩;have D:rs.getD j (0,0)∈rs:=by
   rw [Yai,Yah B];exact Ycd B
  rcases e with e | e
  ·exact .inl (e▸D)
  ·exact .inr (e▸D)
 ·rintro (h | h)
  ·obtain ⟨j,B,e⟩:=Yby h;exact ⟨j,B,.inl (by rw [Yai,Yah B];exact e)⟩
  ·obtain ⟨j,B,e⟩:=Yby h;exact ⟨j,B,.inr (by rw [Yai,Yah B];exact e)⟩
theorem ZaY (ns:List Int):∀i,i<=ns.length->((PyProof.Rows.firstMet (λi=>ns.getD i 0) i).length=i↔(ns.take i).Nodup)
 | 0,_=>⟨λ_=>by rw [List.take_zero];exact Yec,λ_=>rfl⟩
 | i+1,h=>by
  have ih:=ZaY ns i (by lia);have G:i<ns.length:=by lia
  have N:=PyProof.Rows.firstMet_length_le (λi=>ns.getD i 0) i;have O:ns.getD i 0=ns[i]:=by rw [Yai,Yah G];rfl
  have D:((List.range i).map λi=>ns.getD i 0)=ns.take i:=by
   refine List.ext_getElem (by rw [Yaa,Ycb,Ybn];lia) λj h1 h2=>?_;rw [Yaa,Ycb] at h1;rw [List.getElem_map,List.getElem_range,List.getElem_take,Yai,Yah (by lia)]
   rfl
  have F:=PyProof.Rows.firstMet_any (λi=>ns.getD i 0) i (ns.getD i 0);rw [D] at F;have B:((ns.take i).any (· == ns.getD i 0))=decide (ns[i]∈ns.take i):=by
   rw [O];by_cases z:ns[i]∈ns.take i
   ·rw [Yae z];exact List.any_eq_true.mpr ⟨_,z,by simp⟩
   ·rw [Yak z];refine List.any_eq_false.mpr λy U e=>z ?_;have:y=ns[i]:=by simpa using e
    exact this▸U
  rw [PyProof.Rows.firstMet_succ,Ybw,Yah G];show _↔(ns.take i++[ns[i]]).Nodup;have Y:(ns.take i++[ns[i]]).Nodup↔(ns.take i).Nodup/\ns[i] ∉ ns.take i:=by
   rw [Ycu];constructor
   ·rintro ⟨h1,_,Z⟩;exact ⟨h1,λz=>Z _ z _ (Yas.mpr rfl) rfl⟩
   ·rintro ⟨h1,h2⟩;refine ⟨h1,List.nodup_cons.mpr ⟨List.not_mem_nil,Yec⟩,λa ha b L e=>?_⟩;rw [Yas] at L;subst L;exact h2 (e▸ha)
  rw [Y,<-ih];by_cases z:ns[i]∈ns.take i
  ·rw [B,Yae z] at F;unfold PyProof.Rows.step_dedup;rw [if_pos F];exact ⟨λe=>by lia,λe=>absurd z e.2⟩
  ·rw [B,Yak z] at F;unfold PyProof.Rows.step_dedup;rw [if_neg (by rw [F];decide)];have el:∀(l:List Int)(x:Int),(l++[x]).length=l.length+1:=λl x=>by rw [Yan,Ybl]
   first
    | (rw [el];exact ⟨λe=>⟨by lia,z⟩,λe=>by have:=e.1;lia⟩)
    | (rw [Ybi];exact ⟨λe=>⟨by lia,z⟩,λe=>by have:=e.1;lia⟩)
theorem ZaZ (ns:List Int):(PyProof.Rows.firstMet (λi=>ns.getD i 0) ns.length).length=ns.length↔ns.Nodup:=by
 have h:=ZaY ns ns.length (Yac _);rw [Yce] at h;exact h
def Zu (rs:List (Int×Int))(ns:List Int)(c:Bool):Prop:=(∀t∈Gx ns c,Adj rs t.1 t.2)/\ns.Nodup
def Zgg:Sp:=λvs H Q _=>∃(B l pl:Addr)(k:Int)(xs:List V)(rs:List (Int×Int))(ns:List Int)(c:Bool),vs=[.ref B,.ref pl,.bl c]/\WebAt H B l k xs rs/\xs.length<=200/\H pl=some (.lst (ns.map V.int))/\ns.length<=300/\(c=true->ns≠[]) /\
 ∀(b:Bool)(H':Hp),Same H H'->(b=true↔Zu rs ns c)->Q (.bl b) H'
theorem scOnc:Gp ["web", "places", "closed", "numbers", "by_roads"] ["web", "places", "closed"] (Ge Zga):=⟨rfl,rfl,rfl,by decide +kernel,rfl,by decide +kernel,by decide +kernel⟩
theorem Zgh {f fU fV:Addr}{fd O U:FuncData}(F:Fun K "goes_once" "goes_once" Zga f fd)(FU:Fun K "numbers_by_step" "numbers_by_step" Ze8 fU O)(bU:Binds K O ["web"] [])(mU:mg "numbers_by_step" = some (.ref fU))(FV:Fun K "steps_of" "steps_of" Zf9 fV U)(bV:Binds K U ["places", "closed"] [])(mV:mg "steps_of_ways" = some (.ref fV))(Y:mg "enumerate" = none)(aa:mg "list" = none)(ab:mg "zip" = none)(ac:mg "all" = none)(ad:mg "set" = none)(L:mg "len" = none):GJ P w K mg base CX0 2 f fd ["web", "places", "closed"] Zgg:=by
 have GU:GJ P w K mg base CX0 1 fU O ["web"] Zet:=Zdp FU Y;have GV:GJ P w K mg base CX0 1 fV U ["places", "closed"] Zeu:=Zdq FV aa ab;refine F.ok scOnc (λvs H Q E h=>?_) (λaf A ag s H vs Q E hr h=>?_)
 ·obtain ⟨_,_,_,_,_,_,_,_,rfl,_⟩:=h
  rfl
 ·obtain ⟨wb,l,pl,k,xs,rs,ns,c,rfl,W,hx,hp,hn,hc,q⟩:=h;have ah:(A.deeper (PyProof.Rows.envOfC "goes_once" (Ge Zga) s.heap.objs.size f af)).units+1<cLine:=by have:=hr.un;lia
  have al:=Yay.symm;refine ⟨_,Gc (Gm (i:=3) scOnc.nd rfl (Or.inr rfl) (Gj GU (hr.mono (by decide)) rfl mU FU.kp bU .nil GP (Ga (pv 0) Gd)))
    (Gc (Gm (i:=4) scOnc.nd rfl (Or.inl rfl) (Gu (Zix K rfl) rfl ac V0 (Ga (Jd (own:=["step"]) rfl (Gk (fr:=[("numbers", 3)]) [(".0", .local),("step", .local),("numbers", .cell)] rfl rfl (by decide +kernel) rfl (by decide +kernel) ⟨rfl,trivial⟩ ⟨λh=>GG h,λh=>GG h,λ_=>⟨_,rfl⟩,trivial⟩ ⟨⟨rfl,.inl rfl,.inl rfl⟩,trivial⟩) (Oy K (Gj GV (hr.mono (by decide)) rfl mV FV.kp bV .nil GP (Ga (pv 1) (Ga (pv 2) Gd)))) (λ_ _ _ _=>Gi (i:=0) (show List.Nodup (["step", "numbers"]:List Str) by decide +kernel) rfl (Or.inl rfl)) (λ_ _ _ _=>JB) (λ_ _ _ _=>Zfm (Zdd ah (pv 0) (pv 1)) rfl)) Gd)))
    (Gf (Gs (Zc5 (pv 4) (ZK (Jr UV (Gu Zeb rfl L Yde (Ga (Jk (Zhy K rfl) rfl ad Zb0 (Ga (pv 1) Gd)) Gd)) (Gu (Zd7 K) rfl L Yde (Ga (pv 1) Gd)) (Gv _))))))),?_⟩
  refine ⟨_,rfl,wb,l,k,xs,rs,rfl,W,hx,λd H1 kvs s1 hd ed val=>?_⟩;refine ⟨_,rfl,_,rfl,pl,ns,c,rfl,s1 _ _ hp,hn,hc,λS ws H2 s2 hS eS pS=>?_⟩;have ai:=s1.trans s2;have aj:=s2 _ _ ed;have am:ws.length<=302:=by
   rw [pS.len];unfold Gx;rw [Yan,List.length_zip];split <;> simp <;> lia
  refine ⟨S,rfl,⟨_,SqL.of eS⟩,λD hD=>?_⟩;refine GF (K:=K) (a:=S) (xs:=ws) (λi ys Z=>Same H2 Z/\Z D=some (.lst ys)/\ys=(((Gx ns c).take i).map λt=>(J9 rs t.1 t.2 rs.length).isSome).map V.bl) ⟨Same.new hD,Gb,rfl⟩ (λi ys Z _ ⟨s3,_⟩=>SqL.of (s3 _ _ eS)) ?_ ?_
  ·rintro i x ys Z ae ⟨s3,B,rfl⟩;obtain ⟨t,r,rfl,et,er⟩:=(pS.same s3).get ae;have hi:i<ws.length:=(Ybf.mp ae).1;refine ⟨⟨rfl,trivial⟩,?_⟩;unfold ZbJ;refine JQ ?_;refine ⟨_,rfl,_,rfl,d,_,rfl,DGet.t (k:=ky r.1 r.2) (s3 _ _ aj) et,B,?_,s3.put hD,Gb,?_⟩
   ·rw [Yaa,Yaa,Ybn]
    lia
   ·rw [Ybw,er,Yal,Yal,val r.1 r.2]
    rfl
  rintro ys Z ⟨s3,B,rfl⟩;rw [pS.len,Yce] at B;refine ⟨D,_,rfl,SqL.of B,?_⟩;refine ⟨_,rfl,_,rfl,?_⟩;have G:=ai.trans s3;have N:(((Gx ns c).map λt=>(J9 rs t.1 t.2 rs.length).isSome).all id=true)↔∀t∈Gx ns c,Adj rs t.1 t.2:=by
   rw [List.all_eq_true];constructor
   ·intro h t ht;exact (Wb rs t.1 t.2).mp (h _ (Yam.mpr ⟨t,ht,rfl⟩))
   ·intro h y hy;obtain ⟨t,ht,rfl⟩:=Yam.mp hy;exact (Wb rs t.1 t.2).mpr (h t ht)
  refine OA (λz=>?_) (λz=>?_)
  ·refine ⟨_,rfl,pl,ns,rfl,SqL.of (G _ _ hp),by lia,λse ak=>?_⟩;have s4:Same Z (upd Z se (.set (λk'=>(PyProof.Rows.firstMet (λi=>ns.getD i 0) ns.length).any (· == k')) (PyProof.Rows.firstMet (λi=>ns.getD i 0) ns.length).length)):=Same.new ak;have an:=PyProof.Rows.firstMet_length_le (λi=>ns.getD i 0) ns.length;refine ⟨se,_,_,rfl,Gb,by lia,_,rfl,pl,_,rfl,.inl (SqL.of (s4 _ _ (G _ _ hp))),rfl,?_⟩;refine q _ _ (G.trans s4) ?_;rw [Yaa];constructor
   ·intro e;have e1:=Yba e;have e2:(PyProof.Rows.firstMet (λi=>ns.getD i 0) ns.length).length=ns.length:=by
     have:=V.int.inj e1
     lia
    exact ⟨N.mp z,(ZaZ ns).mp e2⟩
   ·rintro ⟨_,nd⟩;rw [(ZaZ ns).mpr nd];exact Yae rfl
  ·exact q _ _ G ⟨λe=>(by cases e),λo=>absurd (N.mpr o.1) z⟩
theorem JA {ns:List Int}{i:Nat}(h:i<ns.length):ns.getD i 0=ns[i]:=by
 rw [Yai,Yah h]
 rfl
theorem zip_mem {ns:List Int}{t:Int×Int}:t∈ns.zip (ns.drop 1)↔∃j,j+1<ns.length/\t=(ns.getD j 0,ns.getD (j+1) 0):=by
 constructor
 ·intro h;obtain ⟨j,B,e⟩:=Yby h;rw [List.length_zip,Yct] at B;have h1:j+1<ns.length:=by lia
  refine ⟨j,h1,?_⟩;rw [<-e,List.getElem_zip,List.getElem_drop,JA (by lia),JA h1]
  congr 2
  lia
 ·rintro ⟨j,B,rfl⟩;have h1:j<(ns.zip (ns.drop 1)).length:=by rw [List.length_zip,Yct];lia
  have e:(ns.zip (ns.drop 1))[j]=(ns.getD j 0,ns.getD (j+1) 0):=by
   rw [List.getElem_zip,List.getElem_drop,JA (by lia),JA B]
   congr 2
   lia
  rw [<-e];exact Ycd h1
theorem Wc {ns:List Int}{i:Nat}(h:i<ns.length):ns.getD i 0∈ns:=by
 rw [JA h];exact Ycd h
theorem JT {ns:List Int}(B:ns.Nodup){i j:Nat}(hi:i<ns.length)(D:j<ns.length)(h:i≠j):ns.getD i 0≠ns.getD j 0:=by
 rw [JA hi,JA D];exact λe=>h ((List.getElem_inj B).mp e)
def Mt (rs:List (Int×Int))(p q:Int)(j:Nat):Prop:=rs.getD j (0,0)=(p,q)\/rs.getD j (0,0)=(q,p)
theorem O3 {rs:List (Int×Int)}{j:Nat}(h:j<rs.length):rs.getD j (0,0)∈rs:=by
 rw [Yai,Yah h];exact Ycd h
theorem U9 {rs:List (Int×Int)}(B:rs.Nodup){i j:Nat}(hi:i<rs.length)(D:j<rs.length)(h:rs.getD i (0,0)=rs.getD j (0,0)):i=j:=by
 rw [Yai,Yah hi,Yai,Yah D] at h;exact (List.getElem_inj B).mp h
theorem Zgi {k:Int}{rs:List (Int×Int)}(g:G4 k rs){p q:Int}{i j:Nat}(hi:i<rs.length)(F:j<rs.length)(a:Mt rs p q i)(b:Mt rs p q j):i=j:=by
 have B:=(g.2.2.2.1 _ (O3 hi)).2.1;have D:=(g.2.2.2.1 _ (O3 F)).2.1;rcases a with a | a <;> rcases b with b | b
 ·exact U9 g.2.2.2.2 hi F (a.trans b.symm)
 ·rw [a] at B;rw [b] at D;dsimp only at B D;lia
 ·rw [a] at B;rw [b] at D;dsimp only at B D;lia
 ·exact U9 g.2.2.2.2 hi F (a.trans b.symm)
theorem Va {k:Int}{rs:List (Int×Int)}(g:G4 k rs){p q:Int}{j:Nat}(m:Mt rs p q j):∀i,j<i->i<=rs.length->J9 rs p q i=some (.int (j:Nat))
 | 0,h,_=>absurd h (Nat.not_lt_zero j)
 | i+1,h,hl=>by
  show (if rs.getD i (0,0)=(p,q)\/rs.getD i (0,0)=(q,p) then some (V.int (i:Nat)) else J9 rs p q i)=_;by_cases z:rs.getD i (0,0)=(p,q)\/rs.getD i (0,0)=(q,p)
  ·rw [if_pos z,Zgi g (i:=i) (j:=j) (by lia) (by lia) z m]
  ·rw [if_neg z];refine Va g m i ?_ (by lia);rcases Nat.lt_or_ge j i with h' | h'
   ·exact h'
   ·have:j=i:=by lia
    subst this;exact absurd m z
theorem Zdr {rs:List (Int×Int)}{p q:Int}(h:Adj rs p q):∃j,j<rs.length/\Mt rs p q j:=by
 obtain ⟨j,B,e⟩:=(OK rs p q rs.length).mp ((Wb rs p q).mpr h);exact ⟨j,B,e⟩
def Wv (rs:List (Int×Int))(t:Int×Int):Int:=match J9 rs t.1 t.2 rs.length with
 | some (.int j)=>j
 | _=>0
theorem Za0 {k:Int}{rs:List (Int×Int)}(g:G4 k rs){t:Int×Int}{j:Nat}(B:j<rs.length)(m:Mt rs t.1 t.2 j):Wv rs t=(j:Int):=by
 unfold Wv;rw [Va g m rs.length B (Yac _)]
theorem Zds {ns:List Int}{i:Nat}(h:i+1<ns.length)(hz:i<(ns.zip (ns.drop 1)).length):(ns.zip (ns.drop 1))[i]=(ns.getD i 0,ns.getD (i+1) 0):=by
 rw [List.getElem_zip,List.getElem_drop,JA (by lia),JA h]
 congr 2
 lia
theorem Zv {ns:List Int}{c:Bool}(B:ns.Nodup)(G:c=true->3<=ns.length):(Gx ns c).Pairwise (λt u=>¬ (t=u\/t=(u.2,u.1))):=by
 unfold Gx;have U:(ns.zip (ns.drop 1)).length=ns.length-1:=by rw [List.length_zip,Yct];lia
 have D:(ns.zip (ns.drop 1)).Pairwise (λt u=>¬ (t=u\/t=(u.2,u.1))):=by
  rw [Yez];intro i j hi L N;rw [Zds (by lia) hi,Zds (by lia) L];rintro (e | e)
  ·injection e with e1 e2
   exact JT B (i:=i) (j:=j) (by lia) (by lia) (by lia) e1
  ·injection e with e1 e2
   exact JT B (i:=i) (j:=j+1) (by lia) (by lia) (by lia) e1
 cases c with
 | false=>rw [if_neg (by decide),Ybr];exact D
 | true=>
  have Y:=G rfl;rw [if_pos rfl,Ycg];refine ⟨D,List.pairwise_singleton _ _,λt O u F=>?_⟩;rw [Yas] at F;subst F;obtain ⟨i,hi,rfl⟩:=zip_mem.mp O;rintro (e | e)
  ·injection e with e1 e2
   exact JT B (i:=i) (j:=ns.length-1) (by lia) (by lia) (by lia) e1
  ·injection e with e1 e2
   by_cases h0:i=0
   ·subst h0;exact JT B (i:=0+1) (j:=ns.length-1) (by lia) (by lia) (by lia) e2
   ·exact JT B (i:=i) (j:=0) (by lia) (by lia) h0 e1
theorem Zgj {rs:List (Int×Int)}(B:∀r∈rs,r.1<r.2)(x y:Int):((if y<x then y else x),(if y > x then y else x))∈rs↔Adj rs x y:=by
 unfold Adj;by_cases h1:y<x
 ·rw [if_pos h1,if_neg (show ¬ y > x by lia)];refine ⟨.inr,λh=>h.elim (λh=>?_) id⟩;have:=B _ h;dsimp only at this
  lia
 ·rw [if_neg h1];by_cases h2:y > x
  ·rw [if_pos h2];refine ⟨.inl,λh=>h.elim id (λh=>?_)⟩;have:=B _ h;dsimp only at this
   lia
  ·have e:x=y:=by lia
   subst e;rw [if_neg h2];exact ⟨.inl,λh=>h.elim id id⟩
theorem Zdt {k:Int}{rs:List (Int×Int)}(g:G4 k rs){x y:Int}(h:Adj rs x y):0<=y/\y<k:=by
 rcases h with h | h
 ·have:=g.2.2.2.1 _ h;dsimp only at this
  lia
 ·have:=g.2.2.2.1 _ h;dsimp only at this
  lia
def ZiC:Sp:=λvs H Q _=>∃(B l:Addr)(k p:Int),vs=[.ref B,.int p]/\H B=some (.tup [.int k,.ref l])/\Q (.bl (decide (0<=p/\p<k))) H
theorem Zji:Gp ["web", "place"] ["web", "place"] (Ge sIs):=⟨rfl,rfl,rfl,by decide +kernel,rfl,by decide +kernel,by decide +kernel⟩
theorem ZhL {f:Addr}{fd:FuncData}(F:Fun K "is_place" "is_place" sIs f fd):GJ P w K mg base CX0 1 f fd ["web", "place"] ZiC:=by
 refine F.ok Zji (λvs H Q E h=>?_) (λG A D s H vs Q E O h=>?_)
 ·obtain ⟨_,_,_,_,rfl,_⟩:=h
  rfl
 ·obtain ⟨L,l,k,p,rfl,N,q⟩:=h;refine ⟨_,Gf (Gs (ZbS Zhr Ud Gg (pv 1) (GE (Ut K) (pv 0) Gg (λ_ _=>rfl)))),?_⟩;refine ⟨_,rfl,_,_,rfl,rfl,_,rfl,OA (λh0=>?_) (λh0=>?_)⟩
  ·refine ⟨_,rfl,L,_,_,_,rfl,rfl,SqT.of N,GD (j:=0) rfl,_,_,rfl,rfl,?_⟩;have B:=Yba h0;have e:decide (p<k)=decide (0<=p/\p<k):=by
    by_cases h1:p<k
    ·rw [Yae h1,Yae (⟨B,h1⟩:0<=p/\p<k)]
    ·rw [Yak h1,Yak λz=>h1 z.2]
   show Q (.bl (decide (p<k))) H;rw [e];exact q
  ·have B:¬ 0<=p:=λz=>h0 (Yae z);have e:decide (0<=p/\p<k)=false:=Yak λz=>B z.1;rw [e] at q;exact q
def Zdu (rs:List (Int×Int))(ns:List Int):Prop:=3<=ns.length/\(∀x∈ns,ns.getD 0 0<=x)/\ns.getD 1 0<ns.getD (ns.length-1) 0/\Zu rs ns true
def Zgk:Sp:=λvs H Q _=>∃(B l pl:Addr)(k:Int)(xs:List V)(rs:List (Int×Int))(ns:List Int),vs=[.ref B,.ref pl]/\WebAt H B l k xs rs/\xs.length<=200/\H pl=some (.lst (ns.map V.int))/\ns.length<=300 /\
 ∀(b:Bool)(H':Hp),Same H H'->(b=true↔Zdu rs ns)->Q (.bl b) H'
theorem ZhM:Gp ["web", "places"] ["web", "places"] (Ge Zhf):=⟨rfl,rfl,rfl,by decide +kernel,rfl,by decide +kernel,by decide +kernel⟩
theorem Zgl {f U:Addr}{fd B:FuncData}(F:Fun K "is_closed" "is_closed" Zhf f fd)(FO:Fun K "goes_once" "goes_once" Zga U B)(bO:Binds K B ["web", "places", "closed"] [])(mO:mg "goes_once" = some (.ref U))(GO:GJ P w K mg base CX0 2 U B ["web", "places", "closed"] Zgg)(L:mg "len" = none)(N:mg "min" = none):GJ P w K mg base CX0 3 f fd ["web", "places"] Zgk:=by
 refine F.ok ZhM (λvs H Q E h=>?_) (λac A Y s H vs Q E hr h=>?_)
 ·obtain ⟨_,_,_,_,_,_,_,rfl,_⟩:=h
  rfl
 ·obtain ⟨wb,l,pl,k,xs,rs,ns,rfl,W,Z,G,hn,q⟩:=h;have ad:=Yay.symm;have no:¬ Zdu rs ns->Q (.bl false) H:=λz=>q false H (Same.refl _) ⟨λe=>(by cases e),λr=>absurd r z⟩;refine ⟨_,Gc (Jn (PW.pt (OF (Go Ud (Gu (Zd7 K) rfl L Yde (Ga (pv 1) Gd)) Gg (Gv _)) (OF (Go ZbQ (GE (U3 K) (pv 1) Gg (λ_ _=>rfl)) (Gu (Zjd K rfl) rfl N WT (Ga (pv 1) Gd)) (Gv _)) (Oz (Go Zfs (GE (U3 K) (pv 1) Gg (λ_ _=>rfl)) (GE (U3 K) (pv 1) (Xy OI Gg) (λ_ _=>rfl)) (Gv _)))))) (Gf (Gs Xw)) Gz)
    (Gf (Gs (Gj GO (hr.mono (by decide)) rfl mO FO.kp bO .nil GP (Ga (pv 0) (Ga (pv 1) (Ga Xw Gd)))))),?_⟩
  refine ⟨_,rfl,pl,_,rfl,.inl (SqL.of G),_,_,rfl,rfl,_,rfl,?_⟩;rw [Yaa];refine OA (λz=>no λr=>?_) (λz=>?_)
  ·have:=Yba z;have:=r.1
   lia
  have h3:3<=ns.length:=by
   have:¬ ((ns.length:Int)<3):=λy=>z (Yae y)
   lia
  have D:ns≠[]:=λe=>by rw [e] at h3;exact absurd h3 (by decide)
  refine ⟨_,rfl,pl,_,_,_,rfl,rfl,SqL.of G,JS (i:=0) (by decide) (by lia),_,rfl,pl,ns,rfl,SqL.of G,D,λm hm hl=>⟨rfl,_,rfl,?_⟩⟩;refine OA (λz=>no λr=>?_) (λz=>?_)
  ·have aa:=r.2.1 m hm;have ab:=hl _ (Wc (show 0<ns.length by lia));have e:ns.getD 0 0=m:=Int.le_antisymm aa ab;have O:(!decide (V.int (ns.getD (0:Int).toNat 0)=V.int m))=true:=z;rw [show (0:Int).toNat=0 from rfl,e,Yae rfl] at O;cases O
  have e0:ns.getD 0 0=m:=by
   by_cases y:ns.getD 0 0=m
   ·exact y
   ·exfalso;apply z;show (!decide (V.int (ns.getD 0 0)=V.int m))=true;rw [Yak λe=>y (V.int.inj e)]
    rfl
  refine ⟨_,rfl,pl,_,_,_,rfl,rfl,SqL.of G,JS (i:=1) (by decide) (by lia),_,rfl,_,rfl,pl,_,_,_,rfl,rfl,SqL.of G,XY D,_,_,rfl,rfl,_,rfl,?_⟩;refine OA (λz=>no λr=>?_) (λz=>?_)
  ·have O:=Yba z;have:=r.2.2.1;rw [show (1:Int).toNat=1 from rfl] at O
   lia
  have h1:ns.getD 1 0<=ns.getD (ns.length-1) 0:=by
   have:¬ (ns.getD (ns.length-1) 0<ns.getD (1:Int).toNat 0):=λy=>z (Yae y);rw [show (1:Int).toNat=1 from rfl] at this
   lia
  refine ⟨_,rfl,_,rfl,wb,l,pl,k,xs,rs,ns,true,rfl,W,Z,G,hn,λ_=>D,λb H1 s1 hb=>q b H1 s1 ?_⟩;rw [hb];refine ⟨λo=>⟨h3,λx Z=>by rw [e0];exact hl x Z,?_,o⟩,λr=>r.2.2.2⟩;have:=JT o.2 (i:=1) (j:=ns.length-1) (by lia) (by lia) (by lia)
  lia
def Jw (p q:Int):Int×Int:=((if q<p then q else p),(if q > p then q else p))
theorem JC {B:List (Int×Int)}(D:∀r∈B,r.1<r.2)(x y:Int):Jw x y∈B↔Adj B x y:=Zgj D x y
def hit (p:Int)(t:Int×Int):Nat:=(if t.1=p then 1 else 0)+(if t.2=p then 1 else 0)
theorem Zgm (p x y:Int):hit p (Jw x y)=hit p (x,y):=by
 unfold hit Jw;dsimp only;by_cases h1:y<x
 ·rw [if_pos h1,if_neg (show ¬ y > x by lia)];exact Nat.add_comm _ _
 ·rw [if_neg h1];by_cases h2:y > x
  ·rw [if_pos h2]
  ·rw [if_neg h2,show x=y by lia]
def ZcF (p:Int)(B:List (Int×Int)):Nat:=(B.map (hit p)).sum
theorem Vb {p:Int}{B ms:List (Int×Int)}(h:B.Perm ms):ZcF p B=ZcF p ms:=(h.map (hit p)).sum_nat
theorem Xf (p:Int)(t:Int×Int)(B:List (Int×Int)):ZcF p (t::B)=hit p t+ZcF p B:=by unfold ZcF;rw [Yat,List.sum_cons]
def Ja (ns:List Int):List (Int×Int):=(ns.zip (ns.drop 1)).map λt=>Jw t.1 t.2
theorem GX (a b:Int)(tl:List Int):Ja (a::b::tl)=Jw a b::Ja (b::tl):=rfl
def OL (p q:Int):Nat:=if p=q then 1 else 0
theorem Um (p:Int):∀(tl:List Int)(a:Int),ZcF p (Ja (a::tl))+OL a p+OL ((a::tl).getD tl.length 0) p=2 * (a::tl).count p
 | [],a=>by
  show 0+OL a p+OL a p=2 * List.count p [a];unfold OL;by_cases h:a=p
  ·rw [if_pos h,h,List.count_singleton_self]
  ·rw [if_neg h,List.count_eq_zero_of_not_mem (λz=>h (Yas.mp z).symm)]
 | b::tl,a=>by
  have ih:=Um p tl b;rw [GX,Xf,Zgm];show hit p (a,b)+ZcF p (Ja (b::tl))+OL a p+OL ((b::tl).getD tl.length 0) p=_;rw [List.count_cons];have B:hit p (a,b)=OL a p+OL b p:=rfl;have D:(if (a == p)=true then 1 else 0)=OL a p:=by
   unfold OL;by_cases h:a=p
   ·rw [if_pos h,if_pos (by rw [h];exact Yei p)]
   ·rw [if_neg h,if_neg (by rw [Ybo];exact h)]
  rw [B,D]
  lia
inductive Wk:List (Int×Int)->Int->List Int->List (Int×Int)->Prop
 | stop {ls:List (Int×Int)} {p:Int}:(∀q,¬ Adj ls p q)->Wk ls p [] ls
 | go {ls rest:List (Int×Int)} {p q:Int} {row:List Int}:Adj ls p q->(∀q',Adj ls p q'->q<=q')->Wk (ls.erase (Jw p q)) q row rest->Wk ls p (q::row) rest
theorem Wk.det {D F:List (Int×Int)}{p:Int}{r1:List Int}(h:Wk D p r1 F):∀{B:List Int}{e2:List (Int×Int)},Wk D p B e2->r1=B:=by
 induction h with
 | stop n=>
  intro B e2 k;cases k with
  | stop _=>rfl
  | go a _ _=>exact absurd a (n _)
 | go a l w ih=>
  intro B e2 k;cases k with
  | stop n=>exact absurd a (n _)
  | go a' l' w'=>
   have e:=Int.le_antisymm (l _ a') (l' _ a);subst e;rw [ih w']
theorem Wd {D:List (Int×Int)}{t:Int×Int}(B:∀r∈D,r.1<r.2):∀r∈D.erase t,r.1<r.2:=λr F=>B r (List.mem_of_mem_erase F)
theorem Wk.perm {F rest:List (Int×Int)}{p:Int}{B:List Int}(h:Wk F p B rest)(D:∀r∈F,r.1<r.2):F.Perm (Ja (p::B)++rest):=by
 induction h with
 | stop _=>exact List.Perm.refl _
 | @go F rest p q B a _ _ ih=>
  rw [GX];exact (List.perm_cons_erase ((JC D _ _).mpr a)).trans ((ih (Wd D)).cons _)
theorem VL (a:Int)(tl:List Int):(Ja (a::tl)).length=tl.length:=by
 unfold Ja;rw [Yaa,List.length_zip,Yct,Ybi]
 lia
theorem Wk.len {D rest:List (Int×Int)}{p:Int}{B:List Int}(h:Wk D p B rest)(F:∀r∈D,r.1<r.2):D.length=B.length+rest.length:=by
 rw [(h.perm F).length_eq,Yan,VL]
def Xg (rs:List (Int×Int))(ks:List Int):Prop:=ks.Pairwise (· < ·)/\∀x∈ks,0<=x/\x<(rs.length:Int)
def road (rs:List (Int×Int))(x:Int):Int×Int:=rs.getD x.toNat (0,0)
def cho (rs:List (Int×Int))(ks:List Int)(i:Nat):List (Int×Int):=((List.range i).filter λ(j:Nat)=>decide ((j:Int)∈ks)).map λ(j:Nat)=>rs.getD j (0,0)
theorem YF (rs:List (Int×Int))(ks:List Int)(i:Nat):cho rs ks (i+1)=cho rs ks i++(if (i:Int)∈ks then [rs.getD i (0,0)] else []):=by
 unfold cho;rw [List.range_succ,Ydv,Yal];by_cases h:(i:Int)∈ks
 ·rw [if_pos h,List.filter_cons,if_pos (Yae h)];rfl
 ·rw [if_neg h,List.filter_cons,if_neg (by rw [Yak h];decide)];rfl
theorem We {rs:List (Int×Int)}{ks:List Int}{t:Int×Int}(h:t∈cho rs ks rs.length):t∈rs:=by
 unfold cho at h;obtain ⟨j,B,rfl⟩:=Yam.mp h;exact O3 (Ybq.mp (Ybk.mp B).1)
theorem XZ (rs:List (Int×Int))(ks:List Int)(i:Nat):(cho rs ks i).length<=i:=by
 unfold cho;rw [Yaa];exact Ycc (Ych _ _) (Nat.le_of_eq Ycb)
theorem Vc {ks:List Int}(h:ks.Pairwise (· < ·)):ks.Nodup:=h.imp λB=>Int.ne_of_lt B
theorem Zdv {xs ys:List Int}(G:xs.Pairwise (· < ·))(L:ys.Pairwise (· < ·))(h:∀z,z∈xs↔z∈ys):xs=ys:=by
 induction xs generalizing ys with
 | nil=>
  cases ys with
  | nil=>rfl
  | cons y ys=>exact absurd ((h y).mpr (Yaz ..)) List.not_mem_nil
 | cons x xs ih=>
  cases ys with
  | nil=>exact absurd ((h x).mp (Yaz ..)) List.not_mem_nil
  | cons y ys=>
   have B:=Yed.mp G;have D:=Yed.mp L;have e:x=y:=by
    rcases Yar.mp ((h x).mp (Yaz ..)) with z | z
    ·exact z
    ·rcases Yar.mp ((h y).mpr (Yaz ..)) with u | u
     ·exact u.symm
     ·have:=D.1 _ z;have:=B.1 _ u
      lia
   subst e;rw [ih B.2 D.2 λz=>⟨λF=>?_,λF=>?_⟩]
   ·rcases Yar.mp ((h z).mp (Ybm _ F)) with u | u
    ·have:=B.1 _ F;lia
    ·exact u
   ·rcases Yar.mp ((h z).mpr (Ybm _ F)) with u | u
    ·have:=D.1 _ F;lia
    ·exact u
theorem X0 {rs:List (Int×Int)}{ks:List Int}(h:Xg rs ks):cho rs ks rs.length=ks.map (road rs):=by
 have e:((List.range rs.length).filter λ(j:Nat)=>decide ((j:Int)∈ks)).map (λ(j:Nat)=>(j:Int))=ks:=by
  refine Zdv ?_ h.1 λz=>?_
  ·rw [Yee];exact (List.pairwise_lt_range.filter _).imp λF=>by lia
  ·rw [Yam];constructor
   ·rintro ⟨j,G,rfl⟩;exact Yba (Ybk.mp G).2
   ·intro B;obtain ⟨D,z1⟩:=h.2 z B;exact ⟨z.toNat,Ybk.mpr ⟨Ybq.mpr (by lia),Yae (by rw [Int.toNat_of_nonneg D];exact B)⟩,Int.toNat_of_nonneg D⟩
 unfold cho
 conv=>rhs;rw [<-e]
 rw [Yca]
 rfl
theorem ZcG {k:Int}{rs:List (Int×Int)}(g:G4 k rs){t:Int×Int}(h:t∈rs)(p:Int):hit p t=if t.1=p\/t.2=p then 1 else 0:=by
 have:=g.2.2.2.1 t h;unfold hit;by_cases h1:t.1=p
 ·rw [if_pos h1,if_neg (by lia),if_pos (.inl h1)]
 ·rw [if_neg h1];by_cases h2:t.2=p
  ·rw [if_pos h2,if_pos (.inr h2)]
  ·rw [if_neg h2,if_neg (λz=>z.elim h1 h2)]
def Zhi (rs:List (Int×Int))(ks:List Int)(p:Int):Nat:=(ks.filter λx=>decide ((road rs x).1=p\/(road rs x).2=p)).length
theorem YG {rs:List (Int×Int)}{x:Int}(h:0<=x/\x<(rs.length:Int)):road rs x∈rs:=O3 (by lia)
theorem O4 {k:Int}{rs:List (Int×Int)}(g:G4 k rs)(p:Int):∀{ks:List Int},(∀x∈ks,0<=x/\x<(rs.length:Int))->Zhi rs ks p=ZcF p (ks.map (road rs))
 | [],_=>rfl
 | x::ks,h=>by
  have ih:=O4 g p (ks:=ks) λy B=>h y (Ybm _ B);have D:=ZcG g (YG (h x (Yaz ..))) p;rw [Yat,Xf,<-ih,D];unfold Zhi;rw [List.filter_cons];by_cases z:(road rs x).1=p\/(road rs x).2=p
  ·rw [if_pos (Yae z),if_pos z,Ybi,Nat.add_comm]
  ·rw [if_neg (by rw [Yak z];decide),if_neg z,Ydc]
theorem Zev {rs:List (Int×Int)}{p q:Int}{x:Int}(m:Mt rs p q x.toNat)(B:(road rs x).1<(road rs x).2):road rs x=Jw p q:=by
 unfold road at B ⊢;unfold Jw;rcases m with e | e
 ·rw [e] at B ⊢;dsimp only at B;rw [if_neg (by lia),if_pos (by lia)]
 ·rw [e] at B ⊢;dsimp only at B;rw [if_pos (by lia),if_neg (by lia)]
theorem J1 {k:Int}{rs:List (Int×Int)}(g:G4 k rs){t:Int×Int}(a:Adj rs t.1 t.2):(0<=Wv rs t/\Wv rs t<(rs.length:Int))/\road rs (Wv rs t)=Jw t.1 t.2:=by
 obtain ⟨j,D,m⟩:=Zdr a;rw [Za0 g D m];have B:0<=(j:Int)/\(j:Int)<(rs.length:Int):=by lia
 refine ⟨B,Zev ?_ (g.2.2.2.1 _ (YG B)).2.1⟩;rw [Ybu];exact m
theorem YH {k:Int}{rs:List (Int×Int)}(g:G4 k rs){x y:Int}(B:0<=x/\x<(rs.length:Int))(D:0<=y/\y<(rs.length:Int))(e:road rs x=road rs y):x=y:=by
 have:=U9 g.2.2.2.2 (i:=x.toNat) (j:=y.toNat) (by lia) (by lia) e
 lia
theorem Xh {k:Int}{rs:List (Int×Int)}(g:G4 k rs){xs ys:List Int}(G:∀x∈xs,0<=x/\x<(rs.length:Int))(L:∀y∈ys,0<=y/\y<(rs.length:Int))(p:(xs.map (road rs)).Perm (ys.map (road rs))):xs.Perm ys:=by
 induction xs generalizing ys with
 | nil=>
  have:=p.length_eq;rw [Yaa,Yaa] at this;cases ys with
  | nil=>exact .nil
  | cons y ys=>simp at this
 | cons x xs ih=>
  rw [Yat] at p;have N:road rs x∈ys.map (road rs):=p.mem_iff.mp (Yaz ..);obtain ⟨y,B,e⟩:=Yam.mp N;have D:=YH g (G x (Yaz ..)) (L y B) e.symm;subst D;have p2:=List.perm_cons_erase B;have O:(xs.map (road rs)).Perm ((ys.erase x).map (road rs)):=by
   have:=p.trans (p2.map (road rs));rw [Yat] at this;exact this.cons_inv
  exact ((ih (λz F=>G z (Ybm _ F)) (λz F=>L z (List.mem_of_mem_erase F)) O).cons x).trans p2.symm
theorem Oq {k:Int}{rs:List (Int×Int)}(g:G4 k rs):∀{ts:List (Int×Int)},(∀t∈ts,Adj rs t.1 t.2)->(ts.map (Wv rs)).map (road rs)=ts.map λt=>Jw t.1 t.2
 | [],_=>rfl
 | t::ts,h=>by
  rw [Yat,Yat,Yat,(J1 g (h t (Yaz ..))).2,Oq g λu hu=>h u (Ybm _ hu)]
theorem Uo {ms:List Int}(h:ms.Pairwise (· <= ·))(B:ms.Nodup):ms.Pairwise (· < ·):=(h.and B).imp λh=>by have:=h.1;have:=h.2;lia
theorem Wf {k:Int}{rs:List (Int×Int)}(g:G4 k rs){ns ms:List Int}{c:Bool}(o:Zu rs ns c)(L:c=true->3<=ns.length)(F:ms.Perm ((Gx ns c).map (Wv rs)))(N:ms.Pairwise (· <= ·)):Xg rs ms:=by
 have O:((Gx ns c).map (Wv rs)).Nodup:=by
  unfold List.Nodup;rw [Yee];refine (Zv o.2 L).imp_of_mem λ{t u} D U h e=>h ?_;have Y:=J1 g (o.1 t D);have Z:=J1 g (o.1 u U);have G:Jw t.1 t.2=Jw u.1 u.2:=by rw [<-Y.2,<-Z.2,e]
  unfold Jw at G;have B:=Prod.mk.inj G;obtain ⟨t1,t2⟩:=t;obtain ⟨u1,u2⟩:=u;dsimp only at B ⊢;rw [Prod.mk.injEq,Prod.mk.injEq];split at B <;> split at B <;> split at B <;> split at B <;> lia
 refine ⟨Uo N (F.nodup_iff.mpr O),λx hx=>?_⟩;obtain ⟨t,D,rfl⟩:=Yam.mp (F.mem_iff.mp hx);exact (J1 g (o.1 t D)).1
theorem Za1 {k:Int}{rs:List (Int×Int)}(g:G4 k rs)(ks:List Int):∀r∈cho rs ks rs.length,r.1<r.2:=λr B=>(g.2.2.2.1 r (We B)).2.1
theorem X1 {B rs:List (Int×Int)}(h:∀r∈B,r∈rs){p q:Int}(a:Adj B p q):Adj rs p q:=a.elim (λz=>.inl (h _ z)) λz=>.inr (h _ z)
theorem Zew {B:List (Int×Int)}{p q:Int}(a:Adj B p q):Adj B q p:=a.elim .inr .inl
theorem Wk.met {F rest:List (Int×Int)}{p:Int}{B:List Int}(h:Wk F p B rest):∀x∈B,∃y,Adj F y x:=by
 induction h with
 | stop _=>exact λx D=>absurd D List.not_mem_nil
 | go a _ _ ih=>
  intro x D;rcases Yar.mp D with rfl | D
  ·exact ⟨_,a⟩
  ·obtain ⟨y,G⟩:=ih x D;exact ⟨y,X1 (λr L=>List.mem_of_mem_erase L) G⟩
theorem Za2 {k:Int}{rs B:List (Int×Int)}{ns:List Int}{c:Bool}(g:G4 k rs)(D:∀r∈B,r∈rs)(h:B.Perm ((Gx ns c).map λt=>Jw t.1 t.2)):∀t∈Gx ns c,Adj rs t.1 t.2:=λt F=>
 (JC (λr G=>(g.2.2.2.1 r G).2.1) _ _).mp (D _ (h.mem_iff.mpr (Yam.mpr ⟨t,F,rfl⟩)))
theorem Za3 {k:Int}{rs:List (Int×Int)}{ns ks ms:List Int}{c:Bool}(g:G4 k rs)(S:Xg rs ks)(o:Zu rs ns c)(D:c=true->3<=ns.length)(h:(ks.map (road rs)).Perm ((Gx ns c).map λt=>Jw t.1 t.2))(B:ms.Perm ((Gx ns c).map (Wv rs)))(F:ms.Pairwise (· <= ·)):ms=ks:=by
 have T:=Wf g o D B F;have p1:(ms.map (road rs)).Perm (ks.map (road rs)):=by
  have:=B.map (road rs);rw [Oq g o.1] at this;exact this.trans h.symm
 have p2:=Xh g T.2 S.2 p1;exact Zdv T.1 S.1 λz=>p2.mem_iff
theorem YI:∀(tl:List Int)(a x:Int),(a::(tl++[x])).zip (tl++[x])=(a::tl).zip tl++[((a::tl).getD tl.length 0,x)]
 | [],a,x=>rfl
 | b::tl,a,x=>by
  have ih:=YI tl b x;show (a,b)::(b::(tl++[x])).zip (tl++[x])=_;rw [ih]
  rfl
theorem Og (s:Int)(tl:List Int):(Gx (s::tl) true).map (λt=>Jw t.1 t.2)=Ja (s::(tl++[s])):=by
 unfold Ja Gx;rw [if_pos rfl];show _=((s::(tl++[s])).zip (tl++[s])).map _;rw [YI]
 rfl
theorem Vd (p s:Int)(tl:List Int):ZcF p (Ja (s::(tl++[s])))=2 * (s::tl).count p:=by
 have:=Um p (tl++[s]) s;have e:(s::(tl++[s])).getD (tl++[s]).length 0=s:=by
  rw [Yan,Ybl,Yai,Yey,Ycs (Yac _),Ydi]
  rfl
 have c:(s::(tl++[s])).count p=(s::tl).count p+OL s p:=by
  rw [show s::(tl++[s])=(s::tl)++[s] from rfl,List.count_append]
  congr 1
  unfold OL;by_cases h:s=p
  ·rw [if_pos h,h,List.count_singleton_self]
  ·rw [if_neg h,List.count_eq_zero_of_not_mem (λz=>h (Yas.mp z).symm)]
 rw [e,c] at this
 lia
def ZhN (rs:List (Int×Int))(ks:List Int)(k:Int):Prop:=∀p,0<=p->p<k->Zhi rs ks p=0\/Zhi rs ks p=2
def Begins (B:List (Int×Int))(s:Int):Prop:=(∀t∈B,s<=t.1)/\∃t∈B,t.1=s
theorem Begins.one {B:List (Int×Int)}{s t:Int}(a:Begins B s)(b:Begins B t):s=t:=by
 obtain ⟨u,D,e⟩:=a.2;obtain ⟨v,F,f⟩:=b.2;have:=a.1 v F;have:=b.1 u D
 lia
theorem ZcH {k:Int}{rs rest:List (Int×Int)}{ks tl:List Int}{s:Int}(g:G4 k rs)(w:Wk (cho rs ks rs.length) s tl rest)(B:Begins (cho rs ks rs.length) s)(S:Xg rs ks)(h3:3<=ks.length)(D:ZhN rs ks k)(hl:tl.length=ks.length) :
  Zdu rs (s::tl).dropLast/\∀ms:List Int,ms.Perm ((Gx (s::tl).dropLast true).map (Wv rs))->ms.Pairwise (· <= ·)->ms=ks:=by
 have L:=Za1 g ks;have G:∀r∈cho rs ks rs.length,r∈rs:=λr hr=>We hr;have e:=X0 S;have ll:=w.len L;rw [e,Yaa] at ll;have aa:rest=[]:=List.length_eq_zero_iff.mp (by lia);have N:=w.perm L;rw [aa,Ybr] at N;have rS:0<=s/\s<k:=by
  obtain ⟨t,ht,et⟩:=B.2;have:=g.2.2.2.1 t (G t ht)
  lia
 obtain ⟨F,x,rfl⟩:∃F x,tl=F++[x]:=⟨tl.dropLast,tl.getLast (λz=>by rw [z] at hl;simp at hl;lia),(List.dropLast_concat_getLast _).symm⟩;have ex:x=s:=by
  have:=Um s (F++[x]) s;have e2:(s::(F++[x])).getD (F++[x]).length 0=x:=by
   rw [Yan,Ybl,Yai,Yey,Ycs (Yac _),Ydi]
   rfl
  rw [<-Vb N,e,<-O4 g s S.2,e2,show OL s s=1 from if_pos rfl] at this;by_cases z:x=s
  ·exact z
  ·rw [show OL x s=0 from if_neg z] at this;have:=D s rS.1 rS.2
   lia
 subst ex;have Y:∀y∈x::F,(0<=y/\y<k)/\x<=y:=λy Z=>by
  rcases Yar.mp Z with rfl | Z
  ·exact ⟨rS,Int.le_refl _⟩
  ·obtain ⟨z,O⟩:=w.met y (Yeo _ Z);refine ⟨Zdt g (X1 G O),?_⟩;rcases O with O | O
   ·have:=B.1 _ O;have:=L _ O;dsimp only at *
    lia
   ·exact B.1 _ O
 have nd:(x::F).Nodup:=List.nodup_iff_count.mpr λp=>by
  by_cases hp:p∈x::F
  ·have r:=(Y p hp).1;have:=Vd p x F;rw [<-Vb N,e,<-O4 g p S.2] at this;have:=D p r.1 r.2
   lia
  ·rw [List.count_eq_zero.mpr hp];exact Ybc _
 have ed:(x::(F++[x])).dropLast=x::F:=by
  rw [show x::(F++[x])=(x::F)++[x] from rfl,List.dropLast_concat]
 rw [ed];rw [Yan,Ybl] at hl;rw [<-Og] at N;have o:Zu rs (x::F) true:=⟨Za2 g G N,nd⟩;have U:3<=(x::F).length:=by rw [Ybi];lia
 refine ⟨⟨U,λy Z=>(Y y Z).2,?_,o⟩,λms p so=>Za3 g S o (λ_=>U) (e▸N) p so⟩;have ab:Adj (cho rs ks rs.length) x ((x::F).getD ((x::F).length-1) 0):=by
  refine Zew ((JC L _ _).mp (N.mem_iff.mpr (Yam.mpr ⟨((x::F).getD ((x::F).length-1) 0,x),?_,rfl⟩)));unfold Gx;rw [if_pos rfl];exact Ycn _ (Yas.mpr rfl)
 cases F with
 | nil=>exact absurd U (by simp)
 | cons q t2=>
  have w':Wk (cho rs ks rs.length) x (q::(t2++[x])) rest:=w;cases w' with
  | go a least _=>
   have:=least _ ab;have ne:=JT nd (i:=1) (j:=(x::q::t2).length-1) (by lia) (by lia) (by lia);have e1:(x::q::t2).getD 1 0=q:=rfl;rw [e1] at ne ⊢
   lia
theorem YJ {k:Int}{rs:List (Int×Int)}{ks ns ms:List Int}(g:G4 k rs)(R:Zdu rs ns)(B:ms.Perm ((Gx ns true).map (Wv rs)))(F:ms.Pairwise (· <= ·))(e:ms=ks) :
  Xg rs ks/\3<=ks.length/\ZhN rs ks k/\ns.length=ks.length:=by
 subst e;have o:=R.2.2.2;have S:=Wf g o (λ_=>R.1) B F;obtain ⟨s,tl,rfl⟩:∃s tl,ns=s::tl:=by
  cases ns with
  | nil=>exact absurd R.1 (by simp)
  | cons s tl=>exact ⟨s,tl,rfl⟩
 have D:(ms.map (road rs)).Perm (Ja (s::(tl++[s]))):=by
  have:=B.map (road rs);rw [Oq g o.1,Og] at this;exact this
 have G:(s::tl).length=ms.length:=by
  have:=D.length_eq;rw [Yaa,VL,Yan,Ybl] at this;rw [Ybi]
  lia
 refine ⟨S,by have:=R.1;lia,λp _ _=>?_,G⟩;rw [O4 g p S.2,Vb D,Vd,o.2.count];split <;> lia
def Zgn:Sp:=λvs H Q _=>∃(D l pl:Addr)(k:Int)(xs:List V)(rs:List (Int×Int))(ns:List Int)(c:Bool),vs=[.ref D,.ref pl,.bl c]/\WebAt H D l k xs rs/\G4 k rs/\H pl=some (.lst (ns.map V.int))/\ns.length<=300/\(c=true->ns≠[])/\(∀t∈Gx ns c,Adj rs t.1 t.2) /\
 ∀(B:Addr)(ms:List Int)(H':Hp),Same H H'->H B=none->H' B=some (.lst (ms.map V.int))->ms.Perm ((Gx ns c).map (Wv rs))->ms.Pairwise (· <= ·)->Q (.ref B) H'
theorem scRds:Gp ["web", "places", "closed", "numbers"] ["web", "places", "closed"] (Ge ZcD):=⟨rfl,rfl,rfl,by decide +kernel,rfl,by decide +kernel,by decide +kernel⟩
theorem Zgo {f fU fV:Addr}{dV:Value}{fd G L:FuncData}(F:FunD K "roads_of" "roads_of" ZcD dV f fd)(FU:Fun K "numbers_by_step" "numbers_by_step" Ze8 fU G)(bU:Binds K G ["web"] [])(mU:mg "numbers_by_step" = some (.ref fU))(FV:Fun K "steps_of" "steps_of" Zf9 fV L)(bV:Binds K L ["places", "closed"] [])(mV:mg "steps_of_ways" = some (.ref fV))(N:mg "enumerate" = none)(Z:mg "list" = none)(aa:mg "zip" = none)(ab:mg "sorted" = none):GJ P w K mg base CX0 2 f fd ["web", "places", "closed"] Zgn:=by
 have GU:GJ P w K mg base CX0 1 fU G ["web"] Zet:=Zdp FU N;have GV:GJ P w K mg base CX0 1 fV L ["places", "closed"] Zeu:=Zdq FV Z aa;refine F.ok scRds (λvs H Q E h=>?_) (λae A af s H vs Q E hr h=>?_)
 ·obtain ⟨_,_,_,_,_,_,_,_,rfl,_⟩:=h
  rfl
 ·obtain ⟨wb,l,pl,k,xs,rs,ns,c,rfl,W,g,hp,hn,hc,ag,q⟩:=h;have ah:(A.deeper (PyProof.Rows.envOfC "roads_of" (Ge ZcD) s.heap.objs.size f ae)).units+1<cLine:=by have:=hr.un;lia
  have ak:=Yay.symm;have hx:xs.length<=200:=by rw [W.p.len];exact g.2.2.1
  refine ⟨_,Gc (Gm (i:=3) scRds.nd rfl (Or.inr rfl) (Gj GU (hr.mono (by decide)) rfl mU FU.kp bU .nil GP (Ga (pv 0) Gd)))
    (Gf (Gs (Gu (Zdl K) rfl ab PyProof.Rows.boot_sorted (Ga (Jd (own:=["step"]) rfl (Gk (fr:=[("numbers", 3)]) [(".0", .local),("step", .local),("numbers", .cell)] rfl rfl (by decide +kernel) rfl (by decide +kernel) ⟨rfl,trivial⟩ ⟨λh=>GG h,λh=>GG h,λ_=>⟨_,rfl⟩,trivial⟩ ⟨⟨rfl,.inl rfl,.inl rfl⟩,trivial⟩) (Oy K (Gj GV (hr.mono (by decide)) rfl mV FV.kp bV .nil GP (Ga (pv 1) (Ga (pv 2) Gd)))) (λ_ _ _ _=>Gi (i:=0) (show List.Nodup (["step", "numbers"]:List Str) by decide +kernel) rfl (Or.inl rfl)) (λ_ _ _ _=>JB) (λ_ _ _ _=>JV ah (pv 1) (pv 0) (λ_ _=>rfl))) Gd)))),?_⟩
  refine ⟨_,rfl,wb,l,k,xs,rs,rfl,W,hx,λd H1 kvs s1 hd ed val=>?_⟩;refine ⟨_,rfl,_,rfl,pl,ns,c,rfl,s1 _ _ hp,by lia,hc,λS ws H2 s2 hS eS pS=>?_⟩;have ai:=s1.trans s2;have aj:=s2 _ _ ed;have lst:(Gx ns c).length<=301:=by
   unfold Gx;rw [Yan,List.length_zip];split <;> simp <;> lia
  have al:ws.length<=301:=by rw [pS.len];exact lst
  refine ⟨S,rfl,⟨_,SqL.of eS⟩,λD hD=>?_⟩;refine GF (K:=K) (a:=S) (xs:=ws) (λi ys Y=>Same H2 Y/\Y D=some (.lst ys)/\ys=(((Gx ns c).take i).map (Wv rs)).map V.int) ⟨Same.new hD,Gb,rfl⟩ (λi ys Y _ ⟨O,_⟩=>SqL.of (O _ _ eS)) ?_ ?_
  ·rintro i x ys Y ac ⟨O,B,rfl⟩;obtain ⟨t,r,rfl,et,er⟩:=(pS.same O).get ac;have hi:i<ws.length:=(Ybf.mp ac).1;obtain ⟨j,hj,mj⟩:=Zdr (ag r (Ybs er));refine ⟨⟨rfl,trivial⟩,?_⟩;unfold ZbJ;refine JQ ?_;have dg:DGet Y d (.ref t) (some (.int (j:Nat))):=by
    have:=DGet.t (k:=ky r.1 r.2) (O _ _ aj) et;rw [val r.1 r.2,Va g mj rs.length hj (Yac _)] at this;exact this
   refine ⟨_,rfl,_,rfl,d,_,rfl,dg,B,?_,O.put hD,Gb,?_⟩
   ·rw [Yaa,Yaa,Ybn]
    lia
   ·rw [Ybw,er,Yal,Yal];show _=_++[V.int (Wv rs r)];rw [Za0 g hj mj]
  rintro ys Y ⟨O,B,rfl⟩;rw [pS.len,Yce] at B;refine ⟨D,_,rfl,SqL.of B,by rw [Yaa];lia,λre ms ad pm so=>?_⟩;have U:=ai.trans O;exact q re ms _ (U.put (U.free ad)) (U.free ad) Gb pm so
def Zgp (C:Addr):Sp:=λvs H Q E=>∃(B l:Addr)(k p:Int),vs=[.ref B,.int p]/\H B=some (.tup [.int k,.ref l])/\(((0<=p/\p<k)/\Q .non H)\/(¬ (0<=p/\p<k)/\E (.ref C) none H))
theorem ZhO:Gp ["web", "place"] ["web", "place"] (Ge Zhe):=⟨rfl,rfl,rfl,by decide +kernel,rfl,by decide +kernel,by decide +kernel⟩
theorem Zgq {f G C:Addr}{fd B:FuncData}(F:Fun K "check_place" "check_place" Zhe f fd)(O:Fun K "is_place" "is_place" sIs G B)(U:Binds K B ["web", "place"] [])(Y:mg "is_place" = some (.ref G))(Z:mg "NoPlace" = some (.ref C))(xC:ExcC K C) :
  GJ P w K mg base (CXr P w) 2 f fd ["web", "place"] (Zgp C):=by
 have GI:GJ P w K mg base CX0 1 G B ["web", "place"] ZiC:=ZhL O;refine F.okR ZhO (λvs H Q E h=>?_) (λaa A L s H vs Q E hr h=>?_)
 ·obtain ⟨_,_,_,_,rfl,_⟩:=h
  rfl
 ·obtain ⟨wb,l,k,p,rfl,hw,h⟩:=h;refine ⟨_,Gf (Jn (OS (JL (Gj GI (hr.mono (by decide)) rfl Y O.kp U .nil GP (Ga (pv 0) (Ga (pv 1) Gd))))) (Gf (OV (E:=E) rfl JF rfl Z xC (Ga JD Gd))) Gz),?_⟩;refine ⟨_,rfl,_,rfl,wb,l,k,p,rfl,hw,⟨_,rfl,?_⟩⟩;rcases h with ⟨N,q⟩ | ⟨D,q⟩
  ·rw [Yae N];refine JI ?_;exact q
  ·rw [Yak D];refine JQ ?_;exact ⟨by decide,q⟩
def Zw (r:Int×Int)(p:Int):Bool:=decide (r.1=p\/r.2=p)
theorem Zjj (p a b:Int):inV (.int p) [.int a,.int b]=Zw (a,b) p:=by
 unfold inV Zw;by_cases h1:a=p <;> by_cases h2:b=p <;> simp [eqV,h1,h2]
def Za4 (rs:List (Int×Int))(p:Int):List Int:=(rs.filter λr=>Zw r p).map λr=>r.1+r.2-p
theorem ZcI (rs:List (Int×Int))(p:Int):(Za4 rs p).length<=rs.length:=by
 unfold Za4;rw [Yaa];exact Ych _ _
theorem Za5 (rs:List (Int×Int))(p:Int)(i:Nat){r:Int×Int}(h:rs[i]?=some r):Za4 (rs.take (i+1)) p=Za4 (rs.take i) p++(if Zw r p=true then [r.1+r.2-p] else []):=by
 unfold Za4;rw [Ybw,h];show List.map _ (List.filter _ (rs.take i++[r]))=_;rw [Ydv,Yal,List.filter_cons,List.filter_nil];by_cases z:Zw r p=true
 ·rw [if_pos z,if_pos z];rfl
 ·rw [if_neg z,if_neg z];rfl
def Zgr (C:Addr):Sp:=λvs H Q E=>∃(B l:Addr)(k p:Int)(xs:List V)(rs:List (Int×Int)),vs=[.ref B,.int p]/\WebAt H B l k xs rs/\xs.length<=400 /\
 (((0<=p/\p<k)/\∀(r:Addr)(ns:List Int)(H':Hp),Same H H'->H r=none->H' r=some (.lst (ns.map V.int))->ns.Perm (Za4 rs p)->ns.Pairwise (· <= ·)->Q (.ref r) H')\/(¬ (0<=p/\p<k)/\E (.ref C) none H))
theorem ZhP:Gp ["web", "place"] ["web", "place"] (Ge Zf8):=⟨rfl,rfl,rfl,by decide +kernel,rfl,by decide +kernel,by decide +kernel⟩
theorem Zgs {f fH C:Addr}{fd L:FuncData}(F:Fun K "beside" "beside" Zf8 f fd)(FH:Fun K "check_place" "check_place" Zhe fH L)(bH:Binds K L ["web", "place"] [])(mH:mg "check_place" = some (.ref fH))(GH:GJ P w K mg base (CXr P w) 2 fH L ["web", "place"] (Zgp C))(N:mg "sorted" = none):GJ P w K mg base (CXr P w) 3 f fd ["web", "place"] (Zgr C):=by
 refine F.okR ZhP (λvs H Q E h=>?_) (λac A aa s H vs Q E Z h=>?_)
 ·obtain ⟨_,_,_,_,_,_,rfl,_⟩:=h
  rfl
 ·obtain ⟨wb,l,k,p,xs,rs,rfl,W,hx,h⟩:=h;have ad:=Yay.symm;refine ⟨_,Gc (Jq (Gj GH (Z.mono (by decide)) rfl mH FH.kp bH .nil Zae (Ga (pv 0) (Ga (pv 1) Gd))))
    (Gf (Gs (Gu (Zdl K) rfl N PyProof.Rows.boot_sorted (Ga (Jd (own:=["a", "b"]) rfl (Gk (fr:=[("place", 1)]) [(".0", .local),("a", .local),("b", .local),("place", .cell)] rfl rfl (by decide +kernel) rfl (by decide +kernel) ⟨rfl,trivial⟩ ⟨λh=>GG h,λh=>GG h,λh=>GG h,λ_=>⟨_,rfl⟩,trivial⟩ ⟨⟨rfl,.inl rfl,.inl rfl⟩,trivial⟩) (Oy K (GE (Ut K) (pv 0) Gg (λ_ _=>rfl))) (λ_ _ _ _=>Wu K (n:=2) rfl (Gn (Gi (i:=0) (show List.Nodup (["a", "b", "place"]:List Str) by decide +kernel) rfl (Or.inl rfl)) (Gn (Gi (i:=1) (show List.Nodup (["a", "b", "place"]:List Str) by decide +kernel) rfl (Or.inl rfl)) Jb))) (λ_ _ _ _=>Jm (Go (kIn K) (pv 2) (G0 (Ga (pv 0) (Ga (pv 1) Gd))) (by with_unfolding_all rfl))) (λ_ _ _ _=>Gw UU (Gw GY (pv 0) (pv 1)) (pv 2))) Gd)))),?_⟩
  rcases h with ⟨ab,q⟩ | ⟨O,q⟩
  ·refine ⟨_,rfl,_,rfl,wb,l,k,p,rfl,W.w,.inl ⟨ab,?_⟩⟩;refine ⟨_,rfl,wb,_,_,_,rfl,rfl,SqT.of W.w,GD (j:=1) rfl,l,rfl,⟨_,SqL.of W.l⟩,λD hD=>?_⟩;refine GF (K:=K) (a:=l) (xs:=xs) (λi ys H2=>Same H H2/\H2 D=some (.lst ys)/\ys=(Za4 (rs.take i) p).map V.int) ⟨Same.new hD,Gb,rfl⟩ (λi ys H2 _ ⟨G,_⟩=>SqL.of (G _ _ W.l)) ?_ ?_
   ·rintro i x ys H2 U ⟨G,B,rfl⟩;obtain ⟨t,r,rfl,et,er⟩:=W.p.get U;have hi:i<xs.length:=(Ybf.mp U).1;refine ⟨t,_,rfl,SqT.of (G _ _ et),rfl,_,_,rfl,_,_,rfl,rfl,⟨rfl,trivial⟩,?_⟩;refine ⟨_,rfl,_,rfl,_,rfl,two_le,λT hT=>⟨T,_,rfl,.inr (SqT.of Gb),rfl,rfl,_,rfl,?_⟩⟩;show if (inV (.int p) [.int r.1,.int r.2])=true then _ else _
    have sc:=Za5 rs p i er;have s3:Same H (upd H2 T (.tup [.int r.1,.int r.2])):=G.put (G.free hT);have Y:D≠T:=Gh B hT;rw [Zjj];refine OA (λz=>?_) (λz=>?_)
    ·rw [if_pos z] at sc;refine ⟨_,rfl,_,rfl,_,_,rfl,rfl,_,rfl,_,_,rfl,rfl,Gq B Y,?_,s3.put hD,Gb,by rw [sc,Yal];rfl⟩;rw [Yaa];have:=ZcI (rs.take i) p;rw [Ybn] at this
     lia
    ·rw [if_neg z,Ybr] at sc;exact ⟨s3,Gq B Y,by rw [sc]⟩
   ·rintro ys H2 ⟨G,B,rfl⟩;rw [W.p.len,Yce] at B;refine ⟨D,_,rfl,SqL.of B,?_,λr ns Z hp hs=>q r ns _ (G.put (G.free Z)) (G.free Z) Gb hp hs⟩;unfold Za4;rw [Yaa];have:=Ych (λr=>Zw r p) rs;have:=W.p.len
    lia
  ·exact ⟨_,rfl,_,rfl,wb,l,k,p,rfl,W.w,.inr ⟨O,q⟩⟩
def Zex:Sp:=λvs H Q _=>∃(B l D:Addr)(k:Int)(xs:List V)(rs:List (Int×Int))(ks:List Int),vs=[.ref B,.ref D]/\WebAt H B l k xs rs/\xs.length<=200/\H D=some (.lst (ks.map V.int)) /\
 ∀(r:Addr)(ys:List V)(H':Hp),Same H H'->H r=none->H' r=some (.lst ys)->Prs H' ys (cho rs ks rs.length)->Q (.ref r) H'
theorem ZhQ:Gp ["web", "roads"] ["web", "roads"] (Ge Zgb):=⟨rfl,rfl,rfl,by decide +kernel,rfl,by decide +kernel,by decide +kernel⟩
theorem Zdw {f:Addr}{fd:FuncData}(F:Fun K "chosen_roads" "chosen_roads" Zgb f fd)(G:mg "enumerate" = none):GJ P w K mg base CX0 1 f fd ["web", "roads"] Zex:=by
 refine F.ok ZhQ (λvs H Q E h=>?_) (λab A aa s H vs Q E hr h=>?_)
 ·obtain ⟨_,_,_,_,_,_,_,rfl,_⟩:=h
  rfl
 ·obtain ⟨wb,l,kl,k,xs,rs,ks,rfl,W,hx,hk,q⟩:=h;have ac:=Yay.symm;refine ⟨_,Gf (Gs (Jd (own:=["number", "road"]) rfl (Gk (fr:=[("roads", 1)]) [(".0", .local),("number", .local),("road", .local),("roads", .cell)] rfl rfl (by decide +kernel) rfl (by decide +kernel) ⟨rfl,trivial⟩ ⟨λh=>GG h,λh=>GG h,λh=>GG h,λ_=>⟨_,rfl⟩,trivial⟩ ⟨⟨rfl,.inl rfl,.inl rfl⟩,trivial⟩) (XE K rfl G (Ga (GE (Ut K) (pv 0) Gg (λ_ _=>rfl)) Gd)) (λ_ _ _ _=>Wu K (n:=2) rfl (Gn (Gi (i:=0) (show List.Nodup (["number", "road", "roads"]:List Str) by decide +kernel) rfl (Or.inl rfl)) (Gn (Gi (i:=1) (show List.Nodup (["number", "road", "roads"]:List Str) by decide +kernel) rfl (Or.inl rfl)) Jb))) (λ_ _ _ _=>Jm (Go (kIn K) (pv 0) (pv 2) (by with_unfolding_all rfl))) (λ_ _ _ _=>pv 1))),?_⟩;refine ⟨_,rfl,wb,_,_,_,rfl,rfl,SqT.of W.w,GD (j:=1) rfl,l,xs,rfl,SqL.of W.l,λD hD=>?_⟩;refine U4 (K:=K) (a:=l) (xs:=xs) (λi ys H2=>Same H H2/\H2 D=some (.lst ys)/\Prs H2 ys (cho rs ks i)) ⟨Same.new hD,Gb,.nil⟩ (λi ys H2 _ ⟨N,_⟩=>SqL.of (N _ _ W.l)) ?_ ?_
  ·rintro i x ys H2 T U ⟨N,B,O⟩ hT;obtain ⟨t,r,rfl,et,er⟩:=W.p.get U;have hi:i<xs.length:=(Ybf.mp U).1;have Y:Same H2 (upd H2 T (.tup [.int (i:Nat),.ref t])):=Same.new hT;have Z:Same H (upd H2 T (.tup [.int (i:Nat),.ref t])):=N.put (N.free hT);have L:D≠T:=Gh B hT;have eg:rs.getD i (0,0)=r:=by rw [Yai,er];rfl
   refine ⟨T,_,rfl,SqT.of Gb,rfl,_,_,rfl,_,_,rfl,rfl,⟨rfl,trivial⟩,?_⟩;refine ⟨_,rfl,_,rfl,kl,_,rfl,.inl (SqL.of (Z _ _ hk)),rfl,Xe _,_,rfl,?_⟩;show if (inV (.int (i:Nat)) (ks.map V.int))=true then _ else _
   rw [YE];have ad:=XZ rs ks i;have ae:=O.len;refine OA (λz=>?_) (λz=>?_)
   ·refine ⟨_,rfl,Gq B L,by lia,Z.put hD,Gb,?_⟩;rw [YF,if_pos (Yba z),eg];exact Prs.keep (Prs.snoc (O.same Y) (Z _ _ et)) (UC (Gq B L))
   ·refine ⟨Z,Gq B L,?_⟩;rw [YF,if_neg (λy=>z (Yae y)),Ybr];exact O.same Y
  ·rintro ys H2 ⟨N,B,O⟩;rw [W.p.len] at O;exact q D ys H2 N hD B O
theorem mem_bes {B:List (Int×Int)}{p x:Int}:x∈Za4 B p↔Adj B p x:=by
 unfold Za4 Adj;rw [Yam];constructor
 ·rintro ⟨r,D,rfl⟩;obtain ⟨h1,h2⟩:=Ybk.mp D;obtain ⟨a,b⟩:=r;rcases Yba h2 with e | e
  ·left;have:a=p:=e;subst this;rw [show a+b-a=b by lia];exact h1
  ·right;have:b=p:=e;subst this;rw [show a+b-b=a by lia];exact h1
 ·rintro (h | h)
  ·exact ⟨_,Ybk.mpr ⟨h,Yae (.inl rfl)⟩,by dsimp only;lia⟩
  ·exact ⟨_,Ybk.mpr ⟨h,Yae (.inr rfl)⟩,by dsimp only;lia⟩
def Zgt:Sp:=λvs H Q _=>∃(B l D:Addr)(k p:Int)(xs:List V)(rs:List (Int×Int))(ks:List Int),vs=[.ref B,.int p,.ref D]/\WebAt H B l k xs rs/\G4 k rs/\H D=some (.lst (ks.map V.int))/\(0<=p/\p<k) /\
 ∀(r:Addr)(tl:List Int)(rest:List (Int×Int))(H':Hp),Same H H'->H r=none->H' r=some (.lst ((p::tl).map V.int))->Wk (cho rs ks rs.length) p tl rest->Q (.ref r) H'
theorem scWal:Gp ["web", "start", "roads", "left", "places", "ahead"] ["web", "start", "roads"] (Ge Zgc):=⟨rfl,rfl,rfl,by decide +kernel,rfl,by decide +kernel,by decide +kernel⟩
theorem Zgu {f fC fZ C:Addr}{fd av aw:FuncData}(F:Fun K "walk" "walk" Zgc f fd)(FC:Fun K "chosen_roads" "chosen_roads" Zgb fC av)(bC:Binds K av ["web", "roads"] [])(mC:mg "chosen_roads" = some (.ref fC))(FZ:Fun K "beside" "beside" Zf8 fZ aw)(bZ:Binds K aw ["web", "place"] [])(mZ:mg "beside" = some (.ref fZ))(GZ:GJ P w K mg base (CXr P w) 3 fZ aw ["web", "place"] (Zgr C))(ay:mg "enumerate" = none)(a6:mg "min" = none)(a7:mg "max" = none):GJ P w K mg base CX0 4 f fd ["web", "start", "roads"] Zgt:=by
 have GC:GJ P w K mg base CX0 1 fC av ["web", "roads"] Zex:=Zdw FC ay;refine F.ok scWal (λvs H Q E h=>?_) (λaJ A aK s H vs Q E hr h=>?_)
 ·obtain ⟨_,_,_,_,_,_,_,_,rfl,_⟩:=h
  rfl
 ·obtain ⟨wb,l,kl,k,p,xs,rs,ks,rfl,W,g,hk,hp,q⟩:=h;have aR:=Yay.symm;have aL:(A.deeper (PyProof.Rows.envOfC "walk" (Ge Zgc) s.heap.objs.size f aJ)).units+65<cLine:=by have:=hr.un;lia
  have hx:xs.length<=200:=by rw [W.p.len];exact g.2.2.1
  refine ⟨_,Gc (Gm (i:=3) scWal.nd rfl (Or.inl rfl) (Gj GC (hr.mono (by decide)) rfl mC FC.kp bC .nil GP (Ga (pv 0) (Ga (pv 2) Gd))))
    (Gc (Gm (i:=4) scWal.nd rfl (Or.inl rfl) (Ji (Ga (pv 1) Gd)))
    (Gc (Gm (i:=5) scWal.nd rfl (Or.inl rfl) (Gj GZ (hr.mono (by decide)) rfl mZ FZ.kp bZ .nil Zb (Ga (G0 (Ga (GE (Ut K) (pv 0) Gg (λ_ _=>rfl)) (Ga (pv 3) Gd))) (Ga (pv 1) Gd))))
    (Gc (VR Ycm (J5 (pv 5) (λ_=>rfl))
    (Gc (Jq (OU Ydd PySem.F.slot_list_remove PySem.F.type_list_remove (ZhD K aL) (pv 3) (Ga (G0 (Ga (Gu (ZU rfl) rfl a6 Yp (Ga (GE (U3 K) (pv 4) (Xy OI Gg) (λ_ _=>rfl)) (Ga (GE (U3 K) (pv 5) Gg (λ_ _=>rfl)) Gd))) (Ga (Gu (ZT rfl) rfl a7 ZcE (Ga (GE (U3 K) (pv 4) (Xy OI Gg) (λ_ _=>rfl)) (Ga (GE (U3 K) (pv 5) Gg (λ_ _=>rfl)) Gd))) Gd))) Gd)))
    (Gc (Jq (OU Ydd Ydj Ydk G5 (pv 4) (Ga (GE (U3 K) (pv 5) Gg (λ_ _=>rfl)) Gd)))
    (Gf (Gm (i:=5) scWal.nd rfl (Or.inl rfl) (Gj GZ (hr.mono (by decide)) rfl mZ FZ.kp bZ .nil Zb (Ga (G0 (Ga (GE (Ut K) (pv 0) Gg (λ_ _=>rfl)) (Ga (pv 3) Gd))) (Ga (GE (U3 K) (pv 5) Gg (λ_ _=>rfl)) Gd))))))))
    (Gf (Gs (pv 4)))))),?_⟩
  refine ⟨_,rfl,_,rfl,wb,l,kl,k,xs,rs,ks,rfl,W,hx,hk,λD ys H1 s1 aM U a8=>?_⟩;refine ⟨_,rfl,(by show 1<=sizeLine;lia),λpl az=>?_⟩;have s2:Same H1 (upd H1 pl (.lst [.int p])):=Same.new az;have G:upd H1 pl (.lst [.int p]) pl=some (.lst ([p].map V.int)):=Gb;have a9:D≠pl:=Gh U az;have am:H pl=none:=s1.free az;generalize upd H1 pl (.lst [.int p])=H2 at s2 G ⊢;have W2:=(W.same s1).same s2;refine ⟨_,rfl,wb,_,_,_,rfl,rfl,SqT.of W2.w,GD (j:=0) rfl,_,rfl,two_le,λw1 aN=>?_⟩;have s3:Same H2 (upd H2 w1 (.tup [.int k,.ref D])):=Same.new aN;have a0:upd H2 w1 (.tup [.int k,.ref D]) w1=some (.tup [.int k,.ref D]):=Gb;generalize upd H2 w1 (.tup [.int k,.ref D])=H3 at s3 a0 ⊢;have S3:=(s1.trans s2).trans s3;have ah:H3 D=some (.lst ys):=s3 _ _ (s2 _ _ U);have ai:Prs H3 ys (cho rs ks rs.length):=(a8.same s2).same s3;have aS:(cho rs ks rs.length).length<=200:=Ycc (XZ rs ks _) g.2.2.1;have aT:=ai.len;refine ⟨_,rfl,w1,D,k,p,ys,_,rfl,⟨a0,ah,ai⟩,by lia,.inl ⟨hp,λY ns H4 s4 ad N perm so=>?_⟩⟩;have aj:Y≠D:=λz=>by rw [z,ah] at ad;cases ad
  have ak:Y≠pl:=λz=>by rw [z,s3 _ _ G] at ad;cases ad
  refine ⟨λm σ' H'=>∃(Y:Addr)(xl:List V)(O:List (Int×Int))(B:List Int)(c:Int)(Z ns:List Int),σ'=[some (.ref wb),some (.int p),some (.ref kl),some (.ref D),some (.ref pl),some (.ref Y)]/\Same H H'/\H' D=some (.lst xl)/\Prs H' xl O/\H' pl=some (.lst ((B++[c]).map V.int))/\H' Y=some (.lst (ns.map V.int))/\ns.Perm (Za4 O c)/\ns.Pairwise (· <= ·)/\B++[c]=p::Z/\(0<=c/\c<k)/\(∀r∈O,r∈rs)/\Z.length+O.length<=200 /\
   (∀tl rest,Wk O c tl rest->Wk (cho rs ks rs.length) p (Z++tl) rest)/\Y≠D/\Y≠pl/\m=O.length,
   ⟨_,Y,ys,_,[],p,[],ns,rfl,S3.trans s4,s4 _ _ ah,ai.same s4,s4 _ _ (s3 _ _ G),N,perm,so,rfl,hp,λr hr=>We hr,by rw [List.length_nil];lia,λtl rest h=>h,aj,ak,rfl⟩,?_⟩
  clear N perm so aj ak ad s4 ai ah S3 s3 a0 W2 G s2 a8 U;rintro m σ' H' ⟨Y,xl,O,B,c,Z,ns,rfl,s4,U,pr,G,N,perm,so,a1,hc,a2,qV,an,aj,ak,rfl⟩;have aA:∀r∈O,r.1<r.2:=λr hr=>(g.2.2.2.1 r (a2 r hr)).2.1;cases ns with
  | nil=>
   refine ⟨_,rfl,false,.inl ⟨_,SqL.of N,rfl⟩,JI ?_⟩;have no:∀x,¬ Adj O c x:=λx a=>by
    have:=perm.mem_iff.mpr (mem_bes.mpr a);cases this
   have wk:=an [] O (.stop no);rw [Ybr] at wk;rw [a1] at G;exact ⟨_,rfl,q pl Z O H' s4 am G wk⟩
  | cons x ns=>
   refine ⟨_,rfl,true,.inl ⟨_,SqL.of N,rfl⟩,JQ ?_⟩;refine ⟨_,λ_ _ h=>h,?_⟩;have ax:Adj O c x:=mem_bes.mp (perm.mem_iff.mp (Yaz ..));have a3:∀y,Adj O c y->x<=y:=λy a=>by
    rcases Yar.mp (perm.mem_iff.mpr (mem_bes.mpr a)) with e | e
    ·lia
    ·exact (Yed.mp so).1 y e
   have mem:Jw c x∈O:=(JC aA _ _).mpr ax;have rx:=Zdt g (X1 a2 ax);have ae:atI ((B++[c]).map V.int) (-1)=some (.int c):=by
    rw [XY (by simp)]
    congr 2
    rw [Yan,Ybl,Nat.add_sub_cancel,Yai,Ycs (Yac _),Ydi]
    rfl
   have aa:atI ((x::ns).map V.int) 0=some (.int x):=GD (j:=0) rfl;have aU:(B++[c]).length<=201:=by rw [a1,Ybi];lia
   refine ⟨_,rfl,.inl ⟨rfl,_,SqL.of U⟩,_,rfl,_,rfl,pl,_,_,_,rfl,rfl,SqL.of G,ae,_,rfl,Y,_,_,_,rfl,rfl,SqL.of N,aa,_,_,rfl,?_⟩;refine ⟨_,rfl,_,rfl,pl,_,_,_,rfl,rfl,SqL.of G,ae,_,rfl,Y,_,_,_,rfl,rfl,SqL.of N,aa,_,_,rfl,two_le,λt ht=>?_⟩;have s5:Same H' (upd H' t (.tup [.int (Jw c x).1,.int (Jw c x).2])):=Same.new ht;have et:upd H' t (.tup [.int (Jw c x).1,.int (Jw c x).2]) t=some (.tup [.int (Jw c x).1,.int (Jw c x).2]):=Gb;dsimp only [Ze7];refine Zje (H:=upd H' t (.tup [.int (Jw c x).1,.int (Jw c x).2])) (t:=Jw c x) (s5 _ _ U) (pr.same s5) et mem λL aV aB=>?_;generalize upd H' t (.tup [.int (Jw c x).1,.int (Jw c x).2])=H5 at s5 et aB ⊢;have aC:=s5 _ _ U;have k6:=UC (o:=.lst L) aC;have s6:Same H (upd H5 D (.lst L)):=(s4.trans s5).put aM;have ao:upd H5 D (.lst L) D=some (.lst L):=Gb;have ab:upd H5 D (.lst L) pl=some (.lst ((B++[c]).map V.int)):=Gq (s5 _ _ G) (Ne.symm a9);have af:upd H5 D (.lst L) Y=some (.lst ((x::ns).map V.int)):=Gq (s5 _ _ N) aj;have aD:=aB.keep k6;generalize upd H5 D (.lst L)=H6 at k6 s6 ao ab af aD ⊢;refine ⟨_,rfl,.inl ⟨rfl,_,SqL.of ab⟩,_,rfl,Y,_,_,_,rfl,rfl,SqL.of af,aa,pl,_,_,rfl,rfl,ab,by rw [Yaa];lia,?_⟩;have k7:=UC (o:=.lst ((B++[c]).map V.int++[.int x])) ab;have s7:Same H (upd H6 pl (.lst ((B++[c]).map V.int++[.int x]))):=s6.put am;have ap:upd H6 pl (.lst ((B++[c]).map V.int++[.int x])) D=some (.lst L):=Gq ao a9;have aq:upd H6 pl (.lst ((B++[c]).map V.int++[.int x])) pl=some (.lst (((B++[c])++[x]).map V.int)):=by rw [Gb,Yal (l₁:=B++[c])];rfl
   have as:upd H6 pl (.lst ((B++[c]).map V.int++[.int x])) Y=some (.lst ((x::ns).map V.int)):=Gq af ak;have al:=aD.keep k7;generalize upd H6 pl (.lst ((B++[c]).map V.int++[.int x]))=H7 at k7 s7 ap aq as al ⊢;have W7:=W.same s7;refine ⟨_,rfl,wb,_,_,_,rfl,rfl,SqT.of W7.w,GD (j:=0) rfl,_,rfl,two_le,λw2 aO=>?_⟩;have s8:Same H7 (upd H7 w2 (.tup [.int k,.ref D])):=Same.new aO;have aE:upd H7 w2 (.tup [.int k,.ref D]) w2=some (.tup [.int k,.ref D]):=Gb;generalize upd H7 w2 (.tup [.int k,.ref D])=H8 at s8 aE ⊢;have aW:(O.erase (Jw c x)).length+1=O.length:=by
    rw [List.length_erase_of_mem mem];have:=List.length_pos_of_mem mem
    lia
   have aX:=al.len;have ag:=s8 _ _ ap;have au:=s8 _ _ aq;refine ⟨_,rfl,Y,_,_,_,rfl,rfl,SqL.of (s8 _ _ as),aa,w2,D,k,x,L,_,rfl,⟨aE,ag,al.same s8⟩,by lia,.inl ⟨rx,λa4 aP H9 s9 ac aF a5 aQ=>?_⟩⟩;have aG:a4≠D:=λz=>by rw [z,ag] at ac;cases ac
   have aH:a4≠pl:=λz=>by rw [z,au] at ac;cases ac
   have aI:(B++[c])++[x]=p::(Z++[x]):=by rw [a1];rfl
   refine ⟨_,?_,a4,L,_,B++[c],x,Z++[x],aP,rfl,(s7.trans s8).trans s9,s9 _ _ ag,(al.same s8).same s9,s9 _ _ au,aF,a5,aQ,aI,rx,λr hr=>a2 r (List.mem_of_mem_erase hr),?_,λtl rest h=>?_,aG,aH,rfl⟩
   ·lia
   ·rw [Yan,Ybl]
    lia
   ·have:=an (x::tl) rest (.go ax a3 h);rw [Ybp];exact this
theorem Wk.few {k:Int}{rs rest:List (Int×Int)}{ks tl:List Int}{p:Int}(g:G4 k rs)(w:Wk (cho rs ks rs.length) p tl rest):tl.length<=200:=by
 have h1:=w.len (Za1 g ks);have h2:=XZ rs ks rs.length;have B:=g.2.2.1
 lia
def Zx (rs:List (Int×Int))(ks:List Int)(k:Int)(tl:List Int):Prop:=Xg rs ks/\3<=ks.length/\ZhN rs ks k/\tl.length=ks.length
def Zgv (F:Addr):Sp:=λvs H Q E=>∃(B l D:Addr)(k:Int)(xs:List V)(rs:List (Int×Int))(ks:List Int),vs=[.ref B,.ref D]/\WebAt H B l k xs rs/\G4 k rs/\H D=some (.lst (ks.map V.int)) /\
 ∀(s:Int)(tl:List Int)(rest:List (Int×Int)),(cho rs ks rs.length≠[]->Begins (cho rs ks rs.length) s)->Wk (cho rs ks rs.length) s tl rest->(Zx rs ks k tl->∀(r:Addr)(H':Hp),Same H H'->H r=none->H' r=some (.lst ((s::tl).dropLast.map V.int))->Q (.ref r) H')/\(¬ Zx rs ks k tl->∀H':Hp,Same H H'->E (.ref F) none H')
theorem scCof:Gp ["web", "roads", "start", "places"] ["web", "roads"] (Ge Ze9):=⟨rfl,rfl,rfl,by decide +kernel,rfl,by decide +kernel,by decide +kernel⟩
theorem Zgw (ns:List Int):WG (ns.map V.int) none (some (-1))=ns.dropLast.map V.int:=by
 unfold WG;rw [Yaa,HT.sIx_none,List.drop_zero,Nat.sub_zero,List.dropLast_eq_take,List.map_take]
 congr 1
 unfold HT.sIx;by_cases h:ns.length=0
 ·rw [h];rfl
 ·simp only [show (-1:Int)<0 by decide,if_true]
  lia
theorem Zgx {f fC fK fL fR NW:Addr}{dV:Value}{fd N O U Y:FuncData}(F:Fun K "closed_of" "closed_of" Ze9 f fd)(FC:Fun K "chosen_roads" "chosen_roads" Zgb fC N)(bC:Binds K N ["web", "roads"] [])(mC:mg "chosen_roads" = some (.ref fC))(FK:Fun K "walk" "walk" Zgc fK O)(bK:Binds K O ["web", "start", "roads"] [])(mK:mg "walk" = some (.ref fK))(GK:GJ P w K mg base CX0 4 fK O ["web", "start", "roads"] Zgt)(FL:Fun K "is_closed" "is_closed" Zhf fL U)(bL:Binds K U ["web", "places"] [])(mL:mg "is_closed" = some (.ref fL))(GL:GJ P w K mg base CX0 3 fL U ["web", "places"] Zgk)(FR:FunD K "roads_of" "roads_of" ZcD dV fR Y)(bR:Binds K Y ["web", "places", "closed"] [])(mR:mg "roads_of" = some (.ref fR))(GR:GJ P w K mg base CX0 2 fR Y ["web", "places", "closed"] Zgn)(Z:mg "enumerate" = none)(aa:mg "min" = none)(mV:mg "NoWay" = some (.ref NW))(xV:ExcC K NW):GJ P w K mg base (CXr P w) 5 f fd ["web", "roads"] (Zgv NW):=by
 have GC:GJ P w K mg base CX0 1 fC N ["web", "roads"] Zex:=Zdw FC Z;refine F.okR scCof (λvs H Q E h=>?_) (λab A aj s H vs Q E hr h=>?_)
 ·obtain ⟨_,_,_,_,_,_,_,rfl,_⟩:=h
  rfl
 ·obtain ⟨wb,l,kl,k,xs,rs,ks,rfl,W,g,hk,h⟩:=h;have hu:(A.deeper (PyProof.Rows.envOfC "closed_of" (Ge Ze9) s.heap.objs.size f ab)).units+64<cLine:=by have:=hr.un;lia
  have ak:(A.deeper (PyProof.Rows.envOfC "closed_of" (Ge Ze9) s.heap.objs.size f ab)).units+1<cLine:=by have:=hr.un;lia
  have hx:xs.length<=200:=by rw [W.p.len];exact g.2.2.1
  refine ⟨_,Gc (Gm (i:=2) scCof.nd rfl (Or.inl rfl) (GE (Ut K) (Zao (ZfR K rfl ak) rfl aa WT (Ga (Gj GC (hr.mono (by decide)) rfl mC FC.kp bC .nil GP (Ga (pv 0) (Ga (pv 1) Gd))) Gd) (ZdY (G0 (Ga Gg (Ga Gg Gd))) Zfw)) Gg (λ_ _=>rfl)))
    (Gc (Gm (i:=3) scCof.nd rfl (Or.inl rfl) (Oj (kSl K) (Gj GK (hr.mono (by decide)) rfl mK FK.kp bK .nil GP (Ga (pv 0) (Ga (pv 2) (Ga (pv 1) Gd)))) UX (OG (Xy OI Gg))))
    (Gc (Jn (PW.pt (OF (OS (JL (Gj GL (hr.mono (by decide)) rfl mL FL.kp bL .nil GP (Ga (pv 0) (Ga (pv 3) Gd))))) (Oz (Go (ZE K hu) (Gj GR (hr.mono (by decide)) rfl mR FR.kp bR .nil GP (Ga (pv 0) (Ga (pv 3) (Ga Xw Gd)))) (pv 1) (Gv _))))) (Gf (OV (E:=E) rfl JF rfl mV xV (Ga JD Gd))) Gz)
    (Gf (Gs (pv 3))))),?_⟩
  refine J6 (λσ' H'=>∃a:Int,σ'=[some (.ref wb),some (.ref kl),some (.int a),none]/\Same H H'/\(0<=a/\a<k)/\(cho rs ks rs.length≠[]->Begins (cho rs ks rs.length) a)) ?sm ?fm
  case fm=>
   intro ac;refine ⟨_,rfl,_,rfl,wb,l,kl,k,xs,rs,ks,rfl,W,hx,hk,λcl ys H1 s1 ar al am=>?_⟩;refine ⟨two_le,λd0 an=>?_⟩;have s2:Same H1 (upd H1 d0 (.tup [.int 0,.int 0])):=Same.new an;have ad:upd H1 d0 (.tup [.int 0,.int 0]) d0=some (.tup [.int 0,.int 0]):=Gb;generalize upd H1 d0 (.tup [.int 0,.int 0])=H2 at s2 ad ⊢;have S2:=s1.trans s2;have L:=am.same s2;refine ⟨cl,ys,cho rs ks rs.length,.ref d0,rfl,rfl,SqL.of (s2 _ _ al),L,λe0=>?_,λt r lp=>?_⟩
   ·refine ⟨d0,_,_,_,rfl,rfl,SqT.of ad,GD (j:=0) rfl,?_⟩;exact ac _ _ ⟨0,rfl,S2,⟨by decide,by have:=g.1;lia⟩,λz=>absurd e0 z⟩
   ·obtain ⟨⟨i,ex,er⟩,lst⟩:=lp;obtain ⟨t',r',ao,eh,ae⟩:=L.get ex;cases ao;rw [er] at ae;cases ae;have hm:r∈cho rs ks rs.length:=Ybs er;have hg:=g.2.2.2.1 r (We hm);refine ⟨t,_,_,_,rfl,rfl,SqT.of eh,GD (j:=0) rfl,?_⟩;refine ac _ _ ⟨r.1,rfl,S2,⟨hg.1,by lia⟩,λ_=>⟨λu hu=>?_,r,hm,rfl⟩⟩;have:=lst u hu;rw [<-Bool.not_eq_true,ltP_iff] at this
    lia
  rintro σ' H1 ⟨a,rfl,s1,ra,bg⟩;have W1:=W.same s1;have af:=s1 _ _ hk;refine ⟨_,rfl,_,rfl,_,rfl,wb,l,kl,k,a,xs,rs,ks,rfl,W1,g,af,ra,λr tl rest H2 s2 as er wk=>?_⟩;obtain ⟨ag,ap⟩:=h a tl rest bg wk;have few:=wk.few g;refine ⟨_,rfl,_,rfl,r,_,rfl,SqL.of er,λpl ah=>?_⟩;rw [show (-1:Int)=-1 from rfl,Zgw];have s3:Same H2 (upd H2 pl (.lst ((a::tl).dropLast.map V.int))):=Same.new ah;have G:upd H2 pl (.lst ((a::tl).dropLast.map V.int)) pl=some (.lst ((a::tl).dropLast.map V.int)):=Gb;generalize upd H2 pl (.lst ((a::tl).dropLast.map V.int))=H3 at s3 G ⊢;have S3:=s2.trans s3;have hH:H pl=none:=s1.free (s2.free ah);have au:(a::tl).dropLast.length<=200:=by rw [List.length_dropLast,Ybi];lia
  refine ⟨_,rfl,_,rfl,wb,l,pl,k,xs,rs,_,rfl,W1.same S3,hx,G,by lia,λb H4 s4 hb=>?_⟩;refine ⟨_,rfl,?_⟩;have B:∀H5:Hp,Same H1 H5->¬ Zx rs ks k tl->E (.ref NW) none H5:=λH5 s5 n=>ap n H5 (s1.trans s5);have ai:Zx rs ks k tl->_:=λz=>ZcH g wk (bg λe=>by
   have:=X0 z.1;rw [e] at this;have l3:=z.2.1;have:ks=[]:=List.map_eq_nil_iff.mp this.symm;rw [this] at l3;exact absurd l3 (by decide)) z.1 z.2.1 z.2.2.1 z.2.2.2
  cases b with
  | false=>
   refine JQ (JQ ⟨by decide,B _ (S3.trans s4) λz=>?_⟩);exact absurd (hb.mpr (ai z).1) Yax
  | true=>
   refine JI ?_;have D:=hb.mp rfl;have ne:(a::tl).dropLast≠[]:=λz=>by have:=D.1;rw [z] at this;exact absurd this (by decide)
   refine ⟨_,rfl,_,rfl,wb,l,pl,k,xs,rs,_,true,rfl,(W1.same S3).same s4,g,s4 _ _ G,by lia,λ_=>ne,D.2.2.2.1,λre ms H5 s5 av aq pm so=>?_⟩;refine ⟨_,rfl,.list (ms.map PyData.int),.list (ks.map PyData.int),.lst (SqL.of aq) (Je _),.lst (SqL.of (s5 _ _ (s4 _ _ (S3 _ _ af)))) (Je _),GW _,GW _,_,rfl,?_⟩;rw [OW];have S5:=(S3.trans s4).trans s5;by_cases e:ms=ks
   ·rw [Yae e];refine JI ?_;refine ⟨_,rfl,ag ?_ pl H5 (s1.trans S5) hH (s5 _ _ (s4 _ _ G))⟩;obtain ⟨b1,b2,b3,b4⟩:=YJ g D pm so e;refine ⟨b1,b2,b3,?_⟩;rw [List.length_dropLast,Ybi] at b4
    lia
   ·rw [Yak e];refine JQ ⟨by decide,B _ S5 λz=>e ?_⟩;exact (ai z).2 ms pm so
def Zgy (K:W.Frag):Sp:=λvs H Q _=>∃(a:Addr)(ns:List Int)(k:Nat),vs=[.ref a,.int (k:Int)]/\SqL K H a (ns.map V.int)/\∀z:Int,Q (.int z) H
theorem ZhR:Gp ["script", "k"] ["script", "k"] (Ge Zhg):=⟨rfl,rfl,rfl,by decide +kernel,rfl,by decide +kernel,by decide +kernel⟩
theorem Zgz {f:Addr}{fd:FuncData}(F:Fun K "_law_cell_at" "_law_cell_at" Zhg f fd)(B:mg "len" = none):GJ P w K mg base CX0 1 f fd ["script", "k"] (Zgy K):=by
 refine F.ok ZhR (λvs H Q E h=>?_) (λL A D s H vs Q E O h=>?_)
 ·obtain ⟨_,_,_,rfl,_⟩:=h
  rfl
 ·obtain ⟨a,ns,k,rfl,G,q⟩:=h;refine ⟨_,Gc (Jn (Go Ud (pv 1) (Gu (Zd7 K) rfl B Yde (Ga (pv 0) Gd)) (Gv _)) (Gf (Gs (GE (U3 K) (pv 0) (pv 1) (λ_ _=>rfl)))) Gz)
    (Gf (Gs Gg)),?_⟩
  refine ⟨_,rfl,_,rfl,a,_,rfl,.inl G,_,_,rfl,rfl,_,rfl,?_⟩;rw [Yaa];refine OA (λz=>?_) (λ_=>q 0);have N:=Yba z;exact ⟨_,rfl,_,rfl,a,_,_,_,rfl,rfl,G,JS (by lia) N,q _⟩
def UA (rs:List (Int×Int))(x:Int):Nat->Int
 | 0=>-1
 | j+1=>if (rs.getD j (0,0)).1=x\/(rs.getD j (0,0)).2=x then (j:Int) else UA rs x j
theorem YK (rs:List (Int×Int))(x:Int){i:Nat}(h:(rs.getD i (0,0)).1=x\/(rs.getD i (0,0)).2=x):∀j:Nat,i<j->(i:Int)<=UA rs x j
 | 0,hi=>by lia
 | j+1,hi=>by
  unfold UA;split
  ·lia
  ·rename_i hn;rcases Nat.lt_or_ge i j with q | q
   ·exact YK rs x h j q
   ·have:i=j:=by lia
    subst this;exact absurd h hn
theorem YL (rs:List (Int×Int))(x:Int):∀(j i:Nat),UA rs x j=(i:Int)->(rs.getD i (0,0)).1=x\/(rs.getD i (0,0)).2=x
 | 0,i,h=>by unfold UA at h;lia
 | j+1,i,h=>by
  unfold UA at h;split at h
  ·rename_i hn;have:i=j:=by lia
   subst this;exact hn
  ·exact YL rs x j i h
def J2 (rs:List (Int×Int))(x:Int):Int:=UA rs x rs.length
theorem O5 {rs:List (Int×Int)}{j:Nat}(B:j<rs.length){p:Int}(h:(rs.getD j (0,0)).1=p\/(rs.getD j (0,0)).2=p):(j:Int)<=J2 rs p:=YK rs p h rs.length B
def gA (m:List Int)(p:Int):Int:=m.getD p.toNat 0
def Jx (q:Int):Bool:=decide (0<=q\/q=-3\/q=-4)
def Oa (q:Int):Bool:=decide (q=-1\/q=-5)
def Vt (q:Int):Bool:=decide (¬ (q=-2\/q=-5))
def Xi (s t q:Int):Int:=if q=s then -3 else if q=t then -4 else q
def OM (s t:Int)(m:List Int)(a:Int):Int:=if gA m a=-2 then Xi s t a else gA m a
def pW1 (m:List Int)(r:Int×Int)(B D:Int):List Int:=
 let c1:=(m.set r.1.toNat (-1)).set r.2.toNat (-1)
 let c2:=if 0<=B then c1.set B.toNat D else c1
 if 0<=D then c2.set D.toNat B else c2
abbrev nE:Int:=-9
def pC (s t:Int)(m:List Int)(r:Int×Int):List Int:=if gA m r.1=r.2 then (m.set r.1.toNat (-1)).set r.2.toNat (-1) else pW1 m r (OM s t m r.1) (OM s t m r.2)
def ON (s t:Int)(m:List Int)(r:Int×Int):Option (List Int):=
 if m.getD (m.length-1) 0=0\/Oa (gA m r.1)=true\/Oa (gA m r.2)=true then none
 else if gA m r.1=r.2\/(OM s t m r.1<0/\OM s t m r.2<0) then (if (pC s t m r).any Jx=true then none else some ((pC s t m r).set (m.length-1) 0))
 else some (pC s t m r)
def Xj (m lv B:List Int):Option (List Int):=
 if lv=[] then some m else if (lv.any λp=>Jx (gA m p))=true\/(B.all λp=>Vt (gA m p))=false then none else some (lv.foldl (λm p=>m.set p.toNat (-2)) m)
def O6 (rs:List (Int×Int))(j:Nat):List Int:=[(rs.getD j (0,0)).1,(rs.getD j (0,0)).2].filter λp=>decide (J2 rs p=(j:Int))
def Zfd (s t:Int)(lv:List Int):List Int:=lv.filter λp=>decide (p=s\/p=t)
def Za6 (rs:List (Int×Int))(s t:Int)(m:List Int)(j:Nat)(ch:Bool):Option (List Int):=
 (if ch=true then ON s t m (rs.getD j (0,0)) else some m).bind λB=>Xj B (O6 rs j) (Zfd s t (O6 rs j))
theorem Ve {m:List Int}{i p v:Int}(B:0<=i)(D:i<m.length)(F:0<=p):gA (m.set i.toNat v) p=if p=i then v else gA m p:=by
 unfold gA;rw [Yai,List.getElem?_set];by_cases h:p=i
 ·subst h;rw [if_pos rfl,if_pos (by lia),if_pos rfl]
  rfl
 ·rw [if_neg (by lia),if_neg h,Yai]
theorem Vf (s t q:Int):(q=s/\Xi s t q=-3)\/(q≠s/\q=t/\Xi s t q=-4)\/(q≠s/\q≠t/\Xi s t q=q):=by
 unfold Xi;by_cases h1:q=s
 ·exact .inl ⟨h1,if_pos h1⟩
 ·by_cases h2:q=t
  ·exact .inr (.inl ⟨h1,h2,by rw [if_neg h1,if_pos h2]⟩)
  ·exact .inr (.inr ⟨h1,h2,by rw [if_neg h1,if_neg h2]⟩)
def EndD (H:Hp)(e:Addr)(s t:Int):Prop:=s=nE/\t=nE/\∃o,H e=some (.frz o (.dK []))
theorem EndD.same {H H':Hp}{e:Addr}{s t:Int}(h:EndD H e s t)(q:Same H H'):EndD H' e s t:=⟨h.1,h.2.1,h.2.2.imp λ_ z=>q _ _ z⟩
theorem EndD.get {H:Hp}{e:Addr}{s t:Int}(h:EndD H e s t)(p:Int)(B:0<=p):DGet H e (.int p) (if p=s then some (.int (-3)) else if p=t then some (.int (-4)) else none):=by
 obtain ⟨rfl,rfl,o,e⟩:=h;have n:¬ p=nE:=λz=>by have:p=-9:=z;lia
 rw [if_neg n,if_neg n];exact .inl ⟨_,.inl p,.inr ⟨o,e⟩,rfl,rfl⟩
def ZiD (K:W.Frag):Sp:=λvs H Q _=>∃(m:Addr)(ms:List Int),vs=[.ref m]/\SqT K H m (ms.map V.int)/\ms≠[]/\Q (.bl (decide (ms.getD (ms.length-1) 0=0))) H
theorem Zjk:Gp ["marks"] ["marks"] (Ge sId):=⟨rfl,rfl,rfl,by decide +kernel,rfl,by decide +kernel,by decide +kernel⟩
theorem ZgA {ns:List Int}(h:ns≠[]):atI (ns.map V.int) (-1)=some (.int (ns.getD (ns.length-1) 0)):=by
 have B:0<ns.length:=List.length_pos_iff.mpr h;have e:ixN (ns.map V.int).length (-1)=some (ns.length-1):=by
  unfold ixN;rw [if_neg (by decide),Yaa,if_pos (by lia)]
  congr 1
  lia
 unfold atI;rw [e];show (ns.map V.int)[ns.length-1]?=_;rw [Yau,Yai,Yah (show ns.length-1<ns.length by lia)]
 rfl
theorem JU {i j:Int}:decide (V.int i=V.int j)=decide (i=j):=by
 by_cases h:i=j
 ·rw [Yae h,Yae (by rw [h])]
 ·rw [Yak h,Yak λz=>h (V.int.inj z)]
theorem ZhS {f:Addr}{fd:FuncData}(F:Fun K "is_done" "is_done" sId f fd){L:Tok}(B:mg "DONE" = some (.int 0 L)):GJ P w K mg base CX0 1 f fd ["marks"] (ZiD K):=by
 refine F.ok Zjk (λvs H Q E h=>?_) (λN A D U H vs Q E Y h=>?_)
 ·obtain ⟨_,_,rfl,_⟩:=h
  rfl
 ·obtain ⟨m,ms,rfl,O,G,q⟩:=h;refine ⟨_,Gf (Gs (Jr UV (GE (Ut K) (pv 0) (Xy OI Gg) (λ_ _=>rfl)) (Jp (v:=.int (0)) rfl B ⟨_,rfl⟩) (Gv _))),?_⟩;refine ⟨_,rfl,_,rfl,m,_,_,_,rfl,rfl,O,ZgA G,rfl,?_⟩;rw [JU];exact q
def X2 (g:Int->Bool):Sp:=λvs H Q _=>∃q:Int,vs=[.int q]/\∀H',Same H H'->Q (.bl (g q)) H'
theorem ZhT (q a b:Int):inV (.int q) [.int a,.int b]=decide (q=a\/q=b):=by
 rw [show decide (q=a\/q=b)=decide (a=q\/b=q) from decide_eq_decide.mpr ⟨λh=>h.imp Eq.symm Eq.symm,λh=>h.imp Eq.symm Eq.symm⟩];unfold inV;by_cases h1:a=q <;> by_cases h2:b=q <;> simp [eqV,h1,h2]
theorem Zjl:Gp ["mark"] ["mark"] (Ge sIl):=⟨rfl,rfl,rfl,by decide +kernel,rfl,by decide +kernel,by decide +kernel⟩
theorem ZhU {f:Addr}{fd:FuncData}(F:Fun K "is_loose" "is_loose" sIl f fd){L N:Tok}(D:mg "FIRST" = some (.int (-3) L))(B:mg "SECOND" = some (.int (-4) N)):GJ P w K mg base CX0 1 f fd ["mark"] (X2 Jx):=by
 refine F.ok Zjl (λvs H Q E h=>?_) (λO A G Y H vs Q E Z h=>?_)
 ·obtain ⟨_,rfl,_⟩:=h
  rfl
 ·obtain ⟨x,rfl,q⟩:=h;refine ⟨_,Gf (Gs (Zhk (Jr ZbR (pv 0) Gg (Gv _)) (ZK (Jr (kIn K) (pv 0) (G0 (Ga (Jp (v:=.int (-3)) rfl D ⟨_,rfl⟩) (Ga (Jp (v:=.int (-4)) rfl B ⟨_,rfl⟩) Gd))) (by with_unfolding_all rfl))))),?_⟩;refine ⟨_,rfl,_,_,rfl,rfl,_,rfl,?_⟩;unfold Jx at q;by_cases h0:0<=x
  ·rw [Yae h0];refine JQ ?_;have:=q H (Same.refl _);rw [Yae (.inl h0)] at this;exact this
  ·rw [Yak h0];refine JI ?_;refine ⟨_,rfl,two_le,λp U=>⟨p,_,rfl,.inr (SqT.of Gb),rfl,rfl,?_⟩⟩;show Q (.bl (inV (.int x) [.int (-3),.int (-4)])) _;rw [ZhT];have:=q _ (Same.new (o:=.tup [.int (-3),.int (-4)]) U);rw [show decide (0<=x\/x=-3\/x=-4)=decide (x=-3\/x=-4) from decide_eq_decide.mpr ⟨λz=>z.resolve_left h0,.inr⟩] at this;exact this
theorem Zjm:Gp ["mark"] ["mark"] (Ge sIf):=⟨rfl,rfl,rfl,by decide +kernel,rfl,by decide +kernel,by decide +kernel⟩
theorem ZhV {f:Addr}{fd:FuncData}(F:Fun K "is_full" "is_full" sIf f fd){L N:Tok}(D:mg "USED" = some (.int (-1) L))(B:mg "BARRED" = some (.int (-5) N)):GJ P w K mg base CX0 1 f fd ["mark"] (X2 Oa):=by
 refine F.ok Zjm (λvs H Q E h=>?_) (λO A G Y H vs Q E Z h=>?_)
 ·obtain ⟨_,rfl,_⟩:=h
  rfl
 ·obtain ⟨x,rfl,q⟩:=h;refine ⟨_,Gf (Gs (Jr (kIn K) (pv 0) (G0 (Ga (Jp (v:=.int (-1)) rfl D ⟨_,rfl⟩) (Ga (Jp (v:=.int (-5)) rfl B ⟨_,rfl⟩) Gd))) (by with_unfolding_all rfl))),?_⟩;refine ⟨_,rfl,two_le,λp U=>⟨p,_,rfl,.inr (SqT.of Gb),rfl,rfl,?_⟩⟩;show Q (.bl (inV (.int x) [.int (-1),.int (-5)])) _;rw [ZhT];exact q _ (Same.new U)
theorem Zjn:Gp ["mark"] ["mark"] (Ge sIm):=⟨rfl,rfl,rfl,by decide +kernel,rfl,by decide +kernel,by decide +kernel⟩
theorem ZhW {f:Addr}{fd:FuncData}(F:Fun K "is_met" "is_met" sIm f fd){L N:Tok}(D:mg "FREE" = some (.int (-2) L))(B:mg "BARRED" = some (.int (-5) N)):GJ P w K mg base CX0 1 f fd ["mark"] (X2 Vt):=by
 refine F.ok Zjn (λvs H Q E h=>?_) (λO A G Y H vs Q E Z h=>?_)
 ·obtain ⟨_,rfl,_⟩:=h
  rfl
 ·obtain ⟨x,rfl,q⟩:=h;refine ⟨_,Gf (Gs (Jr (Zac K) (pv 0) (G0 (Ga (Jp (v:=.int (-2)) rfl D ⟨_,rfl⟩) (Ga (Jp (v:=.int (-5)) rfl B ⟨_,rfl⟩) Gd))) (by with_unfolding_all rfl))),?_⟩;refine ⟨_,rfl,two_le,λp U=>⟨p,_,rfl,.inr (SqT.of Gb),rfl,rfl,?_⟩⟩;show Q (.bl (!inV (.int x) [.int (-2),.int (-5)])) _;rw [ZhT];have:=q _ (Same.new (o:=.tup [.int (-2),.int (-5)]) U);unfold Vt at this;rw [decide_not] at this;exact this
def ZiE (K:W.Frag):Sp:=λvs H Q _=>∃(m e:Addr)(ms:List Int)(p s t:Int),vs=[.ref m,.int p,.ref e]/\SqT K H m (ms.map V.int)/\0<=p/\p<ms.length/\EndD H e s t/\Q (.int (OM s t ms p)) H
theorem Zjo:Gp ["marks", "place", "ends"] ["marks", "place", "ends"] (Ge sFe):=⟨rfl,rfl,rfl,by decide +kernel,rfl,by decide +kernel,by decide +kernel⟩
theorem ZhX {f:Addr}{fd:FuncData}(F:Fun K "far_end" "far_end" sFe f fd){Y:Tok}(B:mg "FREE" = some (.int (-2) Y)):GJ P w K mg base CX0 1 f fd ["marks", "place", "ends"] (ZiE K):=by
 refine F.ok Zjo (λvs H Q E h=>?_) (λD A G Z H vs Q E hr h=>?_)
 ·obtain ⟨_,_,_,_,_,_,rfl,_⟩:=h
  rfl
 ·obtain ⟨m,e,ms,p,s,t,rfl,O,L,p1,U,q⟩:=h;have N:(A.deeper (PyProof.Rows.envOfC "far_end" (Ge sFe) Z.heap.objs.size f D)).units+1<cLine:=by have:=hr.un;lia
  refine ⟨_,Gf (Gs (UB (Go UV (GE (Ut K) (pv 0) (pv 1) (λ_ _=>rfl)) (Jp (v:=.int (-2)) rfl B ⟨_,rfl⟩) (Gv _)) (Zb3 N (pv 2) (pv 1) (pv 1) ⟨rfl,rfl,rfl,rfl⟩) (GE (Ut K) (pv 0) (pv 1) (λ_ _=>rfl)))),?_⟩;refine ⟨_,rfl,_,rfl,m,_,_,_,rfl,rfl,O,JS L p1,rfl,_,rfl,?_⟩;rw [JU];unfold OM at q;refine OA (λz=>?_) (λz=>?_)
  ·rw [if_pos (show gA ms p=-2 from Yba z)] at q;obtain ⟨_,_,o,e1⟩:=id U;refine ⟨_,rfl,e,rfl,.inl ⟨_,.inr ⟨o,e1⟩⟩,_,rfl,_,rfl,_,U.get p L,?_⟩;unfold Xi at q;by_cases h1:p=s
   ·rw [if_pos h1] at q ⊢;exact q
   ·rw [if_neg h1] at q ⊢;by_cases h2:p=t
    ·rw [if_pos h2] at q ⊢;exact q
    ·rw [if_neg h2] at q ⊢;exact q
  ·rw [if_neg (show ¬ gA ms p=-2 from λy=>z (Yae y))] at q;exact ⟨_,rfl,_,rfl,m,_,_,_,rfl,rfl,O,JS L p1,q⟩
theorem Vg {n:Nat}{i:Int}(h0:0<=i)(h1:i<n):ixN n i=some i.toNat:=by
 unfold ixN;rw [if_pos h0,if_pos h1]
theorem map_set {ms:List Int}{n:Nat}{v:Int}:(ms.map V.int).set n (.int v)=(ms.set n v).map V.int:=by
 rw [List.map_set]
def ZiF:Sp:=λvs H Q _=>∃(m r e:Addr)(ms:List Int)(a b s t:Int),vs=[.ref m,.ref r,.ref e]/\H m=some (.tup (ms.map V.int))/\H r=some (.tup [.int a,.int b])/\EndD H e s t/\0<=a/\a<b/\b+1<ms.length/\(∀q∈ms,q+1<(ms.length:Int))/\ms.length<=1000 /\
 (∀H':Hp,Same H H'->ON s t ms (a,b)=none->Q .non H')/\(∀(T:Addr)(m':List Int)(H':Hp),Same H H'->H T=none->H' T=some (.tup (m'.map V.int))->ON s t ms (a,b)=some m'->Q (.ref T) H')
theorem scWr:Gp ["marks", "road", "ends", "a", "b", "rounds", "far_a", "far_b", "changed"] ["marks", "road", "ends"] (Ge sWr):=⟨rfl,rfl,rfl,by decide +kernel,rfl,by decide +kernel,by decide +kernel⟩
theorem Zdx {ms:List Int}{s t p:Int}(B:0<=p)(p1:p+1<ms.length)(h:∀q∈ms,q+1<(ms.length:Int)):OM s t ms p+1<ms.length:=by
 unfold OM;split
 ·rcases Vf s t p with ⟨_,e⟩ | ⟨_,_,e⟩ | ⟨_,_,e⟩ <;> lia
 ·exact h _ (Wc (by lia))
theorem ZhY {f al am an ao:Addr}{fd ac ad ae af:FuncData}(F:Fun K "with_road" "with_road" sWr f fd)(a9:Fun K "is_done" "is_done" sId al ac)(aA:Binds K ac ["marks"] [])(aB:mg "is_done" = some (.ref al))(aC:GJ P w K mg base CX0 1 al ac ["marks"] (ZiD K))(au:Fun K "is_full" "is_full" sIf am ad)(av:Binds K ad ["mark"] [])(aw:mg "is_full" = some (.ref am))(ax:GJ P w K mg base CX0 1 am ad ["mark"] (X2 Oa))(ay:Fun K "far_end" "far_end" sFe an ae)(az:Binds K ae ["marks", "place", "ends"] [])(a1:mg "far_end" = some (.ref an))(a2:GJ P w K mg base CX0 1 an ae ["marks", "place", "ends"] (ZiE K))(aD:Fun K "is_loose" "is_loose" sIl ao af)(aE:Binds K af ["mark"] [])(aF:mg "is_loose" = some (.ref ao))(aG:GJ P w K mg base CX0 1 ao af ["mark"] (X2 Jx)){u0 u1:Tok}(ap:mg "DONE" = some (.int 0 u0))(ag:mg "USED" = some (.int (-1) u1))(a3:mg "list" = none)(a4:mg "any" = none)(a5:mg "tuple" = none):GJ P w K mg base CX0 2 f fd ["marks", "road", "ends"] ZiF:=by
 refine F.ok scWr (λvs H Q E h=>?_) (λaL A aH s0 H vs Q E hr h=>?_)
 ·obtain ⟨_,_,_,_,_,_,_,_,rfl,_⟩:=h
  rfl
 ·obtain ⟨m,r,e,ms,a,b,s,t,rfl,hm,aI,he,a0,ab,bk,qY,qV,qn,qs⟩:=h;have aM:=Yay.symm;have aJ:ms≠[]:=λz=>by rw [z] at bk;simp at bk;lia
  refine ⟨_,Gc (J8 (pv 1) (Wu K (n:=2) rfl (Gn (Gi (i:=3) scWr.nd rfl (Or.inl rfl)) (Gn (Gi (i:=4) scWr.nd rfl (Or.inl rfl)) Jb))))
    (Gc (Gm (i:=5) scWr.nd rfl (Or.inl rfl) (Jr UV (GE (Ut K) (pv 0) (pv 3) (λ_ _=>rfl)) (pv 4) (Gv _)))
    (Gc (Jn (PW.pt (OF (JL (Gj aC (hr.mono (by decide)) rfl aB a9.kp aA .nil GP (Ga (pv 0) Gd))) (OF (JL (Gj ax (hr.mono (by decide)) rfl aw au.kp av .nil GP (Ga (GE (Ut K) (pv 0) (pv 3) (λ_ _=>rfl)) Gd))) (OF (JL (Gj ax (hr.mono (by decide)) rfl aw au.kp av .nil GP (Ga (GE (Ut K) (pv 0) (pv 4) (λ_ _=>rfl)) Gd))) (Oz (PW.pt (Wy (J5 (pv 5) (λ_=>rfl)) (UT (ZaI (pv 2) (λ_=>rfl)))))))))) (Gf (Gs US)) Gz)
    (Gc (Gm (i:=6) scWr.nd rfl (Or.inl rfl) (Gj a2 (hr.mono (by decide)) rfl a1 ay.kp az .nil GP (Ga (pv 0) (Ga (pv 3) (Ga (pv 2) Gd)))))
    (Gc (Gm (i:=7) scWr.nd rfl (Or.inl rfl) (Gj a2 (hr.mono (by decide)) rfl a1 ay.kp az .nil GP (Ga (pv 0) (Ga (pv 4) (Ga (pv 2) Gd)))))
    (Gc (Gm (i:=8) scWr.nd rfl (Or.inl rfl) (Jk (VY K) rfl a3 JG (Ga (pv 0) Gd)))
    (Gc (J8 (Jp (v:=.int (-1)) rfl ag ⟨_,rfl⟩) (Vw (pv 8) (pv 3) Ol))
    (Gc (J8 (Jp (v:=.int (-1)) rfl ag ⟨_,rfl⟩) (Vw (pv 8) (pv 4) Ol))
    (Gc (Jn (PW.pt (Wy (OS (J5 (pv 5) (λ_=>rfl))) (UT (Go ZbR (pv 6) Gg (Gv _))))) (Gf (J8 (pv 7) (Vw (pv 8) (pv 6) Ol))) Gz)
    (Gc (Jn (PW.pt (Wy (OS (J5 (pv 5) (λ_=>rfl))) (UT (Go ZbR (pv 7) Gg (Gv _))))) (Gf (J8 (pv 6) (Vw (pv 8) (pv 7) Ol))) Gz)
    (Gc (Jn (PW.pt (OF (J5 (pv 5) (λ_=>rfl)) (Oz (PW.pt (Wy (Go Ud (pv 6) Gg (Gv _)) (UT (Go Ud (pv 7) Gg (Gv _)))))))) (Gc (Jn (JL (Gu (ZiA K rfl) rfl a4 YB (Ga (Jd (own:=["mark"]) rfl (Jt (by decide +kernel) (by decide +kernel) rfl (by decide +kernel)) (Oy K (pv 8)) (λ_ _ _ _=>Gi (i:=0) (show List.Nodup (["mark"]:List Str) by decide +kernel) rfl (Or.inl rfl)) (λ_ _ _ _=>JB) (λ_ _ _ _=>Gj aG (hr.mono (by decide)) rfl aF aD.kp aE .nil GP (Ga (pv 0) Gd))) Gd))) (Gf (Gs US)) Gz)
    (Gf (J8 (Jp (v:=.int (0)) rfl ap ⟨_,rfl⟩) (Vw (pv 8) (Xy OI Gg) Ol)))) Gz)
    (Gf (Gs (Jk (ZaK K) rfl a5 Ug (Ga (pv 8) Gd)))))))))))))),?_⟩
  refine ⟨_,rfl,r,_,rfl,SqT.of aI,rfl,_,_,rfl,_,_,rfl,rfl,?_⟩
  try dsimp only [GB]
  refine J6 (λσ' H'=>σ'=[some (.ref m),some (.ref r),some (.ref e),some (.int a),some (.int b),some (.bl (decide (gA ms a=b))),none,none,none]/\H'=H) ?r2 ?r1
  case r1=>
   intro G;refine ⟨_,rfl,_,rfl,m,_,_,_,rfl,rfl,SqT.of hm,JS a0 (by lia),_,rfl,rfl,?_⟩;rw [JU];exact G _ _ ⟨rfl,rfl⟩
  rintro σ' H' ⟨rfl,rfl⟩;have ai:(ms.getD (ms.length-1) 0=0\/Oa (gA ms a)=true\/Oa (gA ms b)=true)->∀H2,Same H' H2->Q .non H2:=λz H2 s2=>qn H2 s2 (by unfold ON;rw [if_pos z]);refine J6 (λa6 H2=>a6=[some (.ref m),some (.ref r),some (.ref e),some (.int a),some (.int b),some (.bl (decide (gA ms a=b))),none,none,none]/\Same H' H2/\¬ (ms.getD (ms.length-1) 0=0\/Oa (gA ms a)=true\/Oa (gA ms b)=true)) ?f2 ?f1
  case f1=>
   intro G;refine ⟨_,rfl,m,ms,rfl,SqT.of hm,aJ,_,rfl,?_⟩;by_cases c1:ms.getD (ms.length-1) 0=0
   ·rw [Yae c1];exact JQ (JQ (ai (.inl c1) _ (Same.refl _)))
   rw [Yak c1];refine JI ?_;refine ⟨_,rfl,_,rfl,m,_,_,_,rfl,rfl,SqT.of hm,JS a0 (by lia),_,rfl,λH2 s2=>⟨_,rfl,?_⟩⟩;by_cases c2:Oa (gA ms a)=true
   ·rw [show Oa (ms.getD a.toNat 0)=true from c2];exact JQ (JQ (ai (.inr (.inl c2)) _ s2))
   rw [show Oa (ms.getD a.toNat 0)=false from by cases z:Oa (gA ms a);exact z;exact absurd z c2];refine JI ?_;refine ⟨_,rfl,_,rfl,m,_,_,_,rfl,rfl,SqT.of (s2 _ _ hm),JS (by lia) (by lia),_,rfl,λH3 s3=>⟨_,rfl,?_⟩⟩;have aj:=s2.trans s3;by_cases B:Oa (gA ms b)=true
   ·rw [show Oa (ms.getD b.toNat 0)=true from B];exact JQ (JQ (ai (.inr (.inr B)) _ aj))
   rw [show Oa (ms.getD b.toNat 0)=false from by cases z:Oa (gA ms b);exact z;exact absurd z B];refine JI ?_;refine ⟨_,rfl,_,rfl,?_⟩;have ak:¬ (ms.getD (ms.length-1) 0=0\/Oa (gA ms a)=true\/Oa (gA ms b)=true):=λz=>z.elim c1 λz=>z.elim c2 B;by_cases N:gA ms a=b
   ·rw [Yae N];obtain ⟨_,_,o,e1⟩:=id he;refine JQ ⟨_,rfl,e,_,rfl,.inr ⟨o,aj _ _ e1⟩,?_⟩;exact JI (G _ _ ⟨by rw [Yae N],aj,ak⟩)
   ·rw [Yak N];refine JI (JI ?_);exact G _ _ ⟨by rw [Yak N],aj,ak⟩
  rintro a6 H2 ⟨rfl,s2,ak⟩;have aq:=s2 _ _ hm;have a7:=he.same s2;refine ⟨_,rfl,_,rfl,_,rfl,m,e,ms,a,s,t,rfl,SqT.of aq,a0,by lia,a7,?_⟩;refine ⟨_,rfl,_,rfl,_,rfl,m,e,ms,b,s,t,rfl,SqT.of aq,by lia,by lia,a7,?_⟩;refine ⟨_,rfl,m,_,rfl,.inr (SqT.of aq),λc hc=>?_⟩;have aN:=Zdx (s:=s) (t:=t) a0 (show a+1<ms.length by lia) qY;have aO:=Zdx (s:=s) (t:=t) (show 0<=b by lia) bk qY;have ev:ON s t ms (a,b)=(if gA ms a=b\/(OM s t ms a<0/\OM s t ms b<0) then (if (pC s t ms (a,b)).any Jx=true then none else some ((pC s t ms (a,b)).set (ms.length-1) 0)) else some (pC s t ms (a,b))):=by
   unfold ON;rw [if_neg ak]
  rw [ev] at qn qs;clear ev ai;have a8:pC s t ms (a,b)=if gA ms a=b then (ms.set a.toNat (-1)).set b.toNat (-1) else pW1 ms (a,b) (OM s t ms a) (OM s t ms b):=rfl
  rw [a8] at qn qs;clear a8;generalize hfa:OM s t ms a=U at *;generalize hfb:OM s t ms b=fb at *;have aP:Same H' (upd H2 c (.lst (ms.map V.int))):=s2.put (s2.free hc);have ar:H' c=none:=s2.free hc
  try dsimp only [GB]
  refine ⟨_,rfl,_,rfl,c,_,a,_,rfl,rfl,Gb,Vg a0 (by rw [Yaa];lia),?_⟩;rw [UR,map_set];refine ⟨_,rfl,_,rfl,c,_,b,_,rfl,rfl,Gb,Vg (by lia) (by rw [Yaa,List.length_set];lia),?_⟩;rw [UR,map_set];dsimp only;obtain ⟨B,as,l3⟩:∃B,(if gA ms a=b then (ms.set a.toNat (-1)).set b.toNat (-1) else pW1 ms (a,b) U fb)=B/\B.length=ms.length:=⟨_,rfl,by
   split
   ·simp only [List.length_set]
   ·unfold pW1;dsimp only;split <;> split <;> simp only [List.length_set]⟩
  rw [as] at qn qs;refine J6 (λσ' H3=>σ'=[some (.ref m),some (.ref r),some (.ref e),some (.int a),some (.int b),some (.bl (decide (gA ms a=b))),some (.int U),some (.int fb),some (.ref c)]/\H3=upd H2 c (.lst ((if gA ms a=b then (ms.set a.toNat (-1)).set b.toNat (-1) else if 0<=U then ((ms.set a.toNat (-1)).set b.toNat (-1)).set U.toNat fb else (ms.set a.toNat (-1)).set b.toNat (-1)).map V.int))) ?g2 ?g1
  case g1=>
   intro G;by_cases N:gA ms a=b
   ·rw [Yae N] at G ⊢;rw [if_pos N] at G;exact ⟨_,rfl,_,rfl,JI (JI (G _ _ ⟨rfl,rfl⟩))⟩
   rw [Yak N] at G ⊢;rw [if_neg N] at G;refine ⟨_,rfl,_,rfl,JQ ⟨_,rfl,_,_,rfl,rfl,_,rfl,?_⟩⟩;by_cases z:0<=U
   ·rw [Yae z];refine JQ ⟨_,rfl,_,rfl,_,rfl,c,_,U,_,rfl,rfl,Gb,Vg z (by rw [Yaa,List.length_set,List.length_set];lia),?_⟩;rw [UR,map_set];exact G _ _ ⟨rfl,by rw [if_pos z]⟩
   ·rw [Yak z];exact JI (G _ _ ⟨rfl,by rw [if_neg z]⟩)
  rintro σ' H3 ⟨rfl,rfl⟩;have l2:(if gA ms a=b then (ms.set a.toNat (-1)).set b.toNat (-1) else if 0<=U then ((ms.set a.toNat (-1)).set b.toNat (-1)).set U.toNat fb else (ms.set a.toNat (-1)).set b.toNat (-1)).length=ms.length:=by split <;> (try split) <;> simp only [List.length_set]
  refine J6 (λσ' H3=>σ'=[some (.ref m),some (.ref r),some (.ref e),some (.int a),some (.int b),some (.bl (decide (gA ms a=b))),some (.int U),some (.int fb),some (.ref c)]/\H3=upd H2 c (.lst (B.map V.int))) ?h2 ?h1
  case h1=>
   intro G;rw [<-as] at G;by_cases N:gA ms a=b
   ·rw [Yae N] at G ⊢;rw [if_pos N] at G ⊢;exact ⟨_,rfl,_,rfl,JI (JI (G _ _ ⟨rfl,rfl⟩))⟩
   rw [Yak N] at G ⊢;rw [if_neg N] at G l2 ⊢;refine ⟨_,rfl,_,rfl,JQ ⟨_,rfl,_,_,rfl,rfl,_,rfl,?_⟩⟩;by_cases z:0<=fb
   ·rw [Yae z];refine JQ ⟨_,rfl,_,rfl,_,rfl,c,_,fb,_,rfl,rfl,Gb,Vg z (by rw [Yaa,l2];lia),?_⟩;rw [UR,map_set];exact G _ _ ⟨rfl,by unfold pW1;dsimp only;rw [if_pos z]⟩
   ·rw [Yak z];exact JI (G _ _ ⟨rfl,by unfold pW1;dsimp only;rw [if_neg z]⟩)
  rintro σ' H3 ⟨rfl,rfl⟩;clear as;have sc:∀ys,Same H' (upd H2 c ys):=λys=>s2.put ar;have fin:∀(O:Hp)(m':List Int),Same H' O->O c=some (.lst (m'.map V.int))->m'.length=ms.length->(if gA ms a=b\/(U<0/\fb<0) then (if B.any Jx=true then none else some (B.set (ms.length-1) 0)) else some B)=some m'->∀T,O T=none->Q (.ref T) (upd O T (.tup (m'.map V.int))):=λO m' Y e4 _ em T hT=>qs T m' _ (Y.put (Y.free hT)) (Y.free hT) Gb em;refine J6 (λσ' O=>∃m':List Int,σ'=[some (.ref m),some (.ref r),some (.ref e),some (.int a),some (.int b),some (.bl (decide (gA ms a=b))),some (.int U),some (.int fb),some (.ref c)]/\Same H' O/\O c=some (.lst (m'.map V.int))/\m'.length=ms.length/\(if gA ms a=b\/(U<0/\fb<0) then (if B.any Jx=true then none else some (B.set (ms.length-1) 0)) else some B)=some m') ?k2 ?k1
  case k2=>
   rintro σ' O ⟨m',rfl,Y,e4,l4,em⟩;exact ⟨_,rfl,c,_,rfl,.inl ⟨SqL.of e4,λT hT=>fin O m' Y e4 l4 em T hT⟩⟩
  case k1=>
   intro G;have aa:¬ (gA ms a=b\/(U<0/\fb<0))->∃m':List Int,[some (V.ref m),some (.ref r),some (.ref e),some (.int a),some (.int b),some (.bl (decide (gA ms a=b))),some (.int U),some (.int fb),some (.ref c)]=[some (.ref m),some (.ref r),some (.ref e),some (.int a),some (.int b),some (.bl (decide (gA ms a=b))),some (.int U),some (.int fb),some (.ref c)]/\Same H' (upd H2 c (.lst (B.map V.int)))/\upd H2 c (.lst (B.map V.int)) c=some (.lst (m'.map V.int))/\m'.length=ms.length/\(if gA ms a=b\/(U<0/\fb<0) then (if B.any Jx=true then none else some (B.set (ms.length-1) 0)) else some B)=some m':=
    λz=>⟨B,rfl,sc _,Gb,l3,by rw [if_neg z]⟩
   by_cases N:gA ms a=b
   ·rw [Yae N];rw [Yae N] at G;rw [Yae N] at aa;refine ⟨_,rfl,_,rfl,JQ (JQ ?_)⟩;have zc:gA ms a=b\/(U<0/\fb<0):=.inl N;rw [if_pos zc] at qn;refine ⟨_,rfl,c,rfl,⟨_,SqL.of Gb⟩,λD hD=>?_⟩;have aK:c≠D:=λz=>by rw [<-z,Gb] at hD;cases hD
    refine GF (K:=K) (a:=c) (xs:=B.map V.int) (λi ys O=>Same (upd H2 c (.lst (B.map V.int))) O/\O D=some (.lst ys)/\ys=((B.take i).map Jx).map V.bl) ⟨Same.new hD,Gb,rfl⟩ (λi ys O _ ⟨Y,_⟩=>SqL.of (Y _ _ Gb)) ?_ ?_
    ·rintro i x ys O L ⟨Y,Z,rfl⟩;have hi:i<(B.map V.int).length:=(Ybf.mp L).1;rw [Yaa] at hi;rw [Yau] at L;cases y:B[i]? with
     | none=>rw [y] at L;cases L
     | some x1=>
      rw [y] at L;cases L;refine ⟨trivial,?_⟩;unfold ZbJ;refine JQ ?_;refine ⟨_,rfl,x1,rfl,λH5 s5=>⟨s5 _ _ Z,by rw [Yaa,Yaa,Ybn];lia,(Y.trans s5).put hD,Gb,?_⟩⟩;rw [Ybw,y,Yal,Yal]
      rfl
    ·rintro ys O ⟨Y,Z,rfl⟩;rw [Yaa,Yce] at Z;refine ⟨D,_,rfl,SqL.of Z,_,rfl,?_⟩;rw [List.any_map,show (id∘Jx)=Jx from rfl];have ah:=(sc (.lst (B.map V.int))).trans Y;by_cases z3:B.any Jx=true
     ·rw [z3];exact JQ (qn _ ah (by rw [if_pos z3]))
     ·rw [show B.any Jx=false from by cases y:B.any Jx;rfl;exact absurd y z3];refine JI ?_;refine ⟨_,rfl,_,rfl,c,_,-1,ms.length-1,rfl,rfl,Y _ _ Gb,?_,?_⟩
      ·unfold ixN;rw [if_neg (by decide),Yaa,l3,if_pos (by lia)]
       congr 1
       lia
      ·rw [map_set];exact G _ _ ⟨_,rfl,ah.put ar,Gb,by rw [List.length_set,l3],by rw [if_pos zc,if_neg z3]⟩
   rw [Yak N];rw [Yak N] at G;rw [Yak N] at aa;refine ⟨_,rfl,_,rfl,JI ⟨_,rfl,_,_,rfl,rfl,_,rfl,?_⟩⟩;by_cases z1:U<0
   ·rw [Yae z1];refine JQ ⟨_,rfl,_,_,rfl,rfl,_,rfl,?_⟩;by_cases z2:fb<0
    ·rw [Yae z2];refine JQ ?_;have zc:gA ms a=b\/(U<0/\fb<0):=.inr ⟨z1,z2⟩;rw [if_pos zc] at qn;refine ⟨_,rfl,c,rfl,⟨_,SqL.of Gb⟩,λD hD=>?_⟩;have aK:c≠D:=λz=>by rw [<-z,Gb] at hD;cases hD
     refine GF (K:=K) (a:=c) (xs:=B.map V.int) (λi ys O=>Same (upd H2 c (.lst (B.map V.int))) O/\O D=some (.lst ys)/\ys=((B.take i).map Jx).map V.bl) ⟨Same.new hD,Gb,rfl⟩ (λi ys O _ ⟨Y,_⟩=>SqL.of (Y _ _ Gb)) ?_ ?_
     ·rintro i x ys O L ⟨Y,Z,rfl⟩;have hi:i<(B.map V.int).length:=(Ybf.mp L).1;rw [Yaa] at hi;rw [Yau] at L;cases y:B[i]? with
      | none=>rw [y] at L;cases L
      | some x1=>
       rw [y] at L;cases L;refine ⟨trivial,?_⟩;unfold ZbJ;refine JQ ?_;refine ⟨_,rfl,x1,rfl,λH5 s5=>⟨s5 _ _ Z,by rw [Yaa,Yaa,Ybn];lia,(Y.trans s5).put hD,Gb,?_⟩⟩;rw [Ybw,y,Yal,Yal]
       rfl
     ·rintro ys O ⟨Y,Z,rfl⟩;rw [Yaa,Yce] at Z;refine ⟨D,_,rfl,SqL.of Z,_,rfl,?_⟩;rw [List.any_map,show (id∘Jx)=Jx from rfl];have ah:=(sc (.lst (B.map V.int))).trans Y;by_cases z3:B.any Jx=true
      ·rw [z3];exact JQ (qn _ ah (by rw [if_pos z3]))
      ·rw [show B.any Jx=false from by cases y:B.any Jx;rfl;exact absurd y z3];refine JI ?_;refine ⟨_,rfl,_,rfl,c,_,-1,ms.length-1,rfl,rfl,Y _ _ Gb,?_,?_⟩
       ·unfold ixN;rw [if_neg (by decide),Yaa,l3,if_pos (by lia)]
        congr 1
        lia
       ·rw [map_set];exact G _ _ ⟨_,rfl,ah.put ar,Gb,by rw [List.length_set,l3],by rw [if_pos zc,if_neg z3]⟩
    ·rw [Yak z2];exact JI (G _ _ (aa λy=>y.elim N λy=>z2 y.2))
   ·rw [Yak z1];exact JI (JI (G _ _ (aa λy=>y.elim N λy=>z1 y.1)))
def ZhZ:Sp:=λvs H Q _=>∃(m a b:Addr)(ms L N:List Int),vs=[.ref m,.ref a,.ref b]/\H m=some (.tup (ms.map V.int))/\H a=some (.lst (L.map V.int))/\H b=some (.lst (N.map V.int))/\(∀p∈L,0<=p/\p<(ms.length:Int))/\(∀p∈N,0<=p/\p<(ms.length:Int))/\L.length<=300/\N.length<=300/\ms.length<=1000 /\
 (∀H':Hp,Same H H'->Xj ms L N=none->Q .non H')/\(∀(T:Addr)(m':List Int)(H':Hp),Same H H'->H' T=some (.tup (m'.map V.int))->Xj ms L N=some m'->Q (.ref T) H')
theorem scLb:Gp ["marks", "leaving", "needed", "place", "changed"] ["marks", "leaving", "needed"] (Ge sLb):=⟨rfl,rfl,rfl,by decide +kernel,rfl,by decide +kernel,by decide +kernel⟩
theorem Za7 (L:List Int):(L.map V.int).isEmpty=decide (L=[]):=by cases L <;> rfl
theorem Zh0 {f ac ad:Addr}{fd U Y:FuncData}(F:Fun K "left_behind" "left_behind" sLb f fd)(am:Fun K "is_loose" "is_loose" sIl ac U)(an:Binds K U ["mark"] [])(ao:mg "is_loose" = some (.ref ac))(ap:GJ P w K mg base CX0 1 ac U ["mark"] (X2 Jx))(aq:Fun K "is_met" "is_met" sIm ad Y)(ar:Binds K Y ["mark"] [])(as:mg "is_met" = some (.ref ad))(au:GJ P w K mg base CX0 1 ad Y ["mark"] (X2 Vt)){u2:Tok}(ae:mg "FREE" = some (.int (-2) u2))(af:mg "list" = none)(ag:mg "any" = none)(ah:mg "all" = none)(ai:mg "tuple" = none):GJ P w K mg base CX0 2 f fd ["marks", "leaving", "needed"] ZhZ:=by
 refine F.ok scLb (λvs H Q E h=>?_) (λa1 A av s0 H vs Q E hr h=>?_)
 ·obtain ⟨_,_,_,_,_,_,rfl,_⟩:=h
  rfl
 ·obtain ⟨m,a,b,ms,L,N,rfl,hm,ha,hb,lr,nr,az,a0,aw,qn,qs⟩:=h;have a2:=Yay.symm;refine ⟨_,Gc (Jn (OS (J5 (pv 1) (λ_=>rfl))) (Gf (Gs (pv 0))) Gz)
    (Gc (Jn (PW.pt (OF (JL (Gu (ZiA K rfl) rfl ag YB (Ga (Jd (own:=["place"]) rfl (Gk (fr:=[("marks", 0)]) [(".0", .local),("place", .local),("is_loose", .globalImplicit),("marks", .cell)] rfl rfl (by decide +kernel) rfl (by decide +kernel) ⟨rfl,trivial⟩ ⟨λh=>GG h,λh=>GG h,λh=>GG h,λ_=>⟨_,rfl⟩,trivial⟩ ⟨⟨rfl,.inl rfl,.inl rfl⟩,trivial⟩) (Oy K (pv 1)) (λ_ _ _ _=>Gi (i:=0) (show List.Nodup (["place", "marks"]:List Str) by decide +kernel) rfl (Or.inl rfl)) (λ_ _ _ _=>JB) (λ_ _ _ _=>Gj ap (hr.mono (by decide)) rfl ao am.kp an .nil GP (Ga (GE (Ut K) (pv 1) (pv 0) (λ_ _=>rfl)) Gd))) Gd))) (Oz (OS (JL (Gu (Zix K rfl) rfl ah V0 (Ga (Jd (own:=["place"]) rfl (Gk (fr:=[("marks", 0)]) [(".0", .local),("place", .local),("is_met", .globalImplicit),("marks", .cell)] rfl rfl (by decide +kernel) rfl (by decide +kernel) ⟨rfl,trivial⟩ ⟨λh=>GG h,λh=>GG h,λh=>GG h,λ_=>⟨_,rfl⟩,trivial⟩ ⟨⟨rfl,.inl rfl,.inl rfl⟩,trivial⟩) (Oy K (pv 2)) (λ_ _ _ _=>Gi (i:=0) (show List.Nodup (["place", "marks"]:List Str) by decide +kernel) rfl (Or.inl rfl)) (λ_ _ _ _=>JB) (λ_ _ _ _=>Gj au (hr.mono (by decide)) rfl as aq.kp ar .nil GP (Ga (GE (Ut K) (pv 1) (pv 0) (λ_ _=>rfl)) Gd))) Gd))))))) (Gf (Gs US)) Gz)
    (Gc (Gm (i:=4) scLb.nd rfl (Or.inl rfl) (Jk (VY K) rfl af JG (Ga (pv 0) Gd)))
    (Gc (JY Ycm rfl (Oy K (pv 1)) (Gi (i:=3) scLb.nd rfl (Or.inl rfl))
    (Gf (J8 (Jp (v:=.int (-2)) rfl ae ⟨_,rfl⟩) (Vw (pv 4) (pv 3) Ol))))
    (Gf (Gs (Jk (ZaK K) rfl ai Ug (Ga (pv 4) Gd))))))),?_⟩
  refine ⟨_,rfl,!(L.map V.int).isEmpty,.inl ⟨_,SqL.of ha,rfl⟩,?_⟩;show if (!!(L.map V.int).isEmpty)=true then _ else _
  rw [Bool.not_not,Za7];unfold Xj at qn qs;by_cases h0:L=[]
  ·rw [Yae h0];refine JQ ⟨_,rfl,?_⟩;rw [if_pos h0] at qs;exact qs m ms H (Same.refl _) hm rfl
  rw [Yak h0];refine JI ?_;rw [if_neg h0] at qn qs;dsimp only [ZdS];refine J6 (λσ' H'=>σ'=[some (.ref m),some (.ref a),some (.ref b),none,none]/\Same H H'/\¬ ((L.any λp=>Jx (gA ms p))=true\/(N.all λp=>Vt (gA ms p))=false)) ?g2 ?g1
  case g1=>
   intro hk;refine ⟨_,rfl,a,rfl,⟨_,SqL.of ha⟩,λD hD=>?_⟩;refine GF (K:=K) (a:=a) (xs:=L.map V.int) (λi ys H2=>Same H H2/\H2 D=some (.lst ys)/\ys=((L.take i).map λp=>Jx (gA ms p)).map V.bl) ⟨Same.new hD,Gb,rfl⟩ (λi ys H2 _ ⟨G,_⟩=>SqL.of (G _ _ ha)) ?_ ?_
   ·rintro i x ys H2 B ⟨G,aa,rfl⟩;have hi:i<(L.map V.int).length:=(Ybf.mp B).1;rw [Yaa] at hi;rw [Yau] at B;cases y:L[i]? with
    | none=>rw [y] at B;cases B
    | some p=>
     rw [y] at B;cases B;obtain ⟨p0,p1⟩:=lr p (Ybs y);refine ⟨⟨rfl,trivial⟩,?_⟩;unfold ZbJ;refine JQ ?_;refine ⟨_,rfl,_,rfl,m,_,_,_,rfl,rfl,SqT.of (G _ _ hm),JS p0 p1,_,rfl,λH5 s5=>⟨s5 _ _ aa,by rw [Yaa,Yaa,Ybn];lia,(G.trans s5).put hD,Gb,?_⟩⟩;rw [Ybw,y,Yal,Yal]
     rfl
   rintro ys H2 ⟨G,aa,rfl⟩;rw [Yaa,Yce] at aa;refine ⟨D,_,rfl,SqL.of aa,_,rfl,?_⟩;rw [List.any_map];by_cases z1:(L.any λp=>Jx (gA ms p))=true
   ·rw [show L.any (id∘λp=>Jx (gA ms p))=true from z1];exact JQ (JQ (qn _ G (by rw [if_pos (.inl z1)])))
   rw [show L.any (id∘λp=>Jx (gA ms p))=false from by cases y:(L.any λp=>Jx (gA ms p));exact y;exact absurd y z1];refine JI ?_;refine ⟨_,rfl,b,rfl,⟨_,SqL.of (G _ _ hb)⟩,λD2 aj=>?_⟩;refine GF (K:=K) (a:=b) (xs:=N.map V.int) (λi ys Z=>Same H2 Z/\Z D2=some (.lst ys)/\ys=((N.take i).map λp=>Vt (gA ms p)).map V.bl) ⟨Same.new aj,Gb,rfl⟩ (λi ys Z _ ⟨O,_⟩=>SqL.of (O _ _ (G _ _ hb))) ?_ ?_
   ·rintro i x ys Z B ⟨O,ab,rfl⟩;have hi:i<(N.map V.int).length:=(Ybf.mp B).1;rw [Yaa] at hi;rw [Yau] at B;cases y:N[i]? with
    | none=>rw [y] at B;cases B
    | some p=>
     rw [y] at B;cases B;obtain ⟨p0,p1⟩:=nr p (Ybs y);refine ⟨⟨rfl,trivial⟩,?_⟩;unfold ZbJ;refine JQ ?_;refine ⟨_,rfl,_,rfl,m,_,_,_,rfl,rfl,SqT.of (O _ _ (G _ _ hm)),JS p0 p1,_,rfl,λH5 s5=>⟨s5 _ _ ab,by rw [Yaa,Yaa,Ybn];lia,(O.trans s5).put aj,Gb,?_⟩⟩;rw [Ybw,y,Yal,Yal]
     rfl
   rintro ys Z ⟨O,ab,rfl⟩;rw [Yaa,Yce] at ab;refine ⟨D2,_,rfl,SqL.of ab,_,rfl,?_⟩;rw [List.all_map];cases z2:(N.all λp=>Vt (gA ms p)) with
   | false=>
    rw [show N.all (id∘λp=>Vt (gA ms p))=false from z2];exact JQ (qn _ (G.trans O) (by rw [if_pos (.inr z2)]))
   | true=>
    rw [show N.all (id∘λp=>Vt (gA ms p))=true from z2];exact JI (hk _ _ ⟨rfl,G.trans O,λy=>y.elim z1 (λy=>by rw [z2] at y;cases y)⟩)
  rintro σ' H1 ⟨rfl,s1,ax⟩;have ak:¬ ((L.any λp=>Jx (gA ms p))=true\/(N.all λp=>Vt (gA ms p))=false):=ax;rw [if_neg ak] at qs;refine ⟨_,rfl,m,_,rfl,.inr (SqT.of (s1 _ _ hm)),λc hc=>?_⟩;have al:H c=none:=s1.free hc;have G:=s1.put (o:=.lst (ms.map V.int)) al;have ay:=G _ _ ha;have a3:a≠c:=Gh (s1 _ _ ha) hc;refine ⟨_,rfl,a,rfl,⟨_,SqL.of ay⟩,?_⟩;refine Ye (K:=K) (a:=a) (xs:=L.map V.int) (λi σ Z=>∃v3:Option V,σ=[some (.ref m),some (.ref a),some (.ref b),v3,some (.ref c)]/\Same H Z/\Z c=some (.lst (((L.take i).foldl (λm p=>m.set p.toNat (-2)) ms).map V.int))/\((L.take i).foldl (λm p=>m.set p.toNat (-2)) ms).length=ms.length) ⟨none,rfl,G,Gb,rfl⟩ (λi σ Z _ ⟨_,_,O,_⟩=>SqL.of (O _ _ ha)) ?_ ?_
  ·rintro i x σ Z B ⟨v3,rfl,O,e3,l3⟩;rw [Yau] at B;cases y:L[i]? with
   | none=>rw [y] at B;cases B
   | some p=>
    rw [y] at B;cases B;obtain ⟨p0,p1⟩:=lr p (Ybs y);refine ⟨_,rfl,_,rfl,c,_,p,_,rfl,rfl,e3,Vg p0 (by rw [Yaa,l3];lia),?_⟩;rw [map_set];refine ⟨_,rfl,O.put al,?_,?_⟩
    ·rw [Gb,Ybw,y,List.foldl_append]
     rfl
    ·rw [Ybw,y,List.foldl_append];show (List.set _ _ _).length=_;rw [List.length_set,l3]
  ·rintro σ Z ⟨v3,rfl,O,e3,l3⟩;rw [Yaa,Yce] at e3;refine ⟨_,rfl,c,_,rfl,.inl ⟨SqL.of e3,λT hT=>?_⟩⟩;exact qs T _ _ (O.put (O.free hT)) Gb rfl
structure Zdy (H:Hp)(x:V)(rs:List (Int×Int))(s t:Int)(j:Nat):Prop where
 ex:∃T r lv nd:Addr,x=.ref T/\H T=some (.tup [.ref r,.ref lv,.ref nd])/\H r=some (.tup [.int (rs.getD j (0,0)).1,.int (rs.getD j (0,0)).2])/\H lv=some (.lst ((O6 rs j).map V.int))/\H nd=some (.lst ((Zfd s t (O6 rs j)).map V.int))
structure Zjp (rs:List (Int×Int))(j:Nat)(ms:List Int):Prop where
 lt:j<rs.length
 rd:0<=(rs.getD j (0,0)).1/\(rs.getD j (0,0)).1<(rs.getD j (0,0)).2/\(rs.getD j (0,0)).2+1<(ms.length:Int)
 al:∀q∈ms,q+1<(ms.length:Int)
 le:ms.length<=1000
def ZiG:Sp:=λvs H Q _=>∃(m e:Addr)(x:V)(ms:List Int)(rs:List (Int×Int))(s t:Int)(j:Nat)(ch:Bool),vs=[.ref m,x,.ref e,.bl ch]/\H m=some (.tup (ms.map V.int))/\Zdy H x rs s t j/\EndD H e s t/\Zjp rs j ms /\
 (∀H':Hp,Same H H'->Za6 rs s t ms j ch=none->Q .non H')/\(∀(T:Addr)(m':List Int)(H':Hp),Same H H'->H' T=some (.tup (m'.map V.int))->Za6 rs s t ms j ch=some m'->Q (.ref T) H')
theorem scDe:Gp ["marks", "step", "ends", "chosen", "road", "leaving", "needed", "taken"] ["marks", "step", "ends", "chosen"] (Ge sDe):=⟨rfl,rfl,rfl,by decide +kernel,rfl,by decide +kernel,by decide +kernel⟩
theorem ZcJ {rs:List (Int×Int)}{j:Nat}{n:Int}(h:0<=(rs.getD j (0,0)).1/\(rs.getD j (0,0)).1<(rs.getD j (0,0)).2/\(rs.getD j (0,0)).2+1<n):(∀p∈O6 rs j,0<=p/\p<n)/\(O6 rs j).length<=2:=by
 unfold O6;refine ⟨λp B=>?_,Ych _ _⟩;rcases Yar.mp (Ybk.mp B).1 with z | z
 ·lia
 ·rcases Yar.mp z with z | z
  ·lia
  ·cases z
theorem pC_len {s t:Int}{ms:List Int}{r:Int×Int}:(pC s t ms r).length=ms.length:=by
 unfold pC;split
 ·simp only [List.length_set]
 ·unfold pW1;dsimp only;split <;> split <;> simp only [List.length_set]
theorem ZcK {s t:Int}{ms B:List Int}{r:Int×Int}(h:ON s t ms r=some B):B.length=ms.length:=by
 unfold ON at h;split at h
 ·cases h
 ·split at h
  ·split at h
   ·cases h
   ·cases h;rw [List.length_set,pC_len]
  ·cases h;exact pC_len
theorem Zh1 {f N O:Addr}{fd D G:FuncData}(F:Fun K "decided" "decided" sDe f fd)(aa:Fun K "with_road" "with_road" sWr N D)(ab:Binds K D ["marks", "road", "ends"] [])(ac:mg "with_road" = some (.ref N))(ad:GJ P w K mg base CX0 2 N D ["marks", "road", "ends"] ZiF)(ae:Fun K "left_behind" "left_behind" sLb O G)(af:Binds K G ["marks", "leaving", "needed"] [])(ag:mg "left_behind" = some (.ref O))(ah:GJ P w K mg base CX0 2 O G ["marks", "leaving", "needed"] ZhZ):GJ P w K mg base CX0 3 f fd ["marks", "step", "ends", "chosen"] ZiG:=by
 refine F.ok scDe (λvs H Q E h=>?_) (λaj A ai s0 H vs Q E hr h=>?_)
 ·obtain ⟨_,_,_,_,_,_,_,_,_,rfl,_⟩:=h
  rfl
 ·obtain ⟨m,e,x,ms,rs,s,t,j,U,rfl,hm,hs,he,ok,qn,qs⟩:=h;obtain ⟨T,r,lv,nd,rfl,h1,h2,h3,h4⟩:=hs.ex;obtain ⟨lr,ll⟩:=ZcJ ok.rd;have nr:(Zfd s t (O6 rs j)).length<=2:=Ycc (Ych _ _) ll;refine ⟨_,Gc (J8 (pv 1) (Wu K (n:=3) rfl (Gn (Gi (i:=4) scDe.nd rfl (Or.inl rfl)) (Gn (Gi (i:=5) scDe.nd rfl (Or.inl rfl)) (Gn (Gi (i:=6) scDe.nd rfl (Or.inl rfl)) Jb)))))
    (Gc (Gm (i:=7) scDe.nd rfl (Or.inl rfl) (UB (J5 (pv 3) (λ_=>rfl)) (Gj ad (hr.mono (by decide)) rfl ac aa.kp ab .nil GP (Ga (pv 0) (Ga (pv 4) (Ga (pv 2) Gd)))) (pv 0)))
    (Gf (Gs (UB (Go Zc7 (pv 7) US (Gv _)) US (Gj ah (hr.mono (by decide)) rfl ag ae.kp af .nil GP (Ga (pv 7) (Ga (pv 5) (Ga (pv 6) Gd)))))))),?_⟩
  refine ⟨_,rfl,T,_,rfl,SqT.of h1,rfl,_,_,rfl,_,_,rfl,_,_,rfl,rfl,?_⟩
  try dsimp only [GB]
  unfold Za6 at qn qs;have last:∀(L:Addr)(B:List Int)(H2:Hp),Same H H2->H2 L=some (.tup (B.map V.int))->B.length=ms.length->(if U=true then ON s t ms (rs.getD j (0,0)) else some ms)=some B ->
    ZhZ [.ref L,.ref lv,.ref nd] H2 Q E0:=λL B H2 s2 Y Z em=>by
   rw [em] at qn qs;exact ⟨L,lv,nd,B,_,_,rfl,Y,s2 _ _ h3,s2 _ _ h4,by rw [Z];exact lr,λp hp=>by rw [Z];exact lr p (Ybk.mp hp).1,by lia,by lia,by rw [Z];exact ok.le,λH' s' z=>qn H' (s2.trans s') z,λT' m' H' s' e' z=>qs T' m' H' (s2.trans s') e' z⟩
  refine J6 (λσ' H'=>∃v:V,σ'=[some (.ref m),some (.ref T),some (.ref e),some (.bl U),some (.ref r),some (.ref lv),some (.ref nd),some v]/\Same H H'/\((v=.non/\(if U=true then ON s t ms (rs.getD j (0,0)) else some ms)=none)\/∃(L:Addr)(B:List Int),v=.ref L/\H' L=some (.tup (B.map V.int))/\B.length=ms.length/\(if U=true then ON s t ms (rs.getD j (0,0)) else some ms)=some B)) ?g2 ?g1
  case g1=>
   intro hk;refine ⟨_,rfl,_,rfl,?_⟩;cases U with
   | true=>
    refine JQ ?_;refine ⟨_,rfl,_,rfl,_,rfl,m,r,e,ms,_,_,s,t,rfl,hm,h2,he,ok.rd.1,ok.rd.2.1,ok.rd.2.2,ok.al,ok.le,λH' s' z=>?_,λL B H' s' _ Y z=>?_⟩
    ·exact hk _ _ ⟨_,rfl,s',.inl ⟨rfl,by rw [if_pos rfl];exact z⟩⟩
    ·exact hk _ _ ⟨_,rfl,s',.inr ⟨L,B,rfl,Y,ZcK z,by rw [if_pos rfl];exact z⟩⟩
   | false=>
    refine JI ?_;exact ⟨_,rfl,hk _ _ ⟨_,rfl,Same.refl _,.inr ⟨m,ms,rfl,hm,rfl,by rw [if_neg Yax]⟩⟩⟩
  rintro σ' H' ⟨v,rfl,s',⟨rfl,z⟩ | ⟨L,B,rfl,Y,Z,z⟩⟩
  ·refine ⟨_,rfl,rfl,_,rfl,JQ ?_⟩;exact qn H' s' (by rw [z];rfl)
  ·refine ⟨_,rfl,rfl,_,rfl,?_⟩;rw [Yak (by intro z;cases z)];refine JI ?_;exact ⟨_,rfl,_,rfl,_,rfl,last L B H' s' Y Z z⟩
def LastD (H:Hp)(d:Addr)(rs:List (Int×Int)):Prop:=∃kvs,H d=some (.dK kvs)/\∀x:Int,JJ kvs (.inl x)=if 0<=J2 rs x then some (.int (J2 rs x)) else none
theorem LastD.same {H H':Hp}{d:Addr}{rs:List (Int×Int)}(h:LastD H d rs)(q:Same H H'):LastD H' d rs:=h.imp λ_ z=>⟨q _ _ z.1,z.2⟩
def ZiH:Sp:=λvs H Q _=>∃(B l:Addr)(k:Int)(xs:List V)(rs:List (Int×Int)),vs=[.ref B]/\WebAt H B l k xs rs/\rs.length<=300/\∀(d:Addr)(H':Hp),Same H H'->H d=none->LastD H' d rs->Q (.ref d) H'
theorem scLr:Gp ["web", "last", "number", "road"] ["web"] (Ge sLr):=⟨rfl,rfl,rfl,by decide +kernel,rfl,by decide +kernel,by decide +kernel⟩
theorem Zh2 {f:Addr}{fd:FuncData}(F:Fun K "last_roads" "last_roads" sLr f fd)(B:mg "enumerate" = none):GJ P w K mg base CX0 1 f fd ["web"] ZiH:=by
 refine F.ok scLr (λvs H Q E h=>?_) (λY A Z s0 H vs Q E hr h=>?_)
 ·obtain ⟨_,_,_,_,_,rfl,_⟩:=h
  rfl
 ·obtain ⟨wb,l,k,xs,rs,rfl,W,hx,q⟩:=h;have G:(A.deeper (PyProof.Rows.envOfC "last_roads" (Ge sLr) s0.heap.objs.size f Y)).units+1<cLine:=by have:=hr.un;lia
  have ad:=Yay.symm;have aa:=W.p.len;refine ⟨_,Gc (Gm (i:=1) scLr.nd rfl (Or.inl rfl) Zb2)
    (Gc (JY Ycm rfl (XE K rfl B (Ga (GE (Ut K) (pv 0) Gg (λ_ _=>rfl)) Gd)) (Wu K (n:=2) rfl (Gn (Gi (i:=2) scLr.nd rfl (Or.inl rfl)) (Gn (Gi (i:=3) scLr.nd rfl (Or.inl rfl)) Jb)))
    (Gc (Uh G (pv 1) (GE (Ut K) (pv 3) Gg (λ_ _=>rfl)) (pv 2) rfl)
    (Gf (Uh G (pv 1) (GE (Ut K) (pv 3) Gg (λ_ _=>rfl)) (pv 2) rfl))))
    (Gf (Gs (pv 1)))),?_⟩
  refine λd U=>?_;have s1:Same H (upd H d (.dK [])):=Same.new U;refine ⟨_,rfl,wb,_,_,_,rfl,rfl,SqT.of (s1 _ _ W.w),GD (j:=1) rfl,l,xs,rfl,SqL.of (s1 _ _ W.l),?_⟩;refine UF (K:=K) (a:=l) (xs:=xs) (λi σ H2=>∃(v2 v3:Option V)(kvs:List (Key×V)),σ=[some (.ref wb),some (.ref d),v2,v3]/\Same H H2/\H2 d=some (.dK kvs)/\kvs.length<=2 * i/\∀x:Int,JJ kvs (.inl x)=if 0<=UA rs x i then some (.int (UA rs x i)) else none)
   ⟨none,none,[],rfl,s1,Gb,Ybc _,λx=>by unfold UA;rw [if_neg (by decide)];rfl⟩ (λi σ H2 _ ⟨_,_,_,_,D,_⟩=>SqL.of (D _ _ W.l)) ?_ ?_
  ·rintro i x σ H2 T L ⟨v2,v3,kvs,rfl,D,N,len,val⟩ hT;obtain ⟨t,r,rfl,et,er⟩:=(W.same D).p.get L;have hi:i<xs.length:=(Ybf.mp L).1;have s3:Same H (upd H2 T (.tup [.int (i:Nat),.ref t])):=D.put (D.free hT);have O:Same H2 (upd H2 T (.tup [.int (i:Nat),.ref t])):=Same.new hT;have ab:d≠T:=Gh N hT;have ac:t≠d:=J4 et N (λz=>by cases z);refine ⟨T,_,rfl,SqT.of Gb,rfl,_,_,rfl,_,_,rfl,rfl,?_⟩;refine ⟨_,rfl,_,rfl,_,rfl,t,_,_,_,rfl,rfl,SqT.of (O _ _ et),GD (j:=0) rfl,d,_,rfl,DPut.k (k:=Sum.inl r.1) (Gq N ab) (by lia),?_⟩;have ae:=Jo kvs (Sum.inl r.1) (.int (i:Nat));refine ⟨_,rfl,_,rfl,_,rfl,t,_,_,_,rfl,rfl,SqT.of (Gq (O _ _ et) ac),GD (j:=1) rfl,d,_,rfl,DPut.k (k:=Sum.inl r.2) Gb (by lia),?_⟩;have af:=Jo (Uu kvs (Sum.inl r.1) (.int (i:Nat))) (Sum.inl r.2) (.int (i:Nat));refine ⟨_,_,_,rfl,((s3.put U).put U),Gb,by lia,λy=>?_⟩;rw [UE,UE,val y];have e:rs.getD i (0,0)=r:=by rw [Yai,er];rfl
   show _=if 0<=(if (rs.getD i (0,0)).1=y\/(rs.getD i (0,0)).2=y then (i:Int) else UA rs y i) then some (V.int (if (rs.getD i (0,0)).1=y\/(rs.getD i (0,0)).2=y then (i:Int) else UA rs y i)) else none
   rw [e];by_cases h2:y=r.2
   ·rw [if_pos (by rw [h2]),if_pos (show r.1=y\/r.2=y from .inr h2.symm),if_pos (by lia)]
   ·rw [if_neg (λz=>h2 (Sum.inl.inj z))];by_cases h1:y=r.1
    ·rw [if_pos (by rw [h1]),if_pos (show r.1=y\/r.2=y from .inl h1.symm),if_pos (by lia)]
    ·rw [if_neg (λz=>h1 (Sum.inl.inj z)),if_neg (show ¬ (r.1=y\/r.2=y) from λz=>z.elim (λz=>h1 z.symm) (λz=>h2 z.symm))]
  ·rintro σ H2 ⟨v2,v3,kvs,rfl,D,N,len,val⟩;rw [aa] at val;exact ⟨_,rfl,q d H2 D U ⟨kvs,N,val⟩⟩
def NedD (H:Hp)(e:Addr)(s t:Int):Prop:=EndD H e s t\/(s=nE/\t=nE/\H e=some (.lst []))
theorem NedD.same {H H':Hp}{e:Addr}{s t:Int}(h:NedD H e s t)(q:Same H H'):NedD H' e s t:=h.imp (λh=>h.same q) λh=>⟨h.1,h.2.1,q _ _ h.2.2⟩
def Zey (H0 H:Hp)(x:V):Prop:=∃T r lv B:Addr,x=.ref T/\H T=some (.tup [.ref r,.ref lv,.ref B])/\H0 lv=none/\H0 B=none
def ZiI:Sp:=λvs H Q _=>∃(B l e:Addr)(k:Int)(xs:List V)(rs:List (Int×Int))(s t:Int),vs=[.ref B,.ref e]/\WebAt H B l k xs rs/\rs.length<=300/\(∀r∈rs,0<=r.1/\r.1<r.2)/\NedD H e s t/\∀(S:Addr)(zs:List V)(H':Hp),Same H H'->H S=none->H' S=some (.lst zs)->zs.length=rs.length->(∀j x,zs[j]?=some x->Zdy H' x rs s t j)->(∀(j:Nat)(x:V),zs[j]?=some x->Zey H H' x)->Q (.ref S) H'
theorem scSo:Gp ["web", "needed", "last", "steps", "number", "road", "leaving"] ["web", "needed"] (Ge sSo):=⟨rfl,rfl,rfl,by decide +kernel,rfl,by decide +kernel,by decide +kernel⟩
structure StepsAt (H0 H:Hp)(S:Addr)(zs:List V)(rs:List (Int×Int))(s t:Int):Prop where
 st:∀j x,zs[j]?=some x->∃T r lv nd:Addr,x=.ref T/\(lv≠S/\H0 lv=none)/\(nd≠S/\H0 nd=none)/\H T=some (.tup [.ref r,.ref lv,.ref nd])/\H r=some (.tup [.int (rs.getD j (0,0)).1,.int (rs.getD j (0,0)).2])/\H lv=some (.lst ((O6 rs j).map V.int))/\H nd=some (.lst ((Zfd s t (O6 rs j)).map V.int))
theorem StepsAt.keep {H0 H H':Hp}{S:Addr}{zs ys:List V}{rs:List (Int×Int)}{s t:Int}(h:StepsAt H0 H S zs rs s t)(B:H S=some (.lst ys))(q:∀b o,b≠S->H b=some o->H' b=some o)   : StepsAt H0 H' S zs rs s t:=⟨λj x G=>by
 obtain ⟨T,r,lv,L,e,D,F,h1,h2,N,O⟩:=h.st j x G;exact ⟨T,r,lv,L,e,D,F,q _ _ (J4 h1 B (λz=>by cases z)) h1,q _ _ (J4 h2 B (λz=>by cases z)) h2,q _ _ D.1 N,q _ _ F.1 O⟩⟩
theorem Za8 {s t p:Int}:(if p=s then some (V.int (-3)) else if p=t then some (V.int (-4)) else none).isSome=decide (p=s\/p=t):=by
 by_cases h1:p=s
 ·rw [if_pos h1,Yae (.inl h1)];rfl
 ·rw [if_neg h1];by_cases h2:p=t
  ·rw [if_pos h2,Yae (.inr h2)];rfl
  ·rw [if_neg h2,Yak (λz=>z.elim h1 h2)];rfl
theorem ZcL {K:W.Frag}{σ:St}{H:Hp}{e:Addr}{s t p:Int}{Q:Bool->Hp->Prop}(h:NedD H e s t)(B:0<=p)(h0:σ[0]?=some (some (.int p)))(h1:σ[1]?=some (some (.ref e)))(q:Q (decide (p=s\/p=t)) H) :
  (tB (Ziz (Y6 0) (Y6 1)) σ H Q)\/(ZdV (tOp (rIn K false) (Y6 0) (Y6 1)) σ H Q):=by
 rcases h with h | ⟨rfl,rfl,D⟩
 ·refine .inl ⟨_,h0,_,h1,e,_,rfl,h.get p B,_,rfl,?_⟩;rw [Za8];exact q
 ·refine .inr ⟨_,h0,_,h1,e,[],rfl,.inl (SqL.of D),rfl,rfl,_,rfl,?_⟩;rw [Yak (λz=>by rcases z with z | z <;> exact absurd (z▸B) (by decide))] at q;exact q
theorem Xk {L:List Int}{i:Nat}{p:Int}(f:Int->Bool)(h:L[i]?=some p):(L.take (i+1)).filter f=(L.take i).filter f++(if f p=true then [p] else []):=by
 rw [Ybw,h,Ydv]
 congr 1
 show List.filter f [p]=_;rw [List.filter_cons];split <;> simp_all
theorem Zh3 {f ad:Addr}{fd Z:FuncData}(F:Fun K "steps_of" "steps_of" sSo f fd)(al:Fun K "last_roads" "last_roads" sLr ad Z)(am:Binds K Z ["web"] [])(an:mg "last_roads" = some (.ref ad))(ao:GJ P w K mg base CX0 1 ad Z ["web"] ZiH)(ae:mg "enumerate" = none):GJ P w K mg base CX0 2 f fd ["web", "needed"] ZiI:=by
 refine F.ok scSo (λvs H Q E h=>?_) (λap A aq s0 H vs Q E hr h=>?_)
 ·obtain ⟨_,_,_,_,_,_,_,_,rfl,_⟩:=h
  rfl
 ·obtain ⟨wb,l,e,k,xs,rs,s,t,rfl,W,O,gp,he,q⟩:=h;have ag:(A.deeper (PyProof.Rows.envOfC "steps_of" (Ge sSo) s0.heap.objs.size f ap)).units+1<cLine:=by have:=hr.un;lia
  have ay:=Yay.symm;have az:=W.p.len;refine ⟨_,Gc (Gm (i:=2) scSo.nd rfl (Or.inr rfl) (Gj ao (hr.mono (by decide)) rfl an al.kp am .nil GP (Ga (pv 0) Gd)))
    (Gc (Gm (i:=3) scSo.nd rfl (Or.inl rfl) (Ji Gd))
    (Gc (JY Ycm rfl (XE K rfl ae (Ga (GE (Ut K) (pv 0) Gg (λ_ _=>rfl)) Gd)) (Wu K (n:=2) rfl (Gn (Gi (i:=4) scSo.nd rfl (Or.inr rfl)) (Gn (Gi (i:=5) scSo.nd rfl (Or.inl rfl)) Jb)))
    (Gc (U2 (i:=6) scSo.nd rfl (Or.inl rfl) (own:=["place"]) rfl (Gk (fr:=[("last", 2),("number", 4)]) [(".0", .local),("place", .local),("last", .cell),("number", .cell)] rfl rfl (by decide +kernel) rfl (by decide +kernel) ⟨rfl,rfl,trivial⟩ ⟨λh=>GG h,λh=>GG h,λ_=>⟨_,rfl⟩,λ_=>⟨_,rfl⟩,trivial⟩ ⟨⟨rfl,.inl rfl,.inl rfl⟩,⟨rfl,.inl rfl,.inl rfl⟩,trivial⟩) (ZhC K (pv 5)) (λ_ _ _ _=>Gi (i:=0) (show List.Nodup (["place", "last", "number"]:List Str) by decide +kernel) rfl (Or.inl rfl)) (λ_ _ _ _=>Jm (Go UV (JV ag (pv 1) (pv 0) (λ_ _=>rfl)) (pv 2) (Gv _))) (λ_ _ _ _=>pv 0))
    (Gf (Jq (OU Ydd Ydj Ydk G5 (pv 3) (Ga (G0 (Ga (pv 5) (Ga (pv 6) (Ga (Jd (own:=["place"]) rfl (Gk (fr:=[("needed", 1)]) [(".0", .local),("place", .local),("needed", .cell)] rfl rfl (by decide +kernel) rfl (by decide +kernel) ⟨rfl,trivial⟩ ⟨λh=>GG h,λh=>GG h,λ_=>⟨_,rfl⟩,trivial⟩ ⟨⟨rfl,.inl rfl,.inl rfl⟩,trivial⟩) (Oy K (pv 6)) (λ_ _ _ _=>Gi (i:=0) (show List.Nodup (["place", "needed"]:List Str) by decide +kernel) rfl (Or.inl rfl)) (λ_ _ _ _=>Jm (ZaR (Zc4 (Zdd ag (pv 0) (pv 1)) rfl) (Go (kIn K) (pv 0) (pv 1) (by with_unfolding_all rfl)))) (λ_ _ _ _=>pv 0)) Gd)))) Gd))))))
    (Gf (Gs (pv 3))))),?_⟩
  refine ⟨_,rfl,wb,l,k,xs,rs,rfl,W,O,λd H1 s1 hd D1=>?_⟩;refine ⟨Ybc _,λS hS=>?_⟩;have af:=s1.free hS;have s2:=s1.put (o:=.lst []) af;refine ⟨_,rfl,wb,_,_,_,rfl,rfl,SqT.of (s2 _ _ W.w),GD (j:=1) rfl,l,xs,rfl,SqL.of (s2 _ _ W.l),?_⟩;refine UF (K:=K) (a:=l) (xs:=xs) (λi σ H2=>∃(v4 v5 v6:Option V)(zs:List V),σ=[some (.ref wb),some (.ref e),some (.ref d),some (.ref S),v4,v5,v6]/\Same H H2/\LastD H2 d rs/\H2 S=some (.lst zs)/\zs.length=i/\StepsAt H H2 S zs rs s t)
   ⟨none,none,none,[],rfl,s2,D1.same (Same.new hS),Gb,rfl,⟨λj x O=>by simp at O⟩⟩ (λi σ H2 _ ⟨_,_,_,_,_,s2,_⟩=>SqL.of (s2 _ _ W.l)) ?_ ?_
  ·rintro i x σ H2 T ah ⟨v4,v5,v6,zs,rfl,s2,D2,e2,len,st⟩ hT;obtain ⟨t0,r,rfl,et,er⟩:=(W.same s2).p.get ah;have ab:rs.getD i (0,0)=r:=by rw [Yai,er];rfl
   have hi:i<xs.length:=(Ybf.mp ah).1;have L:Same H2 (upd H2 T (.tup [.int (i:Nat),.ref t0])):=Same.new hT;refine ⟨T,_,rfl,SqT.of Gb,rfl,_,_,rfl,_,_,rfl,rfl,?_⟩;generalize upd H2 T (.tup [.int (i:Nat),.ref t0])=H3 at L ⊢;have ac:=L _ _ et;have D3:=D2.same L;refine ⟨_,rfl,t0,rfl,⟨_,SqT.of ac⟩,λD hD=>?_⟩;refine Zb9 (K:=K) (a:=t0) (xs:=[r.1,r.2].map V.int) (λn ys H4=>Same H3 H4/\H4 D=some (.lst ys)/\ys=(([r.1,r.2].take n).filter λp=>decide (J2 rs p=(i:Int))).map V.int) ⟨Same.new hD,Gb,rfl⟩ (λn ys H4 _ ⟨s4,_⟩=>SqT.of (s4 _ _ ac)) ?_ ?_
   ·rintro n x ys H4 G ⟨s4,U,rfl⟩;rw [Yau] at G;cases y:[r.1,r.2][n]? with
    | none=>rw [y] at G;cases G
    | some p=>
     rw [y] at G;cases G;have ar:r.1=p\/r.2=p:=by
      rcases Yar.mp (Ybs y) with z | z
      ·exact .inl z.symm
      ·rcases Yar.mp z with z | z
       ·exact .inr z.symm
       ·cases z
     have as:0<=J2 rs p:=by
      have:=O5 (rs:=rs) (j:=i) (by lia) (p:=p) (by rw [ab];exact ar)
      lia
     obtain ⟨kvs,ek,val⟩:=D3.same s4;have g:DGet H4 d (.int p) (some (.int (J2 rs p))):=by
      have:=DGet.k (k:=Sum.inl p) ek;rw [val p,if_pos as] at this;exact this
     refine ⟨⟨rfl,rfl,trivial⟩,?_⟩;refine ⟨_,rfl,_,rfl,d,_,rfl,g,_,rfl,rfl,_,rfl,?_⟩;rw [JU,Xk _ y];refine OA (λz=>?_) (λz=>?_)
     ·rw [if_pos z];refine ⟨_,rfl,U,?_,s4.put hD,Gb,by rw [Yal];rfl⟩;rw [Yaa];have:=Ych (λp=>decide (J2 rs p=(i:Int))) ([r.1,r.2].take n);rw [Ybn] at this;simp at this
      lia
     ·rw [if_neg z,Ybr];exact ⟨s4,U,rfl⟩
   rintro ys H4 ⟨s4,U,rfl⟩;have au:(([r.1,r.2].take ([r.1,r.2].map V.int).length).filter λp=>decide (J2 rs p=(i:Int)))=O6 rs i:=by
    unfold O6;rw [ab]
    rfl
   rw [au] at U;have ll:(O6 rs i).length<=2:=by unfold O6;exact Ych _ _
   have S4:=(s2.trans L).trans s4;have e4:=(L.trans s4) _ _ e2;have ai:D≠S:=λz=>by rw [z] at hD;rw [L _ _ e2] at hD;cases hD
   have av:H D=none:=(s2.trans L).free hD;refine ⟨_,rfl,.inl ⟨rfl,_,SqL.of e4⟩,_,rfl,_,rfl,_,rfl,D,rfl,⟨_,SqL.of U⟩,λN hN=>?_⟩;have aj:N≠S:=λz=>by rw [z,e4] at hN;cases hN
   have aw:H N=none:=S4.free hN;refine GF (K:=K) (a:=D) (xs:=(O6 rs i).map V.int) (λn ys H5=>Same H4 H5/\H5 N=some (.lst ys)/\ys=(((O6 rs i).take n).filter λp=>decide (p=s\/p=t)).map V.int) ⟨Same.new hN,Gb,rfl⟩ (λn ys H5 _ ⟨Y,_⟩=>SqL.of (Y _ _ U)) ?_ ?_
   ·rintro n x ys H5 G ⟨Y,aa,rfl⟩;rw [Yau] at G;cases y:(O6 rs i)[n]? with
    | none=>rw [y] at G;cases G
    | some p=>
     rw [y] at G;cases G;refine ⟨⟨rfl,trivial⟩,?_⟩;refine ZcL (he.same (S4.trans Y)) (p:=p) (by
      have ax:=Ybs er;have:=gp r ax;have hp:=(Ybk.mp (Ybs y)).1;rw [ab] at hp;rcases Yar.mp hp with z | z
      ·lia
      ·rcases Yar.mp z with z | z
       ·lia
       ·cases z) rfl rfl ?_
     rw [Xk _ y];refine OA (λz=>?_) (λz=>?_)
     ·rw [if_pos z];refine ⟨_,rfl,aa,?_,Y.put hN,Gb,by rw [Yal];rfl⟩;rw [Yaa];have:=Ych (λp=>decide (p=s\/p=t)) ((O6 rs i).take n);rw [Ybn] at this
      lia
     ·rw [if_neg z,Ybr];exact ⟨Y,aa,rfl⟩
   rintro ys H5 ⟨Y,aa,rfl⟩;rw [Yaa,Yce] at aa;refine ⟨(by show 3<=sizeLine;decide),λB hB=>?_⟩;have e5:=Y _ _ e4;have S5:=S4.trans Y;have ak:S≠B:=Gh e5 hB;refine ⟨S,_,_,rfl,rfl,Gq e5 ak,by lia,?_⟩;have dS:d≠S:=by
    obtain ⟨kvs,ek,_⟩:=D2;exact J4 ek e2 (λz=>by cases z)
   have up:∀(o:HO)(ys:HO) b u,b≠S->H5 b=some u->upd (upd H5 B o) S ys b=some u:=λo ys b u n z=>Gq (Gq z (Gh z hB)) n;refine ⟨_,_,_,zs++[.ref B],rfl,(S5.put (S5.free hB)).put af,?_,Gb,by rw [Yan,Ybl,len],⟨λj x O=>?_⟩⟩
   ·obtain ⟨kvs,ek,val⟩:=D3.same (s4.trans Y);exact ⟨kvs,up _ _ _ _ dS ek,val⟩
   ·rcases Nat.lt_or_ge j zs.length with hj | hj
    ·rw [Ydf hj] at O;exact (((st.keep e2 λb o _ z=>(L.trans (s4.trans Y)) b o z)).keep e5 (up _ _)).st j x O
    ·rw [Ycs hj] at O;have:j=zs.length:=by
      rcases Nat.lt_or_ge (j-zs.length) 1 with z | z
      ·lia
      ·rw [List.getElem?_eq_none (by simpa using z)] at O;cases O
     subst this;rw [Ydi] at O;cases O;rw [len,ab];refine ⟨B,t0,D,N,rfl,⟨ai,av⟩,⟨aj,aw⟩,Gq Gb (Ne.symm ak),?_,up _ _ _ _ ai (Y _ _ U),?_⟩
     ·exact up _ _ _ _ (J4 ac (L _ _ e2) (λz=>by cases z)) ((s4.trans Y) _ _ ac)
     ·exact up _ _ _ _ aj aa
  ·rintro σ H2 ⟨v4,v5,v6,zs,rfl,s2,D2,e2,len,st⟩;refine ⟨_,rfl,q S zs H2 s2 af e2 (by lia) (λj x O=>?_) λj x O=>?_⟩
   ·obtain ⟨T,r,lv,nd,e,n1,n2,h1,h2,h3,h4⟩:=st.st j x O;exact ⟨T,r,lv,nd,e,h1,h2,h3,h4⟩
   ·obtain ⟨T,r,lv,nd,e,n1,n2,h1,h2,h3,h4⟩:=st.st j x O;exact ⟨T,r,lv,nd,e,h1,n1.2,n2.2⟩
def ZiJ:Sp:=λ_ _ _ _=>False
theorem Zez {n q:Str}{st:Stmt}{f:Addr}{fd:FuncData}(ps:List Str)(F:Fun K n q st f fd):GJ P w K mg base CX0 1 f fd ps ZiJ:=⟨λ_ _ _ _ h=>h.elim,λ_ _ _ _ _ _ _ _ _ _ _ _ _ h=>h.elim⟩
abbrev m0 (k:Nat):List Int:=List.replicate (k+1) (-2)
def ZiK:Sp:=λvs H Q _=>∃(B l e:Addr)(k:Nat)(xs:List V)(rs:List (Int×Int)),vs=[.ref B,.ref e]/\WebAt H B l (k:Int) xs rs/\k<=300/\NedD H e nE nE/\∀(F T:Addr)(H':Hp),Same H H'->H F=none->H' F=some (.lst [.ref T])->H' T=some (.tup ((m0 k).map V.int))->Q (.ref F) H'
theorem Zjq:Gp ["web", "needed"] ["web", "needed"] (Ge sFm):=⟨rfl,rfl,rfl,by decide +kernel,rfl,by decide +kernel,by decide +kernel⟩
theorem Zh4 {f O:Addr}{fd B:FuncData}(F:Fun K "first_marks" "first_marks" sFm f fd)(ae:Fun K "beside" "beside" Zf8 O B)(af:Binds K B ["web", "place"] [])(ag:mg "beside" = some (.ref O))(ah:GJ P w K mg base CX0 1 O B ["web", "place"] ZiJ){u2:Tok}(U:mg "FREE" = some (.int (-2) u2))(ac:mg "all" = none)(ad:mg "tuple" = none):GJ P w K mg base CX0 4 f fd ["web", "needed"] ZiK:=by
 refine F.ok Zjq (λvs H Q E h=>?_) (λak A ai s0 H vs Q E hr h=>?_)
 ·obtain ⟨_,_,_,_,_,_,rfl,_⟩:=h
  rfl
 ·obtain ⟨wb,l,e,k,xs,rs,rfl,W,gk,he,q⟩:=h;have al:=Yay.symm;refine ⟨_,Gc (Jn (OS (JL (Gu (ZhF K rfl) rfl ac V0 (Ga (Jd (own:=["place"]) rfl (Gk (fr:=[("web", 0)]) [(".0", .local),("place", .local),("beside", .globalImplicit),("web", .cell)] rfl rfl (by decide +kernel) rfl (by decide +kernel) ⟨rfl,trivial⟩ ⟨λh=>GG h,λh=>GG h,λh=>GG h,λ_=>⟨_,rfl⟩,trivial⟩ ⟨⟨rfl,.inl rfl,.inl rfl⟩,trivial⟩) (ZaS (Zcp (pv 1)) (Oy K (pv 1))) (λ_ _ _ _=>Gi (i:=0) (show List.Nodup (["place", "web"]:List Str) by decide +kernel) rfl (Or.inl rfl)) (λ_ _ _ _=>JB) (λ_ _ _ _=>Gj ah (hr.mono (by decide)) rfl ag ae.kp af .nil GP (Ga (pv 1) (Ga (pv 0) Gd)))) Gd)))) (Gf (Gs (Ji Gd))) Gz)
    (Gf (Gs (Ji (Ga (Jk (ZaK K) rfl ad Ug (Ga (Gw Zc9 (Ji (Ga (Jp (v:=.int (-2)) rfl U ⟨_,rfl⟩) Gd)) (Gw GY (GE (Ut K) (pv 0) Gg (λ_ _=>rfl)) Gg)) Gd)) Gd)))),?_⟩
  rcases he with ⟨_,_,o,e1⟩ | ⟨_,_,e1⟩
  ·refine .inl ⟨_,rfl,e,o,[],rfl,e1,λD hD=>?_⟩;refine Zm (a:=e) (o:=o) (kvs:=[]) (λi ys H2=>Same H H2/\H2 D=some (.lst ys)/\ys=[]) ⟨Same.new hD,Gb,rfl⟩ (λi ys H2 _ ⟨L,_⟩=>L _ _ e1) (λi key v ys H2 aj=>by simp at aj) ?_;rintro ys H2 ⟨L,Y,rfl⟩;refine ⟨D,[],rfl,SqL.of Y,λz hz=>(by cases hz),_,rfl,?_⟩;refine JI ?_;refine ⟨Yds (by show 1<sizeLine;lia),λo1 Z=>?_⟩;have s3:=L.put (o:=.lst [V.int (-2)]) (L.free Z);have W3:=W.same s3;refine ⟨_,rfl,wb,_,_,_,rfl,rfl,SqT.of W3.w,GD (j:=0) rfl,_,_,rfl,rfl,o1,_,_,rfl,rfl,Gb,by lia,by lia,(by show 1 * _<=_;lia),λl2 aa=>?_⟩;refine ⟨l2,_,rfl,.inl ⟨SqL.of Gb,λT hT=>?_⟩⟩;refine ⟨Yds (by show 1<sizeLine;lia),λG N=>?_⟩;have s4:=s3.put (o:=.lst (List.replicate ((k:Int)+1).toNat [V.int (-2)]).flatten) (s3.free aa);have s5:=s4.put (o:=.tup (List.replicate ((k:Int)+1).toNat [V.int (-2)]).flatten) (s4.free hT);have ab:T≠G:=λz=>by rw [<-z,Gb] at N;cases N
   refine q G T _ (s5.put (s5.free N)) (s5.free N) Gb (Gq ?_ ab);rw [Gb]
   congr 2
   have:∀n:Nat,(List.replicate n [V.int (-2)]).flatten=(List.replicate n (-2:Int)).map V.int:=λn=>by
    induction n with
    | zero=>rfl
    | succ n ih=>rw [Yda,List.flatten_cons,ih,Yda];rfl
   rw [this,show ((k:Int)+1).toNat=k+1 by lia]
  ·refine .inr ⟨_,rfl,e,rfl,⟨_,SqL.of e1⟩,λD hD=>?_⟩;refine GF (K:=K) (a:=e) (xs:=[]) (λi ys H2=>Same H H2/\H2 D=some (.lst ys)/\ys=[]) ⟨Same.new hD,Gb,rfl⟩ (λi ys H2 _ ⟨L,_⟩=>SqL.of (L _ _ e1)) (λi x ys H2 hx=>by simp at hx) ?_;rintro ys H2 ⟨L,Y,rfl⟩;refine ⟨D,[],rfl,SqL.of Y,λz hz=>(by cases hz),_,rfl,?_⟩;refine JI ?_;refine ⟨Yds (by show 1<sizeLine;lia),λo1 Z=>?_⟩;have s3:=L.put (o:=.lst [V.int (-2)]) (L.free Z);have W3:=W.same s3;refine ⟨_,rfl,wb,_,_,_,rfl,rfl,SqT.of W3.w,GD (j:=0) rfl,_,_,rfl,rfl,o1,_,_,rfl,rfl,Gb,by lia,by lia,(by show 1 * _<=_;lia),λl2 aa=>?_⟩;refine ⟨l2,_,rfl,.inl ⟨SqL.of Gb,λT hT=>?_⟩⟩;refine ⟨Yds (by show 1<sizeLine;lia),λG N=>?_⟩;have s4:=s3.put (o:=.lst (List.replicate ((k:Int)+1).toNat [V.int (-2)]).flatten) (s3.free aa);have s5:=s4.put (o:=.tup (List.replicate ((k:Int)+1).toNat [V.int (-2)]).flatten) (s4.free hT);have ab:T≠G:=λz=>by rw [<-z,Gb] at N;cases N
   refine q G T _ (s5.put (s5.free N)) (s5.free N) Gb (Gq ?_ ab);rw [Gb]
   congr 2
   have:∀n:Nat,(List.replicate n [V.int (-2)]).flatten=(List.replicate n (-2:Int)).map V.int:=λn=>by
    induction n with
    | zero=>rfl
    | succ n ih=>rw [Yda,List.flatten_cons,ih,Yda];rfl
   rw [this,show ((k:Int)+1).toNat=k+1 by lia]
abbrev KI:=List (List Int×Int)
def OO (ks:KI)(m:List Int):Option Int:=(ks.find? λp=>decide (p.1=m)).map (·.2)
def Xl (ks:KI)(m:List Int)(n:Int):KI:=if (ks.any λp=>decide (p.1=m))=true then ks.map (λp=>if p.1=m then (p.1,n) else p) else ks++[(m,n)]
theorem inl_inj {a b:List Int}:a.map (Sum.inl:Int->Key)=b.map Sum.inl↔a=b:=by
 refine ⟨λh=>?_,λh=>by rw [h]⟩;have:=Ybb (List.map λx:Key=>match x with | .inl i=>i | .inr _=>0) h
 rwa [Yca,Yca,show ((λx:Key=>match x with | .inl i=>i | .inr _=>0)∘(Sum.inl:Int->Key))=id from rfl,List.map_id,List.map_id] at this
theorem ZeA (ks:KI)(m:List Int):JJ (ks.map kvI) (m.map Sum.inl)=(OO ks m).map V.int:=by
 induction ks with
 | nil=>rfl
 | cons p ks ih=>
  unfold JJ OO at *;rw [Yat,Ybv,Ybv];by_cases h:p.1=m
  ·rw [show decide ((kvI p).1=m.map Sum.inl)=true from Yae (by show p.1.map Sum.inl=_;rw [h]),Yae h]
   rfl
  ·rw [show decide ((kvI p).1=m.map Sum.inl)=false from Yak (λz=>h (inl_inj.mp z)),Yak h];exact ih
theorem Za9 (ks:KI)(m:List Int)(n:Int):Uu (ks.map kvI) (m.map Sum.inl) (.int n)=(Xl ks m n).map kvI:=by
 unfold Uu Xl;have e:((ks.map kvI).any λB=>decide (B.1=m.map Sum.inl))=ks.any λp=>decide (p.1=m):=by
  rw [List.any_map]
  congr 1
  funext p
  exact decide_eq_decide.mpr inl_inj
 rw [e];by_cases h:(ks.any λp=>decide (p.1=m))=true
 ·rw [if_pos h,if_pos h,Yca,Yca];refine List.map_congr_left λp _=>?_;show (if p.1.map Sum.inl=m.map Sum.inl then (p.1.map Sum.inl,V.int n) else kvI p)=kvI (if p.1=m then (p.1,n) else p);by_cases z:p.1=m
  ·rw [if_pos z,if_pos (inl_inj.mpr z)]
  ·rw [if_neg z,if_neg (λy=>z (inl_inj.mp y))]
 ·rw [if_neg h,if_neg h,Yal]
  rfl
def ZeB (d:Addr)(H H':Hp):Prop:=∀a u,a≠d->H a=some u->H' a=some u
theorem Zba {ks:KI}(B:(ks.map (·.1)).Nodup){p:List Int×Int}(D:p∈ks):OO ks p.1=some p.2:=by
 obtain ⟨a,b,rfl⟩:=List.append_of_mem D;rw [Yal,Yat,Ycu] at B;unfold OO;rw [List.find?_append,List.find?_eq_none.mpr,Option.none_or,Ybv,Yae rfl]
 ·rfl
 ·intro q F;have:=B.2.2 q.1 (Yam.mpr ⟨q,F,rfl⟩) p.1 (Yaz ..);simpa using this
theorem O7 {α:Type}[DecidableEq α]:∀{a b:List α},a.Nodup->(∀x∈a,x∈b)->a.length<=b.length
 | [],_,_,_=>Ybc _
 | x::a,b,nd,h=>by
  rw [List.nodup_cons] at nd;have hb:=h x (Yaz ..);have:=O7 (b:=b.erase x) nd.2 λy B=>(List.mem_erase_of_ne (λz=>nd.1 (by rw [<-z];exact B))).mpr (h y (Ybm _ B));rw [List.length_erase_of_mem hb] at this;have:=List.length_pos_of_mem hb;rw [Ybi]
  lia
theorem OP {l:List Int}{i:Nat}{v q:Int}(h:q∈l.set i v):q=v\/q∈l:=(List.mem_or_eq_of_mem_set h).symm
def OkM (k:Nat)(m:List Int):Prop:=m.length=k+1/\∀q∈m,q<(k:Int)
theorem Zh5 {k:Nat}{m:List Int}(h:OkM k m){p:Int}(B:0<=p)(D:p<(k:Int)):gA m p<(k:Int):=h.2 _ (Wc (by have:=h.1;lia))
theorem ZgB {k:Nat}{m:List Int}{s t:Int}(h:OkM k m){p:Int}(B:0<=p)(D:p<(k:Int))(k1:1<=k):OM s t m p<(k:Int):=by
 unfold OM;split
 ·rcases Vf s t p with ⟨_,e⟩ | ⟨_,_,e⟩ | ⟨_,_,e⟩ <;> lia
 ·exact Zh5 h B D
theorem Zh6 {k:Nat}{m:List Int}{s t:Int}{r:Int×Int}(h:OkM k m)(h1:0<=r.1/\r.1<r.2/\r.2<(k:Int))(k1:1<=k):OkM k (pC s t m r):=by
 refine ⟨pC_len.trans h.1,λq B=>?_⟩;have D:=ZgB (s:=s) (t:=t) h h1.1 (by lia) k1;have F:=ZgB (s:=s) (t:=t) h (show 0<=r.2 by lia) h1.2.2 k1;have base:∀q∈(m.set r.1.toNat (-1)).set r.2.toNat (-1),q<(k:Int):=λq B=>by
  rcases OP B with z | B
  ·lia
  ·rcases OP B with z | B
   ·lia
   ·exact h.2 q B
 unfold pC at B;split at B
 ·exact base q B
 ·unfold pW1 at B;dsimp only at B;split at B
  ·rcases OP B with z | B
   ·lia
   ·split at B
    ·rcases OP B with z | B
     ·lia
     ·exact base q B
    ·exact base q B
  ·split at B
   ·rcases OP B with z | B
    ·lia
    ·exact base q B
   ·exact base q B
theorem ZeC {k:Nat}{m D:List Int}{s t:Int}{r:Int×Int}(h:OkM k m)(h1:0<=r.1/\r.1<r.2/\r.2<(k:Int))(k1:1<=k)(e:ON s t m r=some D):OkM k D:=by
 have c:=Zh6 (s:=s) (t:=t) h h1 k1;unfold ON at e;split at e
 ·cases e
 ·split at e
  ·split at e
   ·cases e
   ·cases e;refine ⟨by rw [List.length_set];exact c.1,λq B=>?_⟩;rcases OP B with z | B
    ·lia
    ·exact c.2 q B
  ·cases e;exact c
theorem ZeD {k:Nat}{m D L N:List Int}(h:OkM k m)(k1:1<=k)(e:Xj m L N=some D):OkM k D:=by
 have key:∀(L:List Int)(m:List Int),OkM k m->OkM k (L.foldl (λm p=>m.set p.toNat (-2)) m):=by
  intro L
  induction L with
  | nil=>intro m h;exact h
  | cons p L ih=>
   intro m h;refine ih _ ⟨by rw [List.length_set];exact h.1,λq B=>?_⟩;rcases OP B with z | B
   ·lia
   ·exact h.2 q B
 unfold Xj at e;split at e
 ·cases e;exact h
 ·split at e
  ·cases e
  ·cases e;exact key L m h
theorem ZgC {k:Nat}{m D:List Int}{rs:List (Int×Int)}{s t:Int}{j:Nat}{ch:Bool}(h:OkM k m)(h1:0<=(rs.getD j (0,0)).1/\(rs.getD j (0,0)).1<(rs.getD j (0,0)).2/\(rs.getD j (0,0)).2<(k:Int))(k1:1<=k)(e:Za6 rs s t m j ch=some D):OkM k D:=by
 unfold Za6 at e;obtain ⟨G,B,F⟩:=Option.bind_eq_some_iff.mp e;refine ZeD ?_ k1 F;split at B
 ·exact ZeC h h1 k1 B
 ·cases B;exact h
theorem JN {rs:List (Int×Int)}{j:Nat}(h:j<rs.length):rs.getD j (0,0)∈rs:=by
 rw [Yai,Yah h];exact Ycd h
def Zbb (C:Addr):Sp:=λvs H Q E=>∃(r c:Int),vs=[.int r,.int c] /\
 ((∃B D:Nat,r=(B:Int)/\c=(D:Int)/\1<=B/\1<=D/\B<=40/\D<=40/\∀(p l:Addr)(xs:List V)(H':Hp),Same H H'->H p=none->H l=none->p≠l->H' p=some (.tup [.int (r * c),.ref l])->H' l=some (.lst xs)->Prs H' xs (gRoads B D (B * D))->Q (.ref p) H') \/
  ((r<1\/c<1)/\E (.ref C) none H))
theorem scGrid:Gp ["rows", "columns", "places", "roads", "place"] ["rows", "columns"] (Ge sGr):=⟨rfl,rfl,rfl,by decide +kernel,rfl,by decide +kernel,by decide +kernel⟩
theorem ZcM (r c p:Nat):(Vs r c p).length<=2:=by
 unfold Vs;rw [Yan];split <;> split <;> simp
theorem O8 (r c:Nat):∀i,(gRoads r c i).length<=2 * i
 | 0=>by simp [gRoads]
 | i+1=>by
  have h1:=O8 r c i;have h2:=ZcM r c i;rw [OH,Yan]
  lia
theorem ZeE {f C:Addr}{fd:FuncData}(F:Fun K "grid" "grid" sGr f fd)(mC:mg "NoWeb" = some (.ref C))(xC:ExcC K C)(O:mg "range" = none):GJ P w K mg base (CXr P w) 1 f fd ["rows", "columns"] (Zbb C):=by
 refine F.okR scGrid (λvs H Q E h=>?_) (λae A ab s H vs Q E hr h=>?_)
 ·obtain ⟨r,c,rfl,_⟩:=h
  rfl
 ·obtain ⟨r,c,rfl,h⟩:=h;have mR:=O;refine ⟨_,Gc (Jn (PW.pt (OF (Go Ud (pv 0) Gg (Gv _)) (Oz (Go Ud (pv 1) Gg (Gv _))))) (Gf (OV (E:=E) rfl JF rfl mC xC (Ga JD Gd))) Gz)
   (PSs.nox (Gc (Gm (i:=2) scGrid.nd rfl (Or.inl rfl) (Gw Oc (pv 0) (pv 1)))
   (Gc (Gm (i:=3) scGrid.nd rfl (Or.inl rfl) (Ji Gd))
   (Gc (JY Ycm rfl (JX rfl mR (Ga (pv 2) Gd)) (Gi (i:=4) scGrid.nd rfl (Or.inl rfl))
    (Gc (Jn (Go ZbQ (Gw Ur (Gw GY (pv 4) Gg) (pv 1)) Gg (Gv _))
     (Gf (Jq (OU Ydd Ydj Ydk G5 (pv 3) (Ga (G0 (Ga (pv 4) (Ga (Gw GY (pv 4) Gg) Gd))) Gd)))) Gz)
    (Gf (Jn (Go Ud (Gw GY (pv 4) (pv 1)) (pv 2) (Gv _))
     (Gf (Jq (OU Ydd Ydj Ydk G5 (pv 3) (Ga (G0 (Ga (pv 4) (Ga (Gw GY (pv 4) (pv 1)) Gd))) Gd)))) Gz))))
   (Gf (Gs (G0 (Ga (pv 2) (Ga (pv 3) Gd))))))))),?_⟩
  refine ⟨_,rfl,_,_,rfl,rfl,_,rfl,?_⟩;rcases h with ⟨D,B,rfl,rfl,af,ag,ac,ad,q⟩ | ⟨aa,q⟩
  ·rw [Yak (show ¬ ((D:Int)<1) by lia)];refine JI ?_;refine ⟨_,rfl,_,_,rfl,rfl,_,rfl,?_⟩;rw [Yak (show ¬ ((B:Int)<1) by lia)];refine JI ?_;refine ⟨_,rfl,_,rfl,_,_,rfl,rfl,.inl ⟨by lia,by lia⟩,?_⟩;refine ⟨Ybc _,λl hl=>?_⟩;have L:(D:Int) * (B:Int)=((D * B:Nat):Int):=by push_cast;rfl
   have hb:D * B<=40 * 40:=Nat.mul_le_mul ac ad;refine ⟨_,rfl,_,rfl,(by rw [L];lia),(by rw [L];lia),?_⟩;have s0:Same H (upd H l (.lst [])):=Same.new hl;refine JZ (lo:=0) (λi σ H2=>∃(xs:List V)(v:Option V),σ=[some (.int D),some (.int B),some (.int ((D:Int) * (B:Int))),some (.ref l),v]/\Same H H2/\H2 l=some (.lst xs)/\Prs H2 xs (gRoads D B i))
    ⟨[],none,rfl,s0,Gb,.nil⟩ ?_ ?_
   ·rintro i σ H2 hi ⟨xs,v,rfl,Y,h2,p2⟩;have ah:i<D * B:=by rw [L,Ybu] at hi;exact hi
    rw [show (0:Int)+(i:Int)=(i:Int) by lia];have qV:∀{zs:List V}{rs:List (Int×Int)}{U:Hp},Prs U zs rs->rs.length<=2 * i+1->zs.length<sizeLine:=λp hq=>by
     have:=p.len;have ai:=Yay.symm
     lia
    have aj:=O8 D B i;have N:∀(xs:List V)(U:Hp),Same H U->U l=some (.lst xs)->Prs U xs (gRoads D B i++(if ((i:Int)+1) % (B:Int)=0 then [] else [((i:Int),(i:Int)+1)])) ->
      Zih (ZdV (tOp (rI0 λi j=>.bl (decide (i<j))) (tOp (rI0 λi j=>.int (i+j)) (Y6 4) (Y6 1)) (Y6 2)))
       (ZdT (tBM K "list" VV (Y6 3) (ZY (Zio (ZY (Y6 4) (ZY (tOp (rI0 λi j=>.int (i+j)) (Y6 4) (Y6 1)) Ze7))) Ze7))) ZdS
       { nx:=λσ H2=>∃(xs:List V)(v:Option V),σ=[some (.int D),some (.int B),some (.int ((D:Int) * (B:Int))),some (.ref l),v]/\Same H H2/\H2 l=some (.lst xs)/\Prs H2 xs (gRoads D B (i+1)),rt:=Q }
       [some (.int D),some (.int B),some (.int ((D:Int) * (B:Int))),some (.ref l),some (.int (i:Int))] U:=by
     intro xs U s3 Z p3;refine ⟨_,rfl,_,rfl,_,_,rfl,rfl,_,rfl,_,_,rfl,rfl,_,rfl,?_⟩;refine OA (λz=>?_) (λz=>?_)
     ·have z':=Yba z;refine ⟨_,rfl,.inl ⟨rfl,_,SqL.of Z⟩,_,rfl,_,rfl,_,rfl,_,_,rfl,rfl,two_le,λt ht=>?_⟩;have G:l≠t:=λq=>by rw [q,ht] at Z;cases Z
      obtain ⟨a1,a2,a3⟩:=Yo (a:=(i:Int)) (b:=(i:Int)+(B:Int)) s3 hl Z p3 ht;refine ⟨l,xs,_,rfl,rfl,Gq Z G,qV p3 (by rw [Yan];split <;> simp <;> lia),xs++[.ref t],_,rfl,a1,a2,?_⟩;rw [OH];unfold Vs;rw [if_pos z',<-Ybp];exact a3
     ·have z':¬ ((i:Int)+(B:Int)<(D:Int) * (B:Int)):=λq=>z (Yae q);refine ⟨xs,_,rfl,s3,Z,?_⟩;rw [OH];unfold Vs;rw [if_neg z',Ybr];exact p3
    refine ⟨_,rfl,_,_,rfl,rfl,_,rfl,_,_,rfl,rfl,(by show (0:Int)<(B:Int);lia),rfl,_,rfl,?_⟩;by_cases z:((i:Int)+1) % (B:Int)=0
    ·have zz:(!decide (V.int (((i:Int)+1) % (B:Int))=V.int 0))=false:=by rw [z];simp
     refine (if_neg (show ¬ ((!decide (V.int (((i:Int)+1) % (B:Int))=V.int 0))=true) by rw [zz];exact Yax)).mpr ?_;exact N xs H2 Y h2 (by rw [if_pos z,Ybr];exact p2)
    ·have zz:(!decide (V.int (((i:Int)+1) % (B:Int))=V.int 0))=true:=by simp [z]
     refine (if_pos zz).mpr ?_;refine ⟨_,rfl,.inl ⟨rfl,_,SqL.of h2⟩,_,rfl,_,rfl,_,_,rfl,rfl,two_le,λt ht=>?_⟩;have G:l≠t:=λq=>by rw [q,ht] at h2;cases h2
     obtain ⟨a1,a2,a3⟩:=Yo (a:=(i:Int)) (b:=(i:Int)+1) Y hl h2 p2 ht;exact ⟨l,xs,_,rfl,rfl,Gq h2 G,qV p2 (by lia),N _ _ a1 a2 (by rw [if_neg z];exact a3)⟩
   ·rintro σ H2 ⟨xs,v,rfl,Y,h2,p2⟩;refine ⟨_,rfl,_,rfl,two_le,λp hp=>?_⟩;have G:l≠p:=λq=>by rw [q,hp] at h2;cases h2
    refine q p l xs _ (Y.put (Y.free hp)) (Y.free hp) hl (Ne.symm G) Gb (Gq h2 G) ?_;have p3:=p2.keep (Yl (o:=.tup [.int ((D:Int) * (B:Int)),.ref l]) hp);rw [L,Ybu] at p3;rw [L];exact p3
  ·by_cases z:r<1
   ·rw [Yae z];refine JQ ?_;exact ⟨by decide,q⟩
   ·rw [Yak z];refine JI ⟨_,rfl,_,_,rfl,rfl,_,rfl,?_⟩;rw [Yae (show c<1 from aa.elim (λy=>absurd y z) id)];refine JQ ?_;exact ⟨by decide,q⟩
def ZiL:Sp:=λvs H Q _=>∃c:Int,vs=[.int c]/\Q (.int (2 * c-1)) H
theorem Zjr:Gp ["columns"] ["columns"] (Ge sRr):=⟨rfl,rfl,rfl,by decide +kernel,rfl,by decide +kernel,by decide +kernel⟩
theorem Zh7 {f:Addr}{fd:FuncData}(F:Fun K "roads_of_row" "roads_of_row" sRr f fd):GJ P w K mg base CX0 1 f fd ["columns"] ZiL:=by
 refine F.ok Zjr (λvs H Q E h=>?_) (λD A B G H vs Q E L h=>?_)
 ·obtain ⟨_,rfl,_⟩:=h
  rfl
 ·obtain ⟨c,rfl,q⟩:=h;refine ⟨_,Gf (Gs (Gw UU (Gw Oc Gg (pv 0)) Gg)),?_⟩;exact ⟨_,rfl,_,_,rfl,rfl,.inl ⟨by decide,by decide⟩,_,_,rfl,rfl,q⟩
def sgn (m p:Int):Nat:=if m=-2 then 46 else if p<m then 40 else 41
def ZiM:Sp:=λvs H Q _=>∃m p:Int,vs=[.int m,.int p]/\Q (.str (mkS [sgn m p])) H
theorem Zjs:Gp ["mark", "place"] ["mark", "place"] (Ge sSg):=⟨rfl,rfl,rfl,by decide +kernel,rfl,by decide +kernel,by decide +kernel⟩
theorem Zh8 {f:Addr}{fd:FuncData}(F:Fun K "sign_of" "sign_of" sSg f fd){G:Tok}(B:mg "FREE" = some (.int (-2) G)):GJ P w K mg base CX0 1 f fd ["mark", "place"] ZiM:=by
 refine F.ok Zjs (λvs H Q E h=>?_) (λL A D N H vs Q E O h=>?_)
 ·obtain ⟨_,_,rfl,_⟩:=h
  rfl
 ·obtain ⟨m,p,rfl,q⟩:=h;refine ⟨_,Gc (Jn (Go UV (pv 0) (Jp (v:=.int (-2)) rfl B ⟨_,rfl⟩) (Gv _)) (Gf (Gs JD)) Gz)
    (Gf (Gs (UB (Go Zfs (pv 0) (pv 1) (Gv _)) JD JD))),?_⟩
  unfold sgn at q;refine ⟨_,rfl,rfl,_,rfl,?_⟩;rw [JU];refine OA (λz=>?_) (λz=>?_)
  ·rw [if_pos (Yba z)] at q;exact q
  ·rw [if_neg (λy=>z (Yae y))] at q;refine ⟨_,rfl,_,rfl,_,_,rfl,rfl,_,rfl,?_⟩;refine OA (λz=>?_) (λz=>?_)
   ·rw [if_pos (show p<m from Yba z)] at q;exact q
   ·rw [if_neg (show ¬ p<m from λy=>z (Yae y))] at q;exact q
def Zfe (m:List Int)(f:Int)(c:Nat):List Nat:=(List.range c).map λ(j:Nat)=>sgn (gA m (f+(j:Int))) (f+(j:Int))
def ZiN:Sp:=λvs H Q _=>∃(b:Addr)(m:List Int)(i c:Nat),vs=[.ref b,.int (i:Int),.int (c:Int)]/\H b=some (.tup (m.map V.int))/\(i+1) * c<=m.length/\1<=c/\i<=300/\c<=300/\∀H',Same H H'->Q (.str (mkS (Zfe m ((i:Int) * (c:Int)) c))) H'
theorem scWn:Gp ["marks", "row", "columns", "first"] ["marks", "row", "columns"] (Ge sWn):=⟨rfl,rfl,rfl,by decide +kernel,rfl,by decide +kernel,by decide +kernel⟩
theorem Zh9 {f L:Addr}{fd B:FuncData}(F:Fun K "word_in" "word_in" sWn f fd)(U:Fun K "sign_of" "sign_of" sSg L B)(Y:Binds K B ["mark", "place"] [])(Z:mg "sign_of" = some (.ref L))(aa:GJ P w K mg base CX0 1 L B ["mark", "place"] ZiM)(G:mg "range" = none):GJ P w K mg base CX0 2 f fd ["marks", "row", "columns"] ZiN:=by
 refine F.ok scWn (λvs H Q E h=>?_) (λae A ab s0 H vs Q E hr h=>?_)
 ·obtain ⟨_,_,_,_,rfl,_⟩:=h
  rfl
 ·obtain ⟨b,m,i,c,rfl,hb,hl,c1,i1,c2,q⟩:=h;have af:=Yay.symm;refine ⟨_,Gc (Gm (i:=3) scWn.nd rfl (Or.inl rfl) (Gw Oc (pv 1) (pv 2)))
    (Gf (Gs (OU PySem.F.plainAttrs_str PySem.F.slot_str_join PySem.F.type_str_join (Zeo K) JD (Ga (Jd (own:=["place"]) rfl (Gk (fr:=[("marks", 0)]) [(".0", .local),("place", .local),("sign_of", .globalImplicit),("marks", .cell)] rfl rfl (by decide +kernel) rfl (by decide +kernel) ⟨rfl,trivial⟩ ⟨λh=>GG h,λh=>GG h,λh=>GG h,λ_=>⟨_,rfl⟩,trivial⟩ ⟨⟨rfl,.inl rfl,.inl rfl⟩,trivial⟩) (Wz rfl G (Ga (pv 3) (Ga (Gw GY (pv 3) (pv 2)) Gd))) (λ_ _ _ _=>Gi (i:=0) (show List.Nodup (["place", "marks"]:List Str) by decide +kernel) rfl (Or.inl rfl)) (λ_ _ _ _=>JB) (λ_ _ _ _=>Gj aa (hr.mono (by decide)) rfl Z U.kp Y .nil GP (Ga (GE (Ut K) (pv 1) (pv 0) (λ_ _=>rfl)) (Ga (pv 0) Gd)))) Gd)))),?_⟩
  refine ⟨_,rfl,_,rfl,_,_,rfl,rfl,.inl ⟨by lia,by lia⟩,?_⟩;dsimp only [GB];have ac:(i:Int) * (c:Int)=((i * c:Nat):Int):=by push_cast;rfl
  have ag:i * c<=300 * 300:=Nat.mul_le_mul i1 c2;have ad:(i+1) * c=i * c+c:=Nat.succ_mul i c;rw [ac] at q ⊢;generalize i * c=f at *;refine ⟨rfl,_,rfl,_,rfl,_,rfl,_,_,rfl,rfl,_,_,rfl,⟨by lia,by lia,by lia,by lia⟩,λD hD=>?_⟩;rw [show ((f:Int)+(c:Int)-(f:Int)).toNat=c by lia];refine VD (lo:=(f:Int)) (n:=c) (λj ys H2=>Same H H2/\H2 D=some (.lst ys)/\ys=(((List.range j).map λ(j:Nat)=>sgn (gA m ((f:Int)+(j:Int))) ((f:Int)+(j:Int))).map λc=>mkS [c]).map V.str) ⟨Same.new hD,Gb,rfl⟩ ?_ ?_
  ·rintro j ys H2 hj ⟨O,N,rfl⟩;refine ⟨⟨rfl,trivial⟩,?_⟩;unfold ZbJ;refine JQ ?_;refine ⟨_,rfl,_,rfl,b,_,_,_,rfl,rfl,SqT.of (O _ _ hb),JS (by lia) (by lia),_,rfl,_,_,rfl,N,?_,O.put hD,Gb,?_⟩
   ·rw [Yaa,Yaa,Yaa,Ycb]
    lia
   ·rw [List.range_succ,Yal,Yal,Yal]
    rfl
  ·rintro ys H2 ⟨O,N,rfl⟩;refine ⟨_,D,_,rfl,rfl,SqL.of N,?_,?_⟩
   ·exact Zcv _ (by rw [Yaa,Ycb];lia)
   ·show Q (.str (Txt.join (mkS []) _)) _;rw [Zs];exact q H2 O
theorem str_mk {l B:List Nat}:mkS l=mkS B↔l=B:=⟨λh=>by
 have h:(mkS l).cps.toList=(mkS B).cps.toList:=by rw [h]
 exact h,λh=>by rw [h]⟩
def dots (c:Nat):List Nat:=List.replicate c 46
theorem Os {r c:Nat}(L:1<=c):∀q∈gRoads r c (r * c),0<=q.1/\q.1<q.2/\q.2<((r * c:Nat):Int):=by
 intro q B;unfold gRoads at B;obtain ⟨p,D,B⟩:=List.mem_flatMap.mp B;have D:=Ybq.mp D;unfold Vs at B;have G:((r * c:Nat):Int)=(r:Int) * (c:Int):=by push_cast;rfl
 rcases Yav.mp B with B | B
 ·split at B
  ·cases B
  ·rename_i F;rw [Yas.mp B];have:p+1≠r * c:=λz=>F (by
    have:(p:Int)+1=(r:Int) * (c:Int):=by rw [<-G,<-z];push_cast;rfl
    rw [this];exact Int.mul_emod_left _ _)
   exact ⟨by show 0<=(p:Int);lia,by show (p:Int)<(p:Int)+1;lia,by show (p:Int)+1<_;lia⟩
 ·split at B
  ·rename_i F;rw [Yas.mp B];exact ⟨by show 0<=(p:Int);lia,by show (p:Int)<(p:Int)+(c:Int);lia,by show (p:Int)+(c:Int)<_;lia⟩
  ·cases B
def ZiO:Sp:=λvs H Q _=>∃(c:Int)(k:Nat),vs=[.int c,.int (k:Int)]/\k<=300/\∀z:Int,Q (.int z) H
theorem scMi:Gp ["cell", "k", "number"] ["cell", "k"] (Ge sMi):=⟨rfl,rfl,rfl,by decide +kernel,rfl,by decide +kernel,by decide +kernel⟩
theorem Zia {f:Addr}{fd:FuncData}(F:Fun K "_law_mixed" "_law_mixed" sMi f fd):GJ P w K mg base CX0 1 f fd ["cell", "k"] ZiO:=by
 refine F.ok scMi (λvs H Q E h=>?_) (λO A D s H vs Q E Z h=>?_)
 ·obtain ⟨_,_,rfl,_⟩:=h
  rfl
 ·obtain ⟨c,k,rfl,hk,q⟩:=h;refine ⟨_,Gc (Jn (Go ZbR (pv 0) (Gw Zfr Gg Gg) (Gv _)) (Gf (Gs (pv 0))) Gz)
    (Gc (Gm (i:=2) scMi.nd rfl (Or.inl rfl) (Gw Ur (Gw GY (Gw GY (Gw GY (Gw Oc (pv 0) Gg) (Gw Oc (Gw Oc Gg (pv 1)) (pv 1))) (Gw Oc Gg (pv 1))) Gg) Gg))
    (Gc (Gm (i:=2) scMi.nd rfl (Or.inl rfl) (Gw Ur (Gw Oc (pv 2) (pv 2)) Gg))
    (Gf (Gs (Gw GY (Gw GY (Gw Oc (Gw Oc (pv 2) (pv 2)) (pv 2)) (Gw Oc Gg (pv 2))) (pv 1)))))),?_⟩
  refine ⟨_,rfl,_,_,rfl,rfl,⟨by decide,by decide,by decide⟩,_,_,rfl,rfl,_,rfl,OA (λ_=>?_) (λ_=>?_)⟩
  ·exact ⟨_,rfl,q _⟩
  have U:∀a:Int,0<=a % 2147483647/\a % 2147483647<2147483647:=λa=>⟨Int.emod_nonneg _ (by decide),Int.emod_lt_of_pos _ (by decide)⟩;have Y:∀a:Int,0<=a % 2147483629/\a % 2147483629<2147483629:=λa=>⟨Int.emod_nonneg _ (by decide),Int.emod_lt_of_pos _ (by decide)⟩;have B:∀a b:Int,0<=a->a<4294967296->CMul a b:=λa b h1 h2=>.inl ⟨by lia,by lia⟩;have G:∀a b:Int,0<=b->b<4294967296->CMul a b:=λa b h1 h2=>.inr ⟨by lia,by lia⟩;refine ⟨_,rfl,_,_,rfl,rfl,G _ _ (by decide) (by decide),_,rfl,_,_,rfl,rfl,B _ _ (by decide) (by decide),_,rfl,_,_,rfl,rfl,G _ _ (by lia) (by lia),_,_,rfl,rfl,_,rfl,_,_,rfl,rfl,B _ _ (by decide) (by decide),_,_,rfl,rfl,_,_,rfl,rfl,_,_,rfl,rfl,(by show (0:Int)<2147483647;decide),?_⟩;generalize L:(c * 48271+7919 * (k:Int) * (k:Int)+104729 * (k:Int)+19) % 2147483647=x;have L:=L▸U (c * 48271+7919 * (k:Int) * (k:Int)+104729 * (k:Int)+19);refine ⟨_,rfl,_,rfl,_,_,rfl,rfl,B _ _ (by lia) (by lia),_,_,rfl,rfl,(by show (0:Int)<2147483629;decide),?_⟩;generalize N:x * x % 2147483629=y;have N:=N▸Y (x * x);exact ⟨_,rfl,_,rfl,_,_,rfl,rfl,B _ _ (by lia) (by lia),_,rfl,_,_,rfl,rfl,G _ _ (by lia) (by lia),_,rfl,_,_,rfl,rfl,B _ _ (by decide) (by decide),_,_,rfl,rfl,_,rfl,_,_,rfl,rfl,q _⟩
theorem JO (l:List Nat):(mkS l).length=l.length:=by simp [mkS,Str.length]
theorem ZeF (a b:Str):(a++b).cps.toList=a.cps.toList++b.cps.toList:=by rw [PySem.Str.cps_append,Ycj]
theorem ZeG (a b:List Nat):mkS a++mkS b=mkS (a++b):=by
 apply ZaQ;rw [ZeF]
 rfl
theorem ZgD (x:List Nat){a b:Nat}(h:a<=b)(B:b<=x.length):StrLaws.sliceText (mkS x) (some (a:Int)) (some (b:Int))=mkS ((x.drop a).take (b-a)):=StrLaws.sliceText_nat (mkS x) h (by rw [JO];exact B)
theorem ZgE (x:List Nat){a b:Nat}(h:a<=b):StrLaws.sliceText (mkS x) (some (a:Int)) (some (b:Int))=mkS ((x.drop a).take (b-a)):=by
 have e:StrLaws.sliceText (mkS x) (some (a:Int)) (some (b:Int))=StrLaws.sliceText (mkS x) (some ((min a x.length:Nat):Int)) (some ((min b x.length:Nat):Int)):=by
  have c:Builtin.Str.strSliceIndices (some (a:Int)) (some (b:Int)) 1 x.length=Builtin.Str.strSliceIndices (some ((min a x.length:Nat):Int)) (some ((min b x.length:Nat):Int)) 1 x.length:=by
   have h1:¬ ((a:Int)<0):=by lia
   have h2:¬ ((b:Int)<0):=by lia
   have B:¬ (((min a x.length:Nat):Int)<0):=by lia
   have D:¬ (((min b x.length:Nat):Int)<0):=by lia
   have F:max 0 (min (a:Int) (x.length:Int))=max 0 (min ((min a x.length:Nat):Int) (x.length:Int)):=by lia
   have G:max 0 (min (b:Int) (x.length:Int))=max 0 (min ((min b x.length:Nat):Int) (x.length:Int)):=by lia
   unfold Builtin.Str.strSliceIndices;simp only [if_neg h1,if_neg h2,if_neg B,if_neg D,F,G,gt_iff_lt,Int.zero_lt_one,if_true]
  unfold StrLaws.sliceText;rw [JO,c]
 rw [e,ZgD x (by lia) (by lia)]
 congr 1
 by_cases L:a<=x.length
 ·rw [Yea L];by_cases N:b<=x.length
  ·rw [Yea N]
  ·rw [Yej (by lia),Yeb (by rw [Yct];lia),Yeb (by rw [Yct];lia)]
 ·rw [Yej (show x.length<=a by lia),Yek (Yac _),Yek (show x.length<=a by lia),List.take_nil,List.take_nil]
theorem Zbc (x:List Nat){b:Nat}:StrLaws.sliceText (mkS x) none (some (b:Int))=mkS (x.take b):=by
 have e:StrLaws.sliceText (mkS x) none (some (b:Int))=StrLaws.sliceText (mkS x) (some ((0:Nat):Int)) (some (b:Int)):=by
  unfold StrLaws.sliceText;rw [StrLaws.sliceIdx_none_lo]
  rfl
 rw [e,ZgE x (by lia)]
 rfl
def YM (rs:List (Int×Int))(k c:Nat)(ks:List Int):Nat->Option (List Int×List (List Nat))
 | 0=>some (m0 k,[])
 | j+1=>(YM rs k c ks j).bind λp=>(Za6 rs nE nE p.1 j (decide ((j:Int)∈ks))).map λm=>(m,if (j+1) % (2 * c-1)=0 then p.2++[Zfe m ((((j+1) / (2 * c-1):Nat):Int) * (c:Int)) c] else p.2)
def Xm (r c:Nat)(ks:List Int):Option (List (List Nat)):=(YM (gRoads r c (r * c)) (r * c) c ks (gRoads r c (r * c)).length).map (·.2)
theorem YN {rs:List (Int×Int)}{k c:Nat}{ks:List Int}{j:Nat}(h:YM rs k c ks j=none):∀d,YM rs k c ks (j+d)=none
 | 0=>h
 | d+1=>by
  show (YM rs k c ks (j+d)).bind _=none;rw [YN h d]
  rfl
theorem Zbd {rs:List (Int×Int)}{k c:Nat}{ks:List Int}(k1:1<=k)(B:∀r∈rs,0<=r.1/\r.1<r.2/\r.2<(k:Int)):∀{j:Nat}{p:List Int×List (List Nat)},j<=rs.length->YM rs k c ks j=some p->OkM k p.1/\p.2.length<=j
 | 0,p,_,h=>by
  cases h;exact ⟨⟨Ydy,λq D=>by have:=(List.mem_replicate.mp D).2;lia⟩,Yac _⟩
 | j+1,p,hj,h=>by
  obtain ⟨p0,h0,h1⟩:=Option.bind_eq_some_iff.mp (show (YM rs k c ks j).bind _=some p from h);obtain ⟨m,F,rfl⟩:=Ybg.mp h1;obtain ⟨i1,i2⟩:=Zbd k1 B (show j<=rs.length by lia) h0;refine ⟨ZgC i1 (B _ (JN (rs:=rs) (show j<rs.length by lia))) k1 F,?_⟩;show (if _ then p0.2++[_] else p0.2).length<=j+1;split
  ·rw [Yan,Ybl];lia
  ·lia
def Vh (k:Int)(rs:List (Int×Int))(ks:List Int):Prop:=∃(s:Int)(tl:List Int),Begins (cho rs ks rs.length) s/\Wk (cho rs ks rs.length) s tl []/\Zx rs ks k tl
theorem ZcN {r c j n:Nat}(B:2<=c)(D:j+1<=n)(F:n<=(r-1) * (2 * c-1)+(c-1))(G:1<=r):((j+1) / (2 * c-1)+1) * c<=r * c:=by
 have h:(j+1) / (2 * c-1)<r:=by
  rw [Nat.div_lt_iff_lt_mul (by lia)];have e:r * (2 * c-1)=(r-1) * (2 * c-1)+(2 * c-1):=by
   conv=>lhs;rw [show r=(r-1)+1 by lia]
   rw [Nat.succ_mul]
  lia
 exact Nat.mul_le_mul_right c h
def Zib:Sp:=λvs H Q _=>∃(r c:Nat)(kl:Addr)(ks:List Int)(ws:List (List Nat)),vs=[.int (r:Int),.int (c:Int),.ref kl]/\(2<=r/\2<=c/\r * c<=70/\(gRoads r c (r * c)).length<=(r-1) * (2 * c-1)+(c-1))/\G4 ((r * c:Nat):Int) (gRoads r c (r * c))/\H kl=some (.lst (ks.map V.int))/\Vh ((r * c:Nat):Int) (gRoads r c (r * c)) ks/\Xm r c ks=some ws /\
 ∀(l:Addr)(H':Hp),Same H H'->H l=none->H' l=some (.lst (ws.map λx=>V.str (mkS x)))->Q (.ref l) H'
theorem scWf:Gp ["rows", "columns", "roads", "web", "words", "marks", "number", "step", "row", "left"] ["rows", "columns", "roads"] (Ge sWf):=⟨rfl,rfl,rfl,by decide +kernel,rfl,by decide +kernel,by decide +kernel⟩
theorem Zic {f am N an ao ap aq ar C NW:Addr}{fd O G U Y Z aa ab:FuncData}(F:Fun K "words_of" "words_of" sWf f fd)(aO:Fun K "grid" "grid" sGr am O)(aP:Binds K O ["rows", "columns"] [])(aQ:mg "grid" = some (.ref am))(aR:GJ P w K mg base (CXr P w) 1 am O ["rows", "columns"] (Zbb C))(a1:Fun K "closed_of" "closed_of" Ze9 N G)(a2:Binds K G ["web", "roads"] [])(a3:mg "closed_of" = some (.ref N))(a4:GJ P w K mg base (CXr P w) 5 N G ["web", "roads"] (Zgv NW))(aS:Fun K "first_marks" "first_marks" sFm an U)(aT:Binds K U ["web", "needed"] [])(aU:mg "first_marks" = some (.ref an))(aV:GJ P w K mg base CX0 4 an U ["web", "needed"] ZiK)(aW:Fun K "steps_of" "steps_of" sSo ao Y)(aX:Binds K Y ["web", "needed"] [])(aY:mg "steps_of_marks" = some (.ref ao))(aZ:GJ P w K mg base CX0 2 ao Y ["web", "needed"] ZiI)(ba:Fun K "decided" "decided" sDe ap Z)(bb:Binds K Z ["marks", "step", "ends", "chosen"] [])(bc:mg "decided" = some (.ref ap))(bd:GJ P w K mg base CX0 3 ap Z ["marks", "step", "ends", "chosen"] ZiG)(be:Fun K "roads_of_row" "roads_of_row" sRr aq aa)(bf:Binds K aa ["columns"] [])(bh:mg "roads_of_row" = some (.ref aq))(bi:GJ P w K mg base CX0 1 aq aa ["columns"] ZiL)(bj:Fun K "word_in" "word_in" sWn ar ab)(bl:Binds K ab ["marks", "row", "columns"] [])(bm:mg "word_in" = some (.ref ar))(bn:GJ P w K mg base CX0 2 ar ab ["marks", "row", "columns"] ZiN)(as:mg "enumerate" = none)(a5:mg "divmod" = none):GJ P w K mg base (CXr P w) 6 f fd ["rows", "columns", "roads"] Zib:=by
 refine F.okR scWf (λvs H Q E h=>?_) (λbz A bo s0 H vs Q E hr h=>?_)
 ·obtain ⟨_,_,_,_,_,rfl,_⟩:=h
  rfl
 ·obtain ⟨r,c,kl,ks,ws,rfl,⟨r2,c2,rc,qV⟩,g,ag,cl,a6,q⟩:=h;have b0:=Yay.symm;have b1:r * 2<=r * c:=Nat.mul_le_mul_left r c2;have b2:2 * c<=r * c:=Nat.mul_le_mul_right c r2;have gr:=Os (r:=r) (c:=c) (by lia);have b3:=O8 r c (r * c);refine ⟨_,(@Gc _ _ _ _ _ (@Gm _ _ 3 _ _ _ _ scWf.nd rfl (Or.inl rfl) (@Gj _ _ _ _ _ _ _ _ _ _ _ _ _ _ _ _ aR (hr.mono (by decide)) rfl aQ aO.kp aP .nil Zae (@Ga _ _ _ _ _ (pv 0) (@Ga _ _ _ _ _ (pv 1) Gd rfl) rfl) (by decide) rfl rfl) rfl (by first | exact .inl rfl | exact .inr rfl))
    (@Gc _ _ _ _ _ (Jq (@Gj _ _ _ _ _ _ _ _ _ _ _ _ _ _ _ _ a4 (hr.mono (by decide)) rfl a3 a1.kp a2 .nil Zae (@Ga _ _ _ _ _ (pv 3) (@Ga _ _ _ _ _ (pv 2) Gd rfl) rfl) (by decide) rfl rfl))
    (@Gc _ _ _ _ _ (@Gm _ _ 4 _ _ _ _ scWf.nd rfl (Or.inl rfl) (@Ji _ _ _ _ Gd) rfl (by first | exact .inl rfl | exact .inr rfl))
    (@Gc _ _ _ _ _ (@Gm _ _ 5 _ _ _ _ scWf.nd rfl (Or.inl rfl) (@GE _ _ _ _ _ _ _ (U3 K) (@Gj _ _ _ _ _ _ _ _ _ _ _ _ _ _ _ _ aV (hr.mono (by decide)) rfl aU aS.kp aT .nil GP (@Ga _ _ _ _ _ (pv 3) (@Ga _ _ _ _ _ (@Ji _ _ _ _ Gd) Gd rfl) rfl) (by decide) rfl rfl) Gg (λ_ _=>rfl)) rfl (by first | exact .inl rfl | exact .inr rfl))
    (@Gc _ _ _ _ _ (@JY _ _ _ _ _ _ _ _ PassesOwn.leaving rfl (XE K rfl as (@Ga _ _ _ _ _ (@Gj _ _ _ _ _ _ _ _ _ _ _ _ _ _ _ _ aZ (hr.mono (by decide)) rfl aY aW.kp aX .nil GP (@Ga _ _ _ _ _ (pv 3) (@Ga _ _ _ _ _ (@Ji _ _ _ _ Gd) Gd rfl) rfl) (by decide) rfl rfl) Gd rfl)) (Wu K (n:=2) rfl (Gn (Gi (i:=6) scWf.nd rfl (Or.inl rfl)) (Gn (Gi (i:=7) scWf.nd rfl (Or.inl rfl)) Jb)))
    (@Gc _ _ _ _ _ (@Gm _ _ 5 _ _ _ _ scWf.nd rfl (Or.inl rfl) (@Gj _ _ _ _ _ _ _ _ _ _ _ _ _ _ _ _ bd (hr.mono (by decide)) rfl bc ba.kp bb .nil GP (@Ga _ _ _ _ _ (pv 5) (@Ga _ _ _ _ _ (pv 7) (@Ga _ _ _ _ _ Zcu (@Ga _ _ _ _ _ (Jr (kIn K) (pv 6) (pv 2) (by with_unfolding_all rfl)) Gd rfl) rfl) rfl) rfl) (by decide) rfl rfl) rfl (by first | exact .inl rfl | exact .inr rfl))
    (@Gc _ _ _ _ _ (@J8 _ _ _ _ _ _ (Gu UW rfl a5 PyProof.Rows.boot_divmod (@Ga _ _ _ _ _ (@Gw _ _ _ _ _ _ _ _ GY (pv 6) Gg) (@Ga _ _ _ _ _ (@Gj _ _ _ _ _ _ _ _ _ _ _ _ _ _ _ _ bi (hr.mono (by decide)) rfl bh be.kp bf .nil GP (@Ga _ _ _ _ _ (pv 1) Gd rfl) (by decide) rfl rfl) Gd rfl) rfl)) (Wu K (n:=2) rfl (Gn (Gi (i:=8) scWf.nd rfl (Or.inl rfl)) (Gn (Gi (i:=9) scWf.nd rfl (Or.inl rfl)) Jb))) rfl rfl rfl)
    (@Gf _ _ _ (@Jn _ _ _ _ _ _ _ _ (Go UV (pv 9) Gg (Gv _)) (@Gf _ _ _ (Jq (OU Ydd Ydj Ydk G5 (pv 4) (@Ga _ _ _ _ _ (@Gj _ _ _ _ _ _ _ _ _ _ _ _ _ _ _ _ bn (hr.mono (by decide)) rfl bm bj.kp bl .nil GP (@Ga _ _ _ _ _ (pv 5) (@Ga _ _ _ _ _ (pv 8) (@Ga _ _ _ _ _ (pv 1) Gd rfl) rfl) rfl) (by decide) rfl rfl) Gd rfl)))) Gz)))) (by intro _;rfl))
    (@Gf _ _ _ (@Gs _ _ _ _ (pv 4)))))))),?_⟩
  refine ⟨_,rfl,_,rfl,_,_,rfl,.inl ⟨r,c,rfl,rfl,by lia,by lia,by lia,by lia,λwb l xs H1 s1 b4 hl b5 bp el P1=>?_⟩⟩;have W1:WebAt H1 wb l ((r * c:Nat):Int) xs (gRoads r c (r * c)):=⟨by rw [bp];push_cast;rfl,el,P1⟩;dsimp only [GB];unfold Xm at a6;obtain ⟨pf,a7,rfl⟩:=Ybg.mp a6;generalize gRoads r c (r * c)=rs at *;obtain ⟨s,tl,a8,bq,br⟩:=cl;have cne:cho rs ks rs.length≠[]:=λe=>by
   obtain ⟨t,ht,_⟩:=a8.2;rw [e] at ht;cases ht
  refine ⟨_,rfl,_,rfl,wb,l,kl,_,xs,rs,ks,rfl,W1,g,s1 _ _ ag,λs' b6 rest bg wk=>?_⟩;have e1:s'=s:=(bg cne).one a8;subst e1;have e2:=wk.det bq;subst e2;refine ⟨λ_ rr H2 s2 _ _=>?_,λnb=>absurd br nb⟩;refine ⟨Ybc _,λW hW=>?_⟩;have s3:Same H2 (upd H2 W (.lst [])):=Same.new hW;have ah:upd H2 W (.lst []) W=some (.lst []):=Gb;have au:H W=none:=(s1.trans s2).free hW;generalize upd H2 W (.lst [])=H3 at s3 ah ⊢;have S3:=s1.trans (s2.trans s3);dsimp only [GB];refine ⟨_,rfl,Ybc _,λe4 bt=>?_⟩;have s4:Same H3 (upd H3 e4 (.lst [])):=Same.new bt;have a9:upd H3 e4 (.lst []) e4=some (.lst []):=Gb;generalize upd H3 e4 (.lst [])=H4 at s4 a9 ⊢;refine ⟨wb,l,e4,r * c,xs,rs,rfl,W1.same (s2.trans (s3.trans s4)),by lia,.inr ⟨rfl,rfl,a9⟩,λF0 T1 H5 s5 b7 eF bu=>?_⟩;refine ⟨F0,_,_,_,rfl,rfl,SqL.of eF,GD (j:=0) rfl,?_⟩;dsimp only [GB];refine ⟨_,rfl,Ybc _,λe6 bv=>?_⟩;have s6:Same H5 (upd H5 e6 (.lst [])):=Same.new bv;have aA:upd H5 e6 (.lst []) e6=some (.lst []):=Gb;generalize upd H5 e6 (.lst [])=H6 at s6 aA ⊢;have ac:=s4.trans (s5.trans s6);refine ⟨wb,l,e6,((r * c:Nat):Int),xs,rs,nE,nE,rfl,W1.same (s2.trans (s3.trans ac)),by lia,λx hx=>⟨(gr x hx).1,(gr x hx).2.1⟩,.inr ⟨rfl,rfl,aA⟩,λS zs H7 s7 hS eS zl st sn=>?_⟩;have S7:=S3.trans (ac.trans s7);have av:=(ac.trans s7) _ _ ah;have nS:S≠W:=λe=>by rw [e,ac _ _ ah] at hS;cases hS
  refine ⟨S,zs,rfl,SqL.of eS,?_⟩;refine UF (K:=K) (a:=S) (xs:=zs) (λi σ H8=>∃(v6 v7 v8 v9:Option V)(T:Addr)(p:List Int×List (List Nat)),σ=[some (.int (r:Int)),some (.int (c:Int)),some (.ref kl),some (.ref wb),some (.ref W),some (.ref T),v6,v7,v8,v9]/\ZeB W H7 H8/\H8 W=some (.lst (p.2.map λx=>V.str (mkS x)))/\H8 T=some (.tup (p.1.map V.int))/\YM rs (r * c) c ks i=some p)
   ⟨none,none,none,none,T1,(m0 (r * c),[]),rfl,λ_ _ _ y=>y,av,(s6.trans s7) _ _ bu,rfl⟩ (λi σ H8 _ ⟨_,_,_,_,_,_,_,y,_⟩=>SqL.of (y _ _ nS eS)) ?_ ?_
  ·rintro i x σ H8 D aw ⟨v6,v7,v8,v9,T,p,rfl,sx,eW,eT,hp⟩ hD;have hi:i<zs.length:=(Ybf.mp aw).1;obtain ⟨om,pl⟩:=Zbd (by lia) gr (by lia) hp;have s9:Same H8 (upd H8 D (.tup [.int (i:Nat),x])):=Same.new hD;refine ⟨D,_,rfl,SqT.of Gb,rfl,_,_,rfl,_,_,rfl,rfl,?_⟩;generalize upd H8 D (.tup [.int (i:Nat),x])=H9 at s9 ⊢;dsimp only [GB];refine ⟨_,rfl,_,rfl,λad aB ai=>?_⟩;have ax:Same H9 (upd H9 ad (.frz ai (.dK []))):=Same.new aB;have aC:EndD (upd H9 ad (.frz ai (.dK []))) ad nE nE:=⟨rfl,rfl,ai,Gb⟩;generalize upd H9 ad (.frz ai (.dK []))=aD at ax aC ⊢;have aE:aD kl=some (.lst (ks.map V.int)):=(s9.trans ax) _ _ (sx _ _ (λe=>by rw [e,au] at ag;cases ag) (S7 _ _ ag));refine ⟨_,rfl,_,rfl,kl,_,rfl,.inl (SqL.of aE),rfl,Xe _,?_⟩;have aF:i<rs.length:=by lia
   have aG:=gr _ (JN (rs:=rs) aF);have L:=s9.trans ax;have aH:=L _ _ eT;have bx:=L _ _ eW;refine ⟨T,ad,x,p.1,rs,nE,nE,i,decide ((i:Int)∈ks),by rw [<-YE];rfl,aH,?st,aC,⟨aF,⟨aG.1,aG.2.1,by rw [om.1];lia⟩,λq hq=>by have:=om.2 q hq;rw [om.1];lia,by rw [om.1];lia⟩,λaj aI hn=>?no,λT' m' aj aI ay hm=>?_⟩
   case st=>
    obtain ⟨TT,rr,lv,nd,ex,g1,g2,g3,g4⟩:=(st i x aw).ex;obtain ⟨T2,b8,b9,bA,ex',aJ,n1,n2⟩:=sn i x aw;rw [ex] at ex';cases ex';rw [g1] at aJ;cases aJ;have w6:=ac _ _ ah;have tr:∀{b u},b≠W->H7 b=some u->aD b=some u:=λn y=>L _ _ (sx _ _ n y);exact ⟨TT,rr,lv,nd,ex,tr (J4 g1 av (λz=>by cases z)) g1,tr (J4 g2 av (λz=>by cases z)) g2,tr (λz=>by rw [z,w6] at n1;cases n1) g3,tr (λz=>by rw [z,w6] at n2;cases n2) g4⟩
   case no=>
    have z:YM rs (r * c) c ks (i+1)=none:=by
     show (YM rs (r * c) c ks i).bind _=none;rw [hp];show (Za6 rs nE nE p.1 i _).map _=none;rw [hn]
     rfl
    have y:=YN z (rs.length-(i+1));rw [show i+1+(rs.length-(i+1))=rs.length by lia,a7] at y;cases y
   have ae:YM rs (r * c) c ks (i+1)=some (m',if (i+1) % (2 * c-1)=0 then p.2++[Zfe m' ((((i+1) / (2 * c-1):Nat):Int) * (c:Int)) c] else p.2):=by
    show (YM rs (r * c) c ks i).bind _=_;rw [hp];show (Za6 rs nE nE p.1 i _).map _=_;rw [hm]
    rfl
   obtain ⟨aK,_⟩:=Zbd (by lia) gr (by lia) ae;dsimp only at aK;dsimp only [GB];have aL:=L.trans aI;refine ⟨_,rfl,_,_,rfl,rfl,_,rfl,(c:Int),rfl,(i:Int)+1,2 * (c:Int)-1,rfl,⟨by lia,by lia⟩,λd hd=>?_⟩;have af:Same aj (upd aj d (.tup [.int (((i:Int)+1) / (2 * (c:Int)-1)),.int (((i:Int)+1) % (2 * (c:Int)-1))])):=Same.new hd;refine ⟨d,_,rfl,SqT.of Gb,rfl,_,_,rfl,_,_,rfl,rfl,?_⟩;generalize upd aj d (.tup [.int (((i:Int)+1) / (2 * (c:Int)-1)),.int (((i:Int)+1) % (2 * (c:Int)-1))])=bB at af ⊢;have B:=aL.trans af;have aM:2 * (c:Int)-1=((2 * c-1:Nat):Int):=by lia
   have ei:(i:Int)+1=((i+1:Nat):Int):=rfl;have ed:((i:Int)+1) / (2 * (c:Int)-1)=(((i+1) / (2 * c-1):Nat):Int):=by rw [aM,ei];rfl
   have em:((i:Int)+1) % (2 * (c:Int)-1)=(((i+1) % (2 * c-1):Nat):Int):=by rw [aM,ei];rfl
   dsimp only [GB];rw [ed,em];refine ⟨_,rfl,rfl,_,rfl,?_⟩;rw [JU];refine OA (λhz=>?_) (λhz=>?_)
   ·have az:(i+1) % (2 * c-1)=0:=by have:=Yba hz;lia
    rw [if_pos az] at ae;have bC:=ZcN (r:=r) (j:=i) c2 (show i+1<=rs.length by lia) qV (by lia);have ib:(i+1) / (2 * c-1)<=i+1:=Nat.div_le_self _ _;refine ⟨_,rfl,.inl ⟨rfl,_,SqL.of (B _ _ eW)⟩,_,rfl,_,rfl,_,rfl,T',m',(i+1) / (2 * c-1),c,rfl,af _ _ ay,by rw [aK.1];lia,by lia,by lia,by lia,λbw a0=>?_⟩;have ak:=(B.trans a0) _ _ eW;have al:=(af.trans a0) _ _ ay;have aN:ZeB W H7 bw:=λb u n y=>(B.trans a0) _ _ (sx b u n y);refine ⟨W,_,_,rfl,rfl,ak,by rw [Yaa];lia,?_⟩;exact ⟨_,_,_,_,T',_,rfl,λb u n y=>Gq (aN b u n y) n,by rw [Gb,Yal];rfl,Gq al (J4 al ak (λz=>by cases z)),ae⟩
   ·have az:(i+1) % (2 * c-1)≠0:=λy=>hz (Yae (by lia));rw [if_neg az] at ae;exact ⟨_,_,_,_,T',(m',p.2),rfl,λb u n y=>B _ _ (sx b u n y),B _ _ eW,af _ _ ay,ae⟩
  ·rintro σ H8 ⟨v6,v7,v8,v9,T,p,rfl,sx,eW,eT,hp⟩;rw [zl,a7] at hp;cases hp;refine ⟨_,rfl,q W H8 (λb u y=>sx b u (λz=>by rw [z,au] at y;cases y) (S7 _ _ y)) au eW⟩
def Zbe (c:Nat)(fr:List (List Nat))(t:Int×Int):Bool:=
 if t.2=t.1+(c:Int) then !decide ((fr.getD (t.1.toNat / c+1) []).getD (t.1.toNat % c) 0=46)
 else decide ((((fr.getD (t.1.toNat / c) []).take (t.1.toNat % c+1)++(fr.getD (t.1.toNat / c+1) []).take (t.1.toNat % c+1)).length-((fr.getD (t.1.toNat / c) []).take (t.1.toNat % c+1)++(fr.getD (t.1.toNat / c+1) []).take (t.1.toNat % c+1)).count 46) % 2=1)
theorem Zbf {fr:List (List Nat)}{j:Nat}(h:j<fr.length):atI (fr.map λx=>V.str (mkS x)) (j:Int)=some (.str (mkS (fr.getD j []))):=by
 refine GD ?_;rw [Yau,Yai,Yah h]
 rfl
def ZiP:Sp:=λvs H Q _=>∃(B D:Addr)(a:Nat)(b:Int)(c:Nat)(fr:List (List Nat)),vs=[.ref B,.ref D,.int (c:Int)]/\H B=some (.tup [.int (a:Int),.int b])/\H D=some (.lst (fr.map λx=>V.str (mkS x)))/\(1<=c/\c<=100)/\a / c+1<fr.length/\(∀x∈fr,x.length=c)/\∀H',Same H H'->Q (.bl (Zbe c fr ((a:Int),b))) H'
theorem scIc:Gp ["road", "words", "columns", "a", "b", "row", "column", "crossing"] ["road", "words", "columns"] (Ge sIc):=⟨rfl,rfl,rfl,by decide +kernel,rfl,by decide +kernel,by decide +kernel⟩
theorem Zid {f:Addr}{fd:FuncData}(F:Fun K "is_chosen" "is_chosen" sIc f fd)(G:mg "divmod" = none)(L:mg "len" = none):GJ P w K mg base CX0 1 f fd ["road", "words", "columns"] ZiP:=by
 refine F.ok scIc (λvs H Q E h=>?_) (λad A Y s0 H vs Q E hr h=>?_)
 ·obtain ⟨_,_,_,_,_,_,rfl,_⟩:=h
  rfl
 ·obtain ⟨rd,Z,a,b,c,fr,rfl,aa,ab,⟨c1,c2⟩,N,O,q⟩:=h;have ae:=Yay.symm;refine ⟨_,(@Gc _ _ _ _ _ (@J8 _ _ _ _ _ _ (pv 0) (Wu K (n:=2) rfl (Gn (Gi (i:=3) scIc.nd rfl (Or.inl rfl)) (Gn (Gi (i:=4) scIc.nd rfl (Or.inl rfl)) Jb))) rfl rfl rfl)
    (@Gc _ _ _ _ _ (@J8 _ _ _ _ _ _ (Gu UW rfl G PyProof.Rows.boot_divmod (@Ga _ _ _ _ _ (pv 3) (@Ga _ _ _ _ _ (pv 2) Gd rfl) rfl)) (Wu K (n:=2) rfl (Gn (Gi (i:=5) scIc.nd rfl (Or.inl rfl)) (Gn (Gi (i:=6) scIc.nd rfl (Or.inl rfl)) Jb))) rfl rfl rfl)
    (@Gc _ _ _ _ _ (@Jn _ _ _ _ _ _ _ _ (Go UV (pv 4) (@Gw _ _ _ _ _ _ _ _ GY (pv 3) (pv 2)) (Gv _)) (@Gf _ _ _ (@Gs _ _ _ _ (Jr ZbQ (GE Zfy (@GE _ _ _ _ _ _ _ (U3 K) (pv 1) (@Gw _ _ _ _ _ _ _ _ GY (pv 5) Gg) (λ_ _=>rfl)) (pv 6) (λ_ _=>rfl)) JD (Gv _)))) Gz)
    (@Gc _ _ _ _ _ (@Gm _ _ 7 _ _ _ _ scIc.nd rfl (Or.inl rfl) (@Zen _ _ _ _ _ _ (Oj ZiB (@GE _ _ _ _ _ _ _ (U3 K) (pv 1) (pv 5) (λ_ _=>rfl)) UX (OG (@Gw _ _ _ _ _ _ _ _ GY (pv 6) Gg))) (Oj ZiB (@GE _ _ _ _ _ _ _ (U3 K) (pv 1) (@Gw _ _ _ _ _ _ _ _ GY (pv 5) Gg) (λ_ _=>rfl)) UX (OG (@Gw _ _ _ _ _ _ _ _ GY (pv 6) Gg)))) rfl (by first | exact .inl rfl | exact .inr rfl))
    (@Gf _ _ _ (@Gs _ _ _ _ (Jr UV (@Gw _ _ _ _ _ _ _ _ Ur (@Gw _ _ _ _ _ _ _ _ UU (Gu Zf4 rfl L Yde (@Ga _ _ _ _ _ (pv 7) Gd rfl)) (OU PySem.F.plainAttrs_str PySem.F.slot_str_count PySem.F.type_str_count ZaT (pv 7) (@Ga _ _ _ _ _ JD Gd rfl))) Gg) Gg (Gv _)))))))),?_⟩
  refine ⟨_,rfl,rd,_,rfl,SqT.of aa,rfl,_,_,rfl,_,_,rfl,rfl,?_⟩;dsimp only [GB];refine ⟨_,rfl,_,rfl,(a:Int),(c:Int),rfl,⟨by lia,by lia⟩,λp hp=>?_⟩;have s1:Same H (upd H p (.tup [.int ((a:Int) / (c:Int)),.int ((a:Int) % (c:Int))])):=Same.new hp;refine ⟨p,_,rfl,SqT.of Gb,rfl,_,_,rfl,_,_,rfl,rfl,?_⟩;generalize upd H p (.tup [.int ((a:Int) / (c:Int)),.int ((a:Int) % (c:Int))])=H1 at s1 ⊢;dsimp only [GB];have ed:(a:Int) / (c:Int)=((a / c:Nat):Int):=rfl;have em:(a:Int) % (c:Int)=((a % c:Nat):Int):=rfl;rw [ed,em];have hm:a % c<c:=Nat.mod_lt _ (by lia);have D:=s1 _ _ ab;have q:=q H1 s1;unfold Zbe at q;dsimp only at q;rw [Ybu] at q;generalize a / c=d at *;generalize a % c=m at *;have l0:(fr.getD d []).length=c:=O _ (by rw [Yai,Yah (show d<fr.length by lia)];exact Ycd _);have l1:(fr.getD (d+1) []).length=c:=O _ (by rw [Yai,Yah N];exact Ycd _);have a0:=Zbf (fr:=fr) (show d<fr.length by lia);have a1:=Zbf N;generalize fr.getD d []=U at *;generalize fr.getD (d+1) []=B at *;refine ⟨_,rfl,_,rfl,_,rfl,_,_,rfl,rfl,rfl,_,rfl,?_⟩;rw [JU];have a2:atI (fr.map λx=>V.str (mkS x)) ((d:Int)+1)=some (.str (mkS B)):=a1;have pt:(Str.ofString "." : Str)=mkS [46]:=rfl;refine OA (λhz=>?_) (λhz=>?_)
  ·rw [if_pos (Yba hz)] at q;have ax:atI (mkS B).cps.toList (m:Int)=some (B.getD m 0):=GD (by
    show B[m]?=_;rw [Yai,Yah (show m<B.length by lia)]
    rfl)
   refine ⟨_,rfl,_,rfl,_,_,rfl,rfl,Z,_,_,_,rfl,rfl,SqL.of D,a2,_,rfl,_,_,_,rfl,rfl,by rw [JO];lia,ax,rfl,?_⟩;have e:(!decide (V.str ⟨#[B.getD m 0]⟩=V.str (Str.ofString ".")))=!decide (B.getD m 0=46):=by
    congr 1
    rw [pt];refine decide_eq_decide.mpr ⟨λz=>?_,λz=>by rw [z];rfl⟩;have z:=V.str.inj z;have z:[B.getD m 0]=[46]:=str_mk.mp z;exact List.head_eq_of_cons_eq z
   rw [e];exact q
  ·rw [if_neg (λz=>hz (Yae z))] at q;have ac:(m:Int)+1=((m+1:Nat):Int):=rfl;refine ⟨_,rfl,_,rfl,Z,_,_,_,rfl,rfl,SqL.of D,a0,_,rfl,_,_,rfl,rfl,(m:Int)+1,rfl,_,rfl,by rw [JO];lia,?_⟩;refine ⟨_,rfl,_,rfl,_,_,rfl,rfl,Z,_,_,_,rfl,rfl,SqL.of D,a2,_,rfl,_,_,rfl,rfl,(m:Int)+1,rfl,_,rfl,by rw [JO];lia,?_⟩;rw [ac,Zbc,Zbc];refine ⟨_,_,rfl,rfl,by rw [JO,JO,Ybn,Ybn];lia,?_⟩;rw [ZeG];have lw:(U.take (m+1)++B.take (m+1)).length=2 * (m+1):=by rw [Yan,Ybn,Ybn];lia
   have lc:(U.take (m+1)++B.take (m+1)).count 46<=(U.take (m+1)++B.take (m+1)).length:=List.count_le_length;generalize U.take (m+1)++B.take (m+1)=y at *;dsimp only [GB];have ec:((y.length:Nat):Int)-((y.count 46:Nat):Int)=((y.length-y.count 46:Nat):Int):=by lia
   refine ⟨_,rfl,_,rfl,by rw [JO];lia,_,rfl,rfl,y,46,rfl,rfl,_,_,rfl,rfl,_,_,rfl,rfl,(by show (0:Int)<2;decide),rfl,?_⟩;rw [JO,ec,JU];have e:decide (((y.length-y.count 46:Nat):Int) % 2=1)=decide ((y.length-y.count 46) % 2=1):=decide_eq_decide.mpr (by lia);rw [e];exact q
def VM (r c:Nat)(B:List (List Nat)):List Int:=((List.range (gRoads r c (r * c)).length).filter λj=>Zbe c (dots c::(B++[dots c])) ((gRoads r c (r * c)).getD j (0,0))).map λ(j:Nat)=>(j:Int)
def ZiQ:Sp:=λvs H Q _=>∃(r c:Nat)(wl:Addr)(ks:List Int)(ws:List (List Nat)),vs=[.int (r:Int),.int (c:Int),.ref wl]/\(2<=r/\2<=c/\r * c<=70/\(gRoads r c (r * c)).length<=(r-1) * (2 * c-1)+(c-1))/\G4 ((r * c:Nat):Int) (gRoads r c (r * c))/\H wl=some (.lst (ws.map λx=>V.str (mkS x)))/\ws.length=r-1/\(∀x∈ws,x.length=c)/\(∀x∈ws,PyData.strOk (mkS x)=true)/\Vh ((r * c:Nat):Int) (gRoads r c (r * c)) ks/\Xm r c ks=some ws/\VM r c ws=ks /\
 ∀(l:Addr)(H':Hp),Same H H'->H l=none->H' l=some (.lst (ks.map V.int))->Q (.ref l) H'
theorem scSw:Gp ["rows", "columns", "words", "web", "points", "framed", "roads"] ["rows", "columns", "words"] (Ge sSw):=⟨rfl,rfl,rfl,by decide +kernel,rfl,by decide +kernel,by decide +kernel⟩
def Vu (B:List (List Nat)):List PyData:=B.map λx=>.str (mkS x)
theorem Jy {K:W.Frag}{H:Hp}:∀ws:List (List Nat),DatVs K H (ws.map λx=>V.str (mkS x)) (Vu ws)
 | []=>.nil
 | _::ws=>.cons (.str _) (Jy ws)
theorem UK:∀a b:List (List Nat),PyData.eqv (.list (Vu a)) (.list (Vu b))=decide (a=b):=by
 intro a b;simp only [PyData.eqv]
 induction a generalizing b with
 | nil=>cases b <;> simp [Vu,PyData.eqvAll]
 | cons x a B=>
  cases b with
  | nil=>simp [Vu,PyData.eqvAll]
  | cons y b=>
   have B:=B b;unfold Vu at *;rw [Yat,Yat];simp only [PyData.eqvAll,B];have e:PyData.eqv (.str (mkS x)) (.str (mkS y))=decide (x=y):=by
    simp only [PyData.eqv];rw [Bool.eq_iff_iff];simp [str_mk]
   rw [e];by_cases h1:x=y <;> by_cases h2:a=b <;> simp [h1,h2]
theorem Jf {B:List (List Nat)}(h:∀x∈B,PyData.strOk (mkS x)=true):SeqAt.shaped (.list (Vu B))=true:=by
 have c:PyData.canLayAll0 (Vu B)=true:=by
  induction B with
  | nil=>simp [Vu,PyData.canLayAll0]
  | cons x B ih=>
   have:=ih λy D=>h y (Ybm _ D);unfold Vu at *;rw [Yat];simp only [PyData.canLayAll0,this,Bool.and_true];simp [PyData.canLay0,h x (Yaz ..)]
 have d:PyData.depthAll (Vu B)<=1:=by
  clear c h
  induction B with
  | nil=>simp [Vu,PyData.depthAll]
  | cons x B ih=>
   unfold Vu at *;rw [Yat];simp only [PyData.depthAll];have:PyData.depth (.str (mkS x))<=1:=by simp [PyData.depth]
   lia
 unfold SeqAt.shaped;rw [Ycl];refine ⟨by simp only [PyData.canLay0];exact c,Yae ?_⟩;simp only [PyData.depth]
 lia
theorem Zie {f ad ae af C NW:Addr}{fd N O U:FuncData}(F:Fun K "set_by_words" "set_by_words" sSw f fd)(a0:Fun K "grid" "grid" sGr ad N)(a1:Binds K N ["rows", "columns"] [])(a2:mg "grid" = some (.ref ad))(a3:GJ P w K mg base (CXr P w) 1 ad N ["rows", "columns"] (Zbb C))(a4:Fun K "is_chosen" "is_chosen" sIc ae O)(a5:Binds K O ["road", "words", "columns"] [])(a6:mg "is_chosen" = some (.ref ae))(a7:GJ P w K mg base CX0 1 ae O ["road", "words", "columns"] ZiP)(a8:Fun K "words_of" "words_of" sWf af U)(a9:Binds K U ["rows", "columns", "roads"] [])(aA:mg "words_of" = some (.ref af))(aB:GJ P w K mg base (CXr P w) 6 af U ["rows", "columns", "roads"] Zib)(ag:mg "enumerate" = none)(an:mg "len" = none)(mV:mg "NoWay" = some (.ref NW))(xV:ExcC K NW):GJ P w K mg base (CXr P w) 7 f fd ["rows", "columns", "words"] ZiQ:=by
 refine F.okR scSw (λvs H Q E h=>?_) (λaS A aC s0 H vs Q E hr h=>?_)
 ·obtain ⟨_,_,_,_,_,rfl,_⟩:=h
  rfl
 ·obtain ⟨r,c,wl,ks,G,rfl,⟨r2,c2,rc,qV⟩,g,ah,wn,wc,wo,cl,aD,ao,q⟩:=h;have hu:=hr.units;have aT:=Yay.symm;have aU:r * 2<=r * c:=Nat.mul_le_mul_left r c2;have aV:2 * c<=r * c:=Nat.mul_le_mul_right c r2;refine ⟨_,(@Gc _ _ _ _ _ (@Gm _ _ 3 _ _ _ _ scSw.nd rfl (Or.inl rfl) (@Gj _ _ _ _ _ _ _ _ _ _ _ _ _ _ _ _ a3 (hr.mono (by decide)) rfl a2 a0.kp a1 .nil Zae (@Ga _ _ _ _ _ (pv 0) (@Ga _ _ _ _ _ (pv 1) Gd rfl) rfl) (by decide) rfl rfl) rfl (by first | exact .inl rfl | exact .inr rfl))
    (@Gc _ _ _ _ _ (@Jn _ _ _ _ _ _ _ _ (Go (ZE K hu) (Jd (own:=["word"]) rfl (Jt (by decide +kernel) (by decide +kernel) rfl (by decide +kernel)) (Oy K (pv 2)) (λ_ _ _ _=>Gi (i:=0) (show List.Nodup (["word"]:List Str) by decide +kernel) rfl (Or.inl rfl)) (λ_ _ _ _=>JB) (λ_ _ _ _=>Gu Zf4 rfl an Yde (@Ga _ _ _ _ _ (pv 0) Gd rfl))) (@Gw _ _ _ _ _ _ _ _ Zc9 (@Ji _ _ _ _ (@Ga _ _ _ _ _ (pv 1) Gd rfl)) (@Gw _ _ _ _ _ _ _ _ UU (pv 0) Gg)) (Gv _)) (@Gf _ _ _ (OV (E:=E) rfl JF rfl mV xV (@Ga _ _ _ _ _ JD Gd rfl))) Gz)
    (@Gc _ _ _ _ _ (@Gm _ _ 4 _ _ _ _ scSw.nd rfl (Or.inl rfl) (@Gw _ _ _ _ _ _ _ _ Zep JD (pv 1)) rfl (by first | exact .inl rfl | exact .inr rfl))
    (@Gc _ _ _ _ _ (@Gm _ _ 5 _ _ _ _ scSw.nd rfl (Or.inr rfl) (@Gw _ _ _ _ _ _ _ _ Vz (@Gw _ _ _ _ _ _ _ _ Vz (@Ji _ _ _ _ (@Ga _ _ _ _ _ (pv 4) Gd rfl)) (pv 2)) (@Ji _ _ _ _ (@Ga _ _ _ _ _ (pv 4) Gd rfl))) rfl (by first | exact .inl rfl | exact .inr rfl))
    (@Gc _ _ _ _ _ (U2 (i:=6) scSw.nd rfl (Or.inl rfl) (own:=["number", "road"]) rfl (Gk (fr:=[("columns", 1),("framed", 5)]) [(".0", .local),("number", .local),("road", .local),("is_chosen", .globalImplicit),("columns", .cell),("framed", .cell)] rfl rfl (by decide +kernel) rfl (by decide +kernel) ⟨rfl,rfl,trivial⟩ ⟨λh=>GG h,λh=>GG h,λh=>GG h,λh=>GG h,λ_=>⟨_,rfl⟩,λ_=>⟨_,rfl⟩,trivial⟩ ⟨⟨rfl,.inl rfl,.inl rfl⟩,⟨rfl,.inl rfl,.inl rfl⟩,trivial⟩) (XE K rfl ag (@Ga _ _ _ _ _ (@GE _ _ _ _ _ _ _ (Ut K) (pv 3) Gg (λ_ _=>rfl)) Gd rfl)) (λ_ _ _ _=>Wu K (n:=2) rfl (Gn (Gi (i:=0) (show List.Nodup (["number", "road", "columns", "framed"]:List Str) by decide +kernel) rfl (Or.inl rfl)) (Gn (Gi (i:=1) (show List.Nodup (["number", "road", "columns", "framed"]:List Str) by decide +kernel) rfl (Or.inl rfl)) Jb))) (λ_ _ _ _=>Jm (JL (@Gj _ _ _ _ _ _ _ _ _ _ _ _ _ _ _ _ a7 (hr.mono (by decide)) rfl a6 a4.kp a5 .nil GP (@Ga _ _ _ _ _ (pv 1) (@Ga _ _ _ _ _ (pv 3) (@Ga _ _ _ _ _ (pv 2) Gd rfl) rfl) rfl) (by decide) rfl rfl))) (λ_ _ _ _=>pv 0))
    (@Gc _ _ _ _ _ (@Jn _ _ _ _ _ _ _ _ (Go (ZE K hu) (@Gj _ _ _ _ _ _ _ _ _ _ _ _ _ _ _ _ aB (hr.mono (by decide)) rfl aA a8.kp a9 .nil Zae (@Ga _ _ _ _ _ (pv 0) (@Ga _ _ _ _ _ (pv 1) (@Ga _ _ _ _ _ (pv 6) Gd rfl) rfl) rfl) (by decide) rfl rfl) (pv 2) (Gv _)) (@Gf _ _ _ (OV (E:=E) rfl JF rfl mV xV (@Ga _ _ _ _ _ JD Gd rfl))) Gz)
    (@Gf _ _ _ (@Gs _ _ _ _ (pv 6))))))))),?_⟩
  refine ⟨_,rfl,_,rfl,_,_,rfl,.inl ⟨r,c,rfl,rfl,by lia,by lia,by lia,by lia,λwb l xs H1 s1 aW hl aX aE el P1=>?_⟩⟩;have W1:WebAt H1 wb l ((r * c:Nat):Int) xs (gRoads r c (r * c)):=⟨by rw [aE];push_cast;rfl,el,P1⟩;dsimp only [GB];have ap:=s1 _ _ ah;refine ⟨_,rfl,wl,rfl,⟨_,SqL.of ap⟩,λD hD=>?_⟩;refine GF (K:=K) (a:=wl) (xs:=G.map λx=>V.str (mkS x)) (λi ys H2=>Same H1 H2/\H2 D=some (.lst ys)/\ys=(List.replicate i (c:Int)).map V.int) ⟨Same.new hD,Gb,rfl⟩ (λi ys H2 _ ⟨s2,_⟩=>SqL.of (s2 _ _ ap)) ?_ ?_
  ·rintro i x ys H2 hx ⟨s2,aa,rfl⟩;rw [Yau] at hx;obtain ⟨z,hz,rfl⟩:=Ybg.mp hx;have zl:=wc z (Ybs hz);have hi:i<G.length:=(Ybf.mp hz).1;refine ⟨trivial,?_⟩;unfold ZbJ;refine JQ ?_;refine ⟨_,rfl,_,rfl,by rw [JO];lia,aa,by rw [Yaa,Ydy];lia,s2.put hD,Gb,?_⟩;rw [JO,zl,List.replicate_succ',Yal]
   rfl
  ·rintro ys H2 ⟨s2,aa,rfl⟩;rw [Yaa] at aa;have eR:((r:Int)-1).toNat=r-1:=by lia
   refine ⟨_,rfl,(by show 1<=sizeLine;decide),λl1 aF=>?_⟩;have s3:Same H2 (upd H2 l1 (.lst [.int (c:Int)])):=Same.new aF;have aG:upd H2 l1 (.lst [.int (c:Int)]) l1=some (.lst [.int (c:Int)]):=Gb;have aH:=s3 _ _ aa;refine ⟨_,rfl,_,_,rfl,rfl,l1,_,_,rfl,rfl,aG,by lia,by lia,by rw [eR];show 1 * (r-1)<=sizeLine;lia,λp hp=>?_⟩;have s4:Same (upd H2 l1 (.lst [.int (c:Int)])) (upd (upd H2 l1 (.lst [.int (c:Int)])) p (.lst (List.replicate ((r:Int)-1).toNat [V.int (c:Int)]).flatten)):=Same.new hp;have ep:upd (upd H2 l1 (.lst [.int (c:Int)])) p (.lst (List.replicate ((r:Int)-1).toNat [V.int (c:Int)]).flatten) p=some (.lst ((List.replicate (r-1) (c:Int)).map V.int)):=by
    rw [Gb,eR]
    congr 2
    generalize r-1=n
    induction n with
    | zero=>rfl
    | succ n ih=>rw [Yda,List.flatten_cons,ih];rfl
   have ai:=s4 _ _ aH;generalize upd (upd H2 l1 (.lst [.int (c:Int)])) p (.lst (List.replicate ((r:Int)-1).toNat [V.int (c:Int)]).flatten)=H4 at s4 ep ai ⊢;have S4:Same H1 H4:=s2.trans (s3.trans s4);rw [wn] at ai;refine ⟨.list _,.list _,.lst (SqL.of ai) (Je _),.lst (SqL.of ep) (Je _),GW _,GW _,_,rfl,?_⟩;rw [OW,Yae rfl];refine JI ?_;refine ⟨_,rfl,46,c,rfl,rfl,by lia,by lia,?_⟩;dsimp only [GB];have aj:=s1.trans S4;have aI:=aj _ _ ah;refine ⟨_,rfl,(by show 1<=sizeLine;decide),λp5 aJ=>?_⟩;have s5:Same H4 (upd H4 p5 (.lst [.str (mkS (List.replicate c 46))])):=Same.new aJ;have aq:upd H4 p5 (.lst [.str (mkS (List.replicate c 46))]) p5=some (.lst [.str (mkS (List.replicate c 46))]):=Gb;generalize upd H4 p5 (.lst [.str (mkS (List.replicate c 46))])=H5 at s5 aq ⊢;refine ⟨_,rfl,p5,wl,_,_,rfl,rfl,aq,s5 _ _ aI,by rw [Ybl,Yaa];lia,λp6 aK=>?_⟩;have s6:Same H5 (upd H5 p6 (.lst ([.str (mkS (List.replicate c 46))]++G.map λx=>V.str (mkS x)))):=Same.new aK;have ar:upd H5 p6 (.lst ([.str (mkS (List.replicate c 46))]++G.map λx=>V.str (mkS x))) p6=some (.lst ([.str (mkS (List.replicate c 46))]++G.map λx=>V.str (mkS x))):=Gb;generalize upd H5 p6 (.lst ([.str (mkS (List.replicate c 46))]++G.map λx=>V.str (mkS x)))=H6 at s6 ar ⊢;refine ⟨_,rfl,(by show 1<=sizeLine;decide),λp7 aL=>?_⟩;have s7:Same H6 (upd H6 p7 (.lst [.str (mkS (List.replicate c 46))])):=Same.new aL;have as:upd H6 p7 (.lst [.str (mkS (List.replicate c 46))]) p7=some (.lst [.str (mkS (List.replicate c 46))]):=Gb;have ab:=s7 _ _ ar;generalize upd H6 p7 (.lst [.str (mkS (List.replicate c 46))])=H7 at s7 as ab ⊢;refine ⟨p6,p7,_,_,rfl,rfl,ab,as,by rw [Yan,Yaa];show 1+G.length+1<=sizeLine;lia,λp8 aM=>?_⟩;have aN:([.str (mkS (List.replicate c 46))]++G.map λx=>V.str (mkS x))++[.str (mkS (List.replicate c 46))]=(dots c::(G++[dots c])).map λx=>V.str (mkS x):=by rw [Yat,Yal];rfl
   rw [aN];have s8:Same H7 (upd H7 p8 (.lst ((dots c::(G++[dots c])).map λx=>V.str (mkS x)))):=Same.new aM;have au:upd H7 p8 (.lst ((dots c::(G++[dots c])).map λx=>V.str (mkS x))) p8=some (.lst ((dots c::(G++[dots c])).map λx=>V.str (mkS x))):=Gb;generalize upd H7 p8 (.lst ((dots c::(G++[dots c])).map λx=>V.str (mkS x)))=H8 at s8 au ⊢;have ak:=s5.trans (s6.trans (s7.trans s8));have W8:=W1.same (S4.trans ak);dsimp only [GB];refine ⟨_,rfl,wb,_,_,_,rfl,rfl,SqT.of W8.w,GD (j:=1) rfl,l,xs,rfl,SqL.of W8.l,λD9 al=>?_⟩;have fl:∀x∈dots c::(G++[dots c]),x.length=c:=λx hx=>by
    have d:(dots c).length=c:=Ydy;rcases Yar.mp hx with rfl | hx
    ·exact d
    ·rcases Yav.mp hx with hx | hx
     ·exact wc x hx
     ·rw [Yas.mp hx];exact d
   have fn:(dots c::(G++[dots c])).length=r+1:=by rw [Ybi,Yan,Ybl];lia
   have gr:=Os (r:=r) (c:=c) (by lia);have aO:=W1.p.len;have aY:=O8 r c (r * c);unfold VM at ao;generalize hrs:gRoads r c (r * c)=rs at *;refine U4 (K:=K) (a:=l) (xs:=xs) (λi ys H9=>Same H8 H9/\H9 D9=some (.lst ys)/\ys=(((List.range i).filter λj=>Zbe c (dots c::(G++[dots c])) (rs.getD j (0,0))).map λ(j:Nat)=>(j:Int)).map V.int) ⟨Same.new al,Gb,rfl⟩ (λi ys H9 _ ⟨s9,_⟩=>SqL.of ((W8.same s9).l)) ?_ ?_
   ·rintro i x ys H9 T av ⟨s9,Y,rfl⟩ hT;obtain ⟨t0,q0,rfl,et,er⟩:=(W8.same s9).p.get av;have aP:rs.getD i (0,0)=q0:=by rw [Yai,er];rfl
    have hi:i<xs.length:=(Ybf.mp av).1;have gq:=gr q0 (Ybs er);have L:Same H9 (upd H9 T (.tup [.int (i:Nat),.ref t0])):=Same.new hT;have Z:=L _ _ Y;refine ⟨T,_,rfl,SqT.of Gb,rfl,_,_,rfl,_,_,rfl,rfl,?_⟩;generalize upd H9 T (.tup [.int (i:Nat),.ref t0])=aw at L Z ⊢;have ax:=(s9.trans L) _ _ au;have ac:=L _ _ et;obtain ⟨a,ha⟩:∃a:Nat,q0.1=(a:Int):=⟨q0.1.toNat,by lia⟩;rw [ha] at ac;have aQ:a / c+1<r+1:=by
     have:a / c<r:=by rw [Nat.div_lt_iff_lt_mul (by lia)];lia
     lia
    refine ⟨⟨rfl,rfl,trivial⟩,?_⟩;refine ⟨_,rfl,_,rfl,_,rfl,t0,p8,a,q0.2,c,_,rfl,ac,ax,⟨by lia,by lia⟩,by rw [fn];exact aQ,fl,λaZ am=>?_⟩;have tk:(((List.range (i+1)).filter λj=>Zbe c (dots c::(G++[dots c])) (rs.getD j (0,0))).map λ(j:Nat)=>(j:Int)).map V.int=(((List.range i).filter λj=>Zbe c (dots c::(G++[dots c])) (rs.getD j (0,0))).map λ(j:Nat)=>(j:Int)).map V.int++(if Zbe c (dots c::(G++[dots c])) q0=true then [V.int (i:Int)] else []):=by
     rw [List.range_succ,Ydv,Yal,Yal]
     congr 1
     show List.map V.int (List.map _ (List.filter _ [i]))=_;rw [List.filter_cons,aP];split <;> rfl
    have aR:((a:Int),q0.2)=q0:=by rw [<-ha]
    rw [aR];have yl:((List.range i).filter λj=>Zbe c (dots c::(G++[dots c])) (rs.getD j (0,0))).length<=i:=by
     refine Ycc (Ych _ _) ?_;rw [Ycb];exact Yac _
    have ay:=s9.trans (L.trans am);refine ⟨_,rfl,?_⟩;refine OA (λz=>?_) (λz=>?_)
    ·rw [if_pos z] at tk;exact ⟨_,rfl,am _ _ Z,by rw [Yaa,Yaa];lia,ay.put al,Gb,tk.symm⟩
    ·rw [if_neg z,Ybr] at tk;exact ⟨ay,am _ _ Z,tk.symm⟩
   ·rintro ys H9 ⟨s9,Y,rfl⟩;rw [aO,ao] at Y;dsimp only [GB];have az:=aj.trans (ak.trans s9);refine ⟨_,rfl,_,rfl,_,rfl,r,c,D9,ks,G,rfl,⟨r2,c2,rc,by rw [hrs];exact qV⟩,by rw [hrs];exact g,Y,by rw [hrs];exact cl,aD,λl2 aw L h2 e2=>?_⟩;refine ⟨_,rfl,.list (Vu G),.list (Vu G),.lst (SqL.of e2) (Jy _),.lst (SqL.of ((az.trans L) _ _ ah)) (Jy _),Jf wo,Jf wo,_,rfl,?_⟩;rw [UK,Yae rfl];refine JI ?_;exact ⟨_,rfl,q D9 aw (az.trans L) ((aj.trans ak).free al) (L _ _ Y)⟩
abbrev NM:=List (List Int×List (List Int))
def rcS (B D:Nat)(r c:Nat)(ks:KI):KI:=
 let a:=if c+1<D then Xl ks [(r:Int),(c:Int),0] (ks.length:Int) else ks
 if r+1<B then Xl a [(r:Int),(c:Int),1] (a.length:Int) else a
def rcR (B D:Nat)(r:Nat)(n:Nat)(ks:KI):KI:=(List.range n).foldl (λks c=>rcS B D r c ks) ks
def Gy (D B:Nat)(n:Nat):KI:=(List.range n).foldl (λks r=>rcR D B r B ks) []
def Ot (nm:NM)(k:List Int):Option (List (List Int)):=(nm.find? λp=>decide (p.1=k)).map (·.2)
def UL (nm:NM)(k x:List Int):NM:=if (nm.any λp=>decide (p.1=k))=true then nm.map (λp=>if p.1=k then (p.1,p.2++[x]) else p) else nm++[(k,[x])]
def J3 (k:List Int):List Int:=[gA k 0+gA k 2,gA k 1+1-gA k 2]
def Ob (k:List Int):List Int:=[gA k 0,gA k 1]
def Vv (B:List Int)(nm:NM)(p:List Int×Int):NM:=if p.2∈B then UL (UL nm (Ob p.1) (J3 p.1)) (J3 p.1) (Ob p.1) else nm
def Jc (ks:KI)(roads:List Int):NM:=ks.foldl (Vv roads) []
def Zdz (nm:NM)(B:Option (List Int))(D:List Int):List (List Int):=((Ot nm D).getD []).filter λo=>!decide (some o=B)
def YO (nm:NM)(i:Int):Nat->Option (List Int)->List Int->Option (List Int)
 | 0,_,_=>none
 | f+1,before,here=>if before=none\/gA here 0<i then (if (Ot nm here).isSome then ((Zdz nm before here).head?).bind λx=>YO nm i f (some here) x else none) else some here
def ZcO (nm:NM)(i:Int)(c:Nat):Option Nat:=if (Ot nm [i,(c:Int)]).isSome then (YO nm i 100 none [i,(c:Int)]).bind λe=>some (if gA e 1<(c:Int) then 41 else 40) else some 46
def JP (nm:NM)(i:Int):Nat->Option (List Nat)
 | 0=>some []
 | c+1=>(JP nm i c).bind λl=>(ZcO nm i c).map λs=>l++[s]
theorem Wg (ks:KI)(m:List Int)(n:Int):(Xl ks m n).length<=ks.length+1:=by
 unfold Xl;split
 ·rw [Yaa];lia
 ·rw [Yan];exact Yac _
theorem ZeH (B D r c:Nat)(ks:KI):(rcS B D r c ks).length<=ks.length+2:=by
 unfold rcS;dsimp only;have h1:=Wg ks [(r:Int),(c:Int),0] (ks.length:Int);have h2:=Wg (Xl ks [(r:Int),(c:Int),0] (ks.length:Int)) [(r:Int),(c:Int),1] ((Xl ks [(r:Int),(c:Int),0] (ks.length:Int)).length:Int);have F:=Wg ks [(r:Int),(c:Int),1] (ks.length:Int);split <;> split <;> lia
theorem Wh (B D r n:Nat)(ks:KI):rcR B D r (n+1) ks=rcS B D r n (rcR B D r n ks):=by
 unfold rcR;rw [List.range_succ,List.foldl_append]
 rfl
theorem Vi (D B n:Nat):Gy D B (n+1)=rcR D B n B (Gy D B n):=by
 unfold Gy;rw [List.range_succ,List.foldl_append]
 rfl
theorem X3 (B D r:Nat)(ks:KI):∀n,(rcR B D r n ks).length<=ks.length+2 * n
 | 0=>Yac _
 | n+1=>by
  rw [Wh];have:=ZeH B D r n (rcR B D r n ks);have:=X3 B D r ks n
  lia
theorem Wi (D B:Nat):∀n,(Gy D B n).length<=2 * B * n
 | 0=>Yac _
 | n+1=>by
  rw [Vi];have h1:=X3 D B n (Gy D B n) B;have h2:=Wi D B n;rw [Nat.mul_succ]
  lia
theorem Zbg:3<=sizeLine:=by have h16:=Yay.symm;lia
def ZgF:Sp:=λvs H Q _=>∃(B D:Nat),vs=[.int (B:Int),.int (D:Int)]/\B<=12/\D<=12 /\
 ∀(d:Addr)(o:Obj)(H':Hp),Same H H'->H d=none->H' d=some (.frz o (.dT ((Gy B D B).map kvI)))->Q (.ref d) H'
theorem scNum:Gp ["rows", "columns", "found", "row", "column"] ["rows", "columns"] (Ge Zgd):=⟨rfl,rfl,rfl,by decide +kernel,rfl,by decide +kernel,by decide +kernel⟩
theorem ZgG {f:Addr}{fd:FuncData}(F:Fun K "_law_numbers" "_law_numbers" Zgd f fd)(D:mg "range" = none)(G:mg "len" = none):GJ P w K mg base CX0 1 f fd ["rows", "columns"] ZgF:=by
 refine F.ok scNum (λvs H Q E h=>?_) (λac A ad s0 H vs Q E hr h=>?_)
 ·obtain ⟨_,_,rfl,_⟩:=h
  rfl
 ·obtain ⟨rows,B,rfl,ag,ae,q⟩:=h;have Z:(A.deeper (PyProof.Rows.envOfC "_law_numbers" (Ge Zgd) s0.heap.objs.size f ac)).units+1<cLine:=by have:=hr.un;lia
  have ah:=Yay.symm;refine ⟨_,(@Gc _ _ _ _ _ (@Gm _ _ 2 _ _ _ _ scNum.nd rfl (Or.inl rfl) V1 rfl (by first | exact .inl rfl | exact .inr rfl))
    (@Gc _ _ _ _ _ (@JY _ _ _ _ _ _ _ _ Ycm rfl (JX rfl D (@Ga _ _ _ _ _ (pv 0) Gd rfl)) (Gi (i:=3) scNum.nd rfl (Or.inl rfl))
    (@Gf _ _ _ (@JY _ _ _ _ _ _ _ _ Ycm rfl (JX rfl D (@Ga _ _ _ _ _ (pv 1) Gd rfl)) (Gi (i:=4) scNum.nd rfl (Or.inl rfl))
    (@Gc _ _ _ _ _ (@Jn _ _ _ _ _ _ _ _ (Go Ud (@Gw _ _ _ _ _ _ _ _ GY (pv 4) Gg) (pv 1) (Gv _)) (@Gf _ _ _ (Uh Z (pv 2) (@G0 _ _ _ _ _ (@Ga _ _ _ _ _ (pv 3) (@Ga _ _ _ _ _ (pv 4) (@Ga _ _ _ _ _ Gg Gd rfl) rfl) rfl)) (Gu Zf6 rfl G Yde (@Ga _ _ _ _ _ (pv 2) Gd rfl)) rfl)) Gz)
    (@Gf _ _ _ (@Jn _ _ _ _ _ _ _ _ (Go Ud (@Gw _ _ _ _ _ _ _ _ GY (pv 3) Gg) (pv 0) (Gv _)) (@Gf _ _ _ (Uh Z (pv 2) (@G0 _ _ _ _ _ (@Ga _ _ _ _ _ (pv 3) (@Ga _ _ _ _ _ (pv 4) (@Ga _ _ _ _ _ Gg Gd rfl) rfl) rfl)) (Gu Zf6 rfl G Yde (@Ga _ _ _ _ _ (pv 2) Gd rfl)) rfl)) Gz))) (by intro _;rfl))) (by intro _;rfl))
    (@Gf _ _ _ (@Gs _ _ _ _ (ZaV (pv 2)))))),?_⟩
  refine λd hd=>?_;have s1:Same H (upd H d (.dT [])):=Same.new hd;have e1:upd H d (.dT []) d=some (.dT (([]:KI).map kvI)):=Gb;generalize upd H d (.dT [])=H1 at s1 e1 ⊢;dsimp only [GB];refine ⟨_,rfl,_,rfl,by lia,by lia,?_⟩;refine JZ (lo:=0) (λi σ H2=>∃v3 N:Option V,σ=[some (.int (rows:Int)),some (.int (B:Int)),some (.ref d),v3,N]/\Same H H2/\H2 d=some (.dT ((Gy rows B i).map kvI))) ⟨_,_,rfl,s1,e1⟩ ?_ ?_
  ·rintro r σ H2 aa ⟨v3,N,rfl,s2,e2⟩;rw [Int.zero_add];have ai:r<rows:=by rw [Ybu] at aa;exact aa
   dsimp only [GB];refine ⟨_,rfl,_,rfl,by lia,by lia,?_⟩;refine JZ (lo:=0) (λi σ H2=>∃N:Option V,σ=[some (.int (rows:Int)),some (.int (B:Int)),some (.ref d),some (.int (r:Int)),N]/\Same H H2/\H2 d=some (.dT ((rcR rows B r i (Gy rows B r)).map kvI))) ⟨_,rfl,s2,e2⟩ ?_ ?_
   ·rintro c σ H3 ab ⟨N,rfl,s3,L⟩;rw [Int.zero_add];have aj:c<B:=by rw [Ybu] at ab;exact ab
    have hn:=Wi rows B r;have hm:2 * B * r<=2 * 12 * 12:=Nat.mul_le_mul (Nat.mul_le_mul_left 2 ae) (by lia);have hl:=X3 rows B r (Gy rows B r) c;generalize hks:rcR rows B r c (Gy rows B r)=ks at L hl;have tk:∀(O:Hp)(T:Addr)(x:Int),O T=none->upd O T (.tup [.int (r:Int),.int (c:Int),.int x]) T=some (.tup ((([(r:Int),(c:Int),x]:List Int).map (Sum.inl:Int->Key)).map kV)):=λO T x _=>Gb;have le:∀(ks:KI),(ks.map kvI).length=ks.length:=λks=>Yaa _;have h1:=Wg ks [(r:Int),(c:Int),0] (ks.length:Int);refine J6 (λσ2 O=>σ2=[some (.int (rows:Int)),some (.int (B:Int)),some (.ref d),some (.int (r:Int)),some (.int (c:Int))]/\Same H O/\O d=some (.dT ((if c+1<B then Xl ks [(r:Int),(c:Int),0] (ks.length:Int) else ks).map kvI))) ?_ (λJ=>?_)
    ·rintro σ2 O ⟨rfl,s4,e4⟩;have af:(if c+1<B then Xl ks [(r:Int),(c:Int),0] (ks.length:Int) else ks).length<=ks.length+1:=by split <;> lia
     refine ⟨_,rfl,_,_,rfl,rfl,_,rfl,_,_,rfl,rfl,_,rfl,?_⟩;have un:rcR rows B r (c+1) (Gy rows B r)=if r+1<rows then Xl (if c+1<B then Xl ks [(r:Int),(c:Int),0] (ks.length:Int) else ks) [(r:Int),(c:Int),1] ((if c+1<B then Xl ks [(r:Int),(c:Int),0] (ks.length:Int) else ks).length:Int) else (if c+1<B then Xl ks [(r:Int),(c:Int),0] (ks.length:Int) else ks):=by rw [Wh,hks];rfl
     generalize (if c+1<B then Xl ks [(r:Int),(c:Int),0] (ks.length:Int) else ks)=k4 at e4 af un;refine OA (λz=>?_) (λz=>?_)
     ·have U:r+1<rows:=by have:=Yba z;lia
      refine ⟨_,rfl,d,_,rfl,.inl e4,by rw [le];lia,?_⟩;refine ⟨_,rfl,_,rfl,_,rfl,Zbg,λT Y=>?_⟩;have nd:d≠T:=Gh e4 Y;refine ⟨d,_,rfl,DPut.t (Gq e4 nd) (tk _ _ 1 Y) (by rw [le];lia),?_⟩;refine ⟨_,rfl,(s4.put (s4.free Y)).put hd,?_⟩;rw [Gb,un,if_pos U,le,Za9]
     ·have U:¬ (r+1<rows):=λy=>z (Yae (by lia));exact ⟨_,rfl,s4,by rw [un,if_neg U];exact e4⟩
    ·refine ⟨_,rfl,_,_,rfl,rfl,_,rfl,_,_,rfl,rfl,_,rfl,?_⟩;refine OA (λz=>?_) (λz=>?_)
     ·have U:c+1<B:=by have:=Yba z;lia
      refine ⟨_,rfl,d,_,rfl,.inl L,by rw [le];lia,?_⟩;refine ⟨_,rfl,_,rfl,_,rfl,Zbg,λT Y=>?_⟩;have nd:d≠T:=Gh L Y;refine ⟨d,_,rfl,DPut.t (Gq L nd) (tk _ _ 0 Y) (by rw [le];lia),?_⟩;refine J _ _ ⟨rfl,(s3.put (s3.free Y)).put hd,?_⟩;rw [Gb,if_pos U,le,Za9]
     ·have U:¬ (c+1<B):=λy=>z (Yae (by lia));exact J _ _ ⟨rfl,s3,by rw [if_neg U];exact L⟩
   ·rintro σ H3 ⟨N,rfl,s3,L⟩;exact ⟨_,_,rfl,s3,by rw [Vi];rw [Ybu] at L;exact L⟩
  ·rintro σ H2 ⟨v3,N,rfl,s2,e2⟩;rw [Ybu] at e2;refine ⟨_,rfl,d,_,rfl,e2,λo=>q d o _ (s2.put hd) hd Gb⟩
abbrev ZN:=List (List Int×Addr×List (Addr×List Int))
def nmZ (zs:ZN):NM:=zs.map λz=>(z.1,z.2.2.map (·.2))
def kvZ (z:List Int×Addr×List (Addr×List Int)):List Key×V:=(z.1.map Sum.inl,.ref z.2.1)
structure NrOk (H:Hp)(zs:ZN):Prop where
 at_:∀z∈zs,H z.2.1=some (.lst (z.2.2.map λe=>V.ref e.1))
 el:∀z∈zs,∀e∈z.2.2,H e.1=some (.tup (e.2.map V.int))
 nd:(zs.map (·.2.1)).Nodup
 kn:(zs.map (·.1)).Nodup
theorem NrOk.keep {H H':Hp}{zs:ZN}(h:NrOk H zs)(k1:∀a ys,H a=some (.lst ys)->a∈zs.map (·.2.1)->H' a=some (.lst ys))(k2:∀a D,H a=some (.tup D)->H' a=some (.tup D)):NrOk H' zs:=
 ⟨λz B=>k1 _ _ (h.at_ z B) (Yam.mpr ⟨z,B,rfl⟩),λz B e F=>k2 _ _ (h.el z B e F),h.nd,h.kn⟩
theorem NrOk.same {H H':Hp}{zs:ZN}(h:NrOk H zs)(s:Same H H'):NrOk H' zs:=h.keep (λa ys e _=>s _ _ e) λa B e=>s _ _ e
theorem ZdA (zs:ZN)(k:List Int):((nmZ zs).any λp=>decide (p.1=k))=zs.any λz=>decide (z.1=k):=by
 unfold nmZ;rw [List.any_map]
 rfl
theorem OQ (zs:ZN)(k:List Int):JJ (zs.map kvZ) (k.map Sum.inl)=(zs.find? λz=>decide (z.1=k)).map λz=>V.ref z.2.1:=by
 induction zs with
 | nil=>rfl
 | cons p zs ih=>
  unfold JJ at *;rw [Yat,Ybv,Ybv];by_cases h:p.1=k
  ·rw [show decide ((kvZ p).1=k.map Sum.inl)=true from Yae (by show p.1.map Sum.inl=_;rw [h]),Yae h]
   rfl
  ·rw [show decide ((kvZ p).1=k.map Sum.inl)=false from Yak (λz=>h (inl_inj.mp z)),Yak h];exact ih
theorem VN (zs:ZN)(k:List Int):Ot (nmZ zs) k=(zs.find? λz=>decide (z.1=k)).map λz=>z.2.2.map (·.2):=by
 induction zs with
 | nil=>rfl
 | cons p zs ih=>
  unfold Ot nmZ at *;rw [Yat,Ybv,Ybv];by_cases h:p.1=k
  ·rw [show decide (((p.1,p.2.2.map (·.2)):List Int×List (List Int)).1=k)=true from Yae h]
   rfl
  ·rw [show decide (((p.1,p.2.2.map (·.2)):List Int×List (List Int)).1=k)=false from Yak h];exact ih
theorem ZeI {zs:ZN}{k:List Int}(h:JJ (zs.map kvZ) (k.map Sum.inl)=none)(L:Addr)(es:List (Addr×List Int)):Uu (zs.map kvZ) (k.map Sum.inl) (.ref L)=(zs++[(k,L,es)]).map kvZ:=by
 unfold Uu;rw [if_neg,Yal]
 ·rfl
 ·intro c;obtain ⟨p,B,e⟩:=List.any_eq_true.mp c;unfold JJ at h;rw [Option.map_eq_none_iff,List.find?_eq_none] at h;exact absurd e (by simpa using h p B)
theorem ZcP {zs:ZN}{k:List Int}(h:JJ (zs.map kvZ) (k.map Sum.inl)=none):∀z∈zs,z.1≠k:=by
 rw [OQ,Option.map_eq_none_iff,List.find?_eq_none] at h;intro z B e;exact absurd (Yae e) (by simpa using h z B)
theorem ZgH {H:Hp}{zs:ZN}{k x:List Int}{T:Addr}{v:V}(ok:NrOk H zs)(hT:H T=some (.tup (x.map V.int)))(hv:JJ (zs.map kvZ) (k.map Sum.inl)=some v) :
  ∃z∈zs,z.1=k/\v=.ref z.2.1/\∃G:ZN,G.map kvZ=zs.map kvZ/\G.map (·.2.1)=zs.map (·.2.1)/\nmZ G=UL (nmZ zs) k x/\NrOk (upd H z.2.1 (.lst (z.2.2.map (λe=>V.ref e.1)++[.ref T]))) G:=by
 rw [OQ] at hv;obtain ⟨z,hz,rfl⟩:=Ybg.mp hv;have Y:z.1=k:=Yba (by simpa using List.find?_some hz);have F:=List.mem_of_find?_eq_some hz
 let g:List Int×Addr×List (Addr×List Int)->List Int×Addr×List (Addr×List Int):=λy=>if y.1=k then (y.1,y.2.1,y.2.2++[(T,x)]) else y
 have g1:∀y,(g y).1=y.1:=λy=>by show (if y.1=k then _ else _:List Int×Addr×List (Addr×List Int)).1=_;split <;> rfl
 have g2:∀y,(g y).2.1=y.2.1:=λy=>by show (if y.1=k then _ else _:List Int×Addr×List (Addr×List Int)).2.1=_;split <;> rfl
 have uq:∀y∈zs,y.1=k->y=z:=λy N e=>by
  obtain ⟨i,hi,O⟩:=Yby N;obtain ⟨j,Z,U⟩:=Yby F;have:=(List.getElem_inj (i:=i) (j:=j) (h₀:=by rw [Yaa];exact hi) (h₁:=by rw [Yaa];exact Z) ok.kn).mp (by rw [List.getElem_map,List.getElem_map,O,U,e,Y]);subst this;rw [<-O,<-U]
 have ua:∀y∈zs,y.2.1=z.2.1->y=z:=λy N e=>by
  obtain ⟨i,hi,O⟩:=Yby N;obtain ⟨j,Z,U⟩:=Yby F;have:=(List.getElem_inj (i:=i) (j:=j) (h₀:=by rw [Yaa];exact hi) (h₁:=by rw [Yaa];exact Z) ok.nd).mp (by rw [List.getElem_map,List.getElem_map,O,U,e]);subst this;rw [<-O,<-U]
 have m2:(zs.map g).map (·.2.1)=zs.map (·.2.1):=by rw [Yca];exact List.map_congr_left λy _=>g2 y
 have aa:=ok.at_ z F;have tk:∀(a:Addr)(ts:List V),H a=some (.tup ts)->upd H z.2.1 (.lst (z.2.2.map (λe=>V.ref e.1)++[.ref T])) a=some (.tup ts):=λa ts e=>Gq e (J4 e aa (λq=>by cases q));refine ⟨z,F,Y,rfl,zs.map g,?_,m2,?_,⟨λy N=>?_,λy N e L=>?_,by rw [m2];exact ok.nd,?_⟩⟩
 ·rw [Yca];refine List.map_congr_left λy _=>?_;show ((g y).1.map Sum.inl,V.ref (g y).2.1)=kvZ y;rw [g1,g2]
  rfl
 ·unfold UL;rw [ZdA,if_pos (List.any_eq_true.mpr ⟨z,F,Yae Y⟩)];unfold nmZ;rw [Yca,Yca];refine List.map_congr_left λy _=>?_;show ((g y).1,(g y).2.2.map (·.2))=if y.1=k then (y.1,y.2.2.map (·.2)++[x]) else (y.1,y.2.2.map (·.2))
  by_cases c:y.1=k
  ·rw [show g y=(y.1,y.2.1,y.2.2++[(T,x)]) from if_pos c,if_pos c,Yal]
   rfl
  ·rw [show g y=y from if_neg c,if_neg c]
 ·obtain ⟨B,D,rfl⟩:=Yam.mp N;by_cases c:B.1=k
  ·obtain rfl:=uq B D c;rw [show g B=(B.1,B.2.1,B.2.2++[(T,x)]) from if_pos c,Gb,Yal]
   rfl
  ·rw [show g B=B from if_neg c];exact Gq (ok.at_ B D) λe=>c (by rw [ua B D e];exact Y)
 ·obtain ⟨B,D,rfl⟩:=Yam.mp N;by_cases c:B.1=k
  ·rw [show g B=(B.1,B.2.1,B.2.2++[(T,x)]) from if_pos c] at L;rcases Yav.mp L with L | L
   ·exact tk _ _ (ok.el B D e L)
   ·rw [Yas.mp L];exact tk _ _ hT
  ·rw [show g B=B from if_neg c] at L;exact tk _ _ (ok.el B D e L)
 ·rw [Yca,show zs.map ((λz=>z.1)∘g)=zs.map (·.1) from List.map_congr_left λy _=>g1 y];exact ok.kn
theorem ZgI {H H':Hp}{zs:ZN}{k x:List Int}{T L:Addr}(ok:NrOk H zs)(s:∀a u,a ∉ [L]->(∀kvs,u≠.dT kvs)->H a=some u->H' a=some u)(Z:H' T=some (.tup (x.map V.int)))(hv:JJ (zs.map kvZ) (k.map Sum.inl)=none)(Y:∀z∈zs,z.2.1≠L)(hL:∀F,H L≠some (.tup F))(N:H' L=some (.lst [.ref T])) :
  nmZ (zs++[(k,L,[(T,x)])])=UL (nmZ zs) k x/\NrOk H' (zs++[(k,L,[(T,x)])]):=by
 have fn:=ZcP hv;have tk:∀(a:Addr)(F:List V),H a=some (.tup F)->H' a=some (.tup F):=λa F e=>s _ _ (λz=>hL F (by rw [<-Yas.mp z];exact e)) (λ_ z=>by cases z) e;refine ⟨?_,⟨λy B=>?_,λy B e O=>?_,?_,?_⟩⟩
 ·unfold UL;rw [ZdA,if_neg,nmZ,Yal]
  ·rfl
  ·intro c;obtain ⟨z,G,e⟩:=List.any_eq_true.mp c;exact fn z G (Yba e)
 ·rcases Yav.mp B with B | B
  ·exact s _ _ (λz=>Y y B (Yas.mp z)) (λ_ z=>by cases z) (ok.at_ y B)
  ·rw [Yas.mp B];exact N
 ·rcases Yav.mp B with B | B
  ·exact tk _ _ (ok.el y B e O)
  ·rw [Yas.mp B] at O;rw [Yas.mp O];exact Z
 ·rw [Yal,Ycu];refine ⟨ok.nd,by simp,λa U b D=>?_⟩;obtain ⟨z,G,rfl⟩:=Yam.mp U;have D:b=L:=by simpa using D
  rw [D];exact Y z G
 ·rw [Yal,Ycu];refine ⟨ok.kn,by simp,λa U b D=>?_⟩;obtain ⟨z,G,rfl⟩:=Yam.mp U;have D:b=k:=by simpa using D
  rw [D];exact fn z G
theorem YQ (nm:NM)(k x:List Int):(UL nm k x).length<=nm.length+1:=by
 unfold UL;split
 ·rw [Yaa];lia
 ·rw [Yan];exact Yac _
theorem Wj {nm:NM}{k x:List Int}{n:Nat}(h:∀p∈nm,p.2.length<=n):∀p∈UL nm k x,p.2.length<=n+1:=by
 unfold UL;split
 ·intro p B;obtain ⟨q,D,rfl⟩:=Yam.mp B;have:=h q D;split
  ·show (q.2++[x]).length<=_;rw [Yan];show q.2.length+1<=_
   lia
  ·lia
 ·intro p B;rcases Yav.mp B with B | B
  ·have:=h p B;lia
  ·rw [Yas.mp B];show 1<=n+1
   lia
theorem ZgJ {H F:Hp}{a L:Addr}{zs:ZN}{k:List Int}{n:Nat}{G:V->Hp->Prop}(s5:Same H F)(ha:H a=none)(Y:F a=some (.dT (zs.map kvZ)))(ok:NrOk F zs)(fr:∀z∈zs,H z.2.1=none)(hL:H L=none)(Z:F L=some (.lst []))(nl:∀z∈zs,z.2.1≠L)(ln:zs.length<=n)(le:∀p∈nmZ zs,p.2.length<=n)(g:∀(l:Addr)(ys:List V)(H6:Hp),H6 l=some (.lst ys)->ys.length<=n->Same H H6->(∀b ts,F b=some (.tup ts)->H6 b=some (.tup ts))->(∀(x:List Int)(T:Addr)(H7:Hp),Same H6 H7->H7 T=some (.tup (x.map V.int))->∃B:ZN,Same H (upd H7 l (.lst (ys++[.ref T])))/\upd H7 l (.lst (ys++[.ref T])) a=some (.dT (B.map kvZ))/\NrOk (upd H7 l (.lst (ys++[.ref T]))) B/\nmZ B=UL (nmZ zs) k x/\(∀z∈B,H z.2.1=none)/\B.length<=n+1/\∀p∈nmZ B,p.2.length<=n+1)->G (.ref l) H6) :
  (∀v,JJ (zs.map kvZ) (k.map Sum.inl)=some v->G v F)/\(JJ (zs.map kvZ) (k.map Sum.inl)=none->G (.ref L) (upd F a (.dT (Uu (zs.map kvZ) (k.map Sum.inl) (.ref L))))):=by
 refine ⟨λv hv=>?_,λhv=>?_⟩
 ·have aa:=hv;rw [OQ] at aa;obtain ⟨z,hz,rfl⟩:=Ybg.mp aa;have D:=List.mem_of_find?_eq_some hz;have hl:=le (z.1,z.2.2.map (·.2)) (Yam.mpr ⟨z,D,rfl⟩);refine g z.2.1 _ F (ok.at_ z D) (by rw [Yaa];rw [Yaa] at hl;exact hl) s5 (λ_ _ e=>e) λx T H7 N hT=>?_;obtain ⟨z2,ab,_,e2,B,m1,m2,m3,O⟩:=ZgH (ok.same N) hT hv;have e2:z.2.1=z2.2.1:=by injection e2
  have:z2=z:=by
   obtain ⟨i,hi,ei⟩:=Yby ab;obtain ⟨j,hj,ej⟩:=Yby D;have:=(List.getElem_inj (i:=i) (j:=j) (h₀:=by rw [Yaa];exact hi) (h₁:=by rw [Yaa];exact hj) ok.nd).mp (by rw [List.getElem_map,List.getElem_map,ei,ej,e2]);subst this;rw [<-ei,<-ej]
  subst this;refine ⟨B,(s5.trans N).put (fr z2 D),?_,O,m3,λy U=>?_,?_,?_⟩
  ·rw [m1];exact Gq (N _ _ Y) (λq=>by rw [q,ok.at_ z2 D] at Y;cases Y)
  ·have:y.2.1∈B.map (·.2.1):=Yam.mpr ⟨y,U,rfl⟩;rw [m2] at this;obtain ⟨y0,ac,e0⟩:=Yam.mp this;rw [<-e0];exact fr y0 ac
  ·have:=Ybb List.length m2;rw [Yaa,Yaa] at this
   lia
  ·rw [m3];exact Wj le
 ·have na:L≠a:=λq=>by rw [q,Y] at Z;cases Z
  refine g L [] _ (Gq Z na) (Ybc _) (s5.put ha) (λb ts e=>Gq e (J4 e Y (λq=>by cases q))) λx T H7 N hT=>?_;obtain ⟨m,O⟩:=ZgI (H:=F) (H':=upd H7 L (.lst ([]++[.ref T]))) (T:=T) (L:=L) (k:=k) (x:=x) ok (λb u n1 n2 e=>by
   have n1:b≠L:=λz=>n1 (by rw [z];exact Yas.mpr rfl);exact Gq (N _ _ (Gq e (λq=>n2 _ (by rw [q,Y] at e;exact (Yaw e).symm)))) n1)
   (Gq hT (λq=>by have e8:=N _ _ (Gq Z na);rw [q,e8] at hT;cases hT)) hv nl (λts e=>by rw [Z] at e;cases e) Gb
  refine ⟨zs++[(k,L,[(T,x)])],((s5.put ha).trans N).put hL,?_,O,m,λy U=>?_,by rw [Yan];exact Nat.add_le_add_right ln 1,by rw [m];exact Wj le⟩
  ·rw [<-ZeI hv];exact Gq (N _ _ Gb) (Ne.symm na)
  ·rcases Yav.mp U with U | U
   ·exact fr y U
   ·rw [Yas.mp U];exact hL
theorem Ou (ms:List Int):(ms.map V.int).all Vr=true:=by
 rw [List.all_eq_true];intro x B;obtain ⟨m,_,rfl⟩:=Yam.mp B
 rfl
theorem O9 (n:Int)(ms:List Int):inV (.int n) (ms.map V.int)=decide (n∈ms):=by
 unfold inV
 induction ms with
 | nil=>rfl
 | cons m ms ih=>
  rw [Yat,List.any_cons,ih];by_cases h1:n=m <;> by_cases h2:n∈ms <;> simp [eqV,h1,h2] <;> (try lia) <;> (try (intro z;exact h1 z.symm))
theorem YR {td ty:TE}{ta:TA}{D:L2.Ends}{σ:St}{H O:Hp}{a:Addr}{zs:ZN}{k x:List Int}{n:Nat}(S5:Same H O)(ha:H a=none)(ea:O a=some (.dT (zs.map kvZ)))(ok:NrOk O zs)(fr:∀z∈zs,H z.2.1=none)(ln:zs.length<=n)(le:∀p∈nmZ zs,p.2.length<=n)(hn:n<1000)(ab:∀Q:VK,Q (.ref a) O->td σ O Q)(ac:∀Q:VK,(∀T8 N,Same O N->N T8=some (.tup (k.map V.int))->Q (.ref T8) N)->ty σ O Q)(ae:∀N (QA:List V->Hp->Prop),(∀b U,O b=some (.tup U)->N b=some (.tup U))->(∀T H7,Same N H7->H7 T=some (.tup (x.map V.int))->QA [.ref T] H7)->ta σ N QA)(next:∀(B:ZN)(H':Hp),Same H H'->H' a=some (.dT (B.map kvZ))->NrOk H' B->nmZ B=UL (nmZ zs) k x->(∀z∈B,H z.2.1=none)->B.length<=n+1->(∀p∈nmZ B,p.2.length<=n+1)->(∀b U,O b=some (.tup U)->H' b=some (.tup U))->D.nx σ H') :
  ZdT (tBM K "list" VV (Zf7 td ty (Zip Ze7)) ta) D σ O:=by
 have an:=Yay.symm;refine ab _ ⟨a,rfl,⟨_,ea⟩,ac _ λT8 N s6 e8=>⟨Ybc _,λL hL=>?_⟩⟩;have s7:Same N (upd N L (.lst [])):=Same.new hL;have eL:upd N L (.lst []) L=some (.lst []):=Gb;have nl:∀z∈zs,z.2.1≠L:=λz hz q=>by have:=s6 _ _ (ok.at_ z hz);rw [q,hL] at this;cases this
 have af:H L=none:=(S5.trans s6).free hL;generalize upd N L (.lst [])=H7 at s7 eL ⊢;have F:=s6.trans s7;have aa:=F _ _ ea;refine ⟨_,k.map Sum.inl,T8,rfl,aa,(s7 _ _ e8).trans (by rw [OE]),by rw [Yaa];lia,?_⟩;refine ZgJ (G:=λx H1=>tyV K "list" x H1/\ta σ H1 λxs H2=>VV x xs H2 λx H1=>D.nx σ H1) (k:=k) (S5.trans F) ha aa (ok.same F) fr af eL nl ln le λl1 ag H8 Y ao S8 Z ad=>?_;refine ⟨.inl ⟨rfl,_,SqL.of Y⟩,ae _ _ (λb U e=>Z _ _ (F _ _ e)) λT H9 s9 eT=>?_⟩;obtain ⟨ah,S9,ai,aj,ak,al,l9,am⟩:=ad x T H9 s9 eT;exact ⟨l1,ag,_,rfl,rfl,s9 _ _ Y,by lia,next ah _ S9 ai aj ak al l9 am λb U e=>Gq (s9 _ _ (Z _ _ (F _ _ e))) (J4 (Z _ _ (F _ _ e)) Y (λq=>by cases q))⟩
def ZeJ:Sp:=λvs H Q _=>∃(d l:Addr)(o:Obj)(ks:KI)(rs:List Int),vs=[.ref d,.ref l]/\H d=some (.frz o (.dT (ks.map kvI)))/\ks.length<=200/\(∀p∈ks,∃a b c:Int,p.1=[a,b,c])/\H l=some (.lst (rs.map V.int)) /\
 ∀(B:Addr)(o':Obj)(zs:ZN)(H':Hp),Same H H'->H B=none->H' B=some (.frz o' (.dT (zs.map kvZ)))->NrOk H' zs->nmZ zs=Jc ks rs->Q (.ref B) H'
theorem scBsd:Gp ["numbers", "roads", "found", "row", "column", "down", "number", "other"] ["numbers", "roads"] (Ge Zfa):=⟨rfl,rfl,rfl,by decide +kernel,rfl,by decide +kernel,by decide +kernel⟩
theorem ZgK {f:Addr}{fd:FuncData}(F:Fun K "_law_beside" "_law_beside" Zfa f fd):GJ P w K mg base CX0 1 f fd ["numbers", "roads"] ZeJ:=by
 refine F.ok scBsd (λvs H Q E h=>?_) (λaj A ak s0 H vs Q E hr h=>?_)
 ·obtain ⟨_,_,_,_,_,rfl,_⟩:=h
  rfl
 ·obtain ⟨d,l,o,ks,rs,rfl,hd,ay,al,hl,q⟩:=h;have aa:(A.deeper (PyProof.Rows.envOfC "_law_beside" (Ge Zfa) s0.heap.objs.size f aj)).units+1<cLine:=by have:=hr.un;lia
  have az:=Yay.symm;refine ⟨_,(@Gc _ _ _ _ _ (@Gm _ _ 2 _ _ _ _ scBsd.nd rfl (Or.inl rfl) V1 rfl (by first | exact .inl rfl | exact .inr rfl))
    (@Gc _ _ _ _ _ (@JY _ _ _ _ _ _ _ _ Ycm rfl (Zdo (ZaX (pv 0))) (Wu K (n:=2) rfl (Gn (Wu K (n:=3) rfl (Gn (Gi (i:=3) scBsd.nd rfl (Or.inl rfl)) (Gn (Gi (i:=4) scBsd.nd rfl (Or.inl rfl)) (Gn (Gi (i:=5) scBsd.nd rfl (Or.inl rfl)) Jb)))) (Gn (Gi (i:=6) scBsd.nd rfl (Or.inl rfl)) Jb)))
    (@Gf _ _ _ (@Jn _ _ _ _ _ _ _ _ (Go (kIn K) (pv 6) (pv 1) (by with_unfolding_all rfl)) (@Gc _ _ _ _ _ (@Gm _ _ 7 _ _ _ _ scBsd.nd rfl (Or.inl rfl) (@G0 _ _ _ _ _ (@Ga _ _ _ _ _ (@Gw _ _ _ _ _ _ _ _ GY (pv 3) (pv 5)) (@Ga _ _ _ _ _ (@Gw _ _ _ _ _ _ _ _ UU (@Gw _ _ _ _ _ _ _ _ GY (pv 4) Gg) (pv 5)) Gd rfl) rfl)) rfl (by first | exact .inl rfl | exact .inr rfl))
    (@Gc _ _ _ _ _ (Jq (OU Ydd Ydj Ydk G5 (ZaU aa (pv 2) (@G0 _ _ _ _ _ (@Ga _ _ _ _ _ (pv 3) (@Ga _ _ _ _ _ (pv 4) Gd rfl) rfl)) (@Ji _ _ _ _ Gd) ⟨rfl,rfl,rfl,rfl⟩) (@Ga _ _ _ _ _ (pv 7) Gd rfl)))
    (@Gf _ _ _ (Jq (OU Ydd Ydj Ydk G5 (ZaU aa (pv 2) (pv 7) (@Ji _ _ _ _ Gd) ⟨rfl,rfl,rfl,rfl⟩) (@Ga _ _ _ _ _ (@G0 _ _ _ _ _ (@Ga _ _ _ _ _ (pv 3) (@Ga _ _ _ _ _ (pv 4) Gd rfl) rfl)) Gd rfl)))))) Gz)) (by intro _;rfl))
    (@Gf _ _ _ (@Gs _ _ _ _ (ZaV (pv 2)))))),?_⟩
  refine λa ha=>?_;have s1:Same H (upd H a (.dT [])):=Same.new ha;have e1:upd H a (.dT []) a=some (.dT (([]:ZN).map kvZ)):=Gb;generalize upd H a (.dT [])=H1 at s1 e1 ⊢;dsimp only [GB];refine ⟨_,rfl,d,_,o,rfl,s1 _ _ hd,λG am=>?_⟩;have s2:Same H1 (upd H1 G (IVw G d)):=Same.new am;have e2:upd H1 G (IVw G d) G=some (IVw G d):=Gb;generalize upd H1 G (IVw G d)=H2 at s2 e2 ⊢;have S2:=s1.trans s2;refine ⟨G,d,o,_,rfl,e2,S2 _ _ hd,?_⟩;refine Zeq (d:=d) (o:=o) (kvs:=ks.map kvI) (λi σ D=>∃(v3 v4 v5 v6 v7:Option V)(zs:ZN),σ=[some (.ref d),some (.ref l),some (.ref a),v3,v4,v5,v6,v7]/\Same H D/\D a=some (.dT (zs.map kvZ))/\NrOk D zs/\nmZ zs=(ks.take i).foldl (Vv rs) []/\(∀z∈zs,H z.2.1=none)/\zs.length<=2 * i/\∀p∈nmZ zs,p.2.length<=2 * i)
   ⟨_,_,_,_,_,[],rfl,S2,s2 _ _ e1,⟨by simp,by simp,Yec,Yec⟩,rfl,by simp,Ybc _,by simp [nmZ]⟩ (λi σ D _ ⟨_,_,_,_,_,_,_,y,_⟩=>y _ _ hd) ?_ ?_
  ·rintro i k v b T σ D hk hb ⟨v3,v4,v5,v6,v7,zs,rfl,s3,e3,L,N,O,l3,U⟩ hT;rw [Yau] at hk;obtain ⟨p,Y,ep⟩:=Ybg.mp hk;have an:=Ybs Y;have a0:i<ks.length:=(Ybf.mp Y).1;obtain ⟨r,c,w,ek⟩:=al p an;obtain ⟨rfl,rfl⟩:k=p.1.map Sum.inl/\v=.int p.2:=by
    have:=Prod.mk.inj ep.symm;exact this
   rw [OE,ek] at hb;have Z:Same D (upd D T (.tup [.ref b,.int p.2])):=Same.new hT;have e4:upd D T (.tup [.ref b,.int p.2]) T=some (.tup [.ref b,.int p.2]):=Gb;generalize upd D T (.tup [.ref b,.int p.2])=H4 at Z e4 ⊢;refine ⟨T,_,rfl,SqT.of e4,rfl,?_⟩;refine ⟨_,_,rfl,b,_,rfl,SqT.of (Z _ _ hb),rfl,?_⟩;refine ⟨_,_,rfl,_,_,rfl,_,_,rfl,rfl,_,_,rfl,rfl,?_⟩;have S4:=s3.trans Z;have ab:(ks.take (i+1)).foldl (Vv rs) []=Vv rs (nmZ zs) p:=by
    rw [Ybw,Y,List.foldl_append,<-N]
    rfl
   have a1:(ks.map kvI).length=ks.length:=Yaa _;refine ⟨_,rfl,_,rfl,l,_,rfl,.inl (SqL.of (S4 _ _ hl)),rfl,Ou _,_,rfl,?_⟩;dsimp only [GB,Ydo,Ycz];rw [O9];refine OA (λB=>?_) (λB=>?_)
   ·have B:p.2∈rs:=Yba B;have eb:Vv rs (nmZ zs) p=UL (UL (nmZ zs) [r,c] [r+w,c+1-w]) [r+w,c+1-w] [r,c]:=by
     unfold Vv;rw [if_pos B,show Ob p.1=[r,c] by rw [ek];rfl,show J3 p.1=[r+w,c+1-w] by rw [ek];rfl]
    refine ⟨_,rfl,_,rfl,_,_,rfl,rfl,_,rfl,_,_,rfl,rfl,_,rfl,_,_,rfl,rfl,two_le,λT7 ao=>?_⟩;have s5:Same H4 (upd H4 T7 (.tup [.int (r+w),.int (c+1-w)])):=Same.new ao;have e7:upd H4 T7 (.tup [.int (r+w),.int (c+1-w)]) T7=some (.tup ((([r+w,c+1-w]:List Int)).map V.int)):=Gb;have S5:=S4.trans s5;have ac:=s5 _ _ (Z _ _ e3);have ad:=(L.same Z).same s5;dsimp only [GB];generalize upd H4 T7 (.tup [.int (r+w),.int (c+1-w)])=H5 at s5 e7 S5 ac ad ⊢;refine YR (k:=[r,c]) (x:=[r+w,c+1-w]) S5 ha ac ad O l3 U (by lia) (λQ q=>⟨_,rfl,q⟩) (λQ q=>⟨_,rfl,_,rfl,two_le,λT hT=>q T _ (Same.new hT) Gb⟩) (λH6 QA tk q=>⟨_,rfl,q T7 H6 (Same.refl _) (tk _ _ e7)⟩) λa2 H9 S9 ap aq ar as l9 au av=>?_;dsimp only;refine YR (k:=[r+w,c+1-w]) (x:=[r,c]) S9 ha ap aq as l9 au (by lia) (λQ q=>⟨_,rfl,q⟩) (λQ q=>⟨_,rfl,q T7 _ (Same.refl _) (av _ _ e7)⟩) (λH6 QA tk q=>⟨_,rfl,_,rfl,two_le,λT hT=>q T _ (Same.new hT) Gb⟩) λaw a3 ax ae af ag ah a4 ai _=>?_;refine ⟨_,_,_,_,_,aw,rfl,ax,ae,af,?_,ah,by lia,λp Y=>by have:=ai p Y;lia⟩;rw [ab,eb,ag,ar]
   ·have B:¬ p.2∈rs:=λy=>B (Yae y);refine ⟨_,_,_,_,_,zs,rfl,S4,Z _ _ e3,L.same Z,?_,O,by lia,λp Y=>by have:=U p Y;lia⟩;rw [ab];unfold Vv;rw [if_neg B]
  ·rintro σ D ⟨v3,v4,v5,v6,v7,zs,rfl,s3,e3,L,N,O,l3,U⟩;rw [Yaa,Yce] at N;refine ⟨_,rfl,a,_,rfl,e3,λo'=>?_⟩;refine q a o' zs _ (s3.put ha) ha Gb (L.keep (λb ys e _=>Gq e (J4 e e3 (λq=>by cases q))) λb ts e=>Gq e (J4 e e3 (λq=>by cases q))) N
theorem Zbh {k:List Int}(h:k.length=2):k=[gA k 0,gA k 1]:=by
 match k,h with
 | [a,b],_=>rfl
def plD (k:List Int):PyData:=prD (gA k 0,gA k 1)
theorem Uv {K:W.Frag}{H:Hp}{b:Addr}{k:List Int}(h:H b=some (.tup (k.map V.int)))(B:k.length=2):DatV K H (.ref b) (plD k):=by
 rw [Zbh B] at h;exact .tup (SqT.of h) (.cons (.int _) (.cons (.int _) .nil))
theorem Zbi {k j:List Int}(B:k.length=2)(D:j.length=2):PyData.eqv (plD k) (plD j)=decide (k=j):=by
 unfold plD;rw [XB];refine decide_eq_decide.mpr ⟨λh=>?_,λh=>by rw [h]⟩;injection h with h1 h2
 rw [Zbh B,Zbh D,h1,h2]
def bfD:Option (List Int)->PyData
 | none=>.none
 | some k=>plD k
def BfAt (H:Hp):Option (List Int)->V->Prop
 | none,v=>v=.non
 | some k,v=>∃b,v=.ref b/\H b=some (.tup (k.map V.int))/\k.length=2
theorem BfAt.same {H H':Hp}{o:Option (List Int)}{v:V}(h:BfAt H o v)(s:Same H H'):BfAt H' o v:=by
 cases o with
 | none=>exact h
 | some k=>obtain ⟨b,e,h1,h2⟩:=h;exact ⟨b,e,s _ _ h1,h2⟩
theorem BfAt.dat {K:W.Frag}{H:Hp}{o:Option (List Int)}{v:V}(h:BfAt H o v):DatV K H v (bfD o):=by
 cases o with
 | none=>rw [show v=.non from h];exact .non
 | some k=>obtain ⟨b,rfl,h1,h2⟩:=h;exact Uv h1 h2
theorem VO (o:Option (List Int)):SeqAt.shaped (bfD o)=true:=by
 cases o with
 | none=>rfl
 | some k=>exact Jg _
theorem ZgL {H:Hp}{o:Option (List Int)}{v:V}(h:BfAt H o v){k:List Int}(B:k.length=2):(true != PyData.eqv (plD k) (bfD o))=!decide (some k=o):=by
 cases o with
 | none=>
  show (true != PyData.eqv (plD k) .none)=_;unfold plD prD;simp [PyData.eqv]
 | some j=>
  obtain ⟨_,_,_,D⟩:=h;show (true != PyData.eqv (plD k) (plD j))=_;rw [Zbi B D];by_cases e:k=j
  ·subst e;simp
  ·simp [e]
def Z2 (zs:ZN):Prop:=(∀z∈zs,∀e∈z.2.2,e.2.length=2)/\(∀z∈zs,z.2.2.length<=400)/\zs.length<=400
def ZgM:Sp:=λvs H Q _=>∃(d b:Addr)(o:Obj)(zs:ZN)(pl e:List Int)(i:Int),vs=[.ref d,.ref b,.int i]/\H d=some (.frz o (.dT (zs.map kvZ)))/\NrOk H zs/\Z2 zs/\H b=some (.tup (pl.map V.int))/\pl.length=2/\YO (nmZ zs) i 100 none pl=some e /\
 ∀(B:Addr)(H':Hp),Same H H'->H' B=some (.tup (e.map V.int))->e.length=2->Q (.ref B) H'
theorem scEnd:Gp ["near", "place", "i", "before", "here", "nexts"] ["near", "place", "i"] (Ge Zfc):=⟨rfl,rfl,rfl,by decide +kernel,rfl,by decide +kernel,by decide +kernel⟩
theorem ZgN {f:Addr}{fd:FuncData}(F:Fun K "_law_end_of" "_law_end_of" Zfc f fd):GJ P w K mg base CX0 1 f fd ["near", "place", "i"] ZgM:=by
 refine F.ok scEnd (λvs H Q E h=>?_) (λae A ai s0 H vs Q E hr h=>?_)
 ·obtain ⟨_,_,_,_,_,_,_,rfl,_⟩:=h
  rfl
 ·obtain ⟨d,b,o,zs,pl,e,i,rfl,hd,ok,z2,U,aj,he,q⟩:=h;have ak:(A.deeper (PyProof.Rows.envOfC "_law_end_of" (Ge Zfc) s0.heap.objs.size f ae)).units+1<cLine:=by have:=hr.un;lia
  have af:(A.deeper (PyProof.Rows.envOfC "_law_end_of" (Ge Zfc) s0.heap.objs.size f ae)).units+64<cLine:=by have:=hr.un;lia
  have am:=Yay.symm;refine ⟨_,(@Gc _ _ _ _ _ (@Gm _ _ 3 _ _ _ _ scEnd.nd rfl (Or.inr rfl) US rfl (by first | exact .inl rfl | exact .inr rfl))
    (@Gc _ _ _ _ _ (@Gm _ _ 4 _ _ _ _ scEnd.nd rfl (Or.inl rfl) (pv 1) rfl (by first | exact .inl rfl | exact .inr rfl))
    (@Gc _ _ _ _ _ (VR Ycm (PW.pt (OF (Go Zc7 (pv 3) US (Gv _)) (Oz (Go Ud (@GE _ _ _ _ _ _ _ (Ut K) (pv 4) Gg (λ_ _=>rfl)) (pv 2) (Gv _)))))
    (@Gc _ _ _ _ _ (U2 (i:=5) scEnd.nd rfl (Or.inl rfl) (own:=["other"]) rfl (Gk (fr:=[("before", 3)]) [(".0", .local),("other", .local),("before", .cell)] rfl rfl (by decide +kernel) rfl (by decide +kernel) ⟨rfl,trivial⟩ ⟨λh=>GG h,λh=>GG h,λ_=>⟨_,rfl⟩,trivial⟩ ⟨⟨rfl,.inl rfl,.inl rfl⟩,trivial⟩) (Oy K (JV ak (pv 0) (pv 4) (λ_ _=>rfl))) (λ_ _ _ _=>Gi (i:=0) (show List.Nodup (["other", "before"]:List Str) by decide +kernel) rfl (Or.inl rfl)) (λ_ _ _ _=>Jm (Go (ZE K af) (pv 0) (pv 1) (Gv _))) (λ_ _ _ _=>pv 0))
    (@Gc _ _ _ _ _ (@Gm _ _ 3 _ _ _ _ scEnd.nd rfl (Or.inr rfl) (pv 4) rfl (by first | exact .inl rfl | exact .inr rfl))
    (@Gf _ _ _ (@Gm _ _ 4 _ _ _ _ scEnd.nd rfl (Or.inl rfl) (@GE _ _ _ _ _ _ _ (U3 K) (pv 5) Gg (λ_ _=>rfl)) rfl (by first | exact .inl rfl | exact .inr rfl))))))
    (@Gf _ _ _ (@Gs _ _ _ _ (pv 4)))))),?_⟩
  refine ⟨_,rfl,?_⟩;refine ⟨λm σ H1=>∃(G:Option (List Int))(bv:V)(U:Addr)(B:List Int)(v5:Option V),σ=[some (.ref d),some (.ref b),some (.int i),some bv,some (.ref U),v5]/\Same H H1/\BfAt H1 G bv/\H1 U=some (.tup (B.map V.int))/\B.length=2/\YO (nmZ zs) i m G B=some e,
   ⟨100,none,.non,b,pl,_,rfl,Same.refl _,rfl,U,aj,he⟩,?_⟩
  rintro m σ H1 ⟨G,bv,U,B,v5,rfl,s1,aa,ab,hh,em⟩;obtain ⟨m,rfl⟩:∃m',m=m'+1:=by
   cases m with
   | zero=>cases em
   | succ m=>exact ⟨m,rfl⟩
  have ag:=s1 _ _ hd;have Y:=ok.same s1;have ac:(G=none\/gA B 0<i)->∀H2,H2=H1->∃x,(Ot (nmZ zs) B).isSome/\(Zdz (nmZ zs) G B).head?=some x/\YO (nmZ zs) i m (some B) x=some e:=by
   intro c _ _;unfold YO at em;rw [if_pos c] at em;split at em
   ·rename_i g;obtain ⟨x,h1,h2⟩:=Option.bind_eq_some_iff.mp em;exact ⟨x,g,h1,h2⟩
   ·cases em
  have ah:¬ (G=none\/gA B 0<i)->B=e:=λc=>by
   unfold YO at em;rw [if_neg c] at em;exact Yaw em
  refine ⟨_,rfl,rfl,_,rfl,OA (λc=>?_) (λc=>?_)⟩
  ·have c':G=none\/gA B 0<i:=by
    have y:bv=.non:=Yba c;cases G with
    | none=>exact .inl rfl
    | some k=>obtain ⟨_,z,_⟩:=aa;rw [z] at y;cases y
   obtain ⟨x,gs,hx,ex⟩:=ac c' H1 rfl;rw [VN,Option.isSome_map] at gs;obtain ⟨z,hz⟩:=Yeg.mp gs;have L:=List.mem_of_find?_eq_some hz;have dg:DGet H1 d (.ref U) (some (.ref z.2.1)):=by
    have:JJ (zs.map kvZ) (B.map Sum.inl)=some (.ref z.2.1):=by rw [OQ,hz];rfl
    rw [<-this];exact Or.inr ⟨_,_,U,.inr ⟨o,ag⟩,rfl,ab.trans (by rw [OE]),rfl⟩
   refine ⟨λσ H2=>∃(G:Option (List Int))(bv:V)(U:Addr)(B:List Int)(v5:Option V),σ=[some (.ref d),some (.ref b),some (.int i),some bv,some (.ref U),v5]/\Same H H2/\BfAt H2 G bv/\H2 U=some (.tup (B.map V.int))/\B.length=2/\YO (nmZ zs) i m G B=some e,λσ' H' hN=>⟨m,by lia,hN⟩,?_⟩;refine ⟨_,rfl,_,rfl,d,_,rfl,dg,z.2.1,rfl,⟨_,SqL.of (Y.at_ z L)⟩,λD hD=>?_⟩;have e2:∀e∈z.2.2,e.2.length=2:=z2.1 z L;refine GF (K:=K) (a:=z.2.1) (xs:=z.2.2.map λe=>V.ref e.1) (λj ys H2=>∃us:List (Addr×List Int),ys=us.map (λz=>V.ref z.1)/\Same H1 H2/\H2 D=some (.lst ys)/\us=(z.2.2.take j).filter λe=>!decide (some e.2=G)) ⟨[],rfl,Same.new hD,Gb,rfl⟩ (λj ys H2 _ ⟨_,_,y,_⟩=>SqL.of (y _ _ (Y.at_ z L))) ?_ ?_
   ·rintro j x ys H2 hx ⟨us,rfl,Z,eD,N⟩;rw [Yau] at hx;obtain ⟨u,hu,rfl⟩:=Ybg.mp hx;have O:=Ybs hu;have al:j<z.2.2.length:=(Ybf.mp hu).1;have ul:us.length<=j:=by
     rw [N];have:=Ych (λe:Addr×List Int=>!decide (some e.2=G)) (z.2.2.take j);rw [Ybn] at this
     lia
    have zl:=z2.2.1 z L;refine ⟨⟨rfl,trivial⟩,?_⟩;refine ⟨_,rfl,_,rfl,plD u.2,bfD G,Uv (Z _ _ (Y.el z L u O)) (e2 u O),(aa.same Z).dat,Jg _,VO _,_,rfl,?_⟩;rw [ZgL aa (e2 u O)];have tk:(z.2.2.take (j+1)).filter (λe=>!decide (some e.2=G))=us++[u].filter λe=>!decide (some e.2=G):=by rw [Ybw,hu,Ydv,<-N];rfl
    refine OA (λy=>?_) (λy=>?_)
    ·refine ⟨_,rfl,eD,by rw [Yaa];lia,us++[u],by rw [Yal];rfl,Z.put hD,Gb,?_⟩;rw [tk,List.filter_cons,if_pos y]
     rfl
    ·refine ⟨us,rfl,Z,eD,?_⟩;rw [tk,List.filter_cons,if_neg y];simp
   ·rintro ys H2 ⟨us,rfl,Z,eD,N⟩;rw [Yaa,Yce] at N;have um:us.map (·.2)=Zdz (nmZ zs) G B:=by
     unfold Zdz;rw [VN,hz,N];show _=List.filter _ (z.2.2.map (·.2));rw [List.filter_map]
     rfl
    rw [<-um,List.head?_map] at hx;obtain ⟨u,hu,rfl⟩:=Ybg.mp hx;have O:u∈z.2.2:=(Ybk.mp (by rw [<-N];exact List.mem_of_mem_head? (by rw [hu];rfl))).1;have ad:atI (us.map λz=>V.ref z.1) 0=some (.ref u.1):=by
     cases us with
     | nil=>cases hu
     | cons u' us'=>rw [show u'=u from Yaw hu];exact VZ (n:=0) (by decide) (by simp)
    dsimp only [GB];refine ⟨_,rfl,_,rfl,D,_,0,.ref u.1,rfl,rfl,SqL.of eD,ad,?_⟩;exact ⟨some B,_,u.1,u.2,_,rfl,s1.trans Z,⟨U,rfl,Z _ _ ab,hh⟩,Z _ _ (Y.el z L u O),e2 u O,ex⟩
  ·have nb:G≠none:=λy=>by subst y;exact c (Yae aa)
   refine ⟨_,rfl,U,_,_,_,rfl,rfl,SqT.of ab,JS (i:=0) (by lia) (by rw [hh];lia),_,rfl,_,_,rfl,rfl,_,rfl,OA (λc=>?_) (λc=>?_)⟩
   ·have c':G=none\/gA B 0<i:=.inr (Yba c);obtain ⟨x,gs,hx,ex⟩:=ac c' H1 rfl;rw [VN,Option.isSome_map] at gs;obtain ⟨z,hz⟩:=Yeg.mp gs;have L:=List.mem_of_find?_eq_some hz;have dg:DGet H1 d (.ref U) (some (.ref z.2.1)):=by
     have:JJ (zs.map kvZ) (B.map Sum.inl)=some (.ref z.2.1):=by rw [OQ,hz];rfl
     rw [<-this];exact Or.inr ⟨_,_,U,.inr ⟨o,ag⟩,rfl,ab.trans (by rw [OE]),rfl⟩
    refine ⟨λσ H2=>∃(G:Option (List Int))(bv:V)(U:Addr)(B:List Int)(v5:Option V),σ=[some (.ref d),some (.ref b),some (.int i),some bv,some (.ref U),v5]/\Same H H2/\BfAt H2 G bv/\H2 U=some (.tup (B.map V.int))/\B.length=2/\YO (nmZ zs) i m G B=some e,λσ' H' hN=>⟨m,by lia,hN⟩,?_⟩;refine ⟨_,rfl,_,rfl,d,_,rfl,dg,z.2.1,rfl,⟨_,SqL.of (Y.at_ z L)⟩,λD hD=>?_⟩;have e2:∀e∈z.2.2,e.2.length=2:=z2.1 z L;refine GF (K:=K) (a:=z.2.1) (xs:=z.2.2.map λe=>V.ref e.1) (λj ys H2=>∃us:List (Addr×List Int),ys=us.map (λz=>V.ref z.1)/\Same H1 H2/\H2 D=some (.lst ys)/\us=(z.2.2.take j).filter λe=>!decide (some e.2=G)) ⟨[],rfl,Same.new hD,Gb,rfl⟩ (λj ys H2 _ ⟨_,_,y,_⟩=>SqL.of (y _ _ (Y.at_ z L))) ?_ ?_
    ·rintro j x ys H2 hx ⟨us,rfl,Z,eD,N⟩;rw [Yau] at hx;obtain ⟨u,hu,rfl⟩:=Ybg.mp hx;have O:=Ybs hu;have al:j<z.2.2.length:=(Ybf.mp hu).1;have ul:us.length<=j:=by
      rw [N];have:=Ych (λe:Addr×List Int=>!decide (some e.2=G)) (z.2.2.take j);rw [Ybn] at this
      lia
     have zl:=z2.2.1 z L;refine ⟨⟨rfl,trivial⟩,?_⟩;refine ⟨_,rfl,_,rfl,plD u.2,bfD G,Uv (Z _ _ (Y.el z L u O)) (e2 u O),(aa.same Z).dat,Jg _,VO _,_,rfl,?_⟩;rw [ZgL aa (e2 u O)];have tk:(z.2.2.take (j+1)).filter (λe=>!decide (some e.2=G))=us++[u].filter λe=>!decide (some e.2=G):=by rw [Ybw,hu,Ydv,<-N];rfl
     refine OA (λy=>?_) (λy=>?_)
     ·refine ⟨_,rfl,eD,by rw [Yaa];lia,us++[u],by rw [Yal];rfl,Z.put hD,Gb,?_⟩;rw [tk,List.filter_cons,if_pos y]
      rfl
     ·refine ⟨us,rfl,Z,eD,?_⟩;rw [tk,List.filter_cons,if_neg y];simp
    ·rintro ys H2 ⟨us,rfl,Z,eD,N⟩;rw [Yaa,Yce] at N;have um:us.map (·.2)=Zdz (nmZ zs) G B:=by
      unfold Zdz;rw [VN,hz,N];show _=List.filter _ (z.2.2.map (·.2));rw [List.filter_map]
      rfl
     rw [<-um,List.head?_map] at hx;obtain ⟨u,hu,rfl⟩:=Ybg.mp hx;have O:u∈z.2.2:=(Ybk.mp (by rw [<-N];exact List.mem_of_mem_head? (by rw [hu];rfl))).1;have ad:atI (us.map λz=>V.ref z.1) 0=some (.ref u.1):=by
      cases us with
      | nil=>cases hu
      | cons u' us'=>rw [show u'=u from Yaw hu];exact VZ (n:=0) (by decide) (by simp)
     dsimp only [GB];refine ⟨_,rfl,_,rfl,D,_,0,.ref u.1,rfl,rfl,SqL.of eD,ad,?_⟩;exact ⟨some B,_,u.1,u.2,_,rfl,s1.trans Z,⟨U,rfl,Z _ _ ab,hh⟩,Z _ _ (Y.el z L u O),e2 u O,ex⟩
   ·refine ⟨_,rfl,?_⟩;have eh:=ah λy=>y.elim nb λy=>c (Yae y);subst eh;exact q U H1 s1 ab hh
abbrev PZ:=List (Addr×List Int)
def PzOk (H:Hp)(us:PZ):Prop:=∀u∈us,H u.1=some (.tup (u.2.map V.int))/\u.2.length=2
theorem PzOk.same {H H':Hp}{us:PZ}(h:PzOk H us)(s:Same H H'):PzOk H' us:=λu B=>⟨s _ _ (h u B).1,(h u B).2⟩
theorem PzOk.dats {K:W.Frag}{H:Hp}:∀{us:PZ},PzOk H us->DatVs K H (us.map λu=>V.ref u.1) (us.map λu=>plD u.2)
 | [],_=>.nil
 | u::us,h=>.cons (Uv (h u (Yaz ..)).1 (h u (Yaz ..)).2) (PzOk.dats λv hv=>h v (Ybm _ hv))
theorem YS {nm:NM}{k x:List Int}(h:∀p∈nm,p.1.length=2/\∀y∈p.2,y.length=2)(G:k.length=2)(F:x.length=2):∀p∈UL nm k x,p.1.length=2/\∀y∈p.2,y.length=2:=by
 unfold UL;split
 ·intro p B;obtain ⟨q,L,rfl⟩:=Yam.mp B;have:=h q L;split
  ·refine ⟨this.1,λy D=>?_⟩;rcases Yav.mp D with D | D
   ·exact this.2 y D
   ·rw [Yas.mp D];exact F
  ·exact this
 ·intro p B;rcases Yav.mp B with B | B
  ·exact h p B
  ·rw [Yas.mp B];exact ⟨G,λy D=>by rw [Yas.mp D];exact F⟩
theorem X4 (ks:KI)(rs:List Int):(∀p∈Jc ks rs,p.1.length=2/\∀y∈p.2,y.length=2)/\(Jc ks rs).length<=2 * ks.length/\∀p∈Jc ks rs,p.2.length<=2 * ks.length:=by
 have:∀(ks:KI)(nm:NM)(n:Nat),(∀p∈nm,p.1.length=2/\∀y∈p.2,y.length=2)->nm.length<=n->(∀p∈nm,p.2.length<=n) ->
   (∀p∈ks.foldl (Vv rs) nm,p.1.length=2/\∀y∈p.2,y.length=2)/\(ks.foldl (Vv rs) nm).length<=n+2 * ks.length/\∀p∈ks.foldl (Vv rs) nm,p.2.length<=n+2 * ks.length:=by
  intro ks
  induction ks with
  | nil=>intro nm n a b c;exact ⟨a,b,c⟩
  | cons k ks ih=>
   intro nm n a b c;have st:(∀p∈Vv rs nm k,p.1.length=2/\∀y∈p.2,y.length=2)/\(Vv rs nm k).length<=n+2/\∀p∈Vv rs nm k,p.2.length<=n+2:=by
    unfold Vv;split
    ·have G:=YQ nm (Ob k.1) (J3 k.1);have L:=YQ (UL nm (Ob k.1) (J3 k.1)) (J3 k.1) (Ob k.1);exact ⟨YS (YS a rfl rfl) rfl rfl,by lia,Wj (Wj c)⟩
    ·exact ⟨a,by lia,λp B=>by have:=c p B;lia⟩
   obtain ⟨D,N,F⟩:=ih (Vv rs nm k) (n+2) st.1 st.2.1 st.2.2;rw [List.foldl_cons,Ybi];exact ⟨D,by lia,λp B=>by have:=F p B;lia⟩
 have h:=this ks [] 0 (by simp) (Yac _) (by simp);unfold Jc;exact ⟨h.1,by lia,λp B=>by have:=h.2.2 p B;lia⟩
theorem ZgO {zs:ZN}{ks:KI}{rs:List Int}(h:nmZ zs=Jc ks rs)(F:ks.length<=200):Z2 zs:=by
 obtain ⟨a,b,c⟩:=X4 ks rs;rw [<-h] at a b c;have m:∀z∈zs,(z.1,z.2.2.map (·.2))∈nmZ zs:=λz B=>Yam.mpr ⟨z,B,rfl⟩;refine ⟨λz B e D=>(a _ (m z B)).2 e.2 (Yam.mpr ⟨e,D,rfl⟩),λz B=>?_,?_⟩
 ·have:=c _ (m z B);rw [Yaa] at this
  lia
 ·unfold nmZ at b;rw [Yaa] at b
  lia
theorem Zif {zs:ZN}{ks:KI}{rs:List Int}(h:nmZ zs=Jc ks rs):∀z∈zs,z.1.length=2:=λz B=>((X4 ks rs).1 (z.1,z.2.2.map (·.2)) (by rw [<-h];exact Yam.mpr ⟨z,B,rfl⟩)).1
theorem ZcQ {nm:NM}{i:Int}{n:Nat}{m:List Nat}(h:JP nm i n=some m):∀c,c<=n->∃l,JP nm i c=some l:=by
 induction n generalizing m with
 | zero=>intro c B;rw [Nat.le_zero.mp B];exact ⟨_,rfl⟩
 | succ n ih=>
  intro c B;rcases Nat.lt_or_ge c (n+1) with D | D
  ·obtain ⟨l,h1,_⟩:=Option.bind_eq_some_iff.mp (show (JP nm i n).bind _=some m from h);exact ih h1 c (by lia)
  ·rw [Nat.le_antisymm B D];exact ⟨m,h⟩
theorem Wl {nm:NM}{i:Int}{n:Nat}{m:List Nat}(h:JP nm i n=some m):m.length=n:=by
 induction n generalizing m with
 | zero=>cases h;rfl
 | succ n ih=>
  obtain ⟨l,h1,h2⟩:=Option.bind_eq_some_iff.mp (show (JP nm i n).bind _=some m from h);obtain ⟨s,_,rfl⟩:=Ybg.mp h2;rw [Yan,ih h1]
  rfl
theorem Zy (us:PZ):SeqAt.shaped (.list (us.map λu=>plD u.2))=true:=by
 have c:∀us:PZ,PyData.canLayAll0 (us.map λu=>plD u.2)=true:=by
  intro us
  induction us with
  | nil=>simp [PyData.canLayAll0]
  | cons u us ih=>
   rw [Yat];simp only [PyData.canLayAll0,ih,Bool.and_true];simp [plD,prD,PyData.canLay0,PyData.canLayAll0]
 have d:∀us:PZ,PyData.depthAll (us.map λu=>plD u.2)<=2:=by
  intro us
  induction us with
  | nil=>simp [PyData.depthAll]
  | cons u us ih=>
   rw [Yat];have:PyData.depth (plD u.2)<=2:=by simp [plD,prD,PyData.depth,PyData.depthAll]
   simp only [PyData.depthAll]
   lia
 unfold SeqAt.shaped;rw [Ycl];refine ⟨by simp only [PyData.canLay0];exact c us,Yae ?_⟩;have:=d us;simp only [PyData.depth]
 lia
theorem ZeK (us:PZ):PyData.eqv (.list (us.map λu=>plD u.2)) (.list [])=decide (us=[]):=by
 cases us with
 | nil=>simp [PyData.eqv,PyData.eqvAll]
 | cons u us=>simp [PyData.eqv,PyData.eqvAll]
theorem YT (a b:List Nat):mkS a++mkS b=mkS (a++b):=by
 refine ZaQ ?_;rw [PySem.Str.cps_append,Ycj]
 rfl
abbrev PL:=List Int
structure Reg (N:PL->List PL):Prop where
 sym:∀x y,y∈N x->x∈N y
 two:∀x,N x≠[]->∃a b,N x=[a,b]/\a≠b
 irr:∀x,x ∉ N x
def nxN (N:PL->List PL)(b h:PL):Option PL:=((N h).filter λo=>!decide (o=b)).head?
def ZeL (N:PL->List PL)(first:PL):Nat->PL->PL->List PL->Option (List PL)
 | 0,_,_,_=>none
 | f+1,before,here,acc=>if here=first then some acc else (nxN N before here).bind λx=>ZeL N first f here x (acc++[here])
structure Trl (N:PL->List PL)(first:PL)(acc:List PL)(before here:PL):Prop where
 nd:acc.Nodup
 fst:acc[0]?=some first
 lst:acc[acc.length-1]?=some before
 adj:∀(j:Nat) x y,acc[j]?=some x->acc[j+1]?=some y->y∈N x
 nxt:here∈N before
 nob:∀x,2<=acc.length->acc[acc.length-2]?=some x->here≠x
theorem ZeM {l:List PL}(h:l.Nodup){i j:Nat}{x:PL}(a:l[i]?=some x)(b:l[j]?=some x):i=j:=by
 obtain ⟨hi,B⟩:=Ybf.mp a;obtain ⟨D,F⟩:=Ybf.mp b;have G:=Yez.mp h;rcases Nat.lt_trichotomy i j with z | z | z
 ·exact absurd (B.trans F.symm) (G i j hi D z)
 ·exact z
 ·exact absurd (F.trans B.symm) (G j i D hi z)
theorem Trl.new {N:PL->List PL}{first D B:PL}{acc:List PL}(R:Reg N)(t:Trl N first acc D B)(hn:B≠first):B ∉ acc:=by
 intro hm;obtain ⟨j,hj,e⟩:=Yby hm;have L:acc[j]?=some B:=by rw [Yah hj,e]
 have j0:j≠0:=λz=>by subst z;rw [t.fst] at L;exact hn (Yaw L).symm
 have F:=R.sym _ _ t.nxt;have jl:j≠acc.length-1:=λz=>by
  subst z;have:=t.lst.symm.trans L;rw [Yaw this] at F;exact R.irr _ F
 obtain ⟨p,U⟩:∃p,acc[j-1]?=some p:=⟨_,Yah (by lia)⟩;obtain ⟨q,Y⟩:∃q,acc[j+1]?=some q:=⟨_,Yah (by lia)⟩;have O:p∈N B:=R.sym _ _ (t.adj (j-1) p B U (by rw [show j-1+1=j by lia];exact L));have Z:q∈N B:=t.adj j B q L Y;have aa:p≠q:=λz=>by subst z;have:=ZeM t.nd U Y;lia
 obtain ⟨a,b,e2,ab⟩:=R.two B (λz=>by rw [z] at O;cases O);rw [e2] at O Z F;simp only [Yar,List.not_mem_nil,or_false] at O Z F;have G:D=p\/D=q:=by
  rcases O with rfl | rfl <;> rcases Z with rfl | rfl <;> rcases F with rfl | rfl <;> first | exact absurd rfl aa | exact .inl rfl | exact .inr rfl
 rcases G with rfl | rfl
 ·have:=ZeM t.nd U t.lst;lia
 ·have:=ZeM t.nd Y t.lst;exact t.nob B (by lia) (by rw [show acc.length-2=j by lia];exact L) rfl
theorem ZeN {N:PL->List PL}(R:Reg N){b h:PL}(m:b∈N h):∃x,nxN N b h=some x/\x∈N h/\x≠b:=by
 obtain ⟨p,q,e,n⟩:=R.two h (λz=>by rw [z] at m;cases m);unfold nxN;rw [e] at m ⊢;simp only [Yar,List.not_mem_nil,or_false] at m;rcases m with rfl | rfl
 ·refine ⟨q,?_,by simp,λz=>n z.symm⟩;rw [List.filter_cons,if_neg (by simp),List.filter_cons,if_pos (by simpa using λz:q=b=>n z.symm)]
  rfl
 ·refine ⟨p,?_,by simp,n⟩;rw [List.filter_cons,if_pos (by simpa using n)]
  rfl
theorem Trl.step {N:PL->List PL}{first D B x:PL}{acc:List PL}(R:Reg N)(t:Trl N first acc D B)(U:B≠first)(Y:x∈N B)(nx:x≠D):Trl N first (acc++[B]) B x:=by
 have Z:acc≠[]:=λz=>by have:=t.fst;rw [z] at this;cases this
 have l1:1<=acc.length:=by cases acc with | nil=>exact absurd rfl Z | cons _ _=>simp
 refine ⟨?_,?_,?_,?_,Y,?_⟩
 ·exact Ycu.mpr ⟨t.nd,by simp,λa G b F=>by rw [Yas] at F;subst F;exact λz=>t.new R U (z▸G)⟩
 ·rw [Ydf (by lia)];exact t.fst
 ·rw [Yan,Ybl,show acc.length+1-1=acc.length by lia,Ycs (Yac _),Ydi];rfl
 ·intro j a b G F;by_cases hj:j+1<acc.length
  ·rw [Ydf (by lia)] at G;rw [Ydf hj] at F;exact t.adj j a b G F
  ·have L:j+1=acc.length:=by
    have:=(Ybf.mp F).1;rw [Yan,Ybl] at this
    lia
   rw [Ydf (by lia)] at G;rw [Ycs (by lia),L,Ydi] at F;have:b=B:=(Yaw F).symm;subst this;have e:=t.lst;rw [show acc.length-1=j by lia,G] at e;rw [Yaw e];exact t.nxt
 ·intro y h2 O;rw [Yan,Ybl,show acc.length+1-2=acc.length-1 by lia,Ydf (by lia),t.lst] at O;rw [<-Yaw O];exact nx
structure Rnd (N:PL->List PL)(acc:List PL):Prop where
 nd:acc.Nodup
 len:3<=acc.length
 adj:∀(j:Nat) x y,acc[j]?=some x->acc[j+1]?=some y->y∈N x
 cl:∀x y,acc[acc.length-1]?=some x->acc[0]?=some y->y∈N x
theorem ZcR {l keys:List PL}(h:l.Nodup)(B:∀x∈l,x∈keys):l.length<=keys.length:=O7 h B
theorem ZdB {N:PL->List PL}{first:PL}{keys:List PL}(R:Reg N)(F:∀x,N x≠[]->x∈keys) :
  ∀(f:Nat)(acc:List PL)(before here:PL),Trl N first acc before here->keys.length+2<=acc.length+f->∃r,ZeL N first f before here acc=some r/\Rnd N r/\r[0]?=some first
 | 0,acc,before,here,t,hf=>by
  have:=ZcR (keys:=keys) t.nd λx B=>by
   obtain ⟨j,G,e⟩:=Yby B;by_cases U:j+1<acc.length
   ·exact F x λz=>by
     have:=t.adj j x acc[j+1] (by rw [Yah G,e]) (Yah U);rw [z] at this;cases this
   ·have L:=t.lst;rw [show acc.length-1=j by lia,Yah G,e] at L;rw [Yaw L];exact F before λz=>by have:=t.nxt;rw [z] at this;cases this
  lia
 | f+1,acc,before,here,t,hf=>by
  unfold ZeL;by_cases D:here=first
  ·rw [if_pos D];have Y:acc≠[]:=λz=>by have:=t.fst;rw [z] at this;cases this
   have l1:1<=acc.length:=by cases acc with | nil=>exact absurd rfl Y | cons _ _=>simp
   refine ⟨acc,rfl,⟨t.nd,?_,t.adj,?_⟩,t.fst⟩
   ·rcases Nat.lt_or_ge acc.length 3 with h | h
    ·exfalso;rcases (show acc.length=1\/acc.length=2 by lia) with h1 | h2
     ·have e:=t.lst;rw [h1,show 1-1=0 from rfl,t.fst] at e;have:=t.nxt;rw [D,<-Yaw e] at this;exact R.irr _ this
     ·exact t.nob first (by lia) (by rw [h2];exact t.fst) D
    ·exact h
   ·intro x y B O;rw [t.lst] at B;rw [t.fst] at O;rw [<-Yaw B,<-Yaw O,<-D];exact t.nxt
  ·rw [if_neg D];obtain ⟨x,e,B,Z⟩:=ZeN R (R.sym _ _ t.nxt);rw [e];exact ZdB R F f (acc++[here]) here x (t.step R D B Z) (by rw [Yan,Ybl];lia)
theorem Zbj {N:PL->List PL}{first h0:PL}(h:h0∈N first):Trl N first [first] first h0:=
 ⟨by simp,rfl,rfl,λj x y D B=>by simp at B,h,λx h2=>by simp at h2⟩
theorem ZgP {H:Hp}{B b:Addr}{o:Obj}{zs:ZN}{z:List Int×Addr×List (Addr×List Int)}(ok:NrOk H zs)(hz:z∈zs)(e:H B=some (.frz o (.dT (zs.map kvZ))))(F:H b=some (.tup (z.1.map V.int))):DGet H B (.ref b) (some (.ref z.2.1)):=by
 have G:JJ (zs.map kvZ) (z.1.map Sum.inl)=some (.ref z.2.1):=by
  rw [OQ];have L:zs.find? (λy=>decide (y.1=z.1))=some z:=by
   obtain ⟨O,bs,rfl⟩:=List.append_of_mem hz;have D:=ok.kn;rw [Yal,Yat,Ycu] at D;rw [List.find?_append,List.find?_eq_none.mpr,Option.none_or,Ybv,Yae rfl];intro y N;have:=D.2.2 y.1 (Yam.mpr ⟨y,N,rfl⟩) z.1 (Yaz ..);simpa using this
  rw [L]
  rfl
 rw [<-G];exact Or.inr ⟨_,_,b,.inr ⟨o,e⟩,rfl,F.trans (by rw [OE]),rfl⟩
def nbF (nm:NM)(k:List Int):List (List Int):=(Ot nm k).getD []
theorem ZdC {H:Hp}:∀{zs:List (Addr×List Int)},(∀z∈zs,H z.1=some (.tup (z.2.map V.int)))->Tus H (zs.map λz=>V.ref z.1) (zs.map (·.2))
 | [],_=>.nil
 | z::zs,h=>.cons (h z (Yaz ..)) (ZdC λy hy=>h y (Ybm _ hy))
def IscR (nm:NM)(B:Nat)(q:Bool->Prop):Prop:=
 ((B=0\/∃p∈nm,p.2.length≠2)/\q false) \/
 (B≠0/\(∀p∈nm,p.2.length=2)/\nm≠[]/\∀first:List Int,first∈nm.map (·.1)->∃h0 tl r,Ot nm first=some (h0::tl)/\ZeL (nbF nm) first 400 first h0 [first]=some r/\q (decide (r.length=B)))
theorem ne2 {k j:List Int}(B:k.length=2)(D:j.length=2):(true != PyData.eqv (plD k) (plD j))=!decide (k=j):=by
 rw [Zbi B D];cases decide (k=j) <;> rfl
def ZgQ:Sp:=λvs H Q _=>∃(d:Addr)(o:Obj)(zs:ZN)(many:Nat),vs=[.ref d,.int (many:Int)]/\H d=some (.frz o (.dT (zs.map kvZ)))/\NrOk H zs/\Z2 zs/\(∀z∈zs,z.1.length=2)/\IscR (nmZ zs) many λr=>∀H',Same H H'->Q (.bl r) H'
theorem scIsc:Gp ["near", "many", "first", "before", "here", "steps", "nexts"] ["near", "many"] (Ge Zfb):=⟨rfl,rfl,rfl,by decide +kernel,rfl,by decide +kernel,by decide +kernel⟩
theorem ZgR {f:Addr}{fd:FuncData}(F:Fun K "_law_is_closed" "_law_is_closed" Zfb f fd)(ao:mg "len" = none)(ap:mg "min" = none)(aq:mg "list" = none):GJ P w K mg base CX0 1 f fd ["near", "many"] ZgQ:=by
 refine F.ok scIsc (λvs H Q E h=>?_) (λar A a2 s0 H vs Q E hr h=>?_)
 ·obtain ⟨_,_,_,_,rfl,_⟩:=h
  rfl
 ·obtain ⟨d,o,zs,many,rfl,hd,ok,z2,k2,hq⟩:=h;have ag:(A.deeper (PyProof.Rows.envOfC "_law_is_closed" (Ge Zfb) s0.heap.objs.size f ar)).units+1<cLine:=by have:=hr.un;lia
  have ac:(A.deeper (PyProof.Rows.envOfC "_law_is_closed" (Ge Zfb) s0.heap.objs.size f ar)).units+64<cLine:=by have:=hr.un;lia
  have aF:=Yay.symm;refine ⟨_,(@Gc _ _ _ _ _ (@Jn _ _ _ _ _ _ _ _ (PW.pt (OF (Go UV (pv 1) Gg (Gv _)) (Oz (Go (ZE K ac) (Jd (own:=["place"]) rfl (Gk (fr:=[("near", 0)]) [(".0", .local),("place", .local),("len", .globalImplicit),("near", .cell)] rfl rfl (by decide +kernel) rfl (by decide +kernel) ⟨rfl,trivial⟩ ⟨λh=>GG h,λh=>GG h,λh=>GG h,λ_=>⟨_,rfl⟩,trivial⟩ ⟨⟨rfl,.inl rfl,.inl rfl⟩,trivial⟩) (Zcq (pv 0)) (λ_ _ _ _=>Gi (i:=0) (show List.Nodup (["place", "near"]:List Str) by decide +kernel) rfl (Or.inl rfl)) (λ_ _ _ _=>Jm (Go ZbQ (Gu (Zd7 K) rfl ao Yde (@Ga _ _ _ _ _ (JV ag (pv 1) (pv 0) (λ_ _=>rfl)) Gd rfl)) Gg (Gv _))) (λ_ _ _ _=>pv 0)) (@Ji _ _ _ _ Gd) (Gv _))))) (@Gf _ _ _ (@Gs _ _ _ _ Xw)) Gz)
    (@Gc _ _ _ _ _ (@Gm _ _ 2 _ _ _ _ scIsc.nd rfl (Or.inl rfl) (Gu (Zf3 K rfl ag) rfl ap Yp (@Ga _ _ _ _ _ (Jk (Zes rfl) rfl aq JG (@Ga _ _ _ _ _ (pv 0) Gd rfl)) Gd rfl)) rfl (by first | exact .inl rfl | exact .inr rfl))
    (@Gc _ _ _ _ _ (@Gm _ _ 3 _ _ _ _ scIsc.nd rfl (Or.inr rfl) (pv 2) rfl (by first | exact .inl rfl | exact .inr rfl))
    (@Gc _ _ _ _ _ (@Gm _ _ 4 _ _ _ _ scIsc.nd rfl (Or.inl rfl) (@GE _ _ _ _ _ _ _ (U3 K) (JV ag (pv 0) (pv 2) (λ_ _=>rfl)) Gg (λ_ _=>rfl)) rfl (by first | exact .inl rfl | exact .inr rfl))
    (@Gc _ _ _ _ _ (@Gm _ _ 5 _ _ _ _ scIsc.nd rfl (Or.inl rfl) Gg rfl (by first | exact .inl rfl | exact .inr rfl))
    (@Gc _ _ _ _ _ (VR Ycm (Go (ZE K ac) (pv 4) (pv 2) (Gv _))
    (@Gc _ _ _ _ _ (U2 (i:=6) scIsc.nd rfl (Or.inl rfl) (own:=["other"]) rfl (Gk (fr:=[("before", 3)]) [(".0", .local),("other", .local),("before", .cell)] rfl rfl (by decide +kernel) rfl (by decide +kernel) ⟨rfl,trivial⟩ ⟨λh=>GG h,λh=>GG h,λ_=>⟨_,rfl⟩,trivial⟩ ⟨⟨rfl,.inl rfl,.inl rfl⟩,trivial⟩) (Oy K (JV ag (pv 0) (pv 4) (λ_ _=>rfl))) (λ_ _ _ _=>Gi (i:=0) (show List.Nodup (["other", "before"]:List Str) by decide +kernel) rfl (Or.inl rfl)) (λ_ _ _ _=>Jm (Go (ZE K ac) (pv 0) (pv 1) (Gv _))) (λ_ _ _ _=>pv 0))
    (@Gc _ _ _ _ _ (@Gm _ _ 3 _ _ _ _ scIsc.nd rfl (Or.inr rfl) (pv 4) rfl (by first | exact .inl rfl | exact .inr rfl))
    (@Gc _ _ _ _ _ (@Gm _ _ 4 _ _ _ _ scIsc.nd rfl (Or.inl rfl) (@GE _ _ _ _ _ _ _ (U3 K) (pv 6) Gg (λ_ _=>rfl)) rfl (by first | exact .inl rfl | exact .inr rfl))
    (@Gf _ _ _ (@Gm _ _ 5 _ _ _ _ scIsc.nd rfl (Or.inl rfl) (@Gw _ _ _ _ _ _ _ _ GY (pv 5) Gg) rfl (by first | exact .inl rfl | exact .inr rfl)))))))
    (@Gf _ _ _ (@Gs _ _ _ _ (Jr UV (pv 5) (pv 1) (Gv _)))))))))),?_⟩
  refine ⟨_,rfl,?_⟩;refine ⟨rfl,_,rfl,?_⟩;rw [VS];by_cases m0:many=0
  ·have q0:∀H',Same H H'->Q (.bl false) H':=by
    rcases hq with ⟨_,q⟩ | ⟨h,_⟩
    ·exact q
    ·exact absurd m0 h
   subst m0;exact JQ (q0 H (Same.refl _))
  have a3:¬ ((many:Int)=0):=by lia
  rw [show ((many:Int) == 0)=false from Ydw.mpr a3];refine JI ?_;refine ⟨_,rfl,d,_,rfl,.inr ⟨o,hd,λD hD=>?_⟩⟩;refine Zo (a:=d) (o:=o) (kvs:=zs.map kvZ) (λi ys H2=>∃us:PZ,ys=us.map (λu=>V.ref u.1)/\Same H H2/\H2 D=some (.lst ys)/\PzOk H2 us/\us.length<=i/\(us=[]↔∀z∈zs.take i,z.2.2.length=2)) ⟨[],rfl,Same.new hD,Gb,(show PzOk _ [] from λu Z=>by cases Z),Yac _,by simp⟩ (λi ys H2 _ ⟨_,_,s2,_⟩=>s2 _ _ hd) ?_ ?_
  ·rintro j kk v b ys H2 as hb ⟨us,rfl,s2,eD,ah,ul,ad⟩;rw [Yau] at as;obtain ⟨z,U,ep⟩:=Ybg.mp as;have N:=Ybs U;obtain ⟨rfl,rfl⟩:kk=z.1.map Sum.inl/\v=.ref z.2.1:=Prod.mk.inj ep.symm;have a4:j<zs.length:=(Ybf.mp U).1;rw [OE] at hb;have dg:=ZgP (ok.same s2) N (s2 _ _ hd) hb;have zl:=z2.2.2;have tk:zs.take (j+1)=zs.take j++[z]:=by rw [Ybw,U];rfl
   refine ⟨⟨rfl,trivial⟩,?_⟩;refine ⟨_,rfl,_,rfl,d,_,rfl,dg,z.2.1,_,rfl,.inl (SqL.of ((ok.same s2).at_ z N)),rfl,_,rfl,OA (λy=>?_) (λy=>?_)⟩
   ·have y':z.2.2.length≠2:=λe=>by rw [Yaa,e] at y;simp at y
    refine ⟨_,rfl,eD,by rw [Yaa];lia,us++[(b,z.1)],by rw [Yal];rfl,s2.put hD,Gb,λu Z=>?_,by rw [Yan,Ybl];lia,?_⟩
    ·rcases Yav.mp Z with Z | Z
     ·have:=ah u Z;exact ⟨Gq this.1 (λe=>by rw [e,eD] at this;cases this.1),this.2⟩
     ·rw [Yas.mp Z];exact ⟨Gq hb (λe=>by have e:b=D:=e;rw [e,eD] at hb;cases hb),k2 z N⟩
    ·constructor
     ·intro e;simp at e
     ·intro h;exact absurd (h z (by rw [tk];simp)) y'
   ·have y':z.2.2.length=2:=by
     rw [Yaa] at y;refine Classical.byContradiction λe=>y ?_;rw [Bool.not_eq_true',decide_eq_false_iff_not];intro h;injection h with h
     lia
    refine ⟨us,rfl,s2,eD,ah,by lia,ad.trans ⟨λh y hy=>?_,λh y hy=>h y (by rw [tk];exact Yeo _ hy)⟩⟩;rw [tk] at hy;rcases Yav.mp hy with hy | hy
    ·exact h y hy
    ·rw [Yas.mp hy];exact y'
  ·rintro ys H2 ⟨us,rfl,s2,eD,ah,ul,ad⟩;rw [Yaa,Yce] at ad;refine ⟨Ybc _,λL hL=>⟨_,_,.lst (SqL.of (Gq eD (λe=>by rw [e,hL] at eD;cases eD))) (ah.same (Same.new hL)).dats,.lst (SqL.of Gb) .nil,Zy _,rfl,_,rfl,?_⟩⟩;have s3:Same H2 (upd H2 L (.lst [])):=Same.new hL;generalize upd H2 L (.lst [])=H3 at s3 ⊢;have S3:=s2.trans s3;rw [ZeK];by_cases ue:us=[]
   ·rw [Yae ue];refine JI ?_;have ae:=ad.mp ue;rcases hq with ⟨m | ⟨p,hp,a5⟩,_⟩ | ⟨_,_,ne,hq⟩
    ·exact absurd m m0
    ·obtain ⟨z,U,rfl⟩:=Yam.mp hp;exact absurd (by rw [Yaa];exact ae z U) a5
    have d3:=S3 _ _ hd;have aG:=ok.same S3;have kz:(zs.map kvZ).map (·.1)=(zs.map (·.1)).map λn=>n.map Sum.inl:=by rw [Yca,Yca];rfl
    have zl:=z2.2.2;refine ⟨_,rfl,d,_,zs.map (·.1),rfl,.inr ⟨o,d3⟩,kz,by rw [Yaa];lia,λl ks hl hk au=>?_⟩;have s4:Same H3 (upd H3 l (.lst (ks.map λz=>V.ref z.1))):=Same.new hl;have e4:upd H3 l (.lst (ks.map λz=>V.ref z.1)) l=some (.lst (ks.map λz=>V.ref z.1)):=Gb;generalize upd H3 l (.lst (ks.map λz=>V.ref z.1))=H4 at s4 e4 ⊢;have S4:=S3.trans s4;have a6:ks.map (·.2)≠[]:=by
     rw [hk];intro e;rw [List.map_eq_nil_iff] at e;subst e;exact ne rfl
    refine ⟨l,_,ks.map (·.2),rfl,SqL.of e4,ZdC λz U=>s4 _ _ (au z U),a6,λt first al=>?_⟩;obtain ⟨⟨i,av,ai⟩,_⟩:=al;rw [Yau] at av ai;obtain ⟨y,hy,ey⟩:=Ybg.mp av;rw [hy] at ai;have aw:=Ybs hy;have ft:H4 t=some (.tup (first.map V.int)):=by
     have:=s4 _ _ (au y aw);injection ey with ey
     rw [<-ey,<-Yaw ai];exact this
    have fm:first∈(nmZ zs).map (·.1):=by
     have:first∈zs.map (·.1):=by rw [<-hk];exact Yam.mpr ⟨y,aw,Yaw ai⟩
     obtain ⟨z,U,e⟩:=Yam.mp this;exact Yam.mpr ⟨(z.1,z.2.2.map (·.2)),Yam.mpr ⟨z,U,rfl⟩,e⟩
    obtain ⟨h0,tl,r,ax,ay,q⟩:=hq first fm
    dsimp only [GB];have f2:first.length=2:=by
     obtain ⟨p,hp,e⟩:=Yam.mp fm;obtain ⟨z,U,rfl⟩:=Yam.mp hp;rw [<-e];exact k2 z U
    have near:∀{k:List Int}{ns:List (List Int)}{H5:Hp}{b:Addr},Same H H5->H5 b=some (.tup (k.map V.int))->Ot (nmZ zs) k=some ns->∃z∈zs,DGet H5 d (.ref b) (some (.ref z.2.1))/\ns=z.2.2.map (·.2):=by
     intro k ns H5 b S hb hg;rw [VN] at hg;obtain ⟨z,U,rfl⟩:=Ybg.mp hg;have N:=List.mem_of_find?_eq_some U;have a7:z.1=k:=by have:=List.find?_some U;exact Yba this
     subst a7;exact ⟨z,N,ZgP (ok.same S) N (S _ _ hd) hb,rfl⟩
    obtain ⟨z,N,dg,ez⟩:=near S4 ft ax;obtain ⟨u0,aH,eu⟩:∃u us,z.2.2=u::us:=by
     cases hh:z.2.2 with
     | nil=>rw [hh] at ez;cases ez
     | cons u us=>exact ⟨u,us,rfl⟩
    have az:u0∈z.2.2:=by rw [eu];exact Yaz ..
    have a8:u0.2=h0:=by rw [eu] at ez;exact (List.cons.inj ez).1.symm
    refine ⟨_,rfl,_,rfl,_,rfl,d,_,rfl,dg,z.2.1,_,0,.ref u0.1,rfl,rfl,SqL.of ((ok.same S4).at_ z N),by rw [eu];exact VZ (n:=0) (by decide) (by simp),?_⟩;dsimp only [GB];have a9:=ok.same S4;have aA:=a9.el z N u0 az;have aB:=z2.1 z N u0 az;refine ⟨λm σ H5=>∃(bf B:List Int)(bb hb:Addr)(acc:List (List Int))(v6:Option V),σ=[some (.ref d),some (.int (many:Int)),some (.ref t),some (.ref bb),some (.ref hb),some (.int ((acc.length:Nat):Int)),v6]/\Same H4 H5/\H5 bb=some (.tup (bf.map V.int))/\H5 hb=some (.tup (B.map V.int))/\bf.length=2/\B.length=2/\ZeL (nbF (nmZ zs)) first m bf B acc=some r,
     ⟨400,first,u0.2,t,u0.1,[first],none,rfl,Same.refl _,ft,aA,f2,aB,by rw [a8];exact ay⟩,?_⟩
    rintro m σ H5 ⟨bf,B,bb,hb,acc,v6,rfl,s5,aC,am,bl,an,em⟩;obtain ⟨m,rfl⟩:∃m',m=m'+1:=by
     cases m with
     | zero=>cases em
     | succ m=>exact ⟨m,rfl⟩
    have S5:=S4.trans s5;refine ⟨_,rfl,_,rfl,plD B,plD first,Uv am an,Uv (s5 _ _ ft) f2,Jg _,Jg _,_,rfl,?_⟩;rw [ne2 an f2];unfold ZeL at em;by_cases c:B=first
    ·rw [if_pos c] at em;cases em;rw [Yae c];refine JI ?_;refine ⟨_,rfl,_,rfl,rfl,?_⟩;rw [VS,show (((r.length:Nat):Int) == (many:Int))=decide (r.length=many) from by
      by_cases e:r.length=many
      ·rw [e,Yae rfl];exact Yei _
      ·rw [Yak e];exact Ydw.mpr λh=>e (by lia)]
     exact q H5 S5
    rw [if_neg c] at em;obtain ⟨x,hx,ex⟩:=Option.bind_eq_some_iff.mp em;rw [Yak c];refine JQ ?_;have af:((nbF (nmZ zs) B).filter λo=>!decide (o=bf)).head?=some x:=hx;obtain ⟨ns,a0⟩:∃ns,Ot (nmZ zs) B=some ns:=by
     cases hh:Ot (nmZ zs) B with
     | none=>unfold nbF at af;rw [hh] at af;cases af
     | some ns=>exact ⟨ns,rfl⟩
    obtain ⟨Y,O,aD,rfl⟩:=near S5 am a0;have aj:=ok.same S5;refine ⟨λσ H6=>∃(bf B:List Int)(bb hb:Addr)(acc:List (List Int))(v6:Option V),σ=[some (.ref d),some (.int (many:Int)),some (.ref t),some (.ref bb),some (.ref hb),some (.int ((acc.length:Nat):Int)),v6]/\Same H4 H6/\H6 bb=some (.tup (bf.map V.int))/\H6 hb=some (.tup (B.map V.int))/\bf.length=2/\B.length=2/\ZeL (nbF (nmZ zs)) first m bf B acc=some r,λσ' H' hN=>⟨m,by lia,hN⟩,?_⟩;refine ⟨_,rfl,_,rfl,d,_,rfl,aD,Y.2.1,rfl,⟨_,SqL.of (aj.at_ Y O)⟩,λD2 a1=>?_⟩;have e2:∀e∈Y.2.2,e.2.length=2:=z2.1 Y O;refine GF (K:=K) (a:=Y.2.1) (xs:=Y.2.2.map λe=>V.ref e.1) (λj ys H6=>∃us:List (Addr×List Int),ys=us.map (λz=>V.ref z.1)/\Same H5 H6/\H6 D2=some (.lst ys)/\us=(Y.2.2.take j).filter λe=>!decide (e.2=bf)) ⟨[],rfl,Same.new a1,Gb,by simp⟩ (λj ys H6 _ ⟨us,_,s6,_⟩=>SqL.of (s6 _ _ (aj.at_ Y O))) ?_ ?_
    ·rintro j x ys H6 hx ⟨us,rfl,s6,ak,aa⟩;rw [Yau] at hx;obtain ⟨u,Z,rfl⟩:=Ybg.mp hx;have ab:=Ybs Z;have a4:j<Y.2.2.length:=(Ybf.mp Z).1;have ul:us.length<=j:=by
      rw [aa];have:=Ych (λe:Addr×List Int=>!decide (e.2=bf)) (Y.2.2.take j);rw [Ybn] at this
      lia
     have aI:=z2.2.1 Y O;refine ⟨⟨rfl,trivial⟩,?_⟩;refine ⟨_,rfl,_,rfl,plD u.2,plD bf,Uv (s6 _ _ (aj.el Y O u ab)) (e2 u ab),Uv (s6 _ _ aC) bl,Jg _,Jg _,_,rfl,?_⟩;rw [ne2 (e2 u ab) bl];have tk:(Y.2.2.take (j+1)).filter (λe=>!decide (e.2=bf))=us++[u].filter λe=>!decide (e.2=bf):=by rw [Ybw,Z,Ydv,<-aa];rfl
     refine OA (λy=>?_) (λy=>?_)
     ·refine ⟨_,rfl,ak,by rw [Yaa];lia,us++[u],by rw [Yal];rfl,s6.put a1,Gb,?_⟩;rw [tk,List.filter_cons,if_pos y]
      rfl
     ·refine ⟨us,rfl,s6,ak,?_⟩;rw [tk,List.filter_cons,if_neg y];simp
    ·rintro ys H6 ⟨us,rfl,s6,ak,aa⟩;rw [Yaa,Yce] at aa;have um:us.map (·.2)=(nbF (nmZ zs) B).filter λo=>!decide (o=bf):=by
      unfold nbF;rw [a0,aa];show _=List.filter _ (Y.2.2.map (·.2));rw [List.filter_map]
      rfl
     rw [<-um,List.head?_map] at af;obtain ⟨u,Z,rfl⟩:=Ybg.mp af;have ab:u∈Y.2.2:=(Ybk.mp (by rw [<-aa];exact List.mem_of_mem_head? (by rw [Z];rfl))).1;have aE:atI (us.map λz=>V.ref z.1) 0=some (.ref u.1):=by
      cases us with
      | nil=>cases Z
      | cons u' us'=>rw [show u'=u from Yaw Z];exact VZ (n:=0) (by decide) (by simp)
     dsimp only [GB];refine ⟨_,rfl,_,rfl,D2,_,0,.ref u.1,rfl,rfl,SqL.of ak,aE,?_⟩;dsimp only [GB];refine ⟨_,rfl,_,_,rfl,rfl,?_⟩;have S6:=s6;refine ⟨B,u.2,hb,u.1,acc++[B],some (.ref D2),?_,s5.trans s6,s6 _ _ am,s6 _ _ (aj.el Y O u ab),an,e2 u ab,ex⟩;rw [show (((acc++[B]).length:Nat):Int)=(acc.length:Int)+1 from by rw [Yan,Ybl];push_cast;rfl]
     rfl
   ·rw [Yak ue];refine JQ ?_;rcases hq with ⟨_,q⟩ | ⟨_,ae,_⟩
    ·exact q H3 S3
    ·exact absurd (ad.mpr λz U=>by have:=ae (z.1,z.2.2.map (·.2)) (Yam.mpr ⟨z,U,rfl⟩);rwa [Yaa] at this) ue
theorem ZcS {H:Hp}{d b:Addr}{o:Obj}{ks:KI}{m:List Int}{n:Int}(B:H d=some (.frz o (.dT (ks.map kvI))))(D:H b=some (.tup (m.map V.int)))(g:OO ks m=some n):DGet H d (.ref b) (some (.int n)):=by
 have e:JJ (ks.map kvI) (m.map Sum.inl)=some (V.int n):=by rw [ZeA,g];rfl
 rw [<-e];exact Or.inr ⟨_,_,b,.inr ⟨o,B⟩,rfl,D.trans (by rw [OE]),rfl⟩
def ZgS:Sp:=λvs H Q _=>∃(d b:Addr)(o:Obj)(ks:KI)(r c n1 n2 n3 n4:Int),vs=[.ref d,.ref b]/\H d=some (.frz o (.dT (ks.map kvI)))/\H b=some (.tup [.int r,.int c])/\OO ks [r,c,0]=some n1/\OO ks [r,c,1]=some n2/\OO ks [r+1,c,0]=some n3/\OO ks [r,c+1,1]=some n4 /\
 ∀(l:Addr)(H':Hp),Same H H'->H l=none->H' l=some (.lst ([n1,n2,n3,n4].map V.int))->Q (.ref l) H'
theorem scRou:Gp ["numbers", "face", "row", "column", "found"] ["numbers", "face"] (Ge Zge):=⟨rfl,rfl,rfl,by decide +kernel,rfl,by decide +kernel,by decide +kernel⟩
theorem ZgT {f:Addr}{fd:FuncData}(F:Fun K "_law_round" "_law_round" Zge f fd):GJ P w K mg base CX0 1 f fd ["numbers", "face"] ZgS:=by
 refine F.ok scRou (λvs H Q E h=>?_) (λaa A ab s0 H vs Q E hr h=>?_)
 ·obtain ⟨_,_,_,_,_,_,_,_,_,_,rfl,_⟩:=h
  rfl
 ·obtain ⟨d,b,o,ks,r,c,Z,n2,n3,n4,rfl,hd,hb,g1,g2,g3,g4,q⟩:=h;have B:(A.deeper (PyProof.Rows.envOfC "_law_round" (Ge Zge) s0.heap.objs.size f aa)).units+1<cLine:=by have:=hr.un;lia
  have ae:=Yay.symm;refine ⟨_,(@Gc _ _ _ _ _ (@J8 _ _ _ _ _ _ (pv 1) (Wu K (n:=2) rfl (Gn (Gi (i:=2) scRou.nd rfl (Or.inl rfl)) (Gn (Gi (i:=3) scRou.nd rfl (Or.inl rfl)) Jb))) rfl rfl rfl)
    (@Gc _ _ _ _ _ (@Gm _ _ 4 _ _ _ _ scRou.nd rfl (Or.inl rfl) (@Ji _ _ _ _ (@Ga _ _ _ _ _ (JV B (pv 0) (@G0 _ _ _ _ _ (@Ga _ _ _ _ _ (pv 2) (@Ga _ _ _ _ _ (pv 3) (@Ga _ _ _ _ _ (Gg) Gd rfl) rfl) rfl)) (λ_ _=>rfl)) (@Ga _ _ _ _ _ (JV B (pv 0) (@G0 _ _ _ _ _ (@Ga _ _ _ _ _ (pv 2) (@Ga _ _ _ _ _ (pv 3) (@Ga _ _ _ _ _ (Gg) Gd rfl) rfl) rfl)) (λ_ _=>rfl)) Gd rfl) rfl)) rfl (by first | exact .inl rfl | exact .inr rfl))
    (@Gf _ _ _ (@Gs _ _ _ _ (@Gw _ _ _ _ _ _ _ _ Vz (pv 4) (@Ji _ _ _ _ (@Ga _ _ _ _ _ (JV B (pv 0) (@G0 _ _ _ _ _ (@Ga _ _ _ _ _ (@Gw _ _ _ _ _ _ _ _ GY (pv 2) Gg) (@Ga _ _ _ _ _ (pv 3) (@Ga _ _ _ _ _ (Gg) Gd rfl) rfl) rfl)) (λ_ _=>rfl)) (@Ga _ _ _ _ _ (JV B (pv 0) (@G0 _ _ _ _ _ (@Ga _ _ _ _ _ (pv 2) (@Ga _ _ _ _ _ (@Gw _ _ _ _ _ _ _ _ GY (pv 3) Gg) (@Ga _ _ _ _ _ (Gg) Gd rfl) rfl) rfl)) (λ_ _=>rfl)) Gd rfl) rfl))))))),?_⟩
  refine ⟨_,rfl,b,_,rfl,SqT.of hb,rfl,?_⟩;refine ⟨_,_,rfl,_,_,rfl,rfl,?_⟩;dsimp only [GB];have l3:3<=sizeLine:=by lia
  have l2:2<=sizeLine:=by lia
  refine ⟨_,rfl,_,rfl,_,rfl,l3,λt1 D=>⟨d,_,rfl,ZcS (o:=o) (ks:=ks) (m:=[r,c,0]) (Same.new D _ _ hd) Gb g1,?_⟩⟩;have s1:Same H (upd H t1 (.tup [.int r,.int c,.int 0])):=Same.new D;generalize upd H t1 (.tup [.int r,.int c,.int 0])=H1 at s1 ⊢;refine ⟨_,rfl,_,rfl,_,rfl,l3,λt2 G=>⟨d,_,rfl,ZcS (o:=o) (ks:=ks) (m:=[r,c,1]) (Same.new G _ _ (s1 _ _ hd)) Gb g2,?_⟩⟩;have s2:Same H1 (upd H1 t2 (.tup [.int r,.int c,.int 1])):=Same.new G;generalize upd H1 t2 (.tup [.int r,.int c,.int 1])=H2 at s2 ⊢;have S2:=s1.trans s2;refine ⟨l2,λL ac=>?_⟩;have s3:Same H2 (upd H2 L (.lst [.int Z,.int n2])):=Same.new ac;have e3:upd H2 L (.lst [.int Z,.int n2]) L=some (.lst [.int Z,.int n2]):=Gb;generalize upd H2 L (.lst [.int Z,.int n2])=H3 at s3 e3 ⊢;have S3:=S2.trans s3;dsimp only [GB];refine ⟨_,rfl,_,rfl,_,rfl,_,_,rfl,rfl,_,rfl,l3,λt4 N=>⟨d,_,rfl,ZcS (o:=o) (ks:=ks) (m:=[r+1,c,0]) (Same.new N _ _ (S3 _ _ hd)) Gb g3,?_⟩⟩;have s4:Same H3 (upd H3 t4 (.tup [.int (r+1),.int c,.int 0])):=Same.new N;generalize upd H3 t4 (.tup [.int (r+1),.int c,.int 0])=H4 at s4 ⊢;have S4:=S3.trans s4;refine ⟨_,rfl,_,rfl,_,rfl,_,_,rfl,rfl,l3,λt5 O=>⟨d,_,rfl,ZcS (o:=o) (ks:=ks) (m:=[r,c+1,1]) (Same.new O _ _ (S4 _ _ hd)) Gb g4,?_⟩⟩;have s5:Same H4 (upd H4 t5 (.tup [.int r,.int (c+1),.int 1])):=Same.new O;generalize upd H4 t5 (.tup [.int r,.int (c+1),.int 1])=H5 at s5 ⊢;have S5:=S4.trans s5;refine ⟨l2,λU ad=>?_⟩;have Y:Same H5 (upd H5 U (.lst [.int n3,.int n4])):=Same.new ad;have e6:upd H5 U (.lst [.int n3,.int n4]) U=some (.lst [.int n3,.int n4]):=Gb;generalize upd H5 U (.lst [.int n3,.int n4])=H6 at Y e6 ⊢;refine ⟨L,U,_,_,rfl,rfl,Y _ _ (s5 _ _ (s4 _ _ e3)),e6,by show 2+2<=sizeLine;lia,λl hl=>?_⟩;exact q l _ ((S5.trans Y).put ((S5.trans Y).free hl)) ((S5.trans Y).free hl) Gb
theorem IscR.mono {nm:NM}{B:Nat}{p q:Bool->Prop}(h:IscR nm B p)(i:∀b,p b->q b):IscR nm B q:=by
 rcases h with ⟨a,b⟩ | ⟨a,b,c,e⟩
 ·exact .inl ⟨a,i _ b⟩
 ·refine .inr ⟨a,b,c,λfirst D=>?_⟩;obtain ⟨h0,tl,r,F,G,L⟩:=e first D
  exact ⟨h0,tl,r,F,G,i _ L⟩
def YU (B:Nat)(n:Nat):List (List Int):=(List.range n).flatMap λ(r:Nat)=>(List.range (B-1)).map λ(c:Nat)=>[(r:Int),(c:Int)]
theorem Xn (B n:Nat):YU B (n+1)=YU B n++(List.range (B-1)).map λ(c:Nat)=>[(n:Int),(c:Int)]:=by
 unfold YU;rw [List.range_succ,List.flatMap_append];simp
theorem Wm (cols:Nat):∀n,(YU cols n).length=n * (cols-1)
 | 0=>by simp [YU]
 | n+1=>by rw [Xn,Yan,Wm cols n,Yaa,Ycb,Nat.succ_mul]
theorem ZcT {B n:Nat}{x:List Int}(h:x∈YU B n):∃r c:Nat,r<n/\c+1<B/\x=[(r:Int),(c:Int)]:=by
 unfold YU at h;obtain ⟨r,D,F⟩:=List.mem_flatMap.mp h;obtain ⟨c,G,rfl⟩:=Yam.mp F;rw [Ybq] at D G;exact ⟨r,c,D,by lia,rfl⟩
def FacOk (H:Hp)(us:PZ):Prop:=∀u∈us,H u.1=some (.tup (u.2.map V.int))
theorem FacOk.same {H H':Hp}{us:PZ}(h:FacOk H us)(s:Same H H'):FacOk H' us:=λu B=>s _ _ (h u B)
def ZiR (a b ms:List Int):Prop:=ms.Perm (a.filter (λx=>!decide (x∈b))++b.filter λx=>!decide (x∈a))/\ms.Pairwise (· <= ·)
def ZeO (ks:KI)(k:List Int)(l:List Int):Prop:=∃r c B D F G:Int,k=[r,c]/\OO ks [r,c,0]=some B/\OO ks [r,c,1]=some D/\OO ks [r+1,c,0]=some F/\OO ks [r,c+1,1]=some G/\l=[B,D,F,G]
structure ZdD (ks:KI)(rows cols:Nat)(Inv:List Int->Prop):Prop where
 ks200:ks.length<=200
 tri:∀p∈ks,∃a b c:Int,p.1=[a,b,c]
 rou:∀k∈YU cols (rows-1),∃l,ZeO ks k l
 fst:∀k∈YU cols (rows-1),∀l ms,ZeO ks k l->ms.Perm l->ms.Pairwise (· <= ·)->Inv ms
 len:∀ms,Inv ms->ms.length<=200
 nxt:∀k∈YU cols (rows-1),∀l rs ms,ZeO ks k l->Inv rs->ZiR rs l ms->IscR (Jc ks ms) ms.length λb=>b=true->Inv ms
theorem ZcU (c:Int)(cs:List Int):WG ((c::cs).map V.int) (some 1) none=cs.map V.int:=Yr (k:=1)
def ZgU:Sp:=λvs H Q _=>∃(d cl:Addr)(o:Obj)(ks:KI)(rows cols:Nat)(cells:List Int)(Inv:List Int->Prop),vs=[.ref d,.int (rows:Int),.int (cols:Int),.ref cl]/\H d=some (.frz o (.dT (ks.map kvI)))/\H cl=some (.lst (cells.map V.int))/\cells≠[]/\cells.length<=300/\2<=rows/\rows<=12/\2<=cols/\cols<=12/\ZdD ks rows cols Inv /\
 ∀(l:Addr)(rs:List Int)(H':Hp),Same H H'->H l=none->H' l=some (.lst (rs.map V.int))->Inv rs->Q (.ref l) H'
theorem scDrw:Gp ["numbers", "rows", "columns", "cells", "faces", "row", "roads", "cell", "about", "more"] ["numbers", "rows", "columns", "cells"] (Ge Zhh):=⟨rfl,rfl,rfl,by decide +kernel,rfl,by decide +kernel,by decide +kernel⟩
theorem ZgV {f ad ae af:Addr}{fd O U Y:FuncData}(F:Fun K "_law_drawn_way" "_law_drawn_way" Zhh f fd)(aq:Fun K "_law_round" "_law_round" Zge ad O)(ar:Binds K O ["numbers", "face"] [])(as:mg "_law_round" = some (.ref ad))(au:GJ P w K mg base CX0 1 ad O ["numbers", "face"] ZgS)(a1:Fun K "_law_beside" "_law_beside" Zfa ae U)(a2:Binds K U ["numbers", "roads"] [])(a3:mg "_law_beside" = some (.ref ae))(a4:GJ P w K mg base CX0 1 ae U ["numbers", "roads"] ZeJ)(a5:Fun K "_law_is_closed" "_law_is_closed" Zfb af Y)(a6:Binds K Y ["near", "many"] [])(a7:mg "_law_is_closed" = some (.ref af))(a8:GJ P w K mg base CX0 1 af Y ["near", "many"] ZgQ)(aa:mg "range" = none)(ag:mg "len" = none)(av:mg "sorted" = none):GJ P w K mg base CX0 2 f fd ["numbers", "rows", "columns", "cells"] ZgU:=by
 refine F.ok scDrw (λvs H Q E h=>?_) (λbz A aZ s0 H vs Q E hr h=>?_)
 ·obtain ⟨_,_,_,_,_,_,_,_,rfl,_⟩:=h
  rfl
 ·obtain ⟨d,cl,o,ks,rows,B,cells,Inv,rfl,hd,a9,cne,bx,r2,b0,c2,b1,G,q⟩:=h;have b2:=Yay.symm;refine ⟨_,(@Gc _ _ _ _ _ (@Gm _ _ 4 _ _ _ _ scDrw.nd rfl (Or.inl rfl) (@Ji _ _ _ _ Gd) rfl (by first | exact .inl rfl | exact .inr rfl))
    (@Gc _ _ _ _ _ (@JY _ _ _ _ _ _ _ _ Ycm rfl (JX rfl aa (@Ga _ _ _ _ _ (@Gw _ _ _ _ _ _ _ _ UU (pv 1) Gg) Gd rfl)) (Gi (i:=5) scDrw.nd rfl (Or.inr rfl))
    (@Gf _ _ _ (@Gm _ _ 4 _ _ _ _ scDrw.nd rfl (Or.inl rfl) (@Gw _ _ _ _ _ _ _ _ Vz (pv 4) (Jd (own:=["column"]) rfl (Gk (fr:=[("row", 5)]) [(".0", .local),("column", .local),("row", .cell)] rfl rfl (by decide +kernel) rfl (by decide +kernel) ⟨rfl,trivial⟩ ⟨λh=>GG h,λh=>GG h,λ_=>⟨_,rfl⟩,trivial⟩ ⟨⟨rfl,.inl rfl,.inl rfl⟩,trivial⟩) (JX rfl aa (@Ga _ _ _ _ _ (@Gw _ _ _ _ _ _ _ _ UU (pv 2) Gg) Gd rfl)) (λ_ _ _ _=>Gi (i:=0) (show List.Nodup (["column", "row"]:List Str) by decide +kernel) rfl (Or.inl rfl)) (λ_ _ _ _=>JB) (λ_ _ _ _=>@G0 _ _ _ _ _ (@Ga _ _ _ _ _ (pv 1) (@Ga _ _ _ _ _ (pv 0) Gd rfl) rfl)))) rfl (by first | exact .inl rfl | exact .inr rfl))) (by intro _;rfl))
    (@Gc _ _ _ _ _ (@Gm _ _ 6 _ _ _ _ scDrw.nd rfl (Or.inr rfl) (Gu (ZaG K) rfl av PyProof.Rows.boot_sorted (@Ga _ _ _ _ _ (@Gj _ _ _ _ _ _ _ _ _ _ _ _ _ _ _ _ au (hr.mono (by decide)) rfl as aq.kp ar .nil GP (@Ga _ _ _ _ _ (pv 0) (@Ga _ _ _ _ _ (@GE _ _ _ _ _ _ _ (U3 K) (pv 4) (@Gw _ _ _ _ _ _ _ _ Ur (@GE _ _ _ _ _ _ _ (U3 K) (pv 3) Gg (λ_ _=>rfl)) (Gu (Zd7 K) rfl ag Yde (@Ga _ _ _ _ _ (pv 4) Gd rfl))) (λ_ _=>rfl)) Gd rfl) rfl) (by decide) rfl rfl) Gd rfl)) rfl (by first | exact .inl rfl | exact .inr rfl))
    (@Gc _ _ _ _ _ (@JY _ _ _ _ _ _ _ _ Ycm rfl (Oy K (Oj (kSl K) (pv 3) (OG Gg) UX)) (Gi (i:=7) scDrw.nd rfl (Or.inl rfl))
    (@Gc _ _ _ _ _ (@Gm _ _ 8 _ _ _ _ scDrw.nd rfl (Or.inr rfl) (@Gj _ _ _ _ _ _ _ _ _ _ _ _ _ _ _ _ au (hr.mono (by decide)) rfl as aq.kp ar .nil GP (@Ga _ _ _ _ _ (pv 0) (@Ga _ _ _ _ _ (@GE _ _ _ _ _ _ _ (U3 K) (pv 4) (@Gw _ _ _ _ _ _ _ _ Ur (pv 7) (Gu (Zd7 K) rfl ag Yde (@Ga _ _ _ _ _ (pv 4) Gd rfl))) (λ_ _=>rfl)) Gd rfl) rfl) (by decide) rfl rfl) rfl (by first | exact .inl rfl | exact .inr rfl))
    (@Gc _ _ _ _ _ (@Gm _ _ 9 _ _ _ _ scDrw.nd rfl (Or.inl rfl) (Gu (ZaG K) rfl av PyProof.Rows.boot_sorted (@Ga _ _ _ _ _ (@Gw _ _ _ _ _ _ _ _ Vz (Jd (own:=["road"]) rfl (Gk (fr:=[("about", 8)]) [(".0", .local),("road", .local),("about", .cell)] rfl rfl (by decide +kernel) rfl (by decide +kernel) ⟨rfl,trivial⟩ ⟨λh=>GG h,λh=>GG h,λ_=>⟨_,rfl⟩,trivial⟩ ⟨⟨rfl,.inl rfl,.inl rfl⟩,trivial⟩) (Oy K (pv 6)) (λ_ _ _ _=>Gi (i:=0) (show List.Nodup (["road", "about"]:List Str) by decide +kernel) rfl (Or.inl rfl)) (λ_ _ _ _=>Jm (Go (Zac K) (pv 0) (pv 1) (by with_unfolding_all rfl))) (λ_ _ _ _=>pv 0)) (Jd (own:=["road"]) rfl (Gk (fr:=[("roads", 6)]) [(".0", .local),("road", .local),("roads", .cell)] rfl rfl (by decide +kernel) rfl (by decide +kernel) ⟨rfl,trivial⟩ ⟨λh=>GG h,λh=>GG h,λ_=>⟨_,rfl⟩,trivial⟩ ⟨⟨rfl,.inl rfl,.inl rfl⟩,trivial⟩) (Oy K (pv 8)) (λ_ _ _ _=>Gi (i:=0) (show List.Nodup (["road", "roads"]:List Str) by decide +kernel) rfl (Or.inl rfl)) (λ_ _ _ _=>Jm (Go (Zac K) (pv 0) (pv 1) (by with_unfolding_all rfl))) (λ_ _ _ _=>pv 0))) Gd rfl)) rfl (by first | exact .inl rfl | exact .inr rfl))
    (@Gf _ _ _ (@Jn _ _ _ _ _ _ _ _ (JL (@Gj _ _ _ _ _ _ _ _ _ _ _ _ _ _ _ _ a8 (hr.mono (by decide)) rfl a7 a5.kp a6 .nil GP (@Ga _ _ _ _ _ (@Gj _ _ _ _ _ _ _ _ _ _ _ _ _ _ _ _ a4 (hr.mono (by decide)) rfl a3 a1.kp a2 .nil GP (@Ga _ _ _ _ _ (pv 0) (@Ga _ _ _ _ _ (pv 9) Gd rfl) rfl) (by decide) rfl rfl) (@Ga _ _ _ _ _ (Gu (Zd7 K) rfl ag Yde (@Ga _ _ _ _ _ (pv 9) Gd rfl)) Gd rfl) rfl) (by decide) rfl rfl)) (@Gf _ _ _ (@Gm _ _ 6 _ _ _ _ scDrw.nd rfl (Or.inr rfl) (pv 9) rfl (by first | exact .inl rfl | exact .inr rfl))) Gz)))) (by intro _;rfl))
    (@Gf _ _ _ (@Gs _ _ _ _ (pv 6))))))),?_⟩
  refine ⟨Ybc _,λL ba=>?_⟩;have s1:Same H (upd H L (.lst [])):=Same.new ba;have e1:upd H L (.lst []) L=some (.lst []):=Gb;generalize upd H L (.lst [])=H1 at s1 e1 ⊢;dsimp only [GB];have er:((rows:Int)-1).toNat=rows-1:=by lia
  have ec:((B:Int)-1).toNat=B-1:=by lia
  refine ⟨_,rfl,_,_,rfl,rfl,_,rfl,by lia,by lia,?_⟩;rw [er];refine JZ (lo:=0) (λi σ H2=>∃(v5:Option V)(L:Addr)(us:PZ),σ=[some (.ref d),some (.int (rows:Int)),some (.int (B:Int)),some (.ref cl),some (.ref L),v5,none,none,none,none]/\Same H H2/\H2 L=some (.lst (us.map λu=>V.ref u.1))/\FacOk H2 us/\us.map (·.2)=YU B i) ⟨none,L,[],rfl,s1,e1,(show FacOk _ [] from λu Z=>by cases Z),rfl⟩ ?_ ?_
  ·rintro i σ H2 hi ⟨v5,L,us,rfl,s2,e2,fo,fm⟩;rw [Int.zero_add];dsimp only [GB];refine ⟨_,rfl,_,rfl,_,_,rfl,rfl,_,rfl,by lia,by lia,λD hD=>?_⟩;rw [ec];refine VD (lo:=0) (λj ys N=>∃ws:PZ,ys=ws.map (λu=>V.ref u.1)/\Same H2 N/\N D=some (.lst ys)/\FacOk N ws/\ws.map (·.2)=(List.range j).map λ(c:Nat)=>[(i:Int),(c:Int)]) ⟨[],rfl,Same.new hD,Gb,(show FacOk _ [] from λu Z=>by cases Z),rfl⟩ ?_ ?_
   ·rintro j ys N hj ⟨ws,rfl,s3,eD,wo,wm⟩;rw [Int.zero_add];have wl:ws.length=j:=by have:=Ybb List.length wm;rwa [Yaa,Yaa,Ycb] at this
    refine ⟨⟨rfl,trivial⟩,?_⟩;refine ⟨_,rfl,_,rfl,by show 2<=sizeLine;lia,λT hT=>?_⟩;have bb:D≠T:=Gh eD hT;have sT:Same N (upd N T (.tup [.int (i:Int),.int (j:Int)])):=Same.new hT;have eT:upd N T (.tup [.int (i:Int),.int (j:Int)]) T=some (.tup [.int (i:Int),.int (j:Int)]):=Gb;generalize upd N T (.tup [.int (i:Int),.int (j:Int)])=H4 at sT eT ⊢;have aA:=sT _ _ eD;refine ⟨aA,by rw [Yaa];lia,ws++[(T,[(i:Int),(j:Int)])],by rw [Yal];rfl,(s3.trans sT).put hD,Gb,λu Z=>?_,by rw [Yal,wm,List.range_succ,Yal];rfl⟩;rcases Yav.mp Z with Z | Z
    ·have h5:=sT _ _ (wo u Z);exact Gq h5 (λe=>by rw [e,aA] at h5;cases h5)
    ·rw [Yas.mp Z];exact Gq eT (λe=>by have e:T=D:=e;exact bb e.symm)
   ·rintro ys N ⟨ws,rfl,s3,eD,wo,wm⟩;have ul:us.length=i * (B-1):=by have:=Ybb List.length fm;rwa [Yaa,Wm] at this
    have wl:ws.length=B-1:=by have:=Ybb List.length wm;rwa [Yaa,Yaa,Ycb] at this
    have ub:i * (B-1)<=12 * 12:=Nat.mul_le_mul (by lia) (by lia);refine ⟨L,D,_,_,rfl,rfl,s3 _ _ e2,eD,by rw [Yaa,Yaa];lia,λnl bc=>?_⟩;have s5:Same N (upd N nl (.lst (us.map (λu=>V.ref u.1)++ws.map λu=>V.ref u.1))):=Same.new bc;refine ⟨_,nl,us++ws,rfl,s2.trans (s3.trans s5),by rw [Yal];exact Gb,λu Z=>?_,by rw [Yal,fm,wm,Xn]⟩;rcases Yav.mp Z with Z | Z
    ·exact s5 _ _ (s3 _ _ (fo u Z))
    ·exact s5 _ _ (wo u Z)
  ·rintro σ H2 ⟨v5,L,us,rfl,s2,e2,fo,fm⟩;have ul:us.length=(rows-1) * (B-1):=by have:=Ybb List.length fm;rwa [Yaa,Wm] at this
   have ub:(rows-1) * (B-1)<=12 * 12:=Nat.mul_le_mul (by lia) (by lia);have up:1 * 1<=(rows-1) * (B-1):=Nat.mul_le_mul (by lia) (by lia);have aw:∀n:Int,∃u∈us,atI (us.map λu=>V.ref u.1) (n % ((us.map λu=>V.ref u.1).length:Int))=some (.ref u.1):=λn=>by
    rw [Yaa];have m0:(0:Int)<(us.length:Int):=by lia
    have h1:=Int.emod_nonneg n (show (us.length:Int)≠0 by lia);have h2:=Int.emod_lt_of_pos n m0;obtain ⟨k,hk⟩:∃k:Nat,n % (us.length:Int)=(k:Int):=⟨(n % (us.length:Int)).toNat,by lia⟩;rw [hk] at h2 ⊢;have aB:k<us.length:=by lia
    refine ⟨us[k],Ycd aB,?_⟩;refine GD (j:=k) ?_;rw [Yau,Yah aB]
    rfl
   obtain ⟨c0,cs,rfl⟩:∃c0 cs,cells=c0::cs:=by
    cases cells with
    | nil=>exact absurd rfl cne
    | cons c cs=>exact ⟨c,cs,rfl⟩
   have lp:(0:Int)<(((us.map λu=>V.ref u.1).length:Nat):Int):=by rw [Yaa];lia
   obtain ⟨u0,aC,bd⟩:=aw c0;have k0:u0.2∈YU B (rows-1):=by rw [<-fm];exact Yam.mpr ⟨u0,aC,rfl⟩
   obtain ⟨l0,aD⟩:=G.rou _ k0;have aE:=aD;obtain ⟨r,c,n1,n2,n3,n4,ek,g1,g2,g3,g4,el⟩:=aD;have aF:=fo u0 aC;rw [ek] at aF;refine ⟨_,rfl,_,rfl,_,rfl,cl,_,0,.int c0,rfl,rfl,SqL.of (s2 _ _ a9),GD (j:=0) rfl,_,rfl,L,_,rfl,.inl (SqL.of e2),_,_,rfl,rfl,lp,L,_,_,_,rfl,rfl,SqL.of e2,bd,?_⟩;refine ⟨d,u0.1,o,ks,r,c,n1,n2,n3,n4,rfl,s2 _ _ hd,aF,g1,g2,g3,g4,λrl N s3 b3 be=>?_⟩;refine ⟨rl,_,rfl,SqL.of be,λrv ms aG pm so=>?_⟩;have s4:Same N (upd N rv (.lst (ms.map V.int))):=Same.new aG;have e4:upd N rv (.lst (ms.map V.int)) rv=some (.lst (ms.map V.int)):=Gb;have S4:=s2.trans (s3.trans s4);have aH:H rv=none:=(s2.trans s3).free aG;generalize upd N rv (.lst (ms.map V.int))=H4 at s4 e4 S4 ⊢;have aI:Inv ms:=G.fst _ k0 l0 ms aE (by rw [el];exact pm) so;dsimp only [GB];refine ⟨_,rfl,_,rfl,cl,_,rfl,SqL.of (S4 _ _ a9),λsl bf=>?_⟩;have s5:Same H4 (upd H4 sl (.lst (WG ((c0::cs).map V.int) (some 1) none))):=Same.new bf;have e5:upd H4 sl (.lst (WG ((c0::cs).map V.int) (some 1) none)) sl=some (.lst (cs.map V.int)):=by
    rw [show WG ((c0::cs).map V.int) (some 1) none=cs.map V.int from ZcU c0 cs];exact Gb
   generalize upd H4 sl (.lst (WG ((c0::cs).map V.int) (some 1) none))=H5 at s5 e5 ⊢;have S5:=S4.trans s5;refine ⟨sl,rfl,⟨_,SqL.of e5⟩,?_⟩;have bg:FacOk H5 us:=fo.same (s3.trans (s4.trans s5));have bh:=(s3.trans (s4.trans s5)) _ _ e2;refine Ye (K:=K) (a:=sl) (xs:=cs.map V.int) (λi σ H6=>∃(v7 v8 v9:Option V)(ra:Addr)(rs:List Int),σ=[some (.ref d),some (.int (rows:Int)),some (.int (B:Int)),some (.ref cl),some (.ref L),v5,some (.ref ra),v7,v8,v9]/\Same H5 H6/\H ra=none/\H6 ra=some (.lst (rs.map V.int))/\Inv rs) ⟨none,none,none,rv,ms,rfl,Same.refl _,aH,s5 _ _ e4,aI⟩ (λi σ H6 _ ⟨_,_,_,_,_,_,s6,_⟩=>SqL.of (s6 _ _ e5)) ?_ ?_
   ·rintro i x σ H6 hx ⟨v7,v8,v9,ra,rs,rfl,s6,az,a0,ah⟩;rw [Yau] at hx;obtain ⟨ac,_,rfl⟩:=Ybg.mp hx;have S6:=S5.trans s6;obtain ⟨u1,aJ,bi⟩:=aw ac;have k1:u1.2∈YU B (rows-1):=by rw [<-fm];exact Yam.mpr ⟨u1,aJ,rfl⟩
    obtain ⟨l1,aK⟩:=G.rou _ k1;have aL:=aK;obtain ⟨r',c',m1,m2,m3,m4,bj,bl,bm,bn,bo,bp⟩:=aK;have aM:=s6 _ _ (bg u1 aJ);rw [bj] at aM;have aN:=s6 _ _ bh;dsimp only [GB];refine ⟨_,rfl,_,rfl,_,rfl,_,rfl,L,_,rfl,.inl (SqL.of aN),_,_,rfl,rfl,lp,L,_,_,_,rfl,rfl,SqL.of aN,bi,?_⟩;refine ⟨d,u1.1,o,ks,r',c',m1,m2,m3,m4,rfl,S6 _ _ hd,aM,bl,bm,bn,bo,λab H7 s7 b4 aO=>?_⟩;have S7:=S6.trans s7;have ai:=s7 _ _ a0;dsimp only [GB];refine ⟨_,rfl,ra,rfl,⟨_,SqL.of ai⟩,λD1 aP=>?_⟩;have aj:∀(ys zs:List Int)(i:Nat)(y:Int),ys[i]?=some y->(ys.take (i+1)).filter (λx=>!decide (x∈zs))=(ys.take i).filter (λx=>!decide (x∈zs))++if (!decide (y∈zs))=true then [y] else []:=λys zs i y hy=>by
     rw [Ybw,hy,Ydv]
     congr 1
     cases hh:(!decide (y∈zs)) <;> simp [List.filter_cons,hh]
    have b5:=G.len rs ah;have f4:[m1,m2,m3,m4].length=4:=rfl;subst bp;refine GF (K:=K) (a:=ra) (xs:=rs.map V.int) (λj ys H8=>Same H7 H8/\H8 D1=some (.lst ys)/\ys=((rs.take j).filter λx=>!decide (x∈[m1,m2,m3,m4])).map V.int) ⟨Same.new aP,Gb,by simp⟩ (λj ys H8 _ ⟨s8,_⟩=>SqL.of (s8 _ _ ai)) ?_ ?_
    ·rintro j x ys H8 hx ⟨s8,eD,rfl⟩;rw [Yau] at hx;obtain ⟨y,hy,rfl⟩:=Ybg.mp hx;refine ⟨⟨rfl,trivial⟩,?_⟩;refine ⟨_,rfl,_,rfl,ab,_,rfl,.inl (SqL.of (s8 _ _ aO)),rfl,Ou _,_,rfl,?_⟩;dsimp only [if_true];rw [O9,aj rs [m1,m2,m3,m4] j y hy];have fl:=Ych (λx=>!decide (x∈[m1,m2,m3,m4])) (rs.take j);rw [Ybn] at fl;refine OA (λz=>?_) (λz=>?_)
     ·have z':(!decide (y∈[m1,m2,m3,m4]))=true:=z;exact ⟨_,rfl,eD,by rw [Yaa];lia,s8.put aP,Gb,by rw [if_pos z',Yal];rfl⟩
     ·have z':¬ (!decide (y∈[m1,m2,m3,m4]))=true:=z;exact ⟨s8,eD,by rw [if_neg z',Ybr]⟩
    rintro ys H8 ⟨s8,aQ,rfl⟩;rw [Yaa,Yce] at aQ;have S8:=S7.trans s8;have ax:=s8 _ _ ai;have ay:=s8 _ _ aO;refine ⟨_,rfl,ab,rfl,⟨_,SqL.of ay⟩,λD2 aR=>?_⟩;refine GF (K:=K) (a:=ab) (xs:=[m1,m2,m3,m4].map V.int) (λj ys H9=>Same H8 H9/\H9 D2=some (.lst ys)/\ys=(([m1,m2,m3,m4].take j).filter λx=>!decide (x∈rs)).map V.int) ⟨Same.new aR,Gb,by simp⟩ (λj ys H9 _ ⟨s9,_⟩=>SqL.of (s9 _ _ ay)) ?_ ?_
    ·rintro j x ys H9 hx ⟨s9,eD,rfl⟩;rw [Yau] at hx;obtain ⟨y,hy,rfl⟩:=Ybg.mp hx;refine ⟨⟨rfl,trivial⟩,?_⟩;refine ⟨_,rfl,_,rfl,ra,_,rfl,.inl (SqL.of (s9 _ _ ax)),rfl,Ou _,_,rfl,?_⟩;dsimp only [if_true];rw [O9,aj [m1,m2,m3,m4] rs j y hy];have fl:=Ych (λx=>!decide (x∈rs)) ([m1,m2,m3,m4].take j);rw [Ybn] at fl;refine OA (λz=>?_) (λz=>?_)
     ·have z':(!decide (y∈rs))=true:=z;exact ⟨_,rfl,eD,by rw [Yaa];lia,s9.put aR,Gb,by rw [if_pos z',Yal];rfl⟩
     ·have z':¬ (!decide (y∈rs))=true:=z;exact ⟨s9,eD,by rw [if_neg z',Ybr]⟩
    rintro ys H9 ⟨s9,aS,rfl⟩;rw [Yaa,Yce] at aS;have S9:=S8.trans s9;have f1:=Ych (λx=>!decide (x∈[m1,m2,m3,m4])) rs;have f2:=Ych (λx=>!decide (x∈rs)) [m1,m2,m3,m4];refine ⟨D1,D2,_,_,rfl,rfl,s9 _ _ aQ,aS,by rw [Yaa,Yaa];lia,λcc bq=>?_⟩;rw [<-Yal];generalize hsy:(rs.filter (λx=>!decide (x∈[m1,m2,m3,m4])))++([m1,m2,m3,m4].filter λx=>!decide (x∈rs))=sy;have al:Same H9 (upd H9 cc (.lst (sy.map V.int))):=Same.new bq;have aT:upd H9 cc (.lst (sy.map V.int)) cc=some (.lst (sy.map V.int)):=Gb;generalize upd H9 cc (.lst (sy.map V.int))=am at al aT ⊢;refine ⟨cc,_,rfl,SqL.of aT,λmo mr aU br bt=>?_⟩;have an:Same am (upd am mo (.lst (mr.map V.int))):=Same.new aU;have ao:upd am mo (.lst (mr.map V.int)) mo=some (.lst (mr.map V.int)):=Gb;have aV:=S9.trans al;have aW:H mo=none:=aV.free aU;generalize upd am mo (.lst (mr.map V.int))=b6 at an ao ⊢;have aX:=aV.trans an;have bu:=G.nxt _ k1 _ rs mr aL ah ⟨by rw [hsy];exact br,bt⟩;dsimp only [GB];refine ⟨_,rfl,_,rfl,d,mo,o,ks,mr,rfl,aX _ _ hd,G.ks200,G.tri,ao,λnd o' zs b7 ak b8 aY bv nm=>?_⟩;have bw:=aX.trans ak;refine ⟨_,rfl,mo,_,rfl,.inl (SqL.of (ak _ _ ao)),?_⟩;rw [Yaa];refine ⟨nd,o',zs,mr.length,rfl,aY,bv,ZgO nm G.ks200,Zif nm,?_⟩;rw [nm];refine bu.mono λb hb b9 ap=>?_;have bA:=bw.trans ap;have t6:=s6.trans (s7.trans (s8.trans (s9.trans (al.trans (an.trans (ak.trans ap))))));cases b with
    | true=>
     refine ⟨_,rfl,JQ ?_⟩;refine ⟨_,rfl,?_⟩;dsimp only [GB];exact ⟨_,_,_,mo,mr,rfl,t6,aW,ap _ _ (ak _ _ ao),hb rfl⟩
    | false=>
     refine ⟨_,rfl,JI ?_⟩;exact ⟨_,_,_,ra,rs,rfl,t6,az,(s9.trans (al.trans (an.trans (ak.trans ap)))) _ _ ax,ah⟩
   ·rintro σ H6 ⟨v7,v8,v9,ra,rs,rfl,s6,az,a0,ah⟩;exact ⟨_,rfl,q ra rs H6 (S5.trans s6) az a0 ah⟩
def UM (ks:KI)(rs:List Int)(i:Int):List Int:=(ks.filter λp=>decide (gA p.1 0<i) && decide (p.2∈rs)).map (·.2)
def ZgW:Sp:=λvs H Q _=>∃(d l:Addr)(o:Obj)(ks:KI)(rows cols:Nat)(rs:List Int)(W:Nat->List Nat),vs=[.ref d,.int (rows:Int),.int (cols:Int),.ref l]/\H d=some (.frz o (.dT (ks.map kvI)))/\ks.length<=200/\(∀p∈ks,∃a b c:Int,p.1=[a,b,c])/\H l=some (.lst (rs.map V.int))/\1<=rows/\rows<=12/\cols<=12/\(∀i:Nat,1<=i->i<rows->JP (Jc ks (UM ks rs (i:Int))) (i:Int) cols=some (W i)) /\
 ∀(a:Addr)(H':Hp),Same H H'->H a=none->H' a=some (.lst ((List.range (rows-1)).map λj=>V.str (mkS (W (j+1)))))->Q (.ref a) H'
theorem scLwd:Gp ["numbers", "rows", "columns", "roads", "words", "i", "column", "above", "near", "word"] ["numbers", "rows", "columns", "roads"] (Ge Zgf):=⟨rfl,rfl,rfl,by decide +kernel,rfl,by decide +kernel,by decide +kernel⟩
theorem ZgX {f U Y:Addr}{fd B G:FuncData}(F:Fun K "_law_words" "_law_words" Zgf f fd)(ap:Fun K "_law_beside" "_law_beside" Zfa U B)(aq:Binds K B ["numbers", "roads"] [])(ar:mg "_law_beside" = some (.ref U))(as:GJ P w K mg base CX0 1 U B ["numbers", "roads"] ZeJ)(au:Fun K "_law_end_of" "_law_end_of" Zfc Y G)(av:Binds K G ["near", "place", "i"] [])(aw:mg "_law_end_of" = some (.ref Y))(ax:GJ P w K mg base CX0 1 Y G ["near", "place", "i"] ZgM)(N:mg "range" = none)(ay:mg "int" = none):GJ P w K mg base CX0 2 f fd ["numbers", "rows", "columns", "roads"] ZgW:=by
 refine F.ok scLwd (λvs H Q E h=>?_) (λa5 A a6 s0 H vs Q E hr h=>?_)
 ·obtain ⟨_,_,_,_,_,_,_,_,rfl,_⟩:=h
  rfl
 ·obtain ⟨d,l,o,ks,rows,ag,rs,W,rfl,hd,ah,az,hl,r1,aL,aM,hW,q⟩:=h;have a7:(A.deeper (PyProof.Rows.envOfC "_law_words" (Ge Zgf) s0.heap.objs.size f a5)).units+1<cLine:=by have:=hr.un;lia
  have aN:=Yay.symm;have two_le:2<=sizeLine:=by lia
  refine ⟨_,(@Gc _ _ _ _ _ (@Gm _ _ 4 _ _ _ _ scLwd.nd rfl (Or.inl rfl) (@Ji _ _ _ _ Gd) rfl (by first | exact .inl rfl | exact .inr rfl))
    (@Gc _ _ _ _ _ (@JY _ _ _ _ _ _ _ _ Ycm rfl (Wz rfl N (@Ga _ _ _ _ _ Gg (@Ga _ _ _ _ _ (pv 1) Gd rfl) rfl)) (Gi (i:=5) scLwd.nd rfl (Or.inr rfl))
    (@Gc _ _ _ _ _ (U2 (i:=7) scLwd.nd rfl (Or.inl rfl) (own:=["row", "column", "down", "number"]) rfl (Gk (fr:=[("i", 5),("roads", 3)]) [(".0", .local),("row", .local),("column", .local),("down", .local),("number", .local),("i", .cell),("roads", .cell)] rfl rfl (by decide +kernel) rfl (by decide +kernel) ⟨rfl,rfl,trivial⟩ ⟨λh=>GG h,λh=>GG h,λh=>GG h,λh=>GG h,λh=>GG h,λ_=>⟨_,rfl⟩,λ_=>⟨_,rfl⟩,trivial⟩ ⟨⟨rfl,.inl rfl,.inl rfl⟩,⟨rfl,.inl rfl,.inl rfl⟩,trivial⟩) (Zdo (ZaX (pv 0))) (λ_ _ _ _=>Wu K (n:=2) rfl (Gn (Wu K (n:=3) rfl (Gn (Gi (i:=0) (show List.Nodup (["row", "column", "down", "number", "i", "roads"]:List Str) by decide +kernel) rfl (Or.inl rfl)) (Gn (Gi (i:=1) (show List.Nodup (["row", "column", "down", "number", "i", "roads"]:List Str) by decide +kernel) rfl (Or.inl rfl)) (Gn (Gi (i:=2) (show List.Nodup (["row", "column", "down", "number", "i", "roads"]:List Str) by decide +kernel) rfl (Or.inl rfl)) Jb)))) (Gn (Gi (i:=3) (show List.Nodup (["row", "column", "down", "number", "i", "roads"]:List Str) by decide +kernel) rfl (Or.inl rfl)) Jb))) (λ_ _ _ _=>Jm (PW.pt (Wy (Go Ud (pv 0) (pv 4) (Gv _)) (UT (Go (kIn K) (pv 3) (pv 5) (by with_unfolding_all rfl)))))) (λ_ _ _ _=>pv 3))
    (@Gc _ _ _ _ _ (@Gm _ _ 8 _ _ _ _ scLwd.nd rfl (Or.inl rfl) (@Gj _ _ _ _ _ _ _ _ _ _ _ _ _ _ _ _ as (hr.mono (by decide)) rfl ar ap.kp aq .nil GP (@Ga _ _ _ _ _ (pv 0) (@Ga _ _ _ _ _ (pv 7) Gd rfl) rfl) (by decide) rfl rfl) rfl (by first | exact .inl rfl | exact .inr rfl))
    (@Gc _ _ _ _ _ (@Gm _ _ 9 _ _ _ _ scLwd.nd rfl (Or.inl rfl) JD rfl (by first | exact .inl rfl | exact .inr rfl))
    (@Gc _ _ _ _ _ (@JY _ _ _ _ _ _ _ _ Ycm rfl (JX rfl N (@Ga _ _ _ _ _ (pv 2) Gd rfl)) (Gi (i:=6) scLwd.nd rfl (Or.inl rfl))
    (@Gf _ _ _ (@Jn _ _ _ _ _ _ _ _ (Zc4 (Zaj a7 (@G0 _ _ _ _ _ (@Ga _ _ _ _ _ (pv 5) (@Ga _ _ _ _ _ (pv 6) Gd rfl) rfl)) (pv 8)) rfl) (@Gf _ _ _ (@Gm _ _ 9 _ _ _ _ scLwd.nd rfl (Or.inl rfl) (@Gw _ _ _ _ _ _ _ _ Vy (pv 9) JD) rfl (by first | exact .inl rfl | exact .inr rfl))) (@Gf _ _ _ (@Gm _ _ 9 _ _ _ _ scLwd.nd rfl (Or.inl rfl) (@Gw _ _ _ _ _ _ _ _ Vy (pv 9) (@GE _ _ _ _ _ _ _ (U3 K) (@Ji _ _ _ _ (@Ga _ _ _ _ _ JD (@Ga _ _ _ _ _ JD Gd rfl) rfl)) (Jk ZV rfl ay ZbX (@Ga _ _ _ _ _ (Jr Ud (@GE _ _ _ _ _ _ _ (Ut K) (@Gj _ _ _ _ _ _ _ _ _ _ _ _ _ _ _ _ ax (hr.mono (by decide)) rfl aw au.kp av .nil GP (@Ga _ _ _ _ _ (pv 8) (@Ga _ _ _ _ _ (@G0 _ _ _ _ _ (@Ga _ _ _ _ _ (pv 5) (@Ga _ _ _ _ _ (pv 6) Gd rfl) rfl)) (@Ga _ _ _ _ _ (pv 5) Gd rfl) rfl) rfl) (by decide) rfl rfl) Gg (λ_ _=>rfl)) (pv 6) (Gv _)) Gd rfl)) (λ_ _=>rfl))) rfl (by first | exact .inl rfl | exact .inr rfl))))) (by intro _;rfl))
    (@Gf _ _ _ (Jq (OU Ydd Ydj Ydk G5 (pv 4) (@Ga _ _ _ _ _ (pv 9) Gd rfl)))))))) (by intro _;rfl))
    (@Gf _ _ _ (@Gs _ _ _ _ (pv 4))))),?_⟩
  refine ⟨Ybc _,λO Z=>?_⟩;have s1:Same H (upd H O (.lst [])):=Same.new Z;have e1:upd H O (.lst []) O=some (.lst []):=Gb;generalize upd H O (.lst [])=H1 at s1 e1 ⊢;dsimp only [GB];refine ⟨_,rfl,_,_,rfl,⟨by decide,by decide,by lia,by lia⟩,?_⟩;rw [show ((rows:Int)-1).toNat=rows-1 by lia];have a8:d≠O:=Gh hd Z;have a9:l≠O:=Gh hl Z;refine JZ (lo:=1) (λj σ H2=>∃(v5 v6 v7 v8 v9:Option V),σ=[some (.ref d),some (.int (rows:Int)),some (.int (ag:Int)),some (.ref l),some (.ref O),v5,v6,v7,v8,v9]/\ZeB O H1 H2/\H2 O=some (.lst ((List.range j).map λj=>V.str (mkS (W (j+1)))))) ⟨none,none,none,none,none,rfl,λ_ _ _ y=>y,e1⟩ ?_ ?_
  ·rintro j σ H2 hj ⟨v5,v6,v7,v8,v9,rfl,aa,ab⟩;rw [show (1:Int)+(j:Int)=((j+1:Nat):Int) by push_cast;lia];generalize hi:j+1=i;have i1:1<=i:=by lia
   have i2:i<rows:=by lia
   have hm:=hW i i1 i2;dsimp only [GB];have ae:=aa _ _ a8 (s1 _ _ hd);have aA:=aa _ _ a9 (s1 _ _ hl);refine ⟨_,rfl,d,_,o,rfl,ae,λvw aB=>?_⟩;have s3:Same H2 (upd H2 vw (IVw vw d)):=Same.new aB;have e3:upd H2 vw (IVw vw d) vw=some (IVw vw d):=Gb;generalize upd H2 vw (IVw vw d)=H3 at s3 e3 ⊢;refine ⟨vw,d,o,_,rfl,e3,s3 _ _ ae,λD hD=>?_⟩;refine ZcC (d:=d) (o:=o) (kvs:=ks.map kvI) (λn ys H4=>Same H3 H4/\H4 D=some (.lst ys)/\ys=(UM (ks.take n) rs (i:Int)).map V.int) ⟨Same.new hD,Gb,by simp [UM]⟩ (λn ys H4 _ ⟨s4,_⟩=>s4 _ _ (s3 _ _ ae)) ?_ ?_
   ·rintro n k v b T ys H4 hk hb ⟨s4,eD,rfl⟩ hT;rw [Yau] at hk;obtain ⟨p,hp,ep⟩:=Ybg.mp hk;have aC:=Ybs hp;have aO:n<ks.length:=(Ybf.mp hp).1;obtain ⟨r,c,w',ek⟩:=az p aC;obtain ⟨rfl,rfl⟩:k=p.1.map Sum.inl/\v=.int p.2:=Prod.mk.inj ep.symm;rw [OE,ek] at hb;have s5:Same H4 (upd H4 T (.tup [.ref b,.int p.2])):=Same.new hT;have e5:upd H4 T (.tup [.ref b,.int p.2]) T=some (.tup [.ref b,.int p.2]):=Gb;generalize upd H4 T (.tup [.ref b,.int p.2])=H5 at s5 e5 ⊢;have aj:=s5 _ _ eD;have nT:(UM (ks.take (n+1)) rs (i:Int))=UM (ks.take n) rs (i:Int)++if (decide (gA p.1 0<(i:Int)) && decide (p.2∈rs))=true then [p.2] else []:=by
     unfold UM;rw [Ybw,hp,Ydv,Yal]
     congr 1
     cases hh:(decide (gA p.1 0<(i:Int)) && decide (p.2∈rs)) <;> simp [List.filter_cons,hh]
    have al:(UM (ks.take n) rs (i:Int)).length<=n:=by
     unfold UM;rw [Yaa];have:=Ych (λp:List Int×Int=>decide (gA p.1 0<(i:Int)) && decide (p.2∈rs)) (ks.take n);rw [Ybn] at this
     lia
    have gr:gA p.1 0=r:=by rw [ek];rfl
    refine ⟨T,_,rfl,SqT.of e5,rfl,?_⟩;refine ⟨_,_,rfl,b,_,rfl,SqT.of (s5 _ _ hb),rfl,?_⟩;refine ⟨_,_,rfl,_,_,rfl,_,_,rfl,rfl,_,_,rfl,rfl,?_⟩;refine ⟨⟨rfl,rfl,trivial⟩,?_⟩;rw [nT,gr];have af:=s4.trans s5;refine ⟨_,rfl,_,rfl,_,_,rfl,rfl,_,rfl,OA (λz=>?_) (λz=>?_)⟩
    ·have z1:decide (r<(i:Int))=true:=z;refine ⟨_,rfl,_,rfl,l,_,rfl,.inl (SqL.of (af _ _ (s3 _ _ aA))),rfl,Ou _,_,rfl,?_⟩;dsimp only [Ydo,Ycz];rw [O9,z1,Bool.true_and];refine OA (λy=>?_) (λy=>?_)
     ·refine ⟨_,rfl,aj,by rw [Yaa];lia,af.put hD,Gb,?_⟩;rw [if_pos (show decide (p.2∈rs)=true from y),Yal]
      rfl
     ·exact ⟨af,aj,by rw [if_neg (show ¬ decide (p.2∈rs)=true from y),Ybr]⟩
    ·have z1:¬ decide (r<(i:Int))=true:=z;rw [if_neg (show ¬ (decide (r<(i:Int)) && decide (p.2∈rs))=true from λy=>z1 (Ycl _ _▸y).1),Ybr];exact ⟨af,aj,rfl⟩
   ·rintro ys H4 ⟨s4,eD,rfl⟩;rw [Yaa,Yce] at eD;have S4:=s3.trans s4;dsimp only [GB];refine ⟨_,rfl,_,rfl,d,D,o,ks,UM ks rs (i:Int),rfl,S4 _ _ ae,ah,az,eD,λnd o' zs H5 s5 aP ai aD nm=>?_⟩;have S5:=S4.trans s5;have z2:=ZgO nm ah;rw [<-nm] at hm;dsimp only [GB];refine ⟨_,rfl,_,rfl,by lia,by lia,?_⟩;rw [Ybu];refine JZ (lo:=0) (λc σ H6=>∃(v6:Option V)(lc:List Nat),σ=[some (.ref d),some (.int (rows:Int)),some (.int (ag:Int)),some (.ref l),some (.ref O),some (.int (i:Int)),v6,some (.ref D),some (.ref nd),some (.str (mkS lc))]/\Same H5 H6/\JP (nmZ zs) (i:Int) c=some lc) ⟨_,[],rfl,Same.refl _,rfl⟩ ?_ ?_
    ·rintro c σ H6 hc ⟨v6,lc,rfl,s6,ac⟩;rw [Int.zero_add];dsimp only [GB];have ll:=Wl ac;obtain ⟨ln,ak⟩:=ZcQ hm (c+1) hc;have a0:(JP (nmZ zs) (i:Int) c).bind (λl=>(ZcO (nmZ zs) (i:Int) c).map λs=>l++[s])=some ln:=ak;rw [ac] at a0;obtain ⟨sg,L,a1⟩:=Ybg.mp (show (ZcO (nmZ zs) (i:Int) c).map (λs=>lc++[s])=some ln from a0);subst a1;have aE:∀(H3:Hp)(T:Addr)(k:List Int),Same H5 H3->H3 T=some (.tup (k.map V.int))->DGet H3 nd (.ref T) (JJ (zs.map kvZ) (k.map Sum.inl)):=λH3 T k s e=>Or.inr ⟨_,_,T,.inr ⟨o',s _ _ ai⟩,rfl,e.trans (by rw [OE]),rfl⟩;have aF:∀k:List Int,(JJ (zs.map kvZ) (k.map Sum.inl)).isSome=(Ot (nmZ zs) k).isSome:=λk=>by rw [OQ,VN,Option.isSome_map,Option.isSome_map]
     have am:2<=sizeLine:=two_le;have aG:Same H5 H6:=s6;clear s6;refine ⟨_,rfl,_,rfl,am,λT hT=>?_⟩;have s6:Same H6 (upd H6 T (.tup [.int (i:Int),.int (c:Int)])):=Same.new hT;have eT:upd H6 T (.tup [.int (i:Int),.int (c:Int)]) T=some (.tup (([(i:Int),(c:Int)]:List Int).map V.int)):=Gb;generalize upd H6 T (.tup [.int (i:Int),.int (c:Int)])=G6 at s6 eT ⊢;have an:=aG.trans s6;refine ⟨_,rfl,nd,_,rfl,aE G6 T [(i:Int),(c:Int)] an eT,_,rfl,?_⟩;rw [aF];have ad:∀x:List Nat,(mkS x).length=x.length:=λx=>rfl;unfold ZcO at L;by_cases g:(Ot (nmZ zs) [(i:Int),(c:Int)]).isSome=true
     ·rw [g];refine JI ?_;rw [if_pos g] at L;obtain ⟨e,he,L⟩:=Option.bind_eq_some_iff.mp L;refine ⟨_,rfl,am,λL2 aH=>?_⟩;have s7:Same G6 (upd G6 L2 (.lst [.str ("(" : Str),.str (")" : Str)])):=Same.new aH;have a2:upd G6 L2 (.lst [.str ("(" : Str),.str (")" : Str)]) L2=some (.lst [.str ("(" : Str),.str (")" : Str)]):=Gb;generalize upd G6 L2 (.lst [.str ("(" : Str),.str (")" : Str)])=G7 at s7 a2 ⊢;have aI:=an.trans s7;refine ⟨_,rfl,_,rfl,_,rfl,am,λT3 aJ=>?_⟩;have s8:Same G7 (upd G7 T3 (.tup [.int (i:Int),.int (c:Int)])):=Same.new aJ;have a3:upd G7 T3 (.tup [.int (i:Int),.int (c:Int)]) T3=some (.tup (([(i:Int),(c:Int)]:List Int).map V.int)):=Gb;generalize upd G7 T3 (.tup [.int (i:Int),.int (c:Int)])=G8 at s8 a3 ⊢;have ao:=aI.trans s8;refine ⟨_,rfl,nd,T3,o',zs,[(i:Int),(c:Int)],e,(i:Int),rfl,ao _ _ ai,aD.same ao,z2,a3,rfl,he,λb' G9 s9 eb aK=>?_⟩;refine ⟨b',_,1,_,rfl,rfl,SqT.of eb,JS (i:=1) (by lia) (by rw [aK];lia),_,rfl,_,_,rfl,rfl,.inr ⟨_,rfl,L2,_,_,.str (mkS [if gA e 1<(c:Int) then 41 else 40]),rfl,rfl,SqL.of (s9 _ _ (s8 _ _ a2)),?_,_,_,rfl,rfl,?_,?_⟩⟩
      ·by_cases y:gA e 1<(c:Int)
       ·rw [if_pos y,show decide (e.getD (1:Int).toNat 0<(c:Int))=true from Yae y]
        rfl
       ·rw [if_neg y,show decide (e.getD (1:Int).toNat 0<(c:Int))=false from Yak y]
        rfl
      ·rw [ad,ad];show lc.length+1<=_
       lia
      ·rw [YT];have a4:=Yaw L;rw [a4];exact ⟨_,lc++[sg],rfl,ao.trans s9,ak⟩
     ·rw [show (Ot (nmZ zs) [(i:Int),(c:Int)]).isSome=false by simpa using g];refine JQ ?_;rw [if_neg g] at L;refine ⟨_,rfl,_,_,rfl,rfl,?_,?_⟩
      ·rw [ad];show lc.length+1<=_
       lia
      ·rw [show ("." : Str)=mkS [46] from rfl,YT];rw [show (46:Nat)=sg from Yaw L];exact ⟨_,lc++[sg],rfl,an,ak⟩
    ·rintro σ H6 ⟨v6,lc,rfl,s6,ac⟩;rw [hm] at ac;cases ac;have aQ:H2 O=some (.lst ((List.range j).map λj=>V.str (mkS (W (j+1))))):=ab;have S6:=S5.trans s6;refine ⟨_,rfl,.inl ⟨rfl,_,SqL.of (S6 _ _ ab)⟩,_,rfl,O,_,_,rfl,rfl,S6 _ _ ab,by rw [Yaa,Ycb];lia,?_⟩;refine ⟨_,_,_,_,_,rfl,λb u n y=>Gq (S6 _ _ (aa _ _ n y)) n,?_⟩;rw [Gb,<-hi,List.range_succ,Yal]
     rfl
  ·rintro σ H2 ⟨v5,v6,v7,v8,v9,rfl,aa,ab⟩;exact ⟨_,rfl,q O H2 (λb u e=>aa _ _ (λz=>by rw [z,Z] at e;cases e) (s1 _ _ e)) Z ab⟩
end
def Wn (R C r c:Nat):List (List Int):=(if c+1<C then [[(r:Int),(c:Int),0]] else [])++if r+1<R then [[(r:Int),(c:Int),1]] else []
def VP (R C r n:Nat):List (List Int):=(List.range n).flatMap λc=>Wn R C r c
def JR (R C n:Nat):List (List Int):=(List.range n).flatMap λr=>VP R C r C
def SeqK (ks:KI)(K:List (List Int)):Prop:=ks=(List.range K.length).map λi=>(K.getD i [],(i:Int))
theorem SeqK.len {ks:KI}{K:List (List Int)}(h:SeqK ks K):ks.length=K.length:=by rw [h,Yaa,Ycb]
theorem SeqK.keys {ks:KI}{K:List (List Int)}(h:SeqK ks K):∀p∈ks,p.1∈K:=by
 intro p B;rw [h] at B;obtain ⟨i,hi,rfl⟩:=Yam.mp B;rw [Ybq] at hi;show K.getD i []∈K;rw [Yai,Yah hi];exact Ycd hi
theorem SeqK.put {ks:KI}{K:List (List Int)}{m:List Int}(h:SeqK ks K)(n:m ∉ K):SeqK (Xl ks m (ks.length:Int)) (K++[m]):=by
 have na:(ks.any λp=>decide (p.1=m))=false:=by
  rw [List.any_eq_false];intro p B e;exact n (Yba e▸h.keys p B)
 unfold Xl;rw [na,if_neg (by simp)];have e:=h.len;unfold SeqK at h ⊢;rw [Yan,Ybl,List.range_succ,Yal]
 congr 1
 ·rw [h];refine List.map_congr_left λi hi=>?_;rw [Ybq] at hi;rw [Yai,Yai,Ydf hi]
 ·rw [Yat,List.map_nil,Yai,Ycs (Yac _),Ydi,e]
  rfl
theorem YV {R C r c:Nat}{m:List Int}(h:m∈Wn R C r c):∃d:Int,m=[(r:Int),(c:Int),d]:=by
 unfold Wn at h;rcases Yav.mp h with h | h
 ·split at h
  ·exact ⟨0,Yas.mp h⟩
  ·cases h
 ·split at h
  ·exact ⟨1,Yas.mp h⟩
  ·cases h
theorem Ua {R C r n:Nat}{m:List Int}(h:m∈VP R C r n):∃(c:Nat)(d:Int),c<n/\m=[(r:Int),(c:Int),d]:=by
 obtain ⟨c,B,D⟩:=List.mem_flatMap.mp h;obtain ⟨d,rfl⟩:=YV D;exact ⟨c,d,Ybq.mp B,rfl⟩
theorem UN {R C n:Nat}{m:List Int}(h:m∈JR R C n):∃(r c:Nat)(d:Int),r<n/\c<C/\m=[(r:Int),(c:Int),d]:=by
 obtain ⟨r,B,D⟩:=List.mem_flatMap.mp h;obtain ⟨c,d,F,rfl⟩:=Ua D;exact ⟨r,c,d,Ybq.mp B,F,rfl⟩
theorem ZeP {R C r c:Nat}{ks:KI}{K:List (List Int)}(h:SeqK ks K)(n:∀d:Int,[(r:Int),(c:Int),d] ∉ K):SeqK (rcS R C r c ks) (K++Wn R C r c):=by
 unfold rcS Wn;dsimp only;by_cases h1:c+1<C
 ·rw [if_pos h1,if_pos h1];have s1:=h.put (n 0);by_cases h2:r+1<R
  ·rw [if_pos h2,if_pos h2];have B:=s1.put (m:=[(r:Int),(c:Int),1]) (λz=>by
    rcases Yav.mp z with z | z
    ·exact n 1 z
    ·have:=Yas.mp z;simp at this)
   rw [Ybp] at B;exact B
  ·rw [if_neg h2,if_neg h2,Ybr];exact s1
 ·rw [if_neg h1,if_neg h1,List.nil_append];by_cases h2:r+1<R
  ·rw [if_pos h2,if_pos h2];exact h.put (n 1)
  ·rw [if_neg h2,if_neg h2,Ybr];exact h
theorem Zbk {R C r:Nat}{ks:KI}{K:List (List Int)}(h:SeqK ks K)(n:∀(c:Nat)(d:Int),[(r:Int),(c:Int),d] ∉ K):∀m,SeqK (rcR R C r m ks) (K++VP R C r m)
 | 0=>by unfold rcR VP;simpa using h
 | m+1=>by
  rw [Wh,show VP R C r (m+1)=VP R C r m++Wn R C r m by unfold VP;rw [List.range_succ,List.flatMap_append];simp,<-Ybp];refine ZeP (Zbk h n m) λd z=>?_;rcases Yav.mp z with z | z
  ·exact n m d z
  ·obtain ⟨c,d',hc,e⟩:=Ua z;simp at e
   lia
theorem GQ {R C:Nat}:∀n,SeqK (Gy R C n) (JR R C n)
 | 0=>rfl
 | n+1=>by
  rw [Vi,show JR R C (n+1)=JR R C n++VP R C n C by unfold JR;rw [List.range_succ,List.flatMap_append];simp];refine Zbk (GQ n) (λc d z=>?_) C;obtain ⟨r,c',d',hr,hc,e⟩:=UN z;simp at e
  lia
def rdK (C:Nat)(k:List Int):Int×Int:=(gA k 0 * (C:Int)+gA k 1,if gA k 2=0 then gA k 0 * (C:Int)+gA k 1+1 else (gA k 0+1) * (C:Int)+gA k 1)
theorem Zbl (R C r c:Nat):Zc R C r c=(Wn R C r c).map (rdK C):=by
 unfold Zc Wn;rw [Yal]
 congr 1
 ·by_cases h:c+1<C
  ·rw [if_pos h,if_pos (by lia)];rfl
  ·rw [if_neg h,if_neg (by lia)];rfl
 ·by_cases h:r+1<R
  ·rw [if_pos h,if_pos (by lia)];rfl
  ·rw [if_neg h,if_neg (by lia)];rfl
theorem Zz (R C n:Nat):VE R C n=(JR R C n).map (rdK C):=by
 unfold VE JR VP Zd8;rw [List.map_flatMap]
 congr 1
 funext r
 rw [List.map_flatMap]
 congr 1
 funext c
 exact Zbl R C r c
theorem Vj {R C r c:Nat}:(c+1<C->[(r:Int),(c:Int),0]∈Wn R C r c)/\(r+1<R->[(r:Int),(c:Int),1]∈Wn R C r c):=by
 unfold Wn;exact ⟨λh=>by rw [if_pos h];exact Yeo _ (Yas.mpr rfl),λh=>by rw [if_pos h];exact Ycn _ (Yas.mpr rfl)⟩
theorem Vk {R C n r c:Nat}(B:r<n)(D:c<C){m:List Int}(h:m∈Wn R C r c):m∈JR R C n:=
 List.mem_flatMap.mpr ⟨r,Ybq.mpr B,List.mem_flatMap.mpr ⟨c,Ybq.mpr D,h⟩⟩
theorem ZeQ (R C r c:Nat):(Wn R C r c).Nodup:=by
 unfold Wn;split <;> split <;> simp
theorem Zbm (R C r:Nat):∀n,(VP R C r n).Nodup
 | 0=>Yec
 | n+1=>by
  rw [show VP R C r (n+1)=VP R C r n++Wn R C r n by unfold VP;rw [List.range_succ,List.flatMap_append];simp];refine Ycu.mpr ⟨Zbm R C r n,ZeQ R C r n,λa B b D=>?_⟩;obtain ⟨c,d,hc,rfl⟩:=Ua B;obtain ⟨F,rfl⟩:=YV D;intro e;simp at e
  lia
theorem Up (R C:Nat):∀n,(JR R C n).Nodup
 | 0=>Yec
 | n+1=>by
  rw [show JR R C (n+1)=JR R C n++VP R C n C by unfold JR;rw [List.range_succ,List.flatMap_append];simp];refine Ycu.mpr ⟨Up R C n,Zbm R C n C,λa B b D=>?_⟩;obtain ⟨r,c,d,hr,hc,rfl⟩:=UN B;obtain ⟨G,L,F,rfl⟩:=Ua D;intro e;simp at e
  lia
theorem X5 {ks:KI}{K:List (List Int)}(h:SeqK ks K):ks.map (·.1)=K:=by
 rw [h,Yca];refine List.ext_getElem? λi=>?_;rw [Yau];by_cases hi:i<K.length
 ·rw [List.getElem?_range hi,Yah hi];show some (K.getD i [])=_;rw [Yai,Yah hi]
  rfl
 ·rw [List.getElem?_eq_none (by rw [Ycb];lia),List.getElem?_eq_none (by lia)]
  rfl
theorem Zbn {ks:KI}{K:List (List Int)}(h:SeqK ks K)(B:K.Nodup){i:Nat}(hi:i<K.length):OO ks (K.getD i [])=some (i:Int):=by
 have D:(K.getD i [],(i:Int))∈ks:=by
  rw [h];exact Yam.mpr ⟨i,Ybq.mpr hi,rfl⟩
 exact Zba (by rw [X5 h];exact B) D
theorem Vl {R C:Nat}{m:List Int}(h:m∈JR R C R):∃i:Nat,i<(JR R C R).length/\(JR R C R).getD i []=m/\OO (Gy R C R) m=some (i:Int):=by
 obtain ⟨i,hi,rfl⟩:=Yby h;have e:(JR R C R).getD i []=(JR R C R)[i]:=by rw [Yai,Yah hi];rfl
 exact ⟨i,hi,e,e▸Zbn (GQ R) (Up R C R) hi⟩
theorem ZgY {R C:Nat}{k:List Int}(h:k∈YU C (R-1)):∃l,ZeO (Gy R C R) k l:=by
 obtain ⟨r,c,N,B,rfl⟩:=ZcT h;obtain ⟨i1,_,_,G⟩:=Vl (Vk (n:=R) (show r<R by lia) (show c<C by lia) (Vj.1 B));obtain ⟨i2,_,_,L⟩:=Vl (Vk (n:=R) (show r<R by lia) (show c<C by lia) (Vj.2 (show r+1<R by lia)));obtain ⟨O,_,_,D⟩:=Vl (Vk (n:=R) (show r+1<R by lia) (show c<C by lia) (Vj.1 B));obtain ⟨U,_,_,F⟩:=Vl (Vk (n:=R) (show r<R by lia) (show c+1<C by lia) (Vj.2 (show r+1<R by lia)));rw [show ((r+1:Nat):Int)=(r:Int)+1 by push_cast;rfl] at D;rw [show ((c+1:Nat):Int)=(c:Int)+1 by push_cast;rfl] at F;exact ⟨_,_,_,_,_,_,_,rfl,G,L,D,F,rfl⟩
theorem Zbo {R C r c:Nat}{m:List Int}(h:m∈Wn R C r c):∃d:Int,m=[(r:Int),(c:Int),d]/\((d=0/\c+1<C)\/(d=1/\r+1<R)):=by
 unfold Wn at h;rcases Yav.mp h with h | h
 ·split at h
  ·exact ⟨0,Yas.mp h,.inl ⟨rfl,by assumption⟩⟩
  ·cases h
 ·split at h
  ·exact ⟨1,Yas.mp h,.inr ⟨rfl,by assumption⟩⟩
  ·cases h
theorem GS {R C n:Nat}{m:List Int}(h:m∈JR R C n):∃(r c:Nat)(d:Int),r<n/\c<C/\m=[(r:Int),(c:Int),d]/\((d=0/\c+1<C)\/(d=1/\r+1<R)):=by
 obtain ⟨r,D,B⟩:=List.mem_flatMap.mp h;obtain ⟨c,F,B⟩:=List.mem_flatMap.mp B;obtain ⟨d,rfl,G⟩:=Zbo B;exact ⟨r,c,d,Ybq.mp D,Ybq.mp F,rfl,G⟩
theorem Zbp {C r c B D:Nat}(G:c<C)(F:D<C)(e:(r:Int) * (C:Int)+(c:Int)=(B:Int) * (C:Int)+(D:Int)):r=B/\c=D:=by
 have L:r * C+c=B * C+D:=by
  have:((r * C+c:Nat):Int)=((B * C+D:Nat):Int):=by push_cast;exact e
  exact Int.ofNat.inj this
 have h1:(r * C+c) / C=r:=by rw [Nat.add_comm,Nat.add_mul_div_right _ _ (by lia),Nat.div_eq_of_lt G,Ydc]
 have h2:(B * C+D) / C=B:=by rw [Nat.add_comm,Nat.add_mul_div_right _ _ (by lia),Nat.div_eq_of_lt F,Ydc]
 have N:r=B:=by rw [<-h1,L,h2]
 subst N;exact ⟨rfl,by lia⟩
theorem ZeR {R C n:Nat}(h2:2<=C){a b:List Int}(L:a∈JR R C n)(N:b∈JR R C n)(e:rdK C a=rdK C b):a=b:=by
 obtain ⟨r,c,d,_,O,rfl,U⟩:=GS L;obtain ⟨r',c',G,_,D,rfl,F⟩:=GS N;have Y:=Ybb Prod.fst e;have B:=Ybb Prod.snd e;obtain ⟨rfl,rfl⟩:=Zbp O D Y;have Z:((r:Int)+1) * (C:Int)=(r:Int) * (C:Int)+(C:Int):=by rw [Int.add_mul,Int.one_mul]
 change (if d=0 then (r:Int) * (C:Int)+(c:Int)+1 else ((r:Int)+1) * (C:Int)+(c:Int))=(if G=0 then (r:Int) * (C:Int)+(c:Int)+1 else ((r:Int)+1) * (C:Int)+(c:Int)) at B;rw [Z] at B;generalize (r:Int) * (C:Int)=z at B;have:d=G:=by
  rcases U with ⟨rfl,_⟩ | ⟨rfl,_⟩ <;> rcases F with ⟨rfl,_⟩ | ⟨rfl,_⟩ <;> simp at B ⊢ <;> lia
 rw [this]
theorem Uw (R C:Nat):gRoads R C (R * C)=(JR R C R).map (rdK C):=(Yn (Yac R)).trans (Zz R C R)
theorem ZgZ {R C:Nat}(h2:2<=C):(gRoads R C (R * C)).Nodup:=by
 rw [Uw];refine Yee.mpr ((Up R C R).imp_of_mem λB D n e=>n (ZeR h2 B D e))
theorem Vm {R C:Nat}(B:R<=10)(D:C<=7):(Gy R C R).length<=140:=by
 have h1:=Wi R C R;have h2:2 * C * R<=2 * 7 * 10:=Nat.mul_le_mul (Nat.mul_le_mul_left 2 D) B
 lia
theorem Zg0 (R C:Nat):(gRoads R C (R * C)).length=(Gy R C R).length:=by rw [Uw,Yaa,<-(GQ (R:=R) (C:=C) R).len]
theorem ZA {R C:Nat}(B:1<=R)(G:R<=10)(D:2<=C)(L:C<=7):G4 ((R * C:Nat):Int) (gRoads R C (R * C)):=by
 have l:=Vm G L;have N:=Zg0 R C;have h1:1 * 1<=R * C:=Nat.mul_le_mul B (by lia);have h2:R * C<=10 * 7:=Nat.mul_le_mul G L;exact ⟨by lia,by lia,by lia,λp F=>⟨(Os (r:=R) (c:=C) (by lia) p F).1,(Os (r:=R) (c:=C) (by lia) p F).2.1,(Os (r:=R) (c:=C) (by lia) p F).2.2⟩,ZgZ D⟩
theorem Zbq {R C:Nat}:∀p∈Gy R C R,∃a b c:Int,p.1=[a,b,c]:=λp B=>by
 obtain ⟨r,c,d,_,_,e⟩:=UN ((GQ (R:=R) (C:=C) R).keys p B);exact ⟨_,_,_,e⟩
theorem ZcV (nm:NM)(k x j:List Int):Ot (UL nm k x) j=if j=k then some ((Ot nm k).getD []++[x]) else Ot nm j:=by
 unfold UL Ot;by_cases h:(nm.any λp=>decide (p.1=k))=true
 ·rw [if_pos h]
  induction nm with
  | nil=>simp at h
  | cons p nm ih=>
   rw [Yat,Ybv];by_cases D:p.1=k
   ·rw [if_pos D];by_cases B:j=k
    ·subst B;rw [if_pos rfl];simp only [D,decide_true,Ybv,Option.map_some,Option.getD_some]
    ·rw [if_neg B];have n:¬ p.1=j:=λz=>B (z.symm.trans D);rw [Yak n];rw [Ybv,Yak n];by_cases h2:(nm.any λp=>decide (p.1=k))=true
     ·have:=ih h2;rw [if_neg B] at this;exact this
     ·have e:nm.map (λp=>if p.1=k then (p.1,p.2++[x]) else p)=nm:=by
       have F:=List.any_eq_false.mp (Bool.not_eq_true _▸h2)
       conv=>rhs;rw [<-List.map_id nm]
       refine List.map_congr_left λq L=>?_;rw [if_neg (λz=>F q L (Yae z))]
       rfl
      rw [e]
   ·rw [if_neg D];have h2:(nm.any λp=>decide (p.1=k))=true:=by
     rw [List.any_cons,Yak D,Bool.false_or] at h;exact h
    have G:=ih h2;by_cases B:p.1=j
    ·have n:j≠k:=λz=>D (B.trans z);rw [if_neg n,Yae B,Ybv,Yae B]
    ·simp only [Ybv,Yak B,Yak D];exact G
 ·rw [if_neg h];have h':=List.any_eq_false.mp (Bool.not_eq_true _▸h);have fn:nm.find? (λp=>decide (p.1=k))=none:=List.find?_eq_none.mpr h';rw [List.find?_append];by_cases B:j=k
  ·subst B;rw [if_pos rfl,fn];simp
  ·rw [if_neg B];have n:¬ k=j:=λz=>B z.symm;rw [Ybv,Yak n];simp
theorem ZdE (nm:NM)(k x j:List Int):nbF (UL nm k x) j=nbF nm j++if j=k then [x] else []:=by
 unfold nbF;rw [ZcV];by_cases h:j=k
 ·subst h;rw [if_pos rfl,if_pos rfl];rfl
 ·rw [if_neg h,if_neg h,Ybr]
def nbP (rs:List Int)(j:List Int)(p:List Int×Int):List (List Int):=if p.2∈rs then (if j=Ob p.1 then [J3 p.1] else [])++(if j=J3 p.1 then [Ob p.1] else []) else []
theorem ZdF (ks:KI)(rs:List Int)(j:List Int):nbF (Jc ks rs) j=ks.flatMap (nbP rs j):=by
 have:∀(ks:KI)(nm:NM),nbF (ks.foldl (Vv rs) nm) j=nbF nm j++ks.flatMap (nbP rs j):=by
  intro ks
  induction ks with
  | nil=>intro nm;simp
  | cons p ks ih=>
   intro nm;rw [List.foldl_cons,ih,List.flatMap_cons,<-Ybp]
   congr 1
   unfold Vv nbP;by_cases h:p.2∈rs
   ·rw [if_pos h,if_pos h,ZdE,ZdE,Ybp]
   ·rw [if_neg h,if_neg h,Ybr]
 have h:=this ks [];unfold Jc;rw [h]
 rfl
theorem nb_mem {ks:KI}{rs:List Int}{x y:List Int}:y∈nbF (Jc ks rs) x↔∃p∈ks,p.2∈rs/\((x=Ob p.1/\y=J3 p.1)\/(x=J3 p.1/\y=Ob p.1)):=by
 rw [ZdF,List.mem_flatMap];constructor
 ·rintro ⟨p,B,h⟩;unfold nbP at h;split at h
  ·rename_i D;refine ⟨p,B,D,?_⟩;rcases Yav.mp h with h | h
   ·split at h
    ·exact .inl ⟨by assumption,Yas.mp h⟩
    ·cases h
   ·split at h
    ·exact .inr ⟨by assumption,Yas.mp h⟩
    ·cases h
  ·cases h
 ·rintro ⟨p,B,D,h⟩;refine ⟨p,B,?_⟩;unfold nbP;rw [if_pos D];rcases h with ⟨h1,h2⟩ | ⟨h1,h2⟩
  ·exact Yeo _ (by rw [if_pos h1];exact Yas.mpr h2)
  ·exact Ycn _ (by rw [if_pos h1];exact Yas.mpr h2)
theorem Zbr {ks:KI}{rs:List Int}{x y:List Int}(h:y∈nbF (Jc ks rs) x):x∈nbF (Jc ks rs) y:=by
 obtain ⟨p,B,D,h⟩:=nb_mem.mp h;exact nb_mem.mpr ⟨p,B,D,h.elim (λh=>.inr ⟨h.2,h.1⟩) λh=>.inl ⟨h.2,h.1⟩⟩
theorem ZeS {R C n:Nat}{k j:List Int}(F:k∈JR R C n)(G:j∈JR R C n)(h:(Ob k=Ob j/\J3 k=J3 j)\/(Ob k=J3 j/\J3 k=Ob j)):k=j:=by
 obtain ⟨r,c,d,_,_,rfl,L⟩:=GS F;obtain ⟨Z,c',D,_,_,rfl,B⟩:=GS G;have N:d=0\/d=1:=L.imp (·.1) (·.1);have O:D=0\/D=1:=B.imp (·.1) (·.1);have U:∀a b e:Int,Ob [a,b,e]=[a,b]:=λ_ _ _=>rfl;have Y:∀a b e:Int,J3 [a,b,e]=[a+e,b+1-e]:=λ_ _ _=>rfl;simp only [U,Y,List.cons.injEq,and_true] at h ⊢
 lia
theorem ZdG {R C n:Nat}{k:List Int}(B:k∈JR R C n):Ob k≠J3 k:=by
 obtain ⟨r,c,d,_,_,rfl,D⟩:=GS B;have F:d=0\/d=1:=D.imp (·.1) (·.1);intro h;have G:Ob [(r:Int),(c:Int),d]=[(r:Int),(c:Int)]:=rfl;have L:J3 [(r:Int),(c:Int),d]=[(r:Int)+d,(c:Int)+1-d]:=rfl;rw [G,L] at h;simp only [List.cons.injEq,and_true] at h
 lia
theorem ZeT {R C:Nat}(rs:List Int)(x:List Int):(nbF (Jc (Gy R C R) rs) x).Nodup:=by
 rw [ZdF];have key:=(GQ (R:=R) (C:=C) R).keys;refine List.pairwise_flatMap.mpr ⟨λp F=>?_,?_⟩
 ·unfold nbP;split
  ·have n:=ZdG (key p F);by_cases h1:x=Ob p.1
   ·rw [if_pos h1,if_neg (λz=>n (h1.symm.trans z))];simp
   ·rw [if_neg h1];split <;> simp
  ·exact Yec
 ·have L:((Gy R C R).map (·.1)).Nodup:=by rw [X5 (GQ R)];exact Up R C R
  refine (Yee.mp L).imp_of_mem λ{p q} F N G y O z U e=>G ?_;subst e;have mem:∀p:List Int×Int,y∈nbP rs x p->(x=Ob p.1/\y=J3 p.1)\/(x=J3 p.1/\y=Ob p.1):=λp h=>by
   unfold nbP at h;split at h
   ·rcases Yav.mp h with h | h
    ·split at h
     ·exact .inl ⟨by assumption,Yas.mp h⟩
     ·cases h
    ·split at h
     ·exact .inr ⟨by assumption,Yas.mp h⟩
     ·cases h
   ·cases h
  refine ZeS (key p F) (key q N) ?_;rcases mem p O with ⟨a,b⟩ | ⟨a,b⟩ <;> rcases mem q U with ⟨B,D⟩ | ⟨B,D⟩
  ·exact .inl ⟨a.symm.trans B,b.symm.trans D⟩
  ·exact .inr ⟨a.symm.trans B,b.symm.trans D⟩
  ·exact .inr ⟨b.symm.trans D,a.symm.trans B⟩
  ·exact .inl ⟨b.symm.trans D,a.symm.trans B⟩
theorem ZdH {nm:NM}(h:∀p∈nm,p.2.length=2){x:List Int}(B:nbF nm x≠[]):(nbF nm x).length=2:=by
 unfold nbF at B ⊢;cases e:Ot nm x with
 | none=>rw [e] at B;exact absurd rfl B
 | some l=>
  unfold Ot at e;obtain ⟨p,D,rfl⟩:=Ybg.mp e;exact h p (List.mem_of_find?_eq_some D)
theorem ZdI {R C:Nat}{rs:List Int}(h:∀p∈Jc (Gy R C R) rs,p.2.length=2):Reg (nbF (Jc (Gy R C R) rs)) where
 sym:=λx y hy=>Zbr hy
 two:=λx hx=>by
  have l:=ZdH h hx;have nd:=ZeT (R:=R) (C:=C) rs x
  match hh:nbF (Jc (Gy R C R) rs) x,l,nd with
  | [a,b],_,nd=>exact ⟨a,b,rfl,by simpa using nd⟩
 irr:=λx hx=>by
  obtain ⟨p,hp,_,h⟩:=nb_mem.mp hx;have n:=ZdG ((GQ (R:=R) (C:=C) R).keys p hp);rcases h with ⟨a,b⟩ | ⟨a,b⟩
  ·exact n (a.symm.trans b)
  ·exact n (b.symm.trans a)
theorem Zg1 {R C:Nat}{rs:List Int}(qV:(Jc (Gy R C R) rs).length<350)(F:rs≠[]->Jc (Gy R C R) rs≠[])(Y:∀p∈Jc (Gy R C R) rs,p.2≠[]){q:Bool->Prop}(G:q false)(q1:(∀p∈Jc (Gy R C R) rs,p.2.length=2)->∀r,Rnd (nbF (Jc (Gy R C R) rs)) r->r.length=rs.length->q true):IscR (Jc (Gy R C R) rs) rs.length q:=by
 by_cases h0:rs.length=0
 ·exact .inl ⟨.inl h0,G⟩
 by_cases h2:∀p∈Jc (Gy R C R) rs,p.2.length=2
 ·refine .inr ⟨h0,h2,F (λz=>h0 (by rw [z];rfl)),λfirst Z=>?_⟩;have Rg:=ZdI h2;obtain ⟨p,D,rfl⟩:=Yam.mp Z;have gs:(Ot (Jc (Gy R C R) rs) p.1).isSome=true:=by
   unfold Ot;rw [Option.isSome_map,List.find?_isSome];exact ⟨p,D,by simp⟩
  obtain ⟨l,B⟩:=Yeg.mp gs;have ln:l.length=2:=by
   unfold Ot at B;obtain ⟨p',L,rfl⟩:=Ybg.mp B;exact h2 p' (List.mem_of_find?_eq_some L)
  match l,ln,B with
  | h0'::tl,_,B=>
   have m0:h0'∈nbF (Jc (Gy R C R) rs) p.1:=by unfold nbF;rw [B];exact Yaz ..
   have hk:∀x,nbF (Jc (Gy R C R) rs) x≠[]->x∈(Jc (Gy R C R) rs).map (·.1):=λx N=>by
    unfold nbF Ot at N;cases e:(Jc (Gy R C R) rs).find? λp=>decide (p.1=x) with
    | none=>rw [e] at N;exact absurd rfl N
    | some q=>
     have hq:=List.find?_some e;exact Yam.mpr ⟨q,List.mem_of_find?_eq_some e,Yba hq⟩
   obtain ⟨r,hr,O,_⟩:=ZdB Rg hk 400 [p.1] p.1 h0' (Zbj m0) (by rw [Yaa,Ybl];lia);refine ⟨h0',tl,r,B,hr,?_⟩;by_cases U:r.length=rs.length
   ·rw [Yae U];exact q1 h2 r O U
   ·rw [Yak U];exact G
 ·obtain ⟨p,D⟩:=Classical.not_forall.mp h2;obtain ⟨D,n⟩:=Classical.not_imp.mp D;exact .inl ⟨.inr ⟨p,D,n⟩,G⟩
structure Ww (R C:Nat)(rs:List Int):Prop where
 asc:rs.Pairwise (· < ·)
 rds:∀x∈rs,∃p∈Gy R C R,p.2=x
 two:∀p∈Jc (Gy R C R) rs,p.2.length=2
 rnd:∃r,Rnd (nbF (Jc (Gy R C R) rs)) r/\r.length=rs.length
theorem ZdJ {nm:NM}{k x:List Int}(h:∀p∈nm,p.2≠[]):∀p∈UL nm k x,p.2≠[]:=by
 unfold UL;split
 ·intro p B;obtain ⟨q,D,rfl⟩:=Yam.mp B;split
  ·simp
  ·exact h q D
 ·intro p B;rcases Yav.mp B with B | B
  ·exact h p B
  ·rw [Yas.mp B];simp
theorem YW (ks:KI)(rs:List Int):∀p∈Jc ks rs,p.2≠[]:=by
 have:∀(ks:KI)(nm:NM),(∀p∈nm,p.2≠[])->∀p∈ks.foldl (Vv rs) nm,p.2≠[]:=by
  intro ks
  induction ks with
  | nil=>intro nm h;exact h
  | cons k ks ih=>
   intro nm h;rw [List.foldl_cons];refine ih _ ?_;unfold Vv;split
   ·exact ZdJ (ZdJ h)
   ·exact h
 exact this ks [] (by simp)
theorem ZcW {R C:Nat}{rs:List Int}(h:∀x∈rs,∃p∈Gy R C R,p.2=x)(D:rs≠[]):Jc (Gy R C R) rs≠[]:=by
 obtain ⟨x,B⟩:=List.exists_mem_of_ne_nil rs D;obtain ⟨p,F,rfl⟩:=h x B;intro e;have m:J3 p.1∈nbF (Jc (Gy R C R) rs) (Ob p.1):=nb_mem.mpr ⟨p,F,B,.inl ⟨rfl,rfl⟩⟩;rw [e] at m;cases m
theorem ZcX {R C:Nat}(N:R<=10)(O:C<=7){rs ms l k:List Int}(U:ZeO (Gy R C R) k l)(Y:l.Nodup)(B:Ww R C rs)(F:ZiR rs l ms):IscR (Jc (Gy R C R) ms) ms.length λb=>b=true->Ww R C ms:=by
 have Z:∀x∈l,∃p∈Gy R C R,p.2=x:=by
  obtain ⟨r,c,n1,n2,n3,n4,_,g1,g2,g3,g4,rfl⟩:=U;have one:∀{m:List Int}{n:Int},OO (Gy R C R) m=some n->∃p∈Gy R C R,p.2=n:=λg=>by
   unfold OO at g;obtain ⟨p,hp,rfl⟩:=Ybg.mp g;exact ⟨p,List.mem_of_find?_eq_some hp,rfl⟩
  intro x D;simp only [Yar,List.not_mem_nil,or_false] at D;rcases D with rfl | rfl | rfl | rfl
  ·exact one g1
  ·exact one g2
  ·exact one g3
  ·exact one g4
 have L:∀x∈ms,∃p∈Gy R C R,p.2=x:=λx D=>by
  rcases Yav.mp (F.1.mem_iff.mp D) with h | h
  ·exact B.rds x (Ybk.mp h).1
  ·exact Z x (Ybk.mp h).1
 have mn:ms.Nodup:=by
  refine F.1.nodup_iff.mpr (Ycu.mpr ⟨(Vc B.asc).filter _,Y.filter _,λa ha b hb e=>?_⟩);subst e;have h1:=(Ybk.mp ha).1;have h2:=(Ybk.mp hb).2;simp [h1] at h2
 have ml:=Vm N O;refine Zg1 ?_ (ZcW L) (YW _ _) (λz=>by cases z) λh2 r G hr _=>⟨Uo F.2 mn,L,h2,r,G,hr⟩;have:=(X4 (Gy R C R) ms).2.1
 lia
theorem ZdK {R C:Nat}{p:List Int×Int}(B:p∈Gy R C R):OO (Gy R C R) p.1=some p.2:=Zba (by rw [X5 (GQ R)];exact Up R C R) B
theorem Uq {R C:Nat}{p q:List Int×Int}(B:p∈Gy R C R)(D:q∈Gy R C R)(e:p.2=q.2):p=q:=by
 have h:=GQ (R:=R) (C:=C) R;rw [h] at B D;obtain ⟨i,_,rfl⟩:=Yam.mp B;obtain ⟨j,_,rfl⟩:=Yam.mp D;have e:(i:Int)=(j:Int):=e;rw [show i=j by lia]
theorem Jl {R C:Nat}{m:List Int}{n:Int}(g:OO (Gy R C R) m=some n):(m,n)∈Gy R C R:=by
 unfold OO at g;obtain ⟨p,B,rfl⟩:=Ybg.mp g;have h1:p.1=m:=by have:=List.find?_some B;exact Yba this
 rw [<-h1];exact List.mem_of_find?_eq_some B
theorem ZdL {nm:NM}{k x:List Int}(h:(nm.map (·.1)).Nodup):((UL nm k x).map (·.1)).Nodup:=by
 unfold UL;split
 ·rw [Yca];have:((λp:List Int×List (List Int)=>p.1)∘λp=>if p.1=k then (p.1,p.2++[x]) else p)=λp=>p.1:=by
   funext p
   show (if p.1=k then (p.1,p.2++[x]) else p).1=p.1;split <;> rfl
  rw [this];exact h
 ·rename_i D;rw [Yal];refine Ycu.mpr ⟨h,by simp,λa F b B e=>D ?_⟩;obtain ⟨p,G,rfl⟩:=Yam.mp F;rw [Yat,List.map_nil,Yas] at B;exact List.any_eq_true.mpr ⟨p,G,Yae (e.trans B)⟩
theorem Zg2 (ks:KI)(rs:List Int):((Jc ks rs).map (·.1)).Nodup:=by
 have:∀(ks:KI)(nm:NM),(nm.map (·.1)).Nodup->((ks.foldl (Vv rs) nm).map (·.1)).Nodup:=by
  intro ks
  induction ks with
  | nil=>intro nm h;exact h
  | cons k ks ih=>
   intro nm h;rw [List.foldl_cons];refine ih _ ?_;unfold Vv;split
   ·exact ZdL (ZdL h)
   ·exact h
 exact this ks [] (by simp)
theorem Zbs {ks:KI}{rs:List Int}{p:List Int×List (List Int)}(D:p∈Jc ks rs):nbF (Jc ks rs) p.1=p.2:=by
 have B:=Zg2 ks rs;obtain ⟨G,bs,e⟩:=List.append_of_mem D;rw [e] at B ⊢;rw [Yal,Yat,Ycu] at B;unfold nbF Ot;rw [List.find?_append,List.find?_eq_none.mpr,Option.none_or,Ybv,Yae rfl]
 ·rfl
 ·intro y F;have:=B.2.2 y.1 (Yam.mpr ⟨y,F,rfl⟩) p.1 (Yaz ..);simpa using this
theorem Ub {R C:Nat}{rs:List Int}{x a b:List Int}(n:a≠b)(h:∀y,y∈nbF (Jc (Gy R C R) rs) x↔y=a\/y=b):(nbF (Jc (Gy R C R) rs) x).length=2:=by
 have D:=ZeT (R:=R) (C:=C) rs x;have h1:=O7 D (b:=[a,b]) λy B=>by have:=(h y).mp B;simpa using this
 have h2:=O7 (a:=[a,b]) (b:=nbF (Jc (Gy R C R) rs) x) (by simpa using n) λy B=>(h y).mpr (by simpa using B);simp at h1 h2
 lia
theorem ZeU {R C:Nat}{r c L N O U:Int}{ms:List Int}(Y:OO (Gy R C R) [r,c,0]=some L)(Z:OO (Gy R C R) [r,c,1]=some N)(g3:OO (Gy R C R) [r+1,c,0]=some O)(g4:OO (Gy R C R) [r,c+1,1]=some U)(D:∀x,x∈ms↔x=L\/x=N\/x=O\/x=U)(x y:List Int):y∈nbF (Jc (Gy R C R) ms) x ↔
   ((x=[r,c]/\y=[r,c+1])\/(x=[r,c+1]/\y=[r,c]))\/((x=[r,c]/\y=[r+1,c])\/(x=[r+1,c]/\y=[r,c]))\/((x=[r+1,c]/\y=[r+1,c+1])\/(x=[r+1,c+1]/\y=[r+1,c]))\/((x=[r,c+1]/\y=[r+1,c+1])\/(x=[r+1,c+1]/\y=[r,c+1])):=by
 have B:∀a b e:Int,Ob [a,b,e]=[a,b]:=λ_ _ _=>rfl;have F:∀a b e:Int,J3 [a,b,e]=[a+e,b+1-e]:=λ_ _ _=>rfl;have z1:J3 [r,c,0]=[r,c+1]:=by rw [F,show r+0=r by lia,show c+1-0=c+1 by lia]
 have z2:J3 [r,c,1]=[r+1,c]:=by rw [F,show c+1-1=c by lia]
 have z3:J3 [r+1,c,0]=[r+1,c+1]:=by rw [F,show r+1+0=r+1 by lia,show c+1-0=c+1 by lia]
 have z4:J3 [r,c+1,1]=[r+1,c+1]:=by rw [F,show c+1+1-1=c+1 by lia]
 rw [nb_mem];constructor
 ·rintro ⟨p,G,hr,h⟩;rcases (D _).mp hr with e | e | e | e
  ·rw [Uq G (Jl Y) e,B,z1] at h;exact .inl h
  ·rw [Uq G (Jl Z) e,B,z2] at h;exact .inr (.inl h)
  ·rw [Uq G (Jl g3) e,B,z3] at h;exact .inr (.inr (.inl h))
  ·rw [Uq G (Jl g4) e,B,z4] at h;exact .inr (.inr (.inr h))
 ·rintro (h | h | h | h)
  ·exact ⟨_,Jl Y,(D _).mpr (.inl rfl),by rw [B,z1];exact h⟩
  ·exact ⟨_,Jl Z,(D _).mpr (.inr (.inl rfl)),by rw [B,z2];exact h⟩
  ·exact ⟨_,Jl g3,(D _).mpr (.inr (.inr (.inl rfl))),by rw [B,z3];exact h⟩
  ·exact ⟨_,Jl g4,(D _).mpr (.inr (.inr (.inr rfl))),by rw [B,z4];exact h⟩
theorem ZdM {R C:Nat}{k l:List Int}(h:ZeO (Gy R C R) k l):l.Nodup:=by
 obtain ⟨r,c,n1,n2,n3,n4,_,D,F,G,L,rfl⟩:=h;have B:∀{a b:List Int}{m n:Int},OO (Gy R C R) a=some m->OO (Gy R C R) b=some n->a≠b->m≠n:=λga gb n e=>n (Ybb Prod.fst (Uq (Jl ga) (Jl gb) e));have N:=B D F (by simp);have O:=B D G (by simp;lia);have U:=B D L (by simp);have Y:=B F G (by simp);have Z:=B F L (by simp;lia);have aa:=B G L (by simp);simp [N,O,U,Y,Z,aa]
theorem ZcY {R C:Nat}{k l ms:List Int}(h:ZeO (Gy R C R) k l)(L:ms.Perm l)(so:ms.Pairwise (· <= ·)):Ww R C ms:=by
 have nd:=ZdM h;obtain ⟨r,c,n1,n2,n3,n4,_,g1,g2,g3,g4,rfl⟩:=h;have hm:∀x,x∈ms↔x=n1\/x=n2\/x=n3\/x=n4:=λx=>by rw [L.mem_iff];simp
 have nb:=ZeU g1 g2 g3 g4 hm;have F:([r,c]:List Int)≠[r+1,c+1]:=by simp;lia
 have G:([r,c+1]:List Int)≠[r+1,c]:=by simp;lia
 have N:([r,c]:List Int)≠[r,c+1]:=by simp;lia
 have O:([r,c]:List Int)≠[r+1,c]:=by simp;lia
 have U:([r+1,c]:List Int)≠[r+1,c+1]:=by simp;lia
 have Y:([r,c+1]:List Int)≠[r+1,c+1]:=by simp;lia
 have b1:∀y,y∈nbF (Jc (Gy R C R) ms) [r,c]↔y=[r,c+1]\/y=[r+1,c]:=λy=>by rw [nb];simp only [true_and,N,F,O,false_and,or_false,false_or]
 have b2:∀y,y∈nbF (Jc (Gy R C R) ms) [r,c+1]↔y=[r,c]\/y=[r+1,c+1]:=λy=>by rw [nb];simp only [true_and,N.symm,G,Y,false_and,or_false,false_or]
 have b3:∀y,y∈nbF (Jc (Gy R C R) ms) [r+1,c]↔y=[r,c]\/y=[r+1,c+1]:=λy=>by rw [nb];simp only [true_and,O.symm,G.symm,U,false_and,or_false,false_or]
 have b4:∀y,y∈nbF (Jc (Gy R C R) ms) [r+1,c+1]↔y=[r+1,c]\/y=[r,c+1]:=λy=>by rw [nb];simp only [true_and,F.symm,Y.symm,U.symm,false_and,or_false,false_or]
 refine ⟨Uo so (L.nodup_iff.mpr nd),λx B=>?_,λp Z=>?_,[[r,c],[r,c+1],[r+1,c+1],[r+1,c]],⟨?_,by simp,?_,?_⟩,by rw [L.length_eq];rfl⟩
 ·rcases (hm x).mp B with rfl | rfl | rfl | rfl
  ·exact ⟨_,Jl g1,rfl⟩
  ·exact ⟨_,Jl g2,rfl⟩
  ·exact ⟨_,Jl g3,rfl⟩
  ·exact ⟨_,Jl g4,rfl⟩
 ·rw [<-Zbs Z];have e:∃y,y∈nbF (Jc (Gy R C R) ms) p.1:=by
   rw [Zbs Z];exact List.exists_mem_of_ne_nil _ (YW _ _ p Z)
  obtain ⟨y,D⟩:=e;have aa:p.1=[r,c]\/p.1=[r,c+1]\/p.1=[r+1,c]\/p.1=[r+1,c+1]:=by
   rcases (nb _ _).mp D with (h | h) | (h | h) | (h | h) | (h | h)
   ·exact .inl h.1
   ·exact .inr (.inl h.1)
   ·exact .inl h.1
   ·exact .inr (.inr (.inl h.1))
   ·exact .inr (.inr (.inl h.1))
   ·exact .inr (.inr (.inr h.1))
   ·exact .inr (.inl h.1)
   ·exact .inr (.inr (.inr h.1))
  rcases aa with e | e | e | e
  ·rw [e];exact Ub G b1
  ·rw [e];exact Ub F b2
  ·rw [e];exact Ub F b3
  ·rw [e];exact Ub G.symm b4
 ·simp [F,G,N,O,Y,U.symm]
 ·intro j x y B D
  match j,B,D with
  | 0,B,D=>cases B;cases D;exact (b1 _).mpr (.inl rfl)
  | 1,B,D=>cases B;cases D;exact (b2 _).mpr (.inr rfl)
  | 2,B,D=>cases B;cases D;exact (b4 _).mpr (.inl rfl)
  | 3,B,D=>cases D
  | j+4,B,D=>cases B
 ·intro x y B D;cases B;cases D;exact (b3 _).mpr (.inl rfl)
theorem Zbt {R C:Nat}(hR:R<=10)(hC:C<=7):ZdD (Gy R C R) R C (Ww R C) where
 ks200:=by have:=Vm hR hC;lia
 tri:=Zbq
 rou:=λk hk=>ZgY hk
 fst:=λk _ l ms h pm so=>ZcY h pm so
 len:=λms inv=>by
  have h:=O7 (a:=ms) (b:=(Gy R C R).map (·.2)) (Vc inv.asc) λx hx=>by
   obtain ⟨p,hp,rfl⟩:=inv.rds x hx;exact Yam.mpr ⟨p,hp,rfl⟩
  rw [Yaa] at h;have:=Vm hR hC
  lia
 nxt:=λk _ l rs ms h inv sd=>ZcX hR hC h (ZdM h) inv sd
def Vn (rs:List (Int×Int))(c:Bool)(ns:List Int):List Int:=((Gx ns c).map (Wv rs)).mergeSort λa b=>decide (a<=b)
theorem Oh (rs:List (Int×Int))(c:Bool)(ns:List Int):(Vn rs c ns).Perm ((Gx ns c).map (Wv rs)):=List.mergeSort_perm _ _
theorem Wo (rs:List (Int×Int))(c:Bool)(ns:List Int):(Vn rs c ns).Pairwise (· <= ·):=by
 refine (List.pairwise_mergeSort (le:=λa b:Int=>decide (a<=b)) (λa b c h1 h2=>?_) (λa b=>?_) _).imp λh=>Yba h
 ·have h1:=Yba h1;have h2:=Yba h2;exact Yae (by lia)
 ·by_cases h:a<=b
  ·simp [h]
  ·have:b<=a:=by lia
   simp [this]
def edg (ns:List Int)(c:Bool):List (Int×Int):=(Gx ns c).map λt=>Jw t.1 t.2
theorem Vo (p q:Int):Jw p q=Jw q p:=by
 unfold Jw;by_cases h1:q<p
 ·rw [if_pos h1,if_neg (show ¬ q > p by lia),if_neg (show ¬ p<q by lia),if_pos (show p > q by lia)]
 ·by_cases h2:q > p
  ·rw [if_neg h1,if_pos h2,if_pos (show p<q by lia),if_neg (show ¬ p > q by lia)]
  ·rw [show p=q by lia]
theorem Wp {p q B:Int}(h:Jw p q=Jw p B):q=B:=by
 unfold Jw at h;have e:=Prod.mk.inj h;split at e <;> split at e <;> split at e <;> split at e <;> lia
theorem Ov {k:Int}{rs:List (Int×Int)}{ns:List Int}{c:Bool}(g:G4 k rs)(o:Zu rs ns c)(B:c=true->3<=ns.length):Xg rs (Vn rs c ns)/\((Vn rs c ns).map (road rs)).Perm (edg ns c):=by
 refine ⟨Wf g o B (Oh rs c ns) (Wo rs c ns),?_⟩;have:=(Oh rs c ns).map (road rs);rw [Oq g o.1] at this;exact this
theorem ZeV {k:Int}{rs:List (Int×Int)}{ns S:List Int}{c:Bool}(g:G4 k rs)(o:Zu rs ns c)(B:c=true->3<=ns.length)(D:Xg rs S)(h:(S.map (road rs)).Perm (edg ns c)):Vn rs c ns=S:=
 Za3 g D o B h (Oh rs c ns) (Wo rs c ns)
theorem Zbu {k:Int}{rs:List (Int×Int)}{ns ms:List Int}{c d:Bool}(g:G4 k rs)(o:Zu rs ns c)(F:c=true->3<=ns.length)(B:Zu rs ms d)(D:d=true->3<=ms.length)(h:(edg ns c).Perm (edg ms d)):Vn rs c ns=Vn rs d ms:=
 ZeV g o F (Ov g B D).1 ((Ov g B D).2.trans h.symm)
theorem Uc (s:Int)(tl:List Int):edg (s::tl) true=Ja (s::(tl++[s])):=Og s tl
theorem YX {k:Int}{rs:List (Int×Int)}{ns:List Int}{c:Bool}(g:G4 k rs):Zu rs ns c↔(∀e∈edg ns c,e∈rs)/\ns.Nodup:=by
 have B:∀r∈rs,r.1<r.2:=λr F=>(g.2.2.2.1 r F).2.1;constructor
 ·rintro ⟨h1,h2⟩;refine ⟨λe G=>?_,h2⟩;obtain ⟨t,D,rfl⟩:=Yam.mp G;exact (JC B _ _).mpr (h1 t D)
 ·rintro ⟨h1,h2⟩;exact ⟨λt D=>(JC B _ _).mp (h1 _ (Yam.mpr ⟨t,D,rfl⟩)),h2⟩
theorem J7 (x:Int):∀(tl:List Int)(a:Int),Ja ((a::tl)++[x])=Ja (a::tl)++[Jw ((a::tl).getD tl.length 0) x]
 | [],a=>rfl
 | b::tl,a=>by
  have ih:=J7 x tl b;show Ja (a::b::(tl++[x]))=_;rw [GX,GX];show Jw a b::Ja ((b::tl)++[x])=_;rw [ih]
  rfl
theorem VQ:∀ns:List Int,(Ja ns.reverse).Perm (Ja ns)
 | []=>.refl _
 | [a]=>.refl _
 | a::b::tl=>by
  have ih:=VQ (b::tl);rw [List.reverse_cons,GX];obtain ⟨c,r,B⟩:∃c r,(b::tl).reverse=c::r:=by
   cases h:(b::tl).reverse with
   | nil=>simp at h
   | cons c r=>exact ⟨c,r,rfl⟩
  have D:(c::r).getD r.length 0=b:=by
   have e:(c::r).getLast?=some b:=by rw [<-B,List.getLast?_reverse];rfl
   rw [List.getLast?_eq_getElem?] at e;rw [Yai];simp only [Ybi,Nat.add_sub_cancel] at e;rw [e]
   rfl
  rw [B] at ih ⊢;rw [J7,D,Vo b a];exact List.perm_append_comm.trans (ih.cons _)
theorem Ow {x y:Int}:∀{ns:List Int},Jw x y∈Ja ns->x∈ns/\y∈ns
 | [],h=>by cases h
 | [a],h=>by cases h
 | a::b::tl,h=>by
  rw [GX] at h;rcases Yar.mp h with h | h
  ·have e:x=a/\y=b\/x=b/\y=a:=by
    unfold Jw at h;have e:=Prod.mk.inj h;split at e <;> split at e <;> split at e <;> split at e <;> lia
   rcases e with ⟨rfl,rfl⟩ | ⟨rfl,rfl⟩ <;> simp
  ·have:=Ow h;exact ⟨Ybm _ this.1,Ybm _ this.2⟩
theorem Xo:∀(tl:List Int)(p:Int)(ls:List (Int×Int)),(p::tl).Nodup->ls.Perm (Ja (p::tl))->(∀r∈ls,r.1<r.2)->Wk ls p tl []
 | [],p,ls,_,pm,_=>by
  have:ls=[]:=pm.eq_nil;subst this;exact .stop λq a=>by rcases a with a | a <;> cases a
 | q::t,p,ls,nd,pm,hlt=>by
  rw [GX] at pm;have B:Jw p q∈ls:=pm.mem_iff.mpr (Yaz ..);refine .go ((JC hlt _ _).mp B) (λD a=>?_) (Xo t q _ (List.nodup_cons.mp nd).2 ?_ (Wd hlt))
  ·have:=pm.mem_iff.mp ((JC hlt _ _).mpr a);rcases Yar.mp this with e | e
   ·exact Int.le_of_eq (Wp e).symm
   ·exact absurd (Ow e).1 (List.nodup_cons.mp nd).1
  ·have:=pm.erase (Jw p q);rw [List.erase_cons_head] at this;exact this
def Cyc (rs:List (Int×Int))(c:List Int):Prop:=3<=c.length/\Zu rs c true
theorem ZeW (a:Int)(tl:List Int):(edg (tl++[a]) true).Perm (edg (a::tl) true):=by
 cases tl with
 | nil=>exact .refl _
 | cons b t=>
  show (edg (b::(t++[a])) true).Perm _;rw [Uc,Uc];show (Ja ((b::(t++[a]))++[b])).Perm (Ja (a::b::(t++[a])));rw [J7,GX];have e:(b::(t++[a])).getD (t++[a]).length 0=a:=by
   rw [Yan,Ybl,Yai,Yey,Ycs (Yac _),Ydi]
   rfl
  rw [e];exact List.perm_append_comm
theorem UO:∀(u v:List Int),(edg (v++u) true).Perm (edg (u++v) true)
 | [],v=>by rw [Ybr,List.nil_append]
 | a::u,v=>by
  have ih:=UO u (v++[a]);rw [Ybp] at ih;refine ih.trans ?_;rw [<-Ybp];exact ZeW a (u++v)
theorem ZeX (c:List Int):(edg c.reverse true).Perm (edg c true):=by
 cases c with
 | nil=>exact .refl _
 | cons s tl=>
  rw [List.reverse_cons];refine (UO [s] tl.reverse).trans ?_;show (edg (s::tl.reverse) true).Perm _;rw [Uc,Uc];have:=VQ (s::(tl++[s]));rw [List.reverse_cons,List.reverse_append] at this;exact this
theorem ZdN {k:Int}{rs:List (Int×Int)}{c d:List Int}(g:G4 k rs)(h:Cyc rs c)(B:(edg d true).Perm (edg c true))(D:d.Perm c):Cyc rs d/\Vn rs true d=Vn rs true c:=by
 have l:3<=d.length:=by rw [D.length_eq];exact h.1
 have o:Zu rs d true:=(YX g).mpr ⟨λe F=>((YX g).mp h.2).1 e (B.mem_iff.mp F),D.nodup_iff.mpr h.2.2⟩;exact ⟨⟨l,o⟩,Zbu g o (λ_=>l) h.2 (λ_=>h.1) B⟩
theorem ZcZ {k:Int}{rs:List (Int×Int)}{c:List Int}(g:G4 k rs)(h:Cyc rs c):∃ns,Zdu rs ns/\Vn rs true ns=Vn rs true c:=by
 obtain ⟨m,Y,F⟩:∃m∈c,∀x∈c,m<=x:=by
  have:∀l:List Int,l≠[]->∃m∈l,∀x∈l,m<=x:=by
   intro l
   induction l with
   | nil=>intro h;exact absurd rfl h
   | cons a l ih=>
    intro _;by_cases e:l=[]
    ·subst e;exact ⟨a,by simp,λx D=>by rw [Yas.mp D];lia⟩
    ·obtain ⟨m,h1,h2⟩:=ih e;by_cases Z:a<=m
     ·refine ⟨a,by simp,λx D=>?_⟩;rcases Yar.mp D with rfl | D
      ·lia
      ·have:=h2 x D
       lia
     ·refine ⟨m,Ybm _ h1,λx D=>?_⟩;rcases Yar.mp D with rfl | D
      ·lia
      ·exact h2 x D
  exact this c λe=>by have:=h.1;rw [e] at this;simp at this
 obtain ⟨u,v,rfl⟩:=List.append_of_mem Y;obtain ⟨h2,G⟩:=ZdN (d:=(m::v)++u) g h (UO u (m::v)) List.perm_append_comm;have B:∀x∈(m::v)++u,m<=x:=λx D=>F x ((List.perm_append_comm (l₁:=m::v) (l₂:=u)).mem_iff.mp D);have e0:(m::v)++u=m::(v++u):=rfl;rw [e0] at h2 G B;generalize v++u=tl at h2 G B;have O:=h2.1;have nd:=h2.2.2;rw [Ybi] at O;have ne:tl.getD 0 0≠tl.getD (tl.length-1) 0:=JT (List.nodup_cons.mp nd).2 (i:=0) (j:=tl.length-1) (by lia) (by lia) (by lia);by_cases L:tl.getD 0 0<tl.getD (tl.length-1) 0
 ·refine ⟨m::tl,⟨by rw [Ybi];exact O,B,?_,h2.2⟩,G⟩;show tl.getD 0 0<(m::tl).getD (tl.length+1-1) 0;rw [Nat.add_sub_cancel];have:(m::tl).getD tl.length 0=tl.getD (tl.length-1) 0:=by
   obtain ⟨n,N⟩:∃n,tl.length=n+1:=⟨tl.length-1,by lia⟩;rw [N,Nat.add_sub_cancel]
   rfl
  rw [this];exact L
 ·have pe:(edg (m::tl.reverse) true).Perm (edg (m::tl) true):=by
   refine ((UO [m] tl.reverse).symm).trans ?_;have:=ZeX (m::tl);rw [List.reverse_cons] at this;exact this
  obtain ⟨U,e3⟩:=ZdN (d:=m::tl.reverse) g h2 pe ((List.reverse_perm tl).cons m);refine ⟨m::tl.reverse,⟨U.1,λx D=>B x (((List.reverse_perm tl).cons m).mem_iff.mp D),?_,U.2⟩,e3.trans G⟩;show tl.reverse.getD 0 0<(m::tl.reverse).getD (tl.reverse.length+1-1) 0;have e5:tl.reverse.getD 0 0=tl.getD (tl.length-1) 0:=by
   rw [JA (by rw [List.length_reverse];lia),JA (by lia),List.getElem_reverse];simp
  have e6:(m::tl.reverse).getD (tl.reverse.length+1-1) 0=tl.getD 0 0:=by
   rw [Nat.add_sub_cancel,List.length_reverse];obtain ⟨n,N⟩:∃n,tl.length=n+1:=⟨tl.length-1,by lia⟩;rw [N];show tl.reverse.getD n 0=_;rw [JA (by rw [List.length_reverse];lia),JA (by lia),List.getElem_reverse]
   congr 1
   lia
  rw [e5,e6]
  lia
theorem Zbv {k:Int}{rs:List (Int×Int)}{ns:List Int}(g:G4 k rs)(R:Zdu rs ns):∃s tl,ns=s::tl/\Begins (cho rs (Vn rs true ns) rs.length) s/\Wk (cho rs (Vn rs true ns) rs.length) s (tl++[s]) []:=by
 have o:=R.2.2.2;have E:=Ov g o (λ_=>R.1);have hl:=R.1;obtain ⟨s,q,t,rfl⟩:∃s q t,ns=s::q::t:=by
  match ns,hl with
  | s::q::t,_=>exact ⟨s,q,t,rfl⟩
 have F:(cho rs (Vn rs true (s::q::t)) rs.length).Perm (Ja (s::q::(t++[s]))):=by
  rw [X0 E.1];exact E.2.trans (.of_eq (Uc s (q::t)))
 have B:=Za1 g (Vn rs true (s::q::t));generalize cho rs (Vn rs true (s::q::t)) rs.length=O at F B;rw [GX] at F;have G:∀x∈s::q::t,s<=x:=R.2.1;have U:=o.2;have aa:s<q:=by
  have:=G q (by simp);have:s≠q:=λe=>(List.nodup_cons.mp U).1 (by rw [e];simp)
  lia
 have D:∀x,x∈s::q::(t++[s])->x∈s::q::t:=λx Z=>by
  simp at Z ⊢;rcases Z with h | h | h | h
  ·exact .inl h
  ·exact .inr (.inl h)
  ·exact .inr (.inr h)
  ·exact .inl h
 have L:∀r∈O,r.1∈s::q::t/\r.2∈s::q::t:=λr N=>by
  have h1:=F.mem_iff.mp N;rw [<-GX] at h1;have er:r=Jw r.1 r.2:=by
   have:=B r N;unfold Jw;rw [if_neg (by lia),if_pos (by lia)]
  rw [er] at h1;have:=Ow h1;exact ⟨D _ this.1,D _ this.2⟩
 refine ⟨s,q::t,rfl,⟨λr N=>G _ (L r N).1,?_⟩,?_⟩
 ·refine ⟨Jw s q,F.mem_iff.mpr (Yaz ..),?_⟩;unfold Jw;rw [if_neg (by lia)]
 ·show Wk O s (q::(t++[s])) [];have hm:Jw s q∈O:=F.mem_iff.mpr (Yaz ..);have Y:(q::(t++[s])).Nodup:=by
   have:(q::(t++[s])).Perm (s::q::t):=by
    show ((q::t)++[s]).Perm _;exact List.perm_append_comm
   exact this.nodup_iff.mpr U
  refine .go ((JC B _ _).mp hm) (λq' a=>?_) (Xo (t++[s]) q _ Y ?_ (Wd B))
  ·have h1:=F.mem_iff.mp ((JC B _ _).mpr a);rcases Yar.mp h1 with e | e
   ·exact Int.le_of_eq (Wp e).symm
   ·-- the last step leads back to s
    have e2:Ja (q::(t++[s]))=Ja (q::t)++[Jw ((q::t).getD t.length 0) s]:=J7 s t q;rw [e2] at e;rcases Yav.mp e with e | e
    ·exact absurd (Ow e).1 (List.nodup_cons.mp U).1
    ·have e:=Yas.mp e;rw [Vo _ s] at e;have:=Wp e;have h4:=R.2.2.1;have h5:(s::q::t).getD ((s::q::t).length-1) 0=(q::t).getD t.length 0:=rfl;have h6:(s::q::t).getD 1 0=q:=rfl;rw [h5,h6] at h4
     lia
  ·have:=F.erase (Jw s q);rw [List.erase_cons_head] at this;exact this
theorem Zbw {k:Int}{rs:List (Int×Int)}{ns:List Int}(g:G4 k rs)(R:Zdu rs ns){s:Int}{tl:List Int}(e:ns=s::tl):Zx rs (Vn rs true ns) k (tl++[s]):=by
 obtain ⟨h1,h2,B,D⟩:=YJ g R (Oh rs true ns) (Wo rs true ns) rfl;refine ⟨h1,h2,B,?_⟩;rw [<-D,e,Yan,Ybl,Ybi]
theorem X6 {k:Int}{rs:List (Int×Int)}{ns:List Int}(g:G4 k rs)(R:Zdu rs ns):Vh k rs (Vn rs true ns):=by
 obtain ⟨s,tl,e,b,w⟩:=Zbv g R;exact ⟨s,tl++[s],b,w,Zbw g R e⟩
def plc (C:Nat)(k:List Int):Int:=gA k 0 * (C:Int)+gA k 1
theorem YY {R C n:Nat}{k:List Int}(B:k∈JR R C n):rdK C k=(plc C (Ob k),plc C (J3 k)):=by
 obtain ⟨r,c,d,_,_,rfl,D⟩:=GS B;rcases D with ⟨rfl,_⟩ | ⟨rfl,_⟩
 ·show ((r:Int) * (C:Int)+(c:Int),(r:Int) * (C:Int)+(c:Int)+1)=((r:Int) * (C:Int)+(c:Int),((r:Int)+0) * (C:Int)+((c:Int)+1-0));rw [show (r:Int)+0=(r:Int) by lia,show (c:Int)+1-0=(c:Int)+1 by lia,Int.add_assoc]
 ·show ((r:Int) * (C:Int)+(c:Int),((r:Int)+1) * (C:Int)+(c:Int))=((r:Int) * (C:Int)+(c:Int),((r:Int)+1) * (C:Int)+((c:Int)+1-1));rw [show (c:Int)+1-1=(c:Int) by lia]
theorem Zbx {R C n:Nat}{k:List Int}(F:k∈JR R C n):(∃a b:Nat,b<C/\Ob k=[(a:Int),(b:Int)])/\∃a b:Nat,b<C/\J3 k=[(a:Int),(b:Int)]:=by
 obtain ⟨r,c,d,_,B,rfl,G⟩:=GS F;have D:∀a b e:Int,J3 [a,b,e]=[a+e,b+1-e]:=λ_ _ _=>rfl;refine ⟨⟨r,c,B,rfl⟩,?_⟩;rcases G with ⟨rfl,h⟩ | ⟨rfl,h⟩
 ·exact ⟨r,c+1,h,by rw [D];simp⟩
 ·exact ⟨r+1,c,B,by rw [D,show (c:Int)+1-1=(c:Int) by lia];simp⟩
theorem YZ {R C:Nat}{rs:List Int}{x y:List Int}(h:y∈nbF (Jc (Gy R C R) rs) x):∃a b:Nat,b<C/\x=[(a:Int),(b:Int)]:=by
 obtain ⟨p,B,_,h⟩:=nb_mem.mp h;have k:=Zbx ((GQ (R:=R) (C:=C) R).keys p B);rcases h with ⟨rfl,_⟩ | ⟨rfl,_⟩
 ·exact k.1
 ·exact k.2
theorem ZeY {C:Nat}{x y:List Int}(D:∃a b:Nat,b<C/\x=[(a:Int),(b:Int)])(F:∃a b:Nat,b<C/\y=[(a:Int),(b:Int)])(e:plc C x=plc C y):x=y:=by
 obtain ⟨a,b,G,rfl⟩:=D;obtain ⟨L,N,B,rfl⟩:=F;obtain ⟨rfl,rfl⟩:=Zbp G B e
 rfl
theorem Ox {R C:Nat}{p:List Int×Int}(B:p∈Gy R C R):road (gRoads R C (R * C)) p.2=rdK C p.1/\0<=p.2/\p.2<((gRoads R C (R * C)).length:Int):=by
 have h:=GQ (R:=R) (C:=C) R;rw [h] at B;obtain ⟨i,hi,rfl⟩:=Yam.mp B;rw [Ybq] at hi;rw [Uw];unfold road;refine ⟨?_,by show (0:Int)<=(i:Int);lia,by rw [Yaa];show (i:Int)<_;lia⟩;show ((JR R C R).map (rdK C)).getD (Int.toNat (i:Int)) (0,0)=rdK C ((JR R C R).getD i []);rw [Ybu,Yai,Yai,Yau,Yah hi]
 rfl
theorem stp {R C:Nat}(g:G4 ((R * C:Nat):Int) (gRoads R C (R * C))){rs:List Int}{x y:List Int}(h:y∈nbF (Jc (Gy R C R) rs) x):Adj (gRoads R C (R * C)) (plc C x) (plc C y)/\Wv (gRoads R C (R * C)) (plc C x,plc C y)∈rs:=by
 obtain ⟨p,F,L,h⟩:=nb_mem.mp h;have D:=(GQ (R:=R) (C:=C) R).keys p F;obtain ⟨e,b⟩:=Ox F;rw [YY D] at e;have B:(plc C (Ob p.1),plc C (J3 p.1))∈gRoads R C (R * C):=by rw [Uw,<-YY D];exact Yam.mpr ⟨_,D,rfl⟩
 have lt:=(g.2.2.2.1 _ B).2.1;have G:Jw (plc C (Ob p.1)) (plc C (J3 p.1))=(plc C (Ob p.1),plc C (J3 p.1)):=by
  unfold Jw;rw [if_pos lt,if_neg (by have lt:plc C (Ob p.1)<plc C (J3 p.1):=lt;lia)]
 have fin:∀t:Int×Int,Adj (gRoads R C (R * C)) t.1 t.2->Jw t.1 t.2=(plc C (Ob p.1),plc C (J3 p.1))->Wv (gRoads R C (R * C)) t∈rs:=λt a N=>by
  have q:=J1 g a;rw [YH g q.1 b (by rw [q.2,e,N])];exact L
 rcases h with ⟨rfl,rfl⟩ | ⟨rfl,rfl⟩
 ·exact ⟨.inl B,fin _ (.inl B) G⟩
 ·exact ⟨.inr B,fin _ (.inr B) (by rw [Vo];exact G)⟩
theorem X7:∀{a b:List Int},a.Pairwise (· < ·)->b.Pairwise (· < ·)->(∀x,x∈a↔x∈b)->a=b
 | [],[],_,_,_=>rfl
 | [],y::b,_,_,h=>absurd ((h y).mpr (Yaz ..)) (by simp)
 | x::a,[],_,_,h=>absurd ((h x).mp (Yaz ..)) (by simp)
 | x::a,y::b,ha,hb,h=>by
  obtain ⟨a1,a2⟩:=Yed.mp ha;obtain ⟨F,G⟩:=Yed.mp hb;have e:x=y:=by
   rcases Yar.mp ((h x).mp (Yaz ..)) with e | e
   ·exact e
   ·rcases Yar.mp ((h y).mpr (Yaz ..)) with D | D
    ·exact D.symm
    ·have:=F x e;have:=a1 y D;lia
  subst e;rw [X7 a2 G λz=>⟨λB=>by
   rcases Yar.mp ((h z).mp (Ybm _ B)) with e | e
   ·have:=a1 z B;lia
   ·exact e,λB=>by
   rcases Yar.mp ((h z).mpr (Ybm _ B)) with e | e
   ·have:=F z B;lia
   ·exact e⟩]
theorem Y0 {R C:Nat}(g:G4 ((R * C:Nat):Int) (gRoads R C (R * C))){ms:List Int}(N:Ww R C ms):∃r,Rnd (nbF (Jc (Gy R C R) ms)) r/\(∀q∈ms,∃x y,x∈r/\y∈r/\road (gRoads R C (R * C)) q=Jw (plc C x) (plc C y))/\Vh ((R * C:Nat):Int) (gRoads R C (R * C)) ms:=by
 obtain ⟨r,B,hl⟩:=N.rnd;have O:∀x∈r,∃y,y∈nbF (Jc (Gy R C R) ms) x:=λx L=>by
  obtain ⟨j,hj,e⟩:=Yby L;have ej:r[j]?=some x:=by rw [Yah hj,e]
  by_cases hl:j+1<r.length
  ·exact ⟨_,B.adj j x _ ej (Yah hl)⟩
  ·have h3:=B.len;exact ⟨_,B.cl x _ (by rw [show r.length-1=j by lia];exact ej) (Yah (show 0<r.length by lia))⟩
 have h3:=B.len;have D:∀t∈Gx (r.map (plc C)) true,∃x y,(x∈r/\y∈r)/\y∈nbF (Jc (Gy R C R) ms) x/\t=(plc C x,plc C y):=λt F=>by
  unfold Gx at F;rcases Yav.mp F with F | F
  ·obtain ⟨j,hj,e⟩:=Yby F;have aa:j+1<r.length:=by
    rw [List.length_zip,Yct,Yaa] at hj
    lia
   refine ⟨r[j],r[j+1],⟨Ycd _,Ycd _⟩,B.adj j _ _ (Yah (by lia)) (Yah aa),?_⟩;rw [<-e,List.getElem_zip,List.getElem_drop,List.getElem_map,List.getElem_map]
   congr 3
   simp [Nat.add_comm]
  ·rw [if_pos rfl,Yas] at F;refine ⟨r[r.length-1],r[0],⟨Ycd _,Ycd _⟩,B.cl _ _ (Yah (by lia)) (Yah (by lia)),?_⟩;rw [F,Yaa,Yai,Yai,Yau,Yau,Yah (show r.length-1<r.length by lia),Yah (show 0<r.length by lia)]
   rfl
 have G:Zu (gRoads R C (R * C)) (r.map (plc C)) true:=⟨λt F=>by
  obtain ⟨x,y,_,h,rfl⟩:=D t F;exact (stp g h).1,Yee.mpr (B.nd.imp_of_mem λ{a b} ha hb n e=>n (by
   obtain ⟨_,h1⟩:=O a ha;obtain ⟨_,h2⟩:=O b hb;exact ZeY (YZ h1) (YZ h2) e))⟩
 have c3:3<=(r.map (plc C)).length:=by rw [Yaa];exact h3
 obtain ⟨ns,Rg,er⟩:=ZcZ g ⟨c3,G⟩;have is:=(Ov g G (λ_=>c3)).1;have pm:=Oh (gRoads R C (R * C)) true (r.map (plc C));have U:∀x∈Vn (gRoads R C (R * C)) true (r.map (plc C)),x∈ms:=λx L=>by
  obtain ⟨t,F,rfl⟩:=Yam.mp (pm.mem_iff.mp L);obtain ⟨x',y',_,h,rfl⟩:=D t F;exact (stp g h).2
 have ln:(Vn (gRoads R C (R * C)) true (r.map (plc C))).length=ms.length:=by
  rw [pm.length_eq,Yaa];unfold Gx;rw [Yan,List.length_zip,Yct,Yaa,if_pos rfl,Ybl]
  lia
 have n1:=Vc is.1;have Y:∀x,x∈ms↔x∈Vn (gRoads R C (R * C)) true (r.map (plc C)):=λx=>⟨λL=>by
  refine Classical.byContradiction λhn=>?_;have:=O7 (a:=x::Vn (gRoads R C (R * C)) true (r.map (plc C))) (b:=ms) (List.nodup_cons.mpr ⟨hn,n1⟩) λy Z=>by
   rcases Yar.mp Z with rfl | Z
   ·exact L
   ·exact U y Z
  rw [Ybi] at this
  lia,U x⟩
 have e:ms=Vn (gRoads R C (R * C)) true (r.map (plc C)):=X7 N.asc is.1 Y;refine ⟨r,B,λq hq=>?_,by rw [e,<-er];exact X6 g Rg⟩;obtain ⟨t,F,rfl⟩:=Yam.mp (pm.mem_iff.mp ((Y q).mp hq));obtain ⟨x,y,⟨L,Z⟩,h,rfl⟩:=D t F;exact ⟨x,y,L,Z,(J1 g (stp g h).1).2⟩
theorem ZB {R C:Nat}(g:G4 ((R * C:Nat):Int) (gRoads R C (R * C))){ms:List Int}(B:Ww R C ms):Vh ((R * C:Nat):Int) (gRoads R C (R * C)) ms:=let ⟨_,_,_,h⟩:=Y0 g B;h
theorem X8 {R C:Nat}{rs:List Int}{i:Int}{p:List Int×Int}(F:p∈Gy R C R):p.2∈UM (Gy R C R) rs i↔gA p.1 0<i/\p.2∈rs:=by
 unfold UM;rw [Yam];constructor
 ·rintro ⟨q,G,e⟩;obtain ⟨D,B⟩:=Ybk.mp G;rw [Uq D F e,Ycl] at B;exact ⟨Yba B.1,Yba B.2⟩
 ·rintro ⟨h1,h2⟩;exact ⟨p,Ybk.mpr ⟨F,by rw [Ycl];exact ⟨Yae h1,Yae h2⟩⟩,rfl⟩
theorem abo_nb {R C:Nat}{rs:List Int}{i:Int}{x y:List Int}:y∈nbF (Jc (Gy R C R) (UM (Gy R C R) rs i)) x↔∃p∈Gy R C R,(gA p.1 0<i/\p.2∈rs)/\((x=Ob p.1/\y=J3 p.1)\/(x=J3 p.1/\y=Ob p.1)):=by
 rw [nb_mem];exact ⟨λ⟨p,B,h1,h2⟩=>⟨p,B,(X8 B).mp h1,h2⟩,λ⟨p,B,h1,h2⟩=>⟨p,B,(X8 B).mpr h1,h2⟩⟩
theorem row_up {R C:Nat}{rs:List Int}{i c:Nat}{y:List Int}:y∈nbF (Jc (Gy R C R) (UM (Gy R C R) rs ((i+1:Nat):Int))) [((i+1:Nat):Int),(c:Int)]↔y=[(i:Int),(c:Int)]/\∃n∈rs,OO (Gy R C R) [(i:Int),(c:Int),1]=some n:=by
 rw [abo_nb];have B:∀a b e:Int,J3 [a,b,e]=[a+e,b+1-e]:=λ_ _ _=>rfl;have D:∀a b e:Int,Ob [a,b,e]=[a,b]:=λ_ _ _=>rfl;constructor
 ·rintro ⟨p,F,⟨h1,h2⟩,h⟩;have G:=(GQ (R:=R) (C:=C) R).keys p F;have g:=ZdK F;obtain ⟨r,L,d,_,_,N,O⟩:=GS G;rw [N] at h1 h g;have h1:(r:Int)<((i+1:Nat):Int):=h1;rw [D,B] at h;rcases h with ⟨a,b⟩ | ⟨a,b⟩
  ·simp only [List.cons.injEq,and_true] at a;lia
  ·simp only [List.cons.injEq,and_true] at a;rcases O with ⟨rfl,_⟩ | ⟨rfl,_⟩
   ·lia
   ·obtain ⟨U,a2⟩:=a;have Y:r=i:=by push_cast at U;lia
    have Z:L=c:=by lia
    subst Y Z;exact ⟨b,p.2,h2,g⟩
 ·rintro ⟨rfl,n,hn,g⟩;refine ⟨_,Jl g,⟨by show (i:Int)<((i+1:Nat):Int);lia,hn⟩,.inr ⟨?_,?_⟩⟩
  ·rw [B,show (c:Int)+1-1=(c:Int) by lia];push_cast;rfl
  ·rw [D]
theorem Zby {nm:NM}{x:List Int}(B:∀p∈nm,p.2≠[]):(Ot nm x).isSome=true↔∃y,y∈nbF nm x:=by
 unfold nbF;constructor
 ·intro h;obtain ⟨l,D⟩:=Yeg.mp h;rw [D];unfold Ot at D;obtain ⟨p,G,rfl⟩:=Ybg.mp D;exact List.exists_mem_of_ne_nil _ (B p (List.mem_of_find?_eq_some G))
 ·rintro ⟨y,F⟩;cases e:Ot nm x with
  | none=>rw [e] at F;cases F
  | some l=>rfl
theorem ZeZ {R C:Nat}{rs:List Int}{i c s:Nat}(h:ZcO (Jc (Gy R C R) (UM (Gy R C R) rs ((i+1:Nat):Int))) ((i+1:Nat):Int) c=some s):s≠46↔∃n∈rs,OO (Gy R C R) [(i:Int),(c:Int),1]=some n:=by
 unfold ZcO at h;have k:=Zby (x:=[((i+1:Nat):Int),(c:Int)]) (YW (Gy R C R) (UM (Gy R C R) rs ((i+1:Nat):Int)));by_cases g:(Ot (Jc (Gy R C R) (UM (Gy R C R) rs ((i+1:Nat):Int))) [((i+1:Nat):Int),(c:Int)]).isSome=true
 ·rw [if_pos g] at h;obtain ⟨e,_,h⟩:=Option.bind_eq_some_iff.mp h;obtain ⟨y,B⟩:=k.mp g;refine ⟨λ_=>(row_up.mp B).2,λ_=>?_⟩;rw [<-Yaw h];split <;> decide
 ·rw [if_neg g] at h;rw [<-Yaw h];exact ⟨λz=>absurd rfl z,λz=>absurd (k.mpr ⟨_,row_up.mpr ⟨rfl,z⟩⟩) g⟩
def chB (R C:Nat)(ms:List Int)(m:List Int):Bool:=match OO (Gy R C R) m with
 | some n=>decide (n∈ms)
 | none=>false
theorem chB_iff {R C:Nat}{ms m:List Int}:chB R C ms m=true↔∃n∈ms,OO (Gy R C R) m=some n:=by
 unfold chB;cases e:OO (Gy R C R) m with
 | none=>simp
 | some n=>simp
theorem Ze0 {R C:Nat}{ms:List Int}{r c:Int}{y:List Int}:y∈nbF (Jc (Gy R C R) ms) [r,c] ↔
  (y=[r,c+1]/\chB R C ms [r,c,0]=true)\/(y=[r,c-1]/\chB R C ms [r,c-1,0]=true)\/(y=[r+1,c]/\chB R C ms [r,c,1]=true)\/(y=[r-1,c]/\chB R C ms [r-1,c,1]=true):=by
 have D:∀a b e:Int,J3 [a,b,e]=[a+e,b+1-e]:=λ_ _ _=>rfl;have F:∀a b e:Int,Ob [a,b,e]=[a,b]:=λ_ _ _=>rfl;rw [nb_mem];simp only [chB_iff];constructor
 ·rintro ⟨p,L,G,h⟩;have g:=ZdK L;obtain ⟨a,b,d,_,_,N,O⟩:=GS ((GQ (R:=R) (C:=C) R).keys p L);rw [N] at g h;rw [F,D] at h;rcases h with ⟨x,rfl⟩ | ⟨x,rfl⟩ <;> simp only [List.cons.injEq,and_true] at x <;> obtain ⟨rfl,rfl⟩:=x <;> rcases O with ⟨rfl,_⟩ | ⟨rfl,_⟩
  ·exact .inl ⟨by simp,p.2,G,g⟩
  ·exact .inr (.inr (.inl ⟨by simp,p.2,G,g⟩))
  ·refine .inr (.inl ⟨by simp,p.2,G,?_⟩);rw [show (a:Int)+0=(a:Int) by lia,show (b:Int)+1-0-1=(b:Int) by lia];exact g
  ·refine .inr (.inr (.inr ⟨by simp,p.2,G,?_⟩));rw [show (a:Int)+1-1=(a:Int) by lia,show (b:Int)+1-1=(b:Int) by lia];exact g
 ·rintro (⟨rfl,n,B,g⟩ | ⟨rfl,n,B,g⟩ | ⟨rfl,n,B,g⟩ | ⟨rfl,n,B,g⟩)
  ·exact ⟨_,Jl g,B,.inl ⟨(F _ _ _).symm,by rw [D];simp⟩⟩
  ·exact ⟨_,Jl g,B,.inr ⟨by rw [D];simp,(F _ _ _).symm⟩⟩
  ·exact ⟨_,Jl g,B,.inl ⟨(F _ _ _).symm,by rw [D];simp⟩⟩
  ·exact ⟨_,Jl g,B,.inr ⟨by rw [D];simp,(F _ _ _).symm⟩⟩
def Zff (R C:Nat)(ms:List Int)(r c:Int):List (List Int):=(if chB R C ms [r,c,0]=true then [[r,c+1]] else [])++(if chB R C ms [r,c-1,0]=true then [[r,c-1]] else [])++(if chB R C ms [r,c,1]=true then [[r+1,c]] else [])++(if chB R C ms [r-1,c,1]=true then [[r-1,c]] else [])
theorem Ze1 {R C:Nat}{ms:List Int}{r c:Int}:(nbF (Jc (Gy R C R) ms) [r,c]).length=(chB R C ms [r,c,0]).toNat+(chB R C ms [r,c-1,0]).toNat+(chB R C ms [r,c,1]).toNat+(chB R C ms [r-1,c,1]).toNat:=by
 have m:∀y,y∈Zff R C ms r c↔y∈nbF (Jc (Gy R C R) ms) [r,c]:=λy=>by
  rw [Ze0];unfold Zff;simp only [Yav];cases chB R C ms [r,c,0] <;> cases chB R C ms [r,c-1,0] <;> cases chB R C ms [r,c,1] <;> cases chB R C ms [r-1,c,1] <;> simp [or_assoc]
 have D:(Zff R C ms r c).Nodup:=by
  unfold Zff;cases chB R C ms [r,c,0] <;> cases chB R C ms [r,c-1,0] <;> cases chB R C ms [r,c,1] <;> cases chB R C ms [r-1,c,1] <;> simp <;> lia
 have l:(Zff R C ms r c).length=(chB R C ms [r,c,0]).toNat+(chB R C ms [r,c-1,0]).toNat+(chB R C ms [r,c,1]).toNat+(chB R C ms [r-1,c,1]).toNat:=by
  unfold Zff;cases chB R C ms [r,c,0] <;> cases chB R C ms [r,c-1,0] <;> cases chB R C ms [r,c,1] <;> cases chB R C ms [r-1,c,1] <;> rfl
 have h1:=O7 D λy B=>(m y).mp B;have h2:=O7 (ZeT ms [r,c]) λy B=>(m y).mpr B
 lia
theorem Y1 {R C:Nat}{ms:List Int}(B:Ww R C ms)(r c:Int):((chB R C ms [r,c,0]).toNat+(chB R C ms [r,c-1,0]).toNat+(chB R C ms [r,c,1]).toNat+(chB R C ms [r-1,c,1]).toNat) % 2=0:=by
 rw [<-Ze1];by_cases h:nbF (Jc (Gy R C R) ms) [r,c]=[]
 ·rw [h];rfl
 ·rw [ZdH B.two h]
theorem Zbz {R C:Nat}{ms m:List Int}(h:chB R C ms m=true):m∈JR R C R:=by
 obtain ⟨n,_,g⟩:=chB_iff.mp h;exact (GQ (R:=R) (C:=C) R).keys _ (Jl g)
theorem ZbA {R C:Nat}{ms:List Int}{r c d:Int}(h:r<0\/c<0):chB R C ms [r,c,d]=false:=by
 cases e:chB R C ms [r,c,d] with
 | false=>rfl
 | true=>
  obtain ⟨a,b,D,_,_,B,_⟩:=GS (Zbz e);simp only [List.cons.injEq,and_true] at B
  lia
def ZG (R C:Nat)(ms:List Int)(r:Int):Nat->Nat
 | 0=>0
 | n+1=>ZG R C ms r n+(chB R C ms [r,(n:Int),1]).toNat
theorem Zg3 {R C:Nat}{ms:List Int}(B:Ww R C ms)(r:Int):∀c:Nat,((chB R C ms [r,(c:Int),0]).toNat+ZG R C ms r (c+1)+ZG R C ms (r-1) (c+1)) % 2=0
 | 0=>by
  have h:=Y1 B r 0;rw [show (0:Int)-1=-1 by lia,ZbA (R:=R) (C:=C) (ms:=ms) (r:=r) (c:=-1) (d:=0) (.inr (by lia))] at h;show ((chB R C ms [r,0,0]).toNat+(0+(chB R C ms [r,0,1]).toNat)+(0+(chB R C ms [r-1,0,1]).toNat)) % 2=0;have z:false.toNat=0:=rfl;rw [z] at h
  lia
 | c+1=>by
  have h:=Y1 B r ((c+1:Nat):Int);have D:=Zg3 B r c;rw [show ((c+1:Nat):Int)-1=(c:Int) by push_cast;lia] at h;show ((chB R C ms [r,((c+1:Nat):Int),0]).toNat+(ZG R C ms r (c+1)+(chB R C ms [r,((c+1:Nat):Int),1]).toNat)+(ZG R C ms (r-1) (c+1)+(chB R C ms [r-1,((c+1:Nat):Int),1]).toNat)) % 2=0
  lia
theorem Y2 {R C:Nat}{ms:List Int}{i:Nat}:∀{n:Nat}{l:List Nat},JP (Jc (Gy R C R) (UM (Gy R C R) ms ((i+1:Nat):Int))) ((i+1:Nat):Int) n=some l->l.length=l.count 46+ZG R C ms (i:Int) n
 | 0,l,h=>by cases h;rfl
 | n+1,l,h=>by
  obtain ⟨l0,h1,h2⟩:=Option.bind_eq_some_iff.mp (show (JP _ _ n).bind _=some l from h);obtain ⟨s,F,rfl⟩:=Ybg.mp h2;have L:=Y2 h1;have D:=ZeZ F;rw [<-chB_iff] at D;rw [Yan,List.count_append,Ybl];show l0.length+1=l0.count 46+[s].count 46+(ZG R C ms (i:Int) n+(chB R C ms [(i:Int),(n:Int),1]).toNat);by_cases B:s=46
  ·have:chB R C ms [(i:Int),(n:Int),1]=false:=by
    cases e:chB R C ms [(i:Int),(n:Int),1] with
    | false=>rfl
    | true=>exact absurd B (D.mpr e)
   rw [this,B,show [46].count 46=1 from rfl,show false.toNat=0 from rfl]
   lia
  ·have G:[s].count 46=0:=List.count_eq_zero_of_not_mem (by simpa using λz:46=s=>B z.symm);rw [D.mp B,G,show true.toNat=1 from rfl]
   lia
theorem ZbB {nm:NM}{i:Int}{n:Nat}{w:List Nat}(h:JP nm i n=some w):∀m,m<=n->JP nm i m=some (w.take m):=by
 induction n generalizing w with
 | zero=>intro m B;cases h;rw [Nat.le_zero.mp B];rfl
 | succ n ih=>
  intro m B;obtain ⟨l,h1,h2⟩:=Option.bind_eq_some_iff.mp (show (JP nm i n).bind _=some w from h);obtain ⟨s,_,rfl⟩:=Ybg.mp h2;have F:=Wl h1;rcases Nat.lt_or_ge m (n+1) with D | D
  ·rw [ih h1 m (by lia),List.take_append_of_le_length (by lia)]
  ·rw [Nat.le_antisymm B D,Yeb (by rw [Yan,Ybl];lia)];exact h
theorem Vp {R C:Nat}{ms:List Int}{r:Int}(h:∀b:Nat,chB R C ms [r,(b:Int),1]=false):∀n,ZG R C ms r n=0
 | 0=>rfl
 | n+1=>by
  show ZG R C ms r n+(chB R C ms [r,(n:Int),1]).toNat=0;rw [Vp h n,h n]
  rfl
theorem ZbC {R C:Nat}{ms:List Int}{b:Nat}(D:1<=R):chB R C ms [(R:Int)-1,(b:Int),1]=false:=by
 cases e:chB R C ms [(R:Int)-1,(b:Int),1] with
 | false=>rfl
 | true=>
  obtain ⟨a,F,d,_,_,B,G⟩:=GS (Zbz e);simp only [List.cons.injEq,and_true] at B
  lia
theorem Y3 (c n:Nat):((dots c).take n).length=((dots c).take n).count 46:=by
 unfold dots;rw [List.take_replicate,Ydy,List.count_replicate_self]
def Ze2 (R C:Nat)(ms:List Int)(fr:List (List Nat)):Prop:=∀i:Nat,i<=R->∀n,n<=C->((fr.getD i []).take n).length=((fr.getD i []).take n).count 46+ZG R C ms ((i:Int)-1) n
theorem Zg4 {R C:Nat}{ms:List Int}{W:Nat->List Nat}(B:1<=R)(D:∀i:Nat,1<=i->i<R->JP (Jc (Gy R C R) (UM (Gy R C R) ms (i:Int))) (i:Int) C=some (W i)):Ze2 R C ms (dots C::(((List.range (R-1)).map λj=>W (j+1))++[dots C])):=by
 intro i hi n F
 match i,hi with
 | 0,_=>
  show ((dots C).take n).length=((dots C).take n).count 46+ZG R C ms (((0:Nat):Int)-1) n;rw [Vp (λb=>ZbA (.inl (by lia))),Y3 C n]
  rfl
 | i+1,hi=>
  rw [List.getD_cons_succ];by_cases h:i<R-1
  ·have e:(((List.range (R-1)).map λj=>W (j+1))++[dots C]).getD i []=W (i+1):=by
    rw [Yai,Ydf (by rw [Yaa,Ycb];exact h),Yau,List.getElem?_range h]
    rfl
   rw [e,show ((i+1:Nat):Int)-1=(i:Int) by push_cast;lia];exact Y2 (ZbB (D (i+1) (by lia) (by lia)) n F)
  ·have G:i=R-1:=by lia
   have e:(((List.range (R-1)).map λj=>W (j+1))++[dots C]).getD i []=dots C:=by
    rw [Yai,Ycs (by rw [Yaa,Ycb];lia),Yaa,Ycb,G,Ydi]
    rfl
   rw [e,show ((i+1:Nat):Int)-1=(R:Int)-1 by push_cast;lia,Vp (λb=>ZbC B),Y3 C n]
   rfl
theorem Ze3 {R C:Nat}{ms:List Int}{fr:List (List Nat)}(h2:2<=C)(G:Ww R C ms)(ok:Ze2 R C ms fr)(U:∀i,i<=R->(fr.getD i []).length=C){k:List Int}(Y:k∈JR R C R):Zbe C fr (rdK C k)=chB R C ms k:=by
 obtain ⟨r,c,d,hr,O,rfl,Z⟩:=GS Y;have ta:(rdK C [(r:Int),(c:Int),d]).1=((r * C+c:Nat):Int):=by show (r:Int) * (C:Int)+(c:Int)=_;push_cast;rfl
 have dv:(r * C+c) / C=r:=by rw [Nat.add_comm,Nat.add_mul_div_right _ _ (by lia),Nat.div_eq_of_lt O,Ydc]
 have md:(r * C+c) % C=c:=by rw [Nat.add_comm,Nat.add_mul_mod_self_right,Nat.mod_eq_of_lt O]
 unfold Zbe;rw [ta,Ybu,dv,md];rcases Z with ⟨rfl,aa⟩ | ⟨rfl,ab⟩
 ·have tb:(rdK C [(r:Int),(c:Int),0]).2=((r * C+c:Nat):Int)+1:=by show (r:Int) * (C:Int)+(c:Int)+1=_;push_cast;rfl
  rw [tb,if_neg (by lia)];have x:=Zg3 G (r:Int) c;have L:=ok r (by lia) (c+1) (by lia);have D:=ok (r+1) (by lia) (c+1) (by lia);rw [show ((r+1:Nat):Int)-1=(r:Int) by push_cast;lia] at D;rw [Yan,List.count_append];cases e:chB R C ms [(r:Int),(c:Int),0] with
  | true=>
   rw [e,show true.toNat=1 from rfl] at x;exact Yae (by lia)
  | false=>
   rw [e,show false.toNat=0 from rfl] at x;exact Yak (by lia)
 ·have tb:(rdK C [(r:Int),(c:Int),1]).2=((r * C+c:Nat):Int)+(C:Int):=by
   show ((r:Int)+1) * (C:Int)+(c:Int)=_;rw [Int.add_mul,Int.one_mul];push_cast;lia
  rw [tb,if_pos rfl];have L:=ok (r+1) (by lia) c (by lia);have D:=ok (r+1) (by lia) (c+1) (by lia);have N:=U (r+1) (by lia);rw [show ((r+1:Nat):Int)-1=(r:Int) by push_cast;lia] at L D;generalize fr.getD (r+1) []=w at L D N ⊢;rw [show w.take (c+1)=w.take c++[w.getD c 0] by
   rw [Ybw,Yai,Yah (show c<w.length by lia)];rfl,Yan,List.count_append,Ybl] at D
  have F:(w.take c).length+1=(w.take c).count 46+[w.getD c 0].count 46+(ZG R C ms (r:Int) c+(chB R C ms [(r:Int),(c:Int),1]).toNat):=D;by_cases B:w.getD c 0=46
  ·rw [B,show [46].count 46=1 from rfl] at F;rw [B];cases e:chB R C ms [(r:Int),(c:Int),1] with
   | false=>rfl
   | true=>rw [e,show true.toNat=1 from rfl] at F;lia
  ·have c0:[w.getD c 0].count 46=0:=List.count_eq_zero_of_not_mem (by simpa using λz:46=w.getD c 0=>B z.symm);rw [c0] at F;rw [Yak B];cases e:chB R C ms [(r:Int),(c:Int),1] with
   | true=>rfl
   | false=>rw [e,show false.toNat=0 from rfl] at F;lia
theorem Zc0 {R C:Nat}{ms:List Int}{L:List (List Nat)}(h2:2<=C)(D:Ww R C ms)(ok:Ze2 R C ms (dots C::(L++[dots C])))(Z:∀i,i<=R->((dots C::(L++[dots C])).getD i []).length=C):VM R C L=ms:=by
 have N:∀j:Nat,j<(JR R C R).length->Zbe C (dots C::(L++[dots C])) ((gRoads R C (R * C)).getD j (0,0))=decide ((j:Int)∈ms):=λj B=>by
  have km:(JR R C R).getD j []∈JR R C R:=by
   rw [Yai,Yah B];exact Ycd B
  have e:(gRoads R C (R * C)).getD j (0,0)=rdK C ((JR R C R).getD j []):=by
   rw [Uw,Yai,Yai,Yau,Yah B]
   rfl
  rw [e,Ze3 h2 D ok Z km];unfold chB;rw [Zbn (GQ R) (Up R C R) B]
 have O:(gRoads R C (R * C)).length=(JR R C R).length:=by rw [Uw,Yaa]
 refine X7 ?_ D.asc λx=>?_
 ·unfold VM;refine Yee.mpr ((List.pairwise_lt_range.filter _).imp λ{a b} h=>by lia)
 ·unfold VM;rw [Yam];constructor
  ·rintro ⟨j,B,rfl⟩;obtain ⟨F,G⟩:=Ybk.mp B;rw [Ybq,O] at F;rw [N j F] at G;exact Yba G
  ·intro U;obtain ⟨p,Y,e⟩:=D.rds x U;have h:=GQ (R:=R) (C:=C) R;rw [h] at Y;obtain ⟨j,B,rfl⟩:=Yam.mp Y;rw [Ybq] at B;have e:(j:Int)=x:=e;refine ⟨j,Ybk.mpr ⟨Ybq.mpr (by rw [O];exact B),?_⟩,e⟩;rw [N j B,e];exact Yae U
inductive Pc (E:Int->Int->Prop):Int->Option Int->Option Int->Int->Nat->Prop
 | nil (p:Int):Pc E p none none p 0
 | cons {p q:Int} {q1 z1:Option Int} {z:Int} {n:Nat}:E p q->Pc E q q1 z1 z n->q1≠some p->Pc E p (some q) (some (z1.getD p)) z (n+1)
section
variable {E E':Int->Int->Prop}{p q r s z:Int}{p1 q1 r1 s1 z1:Option Int}{n m:Nat}
theorem Pc.nn (h:Pc E p p1 z1 z n):p1=none->z1=none:=by cases h with
 | nil=>exact id
 | cons=>intro h;cases h
theorem Pc.fst (h:Pc E p (some q) z1 z n):E p q:=by cases h with
 | cons e=>exact e
theorem Pc.ex (h:Pc E p p1 z1 z n)(h1:1<=n):∃q,E p q/\p1=some q/\∃y,z1=some y:=by
 cases h with
 | nil=>lia
 | cons e=>exact ⟨_,e,rfl,_,rfl⟩
theorem Pc.mono (h:Pc E p p1 z1 z n)(f:∀x y,E x y->E' x y):Pc E' p p1 z1 z n:=by
 induction h with
 | nil p=>exact .nil p
 | cons e _ n ih=>exact .cons (f _ _ e) ih n
theorem Pc.app (h:Pc E p p1 z1 z n)(e:E z r)(B:z1≠some r)(h2:Pc E r r1 s1 s m)(D:r1≠some z):Pc E p (some (p1.getD r)) (some (s1.getD z)) s (n+1+m):=by
 induction h with
 | nil p=>rw [Ydc,Nat.add_comm];exact .cons e h2 D
 | @cons p q q1 z1 z n e1 h1 n3 ih=>
  have c:=Pc.cons e1 (ih e (λy=>B (by rw [y];rfl)) D) λy=>by
   cases q1 with
   | none=>have:=h1.nn rfl;subst this;exact B y.symm
   | some a=>exact n3 y
  rw [show n+1+m+1=n+1+1+m by lia] at c;exact c
theorem Pc.rev (B:∀x y,E x y->E y x)(h:Pc E p p1 z1 z n):Pc E z z1 p1 p n:=by
 induction h with
 | nil p=>exact .nil p
 | cons e _ n ih=>exact ih.app (B _ _ e) n (.nil _) (by simp)
theorem Pc.fn (h:Pc E p p1 z1 z n):∃f:Nat->Int,f 0=p/\f n=z/\(∀t,t<n->E (f t) (f (t+1)))/\(∀t,t+2<=n->f t≠f (t+2))/\(1<=n->p1=some (f 1)):=by
 induction h with
 | nil p=>exact ⟨λ_=>p,rfl,rfl,λt h=>by lia,λt h=>by lia,λh=>by lia⟩
 | @cons p q q1 z1 z n e h n3 ih=>
  obtain ⟨f,B,fn,a,b,c⟩:=ih;refine ⟨λt=>match t with | 0=>p | t+1=>f t,rfl,fn,λt D=>?_,λt D=>?_,λ_=>Ybb some B.symm⟩
  ·cases t with
   | zero=>show E p (f 0);rw [B];exact e
   | succ t=>exact a t (by lia)
  ·cases t with
   | zero=>exact λy=>n3 (by rw [c (by lia)];exact Ybb some y.symm)
   | succ t=>exact b t (by lia)
theorem Pc.dist (h:Pc E p p1 z1 z n)(D:∀x y,E x y->E y x)(G:∀x,¬ E x x)(two:∀x y z u,E x y->E x z->y≠z->E x u->u=y\/u=z)(one:∀y,E p y->some y=p1) :
  ∃f:Nat->Int,f 0=p/\f n=z/\(∀t,t<n->E (f t) (f (t+1)))/\∀t,t<=n->∀s,s<t->f s≠f t:=by
 obtain ⟨f,F,fn,a,b,c⟩:=h.fn;refine ⟨f,F,fn,a,λt=>?_⟩
 induction t using Nat.strongRecOn with
 | ind t ih=>
  intro L s N e;obtain ⟨u,rfl⟩:∃u,t=u+1:=⟨t-1,by lia⟩;have B:=D _ _ (a u (by lia));rw [<-e] at B;have ns:s≠u:=λy=>G _ (y▸B);cases s with
  | zero=>
   have q:=one (f u) (F▸B);rw [c (by lia)] at q;have q:=Yaw q;rcases (show u=1\/1<u by lia) with rfl | h1
   ·exact b 0 (by lia) e
   ·exact ih u (by lia) (by lia) 1 h1 q.symm
  | succ v=>
   rcases two _ _ _ _ (D _ _ (a v (by lia))) (a (v+1) (by lia)) (b v (by lia)) B with q | q
   ·exact ih u (by lia) (by lia) v (by lia) q.symm
   ·rcases (show u=v+2\/v+2<u by lia) with rfl | h1
    ·exact b (v+1) (by lia) e
    ·exact ih u (by lia) (by lia) (v+2) h1 q.symm
theorem Pc.short {k:Nat}(h:Pc E p p1 z1 z n)(B:∀x y,E x y->E y x)(G:∀x,¬ E x x)(two:∀x y z u,E x y->E x z->y≠z->E x u->u=y\/u=z)(one:∀y,E p y->some y=p1)(h1:1<=n)(D:∀x y,E x y->0<=x/\x<(k:Int)):n<k:=by
 obtain ⟨f,O,fn,a,d⟩:=h.dist B G two one;have:=O7 (a:=(List.range (n+1)).map f) (b:=(List.range k).map Int.ofNat) (Yee.mpr (List.pairwise_lt_range.imp_of_mem λ{x y} F L l=>by
  rw [Ybq] at L;exact d y (by lia) x l)) λx F=>by
   obtain ⟨t,N,rfl⟩:=Yam.mp F;rw [Ybq] at N;have:0<=f t/\f t<(k:Int):=by
    rcases Nat.lt_or_ge t n with y | y
    ·exact D _ _ (a t y)
    ·have e:=D _ _ (B _ _ (a (n-1) (by lia)));rw [show n-1+1=t by lia] at e;exact e
   exact Yam.mpr ⟨(f t).toNat,Ybq.mpr (by lia),by show ((f t).toNat:Int)=f t;lia⟩
 rw [Yaa,Yaa,Ycb,Ycb] at this
 lia
end
def Ed (rs:List (Int×Int))(ms:List Int)(j:Nat)(x y:Int):Prop:=∃q:Nat,q<j/\(q:Int)∈ms/\(rs.getD q (0,0)=(x,y)\/rs.getD q (0,0)=(y,x))
structure OneW (rs:List (Int×Int))(k:Nat)(ms:List Int):Prop where
 rd:∀r∈rs,0<=r.1/\r.1<r.2/\r.2<(k:Int)
 nd:rs.Nodup
 rg:∀q∈ms,0<=q/\q<(rs.length:Int)
 two:∀x y z u,Ed rs ms rs.length x y->Ed rs ms rs.length x z->y≠z->Ed rs ms rs.length x u->u=y\/u=z
 more:∀x y,Ed rs ms rs.length x y->∃z,z≠y/\Ed rs ms rs.length x z
 one:∀S:Int->Prop,(∃x y,S x/\Ed rs ms rs.length x y)->(∀x y,S x->Ed rs ms rs.length x y->S y)->∀x y,Ed rs ms rs.length x y->S x
section
variable {rs:List (Int×Int)}{ms m:List Int}{k j:Nat}{x y:Int}
theorem Ed.sym (h:Ed rs ms j x y):Ed rs ms j y x:=let ⟨q,a,b,c⟩:=h;⟨q,a,b,c.symm⟩
theorem Ed.mono {i:Nat}(l:j<=i)(h:Ed rs ms j x y):Ed rs ms i x y:=let ⟨q,a,b,c⟩:=h;⟨q,by lia,b,c⟩
theorem OneW.uni (W:OneW rs k ms){q D:Nat}(F:q<rs.length)(B:D<rs.length)(h:rs.getD q (0,0)=(x,y)\/rs.getD q (0,0)=(y,x))(h':rs.getD D (0,0)=(x,y)\/rs.getD D (0,0)=(y,x)):q=D:=by
 have e:rs.getD q (0,0)=rs.getD D (0,0):=by
  have a:=W.rd _ (JN F);have b:=W.rd _ (JN B);rcases h with h | h <;> rcases h' with h' | h' <;> rw [h,h'] <;> rw [h] at a <;> rw [h'] at b <;> (exfalso;dsimp only at a b;lia)
 have G:=Yez.mp W.nd;rw [Yai,Yai,Yah F,Yah B] at e;rcases Nat.lt_trichotomy q D with z | z | z
 ·exact absurd e (G q D F B z)
 ·exact z
 ·exact absurd e.symm (G D q B F z)
theorem Ed.range (W:OneW rs k ms)(B:j<=rs.length)(h:Ed rs ms j x y):(0<=x/\x<(k:Int))/\x≠y:=by
 obtain ⟨q,a,_,c⟩:=h;have r:=W.rd _ (JN (rs:=rs) (show q<rs.length by lia));rcases c with c | c <;> rw [c] at r <;> dsimp only at r <;> lia
theorem Ed.succ:Ed rs ms (j+1) x y↔Ed rs ms j x y\/((j:Int)∈ms/\(rs.getD j (0,0)=(x,y)\/rs.getD j (0,0)=(y,x))):=by
 constructor
 ·rintro ⟨q,a,b,c⟩;rcases (show q<j\/q=j by lia) with z | rfl
  ·exact .inl ⟨q,z,b,c⟩
  ·exact .inr ⟨b,c⟩
 ·rintro (h | ⟨b,c⟩)
  ·exact h.mono (by lia)
  ·exact ⟨j,by lia,b,c⟩
theorem OneW.twoj (W:OneW rs k ms)(B:j<=rs.length):∀x y z u,Ed rs ms j x y->Ed rs ms j x z->y≠z->Ed rs ms j x u->u=y\/u=z:=λx y z u a b n c=>W.two x y z u (a.mono B) (b.mono B) n (c.mono B)
theorem OneW.close (W:OneW rs k ms){a b:Int}{p1 q1:Option Int}{n:Nat}(D:j<rs.length)(hm:(j:Int)∈ms)(U:rs.getD j (0,0)=(a,b)\/rs.getD j (0,0)=(b,a))(P:Pc (Ed rs ms j) a p1 q1 b n)(h1:1<=n) :
  (∀x y,Ed rs ms rs.length x y->∃y z,y≠z/\Ed rs ms (j+1) x y/\Ed rs ms (j+1) x z)/\∀q∈ms,q<((j+1:Nat):Int):=by
 obtain ⟨f,G,fn,B,nb,_⟩:=P.fn;have L:∀{x y},Ed rs ms j x y->Ed rs ms (j+1) x y:=λh=>h.mono (by lia);have fr:¬ Ed rs ms j a b:=λ⟨q,h,_,c⟩=>by have:=W.uni (by lia) D c U;lia
 have O:Ed rs ms (j+1) a b:=Ed.succ.mpr (.inr ⟨hm,U⟩);have Y:∀t,t<=n->∃y z,y≠z/\Ed rs ms (j+1) (f t) y/\Ed rs ms (j+1) (f t) z/\(∃s,s<=n/\y=f s)/\∃s,s<=n/\z=f s:=λt N=>by
  rcases Nat.lt_or_ge t n with l | l
  ·have e:=B t l;cases t with
   | zero=>exact ⟨f 1,b,λz=>fr (by rw [G,z] at e;exact e),L e,G▸O,⟨1,h1,rfl⟩,n,Yac _,fn.symm⟩
   | succ t=>exact ⟨f t,f (t+2),nb t (by lia),(L (B t (by lia))).sym,L e,⟨t,by lia,rfl⟩,t+2,by lia,rfl⟩
  ·have e:t=n:=by lia
   subst e;have e:=B (t-1) (by lia);rw [show t-1+1=t by lia] at e;exact ⟨f (t-1),a,λz=>fr (by rw [fn,z] at e;exact e),(L e).sym,by rw [fn];exact O.sym,⟨t-1,by lia,rfl⟩,0,by lia,G.symm⟩
 have all:=W.one (λx=>∃t,t<=n/\x=f t) ⟨a,b,⟨0,by lia,G.symm⟩,O.mono D⟩ (by
  rintro x u ⟨t,N,rfl⟩ e;obtain ⟨y,z,F,h1,h2,h3,h4⟩:=Y t N;rcases W.two _ _ _ _ (h1.mono D) (h2.mono D) F e with rfl | rfl
  ·exact h3
  ·exact h4)
 have fst:∀x y,Ed rs ms rs.length x y->∃y z,y≠z/\Ed rs ms (j+1) x y/\Ed rs ms (j+1) x z:=λx y h=>by
  obtain ⟨t,N,rfl⟩:=all x y h;obtain ⟨y,z,F,h1,h2,_⟩:=Y t N;exact ⟨y,z,F,h1,h2⟩
 refine ⟨fst,λq Z=>?_⟩;obtain ⟨q0,ql⟩:=W.rg q Z;obtain ⟨i,rfl⟩:=Int.eq_ofNat_of_zero_le q0;have hi:i<rs.length:=by lia
 have e:Ed rs ms rs.length (rs.getD i (0,0)).1 (rs.getD i (0,0)).2:=⟨i,hi,Z,.inl rfl⟩;obtain ⟨y,z,F,h1,h2⟩:=fst _ _ e;have e2:Ed rs ms (j+1) (rs.getD i (0,0)).1 (rs.getD i (0,0)).2:=by
  rcases W.two _ _ _ _ (h1.mono D) (h2.mono D) F e with e | e <;> rw [e] <;> assumption
 obtain ⟨q',l,_,c⟩:=e2;have:=W.uni (by lia) hi c (.inl rfl)
 lia
def Zfg (rs:List (Int×Int))(ms:List Int)(k B:Nat)(m:List Int)(p v:Int):Prop:=0<=v/\v<(k:Int)/\v≠p/\gA m v=p/\∃p1 q1 n,Pc (Ed rs ms B) p p1 q1 v n/\1<=n/\∀y,Ed rs ms B p y->some y=p1
structure MkI (rs:List (Int×Int))(ms:List Int)(k jl je:Nat)(m:List Int):Prop where
 len:m.length=k+1
 at_:∀p:Int,0<=p->p<(k:Int)->(gA m p=-2/\(J2 rs p<(jl:Int)\/∀y,¬ Ed rs ms je p y))\/((jl:Int)<=J2 rs p/\((gA m p=-1/\∃y z,y≠z/\Ed rs ms je p y/\Ed rs ms je p z)\/Zfg rs ms k je m p (gA m p)))
 dn:m.getD k 0=-2\/(m.getD k 0=0/\∀q∈ms,q<(je:Int))
theorem MkI.far (K:MkI rs ms k j j m){p:Int}(F:0<=p)(G:p<(k:Int))(l:(j:Int)<=J2 rs p)(O:gA m p≠-1) :
  (0<=OM nE nE m p/\OM nE nE m p<(k:Int))/\(j:Int)<=J2 rs (OM nE nE m p)/\(∃p1 q1 n,Pc (Ed rs ms j) p p1 q1 (OM nE nE m p) n/\∀y,Ed rs ms j (OM nE nE m p) y->some y=q1) /\
  ((OM nE nE m p=p/\gA m p=-2/\∀y,¬ Ed rs ms j p y)\/(OM nE nE m p≠p/\gA m p=OM nE nE m p/\gA m (OM nE nE m p)=p/\∃y,Ed rs ms j p y)):=by
 have U:Xi nE nE p=p:=by unfold Xi;rw [if_neg (by show p≠-9;lia),if_neg (by show p≠-9;lia)]
 rcases K.at_ p F G with ⟨e,h⟩ | ⟨_,⟨e,_⟩ | ⟨L,N,Y,Z,p1,q1,n,P,n1,one⟩⟩
 ·have h:=h.resolve_left (by lia);have D:OM nE nE m p=p:=by unfold OM;rw [if_pos e,U]
  rw [D];exact ⟨⟨F,G⟩,l,⟨none,none,0,.nil p,λy z=>absurd z (h y)⟩,.inl ⟨rfl,e,h⟩⟩
 ·exact absurd e O
 ·have D:OM nE nE m p=gA m p:=by unfold OM;rw [if_neg (by lia)]
  rw [D];have sy:∀x y,Ed rs ms j x y->Ed rs ms j y x:=λ_ _=>Ed.sym;rcases K.at_ _ L N with ⟨e,_⟩ | ⟨l2,⟨e,_⟩ | ⟨_,_,_,_,aa,_,_,_,_,B⟩⟩
  ·lia
  ·lia
  ·obtain ⟨y',ey,_,y,rfl⟩:=P.ex n1;have e1:=B y (P.rev sy).fst;exact ⟨⟨L,N⟩,l2,⟨p1,_,n,P,λz hz=>by rw [e1];exact B z hz⟩,.inr ⟨Y,rfl,Z,y',ey⟩⟩
theorem MkI.with_ (W:OneW rs k ms)(K:MkI rs ms k j j m)(Y:j<rs.length)(hm:(j:Int)∈ms):∃m',ON nE nE m (rs.getD j (0,0))=some m'/\MkI rs ms k j (j+1) m':=by
 have hr:=W.rd _ (JN Y);have la:=O5 Y (.inl rfl:(rs.getD j (0,0)).1=(rs.getD j (0,0)).1\/_);have lb:=O5 Y (.inr rfl:_\/(rs.getD j (0,0)).2=(rs.getD j (0,0)).2);have er:rs.getD j (0,0)=((rs.getD j (0,0)).1,(rs.getD j (0,0)).2):=rfl;generalize (rs.getD j (0,0)).1=a at *;generalize (rs.getD j (0,0)).2=b at *;rw [er];obtain ⟨a0,lt,bk⟩:=hr;have b0:0<=b:=by lia
 have ak:a<(k:Int):=by lia
 have Z:∀x y,Ed rs ms j x y->Ed rs ms (j+1) x y:=λx y h=>h.mono (by lia);have sy:∀x y,Ed rs ms j x y->Ed rs ms j y x:=λ_ _=>Ed.sym;have ab:Ed rs ms (j+1) a b:=Ed.succ.mpr (.inr ⟨hm,.inl er⟩);have fr:¬ Ed rs ms j a b:=λ⟨q,h,_,c⟩=>by have:=W.uni (by lia) Y c (.inl er);lia
 have N:¬ Ed rs ms j b a:=λh=>fr h.sym;have dn:∀{x y},Ed rs ms (j+1) x y->Ed rs ms j x y\/(x=a/\y=b)\/(x=b/\y=a):=λh=>by
  rcases Ed.succ.mp h with h | ⟨_,h⟩
  ·exact .inl h
  ·rw [er] at h;rcases h with h | h <;> cases h
   ·exact .inr (.inl ⟨rfl,rfl⟩)
   ·exact .inr (.inr ⟨rfl,rfl⟩)
 have nf:∀x y,Ed rs ms (j+1) x y->¬ Ed rs ms j x y->0<=x->x<(k:Int)->gA m x≠-1/\gA m x≠-5:=λx y h n x0 xk=>by
  rcases K.at_ x x0 xk with ⟨e,_⟩ | ⟨_,⟨e,y1,z1,ne,h1,h2⟩ | ⟨v0,_⟩⟩
  ·lia
  ·rcases W.two _ _ _ _ (h1.mono (by lia)) (h2.mono (by lia)) ne (h.mono Y) with rfl | rfl
   ·exact absurd h1 n
   ·exact absurd h2 n
  ·lia
 have na:=nf a b ab fr a0 ak;have nb:=nf b a ab.sym N b0 bk;have ag:m.length-1=k:=by rw [K.len];lia
 have ae:m.getD k 0=-2:=K.dn.resolve_right λh=>by have:=h.2 _ hm;lia
 unfold ON;dsimp only;rw [ag,ae,if_neg (by
  rintro (h | h | h)
  ·cases h
  ·have:=Yba h;lia
  ·have:=Yba h;lia)]
 by_cases hc:gA m a=b
 ·-- the round is closed
  rw [if_pos (.inl hc)];obtain ⟨p1,q1,n,P,h1⟩:∃p1 q1 n,Pc (Ed rs ms j) a p1 q1 b n/\1<=n:=by
   rcases K.at_ a a0 ak with ⟨e,_⟩ | ⟨_,⟨e,_⟩ | ⟨_,_,_,_,p1,q1,n,P,h,_⟩⟩
   ·lia
   ·lia
   ·exact ⟨p1,q1,n,hc▸P,h⟩
  obtain ⟨two,all⟩:=W.close Y hm (.inl er) P h1;have nl:∀p:Int,0<=p->p<(k:Int)->p≠a->p≠b->¬ Zfg rs ms k j m p (gA m p):=λp _ _ pa pb ⟨_,_,_,_,p1,_,_,P,h,one⟩=>by
   obtain ⟨_,e,_⟩:=P.ex h;obtain ⟨y,z,ne,h1,h2⟩:=two _ _ (e.mono (Yds Y));have k1:=one y ((dn h1).resolve_right (by rintro (⟨z,_⟩ | ⟨z,_⟩) <;> contradiction));have k2:=one z ((dn h2).resolve_right (by rintro (⟨z,_⟩ | ⟨z,_⟩) <;> contradiction));exact ne (Yaw (k1.trans k2.symm))
  have ec:pC nE nE m (a,b)=(m.set a.toNat (-1)).set b.toNat (-1):=by unfold pC;rw [if_pos hc]
  have gc:∀p:Int,0<=p->gA ((m.set a.toNat (-1)).set b.toNat (-1)) p=if p=b then -1 else if p=a then -1 else gA m p:=λp G=>by rw [Ve b0 (by rw [List.length_set,K.len];lia) G,Ve a0 (by rw [K.len];lia) G]
  have lc:((m.set a.toNat (-1)).set b.toNat (-1)).length=k+1:=by rw [List.length_set,List.length_set,K.len]
  have lk:((m.set a.toNat (-1)).set b.toNat (-1)).getD k 0=-2:=by
   rw [<-ae,Yai,List.getElem?_set_ne (by lia),List.getElem?_set_ne (by lia),<-Yai]
  rw [ec];generalize (m.set a.toNat (-1)).set b.toNat (-1)=c at gc lc lk ⊢;rw [if_neg (λh=>by
   obtain ⟨q,hq,hl⟩:=List.any_eq_true.mp h;obtain ⟨t,ht,e⟩:=Yby hq;have hl:=Yba hl;rcases (show t=k\/t<k by lia) with rfl | tk
   ·rw [Yai,Yah ht,Option.getD_some,e] at lk
    lia
   ·have g:=gc (t:Int) (by lia);have:gA c (t:Int)=q:=by unfold gA;rw [Ybu,Yai,Yah ht,Option.getD_some,e]
    rw [this] at g;by_cases O:(t:Int)=b
    ·rw [if_pos O] at g;lia
    rw [if_neg O] at g;by_cases U:(t:Int)=a
    ·rw [if_pos U] at g;lia
    rw [if_neg U] at g;rcases K.at_ (t:Int) (by lia) (by lia) with ⟨e,_⟩ | ⟨_,⟨e,_⟩ | L⟩
    ·lia
    ·lia
    ·exact nl _ (by lia) (by lia) U O L)]
  refine ⟨_,rfl,by rw [List.length_set,lc],λp G pk=>?_,.inr ⟨by rw [Yai,List.getElem?_set_self (by lia)];rfl,all⟩⟩;have g:gA (c.set k 0) p=gA c p:=by
   unfold gA;rw [Yai,List.getElem?_set_ne (by lia),<-Yai]
  rw [g,gc p G];by_cases O:p=b
  ·rw [if_pos O];subst O;obtain ⟨y,z,w⟩:=two _ _ (ab.sym.mono Y);exact .inr ⟨lb,.inl ⟨rfl,y,z,w⟩⟩
  rw [if_neg O];by_cases U:p=a
  ·rw [if_pos U];subst U;obtain ⟨y,z,w⟩:=two _ _ (ab.mono Y);exact .inr ⟨la,.inl ⟨rfl,y,z,w⟩⟩
  rw [if_neg U];rcases K.at_ p G pk with ⟨e,h⟩ | ⟨l,⟨e,y,z,ne,h1,h2⟩ | L⟩
  ·exact .inl ⟨e,h.imp id λh y F=>h y ((dn F).resolve_right (by rintro (⟨z,_⟩ | ⟨z,_⟩) <;> contradiction))⟩
  ·exact .inr ⟨l,.inl ⟨e,y,z,ne,Z _ _ h1,Z _ _ h2⟩⟩
  ·exact absurd L (nl p G pk U O)
 ·-- two pieces become one
  have Fa:=K.far a0 ak la na.1;have Fb:=K.far b0 bk lb nb.1;generalize efa:OM nE nE m a=B at *;generalize efb:OM nE nE m b=D at *;obtain ⟨⟨aa,ap⟩,aq,⟨a1,a2,aw,Pa,ah⟩,ca⟩:=Fa;obtain ⟨⟨ac,ar⟩,as,⟨b1,b2,ax,Pb,ai⟩,cb⟩:=Fb;have aj:B≠b:=λe=>by
   rcases ca with ⟨h,_⟩ | ⟨_,h,_⟩
   ·lia
   ·exact hc (h.trans e)
  have al:D≠a:=λe=>by
   rcases cb with ⟨h,_⟩ | ⟨_,h,h2,_⟩
   ·lia
   ·exact hc (by rw [<-e];exact h2)
  have af:B≠D:=λe=>by
   rcases ca with ⟨h,_⟩ | ⟨_,_,h,_⟩
   ·exact al (e▸h)
   ·rcases cb with ⟨h',_⟩ | ⟨_,_,h',_⟩
    ·exact aj (e.trans h')
    ·rw [e,h'] at h;lia
  rw [if_neg (by rintro (h | h);exact hc h;lia)];refine ⟨_,rfl,?_⟩;have ec:pC nE nE m (a,b)=(((m.set a.toNat (-1)).set b.toNat (-1)).set B.toNat D).set D.toNat B:=by
   unfold pC pW1;dsimp only;rw [if_neg hc,efa,efb,if_pos aa,if_pos ac]
  have lc:(pC nE nE m (a,b)).length=k+1:=by rw [ec];simp only [List.length_set];exact K.len
  have gc:∀p:Int,0<=p->gA (pC nE nE m (a,b)) p=if p=D then B else if p=B then D else if p=b then -1 else if p=a then -1 else gA m p:=λp G=>by
   rw [ec,Ve ac (by simp only [List.length_set,K.len];lia) G,Ve aa (by simp only [List.length_set,K.len];lia) G,Ve b0 (by rw [List.length_set,K.len];lia) G,Ve a0 (by rw [K.len];lia) G]
  have lk:(pC nE nE m (a,b)).getD k 0=-2:=by
   rw [ec,<-ae,Yai,List.getElem?_set_ne (by lia),List.getElem?_set_ne (by lia),List.getElem?_set_ne (by lia),List.getElem?_set_ne (by lia),<-Yai]
  generalize pC nE nE m (a,b)=c at gc lc lk ⊢;have am:gA c B=D:=by rw [gc B aa,if_neg af,if_pos rfl]
  have an:gA c D=B:=by rw [gc D ac,if_pos rfl]
  have ad:∀(a b B D:Int)(a1 a2 b1 b2:Option Int)(n n':Nat),0<=D->D<(k:Int)->B≠D->B≠b->Ed rs ms (j+1) a b->¬ Ed rs ms j a b->¬ Ed rs ms j b a->(∀{x y},Ed rs ms (j+1) x y->Ed rs ms j x y\/(x=a/\y=b)\/(x=b/\y=a))->Pc (Ed rs ms j) a a1 a2 B n->(∀y,Ed rs ms j B y->some y=a2)->((B=a/\∀y,¬ Ed rs ms j a y)\/B≠a)->Pc (Ed rs ms j) b b1 b2 D n'->gA c D=B->Zfg rs ms k (j+1) c B D:=by
   intro a b B D a1 a2 b1 b2 n n' f0 fk ne au e fr N dn Pa one av Pb g;refine ⟨f0,fk,ne.symm,g,_,_,_,((Pa.rev sy).mono Z).app e (λz=>?_) (Pb.mono Z) (λz=>?_),by lia,λy F=>?_⟩
   ·subst z;exact fr Pa.fst
   ·subst z;exact N Pb.fst
   ·rcases dn F with h | ⟨h,rfl⟩ | ⟨h,_⟩
    ·rw [<-one y h];rfl
    ·rcases av with ⟨_,no⟩ | z
     ·cases Pa with
      | nil=>rfl
      | cons e=>exact absurd e (no _)
     ·exact absurd h z
    ·exact absurd h au
  refine ⟨lc,λp G pk=>?_,.inl lk⟩;by_cases O:p=D
  ·subst O;rw [an];exact .inr ⟨as,.inr (ad b a p B b1 b2 a1 a2 _ _ aa ap af.symm al ab.sym N fr (λh=>(dn h).imp id Or.symm) Pb ai (cb.imp (λh=>⟨h.1,h.2.2⟩) (·.1)) Pa am)⟩
  by_cases U:p=B
  ·subst U;rw [am];exact .inr ⟨aq,.inr (ad a b p D a1 a2 b1 b2 _ _ ac ar af aj ab fr N dn Pa ah (ca.imp (λh=>⟨h.1,h.2.2⟩) (·.1)) Pb an)⟩
  rw [gc p G,if_neg O,if_neg U];by_cases e3:p=b
  ·subst e3;rw [if_pos rfl];rcases cb with ⟨h,_⟩ | ⟨_,_,_,y,F⟩
   ·exact absurd h.symm O
   ·exact .inr ⟨lb,.inl ⟨rfl,y,a,λz=>N (z▸F),Z _ _ F,ab.sym⟩⟩
  rw [if_neg e3];by_cases e4:p=a
  ·subst e4;rw [if_pos rfl];rcases ca with ⟨h,_⟩ | ⟨_,_,_,y,F⟩
   ·exact absurd h.symm U
   ·exact .inr ⟨la,.inl ⟨rfl,y,b,λz=>fr (z▸F),Z _ _ F,ab⟩⟩
  rw [if_neg e4];have dp:∀y,Ed rs ms (j+1) p y->Ed rs ms j p y:=λy F=>(dn F).resolve_right (by rintro (⟨z,_⟩ | ⟨z,_⟩) <;> contradiction);rcases K.at_ p G pk with ⟨e,h⟩ | ⟨l,⟨e,y,z,ne,h1,h2⟩ | ⟨v0,vk,vn,vb,p1,q1,n,P,n1,one⟩⟩
  ·exact .inl ⟨e,h.imp id λh y F=>h y (dp y F)⟩
  ·exact .inr ⟨l,.inl ⟨e,y,z,ne,Z _ _ h1,Z _ _ h2⟩⟩
  ·refine .inr ⟨l,.inr ⟨v0,vk,vn,?_,p1,q1,n,P.mono Z,n1,λy F=>one y (dp y F)⟩⟩;have va:gA m p≠a:=λz=>by
    rw [z] at vb;rcases ca with ⟨_,h,_⟩ | ⟨_,h,_⟩ <;> lia
   have ao:gA m p≠b:=λz=>by
    rw [z] at vb;rcases cb with ⟨_,h,_⟩ | ⟨_,h,_⟩ <;> lia
   have v1:gA m p≠D:=λz=>by
    rw [z] at vb ao;rcases cb with ⟨h,_⟩ | ⟨_,_,h,_⟩ <;> lia
   have v2:gA m p≠B:=λz=>by
    rw [z] at vb va;rcases ca with ⟨h,_⟩ | ⟨_,_,h,_⟩ <;> lia
   rw [gc _ v0,if_neg v1,if_neg v2,if_neg ao,if_neg va,vb]
theorem UP {p:Int}(B:j<rs.length):p∈O6 rs j↔J2 rs p=(j:Int):=by
 unfold O6;rw [Ybk];refine ⟨λh=>Yba h.2,λh=>⟨?_,Yae h⟩⟩;rcases YL rs p rs.length j h with q | q <;> rw [<-q] <;> simp
theorem Xp:∀(lv m:List Int),(∀p∈lv,0<=p/\p<(k:Int))->m.length=k+1 ->
  (lv.foldl (λm p=>m.set p.toNat (-2)) m).length=k+1/\(lv.foldl (λm p=>m.set p.toNat (-2)) m).getD k 0=m.getD k 0/\∀q:Int,0<=q->gA (lv.foldl (λm p=>m.set p.toNat (-2)) m) q=if q∈lv then -2 else gA m q
 | [],m,_,hm=>⟨hm,rfl,λq _=>by rw [if_neg (by simp)];rfl⟩
 | p::lv,m,hp,hm=>by
  obtain ⟨p0,pk⟩:=hp p Yaz;obtain ⟨h1,h2,D⟩:=Xp lv (m.set p.toNat (-2)) (λq F=>hp q (Ybm _ F)) (by rw [List.length_set,hm]);refine ⟨h1,by rw [List.foldl_cons,h2,Yai,List.getElem?_set_ne (by lia),<-Yai],λq B=>?_⟩;rw [List.foldl_cons,D q B,Ve p0 (by rw [hm];lia) B];by_cases a:q∈lv
  ·rw [if_pos a,if_pos (Ybm _ a)]
  ·rw [if_neg a];by_cases b:q=p
   ·rw [if_pos b,if_pos (by rw [b];exact Yaz)]
   ·rw [if_neg b,if_neg (by rw [Yar];exact λz=>z.elim b a)]
theorem MkI.left (W:OneW rs k ms)(K:MkI rs ms k j (j+1) m)(N:j<rs.length):∃Y,Xj m (O6 rs j) (Zfd nE nE (O6 rs j))=some Y/\MkI rs ms k (j+1) (j+1) Y:=by
 have inr:∀p∈O6 rs j,0<=p/\p<(k:Int):=λp F=>by
  have h2:=W.rd _ (JN N);unfold O6 at F;rcases Yar.mp (Ybk.mp F).1 with q | q
  ·lia
  ·rw [Yas] at q;lia
 have Z:∀p v,J2 rs p=(j:Int)->¬ Zfg rs ms k (j+1) m p v:=λp v e ⟨_,_,_,_,p1,_,n,P,h,one⟩=>by
  obtain ⟨_,e1,rfl,_⟩:=P.ex h;obtain ⟨z,ne,q,hq,hm,O⟩:=W.more _ _ (e1.mono N);have:=O5 (p:=p) hq (by rcases O with O | O <;> rw [O] <;> simp);exact ne (Yaw (one z ⟨q,by lia,hm,O⟩))
 have B:∀p:Int,0<=p->p<(k:Int)->p ∉ O6 rs j->(gA m p=-2/\(J2 rs p<((j+1:Nat):Int)\/∀y,¬ Ed rs ms (j+1) p y))\/(((j+1:Nat):Int)<=J2 rs p/\((gA m p=-1/\∃y z,y≠z/\Ed rs ms (j+1) p y/\Ed rs ms (j+1) p z)\/Zfg rs ms k (j+1) m p (gA m p))):=λp D G hn=>by
  have:=λz=>hn ((UP N).mpr z);rcases K.at_ p D G with ⟨e,h⟩ | ⟨l,h⟩
  ·exact .inl ⟨e,h.imp (λh=>by lia) id⟩
  ·exact .inr ⟨by have:J2 rs p≠(j:Int):=this;lia,h⟩
 unfold Xj;by_cases h0:O6 rs j=[]
 ·rw [if_pos h0];exact ⟨m,rfl,K.len,λp D G=>B p D G (by rw [h0];simp),K.dn⟩
 have en:Zfd nE nE (O6 rs j)=[]:=List.filter_eq_nil_iff.mpr λp F=>by
  have:=inr p F;rw [decide_eq_true_eq];show ¬ (p=-9\/p=-9)
  lia
 rw [if_neg h0,en,if_neg (by
  rintro (h | h)
  ·obtain ⟨p,F,hl⟩:=List.any_eq_true.mp h;obtain ⟨D,G⟩:=inr p F;have hl:=Yba hl;rcases K.at_ p D G with ⟨e,_⟩ | ⟨_,⟨e,_⟩ | L⟩
   ·lia
   ·lia
   ·exact Z p _ ((UP N).mp F) L
  ·cases h)]
 obtain ⟨f1,f2,f3⟩:=Xp (O6 rs j) m inr K.len;refine ⟨_,rfl,f1,λp D G=>?_,by rw [f2];exact K.dn⟩;rw [f3 p D];by_cases q:p∈O6 rs j
 ·rw [if_pos q];exact .inl ⟨rfl,.inl (by rw [(UP N).mp q];lia)⟩
 ·rw [if_neg q];refine (B p D G q).imp id λ⟨l,h⟩=>⟨l,h.imp id λ⟨U,vk,vn,vb,r⟩=>⟨U,vk,vn,?_,r⟩⟩;rw [f3 _ U,if_neg (λz=>?_),vb];rcases K.at_ _ U vk with ⟨e,_⟩ | ⟨_,⟨e,_⟩ | L⟩
  ·lia
  ·lia
  ·exact Z _ _ ((UP N).mp z) L
theorem MkI.dec (W:OneW rs k ms)(K:MkI rs ms k j j m)(D:j<rs.length):∃F,Za6 rs nE nE m j (decide ((j:Int)∈ms))=some F/\MkI rs ms k (j+1) (j+1) F:=by
 unfold Za6;by_cases B:(j:Int)∈ms
 ·obtain ⟨m1,G,L⟩:=K.with_ W D B;rw [if_pos (Yae B),G];exact L.left W D
 ·rw [if_neg (by rw [decide_eq_true_eq];exact B)];have N:∀x y,Ed rs ms (j+1) x y↔Ed rs ms j x y:=λx y=>Ed.succ.trans ⟨λh=>h.resolve_right λz=>B z.1,.inl⟩;have O:Ed rs ms (j+1)=Ed rs ms j:=funext λx=>funext λy=>propext (N x y);exact MkI.left W ⟨K.len,λp U Y=>by unfold Zfg;rw [O];exact K.at_ p U Y,K.dn.imp id λh=>⟨h.1,λq Z=>by have:=h.2 q Z;lia⟩⟩ D
theorem ZbD {c:Nat}{U:Nat->List Nat}(W:OneW rs k ms)(L:∀i m,(i+1) * (2 * c-1)<=rs.length->MkI rs ms k ((i+1) * (2 * c-1)) ((i+1) * (2 * c-1)) m->Zfe m (((i+1:Nat):Int) * (c:Int)) c=U (i+1))(h2:1<=c) :
  ∀j:Nat,j<=rs.length->∃m,YM rs k c ms j=some (m,(List.range (j / (2 * c-1))).map λi=>U (i+1))/\MkI rs ms k j j m
 | 0,_=>⟨m0 k,by rw [Nat.zero_div];rfl,by unfold m0;rw [Ydy],λp Z pk=>.inl ⟨by unfold gA m0;rw [Yai,List.getElem?_replicate,if_pos (by lia)];rfl,.inr λy ⟨q,h,_⟩=>by lia⟩,.inl (by unfold m0;rw [Yai,List.getElem?_replicate,if_pos (by lia)];rfl)⟩
 | j+1,hj=>by
  obtain ⟨m,e,K⟩:=ZbD W L h2 j (by lia);obtain ⟨F,O,N⟩:=K.dec W hj;refine ⟨F,?_,N⟩;show (YM rs k c ms j).bind _=_;rw [e];show (Za6 rs nE nE m j (decide ((j:Int)∈ms))).map _=_;rw [O];show some (F,_)=_
  congr 2
  have G:=Nat.div_add_mod (j+1) (2 * c-1);by_cases B:(j+1) % (2 * c-1)=0
  ·rw [if_pos B];rw [B,Nat.add_zero] at G;have D:(j+1) / (2 * c-1)=j / (2 * c-1)+1:=by rw [Nat.succ_div,if_pos (Nat.dvd_of_mod_eq_zero B)]
   have Y:=L (j / (2 * c-1)) F (by rw [<-D,Nat.mul_comm,G];exact hj) (by rw [<-D,Nat.mul_comm,G];exact N);rw [D,List.range_succ,Yal,Y]
   rfl
  ·have D:(j+1) / (2 * c-1)=j / (2 * c-1):=by rw [Nat.succ_div,if_neg λz=>B (Nat.mod_eq_zero_of_dvd z),Nat.add_zero]
   rw [if_neg B,D]
end
def pl (C:Nat)(x:Int):List Int:=[x / (C:Int),x % (C:Int)]
theorem Y4 {C:Nat}(x:Int):plc C (pl C x)=x:=Int.ediv_mul_add_emod x (C:Int)
theorem ZdO {C a b:Nat}(h:b<C):pl C ((a:Int) * (C:Int)+(b:Int))=[(a:Int),(b:Int)]:=by
 unfold pl;have:((a:Int) * (C:Int)+(b:Int))=((a * C+b:Nat):Int):=by push_cast;rfl
 rw [this,<-Int.natCast_ediv,<-Int.natCast_emod,Nat.mul_comm,Nat.mul_add_div (by lia),Nat.div_eq_of_lt h,Nat.mul_add_mod,Nat.mod_eq_of_lt h,Nat.add_zero]
theorem Xq {C:Nat}{x y:Int}(e:pl C x=pl C y):x=y:=by rw [<-Y4 (C:=C) x,e,Y4]
theorem ZC {C:Nat}{x:List Int}(h:∃a b:Nat,b<C/\x=[(a:Int),(b:Int)]):pl C (plc C x)=x:=by
 obtain ⟨a,b,B,rfl⟩:=h;exact ZdO B
section
variable {R C:Nat}{ms:List Int}
theorem Ze4 {A:List Int}{x y:List Int}(h:y∈nbF (Jc (Gy R C R) A) x):∃b,y=pl C b:=⟨plc C y,(ZC (YZ (Zbr h))).symm⟩
theorem Ze5 (F:Ww R C ms){A:List Int}{j:Nat}(G:∀p∈Gy R C R,p.2∈A↔p.2∈ms/\p.2<(j:Int)){x y:Int}:Ed (gRoads R C (R * C)) ms j x y↔pl C y∈nbF (Jc (Gy R C R) A) (pl C x):=by
 rw [nb_mem];constructor
 ·rintro ⟨q,hj,L,h⟩;obtain ⟨p,B,e⟩:=F.rds _ L;have D:=(GQ (R:=R) (C:=C) R).keys p B;have r:=(Ox B).1;rw [e,YY D] at r;unfold road at r;rw [Ybu] at r;rw [r] at h;obtain ⟨N,O⟩:=Zbx D;refine ⟨p,B,(G p B).mpr ⟨e▸L,by lia⟩,?_⟩;rcases h with h | h <;> cases h
  ·exact .inl ⟨ZC N,ZC O⟩
  ·exact .inr ⟨ZC O,ZC N⟩
 ·rintro ⟨p,B,U,h⟩;obtain ⟨Y,hl⟩:=(G p B).mp U;have D:=(GQ (R:=R) (C:=C) R).keys p B;obtain ⟨r,Z,_⟩:=Ox B;rw [YY D] at r;refine ⟨p.2.toNat,by lia,by rw [Int.toNat_of_nonneg Z];exact Y,?_⟩;have r:(gRoads R C (R * C)).getD p.2.toNat (0,0)=(plc C (Ob p.1),plc C (J3 p.1)):=r;rw [r];rcases h with ⟨a,b⟩ | ⟨a,b⟩ <;> rw [<-a,<-b,Y4,Y4]
  ·exact .inl rfl
  ·exact .inr rfl
theorem Xr (B:Ww R C ms){x y:Int}:Ed (gRoads R C (R * C)) ms (gRoads R C (R * C)).length x y↔pl C y∈nbF (Jc (Gy R C R) ms) (pl C x):=Ze5 B λ_ D=>⟨λh=>⟨h,(Ox D).2.2⟩,(·.1)⟩
theorem ZD (p q:Int):(Jw p q).1=p\/(Jw p q).1=q:=by unfold Jw;dsimp only;split <;> simp
theorem X9 (p q:Int):(Jw p q).2=p\/(Jw p q).2=q:=by unfold Jw;dsimp only;split <;> simp
theorem Zg5 (h2:2<=C)(g:G4 ((R * C:Nat):Int) (gRoads R C (R * C)))(B:Ww R C ms):OneW (gRoads R C (R * C)) (R * C) ms:=by
 have U:=ZdI B.two;obtain ⟨r,D,er,_⟩:=Y0 g B;have val:∀{x y},y∈nbF (Jc (Gy R C R) ms) x->pl C (plc C x)=x:=λh=>ZC (YZ h);have inr:∀x y,Ed (gRoads R C (R * C)) ms (gRoads R C (R * C)).length x y->∃a∈r,x=plc C a:=by
  rintro x y ⟨q,ql,L,h⟩;obtain ⟨a,b,F,G,e⟩:=er _ L;unfold road at e;rw [Ybu] at e;rw [e] at h;have Y:=ZD (plc C a) (plc C b);have Z:=X9 (plc C a) (plc C b);have:x=plc C a\/x=plc C b:=by
   rcases h with h | h <;> rw [h] at Y Z
   ·exact Y
   ·exact Z
  rcases this with rfl | rfl
  ·exact ⟨a,F,rfl⟩
  ·exact ⟨b,G,rfl⟩
 refine ⟨Os (by lia),ZgZ h2,λq L=>?_,λx y z u a b n c=>?_,λx y h=>?_,λS ⟨x0,y0,s0,e0⟩ cl x y h=>?_⟩
 ·obtain ⟨p,hp,rfl⟩:=B.rds q L;exact (Ox hp).2
 ·rw [Xr B] at a b c;obtain ⟨s,t,e,_⟩:=U.two (pl C x) λz=>by rw [z] at a;cases a
  rw [e] at a b c;simp only [Yar,List.not_mem_nil,or_false] at a b c;have nn:pl C y≠pl C z:=λe=>n (Xq e);rcases a with a | a <;> rcases b with b | b <;> rcases c with c | c <;> first | exact absurd (a.trans b.symm) nn | exact .inl (Xq (c.trans a.symm)) | exact .inr (Xq (c.trans b.symm))
 ·rw [Xr B] at h;obtain ⟨s,t,e,N⟩:=U.two (pl C x) λz=>by rw [z] at h;cases h
  have fin:∀s,s∈nbF (Jc (Gy R C R) ms) (pl C x)->s≠pl C y->∃z,z≠y/\Ed (gRoads R C (R * C)) ms (gRoads R C (R * C)).length x z:=λs hs n=>by
   obtain ⟨b,rfl⟩:=Ze4 hs;exact ⟨b,λz=>n (Ybb _ z),(Xr B).mpr hs⟩
  by_cases q:s=pl C y
  ·exact fin t (by rw [e];simp) λz=>N (q.trans z.symm)
  ·exact fin s (by rw [e];simp) q
 ·obtain ⟨a0,O,rfl⟩:=inr _ _ e0;obtain ⟨a,F,rfl⟩:=inr _ _ h;have st:∀a b,S (plc C a)->b∈nbF (Jc (Gy R C R) ms) a->S (plc C b):=λa b s h=>cl _ _ s ((Xr B).mpr (by rw [val h,val (Zbr h)];exact h));have h3:=D.len;have go:∀(d t:Nat),∀a b,r[t]?=some a->r[t+d]?=some b->S (plc C a)->S (plc C b):=λd=>by
   induction d with
   | zero=>intro t a b F G s;rw [Nat.add_zero,F] at G;exact Yaw G▸s
   | succ d ih=>
    intro t a b F G s;have l:=(Ybf.mp G).1;have hc:r[t+d]?=some r[t+d]:=Yah (by lia);exact st _ _ (ih t a _ F hc s) (D.adj (t+d) _ _ hc G)
  obtain ⟨t,ht,e⟩:=Yby O;obtain ⟨u,hu,e'⟩:=Yby F;have et:r[t]?=some a0:=by rw [Yah ht,e]
  have eu:r[u]?=some a:=by rw [Yah hu,e']
  have l1:r[t+(r.length-1-t)]?=some r[t+(r.length-1-t)]:=Yah (by lia);have s1:=go _ t _ _ et l1 s0;have z0:r[0]?=some r[0]:=Yah (by lia);have s2:=st _ _ s1 (D.cl _ _ (by rw [<-l1];congr 1;lia) z0);exact go u 0 _ _ z0 (by rw [Ydc];exact eu) s2
theorem Wq (r:Nat):∀m,m<=C->(VP R C r m).length=(if r+1<R then 2 * m else m)-if m=C/\1<=m then 1 else 0
 | 0,_=>by rw [if_neg (show ¬ ((0:Nat)=C/\1<=0) by lia)];split <;> rfl
 | m+1,hm=>by
  have ih:=Wq r m (by lia);have e:VP R C r (m+1)=VP R C r m++Wn R C r m:=by unfold VP;rw [List.range_succ,List.flatMap_append];simp
  rw [if_neg (show ¬ (m=C/\1<=m) by lia)] at ih;rw [e,Yan,ih];unfold Wn;by_cases h1:m+1<C
  ·rw [if_pos h1,if_neg (show ¬ (m+1=C/\1<=m+1) by lia)];split <;> simp only [Yan,Ybi,List.length_nil] <;> lia
  ·rw [if_neg h1,if_pos (show m+1=C/\1<=m+1 by lia)];split <;> simp only [Yan,Ybi,List.length_nil] <;> lia
theorem Vq (i:Nat):JR R C (i+1)=JR R C i++VP R C i C:=by unfold JR;rw [List.range_succ,List.flatMap_append];simp
theorem UQ (h2:2<=C):∀i,i+1<=R->(JR R C i).length=i * (2 * C-1)
 | 0,_=>by rw [Nat.zero_mul];rfl
 | i+1,h=>by
  rw [Vq,Yan,UQ h2 i (by lia),Wq i C (Yac _),if_pos (by lia),if_pos (by lia),Nat.succ_mul i]
theorem Wr (i:Nat):∀d,∃L,JR R C (i+d)=JR R C i++L/\∀k∈L,(i:Int)<=gA k 0
 | 0=>⟨[],by rw [Ybr,Nat.add_zero],by simp⟩
 | d+1=>by
  obtain ⟨L,e,h⟩:=Wr i d;refine ⟨L++VP R C (i+d) C,by rw [<-Nat.add_assoc,Vq,e,Ybp],λk B=>?_⟩;rcases Yav.mp B with B | B
  ·exact h k B
  ·obtain ⟨c,D,_,rfl⟩:=Ua B;show (i:Int)<=((i+d:Nat):Int)
   lia
theorem ZbE (h2:2<=C){i:Nat}(hi:i+1<=R){p:List Int×Int}(B:p∈Gy R C R):gA p.1 0<(i:Int)↔p.2<((i * (2 * C-1):Nat):Int):=by
 rw [GQ (R:=R) (C:=C) R] at B;obtain ⟨t,D,rfl⟩:=Yam.mp B;rw [Ybq] at D;obtain ⟨L,e,F⟩:=Wr (R:=R) (C:=C) i (R-i);rw [show i+(R-i)=R by lia] at e;have N:=UQ h2 i hi;show gA ((JR R C R).getD t []) 0<(i:Int)↔(t:Int)<_;rw [Yai,e];rw [e,Yan] at D;rcases Nat.lt_or_ge t (JR R C i).length with y | y
 ·rw [Ydf y,Yah y,Option.getD_some];obtain ⟨r,c,d,O,_,G⟩:=UN (Ycd y);rw [G];show (r:Int)<_↔_
  lia
 ·rw [Ycs y,Yah (by lia),Option.getD_some];have:=F _ (Ycd (show t-(JR R C i).length<L.length by lia))
  lia
theorem Y5 {l:List PL}{a:PL}(B:a∈l)(D:∀z∈l,z=a):l.head?=some a:=by
 cases l with
 | nil=>cases B
 | cons b l=>rw [D b Yaz];rfl
theorem Zc1 {nm:NM}{E:Int->Int->Prop}{i:Int}(G:∀x y,E x y↔pl C y∈nbF nm (pl C x))(O:∀x z,z∈nbF nm (pl C x)->∃y,z=pl C y)(L:∀x y,E x y->E y x)(two:∀x y z u,E x y->E x z->y≠z->E x u->u=y\/u=z)(U:∀x y z,E x y->E x z->y≠z->x / (C:Int)<i){q z:Int}{q1 z1:Option Int}{n:Nat}(P:Pc E q q1 z1 z n) :
  ∀p,E p q->q1≠some p->i<=z / (C:Int)->∀f,n<f->YO nm i f (some (pl C p)) (pl C q)=some (pl C z):=by
 induction P with
 | nil q=>
  intro p _ _ N f Y;obtain ⟨f,rfl⟩:∃g,f=g+1:=⟨f-1,by lia⟩;unfold YO;rw [if_neg (by rintro (h | h);cases h;have:q / (C:Int)<i:=h;lia)]
 | @cons q r r1 z1 z n e P n1 ih=>
  intro p D Z N f Y;obtain ⟨f,rfl⟩:∃g,f=g+1:=⟨f-1,by lia⟩;have B:r≠p:=λy=>Z (Ybb some y);have lo:=U q p r (L _ _ D) e λy=>B y.symm;have F:=(G q r).mp e;have sm:(Ot nm (pl C q)).isSome=true:=by
   unfold nbF at F;cases h:Ot nm (pl C q) with
   | none=>rw [h] at F;cases F
   | some=>rfl
  unfold YO;rw [if_pos (.inr lo),if_pos sm];have hd:(Zdz nm (some (pl C p)) (pl C q)).head?=some (pl C r):=Y5 (Ybk.mpr ⟨F,by simpa using λy=>B (Xq y)⟩) λx hx=>by
   obtain ⟨h1,h2⟩:=Ybk.mp hx;obtain ⟨y,rfl⟩:=O q x h1;rcases two q p r y (L _ _ D) e B.symm ((G q y).mpr h1) with rfl | rfl
   ·simp at h2
   ·rfl
  rw [hd];exact ih q e n1 N f (by lia)
theorem ZbF {nm:NM}{E:Int->Int->Prop}{i:Int}(D:∀x y,E x y↔pl C y∈nbF nm (pl C x))(F:∀x z,z∈nbF nm (pl C x)->∃y,z=pl C y)(N:∀x y,E x y->E y x)(two:∀x y z u,E x y->E x z->y≠z->E x u->u=y\/u=z)(O:∀x y z,E x y->E x z->y≠z->x / (C:Int)<i){p z:Int}{p1 z1:Option Int}{n:Nat}(P:Pc E p p1 z1 z n)(h1:1<=n)(one:∀y,E p y->some y=p1)(hz:i<=z / (C:Int))(f:Nat)(Y:n<f) :
  (Ot nm (pl C p)).isSome=true/\YO nm i f none (pl C p)=some (pl C z):=by
 cases P with
 | nil=>lia
 | @cons _ q q1 z1 _ n e P n1=>
  obtain ⟨f,rfl⟩:∃g,f=g+1:=⟨f-1,by lia⟩;have B:=(D p q).mp e;have G:(Ot nm (pl C p)).isSome=true:=by
   unfold nbF at B;cases h:Ot nm (pl C p) with
   | none=>rw [h] at B;cases B
   | some=>rfl
  refine ⟨G,?_⟩;unfold YO;rw [if_pos (.inl rfl),if_pos G];have U:(Zdz nm none (pl C p)).head?=some (pl C q):=Y5 (Ybk.mpr ⟨B,by simp⟩) λx L=>by
   obtain ⟨y,rfl⟩:=F p x (Ybk.mp L).1;rw [Yaw (one y ((D p y).mpr (Ybk.mp L).1))]
  rw [U];exact Zc1 D F N two O P p e n1 hz f (by lia)
section
variable {i:Nat}
theorem ZdP (h2:2<=C)(hi:i+1<=R):∀p∈Gy R C R,p.2∈UM (Gy R C R) ms (i:Int)↔p.2∈ms/\p.2<((i * (2 * C-1):Nat):Int):=λp B=>by
 rw [X8 B,ZbE h2 hi B];exact And.comm
theorem ZbG (B:Ww R C ms)(h2:2<=C)(hi:i+1<=R){x y:Int}(h:Ed (gRoads R C (R * C)) ms (i * (2 * C-1)) x y):x / (C:Int)<(i:Int)\/(x / (C:Int)=(i:Int)/\pl C y=[(i:Int)-1,x % (C:Int)]):=by
 obtain ⟨p,D,⟨h1,_⟩,h⟩:=abo_nb.mp ((Ze5 B (ZdP h2 hi)).mp h);obtain ⟨r,c,d,_,O,F,G⟩:=GS ((GQ (R:=R) (C:=C) R).keys p D);rw [F] at h1 h;have h1:(r:Int)<(i:Int):=h1;have L:∀a b e:Int,J3 [a,b,e]=[a+e,b+1-e]:=λ_ _ _=>rfl;have N:∀a b e:Int,Ob [a,b,e]=[a,b]:=λ_ _ _=>rfl;rw [N,L] at h;unfold pl at h ⊢;rcases h with ⟨a,b⟩ | ⟨a,b⟩
 ·simp only [List.cons.injEq,and_true] at a;exact .inl (by lia)
 ·simp only [List.cons.injEq,and_true] at a;rcases G with ⟨rfl,_⟩ | ⟨rfl,_⟩
  ·exact .inl (by lia)
  ·by_cases z:(r:Int)+1<(i:Int)
   ·exact .inl (by lia)
   ·refine .inr ⟨by lia,?_⟩;rw [b]
    congr 1
    ·lia
    ·congr 1;lia
theorem Ze6 (h1:1<=R)(ab:R * C<=98)(h2:2<=C)(g:G4 ((R * C:Nat):Int) (gRoads R C (R * C)))(B:Ww R C ms)(hi:i+1<=R){m:List Int}(K:MkI (gRoads R C (R * C)) ms (R * C) (i * (2 * C-1)) (i * (2 * C-1)) m){c:Nat}(hc:c<C) :
  ZcO (Jc (Gy R C R) (UM (Gy R C R) ms (i:Int))) (i:Int) c=some (sgn (gA m ((i:Int) * (C:Int)+(c:Int))) ((i:Int) * (C:Int)+(c:Int))):=by
 have W:=Zg5 h2 g B;have N:∀x y,Ed (gRoads R C (R * C)) ms (i * (2 * C-1)) x y↔_:=λx y=>Ze5 B (ZdP h2 hi);have D:i * (2 * C-1)<=(gRoads R C (R * C)).length:=by
  obtain ⟨L,e,_⟩:=Wr (R:=R) (C:=C) i (R-i);rw [show i+(R-i)=R by lia] at e;rw [Uw,Yaa,e,Yan,UQ h2 i hi]
  lia
 have O:∀x y,Ed (gRoads R C (R * C)) ms (i * (2 * C-1)) x y->Ed (gRoads R C (R * C)) ms (i * (2 * C-1)) y x:=λ_ _=>Ed.sym;have up:∀x y z,Ed (gRoads R C (R * C)) ms (i * (2 * C-1)) x y->Ed (gRoads R C (R * C)) ms (i * (2 * C-1)) x z->y≠z->x / (C:Int)<(i:Int):=λx y z a b n=>by
  rcases ZbG B h2 hi a with h | ⟨_,h⟩
  ·exact h
  ·rcases ZbG B h2 hi b with h' | ⟨_,h'⟩
   ·exact h'
   ·exact absurd (Xq (h.trans h'.symm)) n
 have ep:pl C ((i:Int) * (C:Int)+(c:Int))=[(i:Int),(c:Int)]:=ZdO hc;have p0:0<=(i:Int) * (C:Int)+(c:Int):=by have:=Int.mul_nonneg (Int.natCast_nonneg i) (Int.natCast_nonneg C);lia
 have pk:(i:Int) * (C:Int)+(c:Int)<((R * C:Nat):Int):=by
  have:(i+1) * C<=R * C:=Nat.mul_le_mul_right C hi;rw [Nat.succ_mul] at this;have e:(i:Int) * (C:Int)=((i * C:Nat):Int):=by push_cast;rfl
  lia
 have di:((i:Int) * (C:Int)+(c:Int)) / (C:Int)=(i:Int):=by unfold pl at ep;simp only [List.cons.injEq,and_true] at ep;exact ep.1
 have mi:((i:Int) * (C:Int)+(c:Int)) % (C:Int)=(c:Int):=by unfold pl at ep;simp only [List.cons.injEq,and_true] at ep;exact ep.2
 have la:((i * (2 * C-1):Nat):Int)<=J2 (gRoads R C (R * C)) ((i:Int) * (C:Int)+(c:Int)):=by
  have key:∀b:Nat,b+1<C->(b=c\/b+1=c)->((i * (2 * C-1):Nat):Int)<=J2 (gRoads R C (R * C)) ((i:Int) * (C:Int)+(c:Int)):=λb hb ac=>by
   have hk:[(i:Int),(b:Int),0]∈JR R C R:=Vk (show i<R by lia) (show b<C by lia) (Vj.1 hb);obtain ⟨t,ht,_,gt⟩:=Vl hk;have F:=Jl gt;obtain ⟨r,r0,rl⟩:=Ox F;unfold road at r;have rl:(t:Int)<((gRoads R C (R * C)).length:Int):=rl;have r:(gRoads R C (R * C)).getD (Int.toNat (t:Int)) (0,0)=rdK C [(i:Int),(b:Int),0]:=r;rw [Ybu] at r;have ge:¬ (t:Int)<_:=λz=>Int.lt_irrefl (i:Int) ((ZbE h2 hi F).mpr z);have:=O5 (rs:=gRoads R C (R * C)) (p:=(i:Int) * (C:Int)+(c:Int)) (show t<_ by lia) (by
    rw [r];show (i:Int) * (C:Int)+(b:Int)=_\/(i:Int) * (C:Int)+(b:Int)+1=_
    lia)
   lia
  by_cases q:c+1<C
  ·exact key c q (.inl rfl)
  ·exact key (c-1) (by lia) (.inr (by lia))
 unfold ZcO;rcases K.at_ _ p0 pk with ⟨e,h⟩ | ⟨_,⟨e,y,z,U,a,b⟩ | ⟨v0,vk,vn,vb,p1,q1,n,P,Y,one⟩⟩
 ·have h:=h.resolve_left (by lia);rw [if_neg (λz=>by
   obtain ⟨y,Z⟩:=(Zby (YW _ _)).mp z;rw [<-ep] at Z;obtain ⟨b,rfl⟩:=Ze4 Z;exact h b ((N _ _).mpr Z)),e]
  rfl
 ·have:=up _ _ _ a b U
  lia
 ·generalize gA m ((i:Int) * (C:Int)+(c:Int))=v at *;have hv:(i:Int)<=v / (C:Int):=by
   refine Int.not_lt.mp λad=>?_;rcases K.at_ v v0 vk with ⟨e,_⟩ | ⟨_,⟨e,_⟩ | ⟨_,_,_,_,u1,_,n',P',aa,G⟩⟩
   ·lia
   ·lia
   ·obtain ⟨_,e,rfl,_⟩:=P'.ex aa;obtain ⟨z,U,hz⟩:=W.more _ _ (e.mono D);have:Ed (gRoads R C (R * C)) ms (i * (2 * C-1)) v z:=by
     rw [N];obtain ⟨p,hp,hr,h⟩:=nb_mem.mp ((Xr B).mp hz);refine abo_nb.mpr ⟨p,hp,⟨?_,hr⟩,h⟩;obtain ⟨r,c',d,_,_,ek,hd⟩:=GS ((GQ (R:=R) (C:=C) R).keys p hp);have e2:∀a b e:Int,J3 [a,b,e]=[a+e,b+1-e]:=λ_ _ _=>rfl;have e1:∀a b e:Int,Ob [a,b,e]=[a,b]:=λ_ _ _=>rfl;rw [ek,e1,e2] at h;rw [ek];show (r:Int)<(i:Int);unfold pl at h;rcases h with ⟨a,_⟩ | ⟨a,_⟩ <;> simp only [List.cons.injEq,and_true] at a <;> rcases hd with ⟨rfl,_⟩ | ⟨rfl,_⟩ <;> lia
    exact U (Yaw (G z this))
  have sh:=P.short O (λx h=>(h.range W D).2 rfl) (W.twoj D) one Y λx y h=>(h.range W D).1;obtain ⟨sm,ee⟩:=ZbF N (λx z=>Ze4) O (W.twoj D) up P Y one hv 100 (by lia);rw [ep] at sm ee;rw [if_pos sm,ee];have lo:v / (C:Int)=(i:Int):=by
   obtain ⟨y,ey,_⟩:=(P.rev O).ex Y;rcases ZbG B h2 hi ey with h | ⟨h,_⟩
   ·lia
   ·exact h
  have:=Int.ediv_mul_add_emod v (C:Int);rw [lo] at this;show some (if v % (C:Int)<(c:Int) then 41 else 40)=some (if v=-2 then 46 else if _<v then 40 else 41);rw [if_neg (show v≠-2 by lia)];by_cases q:v % (C:Int)<(c:Int)
  ·rw [if_pos q,if_neg (by lia)]
  ·rw [if_neg q,if_pos (by lia)]
theorem Ws (h1:1<=R)(r10:R * C<=98)(h2:2<=C)(g:G4 ((R * C:Nat):Int) (gRoads R C (R * C)))(inv:Ww R C ms)(hi:i+1<=R){m:List Int}(K:MkI (gRoads R C (R * C)) ms (R * C) (i * (2 * C-1)) (i * (2 * C-1)) m) :
  ∀c,c<=C->JP (Jc (Gy R C R) (UM (Gy R C R) ms (i:Int))) (i:Int) c=some (Zfe m ((i:Int) * (C:Int)) c)
 | 0,_=>rfl
 | c+1,hc=>by
  unfold JP;rw [Ws h1 r10 h2 g inv hi K c (by lia),Ze6 h1 r10 h2 g inv hi K (show c<C by lia)];unfold Zfe;rw [List.range_succ,Yal]
  rfl
end
theorem Zg6 (h1:1<=R)(h2:2<=C):(gRoads R C (R * C)).length=(R-1) * (2 * C-1)+(C-1):=by
 have e:=Vq (R:=R) (C:=C) (R-1);rw [show R-1+1=R by lia] at e;rw [Uw,Yaa,e,Yan,UQ h2 (R-1) (by lia),Wq (R-1) C (Yac _),if_neg (by lia),if_pos (by lia)]
theorem Zc2 (L:2<=R)(D:R * C<=98)(h2:2<=C)(g:G4 ((R * C:Nat):Int) (gRoads R C (R * C)))(B:Ww R C ms) :
  ∃W:Nat->List Nat,(∀i:Nat,1<=i->i<R->JP (Jc (Gy R C R) (UM (Gy R C R) ms (i:Int))) (i:Int) C=some (W i))/\Xm R C ms=some ((List.range (R-1)).map λj=>W (j+1)):=by
 have W:=Zg5 h2 g B
 let U:Nat->List Nat:=λi=>(JP (Jc (Gy R C R) (UM (Gy R C R) ms (i:Int))) (i:Int) C).getD []
 have G:=Zg6 (R:=R) (C:=C) (by lia) h2;have F:=ZbD (c:=C) (U:=U) W (λi m N K=>by
  have hi:i+1<R:=Nat.lt_of_not_le λz=>by
   have:R * (2 * C-1)<=(i+1) * (2 * C-1):=Nat.mul_le_mul_right _ z;have e:R * (2 * C-1)=(R-1) * (2 * C-1)+(2 * C-1):=by
    conv=>lhs;rw [show R=(R-1)+1 by lia]
    rw [Nat.succ_mul]
   lia
  show _=(JP _ _ C).getD [];rw [Ws (by lia) D h2 g B (by lia) K C (Yac _)]
  rfl) (by lia)
 refine ⟨U,λi i1 O=>?_,?_⟩
 ·have:i * (2 * C-1)<=(R-1) * (2 * C-1):=Nat.mul_le_mul_right _ (by lia);obtain ⟨m,_,K⟩:=F (i * (2 * C-1)) (by lia);have e:=Ws (by lia) D h2 g B (show i+1<=R by lia) K C (Yac _);show _=some ((JP _ _ C).getD []);rw [e]
  rfl
 ·obtain ⟨m,e,_⟩:=F _ (Yac _);unfold Xm;rw [e];show some ((List.range ((gRoads R C (R * C)).length / (2 * C-1))).map λi=>U (i+1))=_;rw [G,Nat.mul_comm,Nat.mul_add_div (by lia),Nat.div_eq_of_lt (show C-1<2 * C-1 by lia),Nat.add_zero]
end
theorem ZbH {nm:NM}{i:Int}:∀{n:Nat}{l:List Nat},JP nm i n=some l->∀s∈l,s<1114112
 | 0,l,h=>by cases h;simp
 | n+1,l,h=>by
  obtain ⟨l1,h1,h2⟩:=Option.bind_eq_some_iff.mp h;obtain ⟨s,B,rfl⟩:=Ybg.mp h2;intro x D;rcases Yav.mp D with D | D
  ·exact ZbH h1 x D
  ·rw [Yas.mp D];unfold ZcO at B;split at B
   ·obtain ⟨e,_,B⟩:=Option.bind_eq_some_iff.mp B;rw [<-Yaw B];split <;> decide
   ·rw [<-Yaw B];decide
theorem Zg7 {l:List Nat}(h:∀s∈l,s<1114112):PyData.strOk (mkS l)=true:=by
 unfold PyData.strOk mkS;simpa using h
section
variable {P:Program}{w:World}{K:W.Frag}{mg:Str->Option Value}{base:Heap}
def Zc3 (K:W.Frag):Sp:=λvs H Q _=>∃(a:Addr)(ns:List Int),vs=[.ref a]/\SqL K H a (ns.map V.int)/\ns.length<=63/\∀H',Q (.bl true) H'
theorem scLaw:Gp ["script", "rows", "columns", "numbers", "cells", "roads", "due", "handed", "found", "back"] ["script"] (Ge ZbM):=⟨rfl,rfl,rfl,by decide +kernel,rfl,by decide +kernel,by decide +kernel⟩
theorem Zg8 {f a3 a4 ae af ag a5 a6:Addr}{fd ah ai G L N aj ak:FuncData}(F:Fun K "law" "law" ZbM f fd)(a7:Fun K "_law_cell_at" "_law_cell_at" Zhg a3 ah)(a8:Binds K ah ["script", "k"] [])(a9:mg "_law_cell_at" = some (.ref a3))(aA:GJ P w K mg base CX0 1 a3 ah ["script", "k"] (Zgy K))(aB:Fun K "_law_mixed" "_law_mixed" sMi a4 ai)(aC:Binds K ai ["cell", "k"] [])(aD:mg "_law_mixed" = some (.ref a4))(aE:GJ P w K mg base CX0 1 a4 ai ["cell", "k"] ZiO)(aM:Fun K "_law_numbers" "_law_numbers" Zgd ae G)(aN:Binds K G ["rows", "columns"] [])(aO:mg "_law_numbers" = some (.ref ae))(aP:GJ P w K mg base CX0 1 ae G ["rows", "columns"] ZgF)(aQ:Fun K "_law_drawn_way" "_law_drawn_way" Zhh af L)(aR:Binds K L ["numbers", "rows", "columns", "cells"] [])(aS:mg "_law_drawn_way" = some (.ref af))(aT:GJ P w K mg base CX0 2 af L ["numbers", "rows", "columns", "cells"] ZgU)(aU:Fun K "_law_words" "_law_words" Zgf ag N)(aV:Binds K N ["numbers", "rows", "columns", "roads"] [])(aW:mg "_law_words" = some (.ref ag))(aX:GJ P w K mg base CX0 2 ag N ["numbers", "rows", "columns", "roads"] ZgW)(aY:Fun K "words_of" "words_of" sWf a5 aj)(aZ:Binds K aj ["rows", "columns", "roads"] [])(bb:mg "words_of" = some (.ref a5))(bc:GJ P w K mg base (CXr P w) 6 a5 aj ["rows", "columns", "roads"] Zib)(bd:Fun K "set_by_words" "set_by_words" sSw a6 ak)(be:Binds K ak ["rows", "columns", "words"] [])(bf:mg "set_by_words" = some (.ref a6))(bg:GJ P w K mg base (CXr P w) 7 a6 ak ["rows", "columns", "words"] ZiQ)(b0:PySem.W.kitOne K (.type "int") (.type "bool")=some false)(Y:mg "list" = none)(al:mg "isinstance" = none)(bh:mg "bool" = none)(aF:mg "enumerate" = none):GJ P w K mg base CX0 8 f fd ["script"] (Zc3 K):=by
 refine F.ok scLaw (λvs H Q E h=>?_) (λb1 A b3 s H vs Q E Z h=>?_)
 ·obtain ⟨a,ns,rfl,_⟩:=h
  rfl
 obtain ⟨a,ns,rfl,hS,qV,q⟩:=h;have bH:=Yay.symm;have hu:(A.deeper (PyProof.Rows.envOfC "law" (Ge ZbM) s.heap.objs.size f b1)).units+64<cLine:=by have:=Z.un;lia
 refine ⟨_,(@Gc _ _ _ _ _ (@Gm _ _ 1 _ _ _ _ scLaw.nd rfl (Or.inl rfl) (@Gw _ _ _ _ _ _ _ _ GY Gg (@Gw _ _ _ _ _ _ _ _ Ur (@Gj _ _ _ _ _ _ _ _ _ _ _ _ _ _ _ _ aE (Z.mono (by decide)) rfl aD aB.kp aC .nil GP (@Ga _ _ _ _ _ (@Gj _ _ _ _ _ _ _ _ _ _ _ _ _ _ _ _ aA (Z.mono (by decide)) rfl a9 a7.kp a8 .nil GP (@Ga _ _ _ _ _ (pv 0) (@Ga _ _ _ _ _ Gg Gd rfl) rfl) (by decide) rfl rfl) (@Ga _ _ _ _ _ Gg Gd rfl) rfl) (by decide) rfl rfl) Gg)) rfl (by first | exact .inl rfl | exact .inr rfl))
    (@Gc _ _ _ _ _ (@Gm _ _ 2 _ _ _ _ scLaw.nd rfl (Or.inl rfl) (@Gw _ _ _ _ _ _ _ _ GY Gg (@Gw _ _ _ _ _ _ _ _ Ur (@Gj _ _ _ _ _ _ _ _ _ _ _ _ _ _ _ _ aE (Z.mono (by decide)) rfl aD aB.kp aC .nil GP (@Ga _ _ _ _ _ (@Gj _ _ _ _ _ _ _ _ _ _ _ _ _ _ _ _ aA (Z.mono (by decide)) rfl a9 a7.kp a8 .nil GP (@Ga _ _ _ _ _ (pv 0) (@Ga _ _ _ _ _ Gg Gd rfl) rfl) (by decide) rfl rfl) (@Ga _ _ _ _ _ Gg Gd rfl) rfl) (by decide) rfl rfl) Gg)) rfl (by first | exact .inl rfl | exact .inr rfl))
    (@Gc _ _ _ _ _ (@Gm _ _ 3 _ _ _ _ scLaw.nd rfl (Or.inl rfl) (@Gj _ _ _ _ _ _ _ _ _ _ _ _ _ _ _ _ aP (Z.mono (by decide)) rfl aO aM.kp aN .nil GP (@Ga _ _ _ _ _ (pv 1) (@Ga _ _ _ _ _ (pv 2) Gd rfl) rfl) (by decide) rfl rfl) rfl (by first | exact .inl rfl | exact .inr rfl))
    (@Gc _ _ _ _ _ (@Gm _ _ 4 _ _ _ _ scLaw.nd rfl (Or.inl rfl) (@Gw _ _ _ _ _ _ _ _ Vz (Jd (own:=["k", "cell"]) rfl (Jt (by decide +kernel) (by decide +kernel) rfl (by decide +kernel)) (XE K rfl aF (@Ga _ _ _ _ _ (Oj (kSl K) (pv 0) (OG Gg) (OG Gg)) Gd rfl)) (λ_ _ _ _=>Wu K (n:=2) rfl (Gn (Gi (i:=0) (show List.Nodup (["k", "cell"]:List Str) by decide +kernel) rfl (Or.inl rfl)) (Gn (Gi (i:=1) (show List.Nodup (["k", "cell"]:List Str) by decide +kernel) rfl (Or.inl rfl)) Jb))) (λ_ _ _ _=>JB) (λ_ _ _ _=>Gj aE (Z.mono (by decide)) rfl aD aB.kp aC .nil GP (@Ga _ _ _ _ _ (pv 1) (@Ga _ _ _ _ _ (@Gw _ _ _ _ _ _ _ _ GY Gg (pv 0)) Gd rfl) rfl))) (@Ji _ _ _ _ (@Ga _ _ _ _ _ (@Gj _ _ _ _ _ _ _ _ _ _ _ _ _ _ _ _ aA (Z.mono (by decide)) rfl a9 a7.kp a8 .nil GP (@Ga _ _ _ _ _ (pv 0) (@Ga _ _ _ _ _ Gg Gd rfl) rfl) (by decide) rfl rfl) Gd rfl))) rfl (by first | exact .inl rfl | exact .inr rfl))
    (@Gc _ _ _ _ _ (@Gm _ _ 5 _ _ _ _ scLaw.nd rfl (Or.inl rfl) (@Gj _ _ _ _ _ _ _ _ _ _ _ _ _ _ _ _ aT (Z.mono (by decide)) rfl aS aQ.kp aR .nil GP (@Ga _ _ _ _ _ (pv 3) (@Ga _ _ _ _ _ (pv 1) (@Ga _ _ _ _ _ (pv 2) (@Ga _ _ _ _ _ (pv 4) Gd rfl) rfl) rfl) rfl) (by decide) rfl rfl) rfl (by first | exact .inl rfl | exact .inr rfl))
    (@Gc _ _ _ _ _ (@Gm _ _ 6 _ _ _ _ scLaw.nd rfl (Or.inl rfl) (@Gj _ _ _ _ _ _ _ _ _ _ _ _ _ _ _ _ aX (Z.mono (by decide)) rfl aW aU.kp aV .nil GP (@Ga _ _ _ _ _ (pv 3) (@Ga _ _ _ _ _ (pv 1) (@Ga _ _ _ _ _ (pv 2) (@Ga _ _ _ _ _ (pv 5) Gd rfl) rfl) rfl) rfl) (by decide) rfl rfl) rfl (by first | exact .inl rfl | exact .inr rfl))
    (@Gc _ _ _ _ _ (@Gm _ _ 7 _ _ _ _ scLaw.nd rfl (Or.inl rfl) (Jk (VY K) rfl Y JG (@Ga _ _ _ _ _ (pv 5) Gd rfl)) rfl (by first | exact .inl rfl | exact .inr rfl))
    (@Gc _ _ _ _ _ (@Gm _ _ 8 _ _ _ _ scLaw.nd rfl (Or.inl rfl) (@Gj _ _ _ _ _ _ _ _ _ _ _ _ _ _ _ _ bc (Z.mono (by decide)) rfl bb aY.kp aZ .nil Zb (@Ga _ _ _ _ _ (pv 1) (@Ga _ _ _ _ _ (pv 2) (@Ga _ _ _ _ _ (pv 7) Gd rfl) rfl) rfl) (by decide) rfl rfl) rfl (by first | exact .inl rfl | exact .inr rfl))
    (@Gc _ _ _ _ _ (@Jn _ _ _ _ _ _ _ _ (PW.pt (OF (OS (JL (Gu VW rfl al VX (@Ga _ _ _ _ _ (pv 8) (@Ga _ _ _ _ _ (Zaa Y JG) Gd rfl) rfl)))) (OF (Go (ZE K hu) (pv 8) (pv 6) (Gv _)) (Oz (Go (ZE K hu) (pv 7) (pv 5) (Gv _)))))) (@Gf _ _ _ (@Gs _ _ _ _ Xw)) Gz)
    (@Gc _ _ _ _ _ (@Gm _ _ 9 _ _ _ _ scLaw.nd rfl (Or.inl rfl) (@Gj _ _ _ _ _ _ _ _ _ _ _ _ _ _ _ _ bg (Z.mono (by decide)) rfl bf bd.kp be .nil Zb (@Ga _ _ _ _ _ (pv 1) (@Ga _ _ _ _ _ (pv 2) (@Ga _ _ _ _ _ (pv 8) Gd rfl) rfl) rfl) (by decide) rfl rfl) rfl (by first | exact .inl rfl | exact .inr rfl))
    (@Gc _ _ _ _ _ (@Jn _ _ _ _ _ _ _ _ (PW.pt (OF (OS (JL (Gu VW rfl al VX (@Ga _ _ _ _ _ (pv 9) (@Ga _ _ _ _ _ (Zaa Y JG) Gd rfl) rfl)))) (OF (Go (ZE K hu) (pv 9) (pv 5) (Gv _)) (Oz (Go (ZE K hu) (pv 8) (pv 6) (Gv _)))))) (@Gf _ _ _ (@Gs _ _ _ _ Xw)) Gz)
    (@Gc _ _ _ _ _ (@Jn _ _ _ _ _ _ _ _ (Go (ZE K hu) (Jd (own:=["road"]) rfl (Jt (by decide +kernel) (by decide +kernel) rfl (by decide +kernel)) (Oy K (pv 9)) (λ_ _ _ _=>Gi (i:=0) (show List.Nodup (["road"]:List Str) by decide +kernel) rfl (Or.inl rfl)) (λ_ _ _ _=>Jm (JL (Gu (Zjb K) rfl al VX (@Ga _ _ _ _ _ (pv 0) (@Ga _ _ _ _ _ (Zaa bh Zab) Gd rfl) rfl)))) (λ_ _ _ _=>pv 0)) (@Ji _ _ _ _ Gd) (Gv _)) (@Gf _ _ _ (@Gs _ _ _ _ Xw)) Gz)
    (@Gc _ _ _ _ _ (Jq (OU Ydd Ydj Ydk G5 (pv 8) (@Ga _ _ _ _ _ JD Gd rfl)))
    (@Gc _ _ _ _ _ (Jq (OU Ydd Ydj Ydk G5 (pv 9) (@Ga _ _ _ _ _ Gg Gd rfl)))
    (@Gf _ _ _ (@Gs _ _ _ _ (Zc5 (Jr (Ziw K hu) (@Gj _ _ _ _ _ _ _ _ _ _ _ _ _ _ _ _ bc (Z.mono (by decide)) rfl bb aY.kp aZ .nil Zb (@Ga _ _ _ _ _ (pv 1) (@Ga _ _ _ _ _ (pv 2) (@Ga _ _ _ _ _ (pv 7) Gd rfl) rfl) rfl) (by decide) rfl rfl) (pv 6) (Gv _)) (ZK (Jr (Ziw K hu) (@Gj _ _ _ _ _ _ _ _ _ _ _ _ _ _ _ _ bg (Z.mono (by decide)) rfl bf bd.kp be .nil Zb (@Ga _ _ _ _ _ (pv 1) (@Ga _ _ _ _ _ (pv 2) (@Ga _ _ _ _ _ (Jk (VY K) rfl Y JG (@Ga _ _ _ _ _ (pv 6) Gd rfl)) Gd rfl) rfl) rfl) (by decide) rfl rfl) (pv 5) (Gv _)))))))))))))))))))),?_⟩
 refine ⟨_,rfl,a,ns,0,rfl,hS,λz0=>⟨z0,0,rfl,by lia,λz=>?_⟩⟩;refine ⟨_,_,rfl,rfl,(by show (0:Int)<9;decide),_,_,rfl,rfl,?_⟩;obtain ⟨r,bi,r2,am⟩:∃r:Nat,(2:Int)+z % 9=(r:Int)/\2<=r/\r<=10:=by
  have f0:0<=z % 9:=Int.emod_nonneg _ (by decide);have f1:z % 9<9:=Int.emod_lt_of_pos _ (by decide);exact ⟨((2:Int)+z % 9).toNat,by lia,by lia,by lia⟩
 dsimp only [GB];rw [bi];refine ⟨_,rfl,a,ns,1,rfl,hS,λz1=>⟨z1,1,rfl,by lia,λy=>?_⟩⟩;refine ⟨_,_,rfl,rfl,(by show (0:Int)<6;decide),_,_,rfl,rfl,?_⟩;obtain ⟨c,hc,c2,c7⟩:∃c:Nat,(2:Int)+y % 6=(c:Int)/\2<=c/\c<=7:=by
  have f0:0<=y % 6:=Int.emod_nonneg _ (by decide);have f1:y % 6<6:=Int.emod_lt_of_pos _ (by decide);exact ⟨((2:Int)+y % 6).toNat,by lia,by lia,by lia⟩
 dsimp only [GB];rw [hc];clear bi hc;have bj:r * c<=70:=Nat.mul_le_mul am c7;refine ⟨_,rfl,_,rfl,r,c,rfl,by lia,by lia,λd o H1 s1 bI hd=>?_⟩;dsimp only [GB];refine ⟨_,rfl,_,rfl,_,rfl,a,_,rfl,s1.seq hS,λsl b4=>?_⟩;have aG:=UY (ns.map V.int) (some 2) (some 42);rw [Yaa] at aG;obtain ⟨cs,b5⟩:∃cs:List Int,WG (ns.map V.int) (some 2) (some 42)=cs.map V.int:=by
  unfold WG;rw [<-List.map_drop,<-List.map_take];exact ⟨_,rfl⟩
 rw [b5] at aG ⊢;rw [Yaa] at aG;have s2:Same H1 (upd H1 sl (.lst (cs.map V.int))):=Same.new b4;have aH:upd H1 sl (.lst (cs.map V.int)) sl=some (.lst (cs.map V.int)):=Gb;generalize upd H1 sl (.lst (cs.map V.int))=H2 at s2 aH ⊢;refine ⟨sl,_,rfl,SqL.of aH,λD hD=>?_⟩;refine U4 (K:=K) (a:=sl) (xs:=cs.map V.int) (λi ys H3=>Same H2 H3/\H3 D=some (.lst ys)/\∃zs:List Int,ys=zs.map V.int/\zs.length=i) ⟨Same.new hD,Gb,[],rfl,rfl⟩ (λi ys H3 _ ⟨s3,_⟩=>SqL.of (s3 _ _ aH)) ?_ ?_
 ·rintro i x ys H3 T B ⟨s3,aI,zs,rfl,zl⟩ hT;rw [Yau] at B;obtain ⟨n,hn,rfl⟩:=Ybg.mp B;have hi:=(Ybf.mp hn).1;have s4:Same H3 (upd H3 T (.tup [.int (i:Nat),.int n])):=Same.new hT;refine ⟨T,_,rfl,SqT.of Gb,rfl,_,_,rfl,_,_,rfl,rfl,?_⟩;generalize upd H3 T (.tup [.int (i:Nat),.int n])=H4 at s4 ⊢;have b6:=s4 _ _ aI;refine ⟨trivial,?_⟩;unfold ZbJ;refine JQ ?_;refine ⟨_,rfl,_,rfl,_,_,rfl,rfl,n,2+i,by push_cast;rfl,by lia,λu=>?_⟩;exact ⟨b6,by rw [Yaa];lia,(s3.trans s4).put hD,Gb,zs++[u],by rw [Yal];rfl,by rw [Yan,zl];rfl⟩
 rintro ys H3 ⟨s3,aI,zs,rfl,zl⟩;rw [Yaa] at zl;have S3:=s1.trans (s2.trans s3);refine ⟨_,rfl,a,ns,2,rfl,S3.seq hS,λz2=>⟨(by show 1<=sizeLine;decide),λp hp=>?_⟩⟩;have s4:Same H3 (upd H3 p (.lst [.int z2])):=Same.new hp;have ep:upd H3 p (.lst [.int z2]) p=some (.lst [.int z2]):=Gb;generalize upd H3 p (.lst [.int z2])=H4 at s4 ep ⊢;refine ⟨D,p,_,_,rfl,rfl,s4 _ _ aI,ep,by rw [Yaa];show _+1<=_;lia,λcl bl=>?_⟩;have s5:Same H4 (upd H4 cl (.lst (zs.map V.int++[.int z2]))):=Same.new bl;have bm:upd H4 cl (.lst (zs.map V.int++[.int z2])) cl=some (.lst ((zs++[z2]).map V.int)):=by rw [Gb,Yal];rfl
 generalize upd H4 cl (.lst (zs.map V.int++[.int z2]))=H5 at s5 bm ⊢;dsimp only [GB];have b7:=s2.trans (s3.trans (s4.trans s5));have bn:=b7 _ _ hd;have g:=ZA (R:=r) (C:=c) (by lia) am c2 c7;refine ⟨_,rfl,_,rfl,_,rfl,_,rfl,d,cl,o,_,r,c,zs++[z2],Ww r c,rfl,bn,bm,by simp,by rw [Yan,Ybl];lia,r2,by lia,c2,by lia,Zbt am c7,λrl ms H6 s6 bE bo au=>?_⟩;dsimp only [GB];obtain ⟨W,hW,eW⟩:=Zc2 r2 (by lia) c2 g au;have aJ:(Gy r c r).length<=200:=Ycc (Vm am c7) (by decide);refine ⟨_,rfl,_,rfl,_,rfl,_,rfl,d,rl,o,_,r,c,ms,W,rfl,s6 _ _ bn,aJ,Zbq,bo,by lia,by lia,by lia,hW,λdu H7 s7 bF aK=>?_⟩;dsimp only [GB];have b8:((List.range (r-1)).map λj=>V.str (mkS (W (j+1))))=(((List.range (r-1)).map λj=>W (j+1)).map λx=>V.str (mkS x)):=by rw [Yca];rfl
 rw [b8] at aK;have wn:((List.range (r-1)).map λj=>W (j+1)).length=r-1:=by rw [Yaa,Ycb]
 have wW:∀x∈((List.range (r-1)).map λj=>W (j+1)),∃i:Nat,JP (Jc (Gy r c r) (UM (Gy r c r) ms (i:Int))) (i:Int) c=some x:=λx B=>by
  obtain ⟨j,hj,rfl⟩:=Yam.mp B;rw [Ybq] at hj;exact ⟨j+1,hW (j+1) (by lia) (by lia)⟩
 have wc:∀x∈((List.range (r-1)).map λj=>W (j+1)),x.length=c:=λx B=>by
  obtain ⟨i,h⟩:=wW x B;exact Wl h
 have wo:∀x∈((List.range (r-1)).map λj=>W (j+1)),PyData.strOk (mkS x)=true:=λx B=>by
  obtain ⟨i,h⟩:=wW x B;exact Zg7 (ZbH h)
 have bp:=Zg4 (R:=r) (C:=c) (ms:=ms) (by lia) hW;have bq:VM r c ((List.range (r-1)).map λj=>W (j+1))=ms:=Zc0 c2 au bp λi hi=>by
  have dl:(dots c).length=c:=Ydy;have all:∀x∈dots c::(((List.range (r-1)).map λj=>W (j+1))++[dots c]),x.length=c:=λx B=>by
   rcases Yar.mp B with rfl | B
   ·exact dl
   ·rcases Yav.mp B with B | B
    ·exact wc x B
    ·rw [Yas.mp B];exact dl
  rw [Yai,Yah (by rw [Ybi,Yan,wn,Ybl];lia)];exact all _ (Ycd _)
 have cls:=ZB g au;have av:2<=r/\2<=c/\r * c<=70/\(gRoads r c (r * c)).length<=(r-1) * (2 * c-1)+(c-1):=⟨r2,c2,bj,Nat.le_of_eq (Zg6 (by lia) c2)⟩;clear hW wW bp;generalize ((List.range (r-1)).map λj=>W (j+1))=ws at *;have an:=s7 _ _ bo;refine ⟨_,rfl,rl,_,rfl,.inl (SqL.of an),λha br=>?_⟩;have s8:Same H7 (upd H7 ha (.lst (ms.map V.int))):=Same.new br;have aw:upd H7 ha (.lst (ms.map V.int)) ha=some (.lst (ms.map V.int)):=Gb;generalize upd H7 ha (.lst (ms.map V.int))=H8 at s8 aw ⊢;dsimp only [GB];refine ⟨_,rfl,_,rfl,_,rfl,r,c,ha,ms,ws,rfl,av,g,aw,cls,eW,λfo H9 s9 bt ac=>?_⟩;dsimp only [GB];have a0:=(s8.trans s9) _ _ aK;have a1:=(s8.trans s9) _ _ an;refine ⟨_,rfl,_,_,true,rfl,⟨_,rfl,JI ?_⟩,.inl ⟨_,.lst ac,rfl,Ym⟩⟩;refine ⟨_,rfl,_,rfl,.list (Vu ws),.list (Vu ws),.lst (SqL.of ac) (Jy _),.lst (SqL.of a0) (Jy _),Jf wo,Jf wo,_,rfl,?_⟩;rw [UK,Yae rfl];refine JI ?_;refine ⟨_,rfl,_,rfl,.list _,.list _,.lst (SqL.of (s9 _ _ aw)) (Je _),.lst (SqL.of a1) (Je _),GW _,GW _,_,rfl,?_⟩;rw [OW,Yae rfl];refine JI ?_;refine ⟨_,rfl,_,rfl,_,rfl,r,c,fo,ms,ws,rfl,av,g,ac,wn,wc,wo,cls,eW,bq,λba bu ao ap aq=>?_⟩;dsimp only [GB];refine ⟨_,rfl,_,_,true,rfl,⟨_,rfl,JI ?_⟩,.inl ⟨_,.lst aq,rfl,Ym⟩⟩;refine ⟨_,rfl,_,rfl,.list _,.list _,.lst (SqL.of aq) (Je _),.lst (SqL.of (ao _ _ a1)) (Je _),GW _,GW _,_,rfl,?_⟩;rw [OW,Yae rfl];refine JI ?_;refine ⟨_,rfl,_,rfl,.list (Vu ws),.list (Vu ws),.lst (SqL.of (ao _ _ ac)) (Jy _),.lst (SqL.of (ao _ _ a0)) (Jy _),Jf wo,Jf wo,_,rfl,?_⟩;rw [UK,Yae rfl];refine JI ?_;refine ⟨_,rfl,ba,rfl,⟨_,SqL.of aq⟩,λD2 b9=>?_⟩;refine GF (K:=K) (a:=ba) (xs:=ms.map V.int) (λi ys O=>Same bu O/\O D2=some (.lst ys)/\ys=[]) ⟨Same.new b9,Gb,rfl⟩ (λi ys O _ ⟨ad,_⟩=>SqL.of (ad _ _ aq)) ?_ ?_
 ·rintro i x ys O B ⟨ad,aa,rfl⟩;rw [Yau] at B;obtain ⟨n,_,rfl⟩:=Ybg.mp B;refine ⟨trivial,?_⟩;exact ⟨_,rfl,_,_,false,rfl,⟨_,rfl,JI ⟨ad,aa,rfl⟩⟩,.inl ⟨_,.int _,rfl,b0⟩⟩
 rintro ys O ⟨ad,aa,rfl⟩;refine ⟨Ybc _,λe he=>⟨.list [],.list [],.lst (SqL.of (Gq aa (Gh aa he))) .nil,.lst (SqL.of Gb) .nil,by decide,by decide,_,rfl,?_⟩⟩;refine JI ?_;have ax:Same bu (upd O e (.lst [])):=ad.put (ad.free he);generalize upd O e (.lst [])=ay at ax ⊢;have ar:=(ao.trans ax) _ _ ac;have aL:=ax _ _ aq;have nb:ba≠fo:=λe=>by rw [e,ac] at ap;cases ap
 have lw:∀{b u},H8 b=some u->b≠fo/\b≠ba/\ay b=some u:=λy=>⟨λe=>(by rw [e,bt] at y;cases y),λe=>(by have y9:=s9 _ _ y;rw [e,ap] at y9;cases y9),(s9.trans (ao.trans ax)) _ _ y⟩;refine ⟨_,rfl,.inl ⟨rfl,_,SqL.of ar⟩,fo,_,_,rfl,rfl,ar,by rw [Yaa];lia,?_⟩;have U:upd ay fo (.lst (ws.map (λx=>V.str (mkS x))++[.str "("])) ba=some (.lst (ms.map V.int)):=Gq aL nb;have a2:∀{b u},H8 b=some u->b≠ba/\upd ay fo (.lst (ws.map (λx=>V.str (mkS x))++[.str "("])) b=some u:=λy=>let ⟨a,b,c⟩:=lw y;⟨b,Gq c a⟩;generalize upd ay fo (.lst (ws.map (λx=>V.str (mkS x))++[.str "("]))=H13 at U a2 ⊢;have bG:ms.length<=200:=(Zbt (R:=r) (C:=c) am c7).len ms au;refine ⟨_,rfl,.inl ⟨rfl,_,SqL.of U⟩,ba,_,_,rfl,rfl,U,by rw [Yaa];lia,?_⟩;have ab:∀{b u},H8 b=some u->upd H13 ba (.lst (ms.map V.int++[.int 7])) b=some u:=λy=>let ⟨a,b⟩:=a2 y;Gq b a;generalize upd H13 ba (.lst (ms.map V.int++[.int 7]))=bJ at ab ⊢;refine ⟨_,rfl,_,rfl,_,rfl,r,c,ha,ms,ws,rfl,av,g,ab aw,cls,eW,λf2 az bw _ bA=>?_⟩;have as:=bw _ _ (ab (s8 _ _ aK));refine ⟨_,rfl,.list (Vu ws),.list (Vu ws),.lst (SqL.of bA) (Jy _),.lst (SqL.of as) (Jy _),Jf wo,Jf wo,_,rfl,?_⟩;rw [UK,Yae rfl];refine JQ ?_;refine ⟨_,rfl,_,rfl,_,rfl,du,_,rfl,.inl (SqL.of as),λli bB=>?_⟩;have bx:Same az (upd az li (.lst (ws.map λx=>V.str (mkS x)))):=Same.new bB;have bz:upd az li (.lst (ws.map λx=>V.str (mkS x))) li=some (.lst (ws.map λx=>V.str (mkS x))):=Gb;generalize upd az li (.lst (ws.map λx=>V.str (mkS x)))=H16 at bx bz ⊢;refine ⟨r,c,li,ms,ws,rfl,av,g,bz,wn,wc,wo,cls,eW,bq,λb2 bK bC _ bD=>?_⟩;refine ⟨_,rfl,.list _,.list _,.lst (SqL.of bD) (Je _),.lst (SqL.of ((bw.trans (bx.trans bC)) _ _ (ab (s8 _ _ an)))) (Je _),GW _,GW _,?_⟩;rw [OW,Yae rfl];exact q _
end
end M
section
open PySem PySem.W PyProof.Rows
def M.rowP:Program:=PySem.Challenge.rw_onceways_k71_words_of_a_closed_way.prog
def M.seenP:Program:={ M.rowP with main:={ M.rowP.main with body:=[1,2,3,4,6,7,8,9,11,12,13,14,15,16,17,19,20,21,22,23,24,25,26,27,28,30,31,32,33,34,36,37,38,40,41,42,43,44,45,47,48,49,50,51,52,53,54,55,56].filterMap (λi=>M.rowP.main.body[i]?) } }
def M.loosely:List Str:=[Str.ofString "steps_of_marks", Str.ofString "steps_of_ways", Str.ofString "roads_of"]
def M.hookX (s:Shared):Bool:=xlAt M.seenP [] s && recOk (RowW.records (OpenRow.toRowW PySem.Challenge.rw_onceways_k71_words_of_a_closed_way.row)) s
noncomputable def M.atBoot (w:World)(B:OsState):Shared:=⟨boot_heap w.params,Array.mk [],boot_drawn,boot_toks,B⟩
noncomputable def M.topOf (p:Program)(N:Nat)(w:World)(B:OsState):Option Shared:=topRun treeTable p w (M.atBoot w B).heap.objs.size ((M.atBoot w B).heap.nsMap mainGlobals "__annotations__") N (M.atBoot w B) (topStub p)
theorem M.top_run {p:Program}{N:Nat}{w:World}{B:OsState}{s:Shared}(h:topFrom treeTable p w N (M.atBoot w B)=some s):M.topOf p N w B=some s:=by
 unfold topFrom at h;split at h
 ·obtain ⟨s1,h1,h2⟩:=Option.bind_eq_some_iff.mp h;split at h2
  ·cases h2;exact h1
  ·cases h2
 ·cases h
theorem M.left_boot {p q:Program}{B:List Str}{D:Shared->Bool}{α:Type}{F:Shared->α}{G:World->α}{N:Nat}(e:opening p=plainProg p.main.scope.names)(O:Nat.ble 600 N=true)(f:∀s,fenceModules? p s=some s)(U:∀(w:World)(os:OsState),(topFrom treeTable p w N (M.atBoot w os)).isSome=true)(Y:∀(w:World)(os:OsState),(M.topOf p N w os).map (openSeen q B (importedModules p.main.body) D true)=some (openGood q B))(Z:∀(w:World)(os:OsState),(M.topOf p N w os).map F=some (G w)) :
  LeftO p q B D F G N:=λw=>by
 obtain ⟨⟨a,b,c,d,os⟩,e1,e2⟩:=Ybg.mp (boot_open e O f w);obtain ⟨rfl,rfl,rfl,rfl⟩:a=boot_heap w.params/\b=Array.mk []/\c=boot_drawn/\d=boot_toks:=by simpa using e2
 obtain ⟨s,L⟩:=Yeg.mp (U w os);have h1:=Y w os;have h2:=Z w os;rw [M.top_run L] at h1 h2;unfold openEnds;rw [e1];show (topFrom treeTable p w N (M.atBoot w os)).map _=_;rw [L];simp only [Option.map_some,Option.some.injEq] at h1 h2 ⊢;rw [h1,h2]
set_option maxHeartbeats 0 in
theorem M.topA (w:World)(B:OsState):(M.topOf M.rowP 4390 w B).map (openSeen M.seenP M.loosely (importedModules M.rowP.main.body) M.hookX true)=some (openGood M.seenP M.loosely):=by
 unfold M.topOf;rw [W.Fast.te14082659384304107361,W.Fast.te14364793385576792824,W.Fast.te4187177175401517315];kernel_rfl
set_option maxHeartbeats 0 in
theorem M.topC (w:World)(B:OsState):(topFrom treeTable M.rowP w 4390 (M.atBoot w B)).isSome=true:=by
 unfold topFrom;rw [W.Fast.te14082659384304107361,W.Fast.te14364793385576792824];kernel_rfl
end
namespace M
open PySem L2
theorem all_mk {l:W.OpenLaw}{w:World}{K:W.Frag}{h:Heap}{mg:Str->Option Value}{fa f1 f2 f3 f4 f5 f6 f7 f8 f9 f10 f11 f12 f13 f14 f15 f16 f17 f18 f19 f20 f21 f22 f23 f24 f25 f26 f27 f28 f29 f30 f31 f32 f33 f34 f35 f36 f37 f38 f39 no NW C2 dT:Addr}{u0 u1 u2 u3 u4 u5:Tok}{dtc:Value}{dtd:Option Addr}{dtn:Nat}{dts:Array (Option Value)}(X:K.In h)(G:h.Ns mainGlobals mg)(hfa:mg "law" = some (.ref fa)){od an:Option Addr}{sl:Array (Option Value)}{oc kV dc pm cd ct:Value}(qGr:FX K "grid" sGr f1)(qIp:FX K "is_place" sIs f2)(qCp:FX K "check_place" Zhe f3)(qBe:FX K "beside" Zf8 f4)(qLr:FX K "last_roads" sLr f5)(qSo:FY K "steps_of_marks" "steps_of" .none sSo f6)(qFm:FX K "first_marks" sFm f7)(qId:FX K "is_done" sId f8)(qIl:FX K "is_loose" sIl f9)(qIf:FX K "is_full" sIf f10)(qIm:FX K "is_met" sIm f11)(qFe:FX K "far_end" sFe f12)(qWr:FX K "with_road" sWr f13)(qLb:FX K "left_behind" sLb f14)(qDe:FX K "decided" sDe f15)(qNby:FX K "numbers_by_step" Ze8 f16)(qSow:FY K "steps_of_ways" "steps_of" .none Zf9 f17)(qGo:FX K "goes_once" Zga f18)(qIcl:FX K "is_closed" Zhf f19)(qRo:FY K "roads_of" "roads_of" (.ref dT) ZcD f20)(qCho:FX K "chosen_roads" Zgb f21)(qWal:FX K "walk" Zgc f22)(qCof:FX K "closed_of" Ze9 f23)(qRr:FX K "roads_of_row" sRr f24)(qSg:FX K "sign_of" sSg f25)(qWn:FX K "word_in" sWn f26)(qWf:FX K "words_of" sWf f27)(qIc:FX K "is_chosen" sIc f28)(qSw:FX K "set_by_words" sSw f29)(qCa:FX K "_law_cell_at" Zhg f30)(qMi:FX K "_law_mixed" sMi f31)(qNum:FX K "_law_numbers" Zgd f32)(qBsd:FX K "_law_beside" Zfa f33)(qIsc:FX K "_law_is_closed" Zfb f34)(qRou:FX K "_law_round" Zge f35)(qDrw:FX K "_law_drawn_way" Zhh f36)(qEnd:FX K "_law_end_of" Zfc f37)(qLwd:FX K "_law_words" Zgf f38)(aL:W.nsIn K mainGlobals "law" = some (some (.ref f39)))(lL:K.lookup f39=some ⟨oc,od,.func (W.fnOf "law" "law" (Jj ZbM) (G3 ZbM) (Ge ZbM) .none kV dc pm an cd ct),sl⟩)(cL:W.codeIn K cd "law" = true)(kL:W.keepIn K (.ref f39)=true)(gN:W.nsIn K mainGlobals "NoWay" = some (some (.ref NW)))(gP:W.nsIn K mainGlobals "NoPlace" = some (some (.ref C2)))(gW:W.nsIn K mainGlobals "NoWeb" = some (some (.ref no)))(xN:ExcC K NW)(xP:ExcC K C2)(xW:ExcC K no)(kib:W.kitOne K (.type "int") (.type "bool")=some false)(dTl:K.lookup dT=some ⟨dtc,dtd,.seq #[.bool false] dtn,dts⟩)(gUSED:W.nsIn K mainGlobals "USED" = some (some (.int (-1) u1)))(gFREE:W.nsIn K mainGlobals "FREE" = some (some (.int (-2) u2)))(gFIRST:W.nsIn K mainGlobals "FIRST" = some (some (.int (-3) u3)))(gSECOND:W.nsIn K mainGlobals "SECOND" = some (some (.int (-4) u4)))(gBARRED:W.nsIn K mainGlobals "BARRED" = some (some (.int (-5) u5)))(gDONE:W.nsIn K mainGlobals "DONE" = some (some (.int 0 u0)))(nrange:W.nsIn K mainGlobals "range" = some none)(nlist:W.nsIn K mainGlobals "list" = some none)(nlen:W.nsIn K mainGlobals "len" = some none)(nmin:W.nsIn K mainGlobals "min" = some none)(nmax:W.nsIn K mainGlobals "max" = some none)(nsorted:W.nsIn K mainGlobals "sorted" = some none)(nset:W.nsIn K mainGlobals "set" = some none)(nall:W.nsIn K mainGlobals "all" = some none)(nany:W.nsIn K mainGlobals "any" = some none)(nzip:W.nsIn K mainGlobals "zip" = some none)(nenumerate:W.nsIn K mainGlobals "enumerate" = some none)(ntuple:W.nsIn K mainGlobals "tuple" = some none)(ndivmod:W.nsIn K mainGlobals "divmod" = some none)(nint:W.nsIn K mainGlobals "int" = some none)(nisinstance:W.nsIn K mainGlobals "isinstance" = some none)(nbool:W.nsIn K mainGlobals "bool" = some none)
  : ∃fd:FuncData,(∀(s:Shared)(v:Value),BindsTo s fd ⟨[v],[]⟩ [("script", v)])/\∀base:Heap,K.In base->base.Ns mainGlobals mg->GJ l.prog w K mg base CX0 8 fa fd ["script"] (Zc3 K):=by
 have e:=hfa.symm.trans (Ybx X G aL);cases e;obtain ⟨_,FGr,bGr,mGr⟩:=qGr.go X G ["rows", "columns"] λ_ _ _ _ _ _ us hl=>by obtain ⟨_,_,rfl⟩:=Wt hl;rfl
 obtain ⟨_,FIp,bIp,mIp⟩:=qIp.go X G ["web", "place"] λ_ _ _ _ _ _ us hl=>by obtain ⟨_,_,rfl⟩:=Wt hl;rfl
 obtain ⟨_,FCp,bCp,mCp⟩:=qCp.go X G ["web", "place"] λ_ _ _ _ _ _ us hl=>by obtain ⟨_,_,rfl⟩:=Wt hl;rfl
 obtain ⟨_,FBe,bBe,mBe⟩:=qBe.go X G ["web", "place"] λ_ _ _ _ _ _ us hl=>by obtain ⟨_,_,rfl⟩:=Wt hl;rfl
 obtain ⟨_,FLr,bLr,mLr⟩:=qLr.go X G ["web"] λ_ _ _ _ _ _ us hl=>by obtain ⟨_,rfl⟩:=Zda hl;rfl
 obtain ⟨_,FSo,bSo,mSo⟩:=qSo.go X G ["web", "needed"] λ_ _ _ _ _ _ us hl=>by obtain ⟨_,_,rfl⟩:=Wt hl;rfl
 obtain ⟨_,FFm,bFm,mFm⟩:=qFm.go X G ["web", "needed"] λ_ _ _ _ _ _ us hl=>by obtain ⟨_,_,rfl⟩:=Wt hl;rfl
 obtain ⟨_,FId,bId,mId⟩:=qId.go X G ["marks"] λ_ _ _ _ _ _ us hl=>by obtain ⟨_,rfl⟩:=Zda hl;rfl
 obtain ⟨_,FIl,bIl,mIl⟩:=qIl.go X G ["mark"] λ_ _ _ _ _ _ us hl=>by obtain ⟨_,rfl⟩:=Zda hl;rfl
 obtain ⟨_,FIf,bIf,mIf⟩:=qIf.go X G ["mark"] λ_ _ _ _ _ _ us hl=>by obtain ⟨_,rfl⟩:=Zda hl;rfl
 obtain ⟨_,FIm,bIm,mIm⟩:=qIm.go X G ["mark"] λ_ _ _ _ _ _ us hl=>by obtain ⟨_,rfl⟩:=Zda hl;rfl
 obtain ⟨_,FFe,bFe,mFe⟩:=qFe.go X G ["marks", "place", "ends"] λ_ _ _ _ _ _ us hl=>by obtain ⟨_,_,_,rfl⟩:=Z6 hl;rfl
 obtain ⟨_,FWr,bWr,mWr⟩:=qWr.go X G ["marks", "road", "ends"] λ_ _ _ _ _ _ us hl=>by obtain ⟨_,_,_,rfl⟩:=Z6 hl;rfl
 obtain ⟨_,FLb,bLb,mLb⟩:=qLb.go X G ["marks", "leaving", "needed"] λ_ _ _ _ _ _ us hl=>by obtain ⟨_,_,_,rfl⟩:=Z6 hl;rfl
 obtain ⟨_,FDe,bDe,mDe⟩:=qDe.go X G ["marks", "step", "ends", "chosen"] λ_ _ _ _ _ _ us hl=>by obtain ⟨_,_,_,_,rfl⟩:=Zhb hl;rfl
 obtain ⟨_,FNby,bNby,mNby⟩:=qNby.go X G ["web"] λ_ _ _ _ _ _ us hl=>by obtain ⟨_,rfl⟩:=Zda hl;rfl
 obtain ⟨_,FSow,bSow,mSow⟩:=qSow.go X G ["places", "closed"] λ_ _ _ _ _ _ us hl=>by obtain ⟨_,_,rfl⟩:=Wt hl;rfl
 obtain ⟨_,FGo,bGo,mGo⟩:=qGo.go X G ["web", "places", "closed"] λ_ _ _ _ _ _ us hl=>by obtain ⟨_,_,_,rfl⟩:=Z6 hl;rfl
 obtain ⟨_,FIcl,bIcl,mIcl⟩:=qIcl.go X G ["web", "places"] λ_ _ _ _ _ _ us hl=>by obtain ⟨_,_,rfl⟩:=Wt hl;rfl
 obtain ⟨oc0,kV0,doc0,pm0,cd0,ct0,od0,an0,sl0,qa,qb,qc,qd⟩:=qRo;have FRo:=Zeg (st:=ZcD) qb qc qd;have bRo:Binds K _ ["web", "places", "closed"] []:=λs us X' hl=>match us,hl with | [_,_,_],_=>W.binds_K (fd:=W.fnOf "roads_of" "roads_of" (Jj ZcD) (G3 ZcD) (Ge ZcD) (.ref dT) kV0 doc0 pm0 an0 cd0 ct0) X' rfl dTl rfl rfl rfl
 have mRo:mg "roads_of" = some (.ref f20):=Ybx X G qa;obtain ⟨_,FCho,bCho,mCho⟩:=qCho.go X G ["web", "roads"] λ_ _ _ _ _ _ us hl=>by obtain ⟨_,_,rfl⟩:=Wt hl;rfl
 obtain ⟨_,FWal,bWal,mWal⟩:=qWal.go X G ["web", "start", "roads"] λ_ _ _ _ _ _ us hl=>by obtain ⟨_,_,_,rfl⟩:=Z6 hl;rfl
 obtain ⟨_,FCof,bCof,mCof⟩:=qCof.go X G ["web", "roads"] λ_ _ _ _ _ _ us hl=>by obtain ⟨_,_,rfl⟩:=Wt hl;rfl
 obtain ⟨_,FRr,bRr,mRr⟩:=qRr.go X G ["columns"] λ_ _ _ _ _ _ us hl=>by obtain ⟨_,rfl⟩:=Zda hl;rfl
 obtain ⟨_,FSg,bSg,mSg⟩:=qSg.go X G ["mark", "place"] λ_ _ _ _ _ _ us hl=>by obtain ⟨_,_,rfl⟩:=Wt hl;rfl
 obtain ⟨_,FWn,bWn,mWn⟩:=qWn.go X G ["marks", "row", "columns"] λ_ _ _ _ _ _ us hl=>by obtain ⟨_,_,_,rfl⟩:=Z6 hl;rfl
 obtain ⟨_,FWf,bWf,mWf⟩:=qWf.go X G ["rows", "columns", "roads"] λ_ _ _ _ _ _ us hl=>by obtain ⟨_,_,_,rfl⟩:=Z6 hl;rfl
 obtain ⟨_,FIc,bIc,mIc⟩:=qIc.go X G ["road", "words", "columns"] λ_ _ _ _ _ _ us hl=>by obtain ⟨_,_,_,rfl⟩:=Z6 hl;rfl
 obtain ⟨_,FSw,bSw,mSw⟩:=qSw.go X G ["rows", "columns", "words"] λ_ _ _ _ _ _ us hl=>by obtain ⟨_,_,_,rfl⟩:=Z6 hl;rfl
 obtain ⟨_,FCa,bCa,mCa⟩:=qCa.go X G ["script", "k"] λ_ _ _ _ _ _ us hl=>by obtain ⟨_,_,rfl⟩:=Wt hl;rfl
 obtain ⟨_,FMi,bMi,mMi⟩:=qMi.go X G ["cell", "k"] λ_ _ _ _ _ _ us hl=>by obtain ⟨_,_,rfl⟩:=Wt hl;rfl
 obtain ⟨_,FNum,bNum,mNum⟩:=qNum.go X G ["rows", "columns"] λ_ _ _ _ _ _ us hl=>by obtain ⟨_,_,rfl⟩:=Wt hl;rfl
 obtain ⟨_,FBsd,bBsd,mBsd⟩:=qBsd.go X G ["numbers", "roads"] λ_ _ _ _ _ _ us hl=>by obtain ⟨_,_,rfl⟩:=Wt hl;rfl
 obtain ⟨_,FIsc,bIsc,mIsc⟩:=qIsc.go X G ["near", "many"] λ_ _ _ _ _ _ us hl=>by obtain ⟨_,_,rfl⟩:=Wt hl;rfl
 obtain ⟨_,FRou,bRou,mRou⟩:=qRou.go X G ["numbers", "face"] λ_ _ _ _ _ _ us hl=>by obtain ⟨_,_,rfl⟩:=Wt hl;rfl
 obtain ⟨_,FDrw,bDrw,mDrw⟩:=qDrw.go X G ["numbers", "rows", "columns", "cells"] λ_ _ _ _ _ _ us hl=>by obtain ⟨_,_,_,_,rfl⟩:=Zhb hl;rfl
 obtain ⟨_,FEnd,bEnd,mEnd⟩:=qEnd.go X G ["near", "place", "i"] λ_ _ _ _ _ _ us hl=>by obtain ⟨_,_,_,rfl⟩:=Z6 hl;rfl
 obtain ⟨_,FLwd,bLwd,mLwd⟩:=qLwd.go X G ["numbers", "rows", "columns", "roads"] λ_ _ _ _ _ _ us hl=>by obtain ⟨_,_,_,_,rfl⟩:=Zhb hl;rfl
 have FL:=Z7 (st:=ZbM) lL cL kL;refine ⟨W.fnOf "law" "law" (Jj ZbM) (G3 ZbM) (Ge ZbM) .none kV dc pm an cd ct,λs v=>.of_eq rfl,λbase _ _=>?_⟩;have GCa:=Zgz (P:=l.prog) (w:=w) (base:=base) FCa (Yap X G nlen);have GMi:=Zia (P:=l.prog) (w:=w) (base:=base) (mg:=mg) FMi;have GCp:=Zgq (P:=l.prog) (w:=w) (base:=base) FCp FIp bIp mIp (Ybx X G gP) xP;have GBe:=Zgs (P:=l.prog) (w:=w) (base:=base) FBe FCp bCp mCp GCp (Yap X G nsorted);have GGo:=Zgh (P:=l.prog) (w:=w) (base:=base) FGo FNby bNby mNby FSow bSow mSow (Yap X G nenumerate) (Yap X G nlist) (Yap X G nzip) (Yap X G nall) (Yap X G nset) (Yap X G nlen);have GIcl:=Zgl (P:=l.prog) (w:=w) (base:=base) FIcl FGo bGo mGo GGo (Yap X G nlen) (Yap X G nmin);have GRo:=Zgo (P:=l.prog) (w:=w) (base:=base) FRo FNby bNby mNby FSow bSow mSow (Yap X G nenumerate) (Yap X G nlist) (Yap X G nzip) (Yap X G nsorted);have GWal:=Zgu (P:=l.prog) (w:=w) (base:=base) FWal FCho bCho mCho FBe bBe mBe GBe (Yap X G nenumerate) (Yap X G nmin) (Yap X G nmax);have GCof:=Zgx (P:=l.prog) (w:=w) (base:=base) FCof FCho bCho mCho FWal bWal mWal GWal FIcl bIcl mIcl GIcl FRo bRo mRo GRo (Yap X G nenumerate) (Yap X G nmin) (Ybx X G gN) xN;have GB0:=Zez (P:=l.prog) (w:=w) (base:=base) (mg:=mg) ["web", "place"] FBe;have GId:=ZhS (P:=l.prog) (w:=w) (base:=base) FId (Ybx X G gDONE);have GIl:=ZhU (P:=l.prog) (w:=w) (base:=base) FIl (Ybx X G gFIRST) (Ybx X G gSECOND);have GIf:=ZhV (P:=l.prog) (w:=w) (base:=base) FIf (Ybx X G gUSED) (Ybx X G gBARRED);have GIm:=ZhW (P:=l.prog) (w:=w) (base:=base) FIm (Ybx X G gFREE) (Ybx X G gBARRED);have GFe:=ZhX (P:=l.prog) (w:=w) (base:=base) FFe (Ybx X G gFREE);have GWr:=ZhY (P:=l.prog) (w:=w) (base:=base) FWr FId bId mId GId FIf bIf mIf GIf FFe bFe mFe GFe FIl bIl mIl GIl (Ybx X G gDONE) (Ybx X G gUSED) (Yap X G nlist) (Yap X G nany) (Yap X G ntuple);have GLb:=Zh0 (P:=l.prog) (w:=w) (base:=base) FLb FIl bIl mIl GIl FIm bIm mIm GIm (Ybx X G gFREE) (Yap X G nlist) (Yap X G nany) (Yap X G nall) (Yap X G ntuple);have GDe:=Zh1 (P:=l.prog) (w:=w) (base:=base) FDe FWr bWr mWr GWr FLb bLb mLb GLb;have GLr:=Zh2 (P:=l.prog) (w:=w) (base:=base) FLr (Yap X G nenumerate);have GSo:=Zh3 (P:=l.prog) (w:=w) (base:=base) FSo FLr bLr mLr GLr (Yap X G nenumerate);have GFm:=Zh4 (P:=l.prog) (w:=w) (base:=base) FFm FBe bBe mBe GB0 (Ybx X G gFREE) (Yap X G nall) (Yap X G ntuple);have GGr:=ZeE (P:=l.prog) (w:=w) (base:=base) FGr (Ybx X G gW) xW (Yap X G nrange);have GRr:=Zh7 (P:=l.prog) (w:=w) (base:=base) (mg:=mg) FRr;have GSg:=Zh8 (P:=l.prog) (w:=w) (base:=base) FSg (Ybx X G gFREE);have GWn:=Zh9 (P:=l.prog) (w:=w) (base:=base) FWn FSg bSg mSg GSg (Yap X G nrange);have GWf:=Zic (P:=l.prog) (w:=w) (base:=base) FWf FGr bGr mGr GGr FCof bCof mCof GCof FFm bFm mFm GFm FSo bSo mSo GSo FDe bDe mDe GDe FRr bRr mRr GRr FWn bWn mWn GWn (Yap X G nenumerate) (Yap X G ndivmod);have GIc:=Zid (P:=l.prog) (w:=w) (base:=base) FIc (Yap X G ndivmod) (Yap X G nlen);have GSw:=Zie (P:=l.prog) (w:=w) (base:=base) FSw FGr bGr mGr GGr FIc bIc mIc GIc FWf bWf mWf GWf (Yap X G nenumerate) (Yap X G nlen) (Ybx X G gN) xN;have GNum:=ZgG (P:=l.prog) (w:=w) (base:=base) FNum (Yap X G nrange) (Yap X G nlen);have GBsd:=ZgK (P:=l.prog) (w:=w) (base:=base) (mg:=mg) FBsd;have GIsc:=ZgR (P:=l.prog) (w:=w) (base:=base) FIsc (Yap X G nlen) (Yap X G nmin) (Yap X G nlist);have GRou:=ZgT (P:=l.prog) (w:=w) (base:=base) (mg:=mg) FRou;have GDrw:=ZgV (P:=l.prog) (w:=w) (base:=base) FDrw FRou bRou mRou GRou FBsd bBsd mBsd GBsd FIsc bIsc mIsc GIsc (Yap X G nrange) (Yap X G nlen) (Yap X G nsorted);have GEnd:=ZgN (P:=l.prog) (w:=w) (base:=base) (mg:=mg) FEnd;have GLwd:=ZgX (P:=l.prog) (w:=w) (base:=base) FLwd FBsd bBsd mBsd GBsd FEnd bEnd mEnd GEnd (Yap X G nrange) (Yap X G nint);exact Zg8 FL FCa bCa mCa GCa FMi bMi mMi GMi FNum bNum mNum GNum FDrw bDrw mDrw GDrw FLwd bLwd mLwd GLwd FWf bWf mWf GWf FSw bSw mSw GSw kib (Yap X G nlist) (Yap X G nisinstance) (Yap X G nbool) (Yap X G nenumerate)
theorem walk {l:W.OpenLaw}{q:Program}{B:List Str}{L:(Str->Option Value)->Heap->Prop}{G:World->Heap->Prop}{d:DefRec}{K:Params->W.Frag}(N:l.most=some 63)(D:d.params.defaults=[])(O:∀(w:World)(h:Heap),G w h->(K w.params).In h)(F:∀(w:World)(mg:Str->Option Value)(fa:Addr)(h:Heap),(K w.params).In h->h.Ns mainGlobals mg->mg d.name=some (.ref fa) ->
   ∃fd:FuncData,(∀(s:Shared)(u:Value),BindsTo s fd ⟨[u],[]⟩ [("script", u)])/\∀base:Heap,(K w.params).In base->base.Ns mainGlobals mg->GJ l.prog w (K w.params) mg base CX0 8 fa fd ["script"] (Zc3 (K w.params))) :
  W.WalkO q B L G l.row.toRowW d [] (λf vs=>PySem.call f vs):=
 L2.walk_of (n:=63) (k:=8) (x := "script") (CX:=λ_=>CX0) (sp:=λw=>Zc3 (K w.params)) N (by decide) D ⟨rfl,by decide,by decide⟩ O F (λ_ _ a ns U _ Y=>⟨a,ns,rfl,Y,U,λ_=>rfl⟩) λ_ _ _ _ _ z=>z
end M
open PySem PySem.W PyProof.Rows
local macro_rules
 | `(tactic| o_head $H)=>`(tactic| (
  refine @holds_open _ M.seenP M.loosely M.hookX (XL M.seenP []) _ (Hook.obs $H) (Hook.val $H) (Hook.says $H) _ _ 4390
   (@M.left_boot M.rowP M.seenP M.loosely M.hookX _ (Hook.obs $H) (Hook.val $H) 4390 ?b1 ?b2 ?b3 M.topC M.topA ?hl)
   (Hook.of $H) (Hook.keeps $H) ?h1 XL.keeps (by rfl) (by rfl) (by rfl) ?h5 ?h6 ?h7 ?h8 ?h9 ?hw ?hc
  (case h1=>exact λs e=>xl_of s (Bool.and_eq_true_iff.mp e).1)
  (case h5=>exact λs e=>recFacts_of (Bool.and_eq_true_iff.mp e).2)
  (case h6=>rfl)
  (case h7=>first | assumption | decide +kernel)
  (case h8=>decide +kernel)
  (case h9=>exact ⟨rfl,rfl,rfl,rfl,rfl,by decide +kernel⟩)
  (case b1=>kernel_rfl)
  (case b2=>decide)
  (case b3=>(intro s;kernel_rfl))
  (case hl=>(intro w os;unfold M.topOf;rw [W.Fast.te14082659384304107361,W.Fast.te14364793385576792824];kernel_rfl))))
set_option maxRecDepth 100000 in
set_option maxHeartbeats 0 in
theorem PySem.Challenge.cw_onceways_k71_words_of_a_closed_way_holds : PySem.Challenge.rw_onceways_k71_words_of_a_closed_way.Holds := by
 w_on;o_law;k_head;(case hw=>w_witness2)
 k_fill
 refine M.walk (l:=PySem.Challenge.rw_onceways_k71_words_of_a_closed_way) rfl rfl (λw h Y=>W.kIn_of Y) ?F
 case F=>
  intro w mg fa h KX G hmg
  refine' M.all_mk KX G hmg ?_ ?_ ?_ ?_ ?_ ?_ ?_ ?_ ?_ ?_ ?_ ?_ ?_ ?_ ?_ ?_ ?_ ?_ ?_ ?_ ?_ ?_ ?_ ?_ ?_ ?_ ?_ ?_ ?_ ?_ ?_ ?_ ?_ ?_ ?_ ?_ ?_ ?_ ?aL ?lL ?cL ?kL ?gN ?gP ?gW ?xN ?xP ?xW ?kib ?dTl ?gUSED ?gFREE ?gFIRST ?gSECOND ?gBARRED ?gDONE ?nrange ?nlist ?nlen ?nmin ?nmax ?nsorted ?nset ?nall ?nany ?nzip ?nenumerate ?ntuple ?ndivmod ?nint ?nisinstance ?nbool
  (case aL=>k_is)
  (case lL=>k_is)
  (case cL=>k_is)
  (case kL=>k_is)
  (case gN=>k_is)
  (case gP=>k_is)
  (case gW=>k_is)
  (case xN=>(unfold L2.ExcC;k_exc))
  (case xP=>(unfold L2.ExcC;k_exc))
  (case xW=>(unfold L2.ExcC;k_exc))
  (case kib=>kit_is)
  (case gUSED=>k_is)
  (case gFREE=>k_is)
  (case gFIRST=>k_is)
  (case gSECOND=>k_is)
  (case gBARRED=>k_is)
  (case gDONE=>k_is)
  (case nrange=>k_is)
  (case nlist=>k_is)
  (case nlen=>k_is)
  (case nmin=>k_is)
  (case nmax=>k_is)
  (case nsorted=>k_is)
  (case nset=>k_is)
  (case nall=>k_is)
  (case nany=>k_is)
  (case nzip=>k_is)
  (case nenumerate=>k_is)
  (case ntuple=>k_is)
  (case ndivmod=>k_is)
  (case nint=>k_is)
  (case nisinstance=>k_is)
  (case nbool=>k_is)
  any_goals first | exact L2.FX.mk (by k_is) (by k_is) (by k_is) (by k_is) | exact L2.FY.mk (by k_is) (by k_is) (by k_is) (by k_is)
  (case dTl=>k_is)
#print axioms PySem.Challenge.cw_onceways_k71_words_of_a_closed_way_holds
