import PyProof.Rows.All
import Wide.All
import OpenK.AllK
import Wide.FinOn
import Lean
import PyProof.EqAt
import PyProof.EqKinds
import PyProof.TupleCall
import PySem.Challenge.RW_hatsight_k80_two_desks
set_option Elab.async false
set_option linter.all false
set_option maxRecDepth 100000
set_option compiler.extract_closed false
open List (all_cons any_cons append_nil cons_append drop_zero ext_getElem filterMap_cons filter_sublist find?_cons forIn_cons getD_eq_getElem?_getD getElem?_drop getElem_idxOf getElem_inj getElem_take idxOf_cons length_append length_cons length_drop length_erase length_filter_le length_map length_nil length_pos_of_mem length_range length_replicate length_set length_take lookup_cons map_cons map_drop map_nil map_take mem_cons mem_cons_of_mem mem_cons_self mem_of_mem_drop nil_append nodup_append nodup_cons nodup_nil nodup_range not_mem_nil reverse_perm set_cons_succ set_cons_zero sum_cons take_append_drop take_length take_of_length_le take_sublist take_succ take_zero)
open Nat (eq_of_testBit_eq le_succ log2_lt lt_succ_of_lt lt_succ_self mod_eq_of_lt mod_lt not_lt_zero succ_le_succ testBit_and testBit_or testBit_two_pow toDigits zero_le zero_testBit)
open PySem.Heap (ExtBut SameBut get?_push_of_some get?_push_size get?_update_other get?_update_self lt_size)
open Option (bind_some getD_none isSome_map isSome_none isSome_some map_some)
open Array (getElem?_toList)
open Int (ediv_le_self emod_lt_of_pos emod_nonneg eq_ofNat_of_zero_le natAbs_natCast natCast_add natCast_emod natCast_nonneg toNat toNat_natCast)
open PySem.F (args_tuple_add_2 entry_tuple_add plainAttrs_list plainAttrs_str slot_list_index slot_str_join slot_str_split slot_tuple_add slot_tuple_index type_str_join type_str_split)
open PySem.W (KitX Looks binds_K callWith_K cellsFrom_some clsIn codeIn emptyDict excIn findIn findObj fnOf handedIn hasDictIn instObj isFn kIn_of keepIn kitOne lookIn looks_findIn looks_mroIn makesIn methodCall_KW methodObj mg_none_of mg_of mroIn notCls nsIn plainGet plainGet_of plainOver specialIn takerIn takesIn typeIn)
open PySem.SeqAt (EqAt list_indexAt shaped)
set_option maxHeartbeats 4000000
open PySem.W (Frag)
namespace L2
open PySem PySem.Spec PyProof.Rows
theorem cc:type_of% @List.getD_eq_getElem?_getD:=@List.getD_eq_getElem?_getD
theorem cv:type_of% @List.getElem?_eq_getElem:=@List.getElem?_eq_getElem
theorem di:type_of% @List.length_map:=@List.length_map
theorem dy:type_of% @PySem.wpAny_bind:=@PySem.wpAny_bind
theorem ea:type_of% @List.mem_singleton:=@List.mem_singleton
theorem ed:type_of% @PySem.Heap.get?_push_of_some:=@PySem.Heap.get?_push_of_some
theorem ef:type_of% @Nat.le_refl:=@Nat.le_refl
theorem ek:type_of% @decide_eq_true:=@decide_eq_true
theorem ey:type_of% @List.getElem?_map:=@List.getElem?_map
theorem eG:type_of% @decide_eq_false:=@decide_eq_false
theorem eR:type_of% @PySem.wpAny_pure:=@PySem.wpAny_pure
theorem fz:type_of% @List.length_append:=@List.length_append
theorem fA:type_of% @List.mem_cons_of_mem:=@List.mem_cons_of_mem
theorem fO:type_of% @List.mem_cons_self:=@List.mem_cons_self
theorem gc:type_of% @List.mem_of_getElem?:=@List.mem_of_getElem?
theorem gz:type_of% @List.mem_cons:=@List.mem_cons
theorem hI:type_of% @Bool.false_ne_true:=@Bool.false_ne_true
theorem hO:type_of% @List.map_append:=@List.map_append
theorem hU:type_of% @PySem.Heap.get?_push_size:=@PySem.Heap.get?_push_size
theorem h9:type_of% @Bool.and_eq_true:=@Bool.and_eq_true
theorem ih:type_of% @Nat.lt_of_lt_of_le:=@Nat.lt_of_lt_of_le
theorem j5:type_of% @List.size_toArray:=@List.size_toArray
theorem j6:type_of% @List.getElem?_eq_none:=@List.getElem?_eq_none
theorem j9:type_of% @List.mem_map:=@List.mem_map
theorem ka:type_of% @Nat.le_trans:=@Nat.le_trans
theorem kb:type_of% @List.mem_append:=@List.mem_append
theorem kc:type_of% @List.length_range:=@List.length_range
theorem kf:type_of% @List.all_eq_true:=@List.all_eq_true
theorem kJ:type_of% @List.map_map:=@List.map_map
theorem ls:type_of% @List.mem_range:=@List.mem_range
theorem mo:type_of% @PySem.F.slot_list_append:=@PySem.F.slot_list_append
theorem mv:type_of% @List.getElem?_eq_some_iff:=@List.getElem?_eq_some_iff
theorem nt:type_of% @Nat.ne_of_lt:=@Nat.ne_of_lt
theorem oo:type_of% @PySem.F.type_list_append:=@PySem.F.type_list_append
theorem ot:type_of% @Option.some.inj:=@Option.some.inj
theorem oD:type_of% @List.getElem_mem:=@List.getElem_mem
theorem o6:type_of% @decide_eq_true_eq:=@decide_eq_true_eq
theorem pb:type_of% @List.length_cons:=@List.length_cons
theorem pS:type_of% @List.map_cons:=@List.map_cons
theorem qE:type_of% @Bool.true_and:=@Bool.true_and
theorem qN:type_of% @List.length_take:=@List.length_take
theorem q5:type_of% @List.getElem?_range:=@List.getElem?_range
theorem q7:type_of% @Int.eq_ofNat_of_zero_le:=@Int.eq_ofNat_of_zero_le
theorem ri:type_of% @Nat.pow_le_pow_right:=@Nat.pow_le_pow_right
theorem ro:type_of% @PySem.boot_len:=@PySem.boot_len
theorem rr:type_of% @PySem.F.plainAttrs_list:=@PySem.F.plainAttrs_list
theorem r3:type_of% @Bool.false_and:=@Bool.false_and
theorem r4:type_of% @List.mem_append_right:=@List.mem_append_right
theorem sU:type_of% @List.append_assoc:=@List.append_assoc
theorem tz:type_of% @List.length_drop:=@List.length_drop
theorem tD:type_of% @Nat.testBit_eq_decide_div_mod_eq:=@Nat.testBit_eq_decide_div_mod_eq
theorem uu:type_of% @of_decide_eq_true:=@of_decide_eq_true
theorem u5:type_of% @List.mem_filter:=@List.mem_filter
theorem vr:type_of% @List.nodup_cons:=@List.nodup_cons
theorem wh:type_of% @PySem.wpAny_mono:=@PySem.wpAny_mono
theorem yx:type_of% @List.take_of_length_le:=@List.take_of_length_le
theorem zf:type_of% @List.filterMap_cons:=@List.filterMap_cons
theorem zk:type_of% @List.getElem?_append_right:=@List.getElem?_append_right
theorem zm:type_of% @Int.toNat_natCast:=@Int.toNat_natCast
theorem AC:type_of% @beq_eq_false_iff_ne:=@beq_eq_false_iff_ne
theorem A5:type_of% @List.ext_getElem?:=@List.ext_getElem?
theorem A7:type_of% @Classical.byContradiction:=@Classical.byContradiction
theorem C2:type_of% @PySem.F.called_set:=@PySem.F.called_set
theorem C4:type_of% @List.length_filter_le:=@List.length_filter_le
theorem C6:type_of% @List.idxOf_lt_length_iff:=@List.idxOf_lt_length_iff
theorem Da:type_of% @List.getElem_of_mem:=@List.getElem_of_mem
theorem Do:type_of% @PySem.wpAny_truthy_bool:=@PySem.wpAny_truthy_bool
theorem E9:type_of% @PySem.wpAny_callSpecial?_slot:=@PySem.wpAny_callSpecial?_slot
theorem Fk:type_of% @PySem.Heap.size_push:=@PySem.Heap.size_push
theorem FM:type_of% @Nat.lt_of_le_of_lt:=@Nat.lt_of_le_of_lt
theorem FS:type_of% @Nat.mul_le_mul_right:=@Nat.mul_le_mul_right
theorem F1:type_of% @Array.getElem?_eq_some_iff:=@Array.getElem?_eq_some_iff
theorem F2:type_of% @PySem.wpAny_call_entry:=@PySem.wpAny_call_entry
theorem F8:type_of% @List.getElem?_append_left:=@List.getElem?_append_left
theorem Gc:type_of% @PySem.mem_of_lookup:=@PySem.mem_of_lookup
theorem GE:type_of% @PySem.wpAny_newObj_type:=@PySem.wpAny_newObj_type
theorem GM:type_of% @List.filterMap_append:=@List.filterMap_append
theorem GT:type_of% @Nat.lt_irrefl:=@Nat.lt_irrefl
theorem IR:type_of% @PySem.F.plainAttrs_str:=@PySem.F.plainAttrs_str
theorem I1:type_of% @Nat.testBit_two_pow:=@Nat.testBit_two_pow
theorem I3:type_of% @List.range_succ:=@List.range_succ
theorem KB:type_of% @PySem.F.slot_dict_keyiterator_next:=@PySem.F.slot_dict_keyiterator_next
theorem KE:type_of% @PySem.Obj.data_mapFields:=@PySem.Obj.data_mapFields
theorem KF:type_of% @PySem.W.mg_none_of:=@PySem.W.mg_none_of
theorem KM:type_of% @PyProof.Rows.callWith_type1:=@PyProof.Rows.callWith_type1
theorem LI:type_of% @List.getElem?_set_self:=@List.getElem?_set_self
theorem L4:type_of% @congrArg:=@congrArg
theorem On:type_of% @List.all_map:=@List.all_map
theorem Os:type_of% @List.nodup_iff_pairwise_ne:=@List.nodup_iff_pairwise_ne
theorem O0:type_of% @List.length_pos_iff:=@List.length_pos_iff
theorem Pi:type_of% @PySem.wpAny_field:=@PySem.wpAny_field
theorem P3:type_of% @List.map_reverse:=@List.map_reverse
theorem Re:type_of% @List.cons.inj:=@List.cons.inj
theorem SC:type_of% @List.mem_append_left:=@List.mem_append_left
theorem SL:type_of% @List.lookup_cons:=@List.lookup_cons
theorem SZ:type_of% @List.take_length:=@List.take_length
theorem S4:type_of% @PySem.wpAny_typeNameOfWhole_keyiter:=@PySem.wpAny_typeNameOfWhole_keyiter
theorem TX:type_of% @PySem.wpAny_pyIter_list:=@PySem.wpAny_pyIter_list
theorem TY:type_of% @PySem.Heap.get?_update_other:=@PySem.Heap.get?_update_other
theorem TZ:type_of% @Bool.eq_iff_iff:=@Bool.eq_iff_iff
theorem T1:type_of% @Nat.two_pow_pos:=@Nat.two_pow_pos
theorem T2:type_of% @Nat.lt_trans:=@Nat.lt_trans
theorem T3:type_of% @List.idxOf_lt_length_of_mem:=@List.idxOf_lt_length_of_mem
theorem T5:type_of% @PySem.wpAny_holding:=@PySem.wpAny_holding
theorem T6:type_of% @Nat.eq_of_testBit_eq:=@Nat.eq_of_testBit_eq
theorem T7:type_of% @List.take_append_drop:=@List.take_append_drop
theorem T8:type_of% @PySem.wpAny_pyIter_tuple:=@PySem.wpAny_pyIter_tuple
theorem T9:type_of% @PySem.call_meets:=@PySem.call_meets
theorem Ua:type_of% @PySem.wpAny_seqItems:=@PySem.wpAny_seqItems
theorem Ub:type_of% @Nat.mod_two_eq_zero_or_one:=@Nat.mod_two_eq_zero_or_one
theorem Uc:type_of% @List.nodup_append:=@List.nodup_append
theorem Ud:type_of% @PySem.Obj.isFreed_of_fields:=@PySem.Obj.isFreed_of_fields
theorem Ue:type_of% @PySem.wpAny_passesOwn:=@PySem.wpAny_passesOwn
theorem Ug:type_of% @Bool.or_eq_true:=@Bool.or_eq_true
theorem Uh:type_of% @List.getElem?_set_ne:=@List.getElem?_set_ne
theorem Ui:type_of% @PySem.codeAny_mono:=@PySem.codeAny_mono
theorem Uj:type_of% @List.sum_cons:=@List.sum_cons
theorem Uk:type_of% @Nat.not_lt_zero:=@Nat.not_lt_zero
theorem Ul:type_of% @Nat.pow_lt_pow_right:=@Nat.pow_lt_pow_right
theorem Um:type_of% @List.append_nil:=@List.append_nil
theorem Uo:type_of% @List.getElem?_take_of_lt:=@List.getElem?_take_of_lt
theorem Up:type_of% @Nat.lt_succ_of_lt:=@Nat.lt_succ_of_lt
theorem Uq:type_of% @Int.mul_ediv_cancel_left:=@Int.mul_ediv_cancel_left
theorem Ur:type_of% @PySem.F.slot_str_join:=@PySem.F.slot_str_join
theorem Us:type_of% @Array.length_toList:=@Array.length_toList
theorem Ut:type_of% @List.length_replicate:=@List.length_replicate
theorem Uu:type_of% @beq_self_eq_true:=@beq_self_eq_true
theorem Uv:type_of% @PySem.wpAny_setField:=@PySem.wpAny_setField
theorem Uw:type_of% @Bool.and_false:=@Bool.and_false
theorem Ux:type_of% @PySem.F.slot_str_split:=@PySem.F.slot_str_split
theorem Uy:type_of% @Int.natAbs_natCast:=@Int.natAbs_natCast
theorem Uz:type_of% @Nat.ne_of_gt:=@Nat.ne_of_gt
theorem UA:type_of% @List.filter_append:=@List.filter_append
theorem UB:type_of% @List.map_drop:=@List.map_drop
theorem UC:type_of% @List.getElem_idxOf:=@List.getElem_idxOf
theorem UD:type_of% @Nat.lt_succ_self:=@Nat.lt_succ_self
theorem UE:type_of% @Int.natCast_emod:=@Int.natCast_emod
theorem UF:type_of% @List.any_eq_true:=@List.any_eq_true
theorem UG:type_of% @List.nodup_range:=@List.nodup_range
abbrev Key:=Sum Int Str
def lR:Key->Value->Bool
 | .inl k,v=>Value.isInt k v
 | .inr x,v=>Value.isStrOf x v
def Sj (w:World):Key->Int
 | .inl k=>hashInt k
 | .inr x=>hashStr w x
theorem bx:∀ {k:Key} {v:Value},lR k v=true->(∃ i t,k=Sum.inl i/\v=Value.int i t)∨(∃ x t,k=Sum.inr x/\v=Value.str x t)
 | .inl i,v,h=>by
  obtain⟨t,e⟩:=Value.isInt_shape (k:=i) (v:=v) h;exact .inl ⟨i,t,rfl,e⟩
 | .inr x,v,h=>by
  obtain⟨t,e⟩:=Value.isStrOf_shape (x:=x) (v:=v) h;exact .inr ⟨x,t,rfl,e⟩
theorem A8 (i:Int)(t:Tok):lR (.inl i) (.int i t)=true:=by simp[lR,Value.isInt]
theorem A9 (x:Str)(t:Tok):lR (.inr x) (.str x t)=true:=by simp[lR,Value.isStrOf]
theorem ME (a b:Int):decide ((Sum.inl a:Key)=Sum.inl b)=(a == b):=by
 by_cases e:a=b
 ·subst e;simp
 ·have h:¬ (Sum.inl a:Key)=Sum.inl b:=fun q=>e (Sum.inl.inj q);rw[eG h];exact(AC.mpr e).symm
theorem MF (a b:Str):decide ((Sum.inr a:Key)=Sum.inr b)=decide (a=b):=by
 by_cases e:a=b
 ·subst e;simp
 ·have h:¬ (Sum.inr a:Key)=Sum.inr b:=fun q=>e (Sum.inr.inj q);rw[eG h,eG e]
theorem MG (a:Int)(b:Str):decide ((Sum.inl a:Key)=Sum.inr b)=false:=eG (fun q=>nomatch q)
theorem MH (a:Str)(b:Int):decide ((Sum.inr a:Key)=Sum.inl b)=false:=eG (fun q=>nomatch q)
def bB (prog:Program)(w:World):PySem.KeyKind prog w Key where
 is:=lR
 hash:=Sj w
 inj:=fun v a b d hb=>by
  rcases bx d with ⟨i,t,rfl,rfl⟩ | ⟨x,t,rfl,rfl⟩
  ·rcases bx hb with ⟨j,u,rfl,e⟩ | ⟨y,u,rfl,e⟩
   ·injection e with c _;rw[c]
   ·exact nomatch e
  ·rcases bx hb with ⟨j,u,rfl,e⟩ | ⟨y,u,rfl,e⟩
   ·exact nomatch e
   ·injection e with c _;rw[c]
 byValue:=fun k v h=>by
  rcases bx h with ⟨i,t,rfl,rfl⟩ | ⟨x,t,rfl,rfl⟩<;>rfl
 pyHash:=fun hv h=>by
  rcases bx hv with ⟨i,t,rfl,rfl⟩ | ⟨x,t,rfl,rfl⟩
  ·exact wpAny_pyHash_int h
  ·exact wpAny_pyHash_str h
 eqBool:=fun hu hv h=>by
  rcases bx hu with ⟨i,t,rfl,rfl⟩ | ⟨x,t,rfl,rfl⟩
  ·rcases bx hv with ⟨j,u,rfl,rfl⟩ | ⟨y,u,rfl,rfl⟩
   ·rw[ME] at h;exact wpAny_eqBool_int h
   ·rw[MG] at h;exact SeqAt.EqAt.int_str i t y u _ _ _ _ h
  ·rcases bx hv with ⟨j,u,rfl,rfl⟩ | ⟨y,u,rfl,rfl⟩
   ·rw[MH] at h;exact SeqAt.EqAt.str_int x t j u _ _ _ _ h
   ·rw[MF] at h;exact wpAny_eqBool_str h
 «strs»:=fun k x t v h=>by
  rcases bx h with ⟨i,u,rfl,e⟩ | ⟨y,u,rfl,e⟩
  ·exact nomatch e
  ·injection e with c _
   subst c
   cases v<;>rfl
theorem uD (prog:Program)(w:World)(i:Int)(t:Tok):(bB prog w).is (.inl i) (.int i t)=true:=A8 i t
theorem bF (prog:Program)(w:World)(x:Str)(t:Tok):(bB prog w).is (.inr x) (.str x t)=true:=A9 x t
inductive V where
 | br | bl (b:Bool) | int (i:Int) | str (x:Str) | Dc (b:Array UInt8) | Si (b:UInt64) | ref (a:Addr) | ty (n:String)
 deriving DecidableEq
def RelV:V->Value->Prop
 | .br,u=>u=Value.none
 | .bl b,u=>u=Value.bool b
 | .int i,u=>∃ t,u=Value.int i t
 | .str x,u=>∃ t,u=Value.str x t
 | .Dc b,u=>∃ t,u=Value.bytes b t
 | .Si b,u=>∃ t,u=Value.float b t
 | .ref a,u=>u=Value.ref a
 | .ty n,u=>u=Value.type n
abbrev Vals:List V->List Value->Prop:=Paired RelV
theorem Vals.length {xs:List V}{us:List Value}(r:Vals xs us):xs.length=us.length:=Paired.length r
theorem Vals.get:∀ {xs:List V} {us:List Value} {i:Nat} {x:V},Vals xs us->xs[i]?=some x->∃ u,us[i]?=some u/\RelV x u
 | _,_,_,_,.nil,e=>by simp at e
 | _,_,0,_,.cons r _,e=>by simp at e;subst e;exact⟨_,rfl,r⟩
 | _,_,i+1,x,.cons _ t,e=>by
  obtain⟨u,h1,a⟩:=Vals.get (i:=i) (x:=x) t (by simpa using e)
  exact⟨u,by simpa using h1,a⟩
theorem Vals.set {x:V}{u:Value}(r:RelV x u):∀ {xs:List V} {us:List Value} (i:Nat),Vals xs us->Vals (xs.set i x) (us.set i u)
 | _,_,_,.nil=>.nil
 | _,_,0,.cons _ t=>.cons r t
 | _,_,i+1,.cons q t=>.cons q (Vals.set r i t)
theorem Vals.append:∀ {xs ys:List V} {us ws:List Value},Vals xs us->Vals ys ws->Vals (xs++ys) (us++ws)
 | _,_,_,_,.nil,s=>s
 | _,_,_,_,.cons r t,s=>.cons r (Vals.append t s)
theorem Vals.take:∀ {xs:List V} {us:List Value} (n:Nat),Vals xs us->Vals (xs.take n) (us.take n)
 | _,_,0,_=>.nil
 | _,_,_+1,.nil=>.nil
 | _,_,n+1,.cons r t=>.cons r (Vals.take n t)
theorem Vals.drop:∀ {xs:List V} {us:List Value} (n:Nat),Vals xs us->Vals (xs.drop n) (us.drop n)
 | _,_,0,r=>r
 | _,_,_+1,.nil=>.nil
 | _,_,n+1,.cons _ t=>Vals.drop n t
def g6:Option V->Option Value->Prop
 | some v,some u=>RelV v u
 | none,none=>True
 | _,_=>False
variable {κ:Type}
def KV:List (κ × V)->List (κ × Value)->Prop:=Paired fun (p:κ × V) (q:κ × Value)=>p.1=q.1/\RelV p.2 q.2
def kV:Key->V
 | .inl i=>.int i
 | .inr x=>.str x
inductive HO where
 | lst (xs:List V)
 | tup (xs:List V)
 | dK (kvs:List (Key × V)) | dT (kvs:List (List Key × V))
 | set (S:Int->Bool) (n:Nat)
 | ins (C dx:Addr) (fs:List (Str × V))
 | own (x:Addr)
 | xd (fs:List (Str × V))
 | met (f x:Addr)
 | HK (lo hi:Int)
 | fe (o:Obj) (u:HO)
 | MC (ps:Array Value)
 | ext (φ:Heap->Prop)
abbrev Hp:=Addr->Option HO
def upd (H:Hp)(a:Addr)(o:HO):Hp:=fun b=>if b=a then some o else H b
variable {H:Hp}{a:Addr}{o:HO}
theorem ag:upd H a o a=some o:=by unfold upd;rw[if_pos rfl]
variable {b:Addr}
theorem aq (h:b≠a):upd H a o b=H b:=by unfold upd;rw[if_neg h]
variable {u:HO}
theorem HM:upd (upd H a o) a u=upd H a u:=by
 funext b;unfold upd;split<;>rfl
theorem cF (h:H a=some o)(h':H b=some u)(d:o≠u):a≠b:=by
 intro e;subst e;rw[h] at h';exact d (ot h')
theorem az (h:H a=some o)(h':H b=none):a≠b:=by
 intro e;subst e;rw[h] at h';cases h'
section
variable (P:Program)(w:World)
def bz (H:Hp)(h:Heap)(a:Addr):HO->Prop
 | .lst c=>c.length<=sizeLine/\∃ (its:List Value) (n:Nat),Vals c its/\h.get? a=some {cls:=.type "list",data:=.seq its.toArray n}
 | .tup c=>c.length<=sizeLine/\∃ its:List Value,Vals c its/\IsTup h a its.toArray
 | .dK b=>b.length<=sizeLine/\(a == sysModules)=false/\∃ vs,KV b vs/\h.DictOf (bB P w) a vs
 | .dT b=>b.length<=sizeLine/\(a == sysModules)=false/\∃ c:List (List Key × Addr × Value),
   Paired (fun (p:List Key × V) (q:List Key × Addr × Value)=>p.1=q.1/\H q.2.1=some (.tup (p.1.map kV))/\RelV p.2 q.2.2) b c/\
   ∃ o es ep,h.get? a=some o/\o.ExactDict/\o.data=.dict es ep/\es.toList=c.map (entryOfKey (tupleKind (bB P w)))/\(c.map (·.1)).Nodup
 | .set S n=>h.SetOf (intKind P w) a S n
 | .ins C d fs=>H d=some (.own a)/\fs.length<=1000/\d≠a/\h.get? a=some (instObj C d)/\
   ∃ mA,h.Ns1 d mA/\(∀ f,g6 (fs.lookup f) (mA f))/\PySem.Within mA (fs.map (·.1))
 | .own _=>∃ o,h.get? a=some o
 | .xd fs=>∃ mA,h.Ns1 a mA/\∀ f,g6 (fs.lookup f) (mA f)
 | .HK g hi=>∃ t u v,h.get? a=some {cls:=.type "range",data:=.fields #[.int g t,.int hi u,.int 1 v]}
 | .fe o u=>h.get? a=some o/\bz H h a u
 | .MC e=>h.get? a=some {cls:=.none,data:=.fields e}
 | .met f x=>h.get? a=some (methodObj (.ref f) (.ref x))
 | .ext φ=>φ h/\(∃ o,h.get? a=some o)/\∀ h1 h2:Heap,φ h1->(∀ o,h1.get? a=some o->h2.get? a=some o)->φ h2
def gY (H:Hp)(h:Heap):Prop:=∀ a o,H a=some o->bz P w H h a o
end
variable {P:Program}{w:World}{h:Heap}
theorem bz.lt (x:bz P w H h a o):a<h.objs.size:=by
 cases o with
 | lst c=>obtain⟨_,_,_,_,e⟩:=x;exact lt_size e
 | tup c=>obtain⟨_,_,_,p⟩:=x;exact p.lt
 | dK b=>obtain⟨_,_,_,_,o,_,_,e,_⟩:=x;exact lt_size e
 | dT b=>obtain⟨_,_,_,_,o,_,_,e,_⟩:=x;exact lt_size e
 | set S n=>obtain⟨o,_,_,_,e,_⟩:=x;exact lt_size e
 | ins C d fs=>obtain⟨_,_,_,e,_⟩:=x;exact lt_size e
 | own y=>obtain⟨_,e⟩:=x;exact lt_size e
 | xd fs=>obtain⟨_,⟨_,_,_,e,_⟩,_⟩:=x;exact lt_size e
 | HK g hi=>obtain⟨_,_,_,e⟩:=x;exact lt_size e
 | fe ob u=>obtain⟨e,_⟩:=x;exact lt_size e
 | MC i=>exact lt_size (show h.get? a=some _ from x)
 | met f y=>exact lt_size (show h.get? a=some _ from x)
 | ext φ=>obtain⟨_,⟨_,e⟩,_⟩:=x;exact lt_size e
theorem Paired.MI {α β:Type}{F G:α->β->Prop}:∀ {l₁:List α} {l₂:List β},Paired F l₁ l₂->(∀ a b,F a b->G a b)->Paired G l₁ l₂
 | _,_,.nil,_=>.nil
 | _,_,.cons r t,f=>.cons (f _ _ r) (Paired.MI t f)
variable {H':Hp}{h':Heap}
theorem bz.kG (x:bz P w H h a o)(k:∀ b u,(b=a∨H b=some (.own a))->h.get? b=some u->h'.get? b=some u)
  (ho:∀ b,H b=some (.own a)->H' b=some (.own a)) (ht:∀ b xs,H b=some (.tup xs)->H' b=some (.tup xs)):bz P w H' h' a o:=by
 induction o with
 | lst xs=>obtain⟨z,j,n,r,e⟩:=x;exact⟨z,j,n,r,k _ _ (.inl rfl) e⟩
 | tup xs=>obtain⟨z,j,r,ob,e,c⟩:=x;exact⟨z,j,r,ob,k _ _ (.inl rfl) e,c⟩
 | dK s=>obtain⟨z,y,E,r,ob,g,i,e,c⟩:=x;exact⟨z,y,E,r,ob,g,i,k _ _ (.inl rfl) e,c⟩
 | dT s=>
  obtain⟨z,y,xs,r,ob,g,i,e,c⟩:=x;exact⟨z,y,xs,Paired.MI r fun p q z=>⟨z.1,ht _ _ z.2.1,z.2.2⟩,ob,g,i,k _ _ (.inl rfl) e,c⟩
 | set S n=>obtain⟨ob,g,i,t,e,c⟩:=x;exact⟨ob,g,i,t,k _ _ (.inl rfl) e,c⟩
 | ins C G fs=>
  obtain⟨d,z,ne,e,m,⟨l,g,i,D,c⟩,r⟩:=x;exact⟨ho _ d,z,ne,k _ _ (.inl rfl) e,m,⟨l,g,i,k _ _ (.inr d) D,c⟩,r⟩
 | own y=>obtain⟨ob,e⟩:=x;exact⟨ob,k _ _ (.inl rfl) e⟩
 | xd fs=>obtain⟨m,⟨l,g,i,e,c⟩,r⟩:=x;exact⟨m,⟨l,g,i,k _ _ (.inl rfl) e,c⟩,r⟩
 | HK I hi=>obtain⟨t,u,v,e⟩:=x;exact⟨t,u,v,k _ _ (.inl rfl) e⟩
 | fe ob u F=>obtain⟨e,q⟩:=x;exact⟨k _ _ (.inl rfl) e,F q⟩
 | MC B=>
  have e:h.get? a=some {cls:=.none,data:=.fields B}:=x;show h'.get? a=some {cls:=.none,data:=.fields B};exact k a _ (.inl rfl) e
 | met f y=>
  have e:h.get? a=some (methodObj (.ref f) (.ref y)):=x;show h'.get? a=some (methodObj (.ref f) (.ref y));exact k a _ (.inl rfl) e
 | ext φ=>obtain⟨p,⟨o,e⟩,A⟩:=x;exact⟨A _ _ p fun o q=>k _ _ (.inl rfl) q,⟨o,k _ _ (.inl rfl) e⟩,A⟩
theorem gY.lt (x:gY P w H h)(e:H a=some o):a<h.objs.size:=(x a o e).lt
theorem gY.fresh (x:gY P w H h)(e:h.objs.size<=a):H a=none:=by
 cases q:H a with
 | none=>rfl
 | some u=>exact absurd (ih (x.lt q) e) (GT _)
theorem gY.kept (x:gY P w H h)(k:∀ b u,h.get? b=some u->h'.get? b=some u):gY P w H h':=fun a o e=>
 (x a o e).kG (fun b u _ q=>k b u q) (fun _ q=>q) fun _ _ q=>q
theorem gY.laid (x:gY P w H h)(k:∀ b u,h.get? b=some u->h'.get? b=some u)(hp:h.objs.size<=a)(new:bz P w (upd H a o) h' a o):gY P w (upd H a o) h':=fun b u e=>by
 have hn:=x.fresh hp
 by_cases hb:b=a
 ·subst hb;rw[ag] at e;cases e;exact new
 ·rw[aq hb] at e;exact(x b u e).kG (fun c v _ q=>k c v q) (fun c q=>by rw[aq (az q hn)];exact q) fun c d q=>by rw[aq (az q hn)];exact q
def Rd (H:Hp)(a:Addr)(u:HO):Prop:=H a=some u∨∃ o,H a=some (.fe o u)
theorem Rd.ok (r:Rd H a u)(x:gY P w H h):bz P w H h a u:=by
 rcases r with r | ⟨o,r⟩
 ·exact x a u r
 ·obtain⟨_,q⟩:=x a _ r;exact q
def Pf:Option HO->Prop
 | some (.lst _)=>True
 | some (.dK _)=>True
 | some (.dT _)=>True
 | some (.set _ _)=>True
 | some (.ins _ _ _)=>True
 | some (.ext _)=>True
 | _=>False
variable {x e:Addr}{o':HO}
theorem gY.write (ok:gY P w H h)(mu:Pf (H x))(he:e=x∨H e=some (.own x))(k:∀ b u,b≠e->h.get? b=some u->h'.get? b=some u)(heo:∃ u,h'.get? e=some u)
  (new:bz P w (upd H x o') h' x o'):gY P w (upd H x o') h':=fun b u q=>by
 have d:∀ c y,H c=some (.own y)->c≠x:=fun c y r z=>by subst z;rw[r] at mu;exact mu
 have f:∀ c g,H c=some (.tup g)->c≠x:=fun c g r z=>by subst z;rw[r] at mu;exact mu
 by_cases hb:b=x
 ·subst hb;rw[ag] at q;cases q;exact new
 ·rw[aq hb] at q
  by_cases a:b=e
  ·have i:H b=some (.own x):=by
    rcases he with z | z
    ·exact absurd (a.trans z) hb
    ·rw[a];exact z
   rw[q] at i;cases i
   obtain⟨v,hv⟩:=heo;exact⟨v,by rw[a];exact hv⟩
  ·refine(ok b u q).kG (fun c v hc r=>k c v ?_ r) (fun c r=>by rw[aq (d c b r)];exact r) fun c g r=>by rw[aq (f c g r)];exact r
   rcases hc with rfl | hc
   ·exact a
   ·rintro rfl
    rcases he with z | z
    ·exact d c b hc z
    ·rw[hc] at z;cases z;exact hb rfl
structure Un (fs ex:List Addr)(H H':Hp)(h h':Heap):Prop where
 keep:∀ b o,h.get? b=some o->H b=none->b∉fs->b∉ex->h'.get? b=some o
 slot:∀ b o,h.get? b=some o->H b=none->b∈fs->b∉ex->∃ sl,h'.get? b=some {o with slots:=sl}
 free:∀ b o,h.get? b=some o->H b=none->b∉ex->H' b=none
 there:∀ b o,h.get? b=some o->b∉ex->∃ o',h'.get? b=some o'
 oS:∀ b xs,H b=some (.tup xs)->H' b=some (.tup xs)
 lP:∀ b o u,H b=some (.fe o u)->H' b=some (.fe o u)
 oR:∀ b ps,H b=some (.MC ps)->∃ more,H' b=some (.MC (ps++more))
variable {fs ex:List Addr}{H1:Hp}{h1:Heap}
theorem Un.any (u:Un fs ex H H1 h h1){ob:Obj}(q:h.get? b=some ob)(n:H b=none)(hx:b∉ex):∃ sl,h1.get? b=some {ob with slots:=sl}:=by
 by_cases hb:b∈fs
 ·exact u.slot b ob q n hb hx
 ·exact⟨ob.slots,u.keep b ob q n hb hx⟩
theorem Un.kept (k:∀ b u,h.get? b=some u->h'.get? b=some u):Un fs ex H H h h':=
 ⟨fun b ob q _ _ _=>k b ob q,fun b ob q _ _ _=>⟨ob.slots,k b ob q⟩,fun _ _ _ n _=>n,fun b ob q _=>⟨ob,k b ob q⟩,fun _ _ q=>q,fun _ _ _ q=>q,fun _ a q=>⟨#[],by rw[q];simp⟩⟩
theorem Un.refl:Un fs ex H H h h:=Un.kept fun _ _ q=>q
theorem Un.laid (k:∀ b u,h.get? b=some u->h'.get? b=some u)(hp:h.objs.size<=a)(hn:H a=none):Un fs ex H (upd H a o) h h' where
 keep:=fun b u q _ _ _=>k b u q
 slot:=fun b u q _ _ _=>⟨u.slots,k b u q⟩
 free:=fun b u q n _=>by rw[aq (nt (ih (lt_size q) hp))];exact n
 there:=fun b u q _=>⟨u,k b u q⟩
 oS:=fun b c q=>by rw[aq (az q hn)];exact q
 lP:=fun b u c q=>by rw[aq (az q hn)];exact q
 oR:=fun b d q=>⟨#[],by rw[aq (az q hn),q];simp⟩
theorem Un.write (mu:Pf (H x))(he:e=x∨H e=some (.own x))(k:∀ b u,b≠e->h.get? b=some u->h'.get? b=some u)(heo:∃ u,h'.get? e=some u):Un fs ex H (upd H x o) h h':=by
 have hx:∀ b,H b=none->b≠x:=fun b n z=>by subst z;rw[n] at mu;exact mu
 have hb:∀ b,H b=none->b≠e:=fun b n z=>by
  subst z
  rcases he with r | r
  ·exact hx b n r
  ·rw[n] at r;cases r
 have hm:∀ b u,H b=some u->¬ Pf (some u)->b≠x:=fun b u q c z=>by subst z;rw[q] at mu;exact c mu
 refine⟨fun b u q n _ _=>k b u (hb b n) q,fun b u q n _ _=>⟨u.slots,k b u (hb b n) q⟩,fun b u q n _=>by rw[aq (hx b n)];exact n,fun b u q _=>?_,
  fun b d q=>by rw[aq (hm b _ q fun z=>z)];exact q,fun b u d q=>by rw[aq (hm b _ q fun z=>z)];exact q,fun b f q=>⟨#[],by rw[aq (hm b _ q fun z=>z),q];simp⟩⟩
 by_cases a:b=e
 ·subst a;exact heo
 ·exact⟨u,k b u a q⟩
def R4 (h:Heap)(H:Hp):List Addr:=(List.range h.objs.size).filter fun a=>(H a).isSome
def rz (h:Heap)(H:Hp):Heap:=PySem.W.hideAll h (R4 h H)
theorem Ba (h:Heap)(H:Hp):(rz h H).objs.size=h.objs.size:=PySem.W.hideAll_size _ _
variable {o:Obj}
theorem De (e:h.get? b=some o)(n:H b=none):(rz h H).get? b=some o:=
 PySem.W.hideAll_get _ e fun hm=>by
  have q:(H b).isSome=true:=(u5.mp hm).2;rw[n] at q;simp at q
theorem HP (e:(rz h H).get? b=some o):h.get? b=some o/\H b=none:=by
 have a:h.get? b=some o:=PySem.W.of_hideAll (R4 h H) e;refine⟨a,?_⟩
 cases q:H b with
 | none=>rfl
 | some x=>
  have hm:b∈R4 h H:=u5.mpr ⟨ls.mpr (lt_size a),by simp[q]⟩
  have z:(rz h H).get? b=none:=PySem.W.hideAll_none (R4 h H) hm;rw[z] at e;cases e
structure Mod (K:Frag)(mg:Str->Option Value)(base:Heap):Prop where
 MD:K.In base
 glob:base.Ns mainGlobals mg
 blt:∃ mb,base.Ns builtinsNs mb/\∀ x:Str,x≠"__name__"->mb x=bootBuiltins x
 nolimit:base.NoLimit
structure Cx where
 prog:Program
 w:World
 K:Frag
 mg:Str->Option Value
 base:Heap
 A:Around
 N:List Str
 s₀:Shared
 H₀:Hp
 env:Env
 outer:List Env
 stack:List Env
 ex:List Addr
 fn:Str->Bool
 calm:Bool
 pn:List (Addr × Obj)
 xe:Value->Shared->Prop
def jb (l:List Env):List Addr:=l.filterMap (·.frame)
end L2
namespace L2
open PySem PySem.Spec PyProof.Rows
abbrev Cx.fs (X:Cx):List Addr:=jb X.outer
def R5 (sc:Scope)(x:Str):Prop:=sc.names.lookup x=some .local∨sc.names.lookup x=some .cell∨sc.names.lookup x=some .free
def Loc (sc:Scope)(x:Str):Prop:=sc.names.lookup x=some .local∨sc.names.lookup x=some .cell
def Look (env:Env)(h:Heap)(m:Str->Option Value)(x:Str)(u:Value):Prop:=
 (env.kindOf x=some .local/\m x=some u)∨((env.kindOf x=some .cell∨env.kindOf x=some .free)/\∃ c,env.cells.lookup x=some c/\h.IsCell c (some u))
structure Cx.Ok (X:Cx):Prop where
 mod:Mod X.K X.mg X.base
 kind:X.env.scope.kind=.function
 glob:X.env.globals=mainGlobals
 blt:X.env.builtins=builtinsNs
 above:X.s₀.heap.objs.size<=X.env.locals
 inj:∀ x y c,X.env.cells.lookup x=some c->X.env.cells.lookup y=some c->x=y
 has:∀ x,(X.env.kindOf x=some .cell∨X.env.kindOf x=some .free)->∃ c,X.env.cells.lookup x=some c
 MA:∀ x c,X.fn x=true->X.env.cells.lookup x=some c->X.s₀.heap.objs.size<=c
 hd:X.calm=true->X.A.handled=none
 frames:X.A.frames=some X.stack
 KY:X.stack=X.outer∨(X.stack=X.env::X.outer/\X.env.frame=some X.env.locals)
 OW:∀ b∈X.ex,b≠X.env.locals/\∀ x c,X.env.cells.lookup x=some c->c≠b
 bs:∀ b o,X.base.get? b=some o->X.s₀.heap.get? b=some o/\X.H₀ b=none
 Dd:X.base.objs.size<=X.s₀.heap.objs.size
 uf:∀ b o,X.base.get? b=some o->b∉X.ex
 wD:∀ b∈X.ex,b∉X.fs
 i6:X.s₀.heap.FunFrames X.base X.outer
 HH:∀ b∈X.fs,X.H₀ b=none
structure Inv (X:Cx)(pins:List (Addr × Obj))(σ:List (Option V))(H:Hp)(s:Shared):Prop where
 ok:X.Ok
 os:s.os=X.s₀.os
 bare:AllBare s.gens
 base:Un X.fs X.ex X.H₀ H X.s₀.heap s.heap
 loc:∃ m,s.heap.Ns X.env.locals m/\∀ (i:Nat) (x:Str) (v:V),X.N[i]?=some x->σ[i]?=some (some v)->R5 X.env.scope x->∃ u,RelV v u/\Look X.env s.heap m x u
 cell:∀ x c,X.env.cells.lookup x=some c->∃ v,s.heap.IsCell c v
 free:H X.env.locals=none
 fC:∀ x c,X.env.cells.lookup x=some c->H c=none
 pin:∀ p∈X.pn++pins,s.heap.get? p.1=some p.2/\H p.1=none/\p.1≠X.env.locals/\p.1∉X.fs/\∀ v,p.2.data≠.cell v
 bb:gY X.prog X.w H s.heap
 len:σ.length=X.N.length
variable {X:Cx}
theorem Cx.Ok.Sk (ok:X.Ok){b:Addr}{o:Obj}(e:X.base.get? b=some o):b∉X.fs:=fun hb=>by
 have:=(ok.i6.mem hb).1
 rw[e] at this;cases this
variable {pins:List (Addr × Obj)}{σ:List (Option V)}{H:Hp}{s:Shared}
theorem Inv.bs (I:Inv X pins σ H s):∀ b o,X.base.get? b=some o->s.heap.get? b=some o/\H b=none:=fun b o e=>
 ⟨I.base.keep b o (I.ok.bs b o e).1 (I.ok.bs b o e).2 (I.ok.Sk e) (I.ok.uf b o e),I.base.free b o (I.ok.bs b o e).1 (I.ok.bs b o e).2 (I.ok.uf b o e)⟩
theorem Inv.bk (I:Inv X pins σ H s):∀ b o,X.base.get? b=some o->s.heap.get? b=some o:=fun b o e=>(I.bs b o e).1
theorem Inv.mod (I:Inv X pins σ H s):Mod X.K X.mg X.base:=I.ok.mod
theorem Inv.pf (I:Inv X pins σ H s):X.K.In s.heap:=I.ok.mod.MD.keeps I.bk
theorem Inv.lt (I:Inv X pins σ H s):X.env.locals<s.heap.objs.size:=let ⟨_,hn,_⟩:=I.loc;hn.lt
theorem Inv.sz (I:Inv X pins σ H s):X.s₀.heap.objs.size<=s.heap.objs.size:=ka I.ok.above (Nat.le_of_lt I.lt)
theorem Inv.Sl (I:Inv X pins σ H s){a:Addr}(h:s.heap.objs.size<=a):a∉X.fs:=fun hb=>by
 obtain⟨_,o,b,_⟩:=I.ok.i6.mem hb;exact absurd (ih (lt_size b) (ka I.sz h)) (GT _)
theorem Inv.HQ (I:Inv X pins σ H s):∀ x c,X.env.cells.lookup x=some c->c≠X.env.locals:=fun x c e z=>by
 obtain⟨v,o,f,d⟩:=I.cell x c e;obtain⟨m,⟨h,g,i,b,a,_⟩,_⟩:=I.loc;rw[z,b] at f;cases f;rw[a] at d;cases d
theorem Inv.i6 (I:Inv X pins σ H s):s.heap.FunFrames X.base X.outer:=by
 have all:∀ (l:List Env),(∀ b∈jb l,b∈X.fs)->X.s₀.heap.FunFrames X.base l->s.heap.FunFrames X.base l:=by
  intro l
  induction l with
  | nil=>intro _ _;trivial
  | cons f r d=>
   intro hs j;obtain⟨hk,⟨L,o,c,hn,h,g⟩,i⟩:=j;have a:L∈X.fs:=hs L (by unfold jb;rw[zf,c];exact fO)
   obtain⟨m,e⟩:=I.base.slot L o h (I.ok.HH L a) a fun z=>I.ok.wD L z a;exact⟨hk,⟨L,_,c,hn,e,g⟩,d (fun b hb=>hs b (by unfold jb;rw[zf,c];exact fA _ hb)) i⟩
 exact all X.outer (fun _ hb=>hb) I.ok.i6
theorem Inv.stack (I:Inv X pins σ H s):s.heap.FunFrames X.base X.stack:=by
 rcases I.ok.KY with e | ⟨e,a⟩
 ·rw[e];exact I.i6
 ·rw[e];obtain⟨m,hn,_⟩:=I.loc;refine .cons (by rw[I.ok.kind];decide) a hn ?_ I.i6
  exact Heap.get?_none_of_le (ka I.ok.Dd I.ok.above)
theorem Inv.rA (I:Inv X pins σ H s):∀ b∈jb X.stack,b∈X.env.locals::X.fs:=fun b hb=>by
 rcases I.ok.KY with e | ⟨e,a⟩
 ·rw[e] at hb;exact fA _ hb
 ·rw[e] at hb;unfold jb at hb;rw[zf,a] at hb;exact hb
theorem Inv.mH (I:Inv X pins σ H s):∀ b∈jb X.stack,H b=none:=fun b hb=>by
 rcases gz.mp (I.rA b hb) with e | hb
 ·rw[e];exact I.free
 ·obtain⟨_,o,a,_⟩:=I.ok.i6.mem hb;exact I.base.free b o a (I.ok.HH b hb) fun z=>I.ok.wD b z hb
variable {H':Hp}{h':Heap}{g':Array GenState}{t':Nat}{d':Drawn}{ch:List Addr}
theorem Inv.step (I:Inv X pins σ H s)
  (hch:∀ b∈ch,(b∈X.ex∨X.s₀.heap.objs.size<=b)/\b≠X.env.locals/\(∀ x c,X.env.cells.lookup x=some c->c≠b)/\∀ p∈X.pn++pins,p.1≠b)
  (keep:∀ b o,b≠X.env.locals->b∉X.fs->b∉ch->s.heap.get? b=some o->H b=none->h'.get? b=some o)
  (slot:∀ b o,b≠X.env.locals->b∈X.fs->b∉ch->s.heap.get? b=some o->H b=none->∃ sl,h'.get? b=some {o with slots:=sl}) (free:∀ b o,b∉ch->s.heap.get? b=some o->H b=none->H' b=none)
  (there:∀ b o,b∉ch->s.heap.get? b=some o->∃ o',h'.get? b=some o')
  (oS:∀ b xs,H b=some (.tup xs)->H' b=some (.tup xs)) (lP:∀ b o u,H b=some (.fe o u)->H' b=some (.fe o u)) (oR:∀ b ps,H b=some (.MC ps)->∃ more,H' b=some (.MC (ps++more)))
  (ns:∀ m,s.heap.Ns X.env.locals m->h'.Ns X.env.locals m) (bb:gY X.prog X.w H' h') (hg:AllBare g') :
  Inv X pins σ H' {s with heap:=h',gens:=g',drawn:=d',toks:=t'}:=by
 have t:∀ b o,X.s₀.heap.get? b=some o->b≠X.env.locals:=fun b o e=>nt (ih (lt_size e) I.ok.above);have g:∀ b o,X.s₀.heap.get? b=some o->b∉X.ex->b∉ch:=fun b o e hx hb=>by
  rcases(hch b hb).1 with z | z
  ·exact hx z
  ·exact absurd (ih (lt_size e) z) (GT _)
 have f:∀ x c,X.env.cells.lookup x=some c->∀ v,s.heap.IsCell c v->h'.IsCell c v:=fun x c e v ⟨o,j,A⟩=>by
  have a:c∉ch:=fun z=>(hch c z).2.2.1 x c e rfl
  by_cases hc:c∈X.fs
  ·obtain⟨sl,q⟩:=slot c o (I.HQ x c e) hc a j (I.fC x c e);exact⟨_,q,A⟩
  ·exact⟨o,keep c o (I.HQ x c e) hc a j (I.fC x c e),A⟩
 refine⟨I.ok,I.os,hg,⟨fun b o e n hb hx=>?_,fun b o e n hb hx=>?_,fun b o e n hx=>?_,fun b o e hx=>?_,fun b xs e=>oS b xs (I.base.oS b xs e),fun b o xs e=>lP b o xs (I.base.lP b o xs e),fun b ps e=>?_⟩,?_,fun x c e=>?_,?_,fun x c e=>?_,fun p C=>?_,bb,I.len⟩
 ·exact keep b o (t b o e) hb (g b o e hx) (I.base.keep b o e n hb hx) (I.base.free b o e n hx)
 ·obtain⟨sl,h⟩:=I.base.slot b o e n hb hx;obtain⟨B,y⟩:=slot b _ (t b o e) hb (g b o e hx) h (I.base.free b o e n hx);exact⟨B,y⟩
 ·obtain⟨o',h⟩:=I.base.there b o e hx;exact free b o' (g b o e hx) h (I.base.free b o e n hx)
 ·obtain⟨o',h⟩:=I.base.there b o e hx;exact there b o' (g b o e hx) h
 ·obtain⟨F,h⟩:=I.base.oR b ps e;obtain⟨G,y⟩:=oR b _ h;exact⟨F++G,by rw[y,Array.append_assoc]⟩
 ·obtain⟨m,hn,J⟩:=I.loc;refine⟨m,ns m hn,fun i x v h y E=>?_⟩;obtain⟨u,r,l⟩:=J i x v h y E;refine⟨u,r,?_⟩
  rcases l with l | ⟨k,c,e,z⟩
  ·exact .inl l
  ·exact .inr ⟨k,c,e,f x c e _ z⟩
 ·obtain⟨v,z⟩:=I.cell x c e;exact⟨v,f x c e v z⟩
 ·obtain⟨m,⟨o,_,_,j,_⟩,_⟩:=I.loc;exact free _ o (fun z=>(hch _ z).2.1 rfl) j I.free
 ·obtain⟨v,o,j,A⟩:=I.cell x c e;exact free c o (fun z=>(hch c z).2.2.1 x c e rfl) j (I.fC x c e)
 ·obtain⟨e,n,ne,D,d⟩:=I.pin p C;have a:p.1∉ch:=fun z=>(hch p.1 z).2.2.2 p C rfl;exact⟨keep p.1 p.2 ne D a e n,free p.1 p.2 a e n,ne,D,d⟩
theorem Inv.un (I:Inv X pins σ H s)(u:Un X.fs [] H H' s.heap h')(bb:gY X.prog X.w H' h'):Inv X pins σ H' {s with heap:=h',toks:=t'}:=by
 obtain⟨m,⟨o,i,l,f,r⟩,_⟩:=id I.loc;obtain⟨j,g⟩:=u.any f I.free (by simp)
 exact I.step (g':=s.gens) (d':=s.drawn) (ch:=[]) (fun _ z=>nomatch z) (fun b o _ hb _ e n=>u.keep b o e n hb (by simp)) (fun b o _ hb _ e n=>u.slot b o e n hb (by simp)) (fun b o _ e n=>u.free b o e n (by simp)) (fun b o _ e=>u.there b o e (by simp)) u.oS u.lP u.oR (fun p hm=>by
  obtain⟨q,c,d,a,h⟩:=hm;rw[f] at a;cases a
  exact⟨_,c,d,g,h⟩) bb I.bare
theorem Inv.call (I:Inv X pins σ H s)(u:Un (jb X.stack) ch H H' s.heap h')(bb:gY X.prog X.w H' h')(hg:AllBare g')
  (hch:∀ b∈ch,(b∈X.ex∨X.s₀.heap.objs.size<=b)/\b≠X.env.locals/\(∀ x c,X.env.cells.lookup x=some c->c≠b)/\∀ p∈X.pn++pins,p.1≠b) :
  Inv X pins σ H' {s with heap:=h',gens:=g',drawn:=d',toks:=t'}:=by
 obtain⟨m,⟨o,j,q,h,r⟩,_⟩:=id I.loc;obtain⟨l,g⟩:=u.any h I.free fun z=>(hch _ z).2.1 rfl;exact I.step (ch:=ch) hch (fun b o g hb hc e n=>u.keep b o e n (fun z=>(gz.mp (I.rA b z)).elim g hb) hc) (fun b o _ _ hc e n=>u.any e n hc) (fun b o hc e n=>u.free b o e n hc) (fun b o hc e=>u.there b o e hc) u.oS u.lP u.oR (fun t hm=>by
  obtain⟨v,d,f,a,i⟩:=hm;rw[h] at a;cases a
  exact⟨_,d,f,g,i⟩) bb hg
variable {it:Addr}
theorem Inv.turned (I:Inv X pins σ H s)(k:∀ b o,b≠it->s.heap.get? b=some o->h'.get? b=some o)(hn:H it=none)(hL:it≠X.env.locals)
  (h1:it∈X.ex∨X.s₀.heap.objs.size<=it) (h2:∀ x c,X.env.cells.lookup x=some c->c≠it) (h3:∀ p∈X.pn++pins,p.1≠it):Inv X pins σ H {s with heap:=h',toks:=t'}:=by
 have a:∀ b u,H b=some u->b≠it:=fun b u e z=>by rw[z,hn] at e;cases e
 refine I.step (g':=s.gens) (d':=s.drawn) (ch:=[it]) (fun b hb=>?_) (fun b o _ _ hc e _=>k b o (fun z=>hc (by simp[z])) e) (fun b o _ _ hc e _=>⟨o.slots,k b o (fun z=>hc (by simp[z])) e⟩) (fun _ _ _ _ n=>n)
  (fun b o hc e=>⟨o,k b o (fun z=>hc (by simp[z])) e⟩) (fun _ _ e=>e) (fun _ _ _ e=>e) (fun b h e=>⟨#[],by rw[e];simp⟩) (fun m hm=>?_) (fun b u e=>?_) I.bare
 ·have e:b=it:=by simpa using hb
  subst e;exact⟨h1,hL,h2,h3⟩
 ·obtain⟨o,d,g,f,r⟩:=hm;exact⟨o,d,g,k _ o (Ne.symm hL) f,r⟩
 ·refine(I.bb b u e).kG (fun c v hc q=>k c v ?_ q) (fun _ q=>q) fun _ _ q=>q
  rcases hc with z | z
  ·rw[z];exact a b u e
  ·exact a c _ z
theorem Inv.tok (I:Inv X pins σ H s)(t:Nat):Inv X pins σ H {s with toks:=t}:=I.un (h':=s.heap) (t':=t) Un.refl I.bb
theorem Inv.kept {t':Nat}(I:Inv X pins σ H s)(k:∀ b u,s.heap.get? b=some u->h'.get? b=some u):Inv X pins σ H {s with heap:=h',toks:=t'}:=I.un (Un.kept k) (I.bb.kept k)
theorem Inv.laid {a:Addr}{o:HO}{t':Nat}(I:Inv X pins σ H s)(k:∀ b u,s.heap.get? b=some u->h'.get? b=some u)(hp:s.heap.objs.size<=a)(new:bz X.prog X.w (upd H a o) h' a o) :
  Inv X pins σ (upd H a o) {s with heap:=h',toks:=t'}:=I.un (Un.laid k hp (I.bb.fresh hp)) (I.bb.laid k hp new)
theorem Inv.write {x e:Addr}{o:HO}{t':Nat}(I:Inv X pins σ H s)(mu:Pf (H x))(he:e=x∨H e=some (.own x))(k:∀ b u,b≠e->s.heap.get? b=some u->h'.get? b=some u)(heo:∃ u,h'.get? e=some u)
  (new:bz X.prog X.w (upd H x o) h' x o):Inv X pins σ (upd H x o) {s with heap:=h',toks:=t'}:=I.un (Un.write mu he k heo) (I.bb.write mu he k heo new)
theorem Inv.zo {pins':List (Addr × Obj)}(I:Inv X pins σ H s)(h:∀ p∈pins',s.heap.get? p.1=some p.2/\H p.1=none/\p.1≠X.env.locals/\p.1∉X.fs/\∀ v,p.2.data≠.cell v):Inv X pins' σ H s:=
 ⟨I.ok,I.os,I.bare,I.base,I.loc,I.cell,I.free,I.fC,fun p a=>(kb.mp a).elim (fun z=>I.pin p (SC _ z)) (h p),I.bb,I.len⟩
variable {N:List Str}{i:Nat}
theorem mZ (hN:N.Nodup){j:Nat}{x:Str}(a:N[i]?=some x)(b:N[j]?=some x):i=j:=by
 obtain⟨h1,d⟩:=mv.mp a;obtain⟨e,c⟩:=mv.mp b;exact(getElem_inj hN).mp (d.trans c.symm)
variable {u:Value}{M:Model}{A:Around}{E:Value->Shared->Prop}{v:V}{Q:Unit->Shared->Prop}
theorem qc {x:Str}(I:Inv X pins σ H s)(hN:X.N.Nodup)(hi:X.N[i]?=some x)(hx:Loc X.env.scope x)(r:RelV v u)
  (h:∀ s',Inv X pins (σ.set i (some v)) H s'->(∃ a,SameBut a s.heap s'.heap/\(a=X.env.locals∨X.env.cells.lookup x=some a))->Q () s') (hf:X.fn x=true∨X.env.scope.names.lookup x=some .local:=by first | exact .inl rfl | exact .inr rfl | assumption):wpAny M A (storeName X.env x u) Q E s:=by
 obtain⟨m,hn,hl⟩:=id I.loc;have J:(X.env.scope.kind == .class||(X.env.scope.kind == .module&&X.env.locals != X.env.globals))=false:=by rw[I.ok.kind];rfl
 have O:i<σ.length:=by rw[I.len];exact(mv.mp hi).1
 have HQ:=I.HQ;have f:∀ {a:Addr} {C:Heap},(∃ o,s.heap.get? a=some o/\H a=none)->SameBut a s.heap C->gY X.prog X.w H C:=fun {a C} ha hs b ob e=>by
  obtain⟨_,_,l⟩:=ha;refine(I.bb b ob e).kG (fun c P hc q=>(hs.2 c ?_).trans q) (fun _ q=>q) fun _ _ q=>q;rintro rfl
  rcases hc with rfl | hc
  ·rw[l] at e;cases e
  ·rw[l] at hc;cases hc
 rcases hx with hk | hk
 ·refine wpAny_storeName_local hk hn (fun C U hs=>?_) J;obtain⟨oL,_,_,hoL,_⟩:=id hn;refine h _ ⟨I.ok,I.os,I.bare,⟨fun b o e n hb hx=>?_,fun b o e n hb hx=>?_,I.base.free,fun b o e hx=>?_,I.base.oS,I.base.lP,I.base.oR⟩,⟨_,U,fun j y Y g t e3=>?_⟩,fun y c e=>?_,I.free,I.fC,fun p S=>?_,f ⟨oL,hoL,I.free⟩ hs,by simpa using I.len⟩ ⟨_,hs,.inl rfl⟩
  ·exact(hs.2 b (nt (ih (lt_size e) I.ok.above))).trans (I.base.keep b o e n hb hx)
  ·obtain⟨T,g⟩:=I.base.slot b o e n hb hx;exact⟨T,(hs.2 b (nt (ih (lt_size e) I.ok.above))).trans g⟩
  ·obtain⟨Z,g⟩:=I.base.there b o e hx;exact⟨Z,(hs.2 b (nt (ih (lt_size e) I.ok.above))).trans g⟩
  ·by_cases hj:j=i
   ·subst hj;rw[hi] at g;cases g
    rw[LI O] at t
    cases t
    exact⟨u,r,.inl ⟨hk,by simp⟩⟩
   ·rw[Uh (Ne.symm hj)] at t;obtain⟨u',r',q⟩:=hl j y Y g t e3;refine⟨u',r',?_⟩
    rcases q with ⟨k,e⟩ | ⟨k,c,e,z⟩
    ·refine .inl ⟨k,?_⟩
     have:y≠x:=fun e=>hj (mZ hN g (e ▸ hi))
     simp[this,e]
    ·exact .inr ⟨k,c,e,z.sameBut hs (HQ y c e)⟩
  ·obtain⟨P,z⟩:=I.cell y c e;exact⟨P,z.sameBut hs (HQ y c e)⟩
  ·obtain⟨e,n,ne,W,d⟩:=I.pin p S;exact⟨(hs.2 p.1 ne).trans e,n,ne,W,d⟩
 ·have B:X.fn x=true:=by
   rcases hf with z | z
   ·exact z
   ·rw[z] at hk;cases hk
  obtain⟨c,hc⟩:=I.ok.has x (.inl hk);obtain⟨P,z⟩:=I.cell x c hc;refine wpAny_storeName_cell I.ok.kind hk hc z (fun C K hs=>?_);obtain⟨oc,F,G⟩:=id z;refine h {s with heap:=C} ⟨I.ok,I.os,I.bare,⟨fun b o e n hb hx=>?_,fun b o e n hb hx=>?_,I.base.free,fun b o e hx=>?_,I.base.oS,I.base.lP,I.base.oR⟩,⟨m,hn.sameBut hs (Ne.symm (HQ x c hc)),fun j y Y g t e3=>?_⟩,fun y R e=>?_,I.free,I.fC,fun p S=>?_,f ⟨oc,F,I.fC x c hc⟩ hs,by simpa using I.len⟩ ⟨c,hs,.inr hc⟩
  ·exact(hs.2 b (nt (ih (lt_size e) (I.ok.MA x c B hc)))).trans (I.base.keep b o e n hb hx)
  ·obtain⟨T,g⟩:=I.base.slot b o e n hb hx;exact⟨T,(hs.2 b (nt (ih (lt_size e) (I.ok.MA x c B hc)))).trans g⟩
  ·obtain⟨Z,g⟩:=I.base.there b o e hx;exact⟨Z,(hs.2 b (nt (ih (lt_size e) (I.ok.MA x c B hc)))).trans g⟩
  ·by_cases hj:j=i
   ·subst hj;rw[hi] at g;cases g
    rw[LI O] at t
    cases t
    exact⟨u,r,.inr ⟨.inl hk,c,hc,K⟩⟩
   ·rw[Uh (Ne.symm hj)] at t;obtain⟨u',r',q⟩:=hl j y Y g t e3;refine⟨u',r',?_⟩
    rcases q with q | ⟨k,R,e,z'⟩
    ·exact .inl q
    ·refine .inr ⟨k,R,e,z'.sameBut hs ?_⟩;rintro rfl;exact hj (mZ hN g (I.ok.inj _ _ _ e hc ▸ hi))
  ·by_cases D:R=c
   ·subst D;exact⟨_,K⟩
   ·obtain⟨w2,z2⟩:=I.cell y R e;exact⟨w2,z2.sameBut hs D⟩
  ·obtain⟨e,n,ne,W,d⟩:=I.pin p S;refine⟨(hs.2 p.1 ?_).trans e,n,ne,W,d⟩;intro q;rw[q,F] at e;have q':oc=p.2:=ot e;exact d P (by rw[<-q'];exact G)
theorem jI {x:Str}(I:Inv X pins σ H s)(hN:X.N.Nodup)(hi:X.N[i]?=some x)(hx:Loc X.env.scope x)(r:RelV v u)
  (h:∀ s',Inv X pins (σ.set i (some v)) H s'->Q () s') (hf:X.fn x=true∨X.env.scope.names.lookup x=some .local:=by first | exact .inl rfl | exact .inr rfl | assumption):wpAny M A (storeName X.env x u) Q E s:=
 qc I hN hi hx r (fun s' a _=>h s' a) hf
variable {s':Shared}
theorem Inv.uE (I:Inv X pins σ H s)(ho:s'.os=s.os)(u:Un (jb X.stack) ch H H' s.heap s'.heap)(bb:gY X.prog X.w H' s'.heap)(hg:AllBare s'.gens)
  (hch:∀ b∈ch,(b∈X.ex∨X.s₀.heap.objs.size<=b)/\b≠X.env.locals/\(∀ x c,X.env.cells.lookup x=some c->c≠b)/\∀ p∈X.pn++pins,p.1≠b):Inv X pins σ H' s':=by
 obtain⟨d,g',d',t',a⟩:=s';have e:a=s.os:=ho;subst e;exact I.call (g':=g') (t':=t') (d':=d') u bb hg hch
abbrev XK:=Value->Option Addr->Hp->Prop
abbrev St:=List (Option V)
abbrev VK:=V->Hp->Prop
abbrev TE:=St->Hp->VK->Prop
abbrev TT:=St->Hp->(Bool->Hp->Prop)->Prop
abbrev TA:=St->Hp->(List V->Hp->Prop)->Prop
structure Ends where
 nx:St->Hp->Prop
 rt:VK
 bk:St->Hp->Prop:=fun _ _=>False
 ct:St->Hp->Prop:=fun _ _=>False
abbrev TS:=Ends->St->Hp->Prop
def EP (X:Cx)(pins:List (Addr × Obj))(σ:St)(Q:VK)(u:Value)(s':Shared):Prop:=∃ v H',Inv X pins σ H' s'/\RelV v u/\Q v H'
def TP (X:Cx)(pins:List (Addr × Obj))(σ:St)(Q:Bool->Hp->Prop)(b:Bool)(s':Shared):Prop:=∃ H',Inv X pins σ H' s'/\Q b H'
def AP (X:Cx)(pins:List (Addr × Obj))(σ:St)(Q:List V->Hp->Prop)(us:List Value)(s':Shared):Prop:=∃ vs H',Inv X pins σ H' s'/\Vals vs us/\Q vs H'
def SP (X:Cx)(pins:List (Addr × Obj))(D:Ends)(f:Flow)(s':Shared):Prop:=
 match f with
 | .next=>∃ σ' H',Inv X pins σ' H' s'/\D.nx σ' H'
 | .brk=>∃ σ' H',Inv X pins σ' H' s'/\D.bk σ' H'
 | .cont=>∃ σ' H',Inv X pins σ' H' s'/\D.ct σ' H'
 | .ret u=>∃ v σ' H',Inv X pins σ' H' s'/\RelV v u/\D.rt v H'
def PE (X:Cx)(e:Expr)(t:TE):Prop:=
 ∀ (pins:List (Addr × Obj)) (s:Shared) (σ:St) (H:Hp) (Q:VK),Inv X pins σ H s->t σ H Q->wpAny (model X.prog X.w) X.A (eval e X.env) (EP X pins σ Q) X.xe s
def PT (X:Cx)(e:Expr)(t:TT):Prop:=
 ∀ (pins:List (Addr × Obj)) (s:Shared) (σ:St) (H:Hp) (Q:Bool->Hp->Prop),Inv X pins σ H s->t σ H Q->wpAny (model X.prog X.w) X.A (isTrue e X.env (eval e X.env)) (TP X pins σ Q) X.xe s
def PW (X:Cx)(e:Expr)(t:TT):Prop:=
 ∀ (whole:Sem Value) (pins:List (Addr × Obj)) (s:Shared) (σ:St) (H:Hp) (Q:Bool->Hp->Prop),Inv X pins σ H s->t σ H Q->wpAny (model X.prog X.w) X.A (isTrue e X.env whole) (TP X pins σ Q) X.xe s
variable {e:Expr}
theorem PW.pt {t:TT}(h:PW X e t):PT X e t:=h _
def PA (X:Cx)(es:List Expr)(t:TA):Prop:=
 ∀ (pos:Pos) (pins:List (Addr × Obj)) (s:Shared) (σ:St) (H:Hp) (Q:List V->Hp->Prop),Inv X pins σ H s->t σ H Q->wpAny (model X.prog X.w) X.A (spliced (backTo pos (starEach es X.env))) (AP X pins σ Q) X.xe s
def PS (X:Cx)(st:Stmt)(t:TS):Prop:=
 ∀ (pins:List (Addr × Obj)) (s:Shared) (σ:St) (H:Hp) (D:Ends),Inv X pins σ H s->t D σ H->wpAny (model X.prog X.w) X.A (exec st X.env) (SP X pins D) X.xe s
def w9 (X:Cx)(st:List Stmt)(t:TS):Prop:=
 ∀ (pins:List (Addr × Obj)) (s:Shared) (σ:St) (H:Hp) (D:Ends),Inv X pins σ H s->t D σ H->wpAny (model X.prog X.w) X.A (execs st X.env) (SP X pins D) X.xe s
variable {α:Type}
theorem bP {t:Sem α}{Q Q':α->Shared->Prop}(h:wpAny M A t Q E s)(hQ:∀ a s,Q a s->Q' a s):wpAny M A t Q' E s:=wh h hQ fun _ _ x=>x
def rC (i:Nat):TE:=fun σ H Q=>∃ v,σ[i]?=some (some v)/\Q v H
def tC (v:V):TE:=fun _ H Q=>Q v H
theorem MJ {x:Str}{pos:Pos}(hN:X.N[i]?=some x)(hv:R5 X.env.scope x)(hd:(x == ("__debug__":Str))=false:=by decide)(hcd:(x == ("__classdict__":Str))=false:=by decide):PE X (.Name x pos) (rC i):=by
 intro d s σ H Q I h;obtain⟨v,e,h⟩:=h;obtain⟨m,hn,f⟩:=I.loc;obtain⟨u,r,l⟩:=f i x v hN e hv;have b:EP X d σ Q u s:=⟨v,H,I,r,h⟩
 rcases l with ⟨hk,hm⟩ | ⟨hk,c,hc,a⟩
 ·exact wpAny_Name (wpAny_loadName_local I.ok.kind hk hn hm b) hd
 ·rcases hk with hk | hk
  ·exact wpAny_Name (wpAny_loadName_cell I.ok.kind hk hc a b) hd
  ·exact wpAny_Name (wpAny_loadName_free I.ok.kind hk hc a b hcd) hd
theorem kH {i j pos}:PE X (.Constant (.int i) j pos) (tC (.int i)):=fun _ _ _ H _ I h=>wpAny_Constant_int ⟨.int i,H,I.tok _,⟨_,rfl⟩,h⟩
theorem Pg {b j pos}:PE X (.Constant (.bool b) j pos) (tC (.bl b)):=fun _ _ _ H _ I h=>Constant_bool ⟨.bl b,H,I,rfl,h⟩
theorem MK {j pos}:PE X (.Constant .none j pos) (tC .br):=fun _ _ _ H _ I h=>Constant_none ⟨.br,H,I,rfl,h⟩
theorem Df {x j pos}:PE X (.Constant (.str x) j pos) (tC (.str x)):=fun _ _ _ H _ I h=>Calls.Constant_str ⟨.str x,H,I.tok _,⟨_,rfl⟩,h⟩
def Gl (X:Cx)(x:Str):Prop:=X.env.kindOf x=some .globalImplicit
variable {Q:Value->Shared->Prop}
theorem jJ {σ:St}{x:Str}{pos:Pos}(I:Inv X pins σ H s)(hg:Gl X x)(hm:X.mg x=some u)(h:Q u s)
  (hd:(x == ("__debug__":Str))=false:=by decide):wpAny (model X.prog X.w) X.A (eval (.Name x pos) X.env) Q E s:=
 Calls.Name_function_global I.ok.kind hg (Calls.loadGlobal_global (by rw[I.ok.glob];exact I.mod.glob.keeps I.bk) hm h) hd
theorem kK {σ:St}{x:Str}{pos:Pos}(I:Inv X pins σ H s)(hg:Gl X x)(hm:X.mg x=none)(hv:bootBuiltins x=some u)(h:Q u s)
  (hn:x≠"__name__":=by decide) (hd:(x == ("__debug__":Str))=false:=by decide):wpAny (model X.prog X.w) X.A (eval (.Name x pos) X.env) Q E s:=by
 obtain⟨mb,h1,a⟩:=I.mod.blt;exact Calls.Name_function_global I.ok.kind hg (Calls.loadGlobal_builtin (by rw[I.ok.glob];exact I.mod.glob.keeps I.bk) hm (by rw[I.ok.blt];exact h1.keeps I.bk) ((a x hn).trans hv) h) hd
theorem mI {x:Str}{pos:Pos}(hg:Gl X x)(hm:X.mg x=some u)(r:RelV v u)(hd:(x == ("__debug__":Str))=false:=by decide):PE X (.Name x pos) (tC v):=
 fun _ _ _ H _ I h=>jJ I hg hm ⟨v,H,I,r,h⟩ hd
def PC (X:Cx)(op:CmpOp)(a b:Expr)(t:TE):Prop:=
 ∀ (pins:List (Addr × Obj)) (s:Shared) (σ:St) (H:Hp) (Q:VK),Inv X pins σ H s->t σ H Q->
  wpAny (model X.prog X.w) X.A (eval a X.env) (fun v c=>wpAny (model X.prog X.w) X.A (eval b X.env) (fun u d=>wpAny (model X.prog X.w) X.A (compareOp op v u) (EP X pins σ Q) X.xe d) X.xe c) X.xe s
def tB (t:TE):TT:=fun σ H Q=>t σ H fun x H1=>∃ c,x=.bl c/\Q c H1
variable {a b:Expr}{pos:Pos}{t:TE}{op:CmpOp}
theorem ML (h:PC X op a b t)(h1:behindInMarks op b=false:=by first | exact nobehind _ (by decide) (by decide) | rfl):PE X (.Compare a [op] [b] pos) t:=fun c s σ H Q I d=>wpAny_Compare1 (h c s σ H Q I d) h1
theorem Dg (h:PC X op a b t)(h1:behindInMarks op b=false:=by first | exact nobehind _ (by decide) (by decide) | rfl):PT X (.Compare a [op] [b] pos) (tB t):=by
 intro e s σ H Q I i;refine wpAny_isTrue_Compare1 (bP (h e s σ H _ I i) fun v o h1=>bP h1 fun u m f=>bP f fun c n ⟨x,H1,l,j,g⟩=>?_) h1;obtain⟨d,rfl,q⟩:=g
 cases j
 exact Do ⟨H1,l,q⟩
theorem MM (h:PE X e t)(he:∀ whole,isTrue e X.env whole=(do let v<-whole;standAt e.pos;holding [v] (truthy v)):=by intro _;rfl):PT X e (tB t):=by
 intro a s σ H Q I c;refine isTrue_plain (bP (h a s σ H _ I c) fun v i ⟨x,H1,g,f,b⟩=>?_) (he _);obtain⟨d,rfl,q⟩:=b
 cases f
 exact Do ⟨H1,g,q⟩
def MN (t u:TT):TT:=fun σ H Q=>t σ H fun c H1=>if c=true then u σ H1 Q else Q false H1
def Sm (t u:TT):TT:=fun σ H Q=>t σ H fun c H1=>if c=true then Q true H1 else u σ H1 Q
def MO (t:TT):TT:=fun σ H Q=>t σ H fun c H1=>Q (!c) H1
variable {tA:TT}
theorem HR (ha:PT X a tA):PW X (.BoolOp .And [a] pos) tA:=by
 intro d b s σ H Q I h;refine isTrue_and (bP (ha b s σ H Q I h) fun c f e=>?_)
 cases c with
 | true=>exact isTrue_and_nil e
 | false=>exact e
theorem MP (ha:PT X a tA):PW X (.BoolOp .Or [a] pos) tA:=by
 intro d b s σ H Q I h;refine isTrue_or (bP (ha b s σ H Q I h) fun c f e=>?_)
 cases c with
 | false=>exact isTrue_or_nil e
 | true=>exact e
variable {tB':TT}{rest:List Expr}
theorem MR (ha:PT X a tA)(hb:PW X (.BoolOp .And (b::rest) pos) tB'):PW X (.BoolOp .And (a::b::rest) pos) (MN tA tB'):=by
 intro g d s σ H Q I h;refine isTrue_and (bP (ha d s σ H _ I h) fun c i ⟨H1,f,e⟩=>?_)
 cases c with
 | true=>exact hb g d i σ H1 Q f e
 | false=>exact⟨H1,f,e⟩
theorem Ph (ha:PT X a tA)(hb:PW X (.BoolOp .Or (b::rest) pos) tB'):PW X (.BoolOp .Or (a::b::rest) pos) (Sm tA tB'):=by
 intro g d s σ H Q I h;refine isTrue_or (bP (ha d s σ H _ I h) fun c i ⟨H1,f,e⟩=>?_)
 cases c with
 | true=>exact⟨H1,f,e⟩
 | false=>exact hb g d i σ H1 Q f e
theorem MS (ha:PT X a tA):PT X (.UnaryOp .Not a pos) (MO tA):=by
 intro b s σ H Q I h;exact isTrue_not (ha b s σ H (fun c H1=>Q (!c) H1) I h)
def Dh (ta tb:TE):TE:=fun σ H Q=>ta σ H fun x H1=>∃ c,x=.bl c/\if c=true then tb σ H1 Q else Q (.bl false) H1
def MT (ta tb:TE):TE:=fun σ H Q=>ta σ H fun x H1=>∃ c,x=.bl c/\if c=true then Q (.bl true) H1 else tb σ H1 Q
theorem MU {op}(h:PE X a t):PE X (.BoolOp op [a] pos) t:=fun b s σ H Q I c=>BoolOp_one (h b s σ H Q I c)
variable {ta tb:TE}
theorem MV (ha:PE X a ta)(hb:PE X (.BoolOp .And (b::rest) pos) tb):PE X (.BoolOp .And (a::b::rest) pos) (Dh ta tb):=by
 intro d s σ H Q I h;refine BoolOp_and (bP (ha d s σ H _ I h) fun v i ⟨x,H1,f,g,e⟩=>?_);obtain⟨c,rfl,e⟩:=e
 cases g
 refine Do ?_
 cases c with
 | true=>exact hb d i σ H1 Q f e
 | false=>exact⟨.bl false,H1,f,rfl,e⟩
theorem Pj (ha:PE X a ta)(hb:PE X (.BoolOp .Or (b::rest) pos) tb):PE X (.BoolOp .Or (a::b::rest) pos) (MT ta tb):=by
 intro d s σ H Q I h;refine BoolOp_or (bP (ha d s σ H _ I h) fun v i ⟨x,H1,f,g,e⟩=>?_);obtain⟨c,rfl,e⟩:=e
 cases g
 refine Do ?_
 cases c with
 | false=>exact hb d i σ H1 Q f e
 | true=>exact⟨.bl true,H1,f,rfl,e⟩
def Sn (t:TT)(ta tb:TE):TE:=fun σ H Q=>t σ H fun c H1=>if c=true then ta σ H1 Q else tb σ H1 Q
variable {c:Expr}
theorem Di (hc:PT X c tA)(ha:PE X a ta)(hb:PE X b tb):PE X (.IfExp c a b pos) (Sn tA ta tb):=by
 intro e s σ H Q I h;refine wpAny_IfExp (bP (hc e s σ H _ I h) fun d i ⟨H1,g,f⟩=>?_)
 cases d with
 | true=>exact ha e i σ H1 Q g f
 | false=>exact hb e i σ H1 Q g f
def aB (K:Frag)(H:Hp)(a:Addr)(xs:List V):Prop:=
 Rd H a (.lst xs)∨
  ∃ (o:Obj) (its:Array Value) (n:Nat),K.lookup a=some o/\o.cls=.type "list"/\o.dict=none/\o.data=.seq its n/\its.size<=sizeLine/\Vals xs its.toList
def aH (K:Frag)(H:Hp)(a:Addr)(xs:List V):Prop:=
 Rd H a (.tup xs)∨
  ∃ (o:Obj) (its:Array Value) (n:Nat),K.lookup a=some o/\o.cls=.type "tuple"/\o.data=.seq its n/\its.size<=sizeLine/\Vals xs its.toList
def So:Value->Option V
 | .none=>some .br
 | .bool b=>some (.bl b)
 | .int i _=>some (.int i)
 | .str x _=>some (.str x)
 | .bytes b _=>some (.Dc b)
 | .float b _=>some (.Si b)
 | .ref a=>some (.ref a)
 | .type n=>some (.ty n)
 | _=>none
theorem RelV.abs {x:V}(r:RelV x u):So u=some x:=by
 cases x with
 | br=>cases r;rfl
 | bl _=>cases r;rfl
 | int _=>obtain⟨t,rfl⟩:=r;rfl
 | str _=>obtain⟨t,rfl⟩:=r;rfl
 | Dc _=>obtain⟨t,rfl⟩:=r;rfl
 | Si _=>obtain⟨t,rfl⟩:=r;rfl
 | ref _=>cases r;rfl
 | ty _=>cases r;rfl
theorem RelV.inj {x y:V}{u:Value}(r:RelV x u)(q:RelV y u):x=y:=ot (r.abs.symm.trans q.abs)
theorem Vals.inj:∀ {xs ys:List V} {us:List Value},Vals xs us->Vals ys us->xs=ys
 | _,_,_,.nil,.nil=>rfl
 | _,_,_,.cons r t,.cons b a=>by rw[r.inj b,Vals.inj t a]
variable {a:Addr}{xs:List V}{K:Frag}
theorem aB.of (h:H a=some (.lst xs)):aB K H a xs:=.inl (.inl h)
theorem aH.of (h:H a=some (.tup xs)):aH K H a xs:=.inl (.inl h)
variable {σ:St}
theorem Inv.list (I:Inv X pins σ H s)(h:aB X.K H a xs):∃ its:List Value,Vals xs its/\PlainL s.heap a its.toArray/\xs.length<=sizeLine:=by
 rcases h with h | ⟨o,its,n,hk,hc,b,hs,hz,r⟩
 ·obtain⟨z,its,n,r,e⟩:=h.ok I.bb;exact⟨its,r,⟨_,n,e,rfl,rfl,rfl⟩,z⟩
 ·refine⟨its.toList,r,⟨o,n,I.pf a o hk,hc,b,by simpa using hs⟩,?_⟩
  have e:=r.length;simp only[Array.length_toList] at e
  omega
theorem Inv.tuple (I:Inv X pins σ H s)(h:aH X.K H a xs):∃ its:List Value,Vals xs its/\IsTup s.heap a its.toArray/\xs.length<=sizeLine:=by
 rcases h with h | ⟨o,its,n,hk,hc,hs,hz,r⟩
 ·obtain⟨z,its,r,p⟩:=h.ok I.bb;exact⟨its,r,p,z⟩
 ·refine⟨its.toList,r,⟨o,I.pf a o hk,hc,n,by simpa using hs⟩,?_⟩
  have e:=r.length;simp only[Array.length_toList] at e
  omega
variable {ys:List V}
theorem Inv.uF (I:Inv X pins σ H s)(h:aB X.K H a xs)(h':aB X.K H a ys):xs=ys:=by
 obtain⟨c,r,⟨o,n,e,_,_,d⟩,_⟩:=I.list h;obtain⟨b,i,⟨m,l,g,_,_,f⟩,_⟩:=I.list h';rw[e] at g;cases g
 rw[d] at f
 injection f with j _
 have:c=b:=by simpa using L4 Array.toList j
 subst this;exact r.inj i
theorem Inv.qd (I:Inv X pins σ H s)(h:aH X.K H a xs)(h':aH X.K H a ys):xs=ys:=by
 obtain⟨c,r,⟨o,e,_,n,d⟩,_⟩:=I.tuple h;obtain⟨b,i,⟨m,g,_,l,f⟩,_⟩:=I.tuple h';rw[e] at g;cases g
 rw[d] at f
 injection f with j _
 have:c=b:=by simpa using L4 Array.toList j
 subst this;exact r.inj i
abbrev Cx.ph (X:Cx)(E:Value->Shared->Prop):Cx:={X with xe:=E}
abbrev Cx.K3 (X:Cx):Cx:=X.ph fun _ _=>False
theorem Cx.Ok.ph {X:Cx}(ok:X.Ok)(E:Value->Shared->Prop):(X.ph E).Ok:=
 ⟨ok.mod,ok.kind,ok.glob,ok.blt,ok.above,ok.inj,ok.has,ok.MA,ok.hd,ok.frames,ok.KY,ok.OW,ok.bs,ok.Dd,ok.uf,ok.wD,ok.i6,ok.HH⟩
theorem Cx.Ok.g7 (ok:(X.ph E).Ok):X.Ok:=
 ⟨ok.mod,ok.kind,ok.glob,ok.blt,ok.above,ok.inj,ok.has,ok.MA,ok.hd,ok.frames,ok.KY,ok.OW,ok.bs,ok.Dd,ok.uf,ok.wD,ok.i6,ok.HH⟩
theorem Inv.ph (I:Inv X pins σ H s)(E:Value->Shared->Prop):Inv (X.ph E) pins σ H s:=⟨I.ok.ph E,I.os,I.bare,I.base,I.loc,I.cell,I.free,I.fC,I.pin,I.bb,I.len⟩
theorem Inv.g7 (I:Inv (X.ph E) pins σ H s):Inv X pins σ H s:=⟨I.ok.g7,I.os,I.bare,I.base,I.loc,I.cell,I.free,I.fC,I.pin,I.bb,I.len⟩
theorem SP.g7 {D:Ends}{f:Flow}{s':Shared}(h:SP (X.ph E) pins D f s'):SP X pins D f s':=by
 cases f with
 | next=>obtain⟨a,b,I,q⟩:=h;exact⟨a,b,I.g7,q⟩
 | brk=>obtain⟨a,b,I,q⟩:=h;exact⟨a,b,I.g7,q⟩
 | cont=>obtain⟨a,b,I,q⟩:=h;exact⟨a,b,I.g7,q⟩
 | ret u=>obtain⟨v,a,b,I,r,q⟩:=h;exact⟨v,a,b,I.g7,r,q⟩
theorem w9.K3 {st:List Stmt}{t:TS}(h:w9 X.K3 st t):w9 X st t:=fun a s σ H D I b=>
 wh (h a s σ H D (I.ph _) b) (fun _ _ q=>q.g7) fun _ _ z=>False.elim z
def Dj:TS:=fun D σ H=>D.nx σ H
def Bb (t u:TS):TS:=fun D σ H=>t {D with nx:=u D} σ H
theorem HS:w9 X [] Dj:=fun _ _ σ H _ I h=>wpAny_execs_nil ⟨σ,H,I,h⟩
variable {st:Stmt}{rest:List Stmt}{t u:TS}
theorem Dk (h1:PS X st t)(h2:w9 X rest u):w9 X (st::rest) (Bb t u):=by
 intro a s σ H D I h;refine wpAny_execs_cons (bP (h1 a s σ H {D with nx:=u D} I h) fun f d q=>?_)
 cases f with
 | next=>
  obtain⟨c,e,b,q⟩:=q;exact h2 a d c e D b q
 | ret v=>exact q
 | brk=>exact q
 | cont=>exact q
theorem HU (h1:PS X st t):w9 X [st] t:=by
 intro a s σ H D I h;refine wpAny_execs_cons (bP (h1 a s σ H D I h) fun f b q=>?_)
 cases f with
 | next=>exact wpAny_execs_nil q
 | ret v=>exact q
 | brk=>exact q
 | cont=>exact q
theorem Inv.quiet {σ:St}(I:Inv X pins σ H s):interactive X.env=false:=by simp[interactive,I.ok.kind]
def Dl (te:TE):TS:=fun D σ H=>te σ H fun _ H1=>D.nx σ H1
variable {te:TE}
theorem HV (he:PE X e te)(hs:swapsWith e none pos.line X.env=pure false:=by rfl):PS X (.Expr e pos) (Dl te):=by
 intro a s σ H D I h;exact wpAny_Expr_any (bP (he a s σ H _ I h) fun v f ⟨x,H1,c,d,b⟩=>⟨σ,H1,c,b⟩) I.quiet hs
def MW (te:TE):TS:=fun D σ H=>te σ H D.rt
theorem MX (he:PE X e te):PS X (.Return (some e) pos) (MW te):=by
 intro a s σ H D I h;exact wpAny_Return_some (bP (he a s σ H _ I h) fun v f ⟨x,H1,d,c,b⟩=>⟨x,σ,H1,d,c,b⟩)
def MY (c:TT)(t u:TS):TS:=fun D σ H=>c σ H fun b H1=>if b=true then t D σ H1 else u D σ H1
variable {tc:TT}
theorem Pk {a b:List Stmt}(hc:PT X c tc)(ha:w9 X a t)(hb:w9 X b u):PS X (.If c a b pos) (MY tc t u):=by
 intro e s σ H D I h;refine wpAny_If (bP (hc e s σ H _ I h) fun d i ⟨H1,g,f⟩=>?_)
 cases d with
 | true=>exact ha e i σ H1 D g f
 | false=>exact hb e i σ H1 D g f
abbrev TG:=V->St->Hp->(St->Hp->Prop)->Prop
abbrev zp:=List V->St->Hp->(St->Hp->Prop)->Prop
def PG (X:Cx)(target:Expr)(t:TG):Prop:=
 ∀ (pins:List (Addr × Obj)) (s:Shared) (σ:St) (H:Hp) (v:V) (u:Value) (Q:St->Hp->Prop),Inv X pins σ H s->RelV v u->t v σ H Q->
  wpAny (model X.prog X.w) X.A (assign target X.env u) (fun _ a=>∃ σ' H',Inv X pins σ' H' a/\Q σ' H') X.xe s
def O3 (X:Cx)(ts:List Expr)(t:zp):Prop:=
 ∀ (pins:List (Addr × Obj)) (s:Shared) (σ:St) (H:Hp) (vs:List V) (us:List Value) (Q:St->Hp->Prop),Inv X pins σ H s->Vals vs us->t vs σ H Q->
  wpAny (model X.prog X.w) X.A (assignInOrder ((assignEach ts X.env).map (·.2)) us) (fun _ a=>∃ σ' H',Inv X pins σ' H' a/\Q σ' H') X.xe s
abbrev Dm:=V->V->V->Hp->(Hp->Prop)->Prop
def MZ (X:Cx)(t:Dm):Prop:=
 ∀ (pins:List (Addr × Obj)) (s:Shared) (σ:St) (H:Hp) (o i v:V) (ov iv u:Value) (Q:Hp->Prop),Inv X pins σ H s->RelV o ov->RelV i iv->RelV v u->t o i v H Q->
  wpAny (model X.prog X.w) X.A (setItem ov iv u) (fun _ a=>∃ H',Inv X pins σ H' a/\Q H') X.xe s
def bA (i:Nat):TG:=fun v σ H Q=>Q (σ.set i (some v)) H
theorem HW {x:Str}(hN:X.N.Nodup)(hi:X.N[i]?=some x)(hx:Loc X.env.scope x)(hf:X.fn x=true∨X.env.scope.names.lookup x=some .local:=by first | exact .inl rfl | exact .inr rfl | assumption):PG X (.Name x pos) (bA i):=by
 intro a s σ H v u Q I r h;exact wpAny_assign_Name (jI I hN hi hx r (fun c b=>⟨_,H,b,h⟩) hf)
def m7:zp:=fun a σ H Q=>a=[]/\Q σ H
def dq (t:TG)(u:zp):zp:=fun a σ H Q=>∃ v r,a=v::r/\t v σ H fun b c=>u r b c Q
theorem HX:O3 X [] m7:=by
 intro a s σ H b c Q I r h;obtain⟨e,h⟩:=h;subst e
 cases r
 exact assignInOrder_nil ⟨σ,H,I,h⟩
variable {es:List Expr}
theorem Dn {t:TG}{u:zp}(h1:PG X e t)(h2:O3 X es u)
  (hs:(assignEach (e::es) X.env).map (·.2)=assign e X.env::(assignEach es X.env).map (·.2):=by rfl):O3 X (e::es) (dq t u):=by
 intro a s σ H j m Q I r h;obtain⟨v,l,b,h⟩:=h;subst b
 cases r with
 | cons r d=>
  rw[hs];refine assignInOrder_cons (bP (h1 a s σ H _ _ _ I r h) fun _ c ⟨g,H1,i,f⟩=>?_);exact h2 a c g H1 _ _ Q i d f
def m9 (K:Frag)(n:Nat)(t:zp):TG:=fun v σ H Q=>∃ a xs,v=.ref a/\aH K H a xs/\xs.length=n/\t xs σ H Q
theorem M4 {k:Nat}{t:zp}{n:Nat}(hc:X.calm=true)(h:O3 X es t)
  (hn:(assignEach es X.env).length=n:=by rfl) (hst:(assignEach es X.env).findIdx? (·.1)=none:=by rfl):PG X (.Tuple es k pos) (m9 X.K n t):=by
 intro c s σ H v u Q I r d;obtain⟨a,q,g,hq,j,d⟩:=d;subst g
 cases r
 obtain⟨i,f,m,hz⟩:=I.tuple hq;refine assign_Tuple_tuple (I.ok.hd hc) m (by simp[hn,<-j,f.length]) hst fun p hx=>?_
 have l:Inv X c σ H {s with heap:=p}:=I.kept (t':=s.toks) fun b o e=>hx b o (nt (lt_size e)) e;exact h c _ σ H q _ Q l (by simpa using f) d
def M5 (to ti:TE)(t:Dm):TG:=fun v σ H Q=>to σ H fun o H1=>ti σ H1 fun i b=>t o i v b fun a=>Q σ a
variable {to ti:TE}
theorem M6 {o i:Expr}{t:Dm}(ho:PE X o to)(hi:PE X i ti)(hs:MZ X t)
  (ha:∀ v,assign (.Subscript o i pos) X.env v=(do
   let ov<-holding [v] (eval o X.env)
   let iv<-holding [v,ov] (eval i X.env)
   standAt pos
   holding [v,ov,iv] (setItem ov iv v)
   release [v,ov,iv] []):=by intro _;rfl):PG X (.Subscript o i pos) (M5 to ti t):=by
 intro a s σ H v u Q I r h;rw[ha];refine dy (T5 (bP (ho a s σ H _ I h) fun ov g ⟨x,H1,e,m,l⟩=>?_));refine dy (T5 (bP (hi a g σ H1 _ e l) fun iv b ⟨y,d,q,p,n⟩=>?_));refine dy (wpAny_standAt (dy (T5 (bP (hs a b σ d x y v ov iv u _ q m p r n) fun _ w ⟨j,c,f⟩=>?_))));exact wpAny_release ⟨σ,j,c,f⟩
def rD (te:TE)(g:TG):TS:=fun D σ H=>te σ H fun x H1=>g x σ H1 D.nx
variable {tg:Expr}{g:TG}
theorem M7 (he:PE X e te)(hg:PG X tg g)(hs:swapsWithSole [tg] e pos.line X.env=pure false:=by rfl)(hw:swappedStores [tg] e X.env=pure none:=by rfl)
  (h1:(assignEach [tg] X.env).map (·.2)=[assign tg X.env]:=by rfl):PS X (.Assign [tg] e pos) (rD te g):=by
 intro a s σ H D I h;refine wpAny_Assign_stores (bP (he a s σ H _ I h) fun v f ⟨x,H1,d,c,b⟩=>?_) hs hw;rw[h1];exact bP (hg a f σ H1 x v _ d c b) fun _ i q=>q
variable {pos':Pos}
theorem M8 {x:Str}(hN:X.N.Nodup)(hi:X.N[i]?=some x)(hx:Loc X.env.scope x)(he:PE X e te)(hs:swapsWith e (some (.Name x pos')) pos.line X.env=pure false:=by rfl)(hf:X.fn x=true∨X.env.scope.names.lookup x=some .local:=by first | exact .inl rfl | exact .inr rfl | assumption) :
  PS X (.Assign [.Name x pos'] e pos) (rD te (bA i)):=by
 intro a s σ H D I h;refine wpAny_Assign_Name (bP (he a s σ H _ I h) fun v j ⟨y,H1,f,d,b⟩=>?_) hs;exact jI f hN hi hx d (fun g c=>⟨_,H1,c,b⟩) hf
def rE (c:TT)(tb:TS):TS:=fun D σ H=>∃ W:Nat->St->Hp->Prop,(∃ m,W m σ H)/\∀ m σ H,W m σ H->
 c σ H fun b H1=>if b=true then ∃ N:St->Hp->Prop,(∀ σ' H',N σ' H'->∃ m',m' < m/\W m' σ' H')/\tb {D with nx:=N,ct:=N,bk:=D.nx} σ H1 else D.nx σ H1
variable {tb:TS}{body:List Stmt}
theorem Dp (hp:PassesOwn (model X.prog X.w) X.A X.env X.xe)(hc:PT X c tc)(hb:w9 X body tb):PS X (.While c body [] pos) (rE tc tb):=by
 intro a s σ H D I h;obtain⟨W,⟨G,E⟩,d⟩:=h;refine wpAny_While (codeAny_whileLoop (fun n C=>∃ σ' H',Inv X a σ' H' C/\W n σ' H') ?_ G ⟨σ,H,I,E⟩);rintro n F ⟨l,H1,B,z⟩;refine Ue hp (bP (hc a F l H1 _ B (d n l H1 z)) fun b y ⟨t,u,j⟩=>?_)
 cases b with
 | true=>
  obtain⟨N,r,j⟩:=j;rw[if_pos rfl];refine Ue hp (bP (hb a y l t _ u j) fun f J i=>?_)
  cases f with
  | next=>
   obtain⟨g,e,p,o⟩:=i;obtain⟨q,hm,m⟩:=r g e o;exact⟨q,hm,g,e,p,m⟩
  | cont=>
   obtain⟨g,e,p,o⟩:=i;obtain⟨q,hm,m⟩:=r g e o;exact⟨q,hm,g,e,p,m⟩
  | brk=>exact i
  | ret v=>exact i
 | false=>
  rw[if_neg hI];exact wpAny_execs_nil ⟨l,t,u,j⟩
structure It where
 go:Nat->Hp->Prop
 yY:Nat->Hp->V->Hp->Prop
 stop:Nat->Hp->Prop
def jK (X:Cx)(pins:List (Addr × Obj))(H:Hp)(b:Addr):Prop:=
 H b=none/\b≠X.env.locals/\b∉X.fs/\(b∈X.ex∨X.s₀.heap.objs.size<=b)/\(∀ x c,X.env.cells.lookup x=some c->c≠b)/\∀ p∈X.pn++pins,p.1≠b
theorem Inv.uG {σ:St}{b:Addr}(I:Inv X pins σ H s)(hb:s.heap.objs.size<=b)(hn:H' b=none):jK X pins H' b:=by
 refine⟨hn,Uz (ih I.lt hb),I.Sl hb,.inr (ka I.sz hb),fun x c e z=>?_,fun p a z=>?_⟩
 ·obtain⟨v,q⟩:=I.cell x c e;exact absurd (ih q.lt (by rw[z];exact hb)) (GT _)
 ·exact absurd (ih (lt_size (I.pin p a).1) (by rw[z];exact hb)) (GT _)
structure Turn (P:Program)(w:World)(K:Frag)(tg:Expr)(J:It)(fp:List Addr)(it:Addr)(tn:Nat->Heap->Prop):Prop where
 mem:it∈fp
 obj:∀ i h,tn i h->∀ b∈fp,∃ o,h.get? b=some o/\∀ v,o.data≠.cell v
 keep:∀ i h h',tn i h->(∀ b∈fp,∀ o,h.get? b=some o->h'.get? b=some o)->tn i h'
 item:∀ (X:Cx),X.prog=P->X.w=w->X.K=K->X.calm=true->∀ (i:Nat) (pins:List (Addr × Obj)) (s:Shared) (σ:St) (H:Hp) (E:Value->Shared->Prop),Inv X pins σ H s->(∀ b∈fp,jK X pins H b)->tn i s.heap->J.go i H->
  wpAny (model P w) X.A (pyNext (.ref it)) (fun r s1=>∃ u,r=some u/\
   wpAny (model P w) X.A (letOwnedTupleGo tg (.ref it) u) (fun _ s2=>∃ x H',Inv X pins σ H' s2/\RelV x u/\J.yY i H x H'/\tn (i+1) s2.heap/\∀ b∈fp,H' b=none) E s1) E s
 done:∀ (X:Cx),X.prog=P->X.w=w->X.K=K->X.calm=true->∀ (i:Nat) (pins:List (Addr × Obj)) (s:Shared) (σ:St) (H:Hp) (E:Value->Shared->Prop),Inv X pins σ H s->(∀ b∈fp,jK X pins H b)->tn i s.heap->J.stop i H->
  wpAny (model P w) X.A (pyNext (.ref it)) (fun r s1=>r=none/\Inv X pins σ H s1) E s
 self:∀ (A:Around) (i:Nat) (s:Shared) (Q:Value->Shared->Prop) (E:Value->Shared->Prop),tn i s.heap->Q (.ref it) s->wpAny (model P w) A (pyIter (.ref it)) Q E s
abbrev TI:=St->Hp->(It->Hp->Prop)->Prop
def Sq (X:Cx)(pins:List (Addr × Obj))(σ:St)(tg:Expr)(R:It->Hp->Prop)(itv:Value)(s2:Shared):Prop:=
 ∃ (it:Addr) (fp:List Addr) (tn:Nat->Heap->Prop) (J:It) (H':Hp),itv=.ref it/\Inv X pins σ H' s2/\Turn X.prog X.w X.K tg J fp it tn/\tn 0 s2.heap/\(∀ b∈fp,jK X pins H' b)/\R J H'
def PI (X:Cx)(tg iter:Expr)(wi:TI):Prop:=
 ∀ (pins:List (Addr × Obj)) (s:Shared) (σ:St) (H:Hp) (R:It->Hp->Prop),Inv X pins σ H s->wi σ H R->
  wpAny (model X.prog X.w) X.A (eval iter X.env) (fun v a=>wpAny (model X.prog X.w) X.A (pyIter v) (Sq X pins σ tg R) X.xe a) X.xe s
theorem zq {u:Value}{o:Obj}{n:String}{vs:Array Value}{Q:Unit->Shared->Prop}(ho:s.heap.get? it=some o)(hc:o.cls=.type n)(hd:o.data=.fields vs)
  (hn:["enumerate","zip","dict_itemiterator","dict_reverseitemiterator","odict_iterator","itertools.zip_longest","itertools.pairwise"].contains n=false) (hQ:Q () s):wpAny M A (letOwnedTupleGo tg (.ref it) u) Q E s:=by
 unfold letOwnedTupleGo
 cases tg<;>first
  | exact eR hQ
  | (cases u<;>first
    | exact eR hQ
    | (refine dy (wpAny_load ho ?_);rw[hc,hd];show wpAny M A (if (["enumerate","zip","dict_itemiterator","dict_reverseitemiterator","odict_iterator","itertools.zip_longest","itertools.pairwise"].contains n&&vs[0]? == some (rawInt _))=true then _ else _) Q E s;rw[if_neg (by intro h;rw[hn,r3] at h;cases h)];exact eR hQ))
def Hz (K:Frag)(a:Addr):It:=
 ⟨fun i H=>∃ xs x,aB K H a xs/\xs[i]?=some x,fun i H x b=>b=H/\∀ xs,aB K H a xs->xs[i]?=some x,fun i H=>∃ xs,aB K H a xs/\xs.length<=i⟩
def Bc (K:Frag)(a:Addr):It:=
 ⟨fun i H=>∃ xs x,aH K H a xs/\xs[i]?=some x,fun i H x b=>b=H/\∀ xs,aH K H a xs->xs[i]?=some x,fun i H=>∃ xs,aH K H a xs/\xs.length<=i⟩
def xg (lo:Int)(n:Nat):It:=⟨fun i _=>i<n,fun i H x a=>a=H/\x=.int (lo+i),fun i _=>n<=i⟩
theorem Bd {P:Program}{w:World}(a it:Addr):Turn P w K tg (Hz K a) [it] it (fun i h=>h.IsListIter it a i) where
 mem:=by simp
 obj:=fun i h f b hb=>by
  have e:b=it:=by simpa using hb
  subst e;obtain⟨o,e,c,d⟩:=f;exact⟨o,e,fun v z=>by rw[d] at z;cases z⟩
 keep:=fun i h l f k=>f.at fun o e=>k it (by simp) o e
 item:=by
  intro X G B A hc i g s σ H E I m f C;subst G B A;obtain⟨N,x,hq,hx⟩:=C;obtain⟨n,q,p,hz⟩:=I.list hq;obtain⟨u,hu,J⟩:=q.get hx;obtain⟨r,D,R,y,t,F⟩:=m it (by simp)
  refine wpAny_pyNext_list_item f p.isList (x:=u) (by simpa using hu) fun l j O=>?_
  have M:Inv X g σ H {s with heap:=l}:=I.turned (t':=s.toks) (fun b o hb e=>(O.2 b hb).trans e) r D y t F;obtain⟨o,e,c,d⟩:=id j;exact⟨u,rfl,zq (s:={s with heap:=l}) e c d (by decide) ⟨x,H,M,J,⟨rfl,fun S hy=>by rw[I.uF hy hq];exact hx⟩,j,fun b hb=>(m b hb).1⟩⟩
 done:=by
  intro X G B A hc i g s σ H E I m f C;subst G B A;obtain⟨N,hq,hx⟩:=C;obtain⟨n,q,p,hz⟩:=I.list hq;obtain⟨r,D,R,y,t,F⟩:=m it (by simp)
  have T:=q.length;exact wpAny_pyNext_list_end (I.ok.hd hc) f p.isList (by simp;omega) fun l Q=>⟨rfl,I.turned (t':=s.toks) (fun b o hb e=>Q b o hb e) r D y t F⟩
 self:=fun _ _ _ _ _ f h=>wpAny_pyIter_listiter f h
theorem xh {P:Program}{w:World}(a it:Addr):Turn P w K tg (Bc K a) [it] it (fun i h=>h.IsTupleIter it a i) where
 mem:=by simp
 obj:=fun i h f b hb=>by
  have e:b=it:=by simpa using hb
  subst e;obtain⟨o,e,c,d⟩:=f;exact⟨o,e,fun v z=>by rw[d] at z;cases z⟩
 keep:=fun i h m f k=>f.at fun o e=>k it (by simp) o e
 item:=by
  intro X G B A hc i g s σ H E I n f C;subst G B A;obtain⟨N,x,hq,hx⟩:=C;obtain⟨j,q,p,hz⟩:=I.tuple hq;obtain⟨u,hu,J⟩:=q.get hx;obtain⟨r,D,R,y,t,F⟩:=n it (by simp)
  refine wpAny_pyNext_tuple_item f (show s.heap.IsTuple a j.toArray from p) (x:=u) (by simpa using hu) fun m l O=>?_
  have M:Inv X g σ H {s with heap:=m}:=I.turned (t':=s.toks) (fun b o hb e=>(O.2 b hb).trans e) r D y t F;obtain⟨o,e,c,d⟩:=id l;exact⟨u,rfl,zq (s:={s with heap:=m}) e c d (by decide) ⟨x,H,M,J,⟨rfl,fun S hy=>by rw[I.qd hy hq];exact hx⟩,l,fun b hb=>(n b hb).1⟩⟩
 done:=by
  intro X G B A hc i g s σ H E I n f C;subst G B A;obtain⟨N,hq,hx⟩:=C;obtain⟨j,q,p,hz⟩:=I.tuple hq;obtain⟨r,D,R,y,t,F⟩:=n it (by simp)
  have T:=q.length;exact wpAny_pyNext_tuple_end (I.ok.hd hc) f (show s.heap.IsTuple a j.toArray from p) (by simp;omega) fun m Q=>⟨rfl,I.turned (t':=s.toks) (fun b o hb e=>Q b o hb e) r D y t F⟩
 self:=fun _ _ _ _ _ f h=>wpAny_pyIter_tupleiter f h
theorem xi {P:Program}{w:World}(it:Addr)(lo:Int)(n:Nat):Turn P w K tg (xg lo n) [it] it (fun i h=>IsRangeIter h it (lo+(i:Nat)*1) ((n:Int) - (i:Nat)) 1) where
 mem:=by simp
 obj:=fun i h a b hb=>by
  have e:b=it:=by simpa using hb
  subst e;exact⟨_,a,fun v z=>by
   have D:Data.fields _=Data.cell v:=z
   cases D⟩
 keep:=fun i h f a k=>k it (by simp) _ a
 item:=by
  intro X A q p hc i c s σ H E I g a r;subst A q p;obtain⟨j,u,J,m,l,y⟩:=g it (by simp)
  have W:=Walks.range (prog:=X.prog) (w:=X.w) (I.ok.hd hc) it lo 1 n;refine W.item i s _ _ r a fun v f B hv d G=>?_;obtain⟨t,rfl⟩:=hv;have C:Inv X c σ H {s with heap:=f,toks:=B}:=I.turned (fun b o hb e=>G b o (by simpa using hb) e) j u m l y
  refine⟨_,rfl,zq (s:={s with heap:=f,toks:=B}) (n:="range_iterator") d rfl rfl (by decide) ⟨.int (lo+i),H,C,⟨t,?_⟩,⟨rfl,rfl⟩,d,fun b hb=>(g b hb).1⟩⟩
  rw[Int.mul_one]
 done:=by
  intro X A q p hc i c s σ H E I g a r;subst A q p;obtain⟨j,u,J,m,l,y⟩:=g it (by simp)
  exact wpAny_pyNext_range_end (I.ok.hd hc) a (by have:n<=i:=r;omega) fun f F=>⟨rfl,I.turned (t':=s.toks) (fun b o hb e=>F b o hb e) j u m l y⟩
 self:=fun _ _ _ _ _ a h=>wpAny_pyIter_rangeiter a h
def zr (K:Frag)(tl:TE):TI:=fun σ H R=>tl σ H fun x H1=>∃ a,x=.ref a/\(∃ xs,aB K H1 a xs)/\R (Hz K a) H1
def HY (K:Frag)(tl:TE):TI:=fun σ H R=>tl σ H fun x H1=>∃ a,x=.ref a/\(∃ xs,aH K H1 a xs)/\R (Bc K a) H1
variable {l:Expr}{tl:TE}
theorem HZ (hl:PE X l tl):PI X tg l (zr X.K tl):=by
 intro c s σ H R I h;refine bP (hl c s σ H _ I h) fun v d ⟨x,H1,f,j,i⟩=>?_;obtain⟨a,e,⟨n,hq⟩,q⟩:=i;subst e
 cases j
 obtain⟨g,m,p,hz⟩:=f.list hq;refine TX p.isList ?_;refine⟨d.heap.objs.size,[d.heap.objs.size],_,_,H1,rfl,f.kept (t':=d.toks) fun b o e=>ed _ e,Bd a _,⟨_,hU _ rfl,rfl,rfl⟩,fun b hb=>?_,q⟩;have e:b=d.heap.objs.size:=by simpa using hb
 subst e;exact f.uG (ef _) (f.bb.fresh (ef _))
theorem M9 (hl:PE X l tl):PI X tg l (HY X.K tl):=by
 intro c s σ H R I h;refine bP (hl c s σ H _ I h) fun v d ⟨x,H1,f,j,i⟩=>?_;obtain⟨a,e,⟨n,hq⟩,q⟩:=i;subst e
 cases j
 obtain⟨g,m,p,hz⟩:=f.tuple hq;refine T8 (show d.heap.IsTuple a g.toArray from p) ?_
 refine⟨d.heap.objs.size,[d.heap.objs.size],_,_,H1,rfl,f.kept (t':=d.toks) fun b o e=>ed _ e,xh a _,⟨_,hU _ rfl,rfl,rfl⟩,fun b hb=>?_,q⟩;have e:b=d.heap.objs.size:=by simpa using hb
 subst e;exact f.uG (ef _) (f.bb.fresh (ef _))
variable {lo:Int}
theorem uH {σ:St}{R:It->Hp->Prop}{hi:Int}{t u v:Tok}{tk:Nat}(I:Inv X pins σ H s)(h1:-(2 ^ 62)<=lo)(h2:lo<2 ^ 62)(h3:-(2 ^ 62)<=hi)(h4:hi<2 ^ 62)
  (q:R (xg lo (hi - lo).toNat) H):wpAny (model X.prog X.w) X.A (pyIter (.ref s.heap.objs.size)) (Sq X pins σ tg R) E {s with heap:=s.heap.push {cls:=.type "range",data:=.fields #[.int lo t,.int hi u,.int 1 v]},toks:=tk}:=by
 refine wpAny_pyIter_range (IsRange.new ..) (small_one h1 h2 h3 h4) ?_;have a:Inv X pins σ H {s with heap:=s.heap.push {cls:=.type "range",data:=.fields #[.int lo t,.int hi u,.int 1 v]},toks:=tk}:=I.kept fun b o e=>ed _ e;refine⟨(s.heap.push {cls:=.type "range",data:=.fields #[.int lo t,.int hi u,.int 1 v]}).objs.size,[(s.heap.push {cls:=.type "range",data:=.fields #[.int lo t,.int hi u,.int 1 v]}).objs.size],_,_,H,rfl,
  a.kept (t':=tk) fun b o e=>ed _ e,xi _ lo (hi - lo).toNat,?_,fun b hb=>?_,q⟩
 ·have c:lo+((0:Nat):Int)*1=lo:=by simp
  have d:(((hi - lo).toNat:Nat):Int) - ((0:Nat):Int)=Builtin.Range.rangeSize lo hi 1:=by rw[rangeSize_one];split<;>omega
  show IsRangeIter _ _ (lo+((0:Nat):Int)*1) ((((hi - lo).toNat:Nat):Int) - ((0:Nat):Int)) 1;rw[c,d];exact hU _ rfl
 ·have e:b=(s.heap.push {cls:=.type "range",data:=.fields #[.int lo t,.int hi u,.int 1 v]}).objs.size:=by simpa using hb
  subst e;exact a.uG (ef _) (a.bb.fresh (ef _))
def zt (ta:TA):TI:=fun σ H R=>ta σ H fun a H1=>∃ j:Int,a=[.int j]/\-(2 ^ 62)<=j/\j<2 ^ 62/\R (xg 0 j.toNat) H1
def zu (ta:TA):TI:=fun σ H R=>ta σ H fun a H1=>∃ i j:Int,a=[.int i,.int j]/\(-(2 ^ 62)<=i/\i<2 ^ 62/\-(2 ^ 62)<=j/\j<2 ^ 62)/\R (xg i (j - i).toNat) H1
variable {a:Expr}{ta:TA}{p:Pos}
theorem Be {pos:Pos}(hg:Gl X "range")(hm:X.mg "range"=none)(ha:PA X [a] ta)(hs:starEach [a] X.env=[(false,eval a X.env)]:=by rfl):PI X tg (.Call (.Name "range" p) [a] [] pos) (zt ta):=by
 intro b s σ H R I h;refine Call_ (kK I hg hm boot_range (KM (bP (ha pos b s σ H _ I h) fun n m ⟨l,H1,i,f,c⟩=>?_) hs rfl));obtain⟨j,e,c,g,q⟩:=c;subst e
 cases f with
 | cons r d=>
  cases d
  obtain⟨t,rfl⟩:=r;exact call_range_1 (uH i (by omega) (by omega) c g (by simpa using q))
theorem Bf {pos:Pos}(hg:Gl X "range")(hm:X.mg "range"=none)(ha:PA X [a,b] ta)(hs:starEach [a,b] X.env=[(false,eval a X.env),(false,eval b X.env)]:=by rfl)(hs2:starEach [b] X.env=[(false,eval b X.env)]:=by rfl) :
  PI X tg (.Call (.Name "range" p) [a,b] [] pos) (zu ta):=by
 intro c s σ H R I h;refine Call_ (kK I hg hm boot_range (KM (bP (ha pos c s σ H _ I h) fun z w ⟨v,H1,u,m,f⟩=>?_) (by rw[hs,hs2]) (by rw[hs2];rfl)))
 obtain⟨i,j,e,⟨f,n,g,o⟩,q⟩:=f;subst e
 cases m with
 | cons r d=>
  cases d with
  | cons l d=>
   cases d
   obtain⟨t,rfl⟩:=r;obtain⟨y,rfl⟩:=l;exact call_range_2 (uH u f n g o q)
def Na (wi:TI)(g:TG)(tb:TS):TS:=fun D σ H=>wi σ H fun J H1=>∃ W:Nat->Nat->St->Hp->Prop,(∃ m,W 0 m σ H1)/\∀ i m σ H,W i m σ H->
 (J.stop i H/\D.nx σ H)∨(J.go i H/\∃ N:St->Hp->Prop,(∀ σ' H',N σ' H'->∃ m',m' < m/\W (i+1) m' σ' H')/\∀ x H',J.yY i H x H'->g x σ H' fun a b=>tb {D with nx:=N,ct:=N,bk:=D.nx} a b)
def ng (fp:List Addr)(h:Heap):List (Addr × Obj):=fp.filterMap fun b=>(h.get? b).map fun o=>(b,o)
variable {fp:List Addr}
theorem gk {h:Heap}{b:Addr}{o:Obj}(hb:b∈fp)(e:h.get? b=some o):(b,o)∈ng fp h:=List.mem_filterMap.mpr ⟨b,hb,by rw[e];rfl⟩
theorem Bg {h:Heap}{p:Addr × Obj}(hp:p∈ng fp h):p.1∈fp/\h.get? p.1=some p.2:=by
 obtain⟨b,hb,e⟩:=List.mem_filterMap.mp hp
 cases q:h.get? b with
 | none=>rw[q] at e;cases e
 | some o=>
  rw[q] at e;have a:(b,o)=p:=ot e;subst a;exact⟨hb,q⟩
theorem Inv.pinned {σ:St}(I:Inv X pins σ H s)(hf:∀ b∈fp,jK X pins H b)(ho:∀ b∈fp,∃ o,s.heap.get? b=some o/\∀ v,o.data≠.cell v):Inv X (pins++ng fp s.heap) σ H s:=
 I.zo fun p c=>(kb.mp c).elim (fun z=>I.pin p (r4 _ z)) fun z=>by
  obtain⟨hb,e⟩:=Bg z;obtain⟨g,f,h,_⟩:=hf p.1 hb;obtain⟨o,a,d⟩:=ho p.1 hb;rw[e] at a;cases a
  exact⟨e,g,f,h,d⟩
theorem Inv.jL {pl:List (Addr × Obj)}{σ:St}(I:Inv X (pins++pl) σ H s):Inv X pins σ H s:=I.zo fun p a=>I.pin p (r4 _ (SC _ a))
variable {iter:Expr}
theorem Nb {wi:TI}{pos:Pos}(hp:PassesOwn (model X.prog X.w) X.A X.env X.xe)(hc:X.calm=true)(hi:PI X tg iter wi)(hg:PG X tg g)(hb:w9 X body tb)
  (hs:∀ x,foldedSetIterable iter X.env x=pure x:=by intro _;rfl):PS X (.For tg iter body [] pos) (Na wi g tb):=by
 intro a s σ H D I h;refine wpAny_For (bP (hi a s σ H _ I h) fun v s1 h1=>bP h1 fun itv s2 h2=>?_) hs;obtain⟨it,E,tn,J,H2,e,I2,T,S,Z,W,⟨m0,w0⟩,B⟩:=h2;subst e;have l:∀ {H':Hp},(∀ b∈E,H' b=none)->∀ b∈E,jK X a H' b:=fun hn b hb=>⟨hn b hb,(Z b hb).2⟩;refine codeAny_forLoop_any (fun n s'=>∃ i σ' H',Inv X a σ' H' s'/\tn i s'.heap/\(∀ b∈E,H' b=none)/\W i n σ' H') ?_ m0 ⟨0,σ,H2,I2,S,fun b hb=>(Z b hb).1,w0⟩;rintro n s3 ⟨i,K,M,Y,z,F,w3⟩
 rcases B i n K M w3 with ⟨G,qn⟩ | ⟨go,N,hN,step⟩
 ·refine Ue hp (bP (T.done X rfl rfl rfl hc i a s3 K M X.xe Y (l F) z G) fun r s4 ⟨R,I4⟩=>?_);subst R;exact wpAny_execs_nil ⟨K,M,I4,qn⟩
 ·refine Ue hp (bP (T.item X rfl rfl rfl hc i a s3 K M X.xe Y (l F) z go) fun r s4 ⟨u,R,h4⟩=>?_);subst R;refine Ue hp (bP h4 fun _ s5 ⟨x,U,I5,r5,y5,y,Q⟩=>?_);have P:=I5.pinned (l Q) (T.obj _ _ y);refine Ue hp (bP (hg _ s5 K U x u _ P r5 (step x U y5)) fun _ s6 ⟨σ6,H6,I6,q6⟩=>?_);refine Ue hp (bP (hb _ s6 σ6 H6 _ I6 q6) fun f O t=>?_);have p:∀ {j:St} {c:Hp},Inv X (a++ng E s5.heap) j c O->N j c->∃ m,m<n/\∃ i σ' H',Inv X a σ' H' O/\tn i O.heap/\(∀ b∈E,H' b=none)/\W i m σ' H':=fun {j c} q C=>by
   obtain⟨m',hm,w7⟩:=hN j c C;refine⟨m',hm,i+1,j,c,q.jL,T.keep _ _ _ y fun b hb o e=>(q.pin (b,o) (r4 _ (r4 _ (gk hb e)))).1,fun b hb=>?_,w7⟩;obtain⟨o,e,d⟩:=T.obj _ _ y b hb;exact(q.pin (b,o) (r4 _ (r4 _ (gk hb e)))).2.1
  cases f with
  | next=>obtain⟨j,c,q,C⟩:=t;exact p q C
  | cont=>obtain⟨j,c,q,C⟩:=t;exact p q C
  | brk=>obtain⟨j,c,q,t⟩:=t;exact⟨j,c,q.jL,t⟩
  | ret v=>obtain⟨x7,j,c,q,r7,t⟩:=t;exact⟨x7,j,c,q.jL,r7,t⟩
variable {a:Addr}{D:Ends}
theorem uI {σ:St}(Pv:Nat->St->Hp->Prop)(h0:Pv 0 σ H)(hl:∀ i σ H,i<=xs.length->Pv i σ H->aB K H a xs)
  (hs:∀ i x σ H,xs[i]?=some x->Pv i σ H->g x σ H fun σ2 H2=>tb {D with nx:=Pv (i+1),ct:=Pv (i+1),bk:=D.nx} σ2 H2) (hd:∀ σ H,Pv xs.length σ H->D.nx σ H) :
  ∃ W:Nat->Nat->St->Hp->Prop,(∃ m,W 0 m σ H)/\∀ i m σ H,W i m σ H->
   ((Hz K a).stop i H/\D.nx σ H)∨((Hz K a).go i H/\∃ N:St->Hp->Prop,(∀ σ' H',N σ' H'->∃ m',m' < m/\W (i+1) m' σ' H')/\∀ x H',(Hz K a).yY i H x H'->g x σ H' fun σ2 H2=>tb {D with nx:=N,ct:=N,bk:=D.nx} σ2 H2):=by
 refine⟨fun i m σ H=>m=xs.length - i/\i<=xs.length/\Pv i σ H,⟨xs.length,by simp,zero_le _,h0⟩,?_⟩
 rintro i m σ H ⟨rfl,hi,p⟩;have q:=hl i σ H hi p
 by_cases b:i<xs.length
 ·refine .inr ⟨⟨xs,xs[i],q,by simp[b]⟩,Pv (i+1),fun σ' H' c=>⟨xs.length - (i+1),by omega,rfl,b,c⟩,fun x H' y=>?_⟩
  obtain⟨e,y⟩:=y;subst e;exact hs i x σ _ (y xs q) p
 ·have e:i=xs.length:=by omega
  subst e;exact .inl ⟨⟨xs,q,ef _⟩,hd σ H p⟩
theorem zw {σ:St}(Pv:Nat->St->Hp->Prop)(h0:Pv 0 σ H)(hl:∀ i σ H,i<=xs.length->Pv i σ H->aH K H a xs)
  (hs:∀ i x σ H,xs[i]?=some x->Pv i σ H->g x σ H fun σ2 H2=>tb {D with nx:=Pv (i+1),ct:=Pv (i+1),bk:=D.nx} σ2 H2) (hd:∀ σ H,Pv xs.length σ H->D.nx σ H) :
  ∃ W:Nat->Nat->St->Hp->Prop,(∃ m,W 0 m σ H)/\∀ i m σ H,W i m σ H->
   ((Bc K a).stop i H/\D.nx σ H)∨((Bc K a).go i H/\∃ N:St->Hp->Prop,(∀ σ' H',N σ' H'->∃ m',m' < m/\W (i+1) m' σ' H')/\∀ x H',(Bc K a).yY i H x H'->g x σ H' fun σ2 H2=>tb {D with nx:=N,ct:=N,bk:=D.nx} σ2 H2):=by
 refine⟨fun i m σ H=>m=xs.length - i/\i<=xs.length/\Pv i σ H,⟨xs.length,by simp,zero_le _,h0⟩,?_⟩
 rintro i m σ H ⟨rfl,hi,p⟩;have q:=hl i σ H hi p
 by_cases b:i<xs.length
 ·refine .inr ⟨⟨xs,xs[i],q,by simp[b]⟩,Pv (i+1),fun σ' H' c=>⟨xs.length - (i+1),by omega,rfl,b,c⟩,fun x H' y=>?_⟩
  obtain⟨e,y⟩:=y;subst e;exact hs i x σ _ (y xs q) p
 ·have e:i=xs.length:=by omega
  subst e;exact .inl ⟨⟨xs,q,ef _⟩,hd σ H p⟩
variable {n:Nat}
theorem qf {σ:St}(Pv:Nat->St->Hp->Prop)(h0:Pv 0 σ H)
  (hs:∀ i σ H,i<n->Pv i σ H->g (.int (lo+i)) σ H fun σ2 H2=>tb {D with nx:=Pv (i+1),ct:=Pv (i+1),bk:=D.nx} σ2 H2) (hd:∀ σ H,Pv n σ H->D.nx σ H) :
  ∃ W:Nat->Nat->St->Hp->Prop,(∃ m,W 0 m σ H)/\∀ i m σ H,W i m σ H->
   ((xg lo n).stop i H/\D.nx σ H)∨((xg lo n).go i H/\∃ N:St->Hp->Prop,(∀ σ' H',N σ' H'->∃ m',m' < m/\W (i+1) m' σ' H')/\∀ x H',(xg lo n).yY i H x H'->g x σ H' fun σ2 H2=>tb {D with nx:=N,ct:=N,bk:=D.nx} σ2 H2):=by
 refine⟨fun i m σ H=>m=n - i/\i<=n/\Pv i σ H,⟨n,by simp,zero_le _,h0⟩,?_⟩
 rintro i m σ H ⟨rfl,hi,p⟩
 by_cases a:i<n
 ·refine .inr ⟨a,Pv (i+1),fun σ' H' b=>⟨n - (i+1),by omega,rfl,a,b⟩,fun x H' y=>?_⟩
  obtain⟨e,y⟩:=y;subst e y;exact hs i σ _ a p
 ·have e:i=n:=by omega
  subst e;exact .inl ⟨ef _,hd σ H p⟩
abbrev R2:=V->V->Hp->VK->Prop
def dY (X:Cx)(f:Value->Value->Sem Value)(r:R2):Prop:=
 ∀ (pins:List (Addr × Obj)) (s:Shared) (σ:St) (H:Hp) (x y:V) (v u:Value) (Q:VK),Inv X pins σ H s->RelV x v->RelV y u->r x y H Q->
  wpAny (model X.prog X.w) X.A (f v u) (EP X pins σ Q) X.xe s
def R6 (X:Cx)(f:Value->Sem Value)(r:V->Hp->VK->Prop):Prop:=
 ∀ (pins:List (Addr × Obj)) (s:Shared) (σ:St) (H:Hp) (x:V) (v:Value) (Q:VK),Inv X pins σ H s->RelV x v->r x H Q->
  wpAny (model X.prog X.w) X.A (f v) (EP X pins σ Q) X.xe s
def bQ (X:Cx)(f:Value)(r:List V->Hp->VK->Prop):Prop:=
 ∀ (pins:List (Addr × Obj)) (s:Shared) (σ:St) (H:Hp) (xs:List V) (us:List Value) (Q:VK),Inv X pins σ H s->Vals xs us->r xs H Q->
  wpAny (model X.prog X.w) X.A (call f us) (EP X pins σ Q) X.xe s
def rF (r:R2)(ta tb:TE):TE:=fun σ H Q=>ta σ H fun x H1=>tb σ H1 fun y a=>r x y a Q
def Sr (r:V->Hp->VK->Prop)(ta:TE):TE:=fun σ H Q=>ta σ H fun x H1=>r x H1 Q
def rI (C:Int->Int->Prop)(g:Int->Int->V):R2:=fun x y H Q=>∃ i j,x=.int i/\y=.int j/\C i j/\Q (g i j) H
def CW (g:Int->Int->V):R2:=fun x y H Q=>∃ i j,x=.int i/\y=.int j/\Q (g i j) H
def rU (g:Int->V):V->Hp->VK->Prop:=fun x H Q=>∃ i,x=.int i/\Q (g i) H
variable {a:Expr}{ta tb:TE}{f:Value->Value->Sem Value}
theorem Nc (ha:PE X a ta)(hb:PE X b tb){σ:St}{R:V->V->Hp->Prop}(I:Inv X pins σ H s)
  (h:ta σ H fun x H1=>tb σ H1 fun y H2=>R x y H2) 
  (hf:∀ v u s2 x y H2,Inv X pins σ H2 s2->RelV x v->RelV y u->R x y H2->wpAny (model X.prog X.w) X.A (f v u) Q X.xe s2) :
  wpAny (model X.prog X.w) X.A (eval a X.env) (fun v s₁=>wpAny (model X.prog X.w) X.A (eval b X.env) (fun u s₂=>wpAny (model X.prog X.w) X.A (f v u) Q X.xe s₂) X.xe s₁) X.xe s:=by
 refine bP (ha pins s σ H _ I h) fun v l ⟨x,H1,j,e,c⟩=>?_;refine bP (hb pins l σ H1 _ j c) fun u s2 ⟨y,H2,d,i,g⟩=>?_;exact hf v u s2 x y H2 d e i g
theorem uJ {op:Operator}{r:R2}(ho:dY X (binaryOp op) r)(ha:PE X a ta)(hb:PE X b tb):PE X (.BinOp a op b pos) (rF r ta tb):=by
 intro c s σ H Q I h;exact wpAny_BinOp (Nc ha hb I h fun v u d x y f g e i q=>ho c d σ f x y v u Q g e i q)
theorem Pl {op:UnaryOp}{r:V->Hp->VK->Prop}(ho:R6 X (unaryOp op) r)(ha:PE X a ta):PE X (.UnaryOp op a pos) (Sr r ta):=by
 intro b s σ H Q I h;exact UnaryOp_ (bP (ha b s σ H _ I h) fun v f ⟨x,H1,e,d,c⟩=>ho b f σ H1 x v Q e d c)
variable {g:Int->Int->Int}
theorem Nd {C:Int->Int->Prop} 
  (rule:∀ (i j:Int) (t u:Tok) (s:Shared) (Q:Value->Shared->Prop) (E:Value->Shared->Prop),C i j->Q (.int (g i j) s.toks) {s with toks:=s.toks+1}->wpAny (model X.prog X.w) X.A (f (.int i t) (.int j u)) Q E s) :
  dY X f (rI C fun i j=>.int (g i j)):=by
 intro a s σ H x y v u Q I b d h;obtain⟨i,j,rfl,rfl,hc,q⟩:=h;obtain⟨t,rfl⟩:=b;obtain⟨c,rfl⟩:=d;exact rule i j t c s _ _ hc ⟨.int (g i j),H,I.tok _,⟨_,rfl⟩,q⟩
theorem Ia 
  (rule:∀ (i j:Int) (t u:Tok) (s:Shared) (Q:Value->Shared->Prop) (E:Value->Shared->Prop),Q (.int (g i j) s.toks) {s with toks:=s.toks+1}->wpAny (model X.prog X.w) X.A (f (.int i t) (.int j u)) Q E s) :
  dY X f (CW fun i j=>.int (g i j)):=by
 intro a s σ H x y v u Q I b d h;obtain⟨i,j,rfl,rfl,q⟩:=h;obtain⟨t,rfl⟩:=b;obtain⟨c,rfl⟩:=d;exact rule i j t c s _ _ ⟨.int (g i j),H,I.tok _,⟨_,rfl⟩,q⟩
theorem Ib {g:Int->Int->Bool}
  (rule:∀ (i j:Int) (t u:Tok) (s:Shared) (Q:Value->Shared->Prop) (E:Value->Shared->Prop),Q (.bool (g i j)) s->wpAny (model X.prog X.w) X.A (f (.int i t) (.int j u)) Q E s) :
  dY X f (CW fun i j=>.bl (g i j)):=by
 intro a s σ H x y v u Q I b d h;obtain⟨i,j,rfl,rfl,q⟩:=h;obtain⟨t,rfl⟩:=b;obtain⟨c,rfl⟩:=d;exact rule i j t c s _ _ ⟨.bl (g i j),H,I,rfl,q⟩
def Nf (i j:Int):Prop:=0<j/\j<1073741824
def kL (i j:Int):Prop:=0<=j/\j<=1000000/\i.natAbs<2 ^ 64
theorem xj (k:Nat):(0:Int)<=2 ^ k:=by
 rw[two_pow_cast];exact natCast_nonneg _
theorem aU:dY X (binaryOp .Add) (CW fun i j=>.int (i+j)):=Ia fun _ _ _ _ _ _ _ q=>add_int q
theorem cq:dY X (binaryOp .Sub) (CW fun i j=>.int (i - j)):=Ia fun _ _ _ _ _ _ _ q=>sub_int q
theorem Ic:dY X (binaryOp .FloorDiv) (rI Nf fun i j=>.int (i / j)):=Nd fun i j _ _ _ _ _ hc q=>by
 have h1:(0:Int)<j:=hc.1;have a:j<1073741824:=hc.2;exact floordiv_int (by omega) (by rw[Int.fdiv_eq_ediv_of_nonneg i (by omega)];exact q) (.inl (PyProof.noPylong_small (by omega)))
theorem cL:dY X (binaryOp .Mod) (rI (fun _ j=>0<j) fun i j=>.int (i % j)):=Nd fun i j _ _ _ _ _ hc q=>by
 have h1:(0:Int)<j:=hc;exact mod_int' (by omega) (by rw[Int.fmod_eq_emod_of_nonneg i (by omega)];exact q)
theorem jk:dY X (binaryOp .Pow) (rI kL fun i j=>.int (i ^ j.toNat)):=Nd fun _ _ _ _ _ _ _ hc q=>pow_int_small hc.1 hc.2.1 hc.2.2 q
theorem c5:dY X (binaryOp .LShift) (rI kL fun i j=>.int (i*2 ^ j.toNat)):=Nd fun _ _ _ _ _ _ _ hc q=>lshift_int_small hc.1 hc.2.1 hc.2.2 q
theorem xk:dY X (binaryOp .RShift) (rI (fun _ j=>0<=j) fun i j=>.int (i / 2 ^ j.toNat)):=Nd fun i j _ _ _ _ _ hc q=>
 rshift_int hc (by rw[Int.fdiv_eq_ediv_of_nonneg i (xj _)];exact q)
theorem dJ:dY X (binaryOp .BitAnd) (CW fun i j=>.int (Builtin.bitAnd i j)):=Ia fun _ _ _ _ _ _ _ q=>and_int q
theorem zx:dY X (binaryOp .BitOr) (CW fun i j=>.int (Builtin.bitOr i j)):=Ia fun _ _ _ _ _ _ _ q=>or_int q
theorem Tx {f:Value->Sem Value}{g:Int->Int}
  (rule:∀ (i:Int) (t:Tok) (s:Shared) (Q:Value->Shared->Prop) (E:Value->Shared->Prop),Q (.int (g i) s.toks) {s with toks:=s.toks+1}->wpAny (model X.prog X.w) X.A (f (.int i t)) Q E s) :
  R6 X f (rU fun i=>.int (g i)):=by
 intro a s σ H x v Q I b h;obtain⟨i,rfl,q⟩:=h;obtain⟨t,rfl⟩:=b;exact rule i t s _ _ ⟨.int (g i),H,I.tok _,⟨_,rfl⟩,q⟩
theorem jl:R6 X (unaryOp .USub) (rU fun i=>.int (-i)):=Tx fun _ _ _ _ _ q=>neg_int q
def Dq:V->V->Bool
 | .br,.br=>true | .br,.int _=>true | .int _,.br=>true | .br,.bl _=>true | .bl _,.br=>true | .br,.str _=>true | .str _,.br=>true
 | .int _,.int _=>true | .bl _,.bl _=>true | .str _,.str _=>true | .Dc _,.Dc _=>true
 | .int _,.str _=>true | .str _,.int _=>true | .bl _,.str _=>true | .str _,.bl _=>true
 | _,_=>false
def Pm:R2:=fun x y H Q=>Dq x y=true/\Q (.bl (decide (x=y))) H
def Ss:R2:=fun x y H Q=>Dq x y=true/\Q (.bl (!decide (x=y))) H
theorem zy {i j:Int}:decide (V.int i=V.int j)=(i == j):=by
 rw[TZ]
 simp
theorem Dr {i j:Bool}:decide (V.bl i=V.bl j)=(i == j):=by
 rw[TZ]
 simp
theorem zA {i j:Str}:decide (V.str i=V.str j)=(i == j):=by
 rw[TZ]
 simp
theorem zB {i j:Array UInt8}:decide (V.Dc i=V.Dc j)=(i.toList == j.toList):=by
 rw[TZ]
 cases i
 cases j
 simp
theorem bh {σ:St}{Q:VK}{k k':Bool}(I:Inv X pins σ H s)(q:Q (.bl k) H)(e:k=k'):EP X pins σ Q (.bool k') s:=by
 subst e;exact⟨.bl k,H,I,rfl,q⟩
theorem aP:dY X (compareOp .Eq) Pm:=by
 intro d s σ H x y v u Q I c a h;obtain⟨hs,q⟩:=h
 cases x with
 | br=>
  cases c
  cases y with
  | br=>cases a;exact PySem.EqNone.eq_none_none (bh I q (by simp))
  | bl j=>cases a;exact PySem.EqNone.eq_none_bool (bh I q (by simp))
  | int j=>obtain⟨b,rfl⟩:=a;exact PySem.EqNone.eq_none_int (bh I q (by simp))
  | str j=>obtain⟨b,rfl⟩:=a;exact PySem.EqNone.eq_none_str (bh I q (by simp))
  | _=>exact absurd (show false=true from hs) hI
 | bl i=>
  cases c
  cases y with
  | br=>cases a;exact PySem.EqNone.eq_bool_none (bh I q (by simp))
  | bl j=>cases a;exact eq_bool (bh I q Dr)
  | str j=>obtain⟨b,rfl⟩:=a;exact PySem.EqMixed.eq_bool_str (bh I q (by simp))
  | _=>exact absurd (show false=true from hs) hI
 | int i=>
  obtain⟨t,rfl⟩:=c
  cases y with
  | br=>cases a;exact PySem.EqNone.eq_int_none (bh I q (by simp))
  | int j=>obtain⟨b,rfl⟩:=a;exact eq_int (bh I q zy)
  | str j=>obtain⟨b,rfl⟩:=a;exact PySem.EqMixed.eq_int_str (bh I q (by simp))
  | _=>exact absurd (show false=true from hs) hI
 | str i=>
  obtain⟨t,rfl⟩:=c
  cases y with
  | br=>cases a;exact PySem.EqNone.eq_str_none (bh I q (by simp))
  | bl j=>cases a;exact PySem.EqMixed.eq_str_bool (bh I q (by simp))
  | int j=>obtain⟨b,rfl⟩:=a;exact PySem.EqMixed.eq_str_int (bh I q (by simp))
  | str j=>obtain⟨b,rfl⟩:=a;exact eq_str (bh I q zA)
  | _=>exact absurd (show false=true from hs) hI
 | Dc i=>
  obtain⟨t,rfl⟩:=c
  cases y with
  | Dc j=>obtain⟨b,rfl⟩:=a;exact PySem.W.eq_bytes (bh I q zB)
  | _=>exact absurd (show false=true from hs) hI
 | _=>cases y<;>exact absurd (show false=true from hs) hI
theorem uK:dY X (compareOp .NotEq) Ss:=by
 intro d s σ H x y v u Q I c a h;obtain⟨hs,q⟩:=h
 cases x with
 | br=>
  cases c
  cases y with
  | br=>cases a;exact PySem.EqNone.ne_none_none (bh I q (by simp))
  | bl j=>cases a;exact PySem.EqNone.ne_none_bool (bh I q (by simp))
  | int j=>obtain⟨b,rfl⟩:=a;exact PySem.EqNone.ne_none_int (bh I q (by simp))
  | str j=>obtain⟨b,rfl⟩:=a;exact PySem.EqNone.ne_none_str (bh I q (by simp))
  | _=>exact absurd (show false=true from hs) hI
 | bl i=>
  cases c
  cases y with
  | br=>cases a;exact PySem.EqNone.ne_bool_none (bh I q (by simp))
  | bl j=>cases a;exact ne_bool (bh I q (L4 not Dr))
  | str j=>obtain⟨b,rfl⟩:=a;exact PySem.EqMixed.ne_bool_str (bh I q (by simp))
  | _=>exact absurd (show false=true from hs) hI
 | int i=>
  obtain⟨t,rfl⟩:=c
  cases y with
  | br=>cases a;exact PySem.EqNone.ne_int_none (bh I q (by simp))
  | int j=>obtain⟨b,rfl⟩:=a;exact ne_int (bh I q (L4 not zy))
  | str j=>obtain⟨b,rfl⟩:=a;exact PySem.EqMixed.ne_int_str (bh I q (by simp))
  | _=>exact absurd (show false=true from hs) hI
 | str i=>
  obtain⟨t,rfl⟩:=c
  cases y with
  | br=>cases a;exact PySem.EqNone.ne_str_none (bh I q (by simp))
  | bl j=>cases a;exact PySem.EqMixed.ne_str_bool (bh I q (by simp))
  | int j=>obtain⟨b,rfl⟩:=a;exact PySem.EqMixed.ne_str_int (bh I q (by simp))
  | str j=>obtain⟨b,rfl⟩:=a;exact ne_str (bh I q (L4 not zA))
  | _=>exact absurd (show false=true from hs) hI
 | Dc i=>
  obtain⟨t,rfl⟩:=c
  cases y with
  | Dc j=>obtain⟨b,rfl⟩:=a;exact PySem.W.ne_bytes (bh I q (L4 not zB))
  | _=>exact absurd (show false=true from hs) hI
 | _=>cases y<;>exact absurd (show false=true from hs) hI
theorem g9:dY X (compareOp .Lt) (CW fun i j=>.bl (decide (i<j))):=Ib fun _ _ _ _ _ _ _ q=>lt_int q
theorem nh:dY X (compareOp .LtE) (CW fun i j=>.bl (decide (i<=j))):=Ib fun _ _ _ _ _ _ _ q=>le_int q
theorem zC:dY X (compareOp .Gt) (CW fun i j=>.bl (decide (j<i))):=Ib fun _ _ _ _ _ _ _ q=>gt_int q
theorem K4:dY X (compareOp .GtE) (CW fun i j=>.bl (decide (j<=i))):=Ib fun _ _ _ _ _ _ _ q=>ge_int q
theorem qh:dY X (compareOp .In) (fun x y H Q=>∃ i j,x=.str i/\y=.str j/\Q (.bl (!(Builtin.Str.occurrences j i 0 j.length 1).isEmpty)) H):=by
 intro a s σ H x y v u Q I b c h;obtain⟨i,j,rfl,rfl,q⟩:=h;obtain⟨t,rfl⟩:=b;obtain⟨d,rfl⟩:=c;exact in_str (bh I q rfl)
theorem Ng:dY X (compareOp .Is) (fun x y H Q=>y=.br/\Q (.bl (decide (x=.br))) H):=by
 intro a s σ H x y v u Q I b c h;obtain⟨rfl,q⟩:=h
 cases c
 refine is_none_gen (bh I q ?_)
 cases x<;>first
  | (cases b;rfl)
  | (obtain⟨t,rfl⟩:=b;rfl)
theorem Ie:dY X (compareOp .IsNot) (fun x y H Q=>y=.br/\Q (.bl (!decide (x=.br))) H):=by
 intro a s σ H x y v u Q I b c h;obtain⟨rfl,q⟩:=h
 cases c
 refine isnot_none_gen (bh I q ?_)
 cases x<;>first
  | (cases b;rfl)
  | (obtain⟨t,rfl⟩:=b;rfl)
theorem au (b:Expr)(h:op≠.In:=by decide)(h2:op≠.NotIn:=by decide):behindInMarks op b=false:=by
 have c:(op == CmpOp.In)=false:=by cases op<;>first | rfl | exact absurd rfl h
 have a:(op == CmpOp.NotIn)=false:=by cases op<;>first | rfl | exact absurd rfl h2
 cases b<;>simp[behindInMarks,c,a]
variable {r:R2}
theorem Ig (ho:dY X (compareOp op) r)(ha:PE X a ta)(hb:PE X b tb)(hm:behindInMarks op b=false):PE X (.Compare a [op] [b] pos) (rF r ta tb):=by
 intro c s σ H Q I h;exact wpAny_Compare1 (Nc ha hb I h fun v u d x y f g e i q=>ho c d σ f x y v u Q g e i q) hm
def uL (t:TE):TT:=fun σ H Q=>t σ H fun x a=>∃ k,x=.bl k/\Q k a
theorem Ih (ho:dY X (compareOp op) r)(ha:PE X a ta)(hb:PE X b tb)(hm:behindInMarks op b=false):PT X (.Compare a [op] [b] pos) (uL (rF r ta tb)):=by
 intro d s σ H Q I h;refine wpAny_isTrue_Compare1 (bP (ha d s σ H _ I h) fun v n ⟨x,H1,j,q,p⟩=>bP (hb d n σ H1 _ j p) fun u f ⟨y,i,A,w,t⟩=>
  bP (ho d f σ i x y v u _ A q w t) fun c B ⟨z,o,g,l,k,e,m⟩=>?_) hm
 subst e
 cases l
 exact Do ⟨o,g,m⟩
def ni (r r':R2)(ta tb tc:TE):TE:=fun σ H Q=>ta σ H fun x H1=>tb σ H1 fun y c=>r x y c fun z a=>∃ k,z=.bl k/\
 (if k=true then tc σ a fun b d=>r' y b d Q else Q (.bl false) a)
variable {tc:TE}{op':CmpOp}{r':R2}
theorem Ds (ho:dY X (compareOp op) r)(ho':dY X (compareOp op') r')(ha:PE X a ta)(hb:PE X b tb)(hc:PE X c tc)
  (hm:lastMarks [op,op'] [b,c]=false:=by with_unfolding_all rfl):PE X (.Compare a [op,op'] [b,c] pos) (ni r r' ta tb tc):=by
 intro f s σ H Q I h;refine Compare_chain (bP (ha f s σ H _ I h) fun v F ⟨x,H1,B,A,t⟩=>chain_link (bP (hb f F σ H1 _ B t) fun u m ⟨y,n,M,g,J⟩=>
  bP (ho f m σ n x y v u _ M A g J) fun d o ⟨z,l,i,q,k,e,j⟩=>?_)) hm
 subst e
 cases q
 refine Do ?_
 cases k with
 | false=>exact ite_ff ⟨.bl false,l,i,rfl,j⟩
 | true=>exact ite_tt (chain_last (bP (hc f o σ l _ i j) fun w E ⟨C,p,D,G,K⟩=>ho' f E σ p y C u w Q D g G K))
theorem Du (ho:dY X (compareOp op) r)(ho':dY X (compareOp op') r')(ha:PE X a ta)(hb:PE X b tb)(hc:PE X c tc)
  (hm:lastMarks [op,op'] [b,c]=false:=by with_unfolding_all rfl):PT X (.Compare a [op,op'] [b,c] pos) (uL (ni r r' ta tb tc)):=by
 intro f s σ H Q I h;refine isTrue_chain (bP (ha f s σ H _ I h) fun v O ⟨x,H1,J,G,D⟩=>test_link (bP (hb f O σ H1 _ J D) fun u n ⟨y,o,U,g,S⟩=>
  bP (ho f n σ o x y v u _ U G g S) fun d q ⟨z,l,i,w,k,e,j⟩=>?_)) hm
 subst e
 cases w
 refine Do ?_
 cases k with
 | false=>
  obtain⟨W,A,R⟩:=j
  cases A
  exact ite_ff ⟨l,i,R⟩
 | true=>
  refine ite_tt (test_last (bP (hc f q σ l _ i j) fun E N ⟨K,t,M,P,T⟩=>bP (ho' f N σ t y K u E _ M g P T) fun Z Y ⟨z2,B,m,C,k2,F,p⟩=>?_));subst F
  cases C
  exact Do ⟨B,m,p⟩
theorem kM:(sizeLine:Nat)<2 ^ 63:=by rw[sizeLine_eq];decide
theorem aY:dY X (binaryOp .Add) (fun x y H Q=>∃ i j,x=.str i/\y=.str j/\i.length+j.length<=sizeLine/\Q (.str (i++j)) H):=by
 intro a s σ H x y v u Q I b d h;obtain⟨i,j,rfl,rfl,hz,q⟩:=h;obtain⟨t,rfl⟩:=b;obtain⟨c,rfl⟩:=d;exact add_str (fun c e=>⟨.str (i++j),H,I.tok _,⟨_,rfl⟩,q⟩) hz
variable {us:List Value}
theorem vals1 {x:V}(r:Vals [x] us):∃ u,us=[u]/\RelV x u:=by
 cases r with
 | cons b a=>cases a;exact⟨_,rfl,b⟩
variable {y:V}
theorem vals2 {x:V}(r:Vals [x,y] us):∃ u w',us=[u,w']/\RelV x u/\RelV y w':=by
 cases r with
 | cons a d=>
  cases d with
  | cons c b=>cases b;exact⟨_,_,rfl,a,c⟩
theorem Bh (hc:X.calm=true):bQ X (.builtin "max") (fun xs H Q=>∃ i j,xs=[.int i,.int j]/\Q (.int (if j>i then j else i)) H):=by
 intro a s σ H xs f Q I r h;obtain⟨i,j,rfl,q⟩:=h;obtain⟨u,c,rfl,⟨t,rfl⟩,⟨b,rfl⟩⟩:=vals2 r;refine max_two_ints (I.ok.hd hc) fun e d k=>⟨_,H,I.kept k,?_,q⟩
 by_cases hj:j>i
 ·rw[if_pos hj,if_pos hj];exact⟨_,rfl⟩
 ·rw[if_neg hj,if_neg hj];exact⟨_,rfl⟩
theorem dB:bQ X (.type "str") (fun xs H Q=>∃ i,xs=[.int i]/\i.natAbs.log2<1920/\Q (.str (toString i)) H):=by
 intro a s σ H xs b Q I r h;obtain⟨i,rfl,hz,q⟩:=h;obtain⟨u,rfl,t,rfl⟩:=vals1 r;exact PySem.P.str_of_int hz ⟨.str _,H,I.tok _,⟨_,rfl⟩,q⟩
structure xl (h:Heap)(x dx C:Addr)(mA:Str->Option Value):Prop where
 obj:h.get? x=some (instObj C dx)
 ns:h.Ns1 dx mA
 ne:dx≠x
variable {dx:Addr}{mA:Str->Option Value}
theorem Bi {h:Heap}(n:h.Ns1 dx mA):∃ od,h.get? dx=some od/\∀ name,lookIn name od=some (mA name):=by
 obtain⟨o,c,i,g,f,hk,_,hm⟩:=n;refine⟨o,g,fun name=>?_⟩;have e:=hm name;unfold nsFind findBy at e;rw[<-Array.find?_toList] at e;unfold lookIn;rw[f]
 dsimp only
 split
 ·rename_i y q
  rw[q] at e;exact L4 some e
 ·rename_i q
  rw[q] at e;have a:c.toList.any (·.refKey)=false:=by
   rw[List.any_eq_false];intro y hy;obtain⟨z,t,b⟩:=hk y (Array.mem_toList_iff.mp hy)
   simp[DictEntry.refKey,b]
  have d:¬ c.toList.any (·.refKey)=true:=by rw[a];exact hI
  rw[if_neg d];exact L4 some e
variable {C:Addr}
theorem xl.look {h:Heap}{x:Addr}(I:xl h x dx C mA):∃ od,PySem.W.InstAt h x (instObj C dx) C (some od)/\∀ name,lookIn name od=some (mA name):=
 let ⟨od,ho,hl⟩:=Bi I.ns
 ⟨od,⟨I.obj,rfl,rfl,ho⟩,hl⟩
variable {prog:Program}{w:World}{x:Addr}{name:Str}{v:Value}{expr:Bool}
theorem get_map (X:K.In s.heap)(I:xl s.heap x dx C mA)(hg:plainGet K C name=true)(hh:hasDictIn K C=true)
  (ha:findIn K (.ref C) name=some none) (hv:mA name=some v) (hv':handedIn v=true) (h:Q v {s with toks:=s.toks+1}) :
  wpAny (model prog w) A (getAttr (.ref x) name expr) Q E s:=by
 obtain⟨b,J,a⟩:=I.look;exact PySem.W.get_value X J (plainGet_of hg).1 (PySem.W.findObj_own hh ha rfl (by rw[a,hv])) hv' h
variable {f:Addr}{pl:Sem Bool}
theorem Dv {Q:Value × List Value->Shared->Prop}(X:K.In s.heap)(I:xl s.heap x dx C mA)(hg:plainGet K C name=true)
  (hf:findIn K (.ref C) name=some (some (.ref f))) (ht:isFn K (.ref f)=true) (hv:mA name=none) (h:Q (.ref f,[.ref x]) s) :
  wpAny (model prog w) A (getMethod (.ref x) name pl) Q E s:=by
 obtain⟨b,J,a⟩:=I.look;exact PySem.W.method_fn X J (plainGet_of hg).1 (plainGet_of hg).2 hf (beq_iff_eq.mp ht) (by show (lookIn name b).map (·.isSome)=some false;rw[a,hv];rfl) h
theorem Ii {ns:List Str}{Q:Unit->Shared->Prop}(X:K.In s.heap)(I:xl s.heap x dx C mA)
  (hs:findIn K (.ref C) "__setattr__"=some (some (.builtin "object.__setattr__"))) (hp:plainOver K C=true) (ht:takerIn K C name=some none) (hh:hasDictIn K C=true)
  (hw:PySem.Within mA ns) (hsz:ns.length<=sizeLine)
  (h:∀ h',xl h' x dx C (fun y=>if y=name then some v else mA y)->SameBut dx s.heap h'->Q () {s with heap:=h',toks:=s.toks+2}) :
  wpAny (model prog w) A (setAttr (.ref x) name v) Q E s:=by
 obtain⟨o,J,p⟩:=I.look;refine PySem.W.set_plain X J hs (PySem.W.osa_open (s:={s with toks:=s.toks+1}) (r:=none) X J hp ht fun b=>?_);obtain⟨m,hc,f⟩:=PySem.W.any_some hh;have hx:s.heap.get? x=some ⟨.ref C,some dx,.plain,#[]⟩:=I.obj;refine dy (eR (dy (dy (wpAny_loadPart hx (dy (PySem.W.Looks.here (s:={s with toks:=s.toks+1}) (PySem.W.looks_clsIn X hc) ?_))))));rw[f];refine eR (a:=some dx) (dy (eR (dy ?_)));refine wpAny_nsSet1 (s:={s with toks:=s.toks+1}) I.ns fun h' d c=>?_;obtain⟨n,j,l,e,i,g⟩:=d.count (PySem.Within.cons name v hw);refine dy (wpAny_lookBehind e (by rw[i];exact pastItsLine_dict (ka g (by rw[pb];omega))) ?_)
 exact eR (h _ ⟨(c.2 _ (Ne.symm I.ne)).trans I.obj,d,I.ne⟩ c)
variable {R:Result->Shared->Prop}{kw:List (Str × Value)}
theorem Dw {vs:List Value}(X:K.In s.heap)(hm:makesIn K C=true)
  (hi:findIn K (.ref C) "__init__"=some (some (.ref f))) (hf:typeIn K (.ref f)=some (.type "function"))
  (h:codeAny (model prog w) (A.under (.builtin "type.__call__" ⟨.ref C::vs,kw⟩)) (.call (.ref f) ⟨.ref (s.heap.objs.size+1)::vs,kw⟩) (PySem.W.InitBack (s.heap.objs.size+1) R)
   {s with heap:=(s.heap.push emptyDict).push (instObj C s.heap.objs.size)}) :
  codeAny (model prog w) A (.call (.ref C) ⟨vs,kw⟩) R s:=by
 obtain⟨c,g,d,t,b⟩:=s;exact PySem.W.make_core (PySem.W.makes_of X hm) (looks_findIn X hi) (fun a=>PySem.W.bind_fn X a hf) (.inl rfl) h
def dz (f:Str)(v:V):List (Str × V)->List (Str × V)
 | []=>[(f,v)]
 | (g,x)::r=>if g=f then (g,v)::r else (g,x)::dz f v r
theorem lS (f g:Str)(v:V):∀ fs:List (Str × V),(dz f v fs).lookup g=if g=f then some v else fs.lookup g
 | []=>by
  show List.lookup g [(f,v)]=_
  by_cases h:g=f
  ·have hb:(g == f)=true:=beq_iff_eq.mpr h;simp only[List.lookup,hb,if_pos h]
  ·have hb:(g == f)=false:=AC.mpr h;simp only[List.lookup,hb,if_neg h]
 | (k,x)::r=>by
  have a:=lS f g v r;rw[show dz f v ((k,x)::r)=(if k=f then (k,v)::r else (k,x)::dz f v r) from rfl]
  by_cases hk:k=f
  ·rw[if_pos hk]
   by_cases h:g=k
   ·have hb:(g == k)=true:=beq_iff_eq.mpr h;simp only[List.lookup,hb,if_pos (h.trans hk)]
   ·have hb:(g == k)=false:=AC.mpr h;simp only[List.lookup,hb,if_neg (fun e:g=f=>h (e.trans hk.symm))]
  ·rw[if_neg hk]
   by_cases h:g=k
   ·have hb:(g == k)=true:=beq_iff_eq.mpr h;simp only[List.lookup,hb,if_neg (fun e:g=f=>hk (h.symm.trans e))]
   ·have hb:(g == k)=false:=AC.mpr h;simp only[List.lookup,hb];exact a
theorem kN (f:Str)(v:V):∀ fs:List (Str × V),f∈(dz f v fs).map (·.1)/\∀ g,g∈fs.map (·.1)->g∈(dz f v fs).map (·.1)
 | []=>⟨by simp[dz],fun g h=>by simp at h⟩
 | (k,x)::r=>by
  obtain⟨b,a⟩:=kN f v r;rw[show dz f v ((k,x)::r)=(if k=f then (k,v)::r else (k,x)::dz f v r) from rfl]
  by_cases hk:k=f
  ·rw[if_pos hk];subst hk;exact⟨by simp,fun g h=>by simpa using h⟩
  ·rw[if_neg hk];refine⟨?_,fun g h=>?_⟩
   ·rw[pS];exact fA _ b
   ·rw[pS] at h ⊢
    rcases gz.mp h with e | e
    ·exact gz.mpr (.inl e)
    ·exact fA _ (a g e)
theorem lT (f:Str)(v:V):∀ fs:List (Str × V),(dz f v fs).length<=fs.length+1
 | []=>by simp[dz]
 | (k,x)::r=>by
  have a:=lT f v r;rw[show dz f v ((k,x)::r)=(if k=f then (k,v)::r else (k,x)::dz f v r) from rfl]
  by_cases hk:k=f
  ·rw[if_pos hk,pb,pb];omega
  ·rw[if_neg hk,pb,pb];omega
variable {o:Option Value}{v:V}
theorem g6.some_of (r:g6 (some v) o):∃ u,o=some u/\RelV v u:=by
 cases o with
 | none=>exact(show False from r).elim
 | some u=>exact⟨u,rfl,r⟩
theorem g6.none_of (r:g6 none o):o=none:=by
 cases o with
 | none=>rfl
 | some u=>exact(show False from r).elim
variable {u:Value}
theorem Bj (r:RelV v u):handedIn u=true:=by
 cases v with
 | br=>cases (show u=Value.none from r);rfl
 | bl b=>cases (show u=Value.bool b from r);rfl
 | int i=>obtain⟨t,e⟩:=(show ∃ t,u=Value.int i t from r);cases e;rfl
 | str x=>obtain⟨t,e⟩:=(show ∃ t,u=Value.str x t from r);cases e;rfl
 | Dc b=>obtain⟨t,e⟩:=(show ∃ t,u=Value.bytes b t from r);cases e;rfl
 | Si b=>obtain⟨t,e⟩:=(show ∃ t,u=Value.float b t from r);cases e;rfl
 | ref a=>cases (show u=Value.ref a from r);rfl
 | ty n=>cases (show u=Value.type n from r);rfl
variable {P:Program}{h:Heap}{a:Addr}{fs:List (Str × V)}
theorem rG (bb:gY P w H h)(e:H a=some (.ins C dx fs)):∃ mA,xl h a dx C mA/\(∀ f,g6 (fs.lookup f) (mA f))/\PySem.Within mA (fs.map (·.1))/\fs.length<=1000/\H dx=some (.own a):=by
 obtain⟨d,z,ne,ob,mA,n,r,q⟩:=(show bz P w H h a (.ins C dx fs) from bb a _ e)
 exact⟨mA,⟨ob,n,ne⟩,r,q,z,d⟩
structure K5 (K:Frag)(C:Addr):Prop where
 pg:plainGet K C Str.empty=true
 hd:hasDictIn K C=true
 po:plainOver K C=true
 sa:findIn K (.ref C) "__setattr__"=some (some (.builtin "object.__setattr__"))
theorem K5.get (c:K5 K C)(f:Str):plainGet K C f=true:=c.pg
def nj (K:Frag)(C:Addr)(f:Str):Prop:=findIn K (.ref C) f=some none
variable {f:Str}
theorem nj.Pn (n:nj K C f):takerIn K C f=some none:=by
 unfold takerIn;rw[show findIn K (.ref C) f=some none from n]
 rfl
structure Meth (K:Frag)(C:Addr)(m:Str)(f:Addr):Prop where
 at_:findIn K (.ref C) m=some (some (.ref f))
 fn:isFn K (.ref f)=true
 kp:keepIn K (.ref f)=true
theorem xm {b:Bool}(I:Inv X pins σ H s)(e:H a=some (.ins C dx fs))(c:K5 X.K C)(n:nj X.K C f)(l:fs.lookup f=some v)
  (h:∀ u s',Inv X pins σ H s'->RelV v u->Q u s'):wpAny (model X.prog X.w) A (getAttr (.ref a) f b) Q E s:=by
 obtain⟨g,O,r,_,_,_⟩:=rG I.bb e;obtain⟨u,hu,d⟩:=g6.some_of (v:=v) (o:=g f) (by rw[<-l];exact r f)
 exact get_map I.pf O (c.get f) c.hd n hu (Bj d) (h u _ (I.tok _) d)
variable {m:Str}
theorem jn {g:Addr}{Q:Value × List Value->Shared->Prop}(I:Inv X pins σ H s)(e:H a=some (.ins C dx fs))(c:K5 X.K C)(k:Meth X.K C m g)(l:fs.lookup m=none)
  (h:Q (.ref g,[.ref a]) s):wpAny (model X.prog X.w) A (getMethod (.ref a) m pl) Q E s:=by
 obtain⟨b,O,r,_,_,_⟩:=rG I.bb e;have hn:b m=none:=g6.none_of (by rw[<-l];exact r m)
 exact Dv I.pf O (c.get m) k.at_ k.fn hn h
theorem xn {Q:Unit->Shared->Prop}(I:Inv X pins σ H s)(e:H a=some (.ins C dx fs))(c:K5 X.K C)(n:nj X.K C f)(hl:fs.length<1000)(ry:RelV y u)
  (h:∀ s',Inv X pins σ (upd H a (.ins C dx (dz f y fs))) s'->Q () s'):wpAny (model X.prog X.w) A (setAttr (.ref a) f u) Q E s:=by
 obtain⟨j,O,r,m,_,l⟩:=rG I.bb e;have hz:(fs.map (·.1)).length<=sizeLine:=by rw[di,sizeLine_eq];omega
 refine Ii I.pf O c.sa c.po n.Pn c.hd m hz fun v d t=>h _ ?_;have i:∃ o,v.get? dx=some o:=let ⟨o,_,_,e',_⟩:=d.ns;⟨o,e'⟩;refine I.write (x:=a) (e:=dx) (by rw[e];exact True.intro) (.inr l) (fun b q hb z=>(t.2 b hb).trans z) i ?_
 refine⟨by rw[aq O.ne];exact l,?_,O.ne,d.obj,_,d.ns,fun g=>?_,fun g p=>?_⟩
 ·have:=lT f y fs;omega
 ·show g6 ((dz f y fs).lookup g) (if g=f then some u else j g)
  rw[lS]
  by_cases q:g=f
  ·rw[if_pos q,if_pos q];exact ry
  ·rw[if_neg q,if_neg q];exact r g
 ·by_cases q:g=f
  ·rw[q];exact(kN f y fs).1
  ·refine(kN f y fs).2 g (m g fun z=>p ?_);show (if g=f then some u else j g)=none
   rw[if_neg q];exact z
theorem Inv.made (I:Inv X pins σ H s):Inv X pins σ (upd (upd H s.heap.objs.size (.own (s.heap.objs.size+1))) (s.heap.objs.size+1) (.ins C s.heap.objs.size []))
  {s with heap:=(s.heap.push emptyDict).push (instObj C s.heap.objs.size)}:=by
 have c:(s.heap.push emptyDict).get? s.heap.objs.size=some emptyDict:=hU s.heap rfl;have f:((s.heap.push emptyDict).push (instObj C s.heap.objs.size)).get? (s.heap.objs.size+1)=some (instObj C s.heap.objs.size):=by
  have:=hU (s.heap.push emptyDict) (o:=instObj C s.heap.objs.size) rfl
  rwa [Fk] at this
 have d:(s.heap.push emptyDict).Ns s.heap.objs.size (fun _=>none):=⟨emptyDict,#[],_,c,rfl,(fun e he=>absurd he (by simp)),fun _=>rfl⟩
 have g:=I.laid (a:=s.heap.objs.size) (o:=.own (s.heap.objs.size+1)) (h':=s.heap.push emptyDict) (t':=s.toks) (fun b u q=>ed _ q) (ef _) ⟨_,c⟩;refine g.laid (a:=s.heap.objs.size+1) (o:=.ins C s.heap.objs.size []) (t':=s.toks) (fun b u q=>ed _ q) (Nat.le_of_eq (Fk _ _)) ?_;have ne:s.heap.objs.size≠s.heap.objs.size+1:=nt (UD _);refine⟨by rw[aq ne,ag],zero_le _,ne,f,fun _=>none,(Heap.Ns1.of_empty d).at fun o q=>ed _ q,fun _=>True.intro,fun y hy=>absurd rfl hy⟩
variable {env:Env}
theorem Ij {pos:Pos}(hb:attributeBase e f env (eval e env)=eval e env)
  (h:wpAny (model prog w) A (eval e env) (fun o s₁=>wpAny (model prog w) A (getAttr o f true) Q E s₁) E s):wpAny (model prog w) A (eval (.Attribute e f pos) env) Q E s:=
 Attribute_any_ h (by rw[arm_eval_Attribute,hb])
structure bY (k:Nat)(A:Around):Prop where
 hd:A.handled=none
 dp:A.depth+3*k+5<recursionLimit
 un:A.units+16*k+200<cLine
variable {j:Nat}
theorem bY.mono {k:Nat}(r:bY k A)(h:j<=k):bY j A:=⟨r.hd,by have:=r.dp;omega,by have:=r.un;omega⟩
theorem bY.deeper {k:Nat}{A:Around}(r:bY (k+1) A)(env:Env):bY k (A.deeper env):=
 ⟨r.hd,by have:=r.dp;show A.depth+1+3*k+5<_;omega,by have:=r.un;show A.units+3+16*k+200<_;omega⟩
theorem xo:(A.under (.builtin "type.__call__" ⟨.ref C::us,kw⟩)).depth=A.depth+1:=by
 first | rfl | simp[Around.under,Code.weight,Code.isCreation,Code.isGuard,Code.isCaller,Code.frames,Code.isFrame,guardIds]
theorem xp:(A.under (.builtin "type.__call__" ⟨.ref C::us,kw⟩)).units=A.units+1:=by
 first | rfl | simp[Around.under,Code.cUnits,Code.frames,Code.isFrame]
theorem bY.make {k:Nat}(r:bY (k+1) A)(C:Addr)(us:List Value)(kw:List (Str × Value)):bY k (A.under (.builtin "type.__call__" ⟨.ref C::us,kw⟩)):=
 ⟨r.hd,by have:=r.dp;rw[xo];omega,by have:=r.un;rw[xp];omega⟩
theorem bY.depth {k:Nat}{A:Around}(r:bY k A):A.depth<recursionLimit:=by have:=r.dp;omega
theorem bY.units {k:Nat}{A:Around}(r:bY k A):A.units+64<cLine:=by have:=r.un;omega
def uM:TA:=fun _ H Q=>Q [] H
def uN (ta:TE)(tr:TA):TA:=fun σ H Q=>ta σ H fun x H1=>tr σ H1 fun a b=>Q (x::a) b
theorem Nh:PA X [] uM:=fun _ _ _ _ H Q I h=>Calls.spliced_nil ⟨[],H,I,.nil,h⟩
variable {t:TA}
theorem Ik (ha:PE X e te)(hr:PA X es t)(hs:starEach (e::es) X.env=(false,eval e X.env)::starEach es X.env:=by rfl):PA X (e::es) (uN te t):=by
 intro pos a s σ H Q I h;rw[hs];show wpAny _ _ (spliced ((false,eval e X.env)::backTo pos (starEach es X.env))) _ _ s;refine Calls.spliced_cons (bP (ha a s σ H _ I h) fun u d ⟨x,H1,c,g,f⟩=>?_);exact bP (hr pos a d σ H1 _ c f) fun o n ⟨m,b,l,j,i⟩=>⟨x::m,b,l,.cons g j,i⟩
def Il (t:TA):TE:=fun σ H Q=>t σ H fun a H1=>a.length<=sizeLine/\∀ p,H1 p=none->Q (.ref p) (upd H1 p (.tup a))
def Im (t:TA):TE:=fun σ H Q=>t σ H fun a H1=>a.length<=sizeLine/\∀ p,H1 p=none->Q (.ref p) (upd H1 p (.lst a))
theorem Ni {x1}(h:PA X es t):PE X (.Tuple es x1 pos) (Il t):=by
 intro a s σ H Q I hq;refine wpAny_Tuple_spliced (bP (h pos a s σ H _ I hq) fun g c ⟨i,H1,d,r,z,q⟩=>⟨by rw[<-r.length];exact z,?_⟩)
 have f:H1 c.heap.objs.size=none:=d.bb.fresh (ef _);refine⟨.ref c.heap.objs.size,upd H1 c.heap.objs.size (.tup i),d.laid (t':=c.toks) (fun b u e=>ed _ e) (ef _) ?_,rfl,q _ f⟩;exact⟨z,g,r,⟨_,hU _ rfl,rfl,_,rfl⟩⟩
theorem Nj (h:PA X es t):PE X (.List es pos) (Im t):=by
 intro a s σ H Q I hq;refine wpAny_List_spliced (bP (h pos a s σ H _ I hq) fun g c ⟨i,H1,d,r,z,q⟩=>⟨by rw[<-r.length];exact z,?_⟩)
 have f:H1 c.heap.objs.size=none:=d.bb.fresh (ef _);refine⟨.ref c.heap.objs.size,upd H1 c.heap.objs.size (.lst i),d.laid (t':=c.toks) (fun b u e=>ed _ e) (ef _) ?_,rfl,q _ f⟩;exact⟨z,g,0,r,hU _ rfl⟩
abbrev Sp:=List V->Hp->VK->XK->Prop
abbrev Bl:=List Env->Hp->Shared->XK->Value->Shared->Prop
structure xq (P:Program)(w:World)(K:Frag)(mg:Str->Option Value)(base:Heap)(A:Around)(outer:List Env)(s:Shared)(H:Hp):Prop where
 frames:A.frames=some outer
 mod:Mod K mg base
 bs:∀ b o,base.get? b=some o->s.heap.get? b=some o/\H b=none
 Dd:base.objs.size<=s.heap.objs.size
 i6:s.heap.FunFrames base outer
 HH:∀ b∈jb outer,H b=none
 bb:gY P w H s.heap
 bare:AllBare s.gens
def CE (outer:List Env)(P:Program)(w:World)(H:Hp)(s:Shared)(Q:VK)(u:Value)(s':Shared):Prop:=
 ∃ v H',s'.os=s.os/\AllBare s'.gens/\Un (jb outer) [] H H' s.heap s'.heap/\gY P w H' s'.heap/\RelV v u/\Q v H'
def CR (CX:Bl)(outer:List Env)(P:Program)(w:World)(H:Hp)(s:Shared)(Q:VK)(E:XK)(r:Result)(s':Shared):Prop:=
 match r with
 | .ok (.ret u)=>CE outer P w H s Q u s'
 | .ok _=>False
 | .error e=>CX outer H s E e s'
structure eK (P:Program)(w:World)(K:Frag)(mg:Str->Option Value)(base:Heap)(CX:Bl)(k:Nat)(f:Addr)(fd:FuncData)(ps:List Str)(sp:Sp):Prop where
 len:∀ vs H Q E,sp vs H Q E->vs.length=ps.length
 run:∀ (A:Around) (outer:List Env) (s:Shared) (H:Hp) (args:Args) (us:List Value) (vs:List V) (Q:VK) (E:XK),bY k A->xq P w K mg base A outer s H->BindsTo s fd args (ps.zip us)->Vals vs us->sp vs H Q E->
  codeAny (model P w) A (.call (.ref f) args) (CR CX outer P w H s Q E) s
variable {mg:Str->Option Value}{base:Heap}{outer:List Env}
theorem xq.make (e:xq P w K mg base A outer s H)(C:Addr)(us:List Value)(kw:List (Str × Value)) :
  xq P w K mg base (A.under (.builtin "type.__call__" ⟨.ref C::us,kw⟩)) outer s H:=⟨by first | exact e.frames | (simpa [Around.under,Code.envs,Code.isFrame,pushEnvs] using e.frames),e.mod,e.bs,e.Dd,e.i6,e.HH,e.bb,e.bare⟩
theorem Inv.Nk (I:Inv X pins σ H s):xq X.prog X.w X.K X.mg X.base X.A X.stack s H:=
 ⟨I.ok.frames,I.ok.mod,I.bs,ka I.ok.Dd I.sz,I.stack,I.mH,I.bb,I.bare⟩
variable {Q:VK}
theorem Inv.after (I:Inv X pins σ H s)(h:CE X.stack X.prog X.w H s Q u s'):EP X pins σ Q u s':=by
 obtain⟨v,j,e,a,un,i,r,q⟩:=h;obtain⟨f,g,d,t,c⟩:=s';obtain rfl:c=s.os:=e;exact⟨v,j,I.call (h':=f) (g':=g) (d':=d) (t':=t) (ch:=[]) un i a (fun b z=>absurd z (by simp)),r,q⟩
def nk (sp:Sp)(mW:List V)(E:XK)(t:TA):TE:=fun σ H Q=>t σ H fun a H1=>sp (a++mW) H1 Q E
def qi (C:Addr)(m:Str)(sp:Sp)(mW:List V)(E:XK)(ta:TE)(t:TA):TE:=fun σ H Q=>ta σ H fun x H1=>∃ a dx fs,x=.ref a/\H1 a=some (.ins C dx fs)/\fs.lookup m=none/\
 t σ H1 fun b c=>sp (x::(b++mW)) c Q E
def qj (C:Addr)(sp:Sp)(mW:List V)(E:XK)(t:TA):TE:=fun σ H Q=>t σ H fun a H1=>∀ x dx,H1 x=none->H1 dx=none->dx≠x->
 sp (.ref x::(a++mW)) (upd (upd H1 dx (.own x)) x (.ins C dx [])) (fun v b=>v=.br/\Q (.ref x) b) E
def Binds (K:Frag)(fd:FuncData)(ps:List Str)(ds:List Value):Prop:=
 ∀ (s:Shared) (us:List Value),K.In s.heap->(us++ds).length=ps.length->BindsTo s fd ⟨us,[]⟩ (ps.zip (us++ds))
variable {fd:FuncData}{ps:List Str}
theorem Binds.all (h:∀ us:List Value,us.length=ps.length->bindArgs fd ⟨us,[]⟩=pure (ps.zip us)):Binds K fd ps []:=fun s us _ a=>by
 rw[Um] at a ⊢;exact .of_eq (h us a)
def Passes (CX:Bl)(X:Cx)(E:XK):Prop:=∀ (pins:List (Addr × Obj)) (σ:St) (H:Hp) (s:Shared) (e:Value) (s':Shared),Inv X pins σ H s->CX X.stack H s E e s'->X.xe e s'
variable {CX:Bl}{k:Nat}{f:Addr}{sp:Sp}{mW vs:List V}{ds:List Value}{E:XK}
theorem xr {σ:St}(F:eK X.prog X.w X.K X.mg X.base CX k f fd ps sp)(hr:bY k X.A)(hb:Binds X.K fd ps ds)(hd:Vals mW ds)(hx:Passes CX X E)
  (I:Inv X pins σ H s) (r:Vals vs us) (h:sp (vs++mW) H Q E):wpAny (model X.prog X.w) X.A (call (.ref f) us) (EP X pins σ Q) X.xe s:=by
 have a:Vals (vs++mW) (us++ds):=r.append hd;have d:(us++ds).length=ps.length:=by rw[<-a.length];exact F.len _ _ _ _ h
 refine wpAny_call (Ui (F.run X.A X.stack s H ⟨us,[]⟩ (us++ds) (vs++mW) Q E hr I.Nk (hb s us I.pf d) a h) fun r b hq=>?_)
 cases r with
 | error e=>exact hx pins σ H s e b I hq
 | ok c=>
  cases c with
  | ret u=>exact I.after hq
  | next=>exact False.elim hq
  | brk=>exact False.elim hq
  | cont=>exact False.elim hq
variable {x:Str}
theorem rH (F:eK X.prog X.w X.K X.mg X.base CX k f fd ps sp)(hr:bY k X.A)(hg:Gl X x)(hm:X.mg x=some (.ref f))(hk:keepIn X.K (.ref f)=true)(hb:Binds X.K fd ps ds)(hd:Vals mW ds)(hx:Passes CX X E)
  (ha:PA X (e::es) t) (hdb:(x == ("__debug__":Str))=false:=by decide) (he:starEach (e::es) X.env=(false,eval e X.env)::starEach es X.env:=by rfl) (hpl:(backTo pos (starEach es X.env)).any (·.1)=false:=by rfl) :
  PE X (.Call (.Name x p) (e::es) [] pos) (nk sp mW E t):=by
 intro a s σ H Q I h;refine wpAny_Call_Name_kw (jJ I hg hm ?_ hdb);refine callWith_K (h₀:=X.base) I.ok.mod.MD hk (bP (ha pos a s σ H _ I h) fun g d ⟨c,H1,b,r,q⟩=>⟨b.pf,?_⟩) he hpl;exact xr F hr hb hd hx b r q
variable {apos:Pos}{o:Expr}
theorem Io (he:PE X o ta)(c:K5 X.K C)(hm:Meth X.K C m f)(F:eK X.prog X.w X.K X.mg X.base CX k f fd ps sp)(hr:bY k X.A)(hb:Binds X.K fd ps ds)(hd:Vals mW ds)(hx:Passes CX X E)(ha:PA X (e::es) t)
  (hst:starEach (e::es) X.env=(false,eval e X.env)::starEach es X.env:=by rfl) (hpl:(backTo pos (starEach es X.env)).any (·.1)=false:=by rfl)
  (ht:eval (.Call (.Attribute o m apos) (e::es) [] pos) X.env=(do
   let ov<-eval o X.env
   standAt apos.atName
   let (f,first)<-holding [ov] (getMethod ov m pl)
   callWith pos f first (backTo pos (starEach (e::es) X.env)) (backToKw pos (keywordEach [] X.env))):=by rfl) :
  PE X (.Call (.Attribute o m apos) (e::es) [] pos) (qi C m sp mW E ta t):=by
 intro b s σ H Q I h;refine methodCall_KW (pl:=pl) (bP (he b s σ H _ I h) fun u n ⟨x,H1,g,j,a,B,fs,p,i,l,q⟩=>?_) ht;subst p;obtain rfl:u=Value.ref a:=j;refine jn g i c hm l ?_;refine callWith_K (first:=[.ref a]) (h₀:=X.base) I.ok.mod.MD hm.kp (bP (ha pos b n σ H1 _ g q) fun us y ⟨vs,z,d,r,v⟩=>⟨d.pf,?_⟩) hst hpl
 exact xr (us:=.ref a::us) (vs:=.ref a::vs) F hr hb hd hx d (.cons rfl r) v
theorem Dx (he:PE X o ta)(c:K5 X.K C)(hm:Meth X.K C m f)(F:eK X.prog X.w X.K X.mg X.base CX k f fd ps sp)(hr:bY k X.A)(hb:Binds X.K fd ps ds)(hd:Vals mW ds)(hx:Passes CX X E)
  (ht:eval (.Call (.Attribute o m apos) [] [] pos) X.env=(do
   let ov<-eval o X.env
   standAt apos.atName
   let (f,first)<-holding [ov] (getMethod ov m pl)
   callWith pos f first (backTo pos (starEach [] X.env)) (backToKw pos (keywordEach [] X.env))):=by rfl) :
  PE X (.Call (.Attribute o m apos) [] [] pos) (qi C m sp mW E ta uM):=by
 intro b s σ H Q I h;refine methodCall_KW (pl:=pl) (bP (he b s σ H _ I h) fun u n ⟨x,H1,d,g,a,j,fs,i,e,l,q⟩=>?_) ht;subst i;obtain rfl:u=Value.ref a:=g;refine jn d e c hm l ?_;exact PySem.W.callWith_K0 (first:=[.ref a]) d.pf hm.kp (xr (us:=[.ref a]) (vs:=[.ref a]) F hr hb hd hx d (.cons rfl .nil) q)
structure Mk (K:Frag)(C f:Addr):Prop where
 makes:makesIn K C=true
 init:findIn K (.ref C) "__init__"=some (some (.ref f))
 fn:isFn K (.ref f)=true
 kp:keepIn K (.ref C)=true
theorem Dy {σ:St}(M:Mk X.K C f)(F:eK X.prog X.w X.K X.mg X.base CX k f fd ps sp)(hr:bY (k+1) X.A)(hb:Binds X.K fd ps ds)(hd:Vals mW ds)
  (hx:Passes CX X E) (I:Inv X pins σ H s) (r:Vals vs us)
  (h:∀ x dx,H x=none->H dx=none->dx≠x->sp (.ref x::(vs++mW)) (upd (upd H dx (.own x)) x (.ins C dx [])) (fun v H2=>v=.br/\Q (.ref x) H2) E) :
  wpAny (model X.prog X.w) X.A (call (.ref C) us) (EP X pins σ Q) X.xe s:=by
 have hq:=h (s.heap.objs.size+1) s.heap.objs.size (I.bb.fresh (le_succ _)) (I.bb.fresh (ef _)) (nt (UD _));have b:=Inv.made (C:=C) I;have c:Vals (V.ref (s.heap.objs.size+1)::(vs++mW)) (Value.ref (s.heap.objs.size+1)::(us++ds)):=.cons rfl (r.append hd);have l:(Value.ref (s.heap.objs.size+1)::us++ds).length=ps.length:=by
  have e:=c.length;rw[F.len _ _ _ _ hq] at e;exact e.symm
 refine wpAny_call (Dw (f:=f) I.pf M.makes M.init (beq_iff_eq.mp M.fn) (Ui (F.run _ X.stack _ _ ⟨Value.ref (s.heap.objs.size+1)::us,[]⟩ (Value.ref (s.heap.objs.size+1)::(us++ds)) _ _ E (hr.make C us [])
  (b.Nk.make C us []) (hb _ (Value.ref (s.heap.objs.size+1)::us) b.pf l) c hq) fun r d a=>?_))
 cases r with
 | error e=>exact hx pins σ _ _ e d b a
 | ok n=>
  cases n with
  | ret u=>
   obtain⟨v,o,g,i,j,m⟩:=b.after a;subst j;exact⟨i,⟨V.ref (s.heap.objs.size+1),o,g,rfl,m⟩⟩
  | next=>exact False.elim a
  | brk=>exact False.elim a
  | cont=>exact False.elim a
theorem zD (M:Mk X.K C f)(F:eK X.prog X.w X.K X.mg X.base CX k f fd ps sp)(hr:bY (k+1) X.A)(hg:Gl X x)(hm:X.mg x=some (.ref C))(hb:Binds X.K fd ps ds)(hd:Vals mW ds)(hx:Passes CX X E)
  (ha:PA X (e::es) t) (hdb:(x == ("__debug__":Str))=false:=by decide) (he:starEach (e::es) X.env=(false,eval e X.env)::starEach es X.env:=by rfl) (hpl:(backTo pos (starEach es X.env)).any (·.1)=false:=by rfl) :
  PE X (.Call (.Name x p) (e::es) [] pos) (qj C sp mW E t):=by
 intro a s σ H Q I h;refine wpAny_Call_Name_kw (jJ I hg hm ?_ hdb);refine callWith_K (h₀:=X.base) I.ok.mod.MD M.kp (bP (ha pos a s σ H _ I h) fun g d ⟨c,H1,b,r,q⟩=>⟨b.pf,?_⟩) he hpl;exact Dy M F hr hb hd hx b r q
variable {ks:List Str}
structure Nl (K:Frag)(fd:FuncData)(ps ks:List Str)(g:List Value->List Value->List Value)(gV:List V->List V->List V):Prop where
 to:∀ (s:Shared) (us ws:List Value),K.In s.heap->(g us ws).length=ps.length->BindsTo s fd ⟨us,ks.zip ws⟩ (ps.zip (g us ws))
 rel:∀ {vs:List V} {us:List Value} {zs:List V} {ws:List Value},Vals vs us->Vals zs ws->Vals (gV vs zs) (g us ws)
structure jM (N P:List Str)(sc:Scope):Prop where
 kind:sc.kind=.function
 co:sc.isCoroutine=false
 gen:sc.isGenerator=false
 nd:N.Nodup
 pre:N.take P.length=P
 par:∀ x∈P,sc.names.lookup x=some .local∨sc.names.lookup x=some .cell
 OX:∀ y∈sc.names,y.2≠.free
theorem qk {kindOf:Str->Option NameKind}{x:Str}:∀ {binds:List (Str × Value)} {m:Str->Option Value},(∀ v,(x,v)∉binds)->bindL kindOf binds m x=m x
 | [],_,_=>rfl
 | (n,v)::r,m,h=>by
  unfold bindL;rw[qk fun w a=>h w (fA _ a)]
  split
  ·have:x≠n:=by rintro rfl;exact h v fO
   simp[this]
  ·rfl
theorem ql {kindOf:Str->Option NameKind}{x:Str}:∀ {binds:List (Str × Value)} {m:Str->Option Value},(∀ v,(x,v)∉binds)->bindC kindOf binds m x=m x
 | [],_,_=>rfl
 | (n,v)::r,m,h=>by
  unfold bindC;rw[ql fun w a=>h w (fA _ a)]
  split
  ·rfl
  ·have:x≠n:=by rintro rfl;exact h v fO
   simp[this]
theorem qm {kindOf:Str->Option NameKind}{x:Str}{v:Value}:∀ {P:List Str} {vs:List Value} {i:Nat} {m:Str->Option Value},P.Nodup->P[i]?=some x->vs[i]?=some v->kindOf x=some .local->
  bindL kindOf (P.zip vs) m x=some v
 | [],_,_,_,_,h,_,_=>by simp at h
 | _::_,[],_,_,_,_,h,_=>by simp at h
 | p::P,w::vs,0,m,b,h1,a,hk=>by
  simp at h1 a;subst h1;subst a
  show bindL kindOf ((p,w)::P.zip vs) m p=_;unfold bindL;rw[qk fun v hv=>(vr.mp b).1 (List.of_mem_zip hv).1,if_pos hk]
  simp
 | p::P,w::vs,i+1,m,b,h1,a,hk=>by
  show bindL kindOf ((p,w)::P.zip vs) m x=_;unfold bindL;exact qm (i:=i) (vr.mp b).2 (by simpa using h1) (by simpa using a) hk
theorem qo {kindOf:Str->Option NameKind}{x:Str}{v:Value}:∀ {P:List Str} {vs:List Value} {i:Nat} {m:Str->Option Value},P.Nodup->P[i]?=some x->vs[i]?=some v->kindOf x≠some .local->
  bindC kindOf (P.zip vs) m x=some v
 | [],_,_,_,_,h,_,_=>by simp at h
 | _::_,[],_,_,_,_,h,_=>by simp at h
 | p::P,w::vs,0,m,b,h1,a,hk=>by
  simp at h1 a;subst h1;subst a
  show bindC kindOf ((p,w)::P.zip vs) m p=_;unfold bindC;rw[ql fun v hv=>(vr.mp b).1 (List.of_mem_zip hv).1,if_neg hk]
  simp
 | p::P,w::vs,i+1,m,b,h1,a,hk=>by
  show bindC kindOf ((p,w)::P.zip vs) m x=_;unfold bindC;exact qo (i:=i) (vr.mp b).2 (by simpa using h1) (by simpa using a) hk
def start (N:List Str)(vs:List V):St:=vs.map some++List.replicate (N.length - vs.length) none
def fE (CX:Bl)(P:Program)(w:World)(K:Frag)(mg:Str->Option Value)(base:Heap)(N:List Str)(qual:Str)(scope:Scope)(f:Addr)(cd:Value)(A:Around)(outer:List Env)(s:Shared)(H:Hp)(E:XK):Cx where
 prog:=P
 w:=w
 K:=K
 mg:=mg
 base:=base
 A:=A.deeper (envOfC qual scope s.heap.objs.size f cd)
 N:=N
 s₀:=s
 H₀:=H
 env:=envOfC qual scope s.heap.objs.size f cd
 outer:=outer
 stack:=envOfC qual scope s.heap.objs.size f cd::outer
 ex:=[]
 calm:=true
 fn:=fun _=>true
 pn:=[]
 xe:=fun e b=>wpAny (model P w) (A.deeper (envOfC qual scope s.heap.objs.size f cd)) (leaving (envOfC qual scope s.heap.objs.size f cd) e) (fun _ a=>CX outer H s E e a) (fun c a=>CX outer H s E c a) b
variable {sc:Scope}
theorem uO {x:Str}(h:sc.names.lookup x=some .cell):∃ c,(cellsFrom n sc.names []).lookup x=some c:=by
 have q:=cellsFrom_some sc.names n [] (.inl h);exact Option.isSome_iff_exists.mp q
variable {qual:Str}{scope:Scope}{cd:Value}
theorem Bm {s1:Shared} 
  (S:jM N ps scope) (hd:A.handled=none) (e0:xq P w K mg base A outer s H) (hl:vs.length=ps.length) (r:Vals vs us)
  (x:InCallC s s.heap.objs.size (bindL (envOfC qual scope s.heap.objs.size f cd).kindOf (ps.zip us) fun _=>none) (cellsFrom (s.heap.objs.size+1) scope.names []) (bindC (envOfC qual scope s.heap.objs.size f cd).kindOf (ps.zip us) fun _=>none) s1) :
  Inv (fE CX P w K mg base N qual scope f cd A outer s H E) [] (start N vs) H s1:=by
 have o:ps.length<=N.length:=by have:=L4 List.length S.pre;rw[qN] at this;omega
 obtain⟨h1,B,rfl,hk⟩:=x.done;have g:∀ b:Addr,b∉(fE CX P w K mg base N qual scope f cd A outer s H E).ex:=fun b z=>absurd (show b∈([]:List Addr) from z) (by simp)
 refine⟨⟨e0.mod,S.kind,rfl,rfl,ef _,fun y z c h1 d=>?_,fun y hy=>?_,fun y c _ h=>?_,fun _=>hd,Around.frames_deeper e0.frames,.inr ⟨rfl,rfl⟩,fun b z=>absurd z (g b),e0.bs,e0.Dd,fun b _ _=>g b,fun b z=>absurd z (g b),e0.i6,e0.HH⟩,
  rfl,e0.bare,Un.kept hk,⟨_,x.toInCall.ns,fun i y v h1 d C=>?_⟩,fun y c h=>⟨_,x.cell y c h⟩,e0.bb.fresh (ef _),fun y c h=>?_,fun p j=>absurd (show p∈([]:List (Addr × Obj)) from j) (by simp),e0.bb.kept hk,?_⟩
 ·exact name_of_addr x.apart (Gc h1) (Gc d)
 ·have hy:scope.names.lookup y=some .cell∨scope.names.lookup y=some .free:=hy
  rcases hy with hy | hy
  ·exact uO hy
  ·exact absurd rfl (S.OX _ (Gc hy))
 ·exact Nat.le_of_lt (x.above y c (Gc h))
 ·have hi:i<vs.length:=by
   unfold start at d
   by_cases hi:i<vs.length
   ·exact hi
   ·rw[zk (by simpa using hi)] at d
    rw[List.getElem?_replicate] at d
    split at d<;>cases d
  have t:vs[i]?=some v:=by
   unfold start at d;rw[F8 (by simpa using hi),ey] at d
   cases e:vs[i]? with
   | none=>rw[e] at d;cases d
   | some a=>rw[e] at d;cases d;rfl
  obtain⟨u,hu,m⟩:=r.get t;have j:ps[i]?=some y:=by
   rw[<-S.pre,Uo (by omega)];exact h1
  have l:ps.Nodup:=by rw[<-S.pre];exact S.nd.sublist (take_sublist _ _)
  refine⟨u,m,?_⟩
  rcases S.par y (gc j) with k | k
  ·exact .inl ⟨k,qm l j hu k⟩
  ·obtain⟨c,e⟩:=uO (n:=s.heap.objs.size+1) k;refine .inr ⟨.inl k,c,e,?_⟩;have q:=x.cell y c e;rw[qo l j hu (by show scope.names.lookup y≠_;rw[k];decide)] at q
   exact q
 ·exact e0.bb.fresh (Nat.le_of_lt (x.above y c (Gc h)))
 ·unfold start;show _=N.length;rw[fz,di,Ut]
  omega
variable {doc pm cp oc:Value}{an od:Option Addr}{osl:Array (Option Value)}
theorem uP {k:Nat}{params:Arguments}{dV kV ct:Value} 
  (lk:K.lookup f=some ⟨oc,od,.func (fnOf name qual params body scope dV kV doc pm an cp ct),osl⟩) (hcd:codeIn K cp qual=true) (S:jM N ps scope)
  (len:∀ vs H Q E,sp vs H Q E->vs.length=ps.length)
  (cU:∀ (A:Around) (outer:List Env) (s:Shared) (H:Hp) (vs:List V) (Q:VK) (E:XK),bY k (A.deeper (envOfC qual scope s.heap.objs.size f cp))->sp vs H Q E->
   ∃ t,w9 (fE CX P w K mg base N qual scope f cp A outer s H E) body t/\t {nx:=fun _ H'=>Q .br H',rt:=Q} (start N vs) H) :
  eK P w K mg base CX (k+1) f (fnOf name qual params body scope dV kV doc pm an cp ct) ps sp:=by
 refine⟨len,fun A outer s H p D vs Q E m g hb r c=>?_⟩;have M:=len _ _ _ _ c;have z:K.In s.heap:=g.mod.MD.keeps fun b o e=>(g.bs b o e).1;have i:s.heap.NoLimit:=g.mod.nolimit.keeps fun b o e=>(g.bs b o e).1;have a:∀ y∈ps.zip D,scope.names.lookup y.1=some .local∨(scope.names.lookup y.1=some .cell/\((cellsFrom (s.heap.objs.size+1) scope.names []).lookup y.1).isSome=true):=fun ⟨n,v⟩ hy=>by
  rcases S.par n (List.of_mem_zip hy).1 with q | q
  ·exact .inl q
  ·exact .inr ⟨q,cellsFrom_some _ _ _ (.inl q)⟩
 refine codeAny_call_function m.depth (z _ _ lk) rfl S.co S.gen rfl (PySem.W.codeRec_of z hcd) (hb _ _ _ _ ?_);refine wpAny_newFunctionEnv_cells S.kind a fun C he B x=>?_;subst he;refine⟨i.keeps x.toInCall.keep,codeAny_func ?_⟩;obtain⟨t,F,hq⟩:=cU A outer s H vs Q E (m.deeper _) c;have I:Inv (fE CX P w K mg base N qual scope f cp A outer s H E) [] (start N vs) H B:=Bm S m.hd g M r x;refine wh (F [] B (start N vs) H _ I hq) (fun G l hs=>?_) fun e l hs=>hs;have d:∀ {h:St} {H':Hp} {v:V} {u:Value},Inv (fE CX P w K mg base N qual scope f cp A outer s H E) [] h H' l->RelV v u->Q v H'->CE outer P w H s Q u l:=
  fun {h H' v u} J j q=>⟨v,H',J.os,J.bare,J.base,J.bb,j,q⟩
 cases G with
 | ret u=>
  obtain⟨v,h,H',J,j,q⟩:=hs;exact d J j q
 | next=>
  obtain⟨h,H',J,q⟩:=hs;exact d (v:=V.br) (u:=Value.none) J rfl q
 | brk=>
  obtain⟨_,_,_,q⟩:=hs;exact False.elim q
 | cont=>
  obtain⟨_,_,_,q⟩:=hs;exact False.elim q
def Nm (r:List V->Hp->VK->Prop)(t:TA):TE:=fun σ H Q=>t σ H fun a H1=>r a H1 Q
variable {id:String}{r:List V->Hp->VK->Prop}
theorem Dz (hc:bQ X (.builtin id) r)(hg:Gl X x)(hm:X.mg x=none)(hv:bootBuiltins x=some (.builtin id))(ha:PA X (e::es) t)(hn:x≠"__name__":=by decide)(hdb:(x == ("__debug__":Str))=false:=by decide)
  (he:starEach (e::es) X.env=(false,eval e X.env)::starEach es X.env:=by rfl) (hpl:(backTo pos (starEach es X.env)).any (·.1)=false:=by rfl):PE X (.Call (.Name x p) (e::es) [] pos) (Nm r t):=by
 intro a s σ H Q I h;refine wpAny_Call_Name_kw (kK I hg hm hv ?_ hn hdb);exact PyProof.Rows.callWith_builtin1 (bP (ha pos a s σ H _ I h) fun i g ⟨c,H1,f,d,b⟩=>hc a g σ H1 c i Q f d b) he hpl
variable {T:String}
theorem Bo (hc:bQ X (.type T) r)(hg:Gl X x)(hm:X.mg x=none)(hv:bootBuiltins x=some (.type T))(ha:PA X (e::es) t)(hn:x≠"__name__":=by decide)(hdb:(x == ("__debug__":Str))=false:=by decide)
  (he:starEach (e::es) X.env=(false,eval e X.env)::starEach es X.env:=by rfl) (hpl:(backTo pos (starEach es X.env)).any (·.1)=false:=by rfl):PE X (.Call (.Name x p) (e::es) [] pos) (Nm r t):=by
 intro a s σ H Q I h;refine wpAny_Call_Name_kw (kK I hg hm hv ?_ hn hdb);exact KM (bP (ha pos a s σ H _ I h) fun i g ⟨c,H1,f,d,b⟩=>hc a g σ H1 c i Q f d b) he hpl
end L2
namespace HT
open PySem PyProof.Rows PySem.SeqAt
open PySem.AutoSeq1 (wpAny_loadPart')
variable {prog:Program}{w:World}{A:Around}{E:Value->Shared->Prop}{s:Shared}{t:Addr}{vs:List Value}
theorem Ip {b:Addr}{ws:List Value}{Q:Value->Shared->Prop}(ht:IsTup s.heap t vs.toArray)(hb:IsTup s.heap b ws.toArray)(hv:vs≠[])
  (h1:ws=[]->Q (.ref t) s) (h2:ws≠[]->Q (.ref s.heap.objs.size) {s with heap:=s.heap.push {cls:=.type "tuple",data:=.seq (vs++ws).toArray}})
  (hsz:vs.length+ws.length<=sizeLine):wpAny (model prog w) A (binaryOp .Add (.ref t) (.ref b)) Q E s:=by
 obtain⟨⟨cls,q,data,p⟩,h,hc,n,m⟩:=id ht;obtain⟨⟨o,d,j,g⟩,a,f,l,c⟩:=id hb
 simp only at hc m f c
 subst hc m f c;have e:vs.toArray++ws.toArray=(vs++ws).toArray:=by simp
 by_cases i:ws=[]
 ·exact concat_meets ⟨_,h,rfl⟩ ⟨_,a,rfl⟩ noFill_tuple_add seq_tuple_add slot_tuple_add entry_tuple_add (args_tuple_add_2 _ _)
   (tuple_addW1 t b vs.toArray ws.toArray n l q d p g (by simpa using hv) (by simp[i])) ⟨h,a,h1 i⟩
 ·refine concat_meets ⟨_,h,rfl⟩ ⟨_,a,rfl⟩ noFill_tuple_add seq_tuple_add slot_tuple_add entry_tuple_add (args_tuple_add_2 _ _)
   (tuple_addW2 t b vs.toArray ws.toArray n l q d p g (by simpa using hv) (by simpa using i) (by rw[List.size_toArray,List.size_toArray];exact hsz)) ⟨h,a,?_⟩
  rw[e];exact h2 i
def dZ (n d:Nat):Option Int->Nat
 | none=>d
 | some v=>if v<0 then (v+(n:Int)).toNat else min v.toNat n
theorem jN (n d:Nat):dZ n d none=d:=rfl
theorem iS (n d k:Nat):dZ n d (some (k:Int))=min k n:=by
 show (if (k:Int)<0 then ((k:Int)+(n:Int)).toNat else min (k:Int).toNat n)=min k n
 rw[if_neg (by omega),toNat_natCast]
theorem Nn (n d:Nat)(hd:d<=n)(o:Option Int):dZ n d o<=n:=by
 cases o with
 | none=>exact hd
 | some v=>
  show (if v<0 then (v+(n:Int)).toNat else min v.toNat n)<=n
  by_cases hv:v<0
  ·rw[if_pos hv];omega
  ·rw[if_neg hv];exact Nat.min_le_right _ _
theorem zE (v:Int)(n d:Nat):(if v<0 then max (v+(n:Int)) 0 else min v (n:Int))=((dZ n d (some v):Nat):Int):=by
 show (if v<0 then max (v+(n:Int)) 0 else min v (n:Int))=(((if v<0 then (v+(n:Int)).toNat else min v.toNat n):Nat):Int)
 by_cases hv:v<0
 ·simp only[if_pos hv];omega
 ·simp only[if_neg hv];omega
theorem xt (lo hi:Option Int)(n:Nat):Builtin.Slice.sliceAdjust lo hi 1 (n:Int)=(((dZ n 0 lo:Nat):Int),((dZ n n hi:Nat):Int)):=by
 have h1:¬ ((1:Int)<0):=by omega
 unfold Builtin.Slice.sliceAdjust;simp only[h1,if_false];refine Prod.ext ?_ ?_
 ·cases lo with
  | none=>rfl
  | some v=>exact zE v n 0
 ·cases hi with
  | none=>rfl
  | some v=>exact zE v n n
theorem xu (i j:Nat):Builtin.Slice.slicePlaces (i:Int) (j:Int) 1=j - i:=by
 unfold Builtin.Slice.slicePlaces;have h1:(1:Int)>0:=by omega
 simp only[h1,if_true,Int.ediv_one]
 split<;>omega
variable {v:Value}
theorem nq {o:Option Int}{Q:Option Int->Shared->Prop}(p:IsPart v o)(h:Q o s):wpAny (model prog w) A (Builtin.Slice.slicePartIndex v) Q E s:=by
 cases p with
 | none=>exact slicePart_none h
 | int i t=>exact slicePart_int h
variable {lo:Option Int}{sl:Addr}{vl vu:Value}
theorem kP {hi:Option Int}{n:Nat}{Q:Int × Int × Nat->Shared->Prop}(hs:s.heap.IsSliceOf sl vl vu .none)(pl:IsPart vl lo)(pu:IsPart vu hi)
  (h:Q (((dZ n 0 lo:Nat):Int),1,dZ n n hi - dZ n 0 lo) s):wpAny (model prog w) A (Builtin.Slice.sliceApplied (.ref sl) (pure (n:Int))) Q E s:=by
 obtain⟨d,a,c,b⟩:=id hs;unfold Builtin.Slice.sliceApplied Builtin.Slice.sliceFields;refine wpAny_bind (wpAny_bind (wpAny_field a b (x:=vl) rfl (wpAny_bind (wpAny_field a b (x:=vu) rfl (wpAny_bind (wpAny_field a b (x:=.none) rfl (wpAny_pure ?_)))))));refine wpAny_bind (slicePart_none ?_);show wpAny _ _ (if ((1:Int) == 0)=true then _ else _) _ _ s
 rw[if_neg (by decide)]
 refine wpAny_bind (nq pl (wpAny_bind (nq pu (wpAny_bind (wpAny_pure ?_)))));show wpAny _ _ (match Builtin.Slice.sliceAdjust lo hi 1 (n:Int) with | (lo,hi)=>pure (lo,(1:Int),Builtin.Slice.slicePlaces lo hi 1)) _ _ s
 rw[xt lo hi n];show wpAny _ _ (pure (((dZ n 0 lo:Nat):Int),(1:Int),Builtin.Slice.slicePlaces ((dZ n 0 lo:Nat):Int) ((dZ n n hi:Nat):Int) 1)) _ _ s;rw[xu];exact wpAny_pure h
theorem DA (xs:Array Value)(i k:Nat):((List.range k).filterMap fun (m:Nat)=>xs[((i:Int)+(m:Int)*1).toNat]?).toArray=((xs.toList.drop i).take k).toArray:=by
 have e:(fun (m:Nat)=>xs[((i:Int)+(m:Int)*1).toNat]?)=fun m=>xs[i+m]?:=by
  funext m
  have:((i:Int)+(m:Int)*1).toNat=i+m:=by omega
  rw[this]
 rw[e]
 have:=pick_run xs i k
 rw[List.filterMap_map] at this;have a:((fun x=>xs[x]?) ∘ fun x=>i+x)=fun m=>xs[i+m]?:=rfl;rw[a] at this;rw[this]
variable {Q:Value->Shared->Prop}{items:Array Value}
theorem jO {hi:Option Int}(ht:IsTup s.heap t items)(hs:s.heap.IsSliceOf sl vl vu .none)(pl:IsPart vl lo)(pu:IsPart vu hi)
  (hw:¬ (dZ items.size 0 lo=0/\dZ items.size items.size hi=items.size))
  (h:Q (.ref s.heap.objs.size) {s with heap:=s.heap.push {cls:=.type "tuple",data:=.seq ((items.toList.drop (dZ items.size 0 lo)).take (dZ items.size items.size hi - dZ items.size 0 lo)).toArray}})
  (hsz:items.size<=sizeLine):wpAny (model prog w) A (getItem (.ref t) (.ref sl)) Q E s:=by
 have a:sizeOk (.seq ((items.toList.drop (dZ items.size 0 lo)).take (dZ items.size items.size hi - dZ items.size 0 lo)).toArray):=by
  show ((items.toList.drop (dZ items.size 0 lo)).take (dZ items.size items.size hi - dZ items.size 0 lo)).toArray.size<=sizeLine;rw[List.size_toArray,length_take,length_drop,Array.length_toList]
  omega
 have hj:dZ items.size items.size hi<=items.size:=Nn _ _ (Nat.le_refl _) hi;obtain⟨f,e,c,g⟩:=id hs;have d:s.TypeIs (.ref sl) "slice":=⟨f,e,c⟩;unfold getItem
 try with_reducible refine wpAny_holding ?_
 first | refine wpAny_bind (wpAny_pure ?_) | skip
 refine wpAny_bind (wpAny_sequenceKey ht.typeIs (by decide) ?_)
 refine wpAny_bind (wpAny_callSpecial?_slot (name:=Str.ofString "__getitem__") ht.typeIs PyProof.Rows.slot_tuple_getitem
  (wpAny_call_entry PyProof.Rows.slot_tuple_getitem ht.typeIs entry_tuple_getitem ?_ (args_tuple_getitem _ _)))
 show wpAny _ _ (Builtin.Tuple.tupleItemsOf (.ref t) >>= _) _ _ s;refine wpAny_bind (tupleItemsOf_ ht ?_);refine wpAny_bind (wpAny_typeOf d ?_);rw[if_pos (by decide)]
 refine wpAny_bind (kP hs pl pu ?_);have b:¬ ((((dZ items.size 0 lo:Nat):Int) == 0&&(1:Int) == 1&&(dZ items.size items.size hi - dZ items.size 0 lo) == items.size)=true):=by
  intro q;rw[Bool.and_eq_true,Bool.and_eq_true] at q;have i:((dZ items.size 0 lo:Nat):Int)=0:=eq_of_beq q.1.1;have j:dZ items.size items.size hi - dZ items.size 0 lo=items.size:=eq_of_beq q.2;exact hw ⟨by omega,by omega⟩
 show wpAny _ _ (if (((dZ items.size 0 lo:Nat):Int) == 0&&(1:Int) == 1&&(dZ items.size items.size hi - dZ items.size 0 lo) == items.size)=true then _ else _) _ _ s
 rw[if_neg b,DA]
 first
  | exact wpAny_bind (m:=Builtin.Tuple.tupleExact _) (wpAny_newObj_type (wpAny_pure ⟨_,rfl,wpAny_pure h⟩) a)
  | exact wpAny_bind (m:=Builtin.Tuple.tupleExact _) (wpAny_newObj_type (wpAny_bind (wpAny_pure (wpAny_pure ⟨_,rfl,wpAny_pure h⟩))) a)
  | exact wpAny_bind (wpAny_bind (m:=Builtin.Tuple.tupleExact _) (wpAny_newObj_type (wpAny_pure (wpAny_pure ⟨_,rfl,wpAny_pure h⟩)) a))
  | exact wpAny_bind (wpAny_bind (m:=Builtin.Tuple.tupleExact _) (wpAny_newObj_type (wpAny_pure ⟨_,rfl,wpAny_pure h⟩) a))
end HT
namespace L2
open PySem PySem.Spec PyProof.Rows
abbrev TO:=St->Hp->(Option Int->Hp->Prop)->Prop
def PO (X:Cx)(e:Option Expr)(t:TO):Prop:=
 ∀ (pins:List (Addr × Obj)) (s:Shared) (σ:St) (H:Hp) (Q:Option Int->Hp->Prop),Inv X pins σ H s->t σ H Q->
  wpAny (model X.prog X.w) X.A (evalPart e X.env) (fun u a=>∃ o H',Inv X pins σ H' a/\IsPart u o/\Q o H') X.xe s
def rJ:TO:=fun _ H Q=>Q none H
def DB (t:TE):TO:=fun σ H Q=>t σ H fun x H1=>∃ i,x=.int i/\Q (some i) H1
variable {ns:List Int}
theorem intsAre_of:∀ {us:List Value},Vals (ns.map V.int) us->IntsAre us ns:=by
 induction ns with
 | nil=>intro us r;rw[map_nil] at r;cases r;exact .nil
 | cons n ns a=>
  intro us r;rw[pS] at r
  cases r with
  | cons b c=>
   obtain⟨t,e⟩:=b;subst e;exact .cons n t (a c)
variable {X:Cx}
theorem Iq:PO X none rJ:=by
 intro a s σ H Q I h;rw[evalPart_none];exact eR ⟨none,H,I,.none,h⟩
variable {e:Expr}{te:TE}
theorem Ir (h:PE X e te):PO X (some e) (DB te):=by
 intro a s σ H Q I f;rw[evalPart_some];refine bP (h a s σ H _ I f) fun u g ⟨x,H1,b,d,c⟩=>?_;obtain⟨i,rfl,q⟩:=c;obtain⟨t,rfl⟩:=d;exact⟨some i,H1,b,.int i t,q⟩
variable {lo hi:Option Expr}
def Np (X:Cx)(r:V->Option Int->Option Int->Hp->VK->Prop):Prop:=
 ∀ (pins:List (Addr × Obj)) (s:Shared) (σ:St) (H:Hp) (x:V) (v vl vu:Value) (lo hi:Option Int) (sl:Addr) (Q:VK),Inv X pins σ H s->RelV x v->s.heap.IsSliceOf sl vl vu .none->IsPart vl lo->IsPart vu hi->r x lo hi H Q->
  ∃ T id,typeLookup (.type T) "__getitem__"=pure (some (.builtin id))/\s.TypeIs v T/\wpAny (model X.prog X.w) X.A (getItem v (.ref sl)) (EP X pins σ Q) X.xe s
def Su (r:V->Option Int->Option Int->Hp->VK->Prop)(te:TE)(tl th:TO):TE:=fun σ H Q=>te σ H fun x H1=>tl σ H1 fun l b=>th σ b fun u a=>r x l u a Q
variable {pos p2:Pos}{tl:TO}{th:TO}
theorem DC {r:V->Option Int->Option Int->Hp->VK->Prop}(hr:Np X r)(he:PE X e te)(hl:PO X lo tl)(hu:PO X hi th):PE X (.Subscript e (.Slice lo hi none p2) pos) (Su r te tl th):=by
 intro a s σ H Q I h;refine Subscript_ (bP (he a s σ H _ I h) fun v y ⟨x,H1,p,F,z⟩=>?_);refine wpAny_Slice (bP (hl a y σ H1 _ p z) fun f i ⟨l,o,J,D,G⟩=>bP (hu a i σ o _ J G) fun d c ⟨u,g,n,E,t⟩=>?_);rw[evalPart_none];refine eR ?_;have m:Inv X a σ g {c with heap:=c.heap.push {cls:=.type "slice",data:=.fields #[f,d,.none]}}:=n.kept (t':=c.toks) fun b ob q=>ed _ q;obtain⟨T,id,C,B,j⟩:=hr a {c with heap:=c.heap.push {cls:=.type "slice",data:=.fields #[f,d,.none]}} σ g x v f d l u c.heap.objs.size Q m F (Heap.IsSliceOf.new ..) D E t;show wpAny (model X.prog X.w) X.A (subscriptTail e (.Slice lo hi none p2) v (.ref c.heap.objs.size)) (EP X a σ Q) X.xe {c with heap:=c.heap.push {cls:=.type "slice",data:=.fields #[f,d,.none]}};exact tail_any (ops:=[.ref c.heap.objs.size,v]) B C j (by with_unfolding_all rfl)
def jP (xs:List V)(lo hi:Option Int):List V:=(xs.drop (HT.dZ xs.length 0 lo)).take (HT.dZ xs.length xs.length hi - HT.dZ xs.length 0 lo)
theorem lU (xs:List V)(lo hi:Option Int):(jP xs lo hi).length<=xs.length:=by
 unfold jP;rw[qN,tz]
 omega
def Iu (K:Frag):V->Option Int->Option Int->Hp->VK->Prop:=fun x b hi H Q=>∃ a xs,x=.ref a/\aH K H a xs/\
 ¬ (HT.dZ xs.length 0 b=0/\HT.dZ xs.length xs.length hi=xs.length)/\∀ p,H p=none->Q (.ref p) (upd H p (.tup (jP xs b hi)))
theorem Nq:Np X (Iu X.K):=by
 intro g s σ H x v u t e hi p Q I j hs l m h;obtain⟨a,d,rfl,hx,n,q⟩:=h
 cases j
 obtain⟨f,r,i,hz⟩:=I.tuple hx;have c:f.toArray.size=d.length:=by rw[j5];exact r.length.symm
 refine⟨"tuple",_,PyProof.Rows.slot_tuple_getitem.lookup,i.typeIs,?_⟩;refine HT.jO i hs l m (by rw[c];exact n) ?_ (by rw[c];exact hz)
 rw[c];refine⟨.ref s.heap.objs.size,_,I.laid (t':=s.toks) (o:=.tup (jP d e hi)) (fun b ob q=>ed _ q) (ef _) ?_,rfl,q _ (I.bb.fresh (ef _))⟩;exact⟨ka (lU d e hi) hz,_,(r.drop (HT.dZ d.length 0 e)).take (HT.dZ d.length d.length hi - HT.dZ d.length 0 e),IsTup.new _ _⟩
def Po (K:Frag):R2:=fun x y H Q=>∃ a b xs ys,x=.ref a/\y=.ref b/\aH K H a xs/\aH K H b ys/\xs≠[]/\xs.length+ys.length<=sizeLine/\
 (ys=[]->Q (.ref a) H)/\(ys≠[]->∀ p,H p=none->Q (.ref p) (upd H p (.tup (xs++ys))))
theorem Vals.rK {xs:List V}{us:List Value}(r:Vals xs us):us=[]↔xs=[]:=by
 cases r with
 | nil=>simp
 | cons _ _=>simp
theorem Iv:dY X (binaryOp .Add) (Po X.K):=by
 intro e s σ H x y v u Q I i t h;obtain⟨a,b,A,n,rfl,rfl,r,hb,hx,hz,m,p⟩:=h
 cases i
 cases t
 obtain⟨g,d,j,_⟩:=I.tuple r;obtain⟨f,c,l,_⟩:=I.tuple hb;refine HT.Ip j l (fun z=>hx (d.rK.mp z)) (fun z=>⟨.ref a,H,I,rfl,m (c.rK.mp z)⟩) (fun z=>?_) (by rw[<-d.length,<-c.length];exact hz)
 refine⟨.ref s.heap.objs.size,_,I.laid (t':=s.toks) (o:=.tup (A++n)) (fun b ob q=>ed _ q) (ef _) ?_,rfl,p (fun w=>z (c.rK.mpr w)) _ (I.bb.fresh (ef _))⟩;exact⟨by rw[fz];exact hz,_,d.append c,IsTup.new _ _⟩
def DD (n:Nat)(i:Int):Option Nat:=if 0<=i then (if i<n then some i.toNat else none) else if -(n:Int)<=i then some (i+n).toNat else none
def xw {α:Type}(xs:List α)(i:Int):Option α:=(DD xs.length i).bind fun j=>xs[j]?
variable {i:Int}
theorem zF {n:Nat}{j:Nat}(h:DD n i=some j):seqIndex? i n=some j/\j<n/\-(n:Int)<=i/\i<n:=by
 unfold DD at h
 by_cases a:0<=i
 ·rw[if_pos a] at h
  by_cases h1:i<n
  ·rw[if_pos h1] at h;have e:i.toNat=j:=ot h;exact⟨by rw[seqIndex_of a h1,e],by omega,by omega,h1⟩
  ·rw[if_neg h1] at h;cases h
 ·rw[if_neg a] at h
  by_cases h1:-(n:Int)<=i
  ·rw[if_pos h1] at h;have e:(i+n).toNat=j:=ot h;exact⟨by rw[seqIndex_neg (by omega) h1,e],by omega,h1,by omega⟩
  ·rw[if_neg h1] at h;cases h
theorem rL {α:Type}{xs:List α}{v:α}(h:xw xs i=some v):∃ j,seqIndex? i xs.length=some j/\xs[j]?=some v/\j<xs.length/\-(xs.length:Int)<=i/\i<xs.length:=by
 unfold xw at h
 cases e:DD xs.length i with
 | none=>rw[e] at h;cases h
 | some j=>
  rw[e] at h;obtain⟨h1,a,c,b⟩:=zF e;exact⟨j,h1,h,a,c,b⟩
theorem iT {α:Type}{xs:List α}{j:Nat}{v:α}(h:xs[j]?=some v):xw xs (j:Int)=some v:=by
 have hj:j<xs.length:=(mv.mp h).1;have e:DD xs.length (j:Int)=some j:=by
  unfold DD;rw[if_pos (by omega),if_pos (by omega)];simp
 unfold xw;rw[e];exact h
theorem DE {α:Type}(xs:List α)(v:α):xw (xs++[v]) (-1)=some v:=by
 have a:(xs++[v]).length=xs.length+1:=by simp
 have e:DD (xs++[v]).length (-1)=some xs.length:=by
  unfold DD;rw[a,if_neg (by decide),if_pos (by omega)]
  congr 1
  omega
 unfold xw;rw[e];show (xs++[v])[xs.length]?=some v
 simp
def mJ (b:Expr):Prop:=∀ o i,subscripted b false o i=operate [o,i] (getItem o i)
def Nr (X:Cx)(r:R2):Prop:=
 ∀ (value slice:Expr) (pins:List (Addr × Obj)) (s:Shared) (σ:St) (H:Hp) (x y:V) (v u:Value) (Q:VK),Inv X pins σ H s->RelV x v->RelV y u->r x y H Q->
  subscripted slice false v u=operate [v,u] (getItem v u)->wpAny (model X.prog X.w) X.A (subscriptTail value slice v u) (EP X pins σ Q) X.xe s
def xa (X:Cx)(id:String)(r:V->List V->Hp->VK->Prop):Prop:=
 ∀ (pins:List (Addr × Obj)) (s:Shared) (σ:St) (H:Hp) (x:V) (xs:List V) (v:Value) (us:List Value) (Q:VK),Inv X pins σ H s->RelV x v->Vals xs us->r x xs H Q->
  wpAny (model X.prog X.w) X.A (call (.builtin id) (v::us)) (EP X pins σ Q) X.xe s
variable {a b:Expr}{ta tb:TE}
theorem Pp {r:R2}(hr:Nr X r)(ha:PE X a ta)(hb:PE X b tb)(hs:mJ b):PE X (.Subscript a b pos) (rF r ta tb):=by
 intro c s σ H Q I h;exact Subscript_ (Nc ha hb I h fun v u d x y f g e i q=>hr a b c d σ f x y v u Q g e i q (hs _ _))
def uQ (K:Frag):R2:=fun x y H Q=>∃ p xs i v,x=.ref p/\y=.int i/\aB K H p xs/\xw xs i=some v/\Q v H
def Bp (K:Frag):R2:=fun x y H Q=>∃ p xs i v,x=.ref p/\y=.int i/\aH K H p xs/\xw xs i=some v/\Q v H
def Sv:R2:=fun x y H Q=>∃ z i c,x=.str z/\y=.int i/\z.length<=sizeLine/\xw z.cps.toList i=some c/\Q (.str ⟨#[c]⟩) H
theorem Iw:Nr X (uQ X.K):=by
 intro f d a s σ H x y v u Q I n B h hs;obtain⟨p,G,i,z,rfl,rfl,hq,he,q⟩:=h
 cases n
 obtain⟨t,rfl⟩:=B;obtain⟨c,r,g,hz⟩:=I.list hq;obtain⟨j,h1,o,F,D,A⟩:=rL he;obtain⟨w,m,e⟩:=r.get o;have E:=r.length;have hn:=kM;have b:EP X a σ Q w s:=⟨z,H,I,e,q⟩
 by_cases l:0<=i
 ·have hj:i.toNat=j:=by
   rw[seqIndex_of l A] at h1;exact ot h1
  exact item_listR g.isList l (by omega) (by rw[hj];simpa using m) b hs
 ·have hj:(i+(c.toArray.size:Int)).toNat=j:=by
   rw[seqIndex_neg (by omega) D] at h1
   rw[j5,<-E];exact ot h1
  exact subscriptTail_builtinR (x:=w) g.isList.typeIs slot_list_getitem.lookup
   (wpAny_getItem_list_neg (Q:=fun r C=>r=w/\EP X a σ Q r C) g.isList (by omega) (by rw[j5]<;>omega) (by omega) (by rw[hj];simpa using m) ⟨rfl,b⟩) hs
theorem Nt:Nr X (Bp X.K):=by
 intro e c a s σ H x y v u Q I l n h hs;obtain⟨p,E,i,z,rfl,rfl,hq,he,q⟩:=h
 cases l
 obtain⟨t,rfl⟩:=n;obtain⟨g,r,f,hz⟩:=I.tuple hq;obtain⟨j,h1,m,D,F,C⟩:=rL he;obtain⟨w,A,d⟩:=r.get m;have B:=r.length;have hn:=kM;have b:EP X a σ Q w s:=⟨z,H,I,d,q⟩;exact subscriptTail_builtinR (x:=w) f.typeIs slot_tuple_getitem.lookup
  (getItem_tuple (j:=j) (Q:=fun r o=>r=w/\EP X a σ Q r o) f (by omega) (by omega) (by rw[j5,<-B];exact h1) (by simpa using A) ⟨rfl,b⟩) hs
theorem xx:Nr X Sv:=by
 intro b a d s σ H x y v u Q I e p h hs;obtain⟨z,i,c,rfl,rfl,hz,he,q⟩:=h;obtain⟨t,rfl⟩:=e;obtain⟨r,rfl⟩:=p;obtain⟨j,h1,l,w,m,n⟩:=rL he;have g:z.cps.toList.length=z.length:=by simp[Str.length]
 rw[g] at h1 m n;have hn:=kM;exact tail_any (typeIs_str s z t) slot_str_getitem.lookup (getItem_str (c:=c) (by
  have f:decide (i < -(2 ^ 63:Int))=false:=eG (by omega)
  have o:decide (i ≥ 2 ^ 63)=false:=eG (by omega)
  rw[f,o,Bool.or_false]) (by rw[h1];simpa using l) ⟨.str ⟨#[c]⟩,H,I.tok _,⟨_,rfl⟩,q⟩) hs
theorem xy (its:List Value)(n j:Nat)(u:Value):Obj.mapSeq (·.setIfInBounds j u) {cls:=.type "list",data:=.seq its.toArray n}={cls:=.type "list",data:=.seq (its.set j u).toArray n}:=by
 simp[Obj.mapSeq]
theorem Inv.lst {pins:List (Addr × Obj)}{σ:St}{H:Hp}{s:Shared}{p:Addr}{xs:List V}(I:Inv X pins σ H s)(h:H p=some (.lst xs)) :
  ∃ (its:List Value) (n:Nat),Vals xs its/\s.heap.get? p=some {cls:=.type "list",data:=.seq its.toArray n}/\xs.length<=sizeLine:=by
 obtain⟨z,its,n,r,e⟩:=I.bb p _ h;exact⟨its,n,r,e,z⟩
variable {its its':List Value}
theorem Inv.Nu {pins:List (Addr × Obj)}{σ:St}{H:Hp}{s:Shared}{p:Addr}{xs ys:List V}{n n':Nat}{f:Obj->Obj}(I:Inv X pins σ H s)(h:H p=some (.lst xs))
  (ho:s.heap.get? p=some {cls:=.type "list",data:=.seq its.toArray n}) (hf:f {cls:=.type "list",data:=.seq its.toArray n}={cls:=.type "list",data:=.seq its'.toArray n'}) (r:Vals ys its') (hz:ys.length<=sizeLine) (t:Nat) :
  Inv X pins σ (upd H p (.lst ys)) {s with heap:=s.heap.update p f,toks:=t}:=by
 have e:(s.heap.update p f).get? p=some {cls:=.type "list",data:=.seq its'.toArray n'}:=by
  rw[get?_update_self f ho (by rw[hf]<;>rfl),hf]
 refine I.write (x:=p) (e:=p) (by rw[h];trivial) (.inl rfl) (fun b u hb q=>(TY _ _ (Ne.symm hb)).trans q) ⟨_,e⟩ ?_
 exact⟨hz,its',n',r,e⟩
def Pq:V->V->V->Hp->(Hp->Prop)->Prop:=fun o i v H Q=>∃ p xs k j,o=.ref p/\i=.int k/\H p=some (.lst xs)/\DD xs.length k=some j/\Q (upd H p (.lst (xs.set j v)))
theorem set_list:MZ X Pq:=by
 intro a s σ H o i v B D u Q I y z w h;obtain⟨p,A,k,j,rfl,rfl,e,hj,q⟩:=h
 cases y
 obtain⟨t,rfl⟩:=z;obtain⟨b,n,r,c,hz⟩:=I.lst e;obtain⟨h1,C,l,m⟩:=zF hj;have d:=r.length;have hn:=kM;have g:Inv X a σ (upd H p (.lst (A.set j v))) {s with heap:=s.heap.update p (Obj.mapSeq (·.setIfInBounds j u))}:=
  I.Nu e c (xy b n j u) (r.set w j) (by rw[length_set];exact hz) s.toks
 by_cases f:0<=k
 ·have hk:k.toNat=j:=by
   rw[seqIndex_of f m] at h1;exact ot h1
  exact PySem.W.ki_setAt c f (by omega) (by rw[j5,<-d];exact m) (by rw[hk];exact⟨_,g,q⟩)
 ·have hk:(k+(b.toArray.size:Int)).toNat=j:=by
   rw[seqIndex_neg (by omega) l] at h1
   rw[j5,<-d];exact ot h1
  exact PySem.W.ki_setBack c (by omega) (by rw[j5,<-d];exact l) (by omega) (by rw[hk];exact⟨_,g,q⟩)
theorem rM (lo hi:Option Int)(n:Nat):(sliceBounds lo hi none n).1=((HT.dZ n 0 lo:Nat):Int)/\(sliceBounds lo hi none n).2.1=((HT.dZ n n hi:Nat):Int)/\(sliceBounds lo hi none n).2.2=1:=by
 refine⟨?_,?_,rfl⟩
 ·cases lo with
  | none=>simp[sliceBounds,HT.dZ]
  | some i=>
   simp only[sliceBounds,HT.dZ,getD_none,show (1:Int)>0 by decide,if_true]
   by_cases h:i<0
   ·simp only[h,if_true]<;>omega
   ·simp only[h,if_false]<;>omega
 ·cases hi with
  | none=>simp[sliceBounds,HT.dZ]
  | some i=>
   simp only[sliceBounds,HT.dZ,getD_none,show (1:Int)>0 by decide,if_true]
   by_cases h:i<0
   ·simp only[h,if_true]<;>omega
   ·simp only[h,if_false]<;>omega
theorem pj (its:List Value)(lo hi:Option Int):slicePick its.toArray lo hi none=((its.drop (HT.dZ its.length 0 lo)).take (HT.dZ its.length its.length hi - HT.dZ its.length 0 lo)).toArray:=by
 obtain⟨h1,b,a⟩:=rM lo hi its.toArray.size;unfold slicePick;rw[h1,b,a];simp only[sliceRange_one,pick_run,List.size_toArray]<;>rfl
def DF (K:Frag):V->Option Int->Option Int->Hp->VK->Prop:=fun x b hi H Q=>∃ a xs,x=.ref a/\aB K H a xs/\∀ p,H p=none->Q (.ref p) (upd H p (.lst (jP xs b hi)))
theorem Iy:Np X (DF X.K):=by
 intro f s σ H x v t p e hi n Q I j hs l m h;obtain⟨a,c,rfl,hx,q⟩:=h
 cases j
 obtain⟨i,r,g,hz⟩:=I.list hx;have d:=r.length;refine⟨"list",_,slot_list_getitem.lookup,g.isList.typeIs,?_⟩;refine wpAny_getItem_list_slice g.isList hs l m .none (by simp) ?_ (by rw[j5]<;>omega)
 rw[pj,<-d];refine⟨.ref s.heap.objs.size,_,I.laid (t':=s.toks) (o:=.lst (jP c e hi)) (fun b ob q=>ed _ q) (ef _) ?_,rfl,q _ (I.bb.fresh (ef _))⟩;exact⟨ka (lU c e hi) hz,_,0,(r.drop (HT.dZ c.length 0 e)).take (HT.dZ c.length c.length hi - HT.dZ c.length 0 e),hU _ rfl⟩
def lV:V->Bool
 | .br=>true
 | .bl _=>true
 | .int _=>true
 | .str _=>true
 | _=>false
def CY:V->V->Bool
 | .br,.br=>true
 | .bl a,.bl b=>a == b
 | .bl a,.int b=>(if a then 1 else 0) == b
 | .int a,.bl b=>a == (if b then 1 else 0)
 | .int a,.int b=>a == b
 | .str a,.str b=>a == b
 | _,_=>false
theorem Nv {A:Around}{s:Shared}{y x:V}{u v:Value}(ry:RelV y u)(rx:RelV x v)(fy:lV y=true)(fx:lV x=true):EqAt A s u v (CY y x):=by
 cases y with
 | br=>
  cases ry
  cases x with
  | br=>cases rx;exact SeqAt.EqAt.same _
  | bl b=>cases rx;exact SeqAt.EqAt.none_bool b
  | int b=>obtain⟨t,rfl⟩:=rx;exact SeqAt.EqAt.none_int b t
  | str b=>obtain⟨t,rfl⟩:=rx;exact SeqAt.EqAt.none_str b t
  | _=>exact absurd (show false=true from fx) hI
 | bl a=>
  cases ry
  cases x with
  | br=>cases rx;exact SeqAt.EqAt.bool_none a
  | bl b=>cases rx;exact SeqAt.EqAt.bool_bool a b
  | int b=>obtain⟨t,rfl⟩:=rx;exact SeqAt.EqAt.bool_int a b t
  | str b=>obtain⟨t,rfl⟩:=rx;exact SeqAt.EqAt.bool_str a b t
  | _=>exact absurd (show false=true from fx) hI
 | int a=>
  obtain⟨c,rfl⟩:=ry
  cases x with
  | br=>cases rx;exact SeqAt.EqAt.int_none a c
  | bl b=>cases rx;exact SeqAt.EqAt.int_bool a c b
  | int b=>obtain⟨t,rfl⟩:=rx;exact SeqAt.EqAt.int_int a c b t
  | str b=>obtain⟨t,rfl⟩:=rx;exact SeqAt.EqAt.int_str a c b t
  | _=>exact absurd (show false=true from fx) hI
 | str a=>
  obtain⟨c,rfl⟩:=ry
  cases x with
  | br=>cases rx;exact SeqAt.EqAt.str_none a c
  | bl b=>cases rx;exact SeqAt.EqAt.str_bool a c b
  | int b=>obtain⟨t,rfl⟩:=rx;exact SeqAt.EqAt.str_int a c b t
  | str b=>obtain⟨t,rfl⟩:=rx;exact SeqAt.EqAt.str_str a c b t
  | _=>exact absurd (show false=true from fx) hI
 | _=>exact absurd (show false=true from fy) hI
def xA (x:V)(u:Value):Bool:=match u with
 | .none=>CY .br x
 | .bool b=>CY (.bl b) x
 | .int i _=>CY (.int i) x
 | .str z _=>CY (.str z) x
 | _=>false
theorem DG {x y:V}{u:Value}(r:RelV y u)(f:lV y=true):xA x u=CY y x:=by
 cases y with
 | br=>cases r;rfl
 | bl b=>cases r;rfl
 | int i=>obtain⟨t,rfl⟩:=r;rfl
 | str z=>obtain⟨t,rfl⟩:=r;rfl
 | _=>exact absurd (show false=true from f) hI
theorem jQ {x:V}:∀ {xs:List V} {us:List Value},Vals xs us->xs.all lV=true->us.any (xA x)=xs.any fun y=>CY y x
 | _,_,.nil,_=>rfl
 | y::xs,u::us,.cons r t,f=>by
  rw[all_cons,h9] at f;rw[any_cons,any_cons,DG r f.1,jQ t f.2]
theorem hJ {A:Around}{s:Shared}{x:V}{v:Value}(rx:RelV x v)(fx:lV x=true):∀ {xs:List V} {us:List Value},Vals xs us->xs.all lV=true->∀ u∈us,EqAt A s u v (xA x u)
 | _,_,.nil,_=>fun u hu=>by cases hu
 | y::xs,u::us,.cons r t,f=>fun a hu=>by
  rw[all_cons,h9] at f
  rcases gz.mp hu with rfl | hu
  ·rw[DG r f.1];exact Nv r rx f.1 fx
  ·exact hJ rx fx t f.2 a hu
def K6 (x:V)(xs:List V):Bool:=xs.any fun y=>CY y x
def O4 (K:Frag)(neg:Bool):R2:=fun x y H Q=>∃ p xs,y=.ref p/\(aB K H p xs∨aH K H p xs)/\lV x=true/\xs.all lV=true/\Q (.bl (if neg then !K6 x xs else K6 x xs)) H
theorem Bq:dY X (compareOp .In) (O4 X.K false):=by
 intro d s σ H x y v u Q I f g h;obtain⟨p,i,rfl,hq,e,fs,q⟩:=h
 cases g
 rcases hq with hq | hq
 ·obtain⟨a,r,b,hz⟩:=I.list hq;refine SeqAt.in_listAt (xA x) b.isList (fun w c=>hJ f e r fs w (by simpa using c)) ⟨.bl _,H,I,rfl,?_⟩
  rw[show a.toArray.any (xA x)=a.any (xA x) by simp,jQ r fs]
  exact q
 ·obtain⟨a,r,b,hz⟩:=I.tuple hq;refine SeqAt.in_tupleAt (xA x) b (fun w c=>hJ f e r fs w (by simpa using c)) ⟨.bl _,H,I,rfl,?_⟩
  rw[show a.toArray.any (xA x)=a.any (xA x) by simp,jQ r fs]
  exact q
theorem rN:dY X (compareOp .NotIn) (O4 X.K true):=by
 intro d s σ H x y v u Q I f g h;obtain⟨p,i,rfl,hq,e,fs,q⟩:=h
 cases g
 rcases hq with hq | hq
 ·obtain⟨a,r,b,hz⟩:=I.list hq;refine SeqAt.notIn_listAt (xA x) b.isList (fun w c=>hJ f e r fs w (by simpa using c)) ⟨.bl _,H,I,rfl,?_⟩
  rw[show a.toArray.any (xA x)=a.any (xA x) by simp,jQ r fs]
  exact q
 ·obtain⟨a,r,b,hz⟩:=I.tuple hq;refine SeqAt.notIn_tupleAt (xA x) b (fun w c=>hJ f e r fs w (by simpa using c)) ⟨.bl _,H,I,rfl,?_⟩
  rw[show a.toArray.any (xA x)=a.any (xA x) by simp,jQ r fs]
  exact q
theorem rO:bQ X (.builtin "len") (fun xs H Q=>∃ p ys,xs=[.ref p]/\(aB X.K H p ys∨aH X.K H p ys)/\Q (.int ys.length) H):=by
 intro e s σ H xs g Q I r h;obtain⟨p,ys,rfl,hq,q⟩:=h;obtain⟨u,rfl,f⟩:=vals1 r
 cases f
 have hn:=kM
 rcases hq with hq | hq
 ·obtain⟨b,c,d,hz⟩:=I.list hq;have a:=c.length;exact Calls.call_len_list d.isList (by simp only[List.size_toArray]<;>omega) ⟨.int ys.length,H,I.tok _,⟨s.toks+1,by rw[j5,a]⟩,q⟩
 ·obtain⟨b,c,d,hz⟩:=I.tuple hq;have a:=c.length;exact len_tuple d (by simp only[List.size_toArray]<;>omega) ⟨.int ys.length,H,I.tok _,⟨s.toks+1,by rw[j5,a]⟩,q⟩
theorem gm:bQ X (.builtin "len") (fun xs H Q=>∃ z,xs=[.str z]/\z.length<=sizeLine/\Q (.int z.length) H):=by
 intro a s σ H xs b Q I r h;obtain⟨z,rfl,hz,q⟩:=h;obtain⟨u,rfl,t,rfl⟩:=vals1 r;have hn:=kM;exact len_str (by omega) ⟨.int z.length,H,I.tok _,⟨_,rfl⟩,q⟩
theorem rQ:bQ X (.type "list") (fun xs H Q=>∃ p ys,xs=[.ref p]/\(aB X.K H p ys∨aH X.K H p ys)/\∀ l,H l=none->Q (.ref l) (upd H l (.lst ys))):=by
 intro g s σ H xs A Q I r h;obtain⟨p,ys,rfl,hq,q⟩:=h;obtain⟨u,rfl,z⟩:=vals1 r
 cases z
 have j:∀ (a:List Value),Vals ys a->ys.length<=sizeLine->∀ (c:Heap) (d:Nat),(∀ b o',s.heap.get? b=some o'->c.get? b=some o')->
   c.get? s.heap.objs.size=some {cls:=.type "list",dict:=none,data:=.seq a.toArray d,slots:=#[]}->EP X g σ Q (.ref s.heap.objs.size) {s with heap:=c}:=fun a f hz c d i e=>
  ⟨.ref s.heap.objs.size,_,I.laid (t':=s.toks) i (ef _) (show bz X.prog X.w _ c _ (.lst ys) from ⟨hz,a,d,f,e⟩),rfl,q _ (I.bb.fresh (ef _))⟩
 rcases hq with hq | hq
 ·obtain⟨a,f,y,hz⟩:=I.list hq;have m:=f.length;obtain⟨o,v,hc,n,t⟩:=y.isList;exact call_list_seq p (.inl rfl) v hc t (fun c d i e=>j a f hz c d i e) (by simp only[List.size_toArray]<;>omega)
 ·obtain⟨a,f,y,hz⟩:=I.tuple hq;have m:=f.length;obtain⟨o,v,hc,n,t⟩:=y;exact call_list_seq p (.inr rfl) v hc t (fun c d i e=>j a f hz c d i e) (by simp only[List.size_toArray]<;>omega)
theorem pq:bQ X (.type "tuple") (fun xs H Q=>∃ p ys,xs=[.ref p]/\((aB X.K H p ys/\∀ l,H l=none->Q (.ref l) (upd H l (.tup ys)))∨(aH X.K H p ys/\Q (.ref p) H))):=by
 intro a s σ H xs v Q I r h;obtain⟨p,ys,rfl,h⟩:=h;obtain⟨u,rfl,m⟩:=vals1 r
 cases m
 rcases h with ⟨hq,q⟩ | ⟨hq,q⟩
 ·obtain⟨c,f,g,hz⟩:=I.list hq;have j:=f.length;refine call_tuple_list g.isList (fun d n=>?_) (by simp only[List.size_toArray]<;>omega)
  have i:Inv X a σ H {s with heap:=d}:=I.kept (t':=s.toks) n;have t:Inv X a σ (upd H d.objs.size (.tup ys)) {s with heap:=d.push {cls:=.type "tuple",data:=.seq c.toArray}}:=
   i.laid (t':=s.toks) (fun b o e=>ed _ e) (ef _) (show bz X.prog X.w _ _ _ (.tup ys) from ⟨hz,c,f,IsTup.new _ _⟩)
  exact⟨.ref d.objs.size,_,t,rfl,q _ (i.bb.fresh (ef _))⟩
 ·obtain⟨c,f,g,hz⟩:=I.tuple hq;exact call_tuple_same g ⟨.ref p,H,I,rfl,q⟩
def Pr (K:Frag)(T:String)(x:V)(H:Hp):Prop:=match x with
 | .str _=>T="str"
 | .int _=>T="int"
 | .ref p=>(T="list"/\∃ xs,aB K H p xs)∨(T="tuple"/\∃ o,K.lookup p=some o/\o.cls=.type "tuple"/\o.dict=none)∨
   (T="dict"/\((∃ kvs,H p=some (.dK kvs))∨∃ kvs,H p=some (.dT kvs)))∨(T="set"/\∃ S n,H p=some (.set S n))
 | _=>False
theorem DH {pins:List (Addr × Obj)}{σ:St}{H:Hp}{s:Shared}{T:String}{x:V}{v:Value}(I:Inv X pins σ H s)(r:RelV x v)(ty:Pr X.K T x H) :
  s.TypeIs v T/\∀ a,v=.ref a->∃ ob,s.heap.get? a=some ob/\ob.dict=none:=by
 cases x with
 | str z=>
  obtain⟨t,rfl⟩:=r
  cases (show T="str" from ty)
  exact⟨typeIs_str s z t,fun _ e=>nomatch e⟩
 | int i=>
  obtain⟨t,rfl⟩:=r
  cases (show T="int" from ty)
  exact⟨typeIs_int s i t,fun _ e=>nomatch e⟩
 | ref p=>
  cases r
  rcases ty with ⟨rfl,l,hq⟩ | ⟨rfl,o,hk,hc,f⟩ | ⟨rfl,hk⟩ | ⟨rfl,S,n,hk⟩
  ·obtain⟨j,_,h,_⟩:=I.list hq;refine⟨h.isList.typeIs,fun a e=>?_⟩
   cases e
   obtain⟨o,n,e,c,f,_⟩:=h;exact⟨o,e,f⟩
  ·refine⟨⟨o,I.pf p o hk,hc⟩,fun a e=>?_⟩
   cases e
   exact⟨o,I.pf _ o hk,f⟩
  ·have z:∃ o,s.heap.get? p=some o/\o.ExactDict:=by
    rcases hk with ⟨d,hk⟩ | ⟨d,hk⟩
    ·obtain⟨_,_,_,_,o,_,_,e,b,_⟩:=I.bb p _ hk;exact⟨o,e,b⟩
    ·obtain⟨_,_,_,_,o,_,_,e,b,_⟩:=I.bb p _ hk;exact⟨o,e,b⟩
   obtain⟨o,e,b⟩:=z;refine⟨⟨o,e,b.1⟩,fun a g=>?_⟩
   cases g
   exact⟨o,e,b.2.1⟩
  ·obtain⟨o,_,_,_,e,b,_⟩:=I.bb p _ hk;refine⟨⟨o,e,b.1⟩,fun a g=>?_⟩
   cases g
   exact⟨o,e,b.2.1⟩
 | _=>exact False.elim ty
def Iz (K:Frag)(T:String)(r:V->List V->Hp->VK->Prop)(to:TE):TE:=fun σ H Q=>to σ H fun x H1=>Pr K T x H1/\r x [] H1 Q
def Pt (K:Frag)(T:String)(r:V->List V->Hp->VK->Prop)(to:TE)(t:TA):TE:=fun σ H Q=>to σ H fun x H1=>Pr K T x H1/\t σ H1 fun a b=>r x a b Q
variable {o:Expr}{to:TE}{name:Str}{apos cC:Pos}{T id:String}{r:V->List V->Hp->VK->Prop}
theorem Nw (pa:PlainAttrs T)(slot:Slot T name id)(hty:typeOf (.builtin id)=pure (.type "method_descriptor"))(hm:xa X id r)(ho:PE X o to)
  (eA:attributeBase o name X.env (eval o X.env)=eval o X.env:=by rfl) (eB:(apos.endLine == cC.line)=true:=by rfl):PE X (.Call (.Attribute o name apos) [] [] cC) (Iz X.K T r to):=by
 intro a s σ H Q I h;refine wpAny_Call_method0_late eA eB (bP (ho a s σ H _ I h) fun v f ⟨x,H1,c,b,ty,d⟩=>?_);obtain⟨h1,e⟩:=DH c b ty;exact⟨T,id,pa,slot,hty,h1,e,Calls.callWith_builtin rfl (PySem.evalArgs_none (hm a f σ H1 x [] v [] Q c b .nil d))⟩
variable {es:List Expr}{t:TA}
theorem Pu (pa:PlainAttrs T)(slot:Slot T name id)(hty:typeOf (.builtin id)=pure (.type "method_descriptor"))(hm:xa X id r)(ho:PE X o to)(ha:PA X (e::es) t)
  (eA:attributeBase o name X.env (eval o X.env)=eval o X.env:=by rfl)
  (hfew:((backTo cC (starEach (e::es) X.env)).all (fun x=>!x.1)&&(backToKw cC (keywordEach [] X.env)).all (fun x=>x.1.isSome)
   &&decide ((e::es).length+([]:List Keyword).length+(if ([]:List Keyword).isEmpty then 0 else 1)<30))=true:=by rfl)
  (eB:(apos.endLine == cC.line)=true:=by rfl) (hs:starEach (e::es) X.env=(false,eval e X.env)::starEach es X.env:=by rfl) (hplain:(backTo cC (starEach es X.env)).any (·.1)=false:=by rfl) :
  PE X (.Call (.Attribute o name apos) (e::es) [] cC) (Pt X.K T r to t):=by
 intro a s σ H Q I h;refine wpAny_Call_method_late eA hfew eB rfl (bP (ho a s σ H _ I h) fun v l ⟨x,H1,c,d,ty,m⟩=>?_);obtain⟨h1,j⟩:=DH c d ty;refine⟨T,id,pa,slot,hty,h1,j,?_⟩;have b:=ha cC a l σ H1 _ c m;rw[hs] at b ⊢;refine Calls.callWith_builtin (by show (false||(backTo cC (starEach es X.env)).any (·.1))=false;rw[hplain]<;>rfl) (Calls.evalArgs_plain ?_)
 exact bP b fun u g ⟨f,i,q,p,n⟩=>hm a g σ i x f v u Q q d p n
def Tc (X:Cx)(id:String)(r:V->List V->Hp->VK->Prop):Prop:=
 ∀ (pins:List (Addr × Obj)) (s:Shared) (σ:St) (H:Hp) (x:V) (xs:List V) (v:Value) (us:List Value) (Q:VK),Inv X pins σ H s->RelV x v->Vals xs us->r x xs H Q->
  wpAny (model X.prog X.w) X.A (call (.builtin id) (v::us)) (EP X pins σ Q) X.xe s
theorem Vals.one:∀ {x:V} {us:List Value},Vals [x] us->∃ u,us=[u]/\RelV x u
 | _,_,.cons r .nil=>⟨_,rfl,r⟩
theorem Vals.two {x y:V}{us:List Value}(h:Vals [x,y] us):∃ u v,us=[u,v]/\RelV x u/\RelV y v:=by
 cases h with
 | cons r h=>
  obtain⟨v,rfl,q⟩:=Vals.one h;exact⟨_,_,rfl,r,q⟩
variable {pins:List (Addr × Obj)}{H:Hp}{s:Shared}{l:Addr}{xs ys:List V}{σ:St}
theorem Inv.Pw {n:Nat}{f:Array Value->Array Value}{t':Nat}(I:Inv X pins σ H s)(hH:H l=some (.lst xs))
  (e:s.heap.get? l=some {cls:=.type "list",data:=.seq its.toArray n}) (hf:f its.toArray=its'.toArray) (hv:Vals ys its') (hz:ys.length<=sizeLine) :
  Inv X pins σ (upd H l (.lst ys)) {s with heap:=s.heap.update l (Obj.mapSeq f),toks:=t'}:=by
 have q:=PySem.IsL.update e f;rw[hf] at q;refine I.write (x:=l) (e:=l) (by rw[hH];exact trivial) (.inl rfl) (fun a u hb hu=>(TY s.heap (Obj.mapSeq f) (Ne.symm hb)).trans hu) ⟨_,q⟩ ?_
 exact⟨hz,its',_,hv,q⟩
theorem Inv.Px {t':Nat}(I:Inv X pins σ H s)(hv:Vals ys its)(hz:ys.length<=sizeLine) :
  Inv X pins σ (upd H s.heap.objs.size (.lst ys)) {s with heap:=s.heap.push {cls:=.type "list",data:=.seq its.toArray},toks:=t'}:=
 I.laid (fun _ _ q=>ed _ q) (ef _) ⟨hz,its,0,hv,hU _ rfl⟩
theorem Inv.fresh (I:Inv X pins σ H s):H s.heap.objs.size=none:=I.bb.fresh (ef _)
theorem Inv.Py (I:Inv X pins σ H s)(hH:H l=some (.lst xs)):xs.length<=sizeLine/\∃ (its:List Value) (n:Nat),Vals xs its/\xs.length=its.length/\s.heap.get? l=some {cls:=.type "list",data:=.seq its.toArray n}:=by
 obtain⟨z,its,n,r,e⟩:=I.bb l _ hH;exact⟨z,its,n,r,r.length,e⟩
def IB:V->List V->Hp->VK->Prop:=fun x a H Q=>∃ l xs y,x=.ref l/\a=[y]/\H l=some (.lst xs)/\xs.length<sizeLine/\Q .br (upd H l (.lst (xs++[y])))
theorem bw:Tc X "list.append" IB:=by
 intro b s σ H x i v o Q I f g h;obtain⟨l,m,y,rfl,rfl,c,hz,q⟩:=h
 cases f
 obtain⟨u,rfl,d⟩:=g.one;obtain⟨z,a,n,r,j,e⟩:=I.Py c;refine T9 mo ⟨_,e,rfl⟩ F.entry_list_append (F.args_list_append_2 _ _) (PySem.list_append l a.toArray n u (by rw[j5];omega)) ⟨e,?_⟩
 refine⟨.br,_,I.Pw (its':=a++[u]) c e (by simp) (r.append (.cons d .nil)) ?_,rfl,q⟩
 rw[fz,List.length_singleton]
 omega
end L2
namespace Att
open PySem PySem.W PySem.Calls PyProof.Rows
variable {P:Params}
theorem mr {h:Heap}:∀ (ns:List Int) (vs:List Value),WellAll P h vs (ns.map WData.int)->IntsAre vs ns:=by
 intro ns
 induction ns with
 | nil=>
  intro vs w;rw[map_nil] at w
  cases w
  exact .nil
 | cons n ns c=>
  intro vs w;rw[map_cons] at w
  cases w with
  | cons a b=>
   cases a
   exact .cons _ _ (c _ b)
variable {l:OpenLaw}
theorem Br {n:Nat}(hn:l.most=some n){h:Heap}{args:List WData}{vals:List Value}
  (hpre:l.row.toRowW.claim.pre args=true) (hwl:WellAll P h vals args) :
  ∃ a vs ns,vals=[Value.ref a]/\args=[WData.list (ns.map WData.int)]/\h.get? a=some {cls:=.type "list",data:=.seq vs.toArray}/\IntsAre vs ns/\ns.length<=n:=by
 have f:WShape.hasAll [] args [.list .int]=true:=(pre_splitW hpre).1;have hc:l.pre.holds [] {args:=args}=true:=(pre_splitW hpre).2;obtain⟨d,r,rfl,h1,i⟩:=hasAllW_cons f;obtain rfl:=hasAllW_nil i;obtain⟨t,rfl,s⟩:=hasW_list h1;obtain⟨ns,rfl⟩:=items_int s;have b:ns.length<=n:=by
  unfold OpenLaw.pre at hc;have c:(WTm.not (.lt (.lit (.int (n:Int))) (.len (.arg 0)))).holds [] {args:=[.list (ns.map .int)]}=true:=by
   have c:=(holds_andW hc).1;rw[hn] at c;exact c
  have e:=condW_of c (w_not (w_lt w_lit (w_len_list (w_arg rfl))));rw[length_map] at e;refine Nat.le_of_not_lt fun q=>?_;have p:(n:Int)<((ns.length:Nat):Int):=by omega
  first
   | (rw[decide_eq_true p] at e;exact absurd e (by decide))
   | (simp at e;omega)
 cases hwl with
 | cons o m=>
  cases m
  cases o with
  | list g j=>exact⟨_,_,ns,rfl,rfl,g,mr ns _ j,b⟩
theorem Bs (l:OpenLaw)(args:List WData):l.row.toRowW.claim.post args (.bool true) args=true:=
 postW_of (r:=l.row.toRowW) (X:=(true == true))
  (show WShape.has [] (.bool true) .bool=true by first | rfl | decide | simp[WShape.has,WShape.arms,WShape.armsAll])
  (show (WTm.eq .res (.lit (.bool true))).value [] {args:=args,res:=some (.bool true),after:=args}=some (.bool (true == true)) from w_eq_bool (w_res rfl) w_lit) rfl
variable {q:Program}{loose:List Str}{YP:World->Heap->Prop}{d:DefRec}
theorem uR {n:Nat}{XP:(Str->Option Value)->Heap->Prop} 
  (hn:l.most=some n) (hdf:d.params.defaults=[])
  (call:∀ (w:World) (s₀ s₁:Shared) (mg mb:Str->Option Value) (fa:Addr) (o:Obj) (pm cd doc:Value) (a:Addr) (vs:List Value) (ns:List Int),
   Ground q loose [] XP w s₀ mg mb s₁.heap->YP w s₁.heap->
   s₁.heap.get? fa=some o->o.data=.func (docDef d.name d.params d.body d.scope pm cd doc)->s₁.heap.CodeRec cd d.name->mg d.name=some (.ref fa)->
   s₁.heap.get? a=some {cls:=.type "list",data:=.seq vs.toArray}->IntsAre vs ns->ns.length<=n->s₁.gens=#[]->
   codeAny (model l.prog w) callerA (.call (.ref fa) ⟨[.ref a],[]⟩) (fun r s'=>r=.ok (.ret (.bool true))/\OldK s₁.heap s'.heap/\s'.os=s₁.os/\AllBare s'.gens) s₁) :
  WalkO q loose XP YP l.row.toRowW d [] (fun f vs=>PySem.call f vs):=by
 intro w s₀ s₁ mg mb G Y fa o pm cd doc E kV B u i p h A m t F e s y j C;obtain rfl:E=.none:=Dflts.none p hdf;obtain rfl:kV=.none:=Dflts.noKw p;obtain⟨a,vs,ns,rfl,rfl,c,b,g⟩:=Br hn e j;refine enter_call (codeAny_mono (call w s₀ s₁ mg mb fa o pm cd doc a vs ns G Y B (fd_plain u) i h c b g A) fun r s' hq=>?_);obtain⟨rfl,v,z,D⟩:=hq;exact⟨.inl ⟨.bool true,.bool true,[],rfl,fun _=>rfl,.bool true,Bs l _,fun _=>⟨List.Pairwise.nil,fun _ hm=>(nomatch hm)⟩⟩,v,z,D⟩
end Att
namespace L2
open PySem PySem.Spec PyProof.Rows
theorem qp:∀ {vs:List Value} {ns:List Int},IntsAre vs ns->Vals (ns.map V.int) vs
 | _,_,.nil=>.nil
 | _,_,.cons n t h=>.cons ⟨t,rfl⟩ (qp h)
def Nx (H:Hp):Prop:=∀ b,H b=none∨∃ o xs,H b=some (.fe o (.lst xs))
variable {a fa:Addr}{P:Program}
theorem DI {w:World}{K:Frag}{mg mb:Str->Option Value}{CX:Bl}{k:Nat}{fd:FuncData}{x:Str}{sp:Sp}{s₁:Shared}{vs:List Value}{ns:List Int}
  (KX:K.In s₁.heap) (hns:s₁.heap.Ns mainGlobals mg) (hb:s₁.heap.Ns builtinsNs mb) (hbb:∀ x:Str,x≠"__name__"->mb x=bootBuiltins x) (hlim:s₁.heap.NoLimit) (hg:s₁.gens=#[])
  (ha:s₁.heap.get? a=some {cls:=.type "list",data:=.seq vs.toArray}) (hi:IntsAre vs ns) (hl:ns.length<=sizeLine) (hr:bY k callerA)
  (F:∀ base:Heap,K.In base->base.Ns mainGlobals mg->eK P w K mg base CX k fa fd [x] sp) (hbind:∀ (s:Shared) (u:Value),BindsTo s fd ⟨[u],[]⟩ [(x,u)])
  (hsp:∀ H:Hp,Nx H->aB K H a (ns.map V.int)->sp [.ref a] H (fun v _=>v=.bl true) fun _ _ _=>False)
  (hCX:∀ H e s',CX [] H s₁ (fun _ _ _=>False) e s'->False) :
  codeAny (model P w) callerA (.call (.ref fa) ⟨[.ref a],[]⟩) (fun r s'=>r=.ok (.ret (.bool true))/\OldK s₁.heap s'.heap/\s'.os=s₁.os/\AllBare s'.gens) s₁:=by
 have E:=qp hi;have t:=hi.length;have g:∀ H:Hp,Nx H->aB K H a (ns.map V.int)->gY P w H s₁.heap->(∀ b,H b≠none->b=a)->(H a≠none->K.lookup a=none)->
   codeAny (model P w) callerA (.call (.ref fa) ⟨[.ref a],[]⟩) (fun r s'=>r=.ok (.ret (.bool true))/\OldK s₁.heap s'.heap/\s'.os=s₁.os/\AllBare s'.gens) s₁:=by
  intro H J O I D N;have c:∀ {b:Addr} {o:Obj},s₁.heap.get? b=some o->H b=none->(rz s₁.heap H).get? b=some o:=fun e n=>De e n;have C:∀ {b:Addr} {o:Obj} {p:Array DictEntry} {A:Nat},s₁.heap.get? b=some o->o.data=.dict p A->H b=none:=fun {b o p A} e d=>by
   cases q:H b with
   | none=>rfl
   | some u=>
    have B:b=a:=D b (by rw[q];simp)
    subst B;rw[ha] at e;cases e
    have Q:Data.seq vs.toArray _=Data.dict p A:=d
    cases Q
  have f:∀ {b:Addr} {m:Str->Option Value},s₁.heap.Ns b m->(rz s₁.heap H).Ns b m:=fun {b m} ⟨o,p,A,e,d,r⟩=>⟨o,p,A,c e (C e d),d,r⟩;have j:K.In (rz s₁.heap H):=fun b o e=>c (KX b o e) (by
   cases q:H b with
   | none=>rfl
   | some u=>
    have B:b=a:=D b (by rw[q];simp)
    subst B;rw[N (by rw[q];simp)] at e;cases e)
  have S:Mod K mg (rz s₁.heap H):=⟨j,f hns,⟨mb,f hb,hbb⟩,let ⟨mc,h1,h2⟩:=hlim;⟨mc,f h1,h2⟩⟩;have X:xq P w K mg (rz s₁.heap H) callerA [] s₁ H:=⟨rfl,S,fun b o e=>HP e,Nat.le_of_eq (Ba _ _),trivial,fun b hb=>absurd (show b∈([]:List Addr) from hb) (by simp),I,.of_eq hg⟩
  refine Ui ((F _ j (f hns)).run callerA [] s₁ H ⟨[.ref a],[]⟩ [.ref a] [.ref a] _ _ hr X (hbind s₁ (.ref a)) (.cons rfl .nil) (hsp H J O)) fun r s' h=>?_
  cases r with
  | error e=>exact(hCX H e s' h).elim
  | ok W=>
   cases W with
   | next=>exact False.elim h
   | brk=>exact False.elim h
   | cont=>exact False.elim h
   | ret u=>
    obtain⟨v,Z,os,i,un,y,T,q⟩:=h;have R:v=.bl true:=q;subst R;obtain rfl:u=Value.bool true:=T;refine⟨rfl,OldK.of_keep fun b o e=>?_,os,i⟩
    cases q:H b with
    | none=>exact un.keep b o e q (by intro z;exact absurd (show b∈([]:List Addr) from z) (by simp)) (by simp)
    | some u=>
     rcases J b with z | ⟨ob,Y,z⟩
     ·rw[q] at z;cases z
     ·have U:=un.lP b ob _ z;obtain⟨G,_⟩:=I b _ z;obtain⟨M,_⟩:=y b _ U;rw[e] at G;cases G
      exact M
 cases hk:K.lookup a with
 | some o=>
  have e:=KX a o hk;rw[ha] at e
  cases e
  refine g (fun _=>none) (fun _=>.inl rfl) (.inr ⟨_,vs.toArray,_,hk,rfl,rfl,rfl,by rw[j5,t];exact hl,by simpa using E⟩) (fun b u z=>by have l:(none:Option HO)=some u:=z;cases l) (fun b z=>absurd rfl z) fun z=>absurd rfl z
 | none=>
  refine g (fun b=>if b=a then some (.fe {cls:=.type "list",data:=.seq vs.toArray} (.lst (ns.map V.int))) else none) (fun b=>?_) (.inl (.inr ⟨{cls:=.type "list",data:=.seq vs.toArray},if_pos rfl⟩)) (fun b u z=>?_) (fun b z=>?_) fun _=>hk
  ·by_cases hb:b=a
   ·exact .inr ⟨_,_,if_pos hb⟩
   ·exact .inl (if_neg hb)
  ·by_cases hb:b=a
   ·have l:=(if_pos hb).symm.trans z
    cases l
    subst hb;exact⟨ha,by rw[di];exact hl,vs,_,E,ha⟩
   ·have l:=(if_neg hb).symm.trans z
    cases l
  ·by_cases hb:b=a
   ·exact hb
   ·exact absurd (if_neg hb) z
theorem IC {l:PySem.W.OpenLaw}{n k:Nat}{q:Program}{loose:List Str}{XP:(Str->Option Value)->Heap->Prop}{YP:World->Heap->Prop}{d:DefRec}{K:Params->Frag}{CX:World->Bl}{sp:World->Sp}{x:Str}
  (hn:l.most=some n) (hn2:n<=sizeLine) (hdf:d.params.defaults=[]) (hr:bY k callerA)
  (hY:∀ (w:World) (h:Heap),YP w h->(K w.params).In h)
  (F:∀ (w:World) (mg:Str->Option Value) (fa:Addr) (h:Heap),(K w.params).In h->h.Ns mainGlobals mg->mg d.name=some (.ref fa)->
   ∃ fd:FuncData,(∀ (s:Shared) (u:Value),BindsTo s fd ⟨[u],[]⟩ [(x,u)])/\
    ∀ base:Heap,(K w.params).In base->base.Ns mainGlobals mg->eK l.prog w (K w.params) mg base (CX w) k fa fd [x] (sp w))
  (hsp:∀ (w:World) (H:Hp) (a:Addr) (ns:List Int),ns.length<=n->Nx H->aB (K w.params) H a (ns.map V.int)->sp w [.ref a] H (fun v _=>v=.bl true) fun _ _ _=>False)
  (hCX:∀ (w:World) (H:Hp) (s:Shared) (e:Value) (s':Shared),CX w [] H s (fun _ _ _=>False) e s'->False) :
  PySem.W.WalkO q loose XP YP l.row.toRowW d [] (fun f vs=>PySem.call f vs):=by
 refine Att.uR hn hdf fun w I z mg mb fa o M D C a vs ns G Y J E B m j i c r=>?_;have p:=hY w _ Y;obtain⟨fd,hb,t⟩:=F w mg fa _ p G.T.g m;exact DI p G.T.g G.T.b G.T.builtins G.T.nolimit r j i (ka c hn2) hr t hb (fun H A y=>hsp w H a ns c A y) fun H e s'=>hCX w H z e s'
def bf (s:Stmt):Arguments:=match s with
 | .FunctionDef _ a _ _ _ _ _ _ _ _=>a
 | _=>{posonlyargs:=[],args:=[],vararg:=none,kwonlyargs:=[],kw_defaults:=[],kwarg:=none,defaults:=[]}
def aO (s:Stmt):List Stmt:=match s with
 | .FunctionDef _ _ b _ _ _ _ _ _ _=>b
 | _=>[]
def ai (s:Stmt):Scope:=match s with
 | .FunctionDef _ _ _ _ _ _ sc _ _ _=>sc
 | _=>{kind:=.function,names:=[],isGenerator:=false,isCoroutine:=false}
abbrev Bu:Bl:=fun _ _ _ _ _ _=>False
abbrev E0:XK:=fun _ _ _=>False
theorem K7 {X:Cx}:Passes Bu X E0:=fun _ _ _ _ _ _ _ h=>h.elim
structure HA (K:Frag)(x qual:Str)(st:Stmt)(f:Addr)(fd:FuncData):Prop where
 ex:∃ (oc:Value) (od:Option Addr) (kV doc pm:Value) (an:Option Addr) (cp ct:Value) (osl:Array (Option Value)),
  fd=fnOf x qual (bf st) (aO st) (ai st) .none kV doc pm an cp ct/\K.lookup f=some ⟨oc,od,.func fd,osl⟩/\codeIn K cp qual=true
 kp:keepIn K (.ref f)=true
variable {w:World}{K:Frag}{mg:Str->Option Value}{base:Heap}
theorem HA.ok {x qual:Str}{st:Stmt}{f:Addr}{fd:FuncData}{N ps:List Str}{k:Nat}{sp:Sp}(F:HA K x qual st f fd)(S:jM N ps (ai st))(len:∀ vs H Q E,sp vs H Q E->vs.length=ps.length)
  (cU:∀ (cp:Value) (A:Around) (outer:List Env) (s:Shared) (H:Hp) (vs:List V) (Q:VK) (E:XK),bY k (A.deeper (envOfC qual (ai st) s.heap.objs.size f cp))->sp vs H Q E->
   ∃ t,w9 (fE Bu P w K mg base N qual (ai st) f cp A outer s H E).K3 (aO st) t/\t {nx:=fun _ H'=>Q .br H',rt:=Q} (start N vs) H):eK P w K mg base Bu (k+1) f fd ps sp:=by
 obtain⟨i,j,kV,d,m,l,cp,ct,g,rfl,e,b⟩:=F.ex;refine uP e b S len fun A outer s H vs Q E c a=>?_;obtain⟨t,h,q⟩:=cU cp A outer s H vs Q E c a;exact⟨t,h.K3,q⟩
theorem HA.binds {x qual:Str}{st:Stmt}{f:Addr}{fd:FuncData}{ps:List Str}(F:HA K x qual st f fd)
  (h:∀ (kV doc pm:Value) (an:Option Addr) (cp ct:Value) (us:List Value),us.length=ps.length->bindArgs (fnOf x qual (bf st) (aO st) (ai st) .none kV doc pm an cp ct) ⟨us,[]⟩=pure (ps.zip us)):Binds K fd ps []:=by
 obtain⟨c,d,kV,doc,pm,an,cp,ct,b,rfl,e,a⟩:=F.ex;exact .all (h kV doc pm an cp ct)
theorem xB {x qual:Str}{st:Stmt}{f:Addr}{oc:Value}{od an:Option Addr}{osl:Array (Option Value)}{kV doc pm cp ct:Value}(l:K.lookup f=some ⟨oc,od,.func (fnOf x qual (bf st) (aO st) (ai st) .none kV doc pm an cp ct),osl⟩)
  (c:codeIn K cp qual=true) (k:keepIn K (.ref f)=true):HA K x qual st f (fnOf x qual (bf st) (aO st) (ai st) .none kV doc pm an cp ct):=⟨⟨oc,od,kV,doc,pm,an,cp,ct,osl,rfl,l,c⟩,k⟩
theorem aC {n:Nat}(h:n<=1000):n<sizeLine:=FM h (by decide)
variable {B:Prop}
theorem bR {c A:Prop}[Decidable c](h1:c->A)(h2:¬ c->B):if c then A else B:=by
 by_cases h:c
 ·rw[if_pos h];exact h1 h
 ·rw[if_neg h];exact h2 h
def ah (H H':Hp):Prop:=∀ b o,H b=some o->H' b=some o
theorem ah.refl (H:Hp):ah H H:=fun _ _ h=>h
variable {H2:Hp}
theorem ah.trans {H H1:Hp}(a:ah H H1)(b:ah H1 H2):ah H H2:=fun c o h=>b c o (a c o h)
theorem ah.free {H H':Hp}(e:ah H H'){l:Addr}(h:H' l=Option.none):H l=Option.none:=by
 cases q:H l with
 | none=>rfl
 | some o=>
  rw[e l o q] at h
  cases h
theorem ah.seq {H H':Hp}{xs:List V}(e:ah H H')(h:aB K H a xs):aB K H' a xs:=by
 rcases h with (h | ⟨o,h⟩) | h
 ·exact .inl (.inl (e _ _ h))
 ·exact .inl (.inr ⟨o,e _ _ h⟩)
 ·exact .inr h
variable {κ:Type}[DecidableEq κ]
def cM (kvs:List (κ × V))(k:κ):Option V:=(kvs.find? fun kv=>decide (kv.1=k)).map (·.2)
def putK (kvs:List (κ × V))(k:κ)(v:V):List (κ × V):=
 if (kvs.any fun kv=>decide (kv.1=k))=true then kvs.map (fun kv=>if kv.1=k then (kv.1,v) else kv) else kvs++[(k,v)]
theorem DJ {k:κ}:cM ([]:List (κ × V)) k=none:=rfl
theorem cu {p:κ × V}{r:List (κ × V)}{k:κ}(e:p.1=k):cM (p::r) k=some p.2:=by simp[cM,find?_cons,e]
theorem cw {p:κ × V}{r:List (κ × V)}{k:κ}(e:¬ p.1=k):cM (p::r) k=cM r k:=by simp[cM,find?_cons,e]
theorem hV (k:κ):∀ kvs:List (κ × V),(kvs.any fun kv=>decide (kv.1=k))=(cM kvs k).isSome
 | []=>rfl
 | p::r=>by
  rw[any_cons]
  by_cases e:p.1=k
  ·simp only[cu e,decide_eq_true e,Bool.true_or,isSome_some]
  ·rw[cw e,eG e,Bool.false_or];exact hV k r
theorem uS (k j:κ)(y:V):∀ kvs:List (κ × V),cM (kvs.map fun kv=>if kv.1=k then (kv.1,y) else kv) j=(cM kvs j).map fun x=>if j=k then y else x
 | []=>rfl
 | p::r=>by
  have a:=uS k j y r;rw[pS]
  by_cases h:p.1=k
  ·rw[if_pos h]
   by_cases e:p.1=j
   ·rw[cu (p:=(p.1,y)) e,cu e,map_some,if_pos (e.symm.trans h)]
   ·rw[cw (p:=(p.1,y)) e,cw e,a]
  ·rw[if_neg h]
   by_cases e:p.1=j
   ·rw[cu (p:=p) e,cu e,map_some,if_neg (fun z=>h (e.trans z))]
   ·rw[cw (p:=p) e,cw e,a]
theorem qr (k j:κ)(y:V):∀ kvs:List (κ × V),cM kvs k=none->cM (kvs++[(k,y)]) j=if j=k then some y else cM kvs j
 | [],_=>by
  by_cases e:k=j
  ·rw[if_pos e.symm];exact cu (p:=(k,y)) e
  ·rw[if_neg (fun z=>e z.symm)];exact cw (p:=(k,y)) e
 | p::r,hn=>by
  rw[cons_append];have hk:¬ p.1=k:=fun z=>by rw[cu z] at hn;cases hn
  rw[cw hk] at hn;have a:=qr k j y r hn
  by_cases e:p.1=j
  ·rw[cu e,cu e,if_neg (fun z=>hk (e.trans z))]
  ·rw[cw e,cw e,a]
theorem DK (kvs:List (κ × V))(k j:κ)(y:V):cM (putK kvs k y) j=if j=k then some y else cM kvs j:=by
 unfold putK
 by_cases a:(kvs.any fun kv=>decide (kv.1=k))=true
 ·rw[if_pos a,uS];rw[hV] at a
  by_cases e:j=k
  ·obtain⟨x,hx⟩:=Option.isSome_iff_exists.mp a;rw[if_pos e,e,hx,map_some,if_pos rfl]
  ·rw[if_neg e]
   cases cM kvs j with
   | none=>rfl
   | some x=>rw[map_some,if_neg e]
 ·rw[if_neg a];refine qr k j y kvs ?_;rw[hV] at a
  cases q:cM kvs k with
  | none=>rfl
  | some x=>rw[q] at a;exact(a rfl).elim
theorem lW (kvs:List (κ × V))(k:κ)(v:V):(putK kvs k v).length<=kvs.length+1:=by
 unfold putK
 split
 ·rw[di];omega
 ·rw[fz,pb,length_nil];omega
theorem DL {kvs:List (κ × V)}{k:κ}(v:V)(h:cM kvs k=none):putK kvs k v=kvs++[(k,v)]:=by
 unfold putK;rw[hV,h];exact if_neg (by decide)
variable {o:Option V}
theorem g6.iU {u:Option Value}(r:g6 o u):o.isSome=u.isSome:=by
 cases o with
 | none=>cases u with
  | none=>rfl
  | some _=>exact(show False from r).elim
 | some _=>cases u with
  | none=>exact(show False from r).elim
  | some _=>rfl
theorem KV.val {kvs:List (κ × V)}{vs:List (κ × Value)}(r:KV kvs vs)(k:κ):g6 (cM kvs k) (valueAt vs k):=by
 unfold KV at r
 induction r with
 | nil=>exact True.intro
 | @cons p q g a h t d=>
  obtain⟨h1,f⟩:=h
  by_cases e:p.1=k
  ·have c:q.1=k:=h1.symm.trans e;have b:valueAt (q::a) k=some q.2:=by simp[valueAt,find?_cons,c]
   rw[cu e,b];exact f
  ·have c:¬ q.1=k:=fun z=>e (h1.trans z);have b:valueAt (q::a) k=valueAt a k:=by simp[valueAt,find?_cons,c]
   rw[cw e,b];exact d
theorem KV.any {kvs:List (κ × V)}{vs:List (κ × Value)}(r:KV kvs vs)(k:κ):(kvs.any fun kv=>decide (kv.1=k))=vs.any fun kv=>decide (kv.1=k):=by
 unfold KV at r
 induction r with
 | nil=>rfl
 | cons h t a=>rw[any_cons,any_cons,a,h.1]
theorem KV.Ny {kvs:List (κ × V)}{vs:List (κ × Value)}(r:KV kvs vs)(k:κ){y:V}{u:Value}(ry:RelV y u) :
  KV (kvs.map fun kv=>if kv.1=k then (kv.1,y) else kv) (vs.map fun kv=>if kv.1=k then (kv.1,u) else kv):=by
 unfold KV at r ⊢
 induction r with
 | nil=>exact .nil
 | @cons p q c d h t a=>
  rw[pS,pS];refine .cons ?_ a;obtain⟨h1,b⟩:=h
  by_cases e:p.1=k
  ·rw[if_pos e,if_pos (h1.symm.trans e)];exact⟨h1,ry⟩
  ·rw[if_neg e,if_neg (fun z=>e (h1.trans z))];exact⟨h1,b⟩
theorem KV.put {kvs:List (κ × V)}{vs:List (κ × Value)}(r:KV kvs vs)(k:κ){y:V}{u:Value}(ry:RelV y u):KV (putK kvs k y) (stored vs k u):=by
 unfold putK stored;rw[r.any k]
 by_cases e:(vs.any fun kv=>decide (kv.1=k))=true
 ·rw[if_pos e,if_pos e];exact r.Ny k ry
 ·rw[if_neg e,if_neg e];exact Paired.snoc r ⟨rfl,ry⟩
theorem KV.keys {kvs:List (κ × V)}{vs:List (κ × Value)}(r:KV kvs vs):kvs.map (·.1)=vs.map (·.1):=by
 unfold KV at r
 induction r with
 | nil=>rfl
 | cons h t a=>rw[pS,pS,a,h.1]
theorem KV.length {kvs:List (κ × V)}{vs:List (κ × Value)}(r:KV kvs vs):kvs.length=vs.length:=Paired.length r
theorem qt {k:Key}{u:Value}(r:RelV (kV k) u):(bB P w).is k u=true:=by
 cases k with
 | inl i=>obtain⟨t,e⟩:=(show ∃ t,u=Value.int i t from r);subst e;exact uD P w i t
 | inr x=>obtain⟨t,e⟩:=(show ∃ t,u=Value.str x t from r);subst e;exact bF P w x t
theorem qu {P:Program}{w:World}:∀ {ks:List Key} {us:List Value},Vals (ks.map kV) us->ItemsAre (bB P w) ks us
 | [],_,r=>by rw[map_nil] at r;cases r;exact .nil
 | k::ks,_,r=>by
  rw[pS] at r
  cases r with
  | cons h t=>exact .cons (qt h) (qu t)
abbrev KT (H:Hp):List (List Key × V)->List (List Key × Addr × Value)->Prop:=Paired fun p q=>p.1=q.1/\H q.2.1=some (.tup (p.1.map kV))/\RelV p.2 q.2.2
variable {xs:List (List Key × Addr × Value)}{kvs:List (List Key × V)}
theorem KT.val {H:Hp}(r:KT H kvs xs)(k:List Key):g6 (cM kvs k) ((atKey xs k).map (·.2)):=by
 induction r with
 | nil=>exact True.intro
 | @cons p q g a h t d=>
  obtain⟨h1,_,f⟩:=h
  by_cases e:p.1=k
  ·have c:q.1=k:=h1.symm.trans e;have b:atKey (q::a) k=some q.2:=by simp[atKey,find?_cons,c]
   rw[cu e,b];exact f
  ·have c:¬ q.1=k:=fun z=>e (h1.trans z);have b:atKey (q::a) k=atKey a k:=by simp[atKey,find?_cons,c]
   rw[cw e,b];exact d
theorem KT.Ny {H:Hp}(r:KT H kvs xs)(k:List Key){y:V}{u:Value}(ry:RelV y u) :
  KT H (kvs.map fun kv=>if kv.1=k then (kv.1,y) else kv) (xs.map (putAt k u)):=by
 induction r with
 | nil=>exact .nil
 | @cons p q d f h t b=>
  rw[pS,pS];refine .cons ?_ b;obtain⟨h1,a,c⟩:=h;unfold putAt
  by_cases e:p.1=k
  ·rw[if_pos e,if_pos (h1.symm.trans e)];exact⟨h1,a,ry⟩
  ·rw[if_neg e,if_neg (fun z=>e (h1.trans z))];exact⟨h1,a,c⟩
theorem KT.put {H:Hp}(r:KT H kvs xs)(k:List Key){b:Addr}{y:V}{u:Value}(hb:H b=some (.tup (k.map kV)))(ry:RelV y u) :
  KT H (putK kvs k y) (storedH xs k b u):=by
 have e:(kvs.any fun kv=>decide (kv.1=k))=(atKey xs k).isSome:=by
  rw[hV,(r.val k).iU,isSome_map]
 unfold putK storedH;rw[e]
 by_cases q:(atKey xs k).isSome=true
 ·rw[if_pos q,if_pos q];exact r.Ny k ry
 ·rw[if_neg q,if_neg q];exact Paired.snoc r ⟨rfl,hb,ry⟩
theorem KT.keeps {H H':Hp}(r:KT H kvs xs)(ht:∀ b ys,H b=some (.tup ys)->H' b=some (.tup ys)):KT H' kvs xs:=
 Paired.MI r fun _ _ z=>⟨z.1,ht _ _ z.2.1,z.2.2⟩
variable {H:Hp}{h:Heap}
theorem K8 {u:HO}(ok:gY P w H h)(e:Rd H a u):bz P w H h a u:=e.ok ok
variable {kvs:List (Key × V)}
theorem uT (ok:gY P w H h)(e:Rd H a (.dK kvs)):kvs.length<=sizeLine/\(a == sysModules)=false/\∃ vs,KV kvs vs/\h.DictOf (bB P w) a vs:=
 show bz P w H h a (.dK kvs) from K8 ok e
theorem K9 (ok:gY P w H h)(e:H a=some (.dK kvs)):kvs.length<=sizeLine/\(a == sysModules)=false/\∃ vs,KV kvs vs/\h.DictOf (bB P w) a vs:=uT ok (.inl e)
theorem rR {ks:List Key}(ok:gY P w H h)(e:H a=some (.tup (ks.map kV))):(tupleKind (bB P w)).is h ks a:=by
 obtain⟨_,b,r,o,h1,c,n,d⟩:=(show bz P w H h a (.tup (ks.map kV)) from ok a _ e)
 exact⟨o,b.toArray,n,h1,c,d,by simpa using qu r⟩
variable {kvs:List (List Key × V)}
theorem zG (ok:gY P w H h)(e:Rd H a (.dT kvs)):kvs.length<=sizeLine/\(a == sysModules)=false/\
  ∃ xs,KT H kvs xs/\h.DictOfH (tupleKind (bB P w)) a xs:=by
 obtain⟨z,y,xs,r,o,c,f,h1,d,j,g,i⟩:=(show bz P w H h a (.dT kvs) from K8 ok e)
 refine⟨z,y,xs,r,o,c,f,h1,d,j,g,fun x hx=>?_,i⟩;have all:∀ {l:List (List Key × V)} {m:List (List Key × Addr × Value)},KT H l m->∀ x∈m,(tupleKind (bB P w)).is h x.1 x.2.1:=by
  intro l m q
  induction q with
  | nil=>intro x hx;exact nomatch hx
  | @cons p q s n hq t b=>
   intro x hx
   rcases gz.mp hx with e | hx
   ·subst e;exact rR ok (by rw[<-hq.1];exact hq.2.1)
   ·exact b x hx
 exact all r x hx
theorem Pz (ok:gY P w H h)(e:H a=some (.dT kvs)):kvs.length<=sizeLine/\(a == sysModules)=false/\
  ∃ xs,KT H kvs xs/\h.DictOfH (tupleKind (bB P w)) a xs:=zG ok (.inl e)
def jo (H:Hp)(a:Addr)(y:V)(r:Option V):Prop:=
 (∃ kvs k,Rd H a (.dK kvs)/\y=kV k/\r=cM kvs k)∨∃ kvs k b,Rd H a (.dT kvs)/\y=.ref b/\H b=some (.tup (k.map kV))/\r=cM kvs k
def pv (H:Hp)(a:Addr)(y v:V)(H':Hp):Prop:=
 (∃ kvs k,H a=some (.dK kvs)/\y=kV k/\kvs.length<sizeLine/\H'=upd H a (.dK (putK kvs k v)))∨
 ∃ kvs k b,H a=some (.dT kvs)/\y=.ref b/\H b=some (.tup (k.map kV))/\kvs.length<sizeLine/\H'=upd H a (.dT (putK kvs k v))
theorem jo.k {H:Hp}{a:Addr}{kvs:List (Key × V)}{k:Key}(e:H a=some (.dK kvs)):jo H a (kV k) (cM kvs k):=.inl ⟨kvs,k,.inl e,rfl,rfl⟩
theorem pv.k {H:Hp}{a:Addr}{kvs:List (Key × V)}{k:Key}{v:V}(e:H a=some (.dK kvs))(hl:kvs.length<sizeLine):pv H a (kV k) v (upd H a (.dK (putK kvs k v))):=.inl ⟨kvs,k,e,rfl,hl,rfl⟩
variable {X:Cx}{pins:List (Addr × Obj)}{s:Shared}{σ:St}
theorem Inv.big (I:Inv X pins σ H s):sysModules<s.heap.objs.size:=by
 have h:mainGlobals<s.heap.objs.size:=(I.mod.glob.keeps I.bk).lt;exact T2 (by decide) h
variable {y v:V}{u:Value}{A:Around}{E:Value->Shared->Prop}
theorem Bv {Q:Value->Shared->Prop}(hu:A.units+1<cLine)(I:Inv X pins σ H s)(g:jo H a y (some v))(ry:RelV y u)(h:∀ w' s',Inv X pins σ H s'->RelV v w'->Q w' s') :
  wpAny (model X.prog X.w) A (getItem (.ref a) u) Q E s:=by
 rcases g with ⟨i,k,e,m,l⟩ | ⟨i,k,b,e,m,B,l⟩
 ·subst m;obtain⟨z,t,r,c,j⟩:=uT I.bb e;obtain⟨w',n,d⟩:=g6.some_of (v:=v) (o:=valueAt r k) (by rw[l];exact c.val k)
  exact wpAny_getItem_of (qt ry) j.mapOf n (h w' _ (I.tok _) d)
 ·subst m
  cases (show u=Value.ref b from ry)
  obtain⟨z,t,C,c,j⟩:=zG I.bb e;obtain⟨w',n,d⟩:=g6.some_of (v:=v) (o:=(atKey C k).map (·.2)) (by rw[l];exact c.val k)
  obtain⟨p,q,f⟩:=Option.map_eq_some_iff.mp n;refine wpAny_getItem_heap (tupleKind_room_in1 hu) (rR I.bb B) j q ?_;rw[f];exact h w' _ (I.tok _) d
theorem Sw {Q:Value->Shared->Prop}(hu:A.units+1<cLine)(I:Inv X pins σ H s)(g:jo H a y o)(ry:RelV y u)(h:∀ s',Inv X pins σ H s'->Q (.bool o.isSome) s') :
  wpAny (model X.prog X.w) A (compareOp .In u (.ref a)) Q E s:=by
 rcases g with ⟨d,k,e,i,l⟩ | ⟨d,k,b,e,i,m,l⟩
 ·subst i;obtain⟨z,f,n,c,j⟩:=uT I.bb e;refine wpAny_in_of (qt ry) f j.mapOf ?_;rw[<-(c.val k).iU,<-l];exact h _ (I.tok _)
 ·subst i
  cases (show u=Value.ref b from ry)
  obtain⟨z,f,p,c,j⟩:=zG I.bb e;refine wpAny_in_heap (tupleKind_room_in1 hu) (rR I.bb m) f j ?_;have q:=(c.val k).iU;rw[isSome_map] at q;rw[<-q,<-l];exact h _ (I.tok _)
theorem rS {h':Heap}{t':Nat}{ob:HO}(I:Inv X pins σ H s)(mu:Pf (H a))(hs:SameBut a s.heap h')(he:∃ q,h'.get? a=some q)(new:bz X.prog X.w (upd H a ob) h' a ob) :
  Inv X pins σ (upd H a ob) {s with heap:=h',toks:=t'}:=
 I.write (x:=a) (e:=a) mu (.inl rfl) (fun b q hb z=>(hs.2 b hb).trans z) he new
variable {kvs:List (Key × V)}
theorem Nz {H':Hp}{h':Heap}{vs:List (Key × Value)}(z:kvs.length<=sizeLine)(hd:(a == sysModules)=false)(rel:KV kvs vs)(dd:h'.DictOf (bB P w) a vs) :
  bz P w H' h' a (.dK kvs):=⟨z,hd,vs,rel,dd⟩
variable {r:Value}
theorem Bw {H':Hp}{Q:Unit->Shared->Prop}(hu:A.units+1<cLine)(I:Inv X pins σ H s)(g:pv H a y v H')(ry:RelV y u)(rv:RelV v r)(h:∀ s',Inv X pins σ H' s'->Q () s') :
  wpAny (model X.prog X.w) A (setItem (.ref a) u r) Q E s:=by
 rcases g with ⟨f,k,e,o,l,n⟩ | ⟨f,k,b,e,o,B,l,n⟩
 ·subst o n;obtain⟨z,j,F,d,m⟩:=K9 I.bb e;have hz:F.length<=sizeLine:=by rw[<-d.length];exact z
  have p:(putK f k v).length<=sizeLine:=by have:=lW f k v;omega
  refine wpAny_setItem_pairs (hsz:=hz) (qt ry) m fun C i hs=>h _ ?_;have he:∃ q,C.get? a=some q:=let ⟨q,_,_,hq,_⟩:=i;⟨q,hq⟩;exact rS I (by rw[e];exact True.intro) hs he (Nz p j (d.put k rv) i)
 ·subst o n
  cases (show u=Value.ref b from ry)
  obtain⟨z,j,D,d,m⟩:=Pz I.bb e;have hz:D.length<=sizeLine:=by rw[<-Paired.length d];exact z
  have p:(putK f k v).length<=sizeLine:=by have:=lW f k v;omega
  refine wpAny_setItem_heap (hsz:=hz) (tupleKind_room_in1 hu) (rR I.bb B) m fun C i hs=>h _ ?_;obtain⟨q,G,K,hq,J,O,M,_,N⟩:=i;refine rS I (by rw[e];exact True.intro) hs ⟨q,hq⟩ ⟨p,j,_,(d.put k B rv).keeps fun c P t=>?_,q,G,K,hq,J,O,M,N⟩
  rw[aq (cF t e (fun z=>nomatch z))];exact t
theorem PD {Q:Value->Shared->Prop}(I:Inv X pins σ H s)(e:Rd H a (.dK kvs))(h:∀ t s',Inv X pins σ H s'->Q (.int kvs.length t) s'):wpAny (model X.prog X.w) A (call (.builtin "len") [.ref a]) Q E s:=by
 obtain⟨z,d,f,b,c⟩:=uT I.bb e;refine call_len_dict d c (by rw[<-b.length];rw[sizeLine_eq] at z;omega) ?_
 rw[<-b.length];exact h _ _ (I.tok _)
def ID (i:Expr):Prop:=∀ ov iv,subscripted i false ov iv=operate [ov,iv] (getItem ov iv)
variable {value:Expr}
theorem zI {prog:Program}{env:Env}{slice:Expr}{pos:Pos}{T id:String}{Q:Value->Shared->Prop}
  (hl:typeLookup (.type T) "__getitem__"=pure (some (.builtin id))) (hs:ID slice)
  (h:wpAny (model prog w) A (eval value env) (fun o s₁=>wpAny (model prog w) A (eval slice env) (fun i s₂=>s₂.TypeIs o T/\wpAny (model prog w) A (getItem o i) Q E s₂) E s₁) E s) :
  wpAny (model prog w) A (eval (.Subscript value slice pos) env) Q E s:=by
 refine Subscript_ (wh h (fun o s₁ e=>wh e (fun i s₂ b=>?_) fun _ _ x=>x) fun _ _ x=>x);obtain⟨c,b⟩:=b;unfold subscriptTail;refine dy ?_;rw[getitemInPython_of_ne c.not_modules];refine dy (wpAny_specialOf c hl ?_);have a:wpAny (model prog w) A (subscripted slice false o i) (fun r d=>wpAny (model prog w) A (letTemporaryGo value o r >>= fun _=>pure r) Q E d) E s₂:=by
  rw[hs o i];exact wpAny_operating (wh b (fun r d f=>dy (wpAny_letTemporaryGo (eR f))) fun _ _ x=>x)
 first
  | exact eR (dy a)
  | exact dy (eR (dy a))
  | exact dy a
theorem uU {σ:St}(I:Inv X pins σ H s)(g:jo H a y o):s.TypeIs (.ref a) "dict":=by
 rcases g with ⟨c,k,e,_,_⟩ | ⟨c,k,b,e,_,_,_⟩
 ·obtain⟨_,_,f,_,d⟩:=uT I.bb e;exact d.typeIs
 ·obtain⟨_,_,h,_,d⟩:=zG I.bb e;exact d.typeIs
def DM (td ty:TE):TE:=fun σ H Q=>td σ H fun x H1=>ty σ H1 fun y b=>∃ a v,x=.ref a/\jo b a y (some v)/\Q v b
def IE (ty td:TE):TE:=fun σ H Q=>ty σ H fun y H1=>td σ H1 fun x b=>∃ a o,x=.ref a/\jo b a y o/\Q (.bl o.isSome) b
def DO (td ty tv:TE):TS:=fun D σ H=>tv σ H fun v H1=>td σ H1 fun x c=>ty σ c fun y b=>∃ a H4,x=.ref a/\pv b a y v H4/\D.nx σ H4
variable {o i:Expr}{pos:Pos}{td ty:TE}
theorem IF (hu:X.A.units+1<cLine)(ho:PE X o td)(hi:PE X i ty)(hs:ID i):PE X (.Subscript o i pos) (DM td ty):=by
 intro b s σ H Q I h;refine zI PySem.F.slot_dict_getitem.lookup hs (bP (ho b s σ H _ I h) fun u l ⟨x,H1,q,e,m⟩=>bP (hi b l σ H1 _ q m) fun z t ⟨y,j,d,r,a,v,n,g,p⟩=>?_);subst n;obtain rfl:u=Value.ref a:=e;exact⟨uU d g,Bv hu d g r fun B w f c=>⟨v,j,f,c,p⟩⟩
theorem DP (hu:X.A.units+1<cLine)(hi:PE X i ty)(ho:PE X o td):PC X .In i o (IE ty td):=by
 intro b s σ H Q I h;refine bP (hi b s σ H _ I h) fun w j ⟨y,H1,q,r,l⟩=>bP (ho b j σ H1 _ q l) fun u t ⟨x,f,m,d,a,c,n,g,p⟩=>?_;subst n;obtain rfl:u=Value.ref a:=d;exact Sw hu m g r fun v e=>⟨.bl c.isSome,f,e,rfl,p⟩
variable {pos':Pos}{tv:TE}
theorem IG (hu:X.A.units+1<cLine)(ho:PE X o td)(hi:PE X i ty)(hv:PE X value tv)(hs:swapsWith value (some (.Subscript o i pos')) pos.line X.env=pure false) :
  PS X (.Assign [.Subscript o i pos'] value pos) (DO td ty tv):=by
 intro b s σ H D I h;refine wpAny_Assign_Subscript (bP (hv b s σ H _ I h) fun r q ⟨v,H1,n,l,t⟩=>bP (ho b q σ H1 _ n t) fun u d ⟨x,j,B,e,z⟩=>bP (hi b d σ j _ B z) fun G E ⟨y,J,f,C,a,m,w,g,p⟩=>?_) hs;subst w;obtain rfl:u=Value.ref a:=e;exact Bw hu f g C l fun F c=>⟨σ,m,c,p⟩
theorem DR (h:Heap)(hb:sysModules<h.objs.size):bz P w H (h.push {cls:=.type "dict",data:=.dict #[]}) h.objs.size (.dK []):=
 ⟨zero_le _,AC.mpr (Ne.symm (nt hb)),[],.nil,Heap.DictOf.new h⟩
def xC:TE:=fun _ H Q=>∀ p,H p=none->Q (.ref p) (upd H p (.dK []))
theorem DT:PE X (.Dict [] [] pos) xC:=fun b s σ H Q I h=>
 wpAny_Dict_empty ⟨.ref s.heap.objs.size,_,I.laid (a:=s.heap.objs.size) (o:=.dK []) (t':=s.toks) (fun _ _ q=>ed _ q) (ef _) (DR s.heap I.big),rfl,h _ (I.bb.fresh (ef _))⟩
def rl (scope osc:Scope):Scope:=
 {scope with names:=scope.names.map fun (n,k)=>if (k == .free&&osc.kind == .function&&osc.names.lookup n == some .cell) then (n,.cell) else (n,k)}
def fF (env:Env):List (Str × NameKind)->List (Str × Addr)->List (Str × Addr)
 | [],a=>a
 | (n,k)::r,a=>if (k == NameKind.free)=true then fF env r ((n,(env.cells.lookup n).getD 0)::a) else fF env r a
theorem jc {env:Env}:∀ (names:List (Str × NameKind)) (cs:List (Str × Addr)),(∀ x∈names,x.2=.free->∃ c,env.cells.lookup x.1=some c)->
  (forIn names cs fun (x:Str × NameKind) (r:List (Str × Addr))=>if (x.2 == NameKind.free)=true then (do let y<-cellOf env x.1;pure (ForInStep.yield ((x.1,y)::r))) else (pure (ForInStep.yield r):Sem _))=(pure (fF env names cs):Sem _)
 | [],cs,_=>rfl
 | (n,k)::r,cs,h=>by
  have e:=fun d=>jc (env:=env) r d fun x hx=>h x (fA _ hx);rw[forIn_cons]
  by_cases hk:(k == NameKind.free)=true
  ·obtain⟨c,hc⟩:=h (n,k) fO (by simpa using hk)
   have a:env.cells.lookup n=some c:=hc;have f:cellOf env n=(pure c:Sem Addr):=by unfold cellOf;rw[a]
   simp only[hk,if_true,f,pure_bind];rw[e];have b:fF env ((n,k)::r) cs=fF env r ((n,c)::cs):=by
    show (if (k == NameKind.free)=true then fF env r ((n,(env.cells.lookup n).getD 0)::cs) else fF env r cs)=_
    rw[if_pos hk,a]<;>rfl
   rw[b]
  ·simp only[hk,if_false,pure_bind];show (forIn r cs _:Sem _)=_;rw[e];have b:fF env ((n,k)::r) cs=fF env r cs:=by
    show (if (k == NameKind.free)=true then fF env r ((n,(env.cells.lookup n).getD 0)::cs) else fF env r cs)=_
    rw[if_neg hk]
   rw[b]
theorem pw {scope:Scope}{env:Env}(h:∀ x∈scope.names,x.2=.free->∃ c,env.cells.lookup x.1=some c):closureFor scope env=pure (fF env scope.names []):=by
 have q:=jc scope.names [] h;show ((forIn scope.names ([]:List (Str × Addr)) fun (x:Str × NameKind) (r:List (Str × Addr))=>if (x.2 == NameKind.free)=true then (do let y<-cellOf env x.1;pure (ForInStep.yield ((x.1,y)::r))) else (pure (ForInStep.yield r):Sem _)) >>= fun a=>pure a)=_
 rw[q,pure_bind]
theorem nr {env:Env}:∀ (names:List (Str × NameKind)) (cs:List (Str × Addr)),(∀ x∈names,x.2=.free->∃ c,env.cells.lookup x.1=some c)->(∀ x c,cs.lookup x=some c->env.cells.lookup x=some c)->
  ∀ x c,(fF env names cs).lookup x=some c->env.cells.lookup x=some c
 | [],_,_,h,x,c,e=>h x c e
 | (n,k)::r,cs,f,h,x,c,e=>by
  have b:∀ x∈r,x.2=.free->∃ c,env.cells.lookup x.1=some c:=fun x hx=>f x (fA _ hx);unfold fF at e
  by_cases hk:(k == NameKind.free)=true
  ·rw[if_pos hk] at e;obtain⟨g,hc⟩:=f (n,k) fO (by simpa using hk)
   have a:env.cells.lookup n=some g:=hc;refine nr r _ b (fun y d q=>?_) x c e;rw[SL] at q
   cases hy:y == n with
   | true=>
    rw[hy] at q
    have:y=n:=by simpa using hy
    subst this;rw[a] at q
    cases q
    exact a
   | false=>rw[hy] at q;exact h y d q
  ·rw[if_neg hk] at e;exact nr r cs b h x c e
theorem kR {env:Env}:∀ (names:List (Str × NameKind)) (cs:List (Str × Addr)) (x:Str),(∃ c,cs.lookup x=some c)->∃ c,(fF env names cs).lookup x=some c
 | [],_,_,h=>h
 | (n,k)::r,cs,x,h=>by
  unfold fF
  split
  ·refine kR r _ x ?_;rw[SL]
   cases hy:x == n with
   | true=>exact⟨_,rfl⟩
   | false=>exact h
  ·exact kR r cs x h
theorem jR {env:Env}:∀ (names:List (Str × NameKind)) (cs:List (Str × Addr)) (x:Str),(x,NameKind.free)∈names->∃ c,(fF env names cs).lookup x=some c
 | [],_,_,h=>(nomatch h)
 | (n,k)::r,cs,x,h=>by
  unfold fF
  rcases gz.mp h with e | h
  ·cases e
   rw[if_pos (by rfl)]
   exact kR r _ _ ⟨_,by rw[SL,Uu]⟩
  ·split
   ·exact jR r _ x h
   ·exact jR r cs x h
structure O5 (osc:Scope)(oN N:List Str)(scope:Scope)(fv:List (Option Nat)):Prop where
 kind:scope.kind=.function
 Tv:osc.kind=.function
 yX:∀ y∈scope.names,y.2≠.cell
 loc:∀ y∈scope.names,y.2=.local->scope.names.lookup y.1=some .local
 Tw:∀ y∈scope.names,y.2=.free->osc.names.lookup y.1=some .cell
 own:∀ y∈(rl scope osc).names,y.2≠.free
 len:fv.length=N.length
 up:∀ (i j:Nat),i<20->fv[i]?=some (some j)->oN[j]?=N[i]?/\∀ x,N[i]?=some x->(rl scope osc).names.lookup x=some .cell/\osc.names.lookup x=some .cell
 fD:N.length<20
def xD (fv:List (Option Nat))(σ:St):St:=fv.map fun o=>match o with
 | none=>none
 | some j=>(σ[j]?).join
def jS (X:Cx)(N:List Str)(scope:Scope)(cl:List (Str × Addr))(C:Addr)(fp:List Addr)(s:Shared)(H:Hp):Cx where
 prog:=X.prog
 w:=X.w
 K:=X.K
 mg:=X.mg
 base:=X.base
 A:=X.A
 N:=N
 s₀:=s
 H₀:=H
 env:=compEnvC scope cl C X.env
 outer:=X.stack
 stack:=X.stack
 ex:=fp
 fn:=fun _=>false
 calm:=true
 pn:=[]
 xe:=fun _ _=>False
def La (Y:Cx)(ifs:List Expr)(t:TT):Prop:=
 ∀ (pins:List (Addr × Obj)) (s:Shared) (σ:St) (H:Hp) (Q:Bool->Hp->Prop),Inv Y pins σ H s->t σ H Q->
  wpAny (model Y.prog Y.w) Y.A (forIn ifs true fun c r=>if r=true then do let ok<-isTrue c Y.env (eval c Y.env);pure (ForInStep.yield ok) else pure (ForInStep.yield r)) (TP Y pins σ Q) Y.xe s
def gW:TT:=fun _ H Q=>Q true H
variable {Y:Cx}
theorem IH:La Y [] gW:=fun _ _ _ H _ I h=>wpAny_tests_nil ⟨H,I,h⟩
theorem II {c:Expr}{t:TT}(h:PT Y c t):La Y [c] t:=fun a s σ H Q I b=>wpAny_tests_one (h a s σ H Q I b)
def rV (g:TG)(tc:TT)(te:TE)(τ0:St)(Q:VK):It->Hp->Prop:=fun J H1=>∀ acc,H1 acc=none->
 ∃ W:Nat->Nat->St->Hp->Prop,(∃ m,W 0 m τ0 (upd H1 acc (.lst [])))/\∀ i m τ H,W i m τ H->
  (J.stop i H/\Q (.ref acc) H)∨(J.go i H/\∃ N:St->Hp->Prop,(∀ τ' H',N τ' H'->∃ m',m' < m/\W (i+1) m' τ' H')/\
   ∀ x H',J.yY i H x H'->g x τ H' fun a e=>tc a e fun b c=>if b=true then te a c fun v d=>∃ ys,d acc=some (.lst ys)/\ys.length<sizeLine/\N a (upd d acc (.lst (ys++[v]))) else N a c)
variable {prog:Program}{R:Result->Shared->Prop}{elt target:Expr}{ifs:List Expr}
theorem hX {iter:Expr}{scope:Scope}{pos:Pos}{it acc:Value}{env:Env}(I:Nat->Shared->Prop)
  (turn:∀ n s,I n s->wpAny (model prog w) A (pyNext it) (fun r s₁=>match r with
   | none=>R (.ok .next) s₁
   | some v=>wpAny (model prog w) A (letOwnedTupleGo target it v) (fun _ s₁'=>wpAny (model prog w) A (assign target env v) (fun _ s₂=>
     wpAny (model prog w) A (forIn ifs true fun c r=>if r=true then do let ok<-isTrue c env (eval c env);pure (ForInStep.yield ok) else pure (ForInStep.yield r)) (fun ok s₃=>
      if ok=true then wpAny (model prog w) A (eval elt env) (fun x s₄=>
       wpAny (model prog w) A (call (.builtin "list.append") [acc,x]) (fun _ s₅=>∃ m,m<n/\I m s₅) (fun _ _=>False) s₄) (fun _ _=>False) s₃
      else ∃ m,m<n/\I m s₃) (fun _ _=>False) s₂) (fun _ _=>False) s₁') (fun _ _=>False) s₁) (fun _ _=>False) s)
  (n:Nat) (h:I n s) :
  codeAny (model prog w) A (.compLoop (.ListComp elt [⟨target,iter,ifs,0⟩] scope pos) 0 it acc env) R s:=by
 refine codeAny_loop rfl I (fun n s f=>?_) n h;show wpAny _ A ((compTurn (.ListComp elt [⟨target,iter,ifs,0⟩] scope pos) 0 it acc env).onRaise (fun x=>do noteFrame x env;theTreesLotGoes x)) _ _ s
 refine wpAny_noted ?_;rw[compTurn_list];refine dy (wpAny_standAt (dy (wh (turn n s f) (fun r s₁ d=>?_) fun _ _ a=>a.elim)))
 cases r with
 | none=>exact eR d
 | some v=>
  refine dy (wh d (fun _ s₁' b=>?_) fun _ _ a=>a.elim);refine dy (wh b (fun _ s₂ j=>dy (wh j (fun ok s₃ e=>?_) fun _ _ a=>a.elim)) fun _ _ a=>a.elim)
  cases ok with
  | false=>exact eR ⟨rfl,e⟩
  | true=>
   exact dy (dy (wh e (fun x s₄ g=>dy (wh g (fun _ s₅ i=>eR (eR ⟨rfl,i⟩)) fun _ _ a=>a.elim)) fun _ _ a=>a.elim))
theorem uV {σ:St}{j:Nat}(h:(σ[j]?).join=some v):σ[j]?=some (some v):=by
 cases e:σ[j]? with
 | none=>rw[e] at h;cases h
 | some o=>rw[e] at h;exact L4 some h
variable {scope:Scope}{N:List Str}{fv:List (Option Nat)}
theorem IJ {σ:St}{s4:Shared}{fp:List Addr}{C:Addr}{m:Str->Option Value}(hc:X.calm=true)(S:O5 X.env.scope X.N N scope fv)(I:Inv X pins σ H s)(hC:s.heap.objs.size<=C)
  (hf:∀ b∈fp,b<s.heap.objs.size/\jK X pins H b) (hk:∀ b o,s.heap.get? b=some o->s4.heap.get? b=some o) (hn:s4.heap.Ns C m) (hos:s4.os=s.os) (hg:s4.gens=s.gens) :
  Inv (jS X N scope (fF X.env scope.names []) C fp s H) [] (xD fv σ) H s4:=by
 have w:∀ x∈scope.names,x.2=.free->∃ c,X.env.cells.lookup x.1=some c:=fun x hx e=>I.ok.has x.1 (.inl (S.Tw x hx e));have sub:=nr scope.names [] w (fun _ _ e=>nomatch e);have U:=I.sz;have fresh:∀ a,s.heap.objs.size<=a->H a=none:=fun a ha=>I.bb.fresh ha;refine⟨⟨I.ok.mod,S.kind,I.ok.glob,I.ok.blt,hC,fun x y c M h=>I.ok.inj x y c (sub x c M) (sub y c h),fun x hx=>?_,fun x c z _=>(nomatch z),fun _=>I.ok.hd hc,I.ok.frames,.inl rfl,fun b hb=>⟨?_,fun x c e=>(hf b hb).2.2.2.2.2.1 x c (sub x c e)⟩,
   I.bs,ka I.ok.Dd U,fun b o e hb=>?_,fun b hb z=>?_,I.stack,I.mH⟩,
  hos,?_,Un.kept hk,⟨m,hn,fun i x v M h e3=>?_⟩,fun x c e=>?_,fresh C hC,fun x c e=>I.fC x c (sub x c e),fun p Y=>absurd (show p∈([]:List (Addr × Obj)) from Y) (by simp),I.bb.kept hk,?_⟩
 ·have Q:(rl scope X.env.scope).names.lookup x=some .cell∨(rl scope X.env.scope).names.lookup x=some .free:=hx
  rcases Q with e | e
  ·have hm:=Gc e;obtain⟨⟨n,k⟩,g,O⟩:=j9.mp hm;have f:(if (k == NameKind.free&&X.env.scope.kind == .function&&X.env.scope.names.lookup n == some .cell)=true then (n,NameKind.cell) else (n,k))=(x,NameKind.cell):=O
   by_cases d:(k == NameKind.free&&X.env.scope.kind == .function&&X.env.scope.names.lookup n == some .cell)=true
   ·rw[if_pos d] at f;have W:n=x:=L4 Prod.fst f;have B:k=NameKind.free:=by
     rw[h9,h9] at d
     simpa using d.1.1
    subst W B;exact jR scope.names [] n g
   ·rw[if_neg d] at f;have B:k=NameKind.cell:=L4 Prod.snd f;exact absurd B (S.yX _ g)
  ·exact absurd rfl (S.own _ (Gc e))
 ·exact nt (ih (hf b hb).1 hC)
 ·rcases(hf b hb).2.2.2.2.1 with z | z
  ·exact I.ok.uf b o e z
  ·exact absurd (ih (lt_size e) (ka I.ok.Dd z)) (GT _)
 ·rcases gz.mp (I.rA b z) with q | q
  ·exact(hf b hb).2.2.1 q
  ·exact(hf b hb).2.2.2.1 q
 ·show AllBare s4.gens;rw[hg];exact I.bare
 ·have hil:i<fv.length:=by
   have:=(mv.mp h).1
   unfold xD at this
   rwa [di] at this
  have D:i<20:=by have:=S.fD;have:=S.len;omega
  unfold xD at h;rw[ey] at h
  cases R:fv[i]? with
  | none=>rw[R] at h;cases h
  | some o=>
   rw[R] at h
   cases o with
   | none=>cases h
   | some j=>
    have P:(σ[j]?).join=some v:=ot h;have hσ:=uV P;obtain⟨W,hx⟩:=S.up i j D R;obtain⟨F,J⟩:=hx x M;obtain⟨mX,Z,hl⟩:=I.loc;obtain⟨u,r,l⟩:=hl j x v (W.trans M) hσ (.inr (.inl J));refine⟨u,r,?_⟩
    rcases l with ⟨k,_⟩ | ⟨k,c,ec,cl⟩
    ·have t:X.env.scope.names.lookup x=some .local:=k;rw[J] at t
     cases t
    ·obtain⟨E,A,K⟩:=cl;have hm:(x,NameKind.free)∈scope.names:=by
      have hm:=Gc F;obtain⟨⟨n,t⟩,g,O⟩:=j9.mp hm;have f:(if (t == NameKind.free&&X.env.scope.kind == .function&&X.env.scope.names.lookup n == some .cell)=true then (n,NameKind.cell) else (n,t))=(x,NameKind.cell):=O
      by_cases d:(t == NameKind.free&&X.env.scope.kind == .function&&X.env.scope.names.lookup n == some .cell)=true
      ·rw[if_pos d] at f;have T:n=x:=L4 Prod.fst f;have B:t=NameKind.free:=by
        rw[h9,h9] at d
        simpa using d.1.1
       subst T B;exact g
      ·rw[if_neg d] at f;have B:t=NameKind.cell:=L4 Prod.snd f;exact absurd B (S.yX _ g)
     obtain⟨c',G⟩:=jR (env:=X.env) scope.names [] x hm
     have:=sub x c' G
     rw[ec] at this
     cases this
     exact .inr ⟨.inl F,c,G,E,hk c E A,K⟩
 ·obtain⟨v,E,A,K⟩:=I.cell x c (sub x c e);exact⟨v,E,hk c E A,K⟩
 ·show (xD fv σ).length=N.length;unfold xD;rw[di];exact S.len
variable {iter:Expr}{g:TG}{tc:TT}{te:TE}{Q:VK}{wi:TI}
theorem qv (hc:X.calm=true)(hi:PI X target iter wi)(S:O5 X.env.scope X.N N scope fv)
  (hB:∀ cl C fp s H,PG (jS X N scope cl C fp s H) target g/\La (jS X N scope cl C fp s H) ifs tc/\PE (jS X N scope cl C fp s H) elt te)
  {σ:St} (I:Inv X pins σ H s) {use:Option (Value->Sem Unit)} {Post:Value->Shared->Prop} {p2:Pos}
  (h:wi σ H (rV g tc te (xD fv σ) Q))
  (hPost:∀ (acc C:Addr) (s':Shared) (H':Hp) (m:Str->Option Value),Inv X pins σ H' s'->s'.heap.Ns C m->jK X pins H' C->Q (.ref acc) H'->compPost (model X.prog X.w) X.A X.xe use Post (.ref acc) C (.ok .next) s')
  (hs:∀ x,foldedSetIterable iter X.env x=pure x) :
  wpAny (model X.prog X.w) X.A (comprehension (.ListComp elt [⟨target,iter,ifs,0⟩] scope pos) scope X.env p2 (newList []) false (eval iter X.env) use) Post X.xe s:=by
 have G:∀ x∈scope.names,x.2=.free->∃ c,X.env.cells.lookup x.1=some c:=fun x hx e=>I.ok.has x.1 (.inl (S.Tw x hx e));refine wpAny_comprehension_free (use:=use) rfl hs (pw G) S.kind S.loc (bP (hi pins s σ H _ I h) fun xv s1 h1=>bP h1 fun itv a h2=>?_);obtain⟨it,fp,tn,J,K,e,I2,T,E,f2,rd⟩:=h2;subst e;have aZ:K a.heap.objs.size=none:=I2.fresh;obtain⟨W,⟨m0,w0⟩,ay⟩:=rd a.heap.objs.size aZ;refine GE (wpAny_newFunctionEnv S.yX (by intro y hy;simp at hy) (fun h₁ t j=>?_) S.kind)
 dsimp only at t j ⊢
 have IA:Inv X pins σ (upd K a.heap.objs.size (.lst [])) {a with heap:=a.heap.push {cls:=.type "list",data:=.seq ([]:List Value).toArray}}:=I2.Px (t':=a.toks) .nil (zero_le _);generalize aF:a.heap.push {cls:=.type "list",dict:=none,data:=.seq ([]:List Value).toArray}=hA at t j IA ⊢;have R:hA.objs.size=a.heap.objs.size+1:=by rw[<-aF,Fk]
 have P:∀ b o,a.heap.get? b=some o->hA.get? b=some o:=fun b o e=>by rw[<-aF];exact ed _ e
 have D:∀ b o,hA.get? b=some o->h₁.get? b=some o:=fun b o e=>j.extBut b o (nt (lt_size e)) (ed _ e);have aa:∀ b∈fp,b<a.heap.objs.size:=fun b hb=>by
  obtain⟨o,e,_⟩:=T.obj 0 _ E b hb;exact lt_size e
 have O:∀ b∈fp,b<hA.objs.size/\jK X pins (upd K a.heap.objs.size (.lst [])) b:=fun b hb=>⟨by rw[R];exact Up (aa b hb),by rw[aq (nt (aa b hb))];exact(f2 b hb).1,(f2 b hb).2⟩
 let sA:Shared:={a with heap:=hA}
 let Y:Cx:=jS X N scope (fF X.env scope.names []) hA.objs.size fp sA (upd K a.heap.objs.size (.lst []))
 obtain⟨hG,hIf,hE⟩:=hB (fF X.env scope.names []) hA.objs.size fp sA (upd K a.heap.objs.size (.lst []));have B:∀ s4:Shared,s4={a with heap:=h₁,toks:=a.toks+([]:List (Str × Value)).length}->
   codeAny (model X.prog X.w) X.A (.compLoop (.ListComp elt [⟨target,iter,ifs,0⟩] scope pos) 0 (.ref it) (.ref a.heap.objs.size) (compEnvC scope (fF X.env scope.names []) hA.objs.size X.env))
    (compPost (model X.prog X.w) X.A X.xe use Post (.ref a.heap.objs.size) hA.objs.size) s4:=by
  rintro s4 rfl;have IY:Inv Y [] (xD fv σ) (upd K a.heap.objs.size (.lst [])) {a with heap:=h₁,toks:=a.toks+([]:List (Str × Value)).length}:=
   IJ hc S IA (ef _) O D t rfl rfl
  have f:∀ {H':Hp},(∀ b∈fp,H' b=none)->∀ b∈fp,jK Y [] H' b:=fun hn b hb=>
   ⟨hn b hb,(IY.ok.OW b hb).1,IY.ok.wD b hb,.inl hb,(IY.ok.OW b hb).2,fun p hp=>absurd (show p∈([]:List (Addr × Obj)) from hp) (by simp)⟩
  refine hX (fun n s'=>∃ i τ H',Inv Y [] τ H' s'/\tn i s'.heap/\(∀ b∈fp,H' b=none)/\W i n τ H') ?_ m0
   ⟨0,xD fv σ,_,IY,T.keep _ _ _ E fun b hb o e=>D b o (P b o e),fun b hb=>(O b hb).2.1,w0⟩
  rintro n s5 ⟨i,τ,H5,I5,ab,U,w5⟩
  rcases ay i n τ H5 w5 with ⟨aI,q⟩ | ⟨go,NN,hN,step⟩
  ·refine wh (T.done Y rfl rfl rfl rfl i [] s5 τ H5 (fun _ _=>False) I5 (f U) ab aI) (fun r s6 ⟨hr,M⟩=>?_) fun _ _ z=>z;subst hr;obtain⟨m6,hn6,_⟩:=id M.loc;have IX:Inv X pins σ H5 s6:=IA.uE M.os M.base M.bb M.bare fun b hb=>⟨(O b hb).2.2.2.2.1,(O b hb).2.2.1,(O b hb).2.2.2.2.2.1,(O b hb).2.2.2.2.2.2⟩;exact hPost _ _ _ _ m6 IX hn6 (IA.uG (ef _) M.free) q
  ·refine wh (T.item Y rfl rfl rfl rfl i [] s5 τ H5 (fun _ _=>False) I5 (f U) ab go) (fun r s6 ⟨u,hr,h6⟩=>?_) fun _ _ z=>z;subst hr;refine wh h6 (fun _ s7 ⟨x,H7,I7,r7,y7,F,fr7⟩=>?_) fun _ _ z=>z;have I7':=I7.pinned (f fr7) (T.obj _ _ F);refine wh (hG _ s7 τ H7 x u _ I7' r7 (step x H7 y7)) (fun _ s8 ⟨τ8,H8,I8,q8⟩=>?_) fun _ _ z=>z;refine wh (hIf _ s8 τ8 H8 _ I8 q8) (fun b s9 ⟨H9,I9,q9⟩=>?_) fun _ _ z=>z;have l:∀ {Z:St} {H':Hp} {s':Shared},Inv Y ([]++ng fp s7.heap) Z H' s'->NN Z H'->∃ m,m<n/\∃ i τ H',Inv Y [] τ H' s'/\tn i s'.heap/\(∀ b∈fp,H' b=none)/\W i m τ H':=fun {Z H' s'} I' n'=>by
    obtain⟨m',hm,w'⟩:=hN Z H' n';refine⟨m',hm,i+1,Z,H',I'.jL,T.keep _ _ _ F fun b hb o e=>(I'.pin (b,o) (r4 _ (r4 _ (gk hb e)))).1,fun b hb=>?_,w'⟩;obtain⟨o,e,d⟩:=T.obj _ _ F b hb;exact(I'.pin (b,o) (r4 _ (r4 _ (gk hb e)))).2.1
   cases b with
   | false=>exact l I9 q9
   | true=>
    show wpAny _ _ _ _ _ _;refine wh (hE _ s9 τ8 H9 _ I9 q9) (fun v s10 ⟨y,H10,I10,r10,ys,hy,hz,q10⟩=>?_) fun _ _ z=>z;refine wh (bw (X:=Y) _ s10 τ8 H10 (.ref a.heap.objs.size) [y] (.ref a.heap.objs.size) [v] (fun _ H'=>NN τ8 H') I10 rfl (.cons r10 .nil) ⟨_,ys,y,rfl,rfl,hy,hz,q10⟩) (fun _ s11 ⟨_,H11,I11,_,q11⟩=>?_) fun _ _ z=>z;exact l I11 q11
 have st1:tn 0 h₁:=T.keep _ _ _ E fun b hb o e=>D b o (P b o e);exact codeAny_compStart_list (B _ rfl) (T.self _ 0 _ _ _ st1 (B _ rfl))
def NA (wi:TI)(g:TG)(tc:TT)(te:TE)(fv:List (Option Nat)):TE:=fun σ H Q=>wi σ H (rV g tc te (xD fv σ) Q)
theorem PF (hc:X.calm=true)(hi:PI X target iter wi)(S:O5 X.env.scope X.N N scope fv)
  (hB:∀ cl C fp s H,PG (jS X N scope cl C fp s H) target g/\La (jS X N scope cl C fp s H) ifs tc/\PE (jS X N scope cl C fp s H) elt te)
  (hs:∀ x,foldedSetIterable iter X.env x=pure x:=by intro _;rfl):PE X (.ListComp elt [⟨target,iter,ifs,0⟩] scope pos) (NA wi g tc te fv):=by
 intro c s σ H Q I h;rw[eval_ListComp];refine qv hc hi S hB I (use:=none) h (fun a C d u m j hn t q=>⟨m,hn,fun v f=>?_⟩) hs;obtain⟨i,n,w,p,l,r⟩:=t;exact⟨.ref a,u,j.turned (t':=d.toks) (fun b o hb e=>f.extBut b o hb e) i n p l r,rfl,q⟩
variable {px spos:Pos}
theorem PH {i:Nat}{x:Str}(hN:X.N.Nodup)(hi':X.N[i]?=some x)(hx:X.env.scope.names.lookup x=some .local)(hc:X.calm=true)(hi:PI X target iter wi)(S:O5 X.env.scope X.N N scope fv)
  (hB:∀ cl C fp s H,PG (jS X N scope cl C fp s H) target g/\La (jS X N scope cl C fp s H) ifs tc/\PE (jS X N scope cl C fp s H) elt te)
  (hsw:swapsWith (.ListComp elt [⟨target,iter,ifs,0⟩] scope pos) (some (.Name x px)) spos.line X.env=pure true)
  (hs:∀ x,foldedSetIterable iter X.env x=pure x:=by intro _;rfl):PS X (.Assign [.Name x px] (.ListComp elt [⟨target,iter,ifs,0⟩] scope pos) spos) (rD (NA wi g tc te fv) (bA i)):=by
 intro c s σ H D I h;rw[exec_Assign_Name_used _ _ _ _ hsw];refine dy (wpAny_standAt (dy ?_));show wpAny _ _ (do let _<-comprehension (.ListComp elt [⟨target,iter,ifs,0⟩] scope pos) scope X.env _ (newList []) false (eval iter X.env) (some (assign (.Name x px) X.env))) _ _ s
 refine dy (wh (qv hc hi S hB I (use:=some (assign (.Name x px) X.env)) (Post:=fun _ f=>SP X c D .next f) h (fun d C f E m w hn r q=>?_) hs) (fun _ f hq=>eR (eR hq)) fun _ _ e=>e);show wpAny _ _ (assign (.Name x px) X.env (.ref d)) _ _ _;refine wpAny_assign_Name (qc w hN hi' (.inl hx) (show RelV (.ref d) _ from rfl) (fun t y ⟨a,l,F⟩=>?_) (.inr hx))
 obtain⟨v,p,J,A,n,B⟩:=r;have j:C≠a:=by
  rcases F with z | z
  ·rw[z];exact p
  ·exact fun e=>n x a z e.symm
 refine⟨m,hn.sameBut l j,fun G u=>?_⟩;exact⟨_,E,y.turned (t':=t.toks) (fun b o hb e=>u.extBut b o hb e) v p A n B,q⟩
def Bt (k:Nat)(i:Int):Prop:=i.natAbs<2 ^ k
variable {i:Int}{m:Nat}
theorem Bt.mono {k:Nat}(h:Bt k i)(hk:k<=m):Bt m i:=ih h (ri (by decide) hk)
variable {a b:Nat}{j:Int}
theorem Bt.mul (h:Bt a i)(h':Bt b j):Bt (a+b) (i*j):=by
 unfold Bt at *;rw[Int.natAbs_mul,Nat.pow_add];exact Nat.mul_lt_mul'' h h'
theorem Bt.of_le (h:Bt a i)(h0:0<=j)(h1:j<=i):Bt a j:=by
 unfold Bt at *
 omega
theorem Bt.ok (h:Bt a i)(h':Bt b j)(hs:a+b<=100000):IntMulOk i j:=
 PySem.IntMulOk.of_le (PySem.intBits_le_iff.mpr h) (PySem.intBits_le_iff.mpr h') (by omega)
theorem Bt.log (h:Bt a i)(h0:0<i)(ha:a<=9000):i.natAbs.log2<9000:=
 ih ((log2_lt (by omega)).mpr h) ha
theorem rW (h1:-(2 ^ 64)<i)(h2:i<2 ^ 64):IntMulOk i j:=.of_left (intBits_le_64 h1 h2)
theorem jT (h1:-(2 ^ 64)<j)(h2:j<2 ^ 64):IntMulOk i j:=.of_right (intBits_le_64 h1 h2)
theorem dC:dY X (binaryOp .Mult) (rI IntMulOk fun i j=>.int (i*j)):=Nd fun _ _ _ _ _ _ _ hc q=>mul_int q hc
theorem dD:dY X (binaryOp .FloorDiv) (rI (fun _ j=>0<j/\j.natAbs.log2<9000) fun i j=>.int (i / j)):=Nd fun i j _ _ _ _ _ hc q=>by
 have h1:(0:Int)<j:=hc.1;exact floordiv_int (by omega) (by rw[Int.fdiv_eq_ediv_of_nonneg i (by omega)];exact q) (.inl (PyProof.noPylong_of_log2 hc.2))
def tI (f:Int->V)(ta:TE):TE:=fun σ H Q=>ta σ H fun x H1=>∃ i,x=.int i/\Q (f i) H1
variable {a e:Expr}{ta:TE}{k:Nat}{n:Int}
theorem IK (ha:PE X a ta)(h:0<n/\n<1073741824:=by decide):PE X (.BinOp a .FloorDiv (.Constant (.int n) k pos') pos) (tI (fun i=>.int (i / n)) ta):=by
 intro b s σ H Q I hq;refine uJ Ic ha kH b s σ H Q I ?_;refine(show ∀ t:TE,PE X a t->_ from fun _ _=>?_) ta ha
 exact(show rF (rI Nf fun i j=>.int (i / j)) ta (tC (.int n)) σ H Q from by
  unfold rF tC rI;unfold tI at hq
  have:(fun x H1=>∃ i,x=V.int i/\Q (.int (i / n)) H1)=(fun x H1=>∃ i j,x=V.int i/\V.int n=V.int j/\Nf i j/\Q (.int (i / j)) H1):=by
   funext x H1
   apply propext
   constructor
   ·rintro⟨i,e,q⟩;exact⟨i,n,e,rfl,h,q⟩
   ·rintro⟨i,j,e,c,_,q⟩;cases c;exact⟨i,e,q⟩
  rw[this] at hq;exact hq)
theorem IL (ha:PE X a ta)(h:0<n:=by decide):PE X (.BinOp a .Mod (.Constant (.int n) k pos') pos) (tI (fun i=>.int (i % n)) ta):=by
 intro b s σ H Q I hq;refine uJ cL ha kH b s σ H Q I ?_;unfold rF tC rI;unfold tI at hq
 have:(fun x H1=>∃ i,x=V.int i/\Q (.int (i % n)) H1)=(fun x H1=>∃ i j,x=V.int i/\V.int n=V.int j/\0<j/\Q (.int (i % j)) H1):=by
  funext x H1
  apply propext
  constructor
  ·rintro⟨i,e,q⟩;exact⟨i,n,e,rfl,h,q⟩
  ·rintro⟨i,j,e,c,_,q⟩;cases c;exact⟨i,e,q⟩
 rw[this] at hq;exact hq
theorem IM (ha:PE X a ta)(h:-(2 ^ 64)<n/\n<2 ^ 64:=by decide):PE X (.BinOp a .Mult (.Constant (.int n) k pos') pos) (tI (fun i=>.int (i*n)) ta):=by
 intro b s σ H Q I hq;refine uJ dC ha kH b s σ H Q I ?_;unfold rF tC rI;unfold tI at hq
 have:(fun x H1=>∃ i,x=V.int i/\Q (.int (i*n)) H1)=(fun x H1=>∃ i j,x=V.int i/\V.int n=V.int j/\IntMulOk i j/\Q (.int (i*j)) H1):=by
  funext x H1
  apply propext
  constructor
  ·rintro⟨i,e,q⟩;exact⟨i,n,e,rfl,jT h.1 h.2,q⟩
  ·rintro⟨i,j,e,c,_,q⟩;cases c;exact⟨i,e,q⟩
 rw[this] at hq;exact hq
theorem IP (ha:PE X a ta)(h:-(2 ^ 64)<n/\n<2 ^ 64:=by decide):PE X (.BinOp (.Constant (.int n) k pos') .Mult a pos) (tI (fun i=>.int (n*i)) ta):=by
 intro b s σ H Q I hq;refine uJ dC kH ha b s σ H Q I ?_;unfold rF tC rI;unfold tI at hq
 have:(fun x H1=>∃ i,x=V.int i/\Q (.int (n*i)) H1)=(fun x H1=>∃ i j,V.int n=V.int i/\x=V.int j/\IntMulOk i j/\Q (.int (i*j)) H1):=by
  funext x H1
  apply propext
  constructor
  ·rintro⟨i,e,q⟩;exact⟨n,i,rfl,e,rW h.1 h.2,q⟩
  ·rintro⟨i,j,c,e,_,q⟩;cases c;exact⟨j,e,q⟩
 rw[this] at hq;exact hq
theorem DU (hc:X.calm=true):bQ X (.builtin "sum") (fun xs H Q=>∃ (p:Addr) (ns:List Int),xs=[.ref p]/\aB X.K H p (ns.map V.int)/\Q (.int ns.sum) H):=by
 intro c s σ H xs o Q I r h;obtain⟨p,ns,rfl,hq,q⟩:=h;obtain⟨u,rfl,f⟩:=vals1 r
 cases f
 obtain⟨a,i,j,hz⟩:=I.list hq;have hi:=intsAre_of i;obtain⟨m,hn,_⟩:=I.loc;have b:s.heap.IsList p a.toArray:=j.isList;obtain⟨xs,e⟩:=hi.allInts.items;rw[e] at b;refine PySem.sum_intListG (I.ok.hd hc) b fun n l g hk=>⟨.int ns.sum,H,I.kept hk,⟨g,?_⟩,q⟩;have d:(numsOf a.toArray.toList)=ns:=by rw[show a.toArray.toList=a from rfl,hi.numsOf]
 rw[e,nums_intItems] at d;rw[preSum_eq,yx (by simp),<-d]
end L2
namespace L2
open PySem PySem.Spec PyProof.Rows
mutual
inductive Dt (K:Frag)(H:Hp):V->PyData->Prop where
 | br:Dt K H .br .none
 | bl (b):Dt K H (.bl b) (.bool b)
 | int (i):Dt K H (.int i) (.int i)
 | str (x):Dt K H (.str x) (.str x)
 | lst {a xs ds}:aB K H a xs->ee K H xs ds->Dt K H (.ref a) (.list ds)
 | tup {a xs ds}:aH K H a xs->ee K H xs ds->Dt K H (.ref a) (.tuple ds)
inductive ee (K:Frag)(H:Hp):List V->List PyData->Prop where
 | nil:ee K H [] []
 | cons {x xs d ds}:Dt K H x d->ee K H xs ds->ee K H (x::xs) (d::ds)
end
variable {X:Cx}
mutual
theorem Dt.reads {pins:List (Addr × Obj)}{σ:St}{H:Hp}{s:Shared}(I:Inv X pins σ H s):∀ {x:V} {d:PyData} {u:Value},Dt X.K H x d->RelV x u->∃ as,Reads s.heap u d as
 | _,_,_,.br,r=>by cases r;exact⟨_,.none⟩
 | _,_,_,.bl b,r=>by cases r;exact⟨_,.bool b⟩
 | _,_,_,.int i,r=>by obtain⟨t,rfl⟩:=r;exact⟨_,.int i t⟩
 | _,_,_,.str x,r=>by obtain⟨t,rfl⟩:=r;exact⟨_,.str x t⟩
 | _,_,_,.lst h hs,r=>by
  cases r
  obtain⟨a,f,⟨o,n,e,c,j,g⟩,_⟩:=I.list h;obtain⟨as,q⟩:=ee.reads I hs f;exact⟨_,.list e c g (by simpa using q)⟩
 | _,_,_,.tup h hs,r=>by
  cases r
  obtain⟨a,f,⟨o,e,c,n,g⟩,_⟩:=I.tuple h;obtain⟨as,q⟩:=ee.reads I hs f;exact⟨_,.tuple e c g (by simpa using q)⟩
theorem ee.reads {pins:List (Addr × Obj)}{σ:St}{H:Hp}{s:Shared}(I:Inv X pins σ H s):∀ {xs:List V} {ds:List PyData} {us:List Value},ee X.K H xs ds->Vals xs us->∃ as,ReadsAll s.heap us ds as
 | _,_,_,.nil,r=>by cases r;exact⟨_,.nil⟩
 | _,_,_,.cons h hs,r=>by
  cases r with
  | cons r a=>
   obtain⟨as,q⟩:=Dt.reads I h r;obtain⟨bs,b⟩:=ee.reads I hs a;exact⟨_,.cons q b⟩
end
theorem NB (hu:X.A.units+64<cLine):dY X (compareOp .Eq) (fun x y H Q=>∃ d d',Dt X.K H x d/\Dt X.K H y d'/\shaped d=true/\shaped d'=true/\Q (.bl (PyData.eqv d d')) H):=by
 intro a s σ H x y v u Q I c j h;obtain⟨d,d',h1,e,f,b,q⟩:=h;obtain⟨l,g⟩:=h1.reads I c;obtain⟨bs,i⟩:=e.reads I j;exact eq_dataH g i f b hu ⟨.bl _,H,I,rfl,q⟩
theorem NC (hu:X.A.units+64<cLine):dY X (compareOp .NotEq) (fun x y H Q=>∃ d d',Dt X.K H x d/\Dt X.K H y d'/\shaped d=true/\shaped d'=true/\Q (.bl (!PyData.eqv d d')) H):=by
 intro a s σ H x y v u Q I c j h;obtain⟨d,d',h1,e,f,b,q⟩:=h;obtain⟨l,g⟩:=h1.reads I c;obtain⟨bs,i⟩:=e.reads I j;exact ne_dataH g i f b hu ⟨.bl _,H,I,rfl,q⟩
theorem ee.ints {K:Frag}{H:Hp}:∀ ns:List Int,ee K H (ns.map V.int) (ns.map PyData.int)
 | []=>.nil
 | n::r=>.cons (.int n) (ee.ints r)
theorem lX:∀ ns ms:List Int,PyData.eqvAll (ns.map PyData.int) (ms.map PyData.int)=decide (ns=ms)
 | [],[]=>by simp[PyData.eqvAll]
 | [],_::_=>by simp[PyData.eqvAll]
 | _::_,[]=>by simp[PyData.eqvAll]
 | n::r,m::q=>by
  simp only[map_cons,PyData.eqvAll,PyData.eqv,lX r q]
  by_cases h:n=m<;>simp[h]
theorem jU (ns:List Int):shaped (.list (ns.map .int))=true:=PySem.W.shaped_ints ns
theorem IQ:dY X (binaryOp .Add) (fun x y H Q=>∃ l b xs zs,x=.ref l/\y=.ref b/\aB X.K H l xs/\aB X.K H b zs/\xs.length+zs.length<=sizeLine/\∀ p,H p=none->Q (.ref p) (upd H p (.lst (xs++zs)))):=by
 intro m s σ H x y v u Q I D J h;obtain⟨l,b,xs,zs,rfl,rfl,E,R,hz,q⟩:=h
 cases D
 cases J
 obtain⟨c,r,⟨⟨O,S,C,G⟩,n,e,B,A,t⟩,_⟩:=I.list E;obtain⟨a,w,⟨⟨z,P,i,j⟩,N,o,g,d,f⟩,_⟩:=I.list R
 simp only at B A t g d f
 subst B A t g d f;refine concat_meets ⟨_,e,rfl⟩ ⟨_,o,rfl⟩ noFill_list_add seq_list_add PySem.F.slot_list_add PySem.F.entry_list_add (PySem.F.args_list_add_2 _ _) (list_addW l b c.toArray a.toArray n N none none G j (by rw[j5,j5,<-r.length,<-w.length];exact hz)) ⟨e,o,?_⟩
 have M:c.toArray++a.toArray=(c++a).toArray:=by simp
 rw[M];exact⟨.ref _,_,I.Px (t':=s.toks) (r.append w) (by rw[fz];exact hz),rfl,q _ I.fresh⟩
structure Def (K:Frag)(mg:Str->Option Value)(x:Str)(st:Stmt):Prop where
 ex:∃ f fd,HA K x x st f fd/\mg x=some (.ref f)
structure Fn (P:Program)(w:World)(K:Frag)(mg:Str->Option Value)(base:Heap)(k:Nat)(x:Str)(ps:List Str)(sp:Sp):Prop where
 ex:∃ f fd,eK P w K mg base Bu k f fd ps sp/\mg x=some (.ref f)/\keepIn K (.ref f)=true/\Binds K fd ps []
variable {P:Program}{w:World}{K:Frag}{mg:Str->Option Value}{base:Heap}{k:Nat}{x:Str}{N ps:List Str}{sp:Sp}{st:Stmt}
theorem Def.fn (D:Def K mg x st)(S:jM N ps (ai st))
  (hb:∀ (kV doc pm:Value) (an:Option Addr) (cp ct:Value) (us:List Value),us.length=ps.length->bindArgs (fnOf x x (bf st) (aO st) (ai st) .none kV doc pm an cp ct) ⟨us,[]⟩=pure (ps.zip us))
  (len:∀ vs H Q E,sp vs H Q E->vs.length=ps.length)
  (cU:∀ (f:Addr) (cp:Value) (A:Around) (outer:List Env) (s:Shared) (H:Hp) (vs:List V) (Q:VK) (E:XK),bY k (A.deeper (envOfC x (ai st) s.heap.objs.size f cp))->sp vs H Q E->
   ∃ t,w9 (fE Bu P w K mg base N x (ai st) f cp A outer s H E).K3 (aO st) t/\t {nx:=fun _ H'=>Q .br H',rt:=Q} (start N vs) H):Fn P w K mg base (k+1) x ps sp:=by
 obtain⟨f,a,F,m⟩:=D.ex;exact⟨f,a,F.ok S len fun cp A outer s H vs Q E=>cU f cp A outer s H vs Q E,m,F.kp,F.binds hb⟩
variable {m:Nat}{p pos:Pos}{e:Expr}{es:List Expr}{t:TA}
theorem PJ (F:Fn X.prog X.w X.K X.mg X.base k x ps sp)(hr:bY m X.A)(hg:Gl X x)(ha:PA X (e::es) t)(hk:k<=m:=by decide)
  (hdb:(x == ("__debug__":Str))=false:=by decide) (he:starEach (e::es) X.env=(false,eval e X.env)::starEach es X.env:=by rfl) (hpl:(backTo pos (starEach es X.env)).any (·.1)=false:=by rfl) :
  PE X (.Call (.Name x p) (e::es) [] pos) (nk sp [] E0 t):=by
 obtain⟨f,b,F,hm,a,hb⟩:=F.ex;exact rH F (hr.mono hk) hg hm a hb .nil K7 ha hdb he hpl
theorem ND {h:Heap}{x:Str}{f:Addr}{oc:Value}{od an:Option Addr}{osl:Array (Option Value)}{kV doc pm cp ct:Value}(X:K.In h)(G:h.Ns mainGlobals mg)
  (a:nsIn K mainGlobals x=some (some (.ref f))) (l:K.lookup f=some ⟨oc,od,.func (fnOf x x (bf st) (aO st) (ai st) .none kV doc pm an cp ct),osl⟩)
  (c:codeIn K cp x=true) (k:keepIn K (.ref f)=true):Def K mg x st:=⟨f,_,xB l c k,mg_of X G a⟩
variable {H:Hp}{Q:VK}{σ:St}
theorem PK {i:Nat}{v:V}(h:σ[i]?=some (some v)):rC i σ H Q=Q v H:=by
 unfold rC;rw[h];simp
theorem Sx {v:V}:tC v σ H Q=Q v H:=rfl
theorem NF {r:R2}{ta tb:TE}:rF r ta tb σ H Q=ta σ H fun x H1=>tb σ H1 fun y H2=>r x y H2 Q:=rfl
theorem PL {r:V->Hp->VK->Prop}{ta:TE}:Sr r ta σ H Q=ta σ H fun x H1=>r x H1 Q:=rfl
variable {g:Int->Int->V}
theorem Lb {i j:Int}:CW g (.int i) (.int j) H Q=Q (g i j) H:=by unfold CW;simp
theorem PM {C:Int->Int->Prop}{i j:Int}:rI C g (.int i) (.int j) H Q=(C i j/\Q (g i j) H):=by unfold rI;simp
theorem PN {g:Int->V}{i:Int}:rU g (.int i) H Q=Q (g i) H:=by unfold rU;simp
def rT (f:Int->V):V->Hp->VK->Prop:=fun x H Q=>∃ i,x=.int i/\Q (f i) H
variable {f:Int->V}
theorem PQ {ta:TE}:tI f ta σ H Q=ta σ H fun x H1=>rT f x H1 Q:=rfl
theorem PR {i:Int}:rT f (.int i) H Q=Q (f i) H:=by unfold rT;simp
theorem zJ {i j:Int}:Pm (.int i) (.int j) H Q=Q (.bl (decide (i=j))) H:=by unfold Pm;simp[Dq]
theorem Lc {i j:Int}:Ss (.int i) (.int j) H Q=Q (.bl (!decide (i=j))) H:=by unfold Ss;simp[Dq]
theorem qw {i j:Str}:Pm (.str i) (.str j) H Q=Q (.bl (decide (i=j))) H:=by unfold Pm;simp[Dq]
def rB (x:V)(H:Hp)(Q:Bool->Hp->Prop):Prop:=∃ k,x=.bl k/\Q k H
variable {Q:Bool->Hp->Prop}
theorem uW {b:Bool} :rB (.bl b) H Q=Q b H:=by unfold rB;simp
variable {t:TE}
theorem DV:uL t σ H Q=t σ H fun x H'=>rB x H' Q:=rfl
theorem PU:tB t σ H Q=t σ H fun x H'=>rB x H' Q:=rfl
variable {t:TT}
theorem DW:MO t σ H Q=t σ H fun c H1=>Q (!c) H1:=rfl
variable {u:TT}
theorem DX:MN t u σ H Q=t σ H fun c H1=>if c=true then u σ H1 Q else Q false H1:=rfl
theorem Ld:Sm t u σ H Q=t σ H fun c H1=>if c=true then Q true H1 else u σ H1 Q:=rfl
variable {Q:VK}{u t:TE}
theorem DY:Dh t u σ H Q=t σ H fun x H1=>rB x H1 fun c H2=>if c=true then u σ H2 Q else Q (.bl false) H2:=rfl
theorem Le:MT t u σ H Q=t σ H fun x H1=>rB x H1 fun c H2=>if c=true then Q (.bl true) H2 else u σ H2 Q:=rfl
theorem zK {r r':R2}{ta tb tc:TE}:ni r r' ta tb tc σ H Q=ta σ H fun x H1=>tb σ H1 fun y H2=>r x y H2 fun z H3=>rB z H3 fun k H4=>if k=true then tc σ H4 fun w' H5=>r' y w' H5 Q else Q (.bl false) H4:=rfl
theorem Lf {t:TT}{ta tb:TE}:Sn t ta tb σ H Q=t σ H fun c H1=>if c=true then ta σ H1 Q else tb σ H1 Q:=rfl
variable {Q:List V->Hp->Prop}
theorem Lg:uM σ H Q=Q [] H:=rfl
theorem DZ {ta:TE}{tr:TA} :uN ta tr σ H Q=ta σ H fun x H1=>tr σ H1 fun xs H2=>Q (x::xs) H2:=rfl
variable {Q:VK}{E:XK}{t:TA}
theorem D0 {mW:List V} :nk sp mW E t σ H Q=t σ H fun vs H1=>sp (vs++mW) H1 Q E:=rfl
theorem PV {r:List V->Hp->VK->Prop} :Nm r t σ H Q=t σ H fun vs H1=>r vs H1 Q:=rfl
theorem Lh:Il t σ H Q=t σ H fun xs H1=>xs.length<=sizeLine/\∀ p,H1 p=none->Q (.ref p) (upd H1 p (.tup xs)):=rfl
theorem Li:Im t σ H Q=t σ H fun xs H1=>xs.length<=sizeLine/\∀ p,H1 p=none->Q (.ref p) (upd H1 p (.lst xs)):=rfl
variable {r:V->List V->Hp->VK->Prop}
theorem PX {T:String}{to:TE} :Pt K T r to t σ H Q=to σ H fun x H1=>Pr K T x H1/\t σ H1 fun vs H2=>r x vs H2 Q:=rfl
theorem Lj {T:String}{to:TE}:Iz K T r to σ H Q=to σ H fun x H1=>Pr K T x H1/\r x [] H1 Q:=rfl
theorem PY {r:V->Option Int->Option Int->Hp->VK->Prop}{te:TE}{tl th:TO}:Su r te tl th σ H Q=te σ H fun x H1=>tl σ H1 fun l H2=>th σ H2 fun h H3=>r x l h H3 Q:=rfl
variable {Q:Option Int->Hp->Prop}
theorem uX:rJ σ H Q=Q none H:=rfl
def rP (x:V)(H:Hp)(Q:Option Int->Hp->Prop):Prop:=∃ i,x=.int i/\Q (some i) H
theorem D1 {t:TE} :DB t σ H Q=t σ H fun x H1=>rP x H1 Q:=rfl
theorem PZ {i:Int} :rP (.int i) H Q=Q (some i) H:=by unfold rP;simp
variable {Q:VK}{g:TG}
theorem P0 {wi:TI}{tc:TT}{te:TE}{fv:List (Option Nat)}:NA wi g tc te fv σ H Q=wi σ H (rV g tc te (xD fv σ) Q):=rfl
theorem gn {Q:Bool->Hp->Prop}:gW σ H Q=Q true H:=rfl
variable {D:Ends}
theorem D2:Dj D σ H=D.nx σ H:=rfl
variable {u t:TS}
theorem P1:Bb t u D σ H=t {D with nx:=u D} σ H:=rfl
theorem D3 {te:TE}:Dl te D σ H=te σ H fun _ H1=>D.nx σ H1:=rfl
theorem Lk {te:TE}:MW te D σ H=te σ H D.rt:=rfl
variable {c:TT}
theorem Ll:MY c t u D σ H=c σ H fun b H1=>if b=true then t D σ H1 else u D σ H1:=rfl
theorem Lm {te:TE} :rD te g D σ H=te σ H fun x H1=>g x σ H1 D.nx:=rfl
variable {i:Nat}
theorem rX {v:V}{σ:St}{Q:St->Hp->Prop}:bA i v σ H Q=Q (σ.set i (some v)) H:=rfl
theorem Lo {to ti:TE}{t:Dm}{v:V}{σ:St}{Q:St->Hp->Prop}:M5 to ti t v σ H Q=to σ H fun o H1=>ti σ H1 fun i H2=>t o i v H2 fun H3=>Q σ H3:=rfl
variable {tl:TE}{R:It->Hp->Prop}
theorem zL {σ:St} :zr K tl σ H R=tl σ H fun x H1=>∃ a,x=.ref a/\(∃ xs,aB K H1 a xs)/\R (Hz K a) H1:=rfl
theorem D4 {σ:St} :HY K tl σ H R=tl σ H fun x H1=>∃ a,x=.ref a/\(∃ xs,aH K H1 a xs)/\R (Bc K a) H1:=rfl
theorem zM {ta:TA}{σ:St} :zt ta σ H R=ta σ H fun vs H1=>∃ j:Int,vs=[.int j]/\-(2 ^ 62)<=j/\j<2 ^ 62/\R (xg 0 j.toNat) H1:=rfl
def rY (g:TG)(tb:TS)(D:Ends)(σ:St):It->Hp->Prop:=fun J H1=>∃ W:Nat->Nat->St->Hp->Prop,(∃ m,W 0 m σ H1)/\∀ i m σ H,W i m σ H->
 (J.stop i H/\D.nx σ H)∨(J.go i H/\∃ N:St->Hp->Prop,(∀ σ' H',N σ' H'->∃ m',m' < m/\W (i+1) m' σ' H')/\∀ x H',J.yY i H x H'->g x σ H' fun a b=>tb {D with nx:=N,ct:=N,bk:=D.nx} a b)
variable {tb:TS}
theorem Lp {wi:TI}{σ:St} :Na wi g tb D σ H=wi σ H (rY g tb D σ):=rfl
variable {p:Addr}
theorem ah.new (h:H p=none)(o:HO):ah H (upd H p o):=fun b u q=>by rw[aq (az q h)];exact q
variable {a:Addr}{xs:List V}
theorem ah.aJ {H':Hp}(e:ah H H')(h:aH K H a xs):aH K H' a xs:=by
 rcases h with (h | ⟨o,h⟩) | h
 ·exact .inl (.inl (e _ _ h))
 ·exact .inl (.inr ⟨o,e _ _ h⟩)
 ·exact .inr h
theorem ah.set {H':Hp}(e:ah H H')(h:H p=none)(o:HO):ah H (upd H' p o):=fun b u q=>by rw[aq (az q h)];exact e b u q
structure uY (J:It)(H1:Hp)(n:Nat)(item:Nat->V):Prop where
 go:∀ i H,ah H1 H->i<n->J.go i H
 stop:∀ i H,ah H1 H->n<=i->J.stop i H
 yY:∀ i H x H',ah H1 H->i<n->J.yY i H x H'->H'=H/\x=item i
theorem fY {H1:Hp}(h:aH K H1 a xs):uY (Bc K a) H1 xs.length fun i=>xs.getD i .br where
 go:=fun i H e hi=>⟨xs,xs[i],e.aJ h,by simp[hi]⟩
 stop:=fun i H e hi=>⟨xs,e.aJ h,hi⟩
 yY:=fun i H x c e hi y=>by
  obtain⟨b,y⟩:=y
  have:=y xs (e.aJ h)
  refine⟨b,?_⟩;show x=xs.getD i .br;rw[cc,this];rfl
theorem cV {H1:Hp}(h:aB K H1 a xs):uY (Hz K a) H1 xs.length fun i=>xs.getD i .br where
 go:=fun i H e hi=>⟨xs,xs[i],e.seq h,by simp[hi]⟩
 stop:=fun i H e hi=>⟨xs,e.seq h,hi⟩
 yY:=fun i H x c e hi y=>by
  obtain⟨b,y⟩:=y
  have:=y xs (e.seq h)
  refine⟨b,?_⟩;show x=xs.getD i .br;rw[cc,this];rfl
variable {n:Nat}
theorem xE {H1:Hp}{lo:Int} :uY (xg lo n) H1 n fun i=>.int (lo+i) where
 go:=fun i H e hi=>hi
 stop:=fun i H e hi=>hi
 yY:=fun i H x a e hi y=>y
def R7 (T:Nat->St->Prop)(F:Nat->List V)(H1:Hp)(acc:Addr)(i:Nat):St->Hp->Prop:=fun b a=>T (i+1) b/\ah H1 a/\a acc=some (.lst (F (i+1)))
variable {acc:Addr}
theorem NG {T:Nat->St->Prop}{F:Nat->List V}{H1 H4:Hp}{τ:St}{v:V}(hn:H1 acc=none)(h:H4 acc=some (.lst (F i)))(hs:ah H1 H4)(hz:(F i).length<sizeLine)(hF:F (i+1)=F i++[v])(hT:T (i+1) τ) :
  ∃ ys,H4 acc=some (.lst ys)/\ys.length<sizeLine/\R7 T F H1 acc i τ (upd H4 acc (.lst (ys++[v]))):=
 ⟨F i,h,hz,hT,hs.set hn _,by rw[ag,hF]⟩
variable {J:It}{item:Nat->V}
theorem NH {tc:TT}{te:TE}{τ0:St}{H1:Hp}(ok:uY J H1 n item)(F:Nat->List V)(T:Nat->St->Prop)
  (h0:F 0=[]) (hT:T 0 τ0)
  (step:∀ i τ H acc,i<n->T i τ->H1 acc=none->ah H1 H->H acc=some (.lst (F i))->g (item i) τ H fun τ2 H2=>tc τ2 H2 fun b H3=>
   if b=true then te τ2 H3 fun v H4=>∃ ys,H4 acc=some (.lst ys)/\ys.length<sizeLine/\R7 T F H1 acc i τ2 (upd H4 acc (.lst (ys++[v]))) else R7 T F H1 acc i τ2 H3)
  (fin:∀ acc H,H1 acc=none->ah H1 H->H acc=some (.lst (F n))->Q (.ref acc) H):rV g tc te τ0 Q J H1:=by
 intro acc d;refine⟨fun i m τ H=>m=n - i/\i<=n/\T i τ/\ah H1 H/\H acc=some (.lst (F i)),⟨n,by simp,zero_le _,hT,ah.new d _,by rw[ag,h0]⟩,?_⟩
 rintro i m τ H ⟨rfl,hi,j,h,o⟩
 by_cases f:i<n
 ·refine .inr ⟨ok.go i H h f,R7 T F H1 acc i,fun p l ⟨a,b,c⟩=>⟨n - (i+1),by omega,rfl,f,a,b,c⟩,fun x l y=>?_⟩
  obtain⟨rfl,rfl⟩:=ok.yY i H x l h f y;exact step i τ l acc f j d h o
 ·have e:i=n:=by omega
  subst e;exact .inl ⟨ok.stop i H h (ef _),fin acc H d h o⟩
theorem IS {σ:St}(Pv:St->Hp->Prop)(μ:St->Nat)(h0:Pv σ H)
  (hs:∀ σ H,Pv σ H->c σ H fun b H1=>if b=true then ∃ N:St->Hp->Prop,(∀ σ' H',N σ' H'->∃ m',m' < μ σ/\m'=μ σ'/\Pv σ' H')/\tb {D with nx:=N,ct:=N,bk:=D.nx} σ H1 else D.nx σ H1):rE c tb D σ H:=
 ⟨fun m σ H=>m=μ σ/\Pv σ H,⟨_,rfl,h0⟩,fun m σ H ⟨e,p⟩=>by subst e;exact hs σ H p⟩
theorem IT {Pv:St->Hp->Prop}{μ:St->Nat}{σ:St}{R:(St->Hp->Prop)->Prop}(h:R fun σ' H'=>Pv σ' H'/\μ σ' < μ σ) :
  ∃ N:St->Hp->Prop,(∀ σ' H',N σ' H'->∃ m',m' < μ σ/\m'=μ σ'/\Pv σ' H')/\R N:=⟨_,fun _ _ ⟨p,l⟩=>⟨_,l,rfl,p⟩,h⟩
theorem xF {v:V}{σ:St} :rC 0 (some v::σ) H Q=Q v H:=PK rfl
theorem D5 {o:Option V}{σ:St} :rC (i+1) (o::σ) H Q=rC i σ H Q:=rfl
def NI (osc:Scope)(oN N:List Str)(scope:Scope)(fv:List (Option Nat)):Bool:=
 decide (scope.kind=.function)&&decide (osc.kind=.function)&&scope.names.all (fun y=>decide (y.2≠.cell))&&scope.names.all (fun y=>decide (y.2=.local->scope.names.lookup y.1=some .local))&&
 scope.names.all (fun y=>decide (y.2=.free->osc.names.lookup y.1=some .cell))&&(rl scope osc).names.all (fun y=>decide (y.2≠.free))&&decide (fv.length=N.length)&&decide (N.length<20)&&
 (List.range N.length).all (fun i=>match fv[i]? with
  | some (some j)=>decide (oN[j]?=N[i]?)&&(match N[i]? with | some x=>decide ((rl scope osc).names.lookup x=some .cell)&&decide (osc.names.lookup x=some .cell) | none=>false)
  | _=>true)
variable {osc:Scope}{oN:List Str}
theorem NJ {scope:Scope}{fv:List (Option Nat)}(h1:X.env.scope=osc)(h2:X.N=oN)(h:NI osc oN N scope fv=true):O5 X.env.scope X.N N scope fv:=by
 rw[h1,h2];unfold NI at h;simp only[Bool.and_eq_true,List.all_eq_true,decide_eq_true_eq] at h;obtain⟨⟨⟨⟨⟨⟨⟨⟨c,l⟩,d⟩,n⟩,f⟩,o⟩,a⟩,m⟩,g⟩:=h;refine⟨c,l,d,n,f,o,a,fun i j _ e=>?_,m⟩;have hi:i<N.length:=by rw[<-a];exact(mv.mp e).1
 have q:=g i (ls.mpr hi);rw[e] at q;simp only[Bool.and_eq_true,decide_eq_true_eq] at q;refine⟨q.1,fun x hx=>?_⟩;have b:=q.2;rw[hx] at b
 simpa using b
def Ea (e:Expr):Bool:=match e with
 | .Starred _ _=>false
 | _=>true
theorem aW {env:Env}(h:Ea e=true):starEach (e::es) env=(false,eval e env)::starEach es env:=by
 cases e<;>first | rfl | cases h
theorem cy {pos:Pos}{env:Env}:∀ {es:List Expr},es.all Ea=true->(backTo pos (starEach es env)).any (·.1)=false
 | [],_=>rfl
 | e::es,h=>by
  rw[all_cons,h9] at h;rw[aW h.1];show (false||(backTo pos (starEach es env)).any (·.1))=false;rw[cy h.2];rfl
theorem kS {pos:Pos}{env:Env}:∀ {es:List Expr},es.all Ea=true->(backTo pos (starEach es env)).all (fun x=>!x.1)=true
 | [],_=>rfl
 | e::es,h=>by
  rw[all_cons,h9] at h;rw[aW h.1];show (true&&(backTo pos (starEach es env)).all (fun x=>!x.1))=true;rw[kS h.2];rfl
structure PB (X:Cx)(es:List Expr)(t:TA):Prop where
 pa:PA X es t
 ns:es.all Ea=true
theorem xG:PB X [] uM:=⟨Nh,rfl⟩
variable {te:TE}{t:TA}
theorem rZ (ha:PE X e te)(hr:PB X es t)(hn:Ea e=true:=by rfl):PB X (e::es) (uN te t):=
 ⟨Ik ha hr.pa (aW hn),by rw[all_cons,hn,hr.ns];rfl⟩
theorem PB.he (h:PB X (e::es) t):Ea e=true:=by have:=h.ns;rw[all_cons,h9] at this;exact this.1
theorem PB.zN (h:PB X (e::es) t):es.all Ea=true:=by have:=h.ns;rw[all_cons,h9] at this;exact this.2
theorem P2 {x1}(h:PB X es t):PE X (.Tuple es x1 pos) (Il t):=Ni h.pa
theorem P4 (h:PB X es t):PE X (.List es pos) (Im t):=Nj h.pa
structure Sc (X:Cx)(N W G:List Str):Prop where
 eN:X.N=N
 nd:N.Nodup
 R0:∀ x∈N,R5 X.env.scope x/\(x == ("__debug__":Str))=false/\(x == ("__classdict__":Str))=false
 R3:∀ x∈W,Loc X.env.scope x/\(X.fn x=true∨X.env.scope.names.lookup x=some .local)
 gl:∀ x∈G,Gl X x/\(x == ("__debug__":Str))=false/\x≠"__name__"
def Eb (sc:Scope)(x:Str):Bool:=(sc.names.lookup x == some .local||sc.names.lookup x == some .cell||sc.names.lookup x == some .free)&&!(x == ("__debug__":Str))&&!(x == ("__classdict__":Str))
theorem r6 {sc:Scope}{x:Str}(h:Eb sc x=true):R5 sc x/\(x == ("__debug__":Str))=false/\(x == ("__classdict__":Str))=false:=by
 unfold Eb at h;simp only[Bool.and_eq_true,Bool.or_eq_true,beq_iff_eq,Bool.not_eq_true'] at h;obtain⟨⟨h1,b⟩,a⟩:=h;refine⟨?_,b,a⟩
 rcases h1 with (h1 | h1) | h1
 ·exact .inl h1
 ·exact .inr (.inl h1)
 ·exact .inr (.inr h1)
def P5 (sc:Scope)(x:Str):Bool:=sc.names.lookup x == some .globalImplicit&&!(x == ("__debug__":Str))&&!(x == ("__name__":Str))
theorem xH {sc:Scope}{x:Str}(h:P5 sc x=true):sc.names.lookup x=some .globalImplicit/\(x == ("__debug__":Str))=false/\x≠"__name__":=by
 unfold P5 at h;simp only[Bool.and_eq_true,beq_iff_eq,Bool.not_eq_true',beq_eq_false_iff_ne] at h;exact⟨h.1.1,by simpa using h.1.2,h.2⟩
def Td (sc:Scope)(N ps G:List Str):Bool:=
 decide (sc.kind=.function)&&!sc.isCoroutine&&!sc.isGenerator&&decide N.Nodup&&decide (N.take ps.length=ps)&&ps.all (fun x=>sc.names.lookup x == some .local||sc.names.lookup x == some .cell)&&
 sc.names.all (fun y=>decide (y.2≠.free))&&N.all (Eb sc)&&N.all (fun x=>sc.names.lookup x == some .local||sc.names.lookup x == some .cell)&&G.all (P5 sc)
structure DS (sc:Scope)(N ps G:List Str):Prop where
 fs:jM N ps sc
 R0:∀ x∈N,Eb sc x=true
 loc:∀ x∈N,Loc sc x
 gl:∀ x∈G,P5 sc x=true
variable {G:List Str}
theorem aN {sc:Scope}(h:Td sc N ps G=true:=by decide +kernel):DS sc N ps G:=by
 unfold Td at h;simp only[Bool.and_eq_true,Bool.not_eq_true',List.all_eq_true,decide_eq_true_eq,Bool.or_eq_true,beq_iff_eq] at h;obtain⟨⟨⟨⟨⟨⟨⟨⟨⟨b,f⟩,c⟩,i⟩,d⟩,l⟩,j⟩,g⟩,e⟩,a⟩:=h;exact⟨⟨b,f,c,i,d,l,j⟩,g,e,a⟩
variable {f:Addr}
theorem DS.cx {sc:Scope}{q:Str}{cp:Value}{A:Around}{outer:List Env}{s:Shared}(D:DS sc N ps G):Sc (fE Bu P w K mg base N q sc f cp A outer s H E).K3 N N G:=
 ⟨rfl,D.fs.nd,fun x hx=>r6 (D.R0 x hx),fun x hx=>⟨D.loc x hx,.inl rfl⟩,fun x hx=>xH (D.gl x hx)⟩
theorem Def.go (D:Def K mg x st)(S:DS (ai st) N ps G)
  (hb:∀ (kV doc pm:Value) (an:Option Addr) (cp ct:Value) (us:List Value),us.length=ps.length->bindArgs (fnOf x x (bf st) (aO st) (ai st) .none kV doc pm an cp ct) ⟨us,[]⟩=pure (ps.zip us))
  (len:∀ vs H Q E,sp vs H Q E->vs.length=ps.length)
  (cU:∀ (X:Cx),Sc X N N G->X.prog=P->X.w=w->X.K=K->X.mg=mg->X.base=base->X.calm=true->X.env.scope=ai st->X.xe=(fun _ _=>False)->bY k X.A->X.A.units+64<cLine->
   ∀ (H:Hp) (vs:List V) (Q:VK) (E:XK),sp vs H Q E->∃ t,w9 X (aO st) t/\t {nx:=fun _ H'=>Q .br H',rt:=Q} (L2.start N vs) H):Fn P w K mg base (k+1) x ps sp:=by
 refine D.fn S.fs hb len fun f cp A a s H vs Q E b h=>?_;exact cU _ S.cx rfl rfl rfl rfl rfl rfl rfl rfl b b.units H vs Q E h
variable {W:List Str}
theorem vv (S:Sc X N W G)(i:Nat){x:Str}{pos:Pos}(h:N[i]?=some x:=by rfl):PE X (.Name x pos) (rC i):=
 have q:=S.R0 x (gc h)
 MJ (by rw[S.eN];exact h) q.1 q.2.1 q.2.2
theorem sv (S:Sc X N W G)(i:Nat){x:Str}{pos pos':Pos}(he:PE X e te)(h:N[i]?=some x:=by rfl)(hw:W[i]?=some x:=by rfl)(hs:swapsWith e (some (.Name x pos')) pos.line X.env=pure false:=by rfl) :
  PS X (.Assign [.Name x pos'] e pos) (rD te (bA i)):=
 have q:=S.R3 x (gc hw)
 M8 (by rw[S.eN];exact S.nd) (by rw[S.eN];exact h) q.1 he hs q.2
theorem gv (S:Sc X N W G)(i:Nat){x:Str}{pos:Pos}(h:N[i]?=some x:=by rfl)(hw:W[i]?=some x:=by rfl):PG X (.Name x pos) (bA i):=
 have q:=S.R3 x (gc hw)
 HW (by rw[S.eN];exact S.nd) (by rw[S.eN];exact h) q.1 q.2
variable {p:Pos}
theorem ff (S:Sc X N W G)(g:Nat)(F:Fn X.prog X.w X.K X.mg X.base k x ps sp)(hr:bY m X.A)(ha:PB X (e::es) t)(hk:k<=m:=by decide)(hg:G[g]?=some x:=by rfl):PE X (.Call (.Name x p) (e::es) [] pos) (nk sp [] E0 t):=
 have q:=S.gl x (gc hg)
 PJ F hr q.1 ha.pa hk q.2.1 (aW ha.he) (cy ha.zN)
variable {id:String}{r:List V->Hp->VK->Prop}
theorem cb (S:Sc X N W G)(g:Nat)(hc:bQ X (.builtin id) r)(hm:X.mg x=none)(hv:bootBuiltins x=some (.builtin id))(ha:PB X (e::es) t)(hg:G[g]?=some x:=by rfl):PE X (.Call (.Name x p) (e::es) [] pos) (Nm r t):=
 have q:=S.gl x (gc hg)
 Dz hc q.1 hm hv ha.pa q.2.2 q.2.1 (aW ha.he) (cy ha.zN)
variable {T:String}
theorem ct (S:Sc X N W G)(g:Nat)(hc:bQ X (.type T) r)(hm:X.mg x=none)(hv:bootBuiltins x=some (.type T))(ha:PB X (e::es) t)(hg:G[g]?=some x:=by rfl):PE X (.Call (.Name x p) (e::es) [] pos) (Nm r t):=
 have q:=S.gl x (gc hg)
 Bo hc q.1 hm hv ha.pa q.2.2 q.2.1 (aW ha.he) (cy ha.zN)
theorem Tz (S:Sc X N W G)(g:Nat){tg:Expr}(hm:X.mg "range"=none)(ha:PB X [e] t)(hg:G[g]?=some "range":=by rfl):PI X tg (.Call (.Name "range" p) [e] [] pos) (zt t):=
 Be (S.gl _ (gc hg)).1 hm ha.pa (aW ha.he)
variable {a:Expr}
theorem TB (S:Sc X N W G)(g:Nat){tg:Expr}(hm:X.mg "range"=none)(ha:PB X [e,a] t)(hg:G[g]?=some "range":=by rfl):PI X tg (.Call (.Name "range" p) [e,a] [] pos) (zu t):=
 have b:Ea a=true:=by have:=ha.zN;rw[all_cons,h9] at this;exact this.1
 Bf (S.gl _ (gc hg)).1 hm ha.pa (by rw[aW ha.he,aW b];rfl) (aW b)
variable {o:Expr}{to:TE}{name:Str}{apos cC:Pos}{rm:V->List V->Hp->VK->Prop}
theorem mb (pa:PlainAttrs T)(slot:Slot T name id)(hty:typeOf (.builtin id)=pure (.type "method_descriptor"))(hm:xa X id rm)(ho:PE X o to)(ha:PB X (e::es) t)
  (eA:attributeBase o name X.env (eval o X.env)=eval o X.env:=by rfl) (hlen:decide ((e::es).length<30)=true:=by rfl)
  (eB:(apos.endLine == cC.line)=true:=by rfl):PE X (.Call (.Attribute o name apos) (e::es) [] cC) (Pt X.K T rm to t):=
 Pu pa slot hty hm ho ha.pa eA (by rw[kS ha.ns];exact hlen) eB (aW ha.he) (cy ha.zN)
def Lq (osc:Scope)(oN N W G:List Str)(scope:Scope)(fv:List (Option Nat)):Bool:=
 NI osc oN N scope fv&&decide N.Nodup&&N.all (Eb (rl scope osc))&&W.all (fun x=>(rl scope osc).names.lookup x == some .local)&&G.all (P5 (rl scope osc))
variable {scope:Scope}{fv:List (Option Nat)}
theorem zO {cl:List (Str × Addr)}{C:Addr}{fp:List Addr}{s:Shared}(h1:X.env.scope=osc)(h:Lq osc oN N W G scope fv=true):Sc (jS X N scope cl C fp s H) N W G:=by
 unfold Lq at h;simp only[Bool.and_eq_true,List.all_eq_true,decide_eq_true_eq,beq_iff_eq] at h;obtain⟨⟨⟨⟨_,d⟩,b⟩,a⟩,c⟩:=h;have e:(jS X N scope cl C fp s H).env.scope=rl scope osc:=by rw[<-h1];rfl
 exact⟨rfl,d,fun x hx=>by rw[e];exact r6 (b x hx),fun x hx=>by rw[e];exact⟨.inl (a x hx),.inr (a x hx)⟩,fun x hx=>by unfold Gl Env.kindOf;rw[e];exact xH (c x hx)⟩
variable {oW oG:List Str}
theorem zP (S:Sc X oN oW oG)(h1:X.env.scope=osc)(h:Lq osc oN N W G scope fv=true):O5 X.env.scope X.N N scope fv:=by
 unfold Lq at h;simp only[Bool.and_eq_true] at h;exact NJ h1 S.eN h.1.1.1.1
variable {elt target iter:Expr}{ifs:List Expr}{tc:TT}{wi:TI}
theorem TC (S:Sc X oN oW oG)(hc:X.calm=true)(h1:X.env.scope=osc)(hi:PI X target iter wi)(h:Lq osc oN N W G scope fv=true)
  (hB:∀ cl C fp s H,Sc (jS X N scope cl C fp s H) N W G->PG (jS X N scope cl C fp s H) target g/\La (jS X N scope cl C fp s H) ifs tc/\PE (jS X N scope cl C fp s H) elt te)
  (hs:∀ x,foldedSetIterable iter X.env x=pure x:=by intro _;rfl):PE X (.ListComp elt [⟨target,iter,ifs,0⟩] scope pos) (NA wi g tc te fv):=
 PF hc hi (zP S h1 h) (fun cl C fp s H=>hB cl C fp s H (zO h1 h)) hs
theorem TF {x:Str}{px spos:Pos}(S:Sc X oN oW oG)(hc:X.calm=true)(h1:X.env.scope=osc)(hi:PI X target iter wi)(h:Lq osc oN N W G scope fv=true)
  (hB:∀ cl C fp s H,Sc (jS X N scope cl C fp s H) N W G->PG (jS X N scope cl C fp s H) target g/\La (jS X N scope cl C fp s H) ifs tc/\PE (jS X N scope cl C fp s H) elt te)
  (hx:X.env.scope.names.lookup x=some .local)
  (hsw:swapsWith (.ListComp elt [⟨target,iter,ifs,0⟩] scope pos) (some (.Name x px)) spos.line X.env=pure true) (hi':oN[i]?=some x:=by rfl)
  (hs:∀ x,foldedSetIterable iter X.env x=pure x:=by intro _;rfl):PS X (.Assign [.Name x px] (.ListComp elt [⟨target,iter,ifs,0⟩] scope pos) spos) (rD (NA wi g tc te fv) (bA i)):=
 PH (by rw[S.eN];exact S.nd) (by rw[S.eN];exact hi') hx hc hi (zP S h1 h) (fun cl C fp s H=>hB cl C fp s H (zO h1 h)) hsw hs
theorem Ec (h:X.xe=fun _ _=>False):PassesOwn (model X.prog X.w) X.A X.env X.xe:=by rw[h];exact PassesOwn.never
theorem eh (h:X.K=K):Nr X (uQ K):=by subst h;exact Iw
theorem cW (h:X.K=K):Nr X (Bp K):=by subst h;exact Nt
theorem cP (h:X.K=K):Np X (DF K):=by subst h;exact Iy
theorem iV (h:X.K=K):Np X (Iu K):=by subst h;exact Nq
theorem Ed (h:X.K=K):dY X (compareOp .In) (O4 K false):=by subst h;exact Bq
theorem iW (h:X.K=K):dY X (compareOp .NotIn) (O4 K true):=by subst h;exact rN
def P6 (K:Frag):List V->Hp->VK->Prop:=fun a H Q=>∃ p ys,a=[.ref p]/\(aB K H p ys∨aH K H p ys)/\Q (.int ys.length) H
theorem aG (h:X.K=K):bQ X (.builtin "len") (P6 K):=by subst h;exact rO
def P7 (K:Frag):List V->Hp->VK->Prop:=fun a H Q=>∃ (p:Addr) (ns:List Int),a=[.ref p]/\aB K H p (ns.map V.int)/\Q (.int ns.sum) H
theorem cX (hc:X.calm=true)(h:X.K=K):bQ X (.builtin "sum") (P7 K):=by subst h;exact DU hc
variable {l:Expr}
def NK (K:Frag):List V->Hp->VK->Prop:=fun a H Q=>∃ p ys,a=[.ref p]/\((aB K H p ys/\∀ l,H l=none->Q (.ref l) (upd H l (.tup ys)))∨(aH K H p ys/\Q (.ref p) H))
theorem eU (h:X.K=K):bQ X (.type "tuple") (NK K):=by subst h;exact pq
def IU (K:Frag):List V->Hp->VK->Prop:=fun a H Q=>∃ p ys,a=[.ref p]/\(aB K H p ys∨aH K H p ys)/\∀ l,H l=none->Q (.ref l) (upd H l (.lst ys))
theorem xI (h:X.K=K):bQ X (.type "list") (IU K):=by subst h;exact rQ
def P9 (K:Frag):R2:=fun x y H Q=>∃ d d',Dt K H x d/\Dt K H y d'/\shaped d=true/\shaped d'=true/\Q (.bl (PyData.eqv d d')) H
def NL (K:Frag):R2:=fun x y H Q=>∃ d d',Dt K H x d/\Dt K H y d'/\shaped d=true/\shaped d'=true/\Q (.bl (!PyData.eqv d d')) H
theorem xJ (hu:X.A.units+64<cLine)(h:X.K=K):dY X (compareOp .Eq) (P9 K):=by subst h;exact NB hu
theorem r8 (hu:X.A.units+64<cLine)(h:X.K=K):dY X (compareOp .NotEq) (NL K):=by subst h;exact NC hu
def Lr (K:Frag):R2:=fun x y H Q=>∃ l b xs zs,x=.ref l/\y=.ref b/\aB K H l xs/\aB K H b zs/\xs.length+zs.length<=sizeLine/\∀ p,H p=none->Q (.ref p) (upd H p (.lst (xs++zs)))
theorem dE (h:X.K=K):dY X (binaryOp .Add) (Lr K):=by subst h;exact IQ
def Qa:List V->Hp->VK->Prop:=fun a H Q=>∃ i j,a=[.int i,.int j]/\Q (.int (if j>i then j else i)) H
theorem Bx (hc:X.calm=true):bQ X (.builtin "max") Qa:=Bh hc
variable {i:Int}
theorem Ls {j:Int} :Qa [.int i,.int j] H Q=Q (.int (if j>i then j else i)) H:=propext ⟨fun ⟨a,b,e,q⟩=>by cases e;exact q,fun q=>⟨i,j,rfl,q⟩⟩
variable {tg:Expr}
theorem Ee (hl:PE X l tl)(h:X.K=K):PI X tg l (zr K tl):=by subst h;exact HZ hl
theorem IV (hl:PE X l tl)(h:X.K=K):PI X tg l (HY K tl):=by subst h;exact M9 hl
theorem TH (pa:PlainAttrs T)(slot:Slot T name id)(hty:typeOf (.builtin id)=pure (.type "method_descriptor"))(hm:xa X id rm)(h:X.K=K)(ho:PE X o to)(ha:PB X (e::es) t)
  (eA:attributeBase o name X.env (eval o X.env)=eval o X.env:=by rfl) (hlen:decide ((e::es).length<30)=true:=by rfl)
  (eB:(apos.endLine == cC.line)=true:=by rfl):PE X (.Call (.Attribute o name apos) (e::es) [] cC) (Pt K T rm to t):=by subst h;exact mb pa slot hty hm ho ha eA hlen eB
theorem Sy (pa:PlainAttrs T)(slot:Slot T name id)(hty:typeOf (.builtin id)=pure (.type "method_descriptor"))(hm:xa X id rm)(h:X.K=K)(ho:PE X o to)
  (eA:attributeBase o name X.env (eval o X.env)=eval o X.env:=by rfl)
  (eB:(apos.endLine == cC.line)=true:=by rfl):PE X (.Call (.Attribute o name apos) [] [] cC) (Iz K T rm to):=by subst h;exact Nw pa slot hty hm ho eA eB
def Ef (K:Frag):R2:=fun x y H Q=>∃ a b xs ys,x=.ref a/\y=.ref b/\aH K H a xs/\aH K H b ys/\xs.length+ys.length<=sizeLine/\∀ p H',ah H H'->aH K H' p (xs++ys)->Q (.ref p) H'
theorem h7 (h:X.K=K):dY X (binaryOp .Add) (Ef K):=by
 subst h;intro c s σ H x y v u Q I o w h;obtain⟨a,b,z,N,rfl,rfl,j,hb,hz,q⟩:=h
 by_cases hx:z=[]
 ·subst hx
  cases o
  cases w
  obtain⟨E,M,⟨⟨P,J,C,G⟩,e,B,n,t⟩,_⟩:=I.tuple j;obtain⟨g,R,⟨⟨A,l,i,m⟩,r,f,O,d⟩,_⟩:=I.tuple hb
  simp only at B t f d
  subst B t f d
  cases M
  refine concat_meets ⟨_,e,rfl⟩ ⟨_,r,rfl⟩ noFill_tuple_add seq_tuple_add slot_tuple_add entry_tuple_add (args_tuple_add_2 _ _) (tuple_addW0 a b _ g.toArray n O J l G m rfl) ⟨e,r,?_⟩;exact⟨.ref b,H,I,rfl,q b H (ah.refl _) hb⟩
 ·exact Iv c s σ H _ _ v u Q I o w ⟨a,b,z,N,rfl,rfl,j,hb,hx,hz,fun e=>q a H (ah.refl _) (by rw[e,Um];exact j),fun _ p D=>q p _ (ah.new D _) (aH.of ag)⟩
def Qb (sc:Scope):Env:={scope:=sc,locals:=0,globals:=0,cells:=[],qual:="",func:=none,code:=.none,frame:=none,builtins:=0}
theorem eM (v:Expr)(t:Option Expr)(l:Nat)(env:Env):swapsWith v t l env=swapsWith v t l (Qb env.scope):=rfl
def zQ:List Expr->Option (List Int)
 | []=>some []
 | .Constant (.int i) _ _::r=>(zQ r).map (i::·)
 | _=>none
def Eg (ns:List Int):TA:=fun _ H Q=>Q (ns.map V.int) H
theorem zS {X:Cx}:∀ {es:List Expr} {ns:List Int},zQ es=some ns->PB X es (Eg ns)
 | [],ns,h=>by cases h;exact xG
 | e::es,ns,h=>by
  unfold zQ at h
  split at h
  ·rename_i h1;cases h1
  ·rename_i i k p r h1
   cases h1
   obtain⟨b,a,rfl⟩:=Option.map_eq_some_iff.mp h;exact rZ kH (zS a)
  ·cases h
def zT:List Expr->Option (List Str)
 | []=>some []
 | .Constant (.str i) _ _::r=>(zT r).map (i::·)
 | _=>none
def Eh (ns:List Str):TA:=fun _ H Q=>Q (ns.map V.str) H
theorem zU {X:Cx}:∀ {es:List Expr} {ns:List Str},zT es=some ns->PB X es (Eh ns)
 | [],ns,h=>by cases h;exact xG
 | e::es,ns,h=>by
  unfold zT at h
  split at h
  ·rename_i h1;cases h1
  ·rename_i i k p r h1
   cases h1
   obtain⟨b,a,rfl⟩:=Option.map_eq_some_iff.mp h;exact rZ Df (zU a)
  ·cases h
variable {Q:List V->Hp->Prop}
theorem Ei {ns:List Int}{σ:St} :Eg ns σ H Q=Q (ns.map V.int) H:=rfl
theorem Ej {ns:List Str}{σ:St} :Eh ns σ H Q=Q (ns.map V.str) H:=rfl
structure QE (X:Cx)(e:Expr)(t:TE):Prop where
 h:PE X e t
structure QT (X:Cx)(e:Expr)(t:TT):Prop where
 h:PT X e t
structure QW (X:Cx)(e:Expr)(t:TT):Prop where
 h:PW X e t
structure QB (X:Cx)(es:List Expr)(t:TA):Prop where
 h:PB X es t
structure QS (X:Cx)(st:Stmt)(t:TS):Prop where
 h:PS X st t
structure uZ (X:Cx)(st:List Stmt)(t:TS):Prop where
 h:w9 X st t
structure QG (X:Cx)(e:Expr)(t:TG):Prop where
 h:PG X e t
structure Qc (X:Cx)(e:List Expr)(t:zp):Prop where
 h:O3 X e t
structure QI (X:Cx)(tg iter:Expr)(wi:TI):Prop where
 h:PI X tg iter wi
structure R8 (X:Cx)(ifs:List Expr)(t:TT):Prop where
 h:La X ifs t
structure QO (X:Cx)(e:Option Expr)(t:TO):Prop where
 h:PO X e t
theorem kv (S:Sc X N W G)(i:Nat)(h:N[i]?=some x:=by rfl):QE X (.Name x pos) (rC i):=⟨vv S i h⟩
variable {j:Nat}
theorem aw:QE X (.Constant (.int i) j pos) (tC (.int i)):=⟨kH⟩
theorem HB {i:Bool} :QE X (.Constant (.bool i) j pos) (tC (.bl i)):=⟨Pg⟩
theorem pz:QE X (.Constant .none j pos) (tC .br):=⟨MK⟩
theorem bj {i:Str} :QE X (.Constant (.str i) j pos) (tC (.str i)):=⟨Df⟩
variable {b:Expr}{ta tb:TE}
theorem aR {op:Operator}{r:R2}(ho:dY X (binaryOp op) r)(ha:QE X a ta)(hb:QE X b tb):QE X (.BinOp a op b pos) (rF r ta tb):=⟨uJ ho ha.h hb.h⟩
variable {pos':Pos}{n:Int}
theorem qx (ha:QE X a ta)(h:0<n/\n<1073741824:=by decide):QE X (.BinOp a .FloorDiv (.Constant (.int n) k pos') pos) (tI (fun i=>.int (i / n)) ta):=⟨IK ha.h h⟩
theorem bG (ha:QE X a ta)(h:0<n:=by decide):QE X (.BinOp a .Mod (.Constant (.int n) k pos') pos) (tI (fun i=>.int (i % n)) ta):=⟨IL ha.h h⟩
theorem Ek (ha:QE X a ta)(h:-(2 ^ 64)<n/\n<2 ^ 64:=by decide):QE X (.BinOp a .Mult (.Constant (.int n) k pos') pos) (tI (fun i=>.int (i*n)) ta):=⟨IM ha.h h⟩
theorem El (ha:QE X a ta)(h:-(2 ^ 64)<n/\n<2 ^ 64:=by decide):QE X (.BinOp (.Constant (.int n) k pos') .Mult a pos) (tI (fun i=>.int (n*i)) ta):=⟨IP ha.h h⟩
theorem NM {op:UnaryOp}{r:V->Hp->VK->Prop}(ho:R6 X (unaryOp op) r)(ha:QE X a ta):QE X (.UnaryOp op a pos) (Sr r ta):=⟨Pl ho ha.h⟩
variable {r:R2}
theorem jV {op:CmpOp}(ho:dY X (compareOp op) r)(ha:QE X a ta)(hb:QE X b tb)(hm:behindInMarks op b=false):QE X (.Compare a [op] [b] pos) (rF r ta tb):=⟨Ig ho ha.h hb.h hm⟩
variable {c:Expr}{tc:TE}
theorem Em {op op':CmpOp}{r':R2}(ho:dY X (compareOp op) r)(ho':dY X (compareOp op') r')(ha:QE X a ta)(hb:QE X b tb)(hc:QE X c tc)
  (hm:lastMarks [op,op'] [b,c]=false:=by with_unfolding_all rfl):QE X (.Compare a [op,op'] [b,c] pos) (ni r r' ta tb tc):=⟨Ds ho ho' ha.h hb.h hc.h hm⟩
theorem xK {op}(h:QE X a ta):QE X (.BoolOp op [a] pos) ta:=⟨MU h.h⟩
variable {rest:List Expr}
theorem pA (ha:QE X a ta)(hb:QE X (.BoolOp .And (b::rest) pos) tb):QE X (.BoolOp .And (a::b::rest) pos) (Dh ta tb):=⟨MV ha.h hb.h⟩
theorem TJ (ha:QE X a ta)(hb:QE X (.BoolOp .Or (b::rest) pos) tb):QE X (.BoolOp .Or (a::b::rest) pos) (MT ta tb):=⟨Pj ha.h hb.h⟩
variable {tA:TT}
theorem Sz (hc:QT X c tA)(ha:QE X a ta)(hb:QE X b tb):QE X (.IfExp c a b pos) (Sn tA ta tb):=⟨Di hc.h ha.h hb.h⟩
theorem bL:QB X [] uM:=⟨xG⟩
theorem ak (ha:QE X e te)(hr:QB X es t)(hn:Ea e=true:=by rfl):QB X (e::es) (uN te t):=⟨rZ ha.h hr.h hn⟩
theorem r9 {ns:List Int}(h:zQ es=some ns):QB X es (Eg ns):=⟨zS h⟩
theorem zV {ns:List Str}(h:zT es=some ns):QB X es (Eh ns):=⟨zU h⟩
theorem qy {x1}(h:QB X es t):QE X (.Tuple es x1 pos) (Il t):=⟨P2 h.h⟩
theorem eY (h:QB X es t):QE X (.List es pos) (Im t):=⟨P4 h.h⟩
theorem mK (hr:Nr X r)(ha:QE X a ta)(hb:QE X b tb)(hs:mJ b):QE X (.Subscript a b pos) (rF r ta tb):=⟨Pp hr ha.h hb.h hs⟩
theorem bD:QO X none rJ:=⟨Iq⟩
theorem bE (h:QE X e te):QO X (some e) (DB te):=⟨Ir h.h⟩
theorem pB {lo hi:Option Expr}{tl th:TO}{p2:Pos}{r:V->Option Int->Option Int->Hp->VK->Prop}(hr:Np X r)(he:QE X e te)(hl:QO X lo tl)(hu:QO X hi th):QE X (.Subscript e (.Slice lo hi none p2) pos) (Su r te tl th):=⟨DC hr he.h hl.h hu.h⟩
theorem cA (S:Sc X N W G)(g:Nat)(F:Fn X.prog X.w X.K X.mg X.base k x ps sp)(hr:bY m X.A)(ha:QB X (e::es) t)(hk:k<=m:=by decide)(hg:G[g]?=some x:=by rfl):QE X (.Call (.Name x p) (e::es) [] pos) (nk sp [] E0 t):=⟨ff S g F hr ha.h hk hg⟩
variable {r:List V->Hp->VK->Prop}
theorem c7 (S:Sc X N W G)(g:Nat)(hc:bQ X (.builtin id) r)(hm:X.mg x=none)(hv:bootBuiltins x=some (.builtin id))(ha:QB X (e::es) t)(hg:G[g]?=some x:=by rfl):QE X (.Call (.Name x p) (e::es) [] pos) (Nm r t):=⟨cb S g hc hm hv ha.h hg⟩
theorem nu (S:Sc X N W G)(g:Nat)(hc:bQ X (.type T) r)(hm:X.mg x=none)(hv:bootBuiltins x=some (.type T))(ha:QB X (e::es) t)(hg:G[g]?=some x:=by rfl):QE X (.Call (.Name x p) (e::es) [] pos) (Nm r t):=⟨ct S g hc hm hv ha.h hg⟩
theorem jW (pa:PlainAttrs T)(slot:Slot T name id)(hty:typeOf (.builtin id)=pure (.type "method_descriptor"))(hm:xa X id rm)(h:X.K=K)(ho:QE X o to)(ha:QB X (e::es) t)
  (eA:attributeBase o name X.env (eval o X.env)=eval o X.env:=by rfl) (hlen:decide ((e::es).length<30)=true:=by rfl)
  (eB:(apos.endLine == cC.line)=true:=by rfl):QE X (.Call (.Attribute o name apos) (e::es) [] cC) (Pt K T rm to t):=⟨TH pa slot hty hm h ho.h ha.h eA hlen eB⟩
theorem SA (pa:PlainAttrs T)(slot:Slot T name id)(hty:typeOf (.builtin id)=pure (.type "method_descriptor"))(hm:xa X id rm)(h:X.K=K)(ho:QE X o to)
  (eA:attributeBase o name X.env (eval o X.env)=eval o X.env:=by rfl)
  (eB:(apos.endLine == cC.line)=true:=by rfl):QE X (.Call (.Attribute o name apos) [] [] cC) (Iz K T rm to):=⟨Sy pa slot hty hm h ho.h eA eB⟩
variable {r:R2}
theorem aV {op:CmpOp}(ho:dY X (compareOp op) r)(ha:QE X a ta)(hb:QE X b tb)(hm:behindInMarks op b=false):QT X (.Compare a [op] [b] pos) (uL (rF r ta tb)):=⟨Ih ho ha.h hb.h hm⟩
theorem xM {op op':CmpOp}{r':R2}(ho:dY X (compareOp op) r)(ho':dY X (compareOp op') r')(ha:QE X a ta)(hb:QE X b tb)(hc:QE X c tc)
  (hm:lastMarks [op,op'] [b,c]=false:=by with_unfolding_all rfl):QT X (.Compare a [op,op'] [b,c] pos) (uL (ni r r' ta tb tc)):=⟨Du ho ho' ha.h hb.h hc.h hm⟩
theorem zW (ha:QT X a tA):QW X (.BoolOp .And [a] pos) tA:=⟨HR ha.h⟩
theorem By (ha:QT X a tA):QW X (.BoolOp .Or [a] pos) tA:=⟨MP ha.h⟩
variable {tB':TT}
theorem IW (ha:QT X a tA)(hb:QW X (.BoolOp .And (b::rest) pos) tB'):QW X (.BoolOp .And (a::b::rest) pos) (MN tA tB'):=⟨MR ha.h hb.h⟩
theorem O6 (ha:QT X a tA)(hb:QW X (.BoolOp .Or (b::rest) pos) tB'):QW X (.BoolOp .Or (a::b::rest) pos) (Sm tA tB'):=⟨Ph ha.h hb.h⟩
theorem HC (h:QW X a tA):QT X a tA:=⟨h.h.pt⟩
theorem sf (ha:QT X a tA):QT X (.UnaryOp .Not a pos) (MO tA):=⟨MS ha.h⟩
variable {v:TS}
theorem pC (h:QE X e te)(he:∀ whole,isTrue e X.env whole=(do let v<-whole;standAt e.pos;holding [v] (truthy v)):=by intro _;rfl):QT X e (tB te):=⟨MM h.h he⟩
theorem kg (S:Sc X N W G)(i:Nat)(h:N[i]?=some x:=by rfl)(hw:W[i]?=some x:=by rfl):QG X (.Name x pos) (bA i):=⟨gv S i h hw⟩
theorem c6:Qc X [] m7:=⟨HX⟩
variable {tgs:zp}
theorem aS (h1:QG X e g)(h2:Qc X es tgs)(hs:(assignEach (e::es) X.env).map (·.2)=assign e X.env::(assignEach es X.env).map (·.2):=by rfl):Qc X (e::es) (dq g tgs):=⟨Dn h1.h h2.h hs⟩
variable {n kk:Nat}
theorem jX (hc:X.calm=true)(hK:X.K=K)(h:Qc X es tgs)(hn:(assignEach es X.env).length=n:=by rfl)(hst:(assignEach es X.env).findIdx? (·.1)=none:=by rfl):QG X (.Tuple es kk pos) (m9 K n tgs):=⟨by subst hK;exact M4 hc h.h hn hst⟩
theorem NO {ti:TE}{i:Expr}{tS:Dm}(ho:QE X o to)(hi:QE X i ti)(hs:MZ X tS)
  (ha:∀ v,assign (.Subscript o i pos) X.env v=(do
   let ov<-holding [v] (eval o X.env)
   let iv<-holding [v,ov] (eval i X.env)
   standAt pos
   holding [v,ov,iv] (setItem ov iv v)
   release [v,ov,iv] []):=by intro _;rfl):QG X (.Subscript o i pos) (M5 to ti tS):=⟨M6 ho.h hi.h hs ha⟩
theorem jY (S:Sc X N W G)(g:Nat)(hm:X.mg "range"=none)(ha:QB X [e] t)(hg:G[g]?=some "range":=by rfl):QI X tg (.Call (.Name "range" p) [e] [] pos) (zt t):=⟨Tz S g hm ha.h hg⟩
theorem Qd (S:Sc X N W G)(g:Nat)(hm:X.mg "range"=none)(ha:QB X [e,a] t)(hg:G[g]?=some "range":=by rfl):QI X tg (.Call (.Name "range" p) [e,a] [] pos) (zu t):=⟨TB S g hm ha.h hg⟩
theorem cQ (hl:QE X e te)(h:X.K=K):QI X tg e (zr K te):=⟨Ee hl.h h⟩
theorem dI (hl:QE X e te)(h:X.K=K):QI X tg e (HY K te):=⟨IV hl.h h⟩
theorem bp:R8 X [] gW:=⟨IH⟩
theorem gp (h:QT X e tA):R8 X [e] tA:=⟨II h.h⟩
theorem bg (S:Sc X N W G)(i:Nat)(he:QE X e te)(h:N[i]?=some x:=by rfl)(hw:W[i]?=some x:=by rfl)(hs:swapsWith e (some (.Name x pos')) pos.line X.env=pure false:=by rfl) :
  QS X (.Assign [.Name x pos'] e pos) (rD te (bA i)):=⟨sv S i he.h h hw hs⟩
theorem En (he:QE X e te)(hg:QG X tg g)(hs:swapsWithSole [tg] e pos.line X.env=pure false:=by rfl)(hw:swappedStores [tg] e X.env=pure none:=by rfl)
  (h1:(assignEach [tg] X.env).map (·.2)=[assign tg X.env]:=by rfl):QS X (.Assign [tg] e pos) (rD te g):=⟨M7 he.h hg.h hs hw h1⟩
theorem aK (he:QE X e te):QS X (.Return (some e) pos) (MW te):=⟨MX he.h⟩
theorem c8 (he:QE X e te)(hs:swapsWith e none pos.line X.env=pure false:=by rfl):QS X (.Expr e pos) (Dl te):=⟨HV he.h hs⟩
theorem cG {l l':List Stmt}(hc:QT X c tA)(ha:uZ X l u)(hb:uZ X l' v):QS X (.If c l l' pos) (MY tA u v):=⟨Pk hc.h ha.h hb.h⟩
variable {sts:List Stmt}
theorem xN (hxe:X.xe=fun _ _=>False)(hc:QT X c tA)(hb:uZ X sts u):QS X (.While c sts [] pos) (rE tA u):=⟨Dp (Ec hxe) hc.h hb.h⟩
theorem eZ (hxe:X.xe=fun _ _=>False)(hc:X.calm=true)(hi:QI X tg iter wi)(hg:QG X tg g)(hb:uZ X sts u)(hs:∀ x,foldedSetIterable iter X.env x=pure x:=by intro _;rfl):QS X (.For tg iter sts [] pos) (Na wi g u):=⟨Nb (Ec hxe) hc hi.h hg.h hb.h hs⟩
theorem aA:uZ X [] Dj:=⟨HS⟩
theorem ae (h1:QS X st u)(h2:uZ X sts v):uZ X (st::sts) (Bb u v):=⟨Dk h1.h h2.h⟩
theorem aj (h1:QS X st u):uZ X [st] u:=⟨HU h1.h⟩
theorem i7 (S:Sc X oN oW oG)(hc:X.calm=true)(h1:X.env.scope=osc)(hi:QI X target iter wi)(h:Lq osc oN N W G scope fv=true)
  (hB:∀ cl C fp s H,Sc (jS X N scope cl C fp s H) N W G->QG (jS X N scope cl C fp s H) target g/\R8 (jS X N scope cl C fp s H) ifs tA/\QE (jS X N scope cl C fp s H) elt te)
  (hs:∀ x,foldedSetIterable iter X.env x=pure x:=by intro _;rfl):QE X (.ListComp elt [⟨target,iter,ifs,0⟩] scope pos) (NA wi g tA te fv):=
 ⟨TC S hc h1 hi.h h (fun cl C fp s H a=>⟨(hB cl C fp s H a).1.h,(hB cl C fp s H a).2.1.h,(hB cl C fp s H a).2.2.h⟩) hs⟩
variable {i:Nat}
theorem IZ {x:Str}{px spos:Pos}(S:Sc X oN oW oG)(hc:X.calm=true)(h1:X.env.scope=osc)(hi:QI X target iter wi)(h:Lq osc oN N W G scope fv=true)
  (hB:∀ cl C fp s H,Sc (jS X N scope cl C fp s H) N W G->QG (jS X N scope cl C fp s H) target g/\R8 (jS X N scope cl C fp s H) ifs tA/\QE (jS X N scope cl C fp s H) elt te)
  (hx:X.env.scope.names.lookup x=some .local)
  (hsw:swapsWith (.ListComp elt [⟨target,iter,ifs,0⟩] scope pos) (some (.Name x px)) spos.line X.env=pure true) (hi':oN[i]?=some x:=by rfl)
  (hs:∀ x,foldedSetIterable iter X.env x=pure x:=by intro _;rfl):QS X (.Assign [.Name x px] (.ListComp elt [⟨target,iter,ifs,0⟩] scope pos) spos) (rD (NA wi g tA te fv) (bA i)):=
 ⟨TF S hc h1 hi.h h (fun cl C fp s H a=>⟨(hB cl C fp s H a).1.h,(hB cl C fp s H a).2.1.h,(hB cl C fp s H a).2.2.h⟩) hx hsw hi' hs⟩
theorem Def.gq (D:Def K mg x st)(S:DS (ai st) N ps G)
  (hb:∀ (kV doc pm:Value) (an:Option Addr) (cp ct:Value) (us:List Value),us.length=ps.length->bindArgs (fnOf x x (bf st) (aO st) (ai st) .none kV doc pm an cp ct) ⟨us,[]⟩=pure (ps.zip us))
  (len:∀ vs H Q E,sp vs H Q E->vs.length=ps.length)
  (cU:∀ (X:Cx),Sc X N N G->X.prog=P->X.w=w->X.K=K->X.mg=mg->X.base=base->X.calm=true->X.env.scope=ai st->X.xe=(fun _ _=>False)->bY k X.A->X.A.units+64<cLine->
   ∀ (H:Hp) (vs:List V) (Q:VK) (E:XK),sp vs H Q E->∃ t,uZ X (aO st) t/\t {nx:=fun _ H'=>Q .br H',rt:=Q} (L2.start N vs) H):Fn P w K mg base (k+1) x ps sp:=
 D.go S hb len fun X a b c d e f g h i j l H vs Q E q=>by
  obtain⟨t,z,y⟩:=cU X a b c d e f g h i j l H vs Q E q;exact⟨t,z.h,y⟩
def pr:List Int->Int
 | []=>1
 | c::r=>c*pr r
theorem sh (xs:List Int)(c:Int):pr (xs++[c])=pr xs*c:=by
 induction xs with
 | nil=>simp[pr]
 | cons a r b=>rw[cons_append,pr,b,pr,Int.mul_assoc]
def de (W:Int)(cs:List Int):Int:=(cs.map (W / ·)).sum
theorem sum_append (xs ys:List Int):(xs++ys).sum=xs.sum+ys.sum:=by
 induction xs with
 | nil=>simp
 | cons a r b=>rw[cons_append,Uj,b,Uj,Int.add_assoc]
theorem Bz (W:Int)(xs:List Int)(c:Int):de W (xs++[c])=de W xs+W / c:=by
 unfold de;rw[hO,sum_append];simp
theorem xO {c:Int}:∀ {cs:List Int},c∈cs->c∣pr cs
 | a::r,h=>by
  rcases gz.mp h with rfl | h
  ·exact⟨pr r,rfl⟩
  ·obtain⟨d,e⟩:=xO h;exact⟨a*d,by rw[pr,e,<-Int.mul_assoc,<-Int.mul_assoc,Int.mul_comm a c]⟩
theorem ny:∀ {cs:List Int},(∀ c∈cs,1<=c)->1<=pr cs
 | [],_=>by decide
 | a::r,h=>by
  have h1:=h a (fO ..);have b:=ny (cs:=r) fun c hc=>h c (fA _ hc)
  have:=Int.mul_le_mul h1 b (by decide) (by omega)
  rw[pr];omega
theorem u6 {W d:Int}:∀ {cs:List Int},(∀ c∈cs,c∣W)->de (W*d) cs=de W cs*d
 | [],_=>by simp[de]
 | a::r,h=>by
  have b:=u6 (W:=W) (d:=d) (cs:=r) fun c hc=>h c (fA _ hc);unfold de at b ⊢;rw[pS,pS,Uj,Uj,b,Int.add_mul,Int.mul_comm W d,Int.mul_ediv_assoc d (h a (fO ..)),Int.mul_comm d]
theorem ia {W:Int}(hW:0<=W):∀ {cs:List Int},(∀ c∈cs,1<=c)->0<=de W cs
 | [],_=>by simp[de]
 | a::r,h=>by
  have b:=ia hW (cs:=r) fun c hc=>h c (fA _ hc);have h1:=h a (fO ..)
  have:0<=W / a:=Int.ediv_nonneg hW (by omega)
  unfold de at b ⊢;rw[pS,Uj];omega
variable {c:Int}
theorem BA {xs:List Int}(hc:1<=c):de (pr (xs++[c])) (xs++[c])=de (pr xs) xs*c+pr xs:=by
 rw[Bz,sh,u6 fun c hc=>xO hc,Int.mul_ediv_cancel _ (by omega)]
theorem sj {W:Int}(hW:0<=W):∀ {cs:List Int},(∀ c∈cs,1<=c)->de W cs<=cs.length*W
 | [],_=>by simp[de]
 | a::r,h=>by
  have b:=sj hW (cs:=r) fun c hc=>h c (fA _ hc);have h1:=h a (fO ..);have d:W / a<=W:=ediv_le_self _ hW;unfold de at b ⊢;rw[pS,Uj,pb,Int.natCast_succ,Int.add_mul];omega
theorem Eo (m n:Nat):Nat.gcd n (m % n)=Nat.gcd m n:=by
 rw[Nat.gcd_comm m n,Nat.gcd_rec n m,Nat.gcd_comm]
variable {b g:Int}
theorem Ja {a:Int}(hg:0<g)(h1:g∣a)(h2:g∣b):(a / g) / (b / g)=a / b:=by
 obtain⟨x,rfl⟩:=h1;obtain⟨y,rfl⟩:=h2;rw[Uq _ (by omega),Uq _ (by omega),Int.mul_ediv_mul_of_pos _ _ hg]
theorem Jb (hg:0<g)(hb:0<b)(h2:g∣b):1<=b / g:=by
 obtain⟨y,rfl⟩:=h2;rw[Uq _ (by omega)]
 have:=Int.pos_of_mul_pos_right hb (by omega)
 omega
def du (W c start seen:Int):Int:=((start - seen) % W+W / c - 1) / (W / c) % c
variable {W seen:Int}
theorem Ep {start:Int}(hc:1<=c):0<=du W c start seen:=emod_nonneg _ (by omega)
theorem Er {start:Int}(hc:1<=c):du W c start seen<c:=emod_lt_of_pos _ (by omega)
def others (n i:Nat):List Nat:=(List.range n).filter fun j=>decide (¬ j=i)
def seenOf (W:Int)(cs hs:List Int)(i:Nat):Int:=((others cs.length i).map fun j=>hs.getD j 0*(W / cs.getD j 0)).sum
def cg (cs hs:List Int)(i:Nat):Int:=du (pr cs) (cs.getD i 0) (de (pr cs) (cs.take i)) (seenOf (pr cs) cs hs i)
variable {cs:List Int}
theorem getD_mem (hi:i<cs.length):cs.getD i 0∈cs:=by
 rw[cc,cv hi];exact oD hi
theorem Qe {hs:List Int}(h:∀ c∈cs,1<=c)(hi:i<cs.length):0<=cg cs hs i:=Ep (h _ (getD_mem hi))
theorem Qf {hs:List Int}(h:∀ c∈cs,1<=c)(hi:i<cs.length):cg cs hs i<cs.getD i 0:=Er (h _ (getD_mem hi))
theorem take_snoc {α:Type}(d:α){xs:List α}(h:n<xs.length):xs.take (n+1)=xs.take n++[xs.getD n d]:=by
 rw[take_succ,cv h,cc,cv h];rfl
theorem Es (h:∀ c∈cs,1<=c)(hi:i<cs.length):pr cs / cs.getD i 0<=pr cs/\1<=pr cs / cs.getD i 0:=by
 have a:=ny h;have hc:=h _ (getD_mem hi);refine⟨ediv_le_self _ (by omega),?_⟩
 obtain⟨d,e⟩:=xO (getD_mem hi);rw[e,Uq _ (by omega)]
 have:=Int.pos_of_mul_pos_right (show 0<cs.getD i 0*d by omega) (by omega)
 omega
variable {A:Prop}
theorem xP {B:Prop}[Decidable (true=true)]:(if true=true then A else B)=A:=if_pos rfl
theorem jZ {B:Prop}[Decidable True]:(if True then A else B)=A:=if_pos trivial
theorem Lu {B:Prop}[Decidable False]:(if False then A else B)=B:=if_neg id
theorem Qg [i:Decidable True]:@decide True i=true:=by cases i with
 | isTrue _=>rfl
 | isFalse h=>exact absurd trivial h
theorem Lv {σ:St}:xD [] σ=[]:=rfl
theorem Lw {σ:St}:xD (none::fv) σ=none::xD fv σ:=rfl
def Jc (σ:St)(i:Nat):Option V:=(σ[i]?).join
theorem Lx {σ:St}:xD (some i::fv) σ=Jc σ i::xD fv σ:=rfl
variable {o:Option V}
theorem Qh {σ:St}:Jc (o::σ) 0=o:=rfl
theorem Qi {σ:St}:Jc (o::σ) (i+1)=Jc σ i:=rfl
variable {Q:VK}{p:Addr}
theorem bq {ys:List V}(h:aB K H p ys∨aH K H p ys)(q:Q (.int ys.length) H):P6 K [.ref p] H Q:=⟨p,ys,rfl,h,q⟩
theorem kT {ns:List Int}(h:aB K H p (ns.map V.int))(q:Q (.int ns.sum) H):P7 K [.ref p] H Q:=⟨p,ns,rfl,h,q⟩
variable {i:Int}
theorem ib {α:Type}{xs:List α}{k:Nat}(e:i=(k:Int))(d:α)(h1:k<xs.length):xw xs i=some (xs.getD k d):=by
 subst e;rw[iT (cv h1),cc,cv h1];rfl
theorem getD_ints {ns:List Int}{k:Nat}(h:k<ns.length):(ns.map V.int).getD k .br=.int (ns.getD k 0):=by
 rw[cc,ey,cv h,cc,cv h];rfl
theorem cY {ns:List Int}{k:Nat}(h:aB K H p (ns.map V.int))(e:i=(k:Int))(h1:k<ns.length)(q:Q (.int (ns.getD k 0)) H):uQ K (.ref p) (.int i) H Q:=
 ⟨p,_,i,_,rfl,rfl,h,ib e .br (by rw[di];exact h1),by rw[getD_ints h1];exact q⟩
theorem dF {ns:List Int}{k:Nat}(h:aH K H p (ns.map V.int))(e:i=(k:Int))(h1:k<ns.length)(q:Q (.int (ns.getD k 0)) H):Bp K (.ref p) (.int i) H Q:=
 ⟨p,_,i,_,rfl,rfl,h,ib e .br (by rw[di];exact h1),by rw[getD_ints h1];exact q⟩
variable {a:Addr}{ns:List Int}{g:TG}{tb:TS}
theorem Jd (I:Nat->St->Hp->Prop)(h:aH K H a (ns.map V.int))(h0:I 0 σ H)(hl:∀ i σ H,I i σ H->aH K H a (ns.map V.int))
  (step:∀ i σ H,i<ns.length->I i σ H->g (.int (ns.getD i 0)) σ H fun σ2 H2=>tb {D with nx:=I (i+1),ct:=I (i+1),bk:=D.nx} σ2 H2)
  (fin:∀ σ H,I ns.length σ H->D.nx σ H):∃ b,V.ref a=.ref b/\(∃ xs,aH K H b xs)/\rY g tb D σ (Bc K b) H:=by
 refine⟨a,rfl,⟨_,h⟩,zw (xs:=ns.map V.int) I h0 (fun i σ H _ p=>hl i σ H p) (fun i x σ H e p=>?_) fun σ H p=>fin σ H (by rw[di] at p;exact p)⟩
 have hi:i<ns.length:=by have:=(mv.mp e).1;rw[di] at this;exact this
 have c:x=.int (ns.getD i 0):=by
  rw[<-getD_ints hi,cc,e];rfl
 rw[c];exact step i σ H hi p
theorem forL (I:Nat->St->Hp->Prop)(h:aB K H a (ns.map V.int))(h0:I 0 σ H)(hl:∀ i σ H,I i σ H->aB K H a (ns.map V.int))
  (step:∀ i σ H,i<ns.length->I i σ H->g (.int (ns.getD i 0)) σ H fun σ2 H2=>tb {D with nx:=I (i+1),ct:=I (i+1),bk:=D.nx} σ2 H2)
  (fin:∀ σ H,I ns.length σ H->D.nx σ H):∃ b,V.ref a=.ref b/\(∃ xs,aB K H b xs)/\rY g tb D σ (Hz K b) H:=by
 refine⟨a,rfl,⟨_,h⟩,uI (xs:=ns.map V.int) I h0 (fun i σ H _ p=>hl i σ H p) (fun i x σ H e p=>?_) fun σ H p=>fin σ H (by rw[di] at p;exact p)⟩
 have hi:i<ns.length:=by have:=(mv.mp e).1;rw[di] at this;exact this
 have c:x=.int (ns.getD i 0):=by
  rw[<-getD_ints hi,cc,e];rfl
 rw[c];exact step i σ H hi p
variable {j:Int}
theorem forR (n:Nat)(I:Nat->St->Hp->Prop)(e:j=(n:Int))(hn:n<=1000000)(h0:I 0 σ H)
  (step:∀ i σ H,i<n->I i σ H->g (.int (i:Int)) σ H fun σ2 H2=>tb {D with nx:=I (i+1),ct:=I (i+1),bk:=D.nx} σ2 H2)
  (fin:∀ σ H,I n σ H->D.nx σ H):∃ k:Int,[V.int j]=[.int k]/\-(2 ^ 62)<=k/\k<2 ^ 62/\rY g tb D σ (xg 0 k.toNat) H:=by
 subst e;refine⟨_,rfl,by omega,by omega,qf (n:=((n:Nat):Int).toNat) I h0 (fun i σ H hi p=>?_) fun σ H p=>fin σ H (by rw[zm] at p;exact p)⟩
 rw[zm] at hi
 have:=step i σ H hi p
 rw[<-Int.zero_add ((i:Nat):Int)] at this;exact this
variable {tc:TT}
theorem uB {rest:St}{H1:Hp}(ok:uY J H1 n item)(keep:Nat->Bool)(val:Nat->V)(hn:n<sizeLine)
  (step:∀ i H (A:V->Hp->Prop) (B:Hp->Prop),i<n->ah H1 H->(keep i=true->∀ H',ah H H'->A (val i) H')->(keep i=false->∀ H',ah H H'->B H')->
   tc (some (item i)::rest) H fun b H3=>if b=true then te (some (item i)::rest) H3 A else B H3)
  (fin:∀ acc H,H1 acc=none->ah H1 H->H acc=some (.lst (((List.range n).filter keep).map val))->Q (.ref acc) H):rV (bA 0) tc te (none::rest) Q J H1:=by
 have d:∀ i,i<n->(((List.range i).filter keep).map val).length<sizeLine:=fun i hi=>by
  have:=C4 keep (List.range i)
  rw[kc] at this;rw[di];omega
 refine NH ok (fun i=>((List.range i).filter keep).map val) (fun _ τ=>∃ y,τ=y::rest) rfl ⟨_,rfl⟩ ?_ fin;rintro i τ H acc hi ⟨y,rfl⟩ c e f;show tc (some (item i)::rest) H _;refine step i H _ _ hi e (fun hk H' a=>?_) fun hk H' a=>?_
 ·refine NG c (a _ _ f) (e.trans a) (d i hi) ?_ ⟨_,rfl⟩
  simp[List.range_succ,List.filter_append,List.map_append,hk]
 ·refine⟨⟨_,rfl⟩,e.trans a,?_⟩;rw[a _ _ f]
  simp[List.range_succ,List.filter_append,List.map_append,hk]
theorem R9 {rest:St}{H1:Hp}(keep:Nat->Bool)(val:Nat->Int)(h:aH K H1 a (ns.map V.int))(hn:ns.length<sizeLine)
  (step:∀ i H (A:V->Hp->Prop) (B:Hp->Prop),i<ns.length->ah H1 H->(keep i=true->∀ H',ah H H'->A (.int (val i)) H')->(keep i=false->∀ H',ah H H'->B H')->
   tc (some (.int (ns.getD i 0))::rest) H fun b H3=>if b=true then te (some (.int (ns.getD i 0))::rest) H3 A else B H3)
  (fin:∀ acc H,H1 acc=none->ah H1 H->H acc=some (.lst ((((List.range ns.length).filter keep).map val).map V.int))->Q (.ref acc) H) :
  ∃ b,V.ref a=.ref b/\(∃ xs,aH K H1 b xs)/\rV (bA 0) tc te (none::rest) Q (Bc K b) H1:=by
 refine⟨a,rfl,⟨_,h⟩,uB (fY h) keep (fun i=>.int (val i)) (by rw[di];exact hn) (fun i H A B hi d c e=>?_) fun acc H h1 f g=>fin acc H h1 f (by rw[g,kJ,di];rfl)⟩
 rw[di] at hi;rw[getD_ints hi];exact step i H A B hi d c e
theorem SD {rest:St}{H1:Hp}(keep:Nat->Bool)(val:Nat->Int)(h:aB K H1 a (ns.map V.int))(hn:ns.length<sizeLine)
  (step:∀ i H (A:V->Hp->Prop) (B:Hp->Prop),i<ns.length->ah H1 H->(keep i=true->∀ H',ah H H'->A (.int (val i)) H')->(keep i=false->∀ H',ah H H'->B H')->
   tc (some (.int (ns.getD i 0))::rest) H fun b H3=>if b=true then te (some (.int (ns.getD i 0))::rest) H3 A else B H3)
  (fin:∀ acc H,H1 acc=none->ah H1 H->H acc=some (.lst ((((List.range ns.length).filter keep).map val).map V.int))->Q (.ref acc) H) :
  ∃ b,V.ref a=.ref b/\(∃ xs,aB K H1 b xs)/\rV (bA 0) tc te (none::rest) Q (Hz K b) H1:=by
 refine⟨a,rfl,⟨_,h⟩,uB (cV h) keep (fun i=>.int (val i)) (by rw[di];exact hn) (fun i H A B hi d c e=>?_) fun acc H h1 f g=>fin acc H h1 f (by rw[g,kJ,di];rfl)⟩
 rw[di] at hi;rw[getD_ints hi];exact step i H A B hi d c e
theorem Qj {rest:St}{H1:Hp}(n:Nat)(keep:Nat->Bool)(val:Nat->Int)(e:j=(n:Int))(hn:n<=1000000)
  (step:∀ i H (A:V->Hp->Prop) (B:Hp->Prop),i<n->ah H1 H->(keep i=true->∀ H',ah H H'->A (.int (val i)) H')->(keep i=false->∀ H',ah H H'->B H')->
   tc (some (.int (i:Int))::rest) H fun b H3=>if b=true then te (some (.int (i:Int))::rest) H3 A else B H3)
  (fin:∀ acc H,H1 acc=none->ah H1 H->H acc=some (.lst ((((List.range n).filter keep).map val).map V.int))->Q (.ref acc) H) :
  ∃ k:Int,[V.int j]=[.int k]/\-(2 ^ 62)<=k/\k<2 ^ 62/\rV (bA 0) tc te (none::rest) Q (xg 0 k.toNat) H1:=by
 subst e;refine⟨_,rfl,by omega,by omega,?_⟩
 rw[zm];refine uB xE keep (fun i=>.int (val i)) (FM hn (by decide)) (fun i H A B hi c a d=>?_) fun acc H h1 f g=>fin acc H h1 f (by rw[g,kJ];rfl)
 rw[Int.zero_add];exact step i H A B hi c a d
theorem bK (n:Nat):(List.range n).filter (fun _=>true)=List.range n:=by simp
variable {β:Type}
theorem map_getD (ns:List Int)(f:Int->β):(List.range ns.length).map (fun i=>f (ns.getD i 0))=ns.map f:=by
 apply ext_getElem
 ·simp
 ·intro i h1 a
  simp at h1
  simp[h1]
theorem Bt.pr {k:Nat}:∀ {cs:List Int},(∀ c∈cs,Bt k c)->Bt (cs.length*k+1) (L2.pr cs)
 | [],_=>by unfold Bt;simp[L2.pr]
 | c::r,h=>by
  have h1:=h c (fO ..);have a:=Bt.pr (k:=k) (cs:=r) fun d b=>h d (fA _ b)
  have:=h1.mul a
  rw[L2.pr];exact this.mono (by rw[pb,Nat.succ_mul];omega)
theorem HA.gq {k:Nat}{x:Str}{fd:FuncData}(F:HA K x x st f fd)(S:DS (ai st) N ps G)
  (len:∀ vs H Q E,sp vs H Q E->vs.length=ps.length)
  (cU:∀ (X:Cx),Sc X N N G->X.prog=P->X.w=w->X.K=K->X.mg=mg->X.base=base->X.calm=true->X.env.scope=ai st->X.xe=(fun _ _=>False)->bY k X.A->X.A.units+64<cLine->
   ∀ (H:Hp) (vs:List V) (Q:VK) (E:XK),sp vs H Q E->∃ t,uZ X (aO st) t/\t {nx:=fun _ H'=>Q .br H',rt:=Q} (L2.start N vs) H):eK P w K mg base Bu (k+1) f fd ps sp:=
 F.ok S.fs len fun c A a s H vs Q E b h=>by
  obtain⟨t,z,y⟩:=cU _ S.cx rfl rfl rfl rfl rfl rfl rfl rfl b b.units H vs Q E h;exact⟨t,z.h,y⟩
theorem Et {k:Nat}(h:k<=xs.length):jP xs none (some (k:Int))=xs.take k:=by
 unfold jP;rw[HT.jN,HT.iS,drop_zero,Nat.sub_zero,Nat.min_eq_left h]
theorem Eu {k:Nat}(h:k<=xs.length):jP xs (some (k:Int)) none=xs.drop k:=by
 unfold jP;rw[HT.jN,HT.iS,Nat.min_eq_left h,yx];rw[tz];exact ef _
theorem dv {k:Nat}:jP xs (some (k:Int)) none=xs.drop k:=by
 by_cases h:k<=xs.length
 ·exact Eu h
 ·unfold jP;rw[HT.jN,HT.iS,Nat.min_eq_right (by omega),List.drop_eq_nil_of_le (ef _),List.drop_eq_nil_of_le (by omega),List.take_nil]
theorem kU {k:Nat}:jP xs none (some (k:Int))=xs.take k:=by
 by_cases h:k<=xs.length
 ·exact Et h
 ·unfold jP;rw[HT.jN,HT.iS,drop_zero,Nat.sub_zero,Nat.min_eq_right (by omega),yx (ef _),yx (by omega)]
theorem sk (k:Nat)(h:aH K H a (ns.map V.int))(e:i=(k:Int))(hk:k<ns.length)(q:∀ p,H p=none->Q (.ref p) (upd H p (.tup ((ns.take k).map V.int)))):Iu K (.ref a) none (some i) H Q:=by
 subst e;refine⟨a,_,rfl,h,?_,fun p b=>?_⟩
 ·rw[di,HT.iS];omega
 ·rw[kU,<-map_take];exact q p b
theorem sr (k:Nat)(h:aH K H a (ns.map V.int))(e:i=((k+1:Nat):Int))(hk:k<ns.length)(q:∀ p,H p=none->Q (.ref p) (upd H p (.tup ((ns.drop (k+1)).map V.int)))):Iu K (.ref a) (some i) none H Q:=by
 subst e;refine⟨a,_,rfl,h,?_,fun p b=>?_⟩
 ·rw[di,HT.iS];omega
 ·rw[dv,<-UB];exact q p b
theorem Je (k:Nat)(h:aB K H a (ns.map V.int))(e:i=(k:Int))(q:∀ p,H p=none->Q (.ref p) (upd H p (.lst ((ns.drop k).map V.int)))):DF K (.ref a) (some i) none H Q:=by
 subst e;refine⟨a,_,rfl,h,fun p b=>?_⟩;rw[dv,<-UB];exact q p b
variable {b:Addr}{ms:List Int}
theorem su (h:aB K H a (ns.map V.int))(h':aB K H b (ms.map V.int))(hz:ns.length+ms.length<=sizeLine)(q:∀ p,H p=none->Q (.ref p) (upd H p (.lst ((ns++ms).map V.int)))):Lr K (.ref a) (.ref b) H Q:=
 ⟨a,b,_,_,rfl,rfl,h,h',by rw[di,di];exact hz,fun p c=>by rw[<-hO];exact q p c⟩
theorem sx (h:aH K H a (ns.map V.int))(h':aH K H b (ms.map V.int))(hz:ns.length+ms.length<=sizeLine)(q:∀ p H',ah H H'->aH K H' p ((ns++ms).map V.int)->Q (.ref p) H'):Ef K (.ref a) (.ref b) H Q:=
 ⟨a,b,_,_,rfl,rfl,h,h',by rw[di,di];exact hz,fun p H' d c=>by rw[<-hO] at c;exact q p H' d c⟩
theorem bZ (h:n<=100):n<=sizeLine:=ka h (by decide)
variable {v:V}
theorem aQ (h:aH K H p xs)(e:xw xs i=some v)(q:Q v H):Bp K (.ref p) (.int i) H Q:=⟨p,_,i,_,rfl,rfl,h,e,q⟩
structure Cn (c:Int):Prop where
 lo:1<=c
 hi:c<=1000000000000000000000000000000
def Ly:Sp:=fun a H Q _=>∃ m n:Nat,a=[.int m,.int n]/\Q (.int (Nat.gcd m n)) H
def Qk (H0:Hp)(g:Nat)(r:St)(σ:St)(H:Hp):Prop:=H=H0/\∃ (m n:Nat) (y:St),σ=some (.int m)::some (.int n)::y/\y.length=r.length/\Nat.gcd m n=g
def Te (σ:St):Nat:=match σ with
 | _::some (.int n)::_=>n.toNat
 | _=>0
theorem SE {α:Type}{y:List α}(h:y.length=1):∃ a,y=[a]:=by
 match y,h with
 | [a],_=>exact⟨a,rfl⟩
theorem SF (m n:Nat):(m:Int) % (n:Int)=((m % n:Nat):Int):=(UE m n).symm
structure bW (cs:List Int):Prop where
 cn:∀ c∈cs,Cn c
 len:cs.length<=8
end L2
namespace L2
open PySem PySem.Spec PyProof.Rows
theorem bW.pos {cs:List Int}(h:bW cs):∀ c∈cs,1<=c:=fun c hc=>(h.cn c hc).lo
theorem bW.take {cs:List Int}(h:bW cs)(i:Nat):bW (cs.take i):=⟨fun c hc=>h.cn c (List.mem_of_mem_take hc),by rw[qN];have:=h.len;omega⟩
theorem Cn.bt {c:Int}(h:Cn c):Bt 100 c:=by
 unfold Bt;have h1:=h.lo;have a:=h.hi
 have:(2:Nat) ^ 100=1267650600228229401496703205376:=by decide
 omega
theorem bW.BB {cs:List Int}(h:bW cs):Bt 801 (pr cs):=(Bt.pr fun c hc=>(h.cn c hc).bt).mono (by have:=h.len;omega)
theorem bW.jd {cs:List Int}(h:bW cs):1<=pr cs:=ny h.pos
theorem bW.Ql {cs:List Int}(h:bW cs):0<=de (pr cs) cs:=ia (by have:=h.jd;omega) h.pos
theorem bW.Qm {cs:List Int}(h:bW cs):Bt 805 (de (pr cs) cs):=by
 have h1:=sj (W:=pr cs) (by have:=h.jd;omega) h.pos
 have b:(cs.length:Int)*pr cs<=8*pr cs:=Int.mul_le_mul_of_nonneg_right (by have:=h.len;omega) (by have:=h.jd;omega)
 have a:Bt (4+801) (8*pr cs):=Bt.mul (by unfold Bt;decide) h.BB
 exact a.of_le h.Ql (by omega)
theorem bW.get {cs:List Int}(h:bW cs){i:Nat}(hi:i<cs.length):Cn (cs.getD i 0):=h.cn _ (L2.getD_mem hi)
def gC (cs:List Int):Nat:=Nat.gcd (de (pr cs) cs).toNat (pr cs).toNat
theorem xQ {cs:List Int}(h:bW cs):0<gC cs:=Nat.gcd_pos_of_pos_right _ (by have:=h.jd;omega)
theorem toN {i:Int}(h:0<=i):((i.toNat:Nat):Int)=i:=Int.toNat_of_nonneg h
theorem Qn {cs:List Int}(h:bW cs):(gC cs:Int)∣de (pr cs) cs:=by
 have:=Int.natCast_dvd_natCast.mpr (Nat.gcd_dvd_left (de (pr cs) cs).toNat (pr cs).toNat)
 rw[toN h.Ql] at this;exact this
theorem Ew {cs:List Int}(h:bW cs):(gC cs:Int)∣pr cs:=by
 have:=Int.natCast_dvd_natCast.mpr (Nat.gcd_dvd_right (de (pr cs) cs).toNat (pr cs).toNat)
 rw[toN (show 0<=pr cs by have:=h.jd;omega)] at this
 exact this
def Qo (cs:List Int):Int:=de (pr cs) cs / gC cs
def O7 (cs:List Int):Int:=pr cs / gC cs
theorem xR {cs:List Int}(h:bW cs):0<=Qo cs:=Int.ediv_nonneg h.Ql (by omega)
theorem nz {cs:List Int}(h:bW cs):1<=O7 cs:=Jb (by have:=xQ h;omega) (by have:=h.jd;omega) (Ew h)
theorem NP {cs:List Int}(h:bW cs):Bt 805 (Qo cs):=h.Qm.of_le (xR h) (ediv_le_self _ h.Ql)
theorem Ex {cs:List Int}(h:bW cs):Bt 801 (O7 cs):=h.BB.of_le (by have:=nz h;omega) (ediv_le_self _ (by have:=h.jd;omega))
theorem Qp {cs:List Int}(h:bW cs):Bt 801 (gC cs):=h.BB.of_le (by omega) (Int.le_of_dvd (by have:=h.jd;omega) (Ew h))
theorem NQ {cs:List Int}(h:bW cs):Qo cs / O7 cs=de (pr cs) cs / pr cs:=Ja (by have:=xQ h;omega) (Qn h) (Ew h)
def sy (K:Frag):Sp:=fun a H Q _=>∃ (p:Addr) (cs:List Int),a=[.ref p]/\aH K H p (cs.map V.int)/\bW cs/\∀ (q:Addr) (H':Hp),ah H H'->H' q=some (.tup [.int (Qo cs),.int (O7 cs)])->Q (.ref q) H'
def SG (H0:Hp)(p:Addr)(cs:List Int)(i:Nat)(σ:St)(H:Hp):Prop:=H=H0/\∃ y,σ=[some (.ref p),some (.int (de (pr (cs.take i)) (cs.take i))),some (.int (pr (cs.take i))),y,none]
def Ey (K:Frag):Sp:=fun a H Q _=>∃ (p:Addr) (cs:List Int),a=[.ref p]/\aH K H p (cs.map V.int)/\bW cs/\∀ (H':Hp),ah H H'->Q (.int (de (pr cs) cs / pr cs)) H'
theorem NR {i j:Int}(h:i=j):(!decide (i=j))=false:=by rw[ek h];rfl
def zX (K:Frag):Sp:=fun b H Q _=>∃ (a:Addr) (ns:List Int),b=[.ref a]/\aB K H a (ns.map V.int)/\ns.length<=63/\∀ H',Q (.bl true) H'
def Ez (K:Frag):Sp:=fun a H Q _=>∃ (p:Addr) (cs:List Int),a=[.ref p]/\aH K H p (cs.map V.int)/\bW cs/\Q (.int (pr cs)) H
def Qq (H0:Hp)(p:Addr)(cs:List Int)(i:Nat)(σ:St)(H:Hp):Prop:=H=H0/\∃ y,σ=[some (.ref p),some (.int (pr (cs.take i))),y]
structure Qr (cs hs:List Int):Prop where
 len:hs.length=cs.length
 bt:∀ j,j<cs.length->Bt 100 (hs.getD j 0)
def Qs (K:Frag):Sp:=fun a H Q _=>∃ (p h:Addr) (cs hs:List Int) (i:Nat),a=[.ref p,.ref h,.int i]/\aH K H p (cs.map V.int)/\aH K H h (hs.map V.int)/\bW cs/\Qr cs hs/\i<cs.length/\∀ H',ah H H'->Q (.int (cg cs hs i)) H'
variable {i:Nat}
theorem NS {cs:List Int}(hcs:bW cs)(hi:i<cs.length):(0:Int)<cs.getD i 0/\(cs.getD i 0).natAbs.log2<9000:=by
 have h1:=hcs.get hi;exact⟨by have:=h1.lo;omega,h1.bt.log (by have:=h1.lo;omega) (by decide)⟩
theorem Lz {cs:List Int}(hcs:bW cs)(hi:i<cs.length):Bt 801 (pr cs / cs.getD i 0):=by
 have h:=Es hcs.pos hi;exact hcs.BB.of_le (by omega) h.1
variable {j:Nat}
theorem NT:(!decide ((j:Int)=(i:Int)))=decide (¬ j=i):=by
 by_cases h:j=i
 ·subst h;simp
 ·have a:¬ (j:Int)=(i:Int):=by omega
  rw[eG a,ek h];rfl
def putAt (hs:List Int)(i:Nat)(o:Int):List Int:=hs.take i++[o]++hs.drop (i+1)
variable {h:List Int}
theorem sC {x:Int}(hj:j<h.length):(h++[x]).getD j 0=h.getD j 0:=by
 rw[cc,F8 hj,<-cc]
theorem sD {x:Int}:(h++[x]).getD h.length 0=x:=by
 rw[cc,zk (ef _),Nat.sub_self];rfl
def HN (cs h:List Int)(n:Nat):Prop:=h.length=n/\∀ i,i<n->0<=h.getD i 0/\h.getD i 0<cs.getD i 0
theorem nA {n:Nat}(h:n<=1000):n<=sizeLine:=Nat.le_of_lt (aC h)
variable {o:HO}
theorem aH.cE {K:Frag}{H:Hp}{r acc:Addr}{xs ys:List V}(h:aH K H r xs)(ha:H acc=some (.lst ys)):aH K (upd H acc o) r xs:=by
 rcases h with (h | ⟨u,h⟩) | h
 ·exact .inl (.inl (by rw[aq (cF h ha (by intro z;cases z))];exact h))
 ·exact .inl (.inr ⟨u,by rw[aq (cF h ha (by intro z;cases z))];exact h⟩)
 ·exact .inr h
theorem Jf {n k:Nat}(h:k<n):DD n (k:Int)=some k:=by
 unfold DD;rw[if_pos (by omega),if_pos (by omega),zm]
theorem EA (ns ms:List Int):PyData.eqv (.list (ns.map PyData.int)) (.list (ms.map PyData.int))=decide (ns=ms):=by
 simp only[PyData.eqv,lX]
theorem dM {L:List Nat}{k:Nat}(h:k<L.length):L.getD k 0∈L:=by
 rw[cc,cv h];exact oD h
def e9 (ws:List Nat)(i j:Nat):Bool:=(ws.getD i 0).testBit j
structure ic (ws:List Nat):Prop where
 lt:∀ i,i<ws.length->ws.getD i 0<2 ^ ws.length
 self:∀ i,i<ws.length->e9 ws i i=false
variable {ws:List Nat}
theorem ic.inside (h:ic ws)(hi:i<ws.length)(s:e9 ws i j=true):j<ws.length:=by
 by_cases c:j<ws.length
 ·exact c
 ·unfold e9 at s
  have:=Nat.testBit_lt_two_pow (x:=ws.getD i 0) (i:=j) (ih (h.lt i hi) (ri (by decide) (by omega)))
  rw[this] at s;cases s
def ready (ws:List Nat)(laid i:Nat):Bool:=!laid.testBit i&&decide (ws.getD i 0||| laid=laid)
def bM (ws:List Nat)(laid:Nat):Option Nat:=(List.range ws.length).find? (ready ws laid)
variable {b:Nat}
theorem NU {a:Nat}:a||| b=b↔∀ j,a.testBit j=true->b.testBit j=true:=by
 constructor
 ·intro h j hj;rw[<-h,testBit_or,hj];rfl
 ·intro h
  apply T6
  intro j;rw[testBit_or]
  cases e:a.testBit j with
  | false=>rfl
  | true=>rw[h j e];rfl
theorem ie {m:Nat}:(m||| 2 ^ i).testBit j=(m.testBit j||decide (i=j)):=by
 rw[testBit_or,I1]
def fI (ws:List Nat):Nat->List Nat->Nat->List Nat
 | 0,order,_=>order
 | f+1,order,laid=>match bM ws laid with
  | none=>order
  | some i=>fI ws f (order++[i]) (laid||| 2 ^ i)
def laidOut (ws:List Nat):List Nat:=fI ws (ws.length+1) [] 0
structure Laid (ws order:List Nat)(laid:Nat):Prop where
 bits:∀ j,laid.testBit j=true↔j∈order
 nd:order.Nodup
 lt:∀ i∈order,i<ws.length
 ok:∀ k,k<order.length->∀ j,e9 ws (order.getD k 0) j=true->j∈order.take k
theorem Laid.nil (ws:List Nat):Laid ws [] 0:=⟨by simp,nodup_nil,by simp,by simp⟩
theorem kW {laid:Nat}:ready ws laid i=true↔laid.testBit i=false/\∀ j,e9 ws i j=true->laid.testBit j=true:=by
 unfold ready e9;rw[h9,Bool.not_eq_true',o6,NU]
theorem gX {laid:Nat}(h:bM ws laid=some i):i<ws.length/\laid.testBit i=false/\∀ j,e9 ws i j=true->laid.testBit j=true:=by
 have h1:=List.find?_some h;have a:=List.mem_of_find?_eq_some h;exact⟨ls.mp a,kW.mp h1⟩
variable {h:List Nat}{d:Nat}
theorem dX {x:Nat}(hj:j<h.length):(h++[x]).getD j d=h.getD j d:=by
 rw[cc,F8 hj,<-cc]
theorem fJ {x:Nat}:(h++[x]).getD h.length d=x:=by
 rw[cc,zk (ef _),Nat.sub_self];rfl
variable {order:List Nat}
theorem Laid.put {laid:Nat}(h:Laid ws order laid)(hf:bM ws laid=some i):Laid ws (order++[i]) (laid||| 2 ^ i):=by
 obtain⟨h1,f,l⟩:=gX hf;have d:i∉order:=fun z=>by rw[(h.bits i).mpr z] at f;cases f
 refine⟨fun j=>?_,?_,?_,?_⟩
 ·rw[ie,Ug,h.bits,kb,ea,o6]
  constructor
  ·rintro(a | a)
   ·exact .inl a
   ·exact .inr a.symm
  ·rintro(a | a)
   ·exact .inl a
   ·exact .inr a.symm
 ·rw[Uc];refine⟨h.nd,by simp,?_⟩
  intro a g b hb e;rw[ea] at hb;subst hb;subst e;exact d g
 ·intro j hj
  rcases kb.mp hj with hj | hj
  ·exact h.lt j hj
  ·rw[ea.mp hj];exact h1
 ·intro k hk j hj;rw[fz] at hk
  by_cases e:k=order.length
  ·subst e;rw[fJ] at hj;rw[List.take_append_of_le_length (ef _),SZ];exact(h.bits j).mp (l j hj)
  ·have c:k<order.length:=by simp at hk;omega
   rw[dX c] at hj;rw[List.take_append_of_le_length (by omega)]
   exact h.ok k c j hj
theorem cB:∀ {n:Nat} {order:List Nat},order.Nodup->(∀ i∈order,i<n)->order.length<=n
 | 0,[],_,_=>ef _
 | 0,a::r,_,h=>absurd (h a (fO ..)) (Uk a)
 | n+1,order,b,h=>by
  have h1:(order.erase n).Nodup:=b.erase n;have d:=cB (n:=n) h1 fun i hi=>by
   have:=(b.mem_erase_iff).mp hi
   have:=h i this.2
   omega
  have c:=length_erase (a:=n) (l:=order)
  split at c<;>omega
theorem qz:∀ {xs ys:List Nat},xs.Nodup->(∀ i∈xs,i∈ys)->xs.length<=ys.length
 | [],_,_,_=>zero_le _
 | a::r,ys,c,h=>by
  have b:=vr.mp c;have h1:=qz (xs:=r) (ys:=ys.erase a) b.2 fun i hi=>by
   have:i≠a:=fun z=>b.1 (z ▸ hi)
   exact(List.mem_erase_of_ne this).mpr (h i (fA _ hi))
  have d:=length_erase (a:=a) (l:=ys);rw[if_pos (h a (fO ..))] at d
  have:0<ys.length:=length_pos_of_mem (h a (fO ..))
  rw[pb];omega
theorem nB {ws:List Nat}:∀ (f:Nat) (order:List Nat) (laid:Nat),Laid ws order laid->ws.length<f+order.length->∃ l,Laid ws (fI ws f order laid) l/\bM ws l=none
 | 0,order,l,h,a=>by
  have:=cB h.nd h.lt
  omega
 | f+1,order,laid,h,a=>by
  unfold fI
  cases e:bM ws laid with
  | none=>exact⟨_,h,e⟩
  | some i=>exact nB f _ _ (h.put e) (by rw[fz];simp;omega)
variable {f:Nat}
theorem u9 {laid:Nat}(e:bM ws laid=some i):fI ws (f+1) order laid=fI ws f (order++[i]) (laid||| 2 ^ i):=by
 rw[fI,e]
theorem vc {laid:Nat}(e:bM ws laid=none):fI ws f order laid=order:=by
 cases f with
 | zero=>rfl
 | succ f=>rw[fI,e]
theorem gr (ws:List Nat):∃ l,Laid ws (laidOut ws) l/\bM ws l=none:=nB _ _ _ (Laid.nil ws) (by simp)
theorem BC (hw:ic ws)(hi:i<ws.length)(hn:i∉laidOut ws):∃ j,j<ws.length/\e9 ws i j=true/\j∉laidOut ws:=by
 obtain⟨l,h,e⟩:=gr ws;have h1:ready ws l i=false:=by
  have:=List.find?_eq_none.mp e i (ls.mpr hi)
  simpa using this
 have b:l.testBit i=false:=by
  cases q:l.testBit i with
  | false=>rfl
  | true=>exact absurd ((h.bits i).mp q) hn
 have d:¬ ∀ j,e9 ws i j=true->l.testBit j=true:=fun z=>by
  have:=kW.mpr ⟨b,z⟩
  rw[this] at h1;cases h1
 have a:∃ j,e9 ws i j=true/\¬ l.testBit j=true:=by
  apply A7
  intro q
  apply d
  intro j hj
  apply A7
  intro r;exact q ⟨j,hj,r⟩
 obtain⟨j,hj,c⟩:=a;exact⟨j,hw.inside hi hj,hj,fun z=>c ((h.bits j).mpr z)⟩
theorem EB:(laidOut ws).length<ws.length↔∃ i,i<ws.length/\i∉laidOut ws:=by
 obtain⟨l,h,e⟩:=gr ws
 constructor
 ·intro a
  apply A7
  intro q
  have:∀ i,i<ws.length->i∈laidOut ws:=fun i hi=>A7 fun z=>q ⟨i,hi,z⟩
  have h1:=qz (UG (n:=ws.length)) fun i hi=>this i (ls.mp hi);rw[kc] at h1
  omega
 ·rintro⟨i,hi,hn⟩;have h1:(i::laidOut ws).Nodup:=vr.mpr ⟨hn,h.nd⟩;have b:=cB h1 fun j hj=>by
   rcases gz.mp hj with rfl | hj
   ·exact hi
   ·exact h.lt j hj
  rw[pb] at b
  omega
structure Ring (ws r:List Nat):Prop where
 two:2<=r.length
 nd:r.Nodup
 lt:∀ i∈r,i<ws.length
 next:∀ k,k+1<r.length->e9 ws (r.getD k 0) (r.getD (k+1) 0)=true
 last:e9 ws (r.getD (r.length - 1) 0) (r.getD 0 0)=true
structure Path (ws left path:List Nat)(i:Nat):Prop where
 nd:path.Nodup
 sub:∀ j∈path,j∈left
 here:i∈left
 next:∀ k,k+1<path.length->e9 ws (path.getD k 0) (path.getD (k+1) 0)=true
 last:path≠[]->e9 ws (path.getD (path.length - 1) 0) i=true
variable {left:List Nat}
theorem Path.nil (h:i∈left):Path ws left [] i:=⟨nodup_nil,by simp,h,by simp,by simp⟩
variable {path:List Nat}
theorem Path.put (h:Path ws left path i)(hn:i∉path)(hj:j∈left)(hs:e9 ws i j=true):Path ws left (path++[i]) j:=by
 refine⟨?_,?_,hj,?_,?_⟩
 ·rw[Uc];refine⟨h.nd,by simp,?_⟩
  intro a c b hb e;rw[ea] at hb;subst hb;subst e;exact hn c
 ·intro k hk
  rcases kb.mp hk with hk | hk
  ·exact h.sub k hk
  ·rw[ea.mp hk];exact h.here
 ·intro k hk;rw[fz] at hk
  simp at hk
  by_cases e:k+1=path.length
  ·rw[e,fJ,dX (by omega)]
   have:=h.last (fun z=>by subst z;simp at e)
   rw[<-e] at this
   simpa using this
  ·rw[dX (by omega),dX (by omega)]
   exact h.next k (by omega)
 ·intro _;rw[fz];show e9 ws ((path++[i]).getD (path.length+1 - 1) 0) j=true;rw[Nat.add_sub_cancel,fJ];exact hs
variable {l:List Nat}
theorem gs {n k:Nat}:(l.drop n).getD k d=l.getD (n+k) d:=by
 rw[cc,getElem?_drop,<-cc]
theorem Path.ring (hw:ic ws)(hl:∀ j∈left,j<ws.length)(h:Path ws left path i)(hi:i∈path):Ring ws (path.drop (path.idxOf i)):=by
 have d:=T3 hi;have b:path.getD (path.idxOf i) 0=i:=by
  rw[cc,cv d];exact UC d
 have a:=h.last (List.ne_nil_of_mem hi);generalize path.idxOf i=n at d b;have c:(path.drop n).length=path.length - n:=tz;refine⟨?_,h.nd.sublist (List.drop_sublist _ _),fun j hj=>hl j (h.sub j (mem_of_mem_drop hj)),fun k hk=>?_,?_⟩
 ·rw[c]
  apply A7
  intro q;have e:path.length - 1=n:=by omega
  rw[e,b] at a;rw[hw.self i (hl i h.here)] at a
  cases a
 ·rw[gs,gs];rw[c] at hk;exact h.next (n+k) (by omega)
 ·rw[gs,gs,c,Nat.add_zero,b,show n+(path.length - n - 1)=path.length - 1 by omega]
  exact a
theorem Jg (m n:Nat):Builtin.bitAnd (m:Int) (n:Int)=((m&&& n:Nat):Int):=by
 have h1:decide (0<=(m:Int))=true:=ek (by omega)
 have a:decide (0<=(n:Int))=true:=ek (by omega)
 unfold Builtin.bitAnd;rw[h1,a];simp only[toNat_natCast]
theorem Jh (m n:Nat):Builtin.bitAnd (Builtin.bitNot (m:Int)) (Builtin.bitNot (n:Int))=Builtin.bitNot ((m||| n:Nat):Int):=by
 have h1:decide (0<=Builtin.bitNot (m:Int))=false:=eG (by unfold Builtin.bitNot;omega)
 have a:decide (0<=Builtin.bitNot (n:Int))=false:=eG (by unfold Builtin.bitNot;omega)
 have e:∀ k:Nat,(Builtin.bitNot (Builtin.bitNot (k:Int))).toNat=k:=fun k=>by unfold Builtin.bitNot;omega
 unfold Builtin.bitAnd;rw[h1,a];simp only[e]
theorem SH (m n:Nat):Builtin.bitOr (m:Int) (n:Int)=((m||| n:Nat):Int):=by
 unfold Builtin.bitOr;rw[Jh];unfold Builtin.bitNot
 omega
theorem sE (m n:Nat):Builtin.bitAnd (m:Int) (Builtin.bitNot (n:Int))=((m - (m&&& n):Nat):Int):=by
 have h1:decide (0<=(m:Int))=true:=ek (by omega)
 have a:decide (0<=Builtin.bitNot (n:Int))=false:=eG (by unfold Builtin.bitNot;omega)
 have e:(Builtin.bitNot (Builtin.bitNot (n:Int))).toNat=n:=by unfold Builtin.bitNot;omega
 unfold Builtin.bitAnd;rw[h1,a];simp only[e,toNat_natCast]
 have:=Nat.and_le_left (n:=m) (m:=n)
 omega
def Ji (K:Frag):V->List V->Hp->VK->Prop:=fun x a H Q=>∃ (l:Addr) (ns:List Int) (k:Int),x=.ref l/\a=[.int k]/\aB K H l (ns.map V.int)/\k∈ns/\Q (.int (ns.idxOf k:Nat)) H
variable {X:Cx}
theorem BD {K:Frag}(hK:X.K=K):xa X "list.index" (Ji K):=by
 subst hK;intro i s σ H x O v P Q I C D h;obtain⟨l,e,k,rfl,rfl,N,hk,q⟩:=h
 cases C
 obtain⟨u,rfl,B⟩:=D.one;obtain⟨t,rfl⟩:=B;obtain⟨f,r,M,hz⟩:=I.list N;have hi:=intsAre_of r;obtain⟨⟨J,G,w,E⟩,A,p,n,o⟩:=id M.isList
 simp only at p o
 subst p o;have d:=hi.length;have c:e.idxOf k<e.length:=C6.mpr hk;rw[di] at hz;have m:sizeLine<2 ^ 62:=by decide
 refine T9 slot_list_index ⟨_,A,rfl⟩ PySem.F.entry_list_index (PySem.F.args_list_index_2 _ _) (list_indexAt l f.toArray n G E (.int k t) (isInt k) (e.idxOf k) (by rw[j5,d];exact c) (by omega) ?a ?b) ⟨A,fun y hy=>(eq_isInt k t hi y (by simpa using hy)).at _ _,?_⟩
 case a=>
  have z:=isInt_at k hi (e.idxOf k) (by rw[d];exact c) c
  rw[UC c,Uu] at z;exact z
 case b=>
  intro j hj g;have z:=isInt_at k hi j (by simpa using hj) (by omega)
  rw[ne_of_lt_idxOf g] at z;exact z
 exact⟨.int _,H,I.tok _,⟨_,rfl⟩,q⟩
def xS:List V->Hp->VK->Prop:=fun a H Q=>∃ (p:Addr) (n:Nat),a=[.ref p]/\H p=some (.HK 0 n)/\n<=1000000/\∀ l,H l=none->Q (.ref l) (upd H l (.lst (((List.range n).map fun i=>((i:Nat):Int)).map V.int)))
def Jj:List V->Hp->VK->Prop:=fun a H Q=>∃ n:Nat,a=[.int n]/\n<=1000000/\∀ l,H l=none->Q (.ref l) (upd H l (.HK 0 n))
theorem j3:bQ X (.type "range") Jj:=by
 intro a s σ H d f Q I r h;obtain⟨n,rfl,hn,q⟩:=h;obtain⟨u,rfl,c⟩:=vals1 r;obtain⟨t,rfl⟩:=c;refine call_range_1 ?_;exact⟨.ref _,_,I.laid (fun b o e=>ed _ e) (ef _) (show bz X.prog X.w _ _ _ (.HK 0 n) from ⟨_,_,_,hU _ rfl⟩),rfl,q _ I.fresh⟩
theorem xT {n:Nat}{acc:Array Value}(h:ItemsOf (fun i v=>∃ t,v=Value.int ((0:Int)+i*1) t) acc n):Vals (((List.range n).map fun i=>((i:Nat):Int)).map V.int) acc.toList:=by
 obtain⟨h1,d⟩:=h;have b:∀ (l:List Value) (k:Nat),(∀ i v,l[i]?=some v->∃ t,v=Value.int (((k+i:Nat):Int)) t)->Vals ((List.range' k l.length).map fun i=>V.int ((i:Nat):Int)) l:=by
  intro l
  induction l with
  | nil=>intro k _;exact .nil
  | cons a r c=>
   intro k h;rw[pb,List.range'_succ,pS];refine .cons ?_ (c (k+1) fun i v e=>?_)
   ·obtain⟨t,e⟩:=h 0 a rfl;exact⟨t,by rw[e,Nat.add_zero]⟩
   ·obtain⟨t,e⟩:=h (i+1) v (by simpa using e)
    exact⟨t,by rw[e,show k+(i+1)=k+1+i by omega]⟩
 have z:=b acc.toList 0 fun i v e=>by
  obtain⟨t,q⟩:=d i v (by rw[<-getElem?_toList];exact e)
  exact⟨t,by rw[q];congr 1;omega⟩
 rw[kJ];rw[Us,h1] at z;rw[List.range_eq_range'];exact z
theorem fZ (hc:X.calm=true):bQ X (.type "list") xS:=by
 intro c s σ H m z Q I r h;obtain⟨p,n,rfl,f,hn,q⟩:=h;obtain⟨u,rfl,g⟩:=vals1 r
 cases g
 obtain⟨t,y,o,i⟩:=I.bb p _ f;refine PySem.call_list_range (n:=n) (I.ok.hd hc) i (small_one (by omega) (by omega) (by omega) (by omega)) (by rw[rangeSize_one];split<;>omega) (by omega) fun j v a d l e b=>?_
 refine⟨.ref _,_,I.laid l (ef _) (show bz X.prog X.w _ j _ (.lst _) from ⟨?_,a.toList,d,xT b,by simpa using e⟩),rfl,q _ I.fresh⟩
 rw[di,di,kc];exact ka hn (by decide)
abbrev gZ (led:Bool):Obj:={cls:=.type "set",dict:=none,data:=.set #[] 0 (.fresh 0 0 led)}
def i8 (ns:List Int)(n:Nat):List Int:=firstMet (fun i=>ns.getD i 0) n
variable {prog:Program}{w:World}{A:Around}{E Q:Value->Shared->Prop}{s:Shared}{vs:Array Value}
theorem sF {p:Addr}{ns:List Int}(hA:A.handled=none)(hp:s.heap.IsTuple p vs)(hi:IntsAre vs.toList ns)(hb:vs.size+1<scanBound)
  (h:∀ (h1:Heap) (k:Nat),h1.SetOf (intKind prog w) s.heap.objs.size (fun j=>(i8 ns vs.size).any (· == j)) (i8 ns vs.size).length->(∀ b o,b<s.heap.objs.size->s.heap.get? b=some o->h1.get? b=some o)->Q (.ref s.heap.objs.size) {s with heap:=h1,toks:=k}) :
  wpAny (model prog w) A (call (.type "set") [.ref p]) Q E s:=by
 obtain⟨c0,t0,m0⟩:=C2.mro;have m1:=C2.made;have m2:=C2.sub;have m3:=C2.notType;have m4:=C2.canCreate;have m5:=F.typeCall_set_1 (.ref p);refine wpAny_call (codeAny_of_tree (show wpAny _ _ (callAny (.type "set") _) _ _ _ from eR ⟨Code.quiet_builtin _ (by decide +kernel),codeAny_builtin F.entry_type_call ?_⟩))
 rw[Around.under_plain (weight_type_call_type "set" [.ref p] []) rfl]
 repeat (any_goals (first | assumption | wp_step))
 refine Ui (code_set_new_1 (.ref p) (E:=E) (Q₁:=fun o H=>∃ a:Bool,o=.ref s.heap.objs.size/\H={s with heap:=s.heap.push (gZ a)}) fun a=>⟨a,rfl,rfl⟩) fun r H n=>?_
 cases r with
 | error e=>exact n
 | ok Y=>
  cases Y with
  | ret obj=>
   obtain⟨a,rfl,rfl⟩:=n;have z:(s.heap.push (gZ a)).get? s.heap.objs.size=some (gZ a):=hU _ rfl;have Z:Shared.TypeIs {s with heap:=s.heap.push (gZ a)} (.ref s.heap.objs.size) "set":=⟨_,z,rfl⟩;have k3:=C2.init.lookup;have k4:=C2.init.bind (.ref s.heap.objs.size)
   repeat (any_goals (first | assumption | wp_step))
   refine Ui (codeAny_call_builtin (R:=wants (fun r u=>r=.none/\∃ h1 k,u={s with heap:=h1,toks:=k}/\h1.SetOf (intKind prog w) s.heap.objs.size (fun j=>(i8 ns vs.size).any (· == j)) (i8 ns vs.size).length/\
     (∀ b o,b<s.heap.objs.size->s.heap.get? b=some o->h1.get? b=some o)) E) C2.init.plain F.entry_set_init (check_set_init_1 Z ?_)) fun M u g=>?_
   ·obtain⟨U,I,D,S,C⟩:=hp;obtain⟨u1,u2,u3,u4⟩:=U
    simp only at D C
    subst D;subst C;have O:=ed (gZ a) I;have z1:=F.sub_tuple_set;have z2:=F.sub_tuple_frozenset;have z3:(Value.type "tuple" == Value.type "dict")=false:=by decide
    have G:(s.heap.push (gZ a)).IsTuple p vs:=⟨_,O,rfl,S,rfl⟩;unfold Builtin.«set.__init__» noKeywords Builtin.Frozenset.updateFrom;generalize d:pyIter=PI
    wp_walk
    subst d;refine T8 G (dy (wpAny_runValue ?_));have B:p<s.heap.objs.size:=lt_size I;have K:A.in1.in1.in1.handled=none:=by simp[hA]
    have l:(s.heap.push (gZ a)).objs.size=s.heap.objs.size+1:=Fk ..;have T:p≠(s.heap.push (gZ a)).objs.size:=by rw[l];exact nt (Up B)
    have P:s.heap.objs.size∉[(s.heap.push (gZ a)).objs.size,p]:=by
     rw[l];simp only[mem_cons,not_mem_nil,or_false,not_or];exact⟨nt (UD _),Uz B⟩
    have X:∀ (i:Nat) (v:Value),vs[i]?=some v->∃ t,v=.int ((fun i=>ns.getD i 0) i) t:=fun i v hv=>IntsAre.int_at hi i v (by rw[getElem?_toList];exact hv)
    refine codeAny_set_update_loopS ((Walks.tuple K _ p T vs).toS) s.heap.objs.size P (fun i=>ns.getD i 0) X hb (vs.size - 0) 0 _ (by omega) (zero_le _) ⟨⟨_,hU _ rfl,rfl,rfl⟩,(G.push _)⟩ ?x ?y
    case x=>
     exact SetOf_congr ((setObjOf_fresh (knd:=intKind prog w) a).setOf (ed _ z) (by unfold scanBound;omega)) (fun _=>rfl) rfl
    case y=>
     intro N hm c;obtain⟨h1,g',W,f,m⟩:=N;obtain rfl:g'=s.gens:=hm.gens;obtain rfl:W=s.drawn:=hm.drawn;obtain rfl:m=s.os:=hm.os;show wpAny _ _ _ _ _ _;refine eR (show wpAny _ _ (ret Value.none) _ _ _ from eR ⟨rfl,h1,f,rfl,c,fun b o hb e=>?_⟩)
     refine hm.heap b o ?_ (ed _ (ed _ e));rw[l];simp only[mem_cons,not_mem_nil,or_false,not_or];exact⟨nt hb,nt (Up hb)⟩
   ·cases M with
    | error e=>exact g
    | ok J=>
     cases J with
     | ret r=>
      obtain⟨rfl,h1,k,rfl,c,q⟩:=g
      repeat (any_goals (first | assumption | wp_step))
      exact h _ _ c q
     | _=>exact g.elim
  | _=>exact n.elim
def unlike (ns:List Int):Nat:=(i8 ns ns.length).length
def NV (K:Frag):List V->Hp->VK->Prop:=fun a H Q=>∃ (p:Addr) (ns:List Int),a=[.ref p]/\(aB K H p (ns.map V.int)∨aH K H p (ns.map V.int))/\ns.length<1000/\∀ l,H l=none->Q (.ref l) (upd H l (.set (fun j=>(i8 ns ns.length).any (· == j)) (unlike ns)))
theorem BE {K:Frag}(hc:X.calm=true)(hK:X.K=K):bQ X (.type "set") (NV K):=by
 subst hK;intro d s σ H y z Q I r h;obtain⟨p,ns,rfl,hq,v,q⟩:=h;obtain⟨u,rfl,t⟩:=vals1 r
 cases t
 have n:(1001:Nat)<scanBound:=by decide
 have g:∀ (h1:Heap) (k:Nat),h1.SetOf (intKind X.prog X.w) s.heap.objs.size (fun j=>(i8 ns ns.length).any (· == j)) (i8 ns ns.length).length->(∀ b o,b<s.heap.objs.size->s.heap.get? b=some o->h1.get? b=some o)->EP X d σ Q (.ref s.heap.objs.size) {s with heap:=h1,toks:=k}:=fun h1 k c f=>
  ⟨.ref _,_,I.laid (fun b o e=>f b o (lt_size e) e) (ef _) (show bz X.prog X.w _ h1 _ (.set _ _) from c),rfl,q _ I.fresh⟩
 rcases hq with hq | hq
 ·obtain⟨a,i,l,hz⟩:=I.list hq;have hi:=intsAre_of i;have m:=hi.length;refine call_set_list (items:=a.toArray) (ns:=ns) (I.ok.hd hc) l.isList (by simpa using hi) (by rw[j5];omega) fun h1 k c f=>?_
  rw[show a.toArray.size=ns.length by rw[j5];exact m] at c
  exact g h1 k c f
 ·obtain⟨a,i,l,hz⟩:=I.tuple hq;have hi:=intsAre_of i;have m:=hi.length;refine sF (vs:=a.toArray) (ns:=ns) (I.ok.hd hc) (show s.heap.IsTuple p a.toArray from l) (by simpa using hi) (by rw[j5];omega) fun h1 k c f=>?_
  rw[show a.toArray.size=ns.length by rw[j5];exact m] at c
  exact g h1 k c f
theorem Inv.Jk {pins:List (Addr × Obj)}{σ:St}{H:Hp}{h':Heap}{t':Nat}{ch:List Addr}(I:Inv X pins σ H s)(k:∀ b o,b∉ch->s.heap.get? b=some o->h'.get? b=some o)(hf:∀ b∈ch,jK X pins H b):Inv X pins σ H {s with heap:=h',toks:=t'}:=by
 have a:∀ b u,H b=some u->b∉ch:=fun b u e z=>by rw[(hf b z).1] at e;cases e
 refine I.step (g':=s.gens) (d':=s.drawn) (ch:=ch) (fun b hb=>⟨(hf b hb).2.2.2.1,(hf b hb).2.1,(hf b hb).2.2.2.2.1,(hf b hb).2.2.2.2.2⟩) (fun b o _ _ hc e _=>k b o hc e) (fun b o _ _ hc e _=>⟨o.slots,k b o hc e⟩) (fun _ _ _ _ n=>n)
  (fun b o hc e=>⟨o,k b o hc e⟩) (fun _ _ e=>e) (fun _ _ _ e=>e) (fun b h e=>⟨#[],by rw[e];simp⟩) (fun m hm=>?_) (fun b u e=>?_) I.bare
 ·obtain⟨o,d,g,f,r⟩:=hm;exact⟨o,d,g,k _ o (fun z=>(hf _ z).2.1 rfl) f,r⟩
 ·refine(I.bb b u e).kG (fun c v hc q=>k c v ?_ q) (fun _ q=>q) fun _ _ q=>q
  rcases hc with z | z
  ·rw[z];exact a b u e
  ·exact a c _ z
theorem vd {it p:Addr}{x:Value}(h1:s.heap.IsTupleIter it p i)(h2:s.heap.IsTuple p vs)(hx:vs[i]?=some x)
  (q:∀ h',h'.IsTupleIter it p (i+1)->SameBut it s.heap h'->Q x {s with heap:=h'}):wpAny (model prog w) A (Builtin.SmallTypes.nextOf (.ref it)) Q E s:=by
 obtain⟨o,b,e,a⟩:=id h1;obtain⟨f,d,_,g,c⟩:=h2;unfold Builtin.SmallTypes.nextOf;refine dy (E9 (name:=Str.ofString "__next__") h1.typeIs F.slot_tuple_iterator_next (F2 F.slot_tuple_iterator_next h1.typeIs F.entry_tuple_iterator_next ?_ (F.args_tuple_iterator_next_1 _)));refine dy (m:=field (.ref it) 0) (Pi b a (x:=.ref p) rfl ?_);rw[if_neg (id hI:¬ ((Value.ref p == Value.none)=true))];refine dy (m:=field (.ref it) 1) (Pi b a (x:=.int i 0) rfl (dy (m:=seqItems? (.ref p)) (Ua d c ?_)));simp only[toNat_natCast,hx];refine dy (Uv b a (by simp) (eR ⟨x,rfl,eR (q _ ⟨_,get?_update_self _ b (Ud (KE a _)),(Obj.cls_mapFields ..).trans e,?_⟩ (Heap.SameBut.update ..))⟩))
 rw[KE a]
 simp[rawInt]
theorem j4 {it p:Addr}(hA:A.handled=none)(h1:s.heap.IsTupleIter it p i)(h2:s.heap.IsTuple p vs)(hx:vs[i]?=none)
  (q:∀ h' e,ExtBut it s.heap h'->(∃ o,h'.get? e=some o/\o.cls=.type "StopIteration")->E (.ref e) {s with heap:=h'}):wpAny (model prog w) A (Builtin.SmallTypes.nextOf (.ref it)) Q E s:=by
 obtain⟨o,d,h,c⟩:=id h1;obtain⟨g,f,_,j,b⟩:=h2;unfold Builtin.SmallTypes.nextOf;refine dy (E9 (name:=Str.ofString "__next__") h1.typeIs F.slot_tuple_iterator_next (F2 F.slot_tuple_iterator_next h1.typeIs F.entry_tuple_iterator_next ?_ (F.args_tuple_iterator_next_1 _)));refine dy (m:=field (.ref it) 0) (Pi d c (x:=.ref p) rfl ?_);rw[if_neg (id hI:¬ ((Value.ref p == Value.none)=true))];refine dy (m:=field (.ref it) 1) (Pi d c (x:=.int i 0) rfl (dy (m:=seqItems? (.ref p)) (Ua f b ?_)));simp only[toNat_natCast,hx];refine dy (wpAny_rule (dy (Uv d c (by simp) (dy (m:=newExc (.type "StopIteration") []) ?_))))
 simp only[newExc,newTuple];refine dy (GE (dy (m:=firstArgMember _ _) (wpAny_of_eq (a:=Value.none) (by first | rfl | (simp only[firstArgMember];rfl)) (GE ?_ (by size_fits)))) (by size_fits))
 simp only[raiseNew];refine dy (wpAny_handled ?_)
 first | rw[show A.in1.handled=none from hA] | rw[hA]
 exact dy (eR (wpAny_throw (q _ _ (((Heap.SameBut.update ..).extBut.push _).push _) ⟨_,hU _ rfl,rfl⟩)))
theorem NW (hA:A.handled=none)(it p:Addr)(hne:p≠it)(vs:Array Value):Draws prog w A it [it,p] vs.size (fun i v=>vs[i]?=some v) (fun i h=>h.IsTupleIter it p i/\h.IsTuple p vs) where
 live:=fun _ _ c=>⟨_,c.1.choose_spec.1⟩
 frame:=fun _ _ _ c hk=>⟨c.1.at fun o e=>hk it (by simp) o e,c.2.at fun o e=>hk p (by simp) o e⟩
 item:=fun i s Q E hi c f=>vd c.1 c.2 (x:=vs[i]) (by simp[hi]) fun g a b=>f _ g s.toks (by simp[hi]) ⟨a,c.2.extBut b.extBut hne⟩ b
 done:=fun s Q E c d=>j4 hA c.1 c.2 (by simp) d
theorem BF (p:Addr)(vs:Array Value)(n:Nat)(pN:Option Addr)(sl:Array (Option Value)) :
  Meets (Builtin.«enumerate.__new__» ⟨[.type "enumerate",.ref p],[]⟩) (fun _ R s=>s.heap.get? p=some {cls:=.type "tuple",dict:=pN,data:=.seq vs n,slots:=sl}/\
   R (.ok (.ret (.ref (s.heap.push {cls:=.type "tuple_iterator",data:=.fields #[.ref p,.int 0 0]}).objs.size)))
    {s with heap:=(s.heap.push {cls:=.type "tuple_iterator",data:=.fields #[.ref p,.int 0 0]}).push {cls:=.type "enumerate",data:=.fields #[.none,.bool false,.ref s.heap.objs.size,rawInt 0,.none,.none]}}):=
 .of_wp fun e w A R s h=>by
  obtain⟨i,g,d,j,f⟩:=s;obtain⟨a,h⟩:=h;have z:=sub_enumerate;have b:Heap.IsTuple (Shared.heap ⟨i,g,d,j,f⟩) p vs:=⟨_,a,rfl,n,rfl⟩
  wp_walk using PySem.AutoSeq1.wpAny_loadPart' a
  refine wpAny_stack_any fun l=>eR ?_
  split
  ·rename_i c _ _ _ _ _
   cases (c == Value.type "enumerate")<;>(wp_walk using PySem.AutoSeq1.wpAny_loadPart' a,T8 b;exact⟨_,rfl,h⟩)
  ·wp_walk using PySem.AutoSeq1.wpAny_loadPart' a,T8 b
   exact⟨_,rfl,h⟩
theorem xU {p:Addr}(hT:s.heap.IsTuple p vs)
  (q:∀ h',IsEnum h' (s.heap.objs.size+1) s.heap.objs.size 0 .none->h'.IsTupleIter s.heap.objs.size p 0->(∀ b o,s.heap.get? b=some o->h'.get? b=some o)->Q (.ref (s.heap.objs.size+1)) {s with heap:=h'}) :
  wpAny (model prog w) A (call (.type "enumerate") [.ref p]) Q E s:=by
 obtain⟨⟨c,d,dt,e⟩,h,f,n,g⟩:=hT;obtain rfl:c=.type "tuple":=f;obtain rfl:dt=.seq vs n:=g;have hz:(s.heap.push {cls:=.type "tuple_iterator",data:=.fields #[.ref p,.int 0 0]}).objs.size=s.heap.objs.size+1:=Fk ..;have a:=hU (s.heap.push {cls:=.type "tuple_iterator",data:=.fields #[.ref p,.int 0 0]}) (o:={cls:=.type "enumerate",data:=.fields #[.none,.bool false,.ref s.heap.objs.size,rawInt 0,.none,.none]}) rfl;refine callType_new F.called_enumerate (by decide) (F.typeCall_enumerate_1 _) (F.newCall_enumerate_1 _) (fun obj=>F.args_object_init_2 obj _) F.entry_enumerate_new (BF p vs n d e) ⟨h,?_⟩
 rw[hz] at a;show _/\_;rw[hz];exact⟨⟨_,a,rfl⟩,q _ a ⟨_,ed _ (hU _ rfl),rfl,rfl⟩ fun b o x=>ed _ (ed _ x)⟩
theorem Inv.qA {pins:List (Addr × Obj)}{σ:St}{H:Hp}{h':Heap}{t':Nat}{ch:List Addr}{a:Addr}(I:Inv X pins σ H s)(k:∀ b u,b∉ch->s.heap.get? b=some u->h'.get? b=some u)(hf:∀ b∈ch,jK X pins H b)
  (ha:s.heap.objs.size<=a) (new:bz X.prog X.w (upd H a o) h' a o):Inv X pins σ (upd H a o) {s with heap:=h',toks:=t'}:=by
 have f:∀ b u,H b=some u->b∉ch:=fun b u e z=>by rw[(hf b z).1] at e;cases e
 have hn:H a=none:=I.bb.fresh ha;have d:∀ b u,H b=some u->upd H a o b=some u:=fun b u e=>by rw[aq (az e hn)];exact e
 refine I.step (g':=s.gens) (d':=s.drawn) (ch:=ch) (fun b hb=>⟨(hf b hb).2.2.2.1,(hf b hb).2.1,(hf b hb).2.2.2.2.1,(hf b hb).2.2.2.2.2⟩) (fun b u _ _ hc e _=>k b u hc e) (fun b u _ _ hc e _=>⟨u.slots,k b u hc e⟩) (fun b u _ e n=>?_)
  (fun b u hc e=>⟨u,k b u hc e⟩) (fun b j e=>d b _ e) (fun b v u e=>d b _ e) (fun b l e=>⟨#[],by rw[d b _ e];simp⟩) (fun m hm=>?_) (fun b u e=>?_) I.bare
 ·rw[aq (nt (ih (lt_size e) ha))];exact n
 ·obtain⟨v,g,i,h,r⟩:=hm;exact⟨v,g,i,k _ v (fun z=>(hf _ z).2.1 rfl) h,r⟩
 ·by_cases hb:b=a
  ·subst hb;rw[ag] at e
   cases e
   exact new
  ·rw[aq hb] at e;refine(I.bb b u e).kG (fun c v hc q=>k c v ?_ q) (fun c q=>d c _ q) fun c j q=>d c _ q
   rcases hc with z | z
   ·rw[z];exact f b u e
   ·exact f c _ z
def EC:R2:=fun x y H Q=>y=.br/\Q (.bl (decide (x=.br))) H
def nC:R2:=fun x y H Q=>y=.br/\Q (.bl (!decide (x=.br))) H
theorem sG:dY X (compareOp .Is) EC:=Ng
theorem ve:dY X (compareOp .IsNot) nC:=Ie
variable {H:Hp}{Q:VK}
theorem ED:EC .br .br H Q=Q (.bl true) H:=by unfold EC;simp
theorem EE {a:Addr}:EC (.ref a) .br H Q=Q (.bl false) H:=by unfold EC;simp
theorem EF:nC .br .br H Q=Q (.bl false) H:=by unfold nC;simp
theorem EG {i:Int}:nC (.int i) .br H Q=Q (.bl true) H:=by unfold nC;simp
def Jl:List V->Hp->VK->Prop:=fun a H Q=>∃ p S n,a=[.ref p]/\H p=some (.set S n)/\Q (.int n) H
theorem vf:bQ X (.builtin "len") Jl:=by
 intro a s σ H m v Q I r h;obtain⟨p,S,n,rfl,c,q⟩:=h;obtain⟨u,rfl,d⟩:=vals1 r
 cases d
 obtain⟨o,j,l,t,f,g,e,_,_,hb,i,hn⟩:=I.bb p _ c;have b:scanBound<2 ^ 62:=by decide
 refine PySem.call_len_set f g e i (by omega) ⟨.int n,H,I.tok _,⟨_,by rw[hn]⟩,q⟩
theorem Qt {k:Nat}:(1:Int)*2 ^ ((k:Nat):Int).toNat=((2 ^ k:Nat):Int):=by rw[zm,Int.one_mul,Int.natCast_pow];rfl
theorem Qu {m k:Nat}:((m:Nat):Int) / 2 ^ ((k:Nat):Int).toNat=((m / 2 ^ k:Nat):Int):=by rw[zm,Int.natCast_ediv,Int.natCast_pow];rfl
theorem eI {k:Nat}(h:k<=1000):kL 1 (k:Int):=⟨by omega,by omega,by decide⟩
theorem Qv {m k:Nat}:decide (((m / 2 ^ k:Nat):Int) % 2=1)=m.testBit k:=by
 rw[tD]
 congr 1
 apply propext
 omega
theorem Qw {m k:Nat}:decide (((m / 2 ^ k:Nat):Int) % 2=0)=!m.testBit k:=by
 rw[tD]
 by_cases h:m / 2 ^ k % 2=1
 ·rw[ek h,eG (by omega)];rfl
 ·rw[eG h,ek (by omega)];rfl
theorem LA {a:Nat}:decide (((a||| b:Nat):Int)=(b:Int))=decide (a||| b=b):=by
 congr 1
 apply propext
 omega
def aD (ws:List Nat):List Int:=ws.map fun m=>((m:Nat):Int)
theorem ao (ws:List Nat):(aD ws).length=ws.length:=di _
theorem aT (ws:List Nat)(i:Nat):(aD ws).getD i 0=((ws.getD i 0:Nat):Int):=by
 unfold aD;rw[cc,ey,cc]
 cases ws[i]?<;>rfl
theorem dN (a b:List Nat):aD (a++b)=aD a++aD b:=hO
theorem EH (a:List Nat)(n:Nat):(aD a).take n=aD (a.take n):=List.map_take.symm
theorem vg (a:List Nat)(n:Nat):(aD a).drop n=aD (a.drop n):=UB.symm
variable {a:List Nat}
theorem mL {k:Nat}:(k:Int)∈aD a↔k∈a:=by
 unfold aD;rw[j9]
 constructor
 ·rintro⟨m,h,e⟩
  rwa [show k=m by omega]
 ·exact fun h=>⟨k,h,rfl⟩
theorem Jm {b:List Nat}:aD a=aD b↔a=b:=by
 constructor
 ·intro h
  apply A5
  intro i
  have:=L4 (fun l=>l[i]?) h
  unfold aD at this;simp only[List.getElem?_map] at this
  cases p:a[i]?<;>cases q:b[i]?<;>rw[p,q] at this<;>simp at this
  ·rename_i u v
   rw[show u=v by omega]
 ·rintro rfl;rfl
theorem zZ {k:Nat}:(aD a).idxOf (k:Int)=a.idxOf k:=by
 unfold aD
 induction a with
 | nil=>rfl
 | cons m r d=>
  rw[pS,idxOf_cons,idxOf_cons,d]
  by_cases e:m=k
  ·have b:((m:Int) == (k:Int))=true:=by rw[e];exact Uu _
   have c:(m == k)=true:=by rw[e];exact Uu _
   rw[b,c]
  ·have b:((m:Int) == (k:Int))=false:=AC.mpr (by omega)
   have c:(m == k)=false:=AC.mpr e;rw[b,c]
theorem EI (k:Int)(ns:List Int):K6 (.int k) (ns.map V.int)=decide (k∈ns):=by
 induction ns with
 | nil=>simp[K6]
 | cons a r b=>
  unfold K6 at b ⊢;rw[pS,any_cons,b]
  by_cases e:a=k
  ·subst e;simp[CY]
  ·have:¬ k=a:=fun z=>e z.symm
   simp[CY,e,this]
variable {neg:Bool}
theorem Aa {K:Frag}{p:Addr}{k:Nat}(h:aB K H p ((aD a).map V.int)∨aH K H p ((aD a).map V.int))(q:Q (.bl (if neg then !decide (k∈a) else decide (k∈a))) H):O4 K neg (.int k) (.ref p) H Q:=by
 refine⟨p,_,rfl,h,rfl,?_,?_⟩
 ·rw[On];exact kf.mpr fun _ _=>rfl
 ·rw[EI,show decide ((k:Int)∈aD a)=decide (k∈a) by congr 1;exact propext mL]
  exact q
theorem Ab {c:TT}{tb:TS}{D:Ends}{σ:St}(P:Nat->St->Hp->Prop)(m0:Nat)(h0:P m0 σ H)
  (hs:∀ m σ H,P m σ H->c σ H fun b H1=>if b=true then ∃ N:St->Hp->Prop,(∀ σ' H',N σ' H'->∃ m',m' < m/\P m' σ' H')/\tb {D with nx:=N,ct:=N,bk:=D.nx} σ H1 else D.nx σ H1):rE c tb D σ H:=⟨P,⟨m0,h0⟩,hs⟩
theorem Ac {P:Nat->St->Hp->Prop}{m:Nat}{R:(St->Hp->Prop)->Prop}(h:R fun σ' H'=>∃ m',m' < m/\P m' σ' H'):∃ N:St->Hp->Prop,(∀ σ' H',N σ' H'->∃ m',m' < m/\P m' σ' H')/\R N:=⟨_,fun _ _ h=>h,h⟩
variable {p:Nat->Bool}
theorem find_some {n k:Nat}(h:∀ j,j<k->p j=false)(hk:p k=true)(hn:k<n):(List.range n).find? p=some k:=by
 rw[List.find?_eq_some_iff_getElem];refine⟨hk,k,by rw[kc];exact hn,by simp,fun j hj=>?_⟩
 simp[h j hj]
theorem find_none {n:Nat}(h:∀ j,j<n->p j=false):(List.range n).find? p=none:=by
 rw[List.find?_eq_none];intro j hj;rw[h j (ls.mp hj)];exact hI
theorem nD {ns:List Int}:∀ n,n<=ns.length->ns.Nodup->i8 ns n=ns.take n
 | 0,_,_=>by unfold i8;rw[firstMet_zero,take_zero]
 | n+1,hn,b=>by
  have a:=nD n (by omega) b
  unfold i8 at a ⊢;rw[firstMet_succ,a,take_snoc 0 (by omega)]
  unfold step_dedup;rw[if_neg];intro z;obtain⟨y,hy,e⟩:=UF.mp z;have e:y=ns.getD n 0:=by simpa using e
  subst e;have h1:=b.sublist (take_sublist (n+1) _);rw[take_snoc 0 (by omega),Uc] at h1
  exact h1.2.2 _ hy _ (ea.mpr rfl) rfl
theorem BG {ns:List Int}(h:ns.Nodup):unlike ns=ns.length:=by
 unfold unlike;rw[nD _ (ef _) h,SZ]
theorem vh {ns:List Int}:∀ n,n<=ns.length->(i8 ns n).Nodup/\∀ x,x∈i8 ns n↔x∈ns.take n
 | 0,_=>by unfold i8;rw[firstMet_zero,take_zero];exact⟨nodup_nil,fun _=>Iff.rfl⟩
 | n+1,hn=>by
  obtain⟨f,d⟩:=vh (ns:=ns) n (by omega)
  unfold i8 at f d ⊢;rw[firstMet_succ,take_snoc 0 (by omega)]
  unfold step_dedup
  by_cases c:((firstMet (fun i=>ns.getD i 0) n).any fun x=>x == ns.getD n 0)=true
  ·rw[if_pos c];obtain⟨y,hy,e⟩:=UF.mp c;have e:y=ns.getD n 0:=by simpa using e
   refine⟨f,fun x=>?_⟩;rw[kb,ea,d]
   constructor
   ·exact .inl
   ·rintro(z | z)
    ·exact z
    ·rw[z,<-e];exact(d y).mp hy
  ·rw[if_neg c];refine⟨?_,fun x=>by rw[kb,kb,d]⟩
   rw[Uc];refine⟨f,by simp,fun a g b hb e=>c ?_⟩
   rw[ea] at hb;subst hb;subst e;exact UF.mpr ⟨_,g,by simp⟩
def xV (K:Frag):Sp:=fun a H Q _=>∃ (w:Addr) (ws:List Nat) (i j:Nat),a=[.ref w,.int i,.int j]/\aH K H w ((aD ws).map V.int)/\i<ws.length/\Q (.bl (e9 ws i j)) H
def NX (K:Frag):Sp:=fun a H Q _=>∃ (w:Addr) (ws:List Nat) (laid:Nat),a=[.ref w,.int laid]/\aH K H w ((aD ws).map V.int)/\ws.length<=8/\∀ H',ah H H'->(bM ws laid=none->Q .br H')/\∀ i:Nat,bM ws laid=some i->Q (.int i) H'
def LB (H0:Hp)(w:Addr)(ws:List Nat)(laid k:Nat)(σ:St)(H:Hp):Prop:=ah H0 H/\(∀ j,j<k->ready ws laid j=false)/\∃ y1 y2:Option V,σ=[some (.ref w),some (.int laid),y1,y2]
def NY (K:Frag):Sp:=fun a H Q _=>∃ (w:Addr) (ws:List Nat),a=[.ref w]/\aH K H w ((aD ws).map V.int)/\ws.length<=8/\∀ (l:Addr) (H':Hp),ah H H'->H l=none->H' l=some (.lst ((aD (laidOut ws)).map V.int))->Q (.ref l) H'
def LC (ws:List Nat)(laid:Nat):V:=match bM ws laid with
 | none=>.br
 | some i=>.int i
def Qx (H0:Hp)(w l:Addr)(ws:List Nat)(f:Nat)(σ:St)(H:Hp):Prop:=∃ (order:List Nat) (laid:Nat),σ=[some (.ref w),some (.ref l),some (.int laid),some (LC ws laid)]/\ah H0 H/\H l=some (.lst ((aD order).map V.int))/\Laid ws order laid/\fI ws f order laid=laidOut ws/\ws.length<f+order.length
def Qy (K:Frag):Sp:=fun a H Q _=>∃ (w:Addr) (ws:List Nat),a=[.ref w]/\aH K H w ((aD ws).map V.int)/\ws.length<=8/\∀ (H':Hp),ah H H'->((laidOut ws).length<ws.length->Q .br H')/\(¬ (laidOut ws).length<ws.length->∀ p,H' p=some (.tup ((aD (laidOut ws)).map V.int))->Q (.ref p) H')
def bX (ws:List Nat):List Nat:=(List.range ws.length).filter fun i=>!decide (i∈laidOut ws)
theorem f7:i∈bX ws↔i<ws.length/\i∉laidOut ws:=by
 unfold bX;rw[u5,ls]
 simp
theorem vi:bX ws=[]↔¬ (laidOut ws).length<ws.length:=by
 rw[EB]
 constructor
 ·rintro h ⟨i,h1,b⟩
  have:i∈bX ws:=f7.mpr ⟨h1,b⟩
  rw[h] at this;cases this
 ·intro h
  cases e:bX ws with
  | nil=>rfl
  | cons a r=>
   have:a∈bX ws:=by rw[e];exact fO ..
   exact absurd ⟨a,f7.mp this⟩ h
theorem EJ (ws:List Nat):(bX ws).length<=ws.length:=by
 have:=C4 (fun i=>!decide (i∈laidOut ws)) (List.range ws.length)
 rw[kc] at this;exact this
theorem nE:∀ m n:Nat,m+n=(m||| n)+(m&&& n):=by
 intro m
 induction m using Nat.strongRecOn with
 | _ m e=>
  intro n
  by_cases f:m=0
  ·subst f;simp
  have d:=e (m / 2) (by omega) (n / 2)
  rw[<-Nat.and_div_two,<-Nat.or_div_two] at d;have a:=Nat.and_mod_two_pow (a:=m) (b:=n) (n:=1);have b:=Nat.or_mod_two_pow (a:=m) (b:=n) (n:=1);have c:m % 2 ^ 1+n % 2 ^ 1=(m % 2 ^ 1||| n % 2 ^ 1)+(m % 2 ^ 1&&& n % 2 ^ 1):=by
   have hm:m % 2 ^ 1=0∨m % 2 ^ 1=1:=by omega
   have hn:n % 2 ^ 1=0∨n % 2 ^ 1=1:=by omega
   rcases hm with hm | hm<;>rcases hn with hn | hn<;>rw[hm,hn]<;>decide
  rw[<-a,<-b] at c
  omega
variable {a:Nat}
theorem Ad {k:Nat}(h:a.testBit k=false):a+2 ^ k=a||| 2 ^ k:=by
 have z:a&&& 2 ^ k=0:=by
  apply T6
  intro j;rw[testBit_and,I1,zero_testBit]
  by_cases e:k=j
  ·subst e;rw[h];rfl
  ·rw[eG e,Uw]
 have:=nE a (2 ^ k)
 omega
theorem ig (m n j:Nat):(m - (m&&& n)).testBit j=(m.testBit j&&!n.testBit j):=by
 have h:m ^^^ (m&&& n)=m - (m&&& n):=by
  have i:∀ a b:Nat,(a ^^^ b)+(a&&& b)=a||| b:=by
   intro a
   induction a using Nat.strongRecOn with
   | _ m g=>
    intro n
    by_cases o:m=0
    ·subst o;simp
    have e:=g (m / 2) (by omega) (n / 2)
    rw[<-Nat.and_div_two,<-Nat.or_div_two,<-Nat.xor_div_two] at e;have a:=Nat.and_mod_two_pow (a:=m) (b:=n) (n:=1);have b:=Nat.or_mod_two_pow (a:=m) (b:=n) (n:=1);have c:=Nat.xor_mod_two_pow (a:=m) (b:=n) (n:=1);have d:(m % 2 ^ 1 ^^^ n % 2 ^ 1)+(m % 2 ^ 1&&& n % 2 ^ 1)=(m % 2 ^ 1||| n % 2 ^ 1):=by
     have hm:m % 2 ^ 1=0∨m % 2 ^ 1=1:=by omega
     have hn:n % 2 ^ 1=0∨n % 2 ^ 1=1:=by omega
     rcases hm with hm | hm<;>rcases hn with hn | hn<;>rw[hm,hn]<;>decide
    rw[<-a,<-b,<-c] at d
    omega
  have p:=i m (m&&& n);have l:m&&& (m&&& n)=m&&& n:=by rw[<-Nat.and_assoc,Nat.and_self]
  have f:m||| (m&&& n)=m:=by
   apply T6
   intro j;rw[testBit_or,testBit_and]
   cases m.testBit j<;>rfl
  rw[l,f] at p
  omega
 rw[<-h,Nat.testBit_xor,testBit_and]
 cases m.testBit j<;>cases n.testBit j<;>rfl
theorem sub_zero {m:Nat}(h:∀ j,m.testBit j=true->a.testBit j=true):m - (m&&& a)=0:=by
 apply T6
 intro j;rw[ig,zero_testBit]
 cases e:m.testBit j with
 | false=>rfl
 | true=>rw[h j e];rfl
theorem xW {m n:Nat}(h:∀ j,n<=j->m.testBit j=false):m<2 ^ n:=by
 apply Nat.lt_pow_two_of_testBit
 exact fun j hj=>h j hj
theorem jq {m n:Nat}(h:m<2 ^ n)(hj:n<=j):m.testBit j=false:=Nat.testBit_lt_two_pow (ih h (ri (by decide) hj))
theorem Jn (l:List Nat):(aD l).sum=((l.sum:Nat):Int):=by
 unfold aD
 induction l with
 | nil=>rfl
 | cons a r b=>rw[pS,Uj,b,Uj,natCast_add]
theorem Qz {m:Nat}:((m:Nat):Int) / ((2 ^ j:Nat):Int)=((m / 2 ^ j:Nat):Int):=(Int.natCast_ediv _ _).symm
def ahead (n k:Nat):Nat:=if k=0 then n - 1 else k - 1
variable {r:List Nat}
theorem qB (h:r.Nodup):(aD r).Nodup:=by
 unfold aD;rw[Os,List.pairwise_map];exact(Os.mp h).imp fun h=>by omega
abbrev CZ (a b:Value):Obj:={cls:=.type "tuple",data:=.seq #[a,b]}
variable {h:Heap}
theorem gu {a b:Addr}{o u:Obj}{n m:String}(ha:h.get? a=some o)(hn:o.cls=.type n)(hb:h.get? b=some u)(hm:u.cls=.type m)(hc:n≠m):a≠b:=fun z=>by
 subst z;rw[ha] at hb;cases hb
 rw[hn] at hm;exact hc (by injection hm)
def QA (K:Frag):List V->Hp->VK->Prop:=fun a H Q=>∃ (p:Addr) (bs:List Bool),a=[.ref p]/\aB K H p (bs.map V.bl)/\Q (.bl (bs.all id)) H
theorem sH:∀ {bs:List Bool} {its:List Value},Vals (bs.map V.bl) its->its=bs.map Value.bool
 | [],_,.nil=>rfl
 | b::r,_,.cons h t=>by rw[sH t,show _=Value.bool b from h];rfl
theorem cK {K:Frag}(hc:X.calm=true)(hK:X.K=K):bQ X (.builtin "all") (QA K):=by
 subst hK;intro f s σ H A E Q I r h;obtain⟨p,bs,rfl,hq,q⟩:=h;obtain⟨u,rfl,j⟩:=vals1 r
 cases j
 obtain⟨a,w,d,hz⟩:=I.list hq;have g:=sH w;have l:p<s.heap.objs.size:=by obtain⟨o,e,_⟩:=d.isList;exact lt_size e
 refine PySem.call_all_walk (TX d.isList ?_);refine⟨s.heap.objs.size,_,_,_,_,_,fun i=>bs.getD i false,rfl,Walks.list (by simpa using I.ok.hd hc) s.heap.objs.size p (nt l) a.toArray,⟨⟨_,hU _ rfl,rfl,rfl⟩,d.isList.push _⟩,?_,fun D C hk=>?_⟩
 ·intro i v n m B hv c;have hv:a[i]?=some v:=by simpa using hv
  rw[g,ey] at hv
  cases e:bs[i]? with
  | none=>rw[e] at hv;cases hv
  | some b=>
   rw[e] at hv
   cases hv
   have c:m (bs.getD i false) n:=c;rw[cc,e] at c;exact Do c
 ·have y:a.toArray.size=bs.length:=by rw[j5,g,di]
  have t:(List.range a.toArray.size).all (fun i=>bs.getD i false)=bs.all id:=by
   rw[y]
   apply TZ.mpr
   simp only[List.all_eq_true,List.mem_range,id_eq]
   constructor
   ·intro h b hb;obtain⟨k,hk,e⟩:=Da hb
    have:=h k hk
    rw[cc,cv hk] at this;rw[<-e];exact this
   ·intro h k hk;rw[cc,cv hk];exact h _ (oD hk)
  rw[t];refine⟨.bl _,H,I.kept fun b o e=>hk b o ?_ (ed _ e),rfl,q⟩
  have:=lt_size e
  intro z
  have:b=s.heap.objs.size:=by simpa using z
  subst this;exact GT _ (lt_size e)
def Jo:V->List V->Hp->VK->Prop:=fun x a H Q=>∃ m:Nat,x=.int m/\a=[]/\∀ n:Nat,m<2 ^ n->(∀ k,m<2 ^ k->n<=k)->Q (.int n) H
theorem BH:xa X "int.bit_length" Jo:=by
 intro a s σ H x e v f Q I c d h;obtain⟨m,rfl,rfl,q⟩:=h;obtain⟨t,rfl⟩:=c
 cases d
 refine call_int_bit_length ⟨.int (Builtin.Int.intBits (m:Int):Nat),H,I.tok _,⟨_,rfl⟩,?_⟩;unfold Builtin.Int.intBits
 by_cases b:m=0
 ·subst b;exact q 0 (by decide) fun k _=>zero_le k
 ·have h1:((m:Int) == 0)=false:=AC.mpr (by omega)
  rw[h1];simp only[Bool.false_eq_true,if_false,natAbs_natCast];refine q _ (Nat.lt_log2_self) fun k hk=>?_
  have:=(log2_lt b).mpr hk
  omega
def aL (m:Nat):List Nat:=(List.range (m.log2+1)).filter m.testBit
theorem ij {p:Nat->Bool}:∀ (d n:Nat),(∀ j,n<=j->p j=false)->(List.range (n+d)).filter p=(List.range n).filter p
 | 0,n,_=>rfl
 | d+1,n,h=>by
  rw[<-Nat.add_assoc,I3,UA,ij d n h]
  simp[h (n+d) (by omega)]
theorem qC {m n:Nat}(h:m<2 ^ n):(List.range n).filter m.testBit=aL m:=by
 unfold aL;have a:m<2 ^ (m.log2+1):=Nat.lt_log2_self
 rcases Nat.le_total n (m.log2+1) with c | c
 ·have:=ij (p:=m.testBit) (m.log2+1 - n) n fun j hj=>jq h hj
  rw[show n+(m.log2+1 - n)=m.log2+1 by omega] at this
  exact this.symm
 ·have:=ij (p:=m.testBit) (n - (m.log2+1)) (m.log2+1) fun j hj=>jq a hj
  rw[show m.log2+1+(n - (m.log2+1))=n by omega] at this
  exact this
def mask (l:List Nat):Nat:=(l.map fun j=>2 ^ j).sum
theorem f9:∀ {l:List Nat},l.Nodup->∀ j,(mask l).testBit j=decide (j∈l)
 | [],_,j=>by simp[mask]
 | a::r,h,j=>by
  have c:=vr.mp h;have b:=f9 c.2;have d:(mask r).testBit a=false:=by rw[b];simp[c.1]
  show (2 ^ a+mask r).testBit j=_;rw[Nat.add_comm,Ad d,ie,b]
  by_cases e:a=j
  ·subst e;simp
  ·have:¬ j=a:=fun z=>e z.symm
   simp[e,this]
theorem Jp {n:Nat}(h:l.Nodup)(hl:∀ i∈l,i<n):mask l<2 ^ n:=xW fun j hj=>by
 rw[f9 h,eG];exact fun z=>absurd (hl j z) (by omega)
def cN (ws l:List Nat):Bool:=l.all fun i=>l.all fun j=>decide (j=i)||e9 ws i j
theorem sI:a&&& b=b↔∀ j,b.testBit j=true->a.testBit j=true:=by
 constructor
 ·intro h j hj
  have:(a&&& b).testBit j=true:=by rw[h];exact hj
  rw[testBit_and,h9] at this;exact this.1
 ·intro h
  apply T6
  intro j;rw[testBit_and]
  cases e:b.testBit j with
  | false=>rw[Uw]
  | true=>rw[h j e];rfl
theorem nF (h:l.Nodup)(hi:i∈l):∀ j,(mask l - 2 ^ i).testBit j=decide (j∈l/\j≠i):=by
 intro j;have e:mask l&&& 2 ^ i=2 ^ i:=sI.mpr fun j hj=>by
  rw[I1,o6] at hj;subst hj;rw[f9 h,ek hi]
 have:=ig (mask l) (2 ^ i) j
 rw[e] at this;rw[this,f9 h,I1]
 by_cases c:j∈l<;>by_cases a:i=j
 ·subst a;simp
 ·have:¬ j=i:=fun z=>a z.symm
  simp[c,a,this]
 ·simp[c]
 ·simp[c]
theorem vj (hi:i∈l):2 ^ i<=mask l:=by
 unfold mask
 induction l with
 | nil=>cases hi
 | cons a r b=>
  rw[pS,Uj]
  rcases gz.mp hi with rfl | h
  ·omega
  ·exact ka (b h) (Nat.le_add_left _ _)
theorem xX (h:l.Nodup)(hi:i∈l):decide (ws.getD i 0&&& (mask l - 2 ^ i)=mask l - 2 ^ i)=l.all fun j=>decide (j=i)||e9 ws i j:=by
 apply TZ.mpr
 rw[o6,sI,kf]
 constructor
 ·intro z j hj
  by_cases e:j=i
  ·rw[ek e];rfl
  ·have:=z j (by rw[nF h hi,ek ⟨hj,e⟩])
   unfold e9;rw[this,Bool.or_true]
 ·intro z j hj;rw[nF h hi,o6] at hj
  have:=z j hj.1
  rw[eG hj.2,Bool.false_or] at this;exact this
def j7:Sp:=fun a H Q _=>∃ m:Nat,a=[.int m]/\m<2 ^ 64/\∀ (l:Addr) (H':Hp),ah H H'->H l=none->H' l=some (.lst ((aD (aL m)).map V.int))->Q (.ref l) H'
def NZ (K:Frag):Sp:=fun a H Q _=>∃ (w p:Addr) (ws l:List Nat),a=[.ref w,.ref p]/\aH K H w ((aD ws).map V.int)/\aH K H p ((aD l).map V.int)/\ws.length<=8/\l.Nodup/\(∀ i∈l,i<ws.length)/\∀ H',ah H H'->Q (.bl (cN ws l)) H'
def QC (H0:Hp)(w p:Addr)(ws l:List Nat)(k:Nat)(σ:St)(H:Hp):Prop:=H=H0/\(∀ j,j<k->(l.all fun x=>decide (x=l.getD j 0)||e9 ws (l.getD j 0) x)=true)/\∃ y1 y2:Option V,σ=[some (.ref w),some (.ref p),some (.int (mask l:Nat)),y1,y2]
theorem Ae (l:List Nat):((List.range (aD l).length).map fun j=>((2 ^ l.getD j 0:Nat):Int)).sum=((mask l:Nat):Int):=by
 have e:(List.range (aD l).length).map (fun j=>((2 ^ l.getD j 0:Nat):Int))=aD (l.map fun j=>2 ^ j):=by
  unfold aD
  apply A5
  intro i;rw[di,ey,ey,ey]
  by_cases h:i<l.length
  ·rw[q5 h,cv h];show some (((2 ^ l.getD i 0:Nat):Int))=some (((2 ^ l[i]:Nat):Int));rw[cc,cv h];rfl
  ·rw[j6 (by rw[kc];omega),j6 (by omega)];rfl
 rw[e,Jn];rfl
theorem Jq (h:2 ^ i<=a):(a:Int) - ((2 ^ i:Nat):Int)=((a - 2 ^ i:Nat):Int):=by omega
theorem QD:(((a:Nat):Int)=((b:Nat):Int))=(a=b):=propext ⟨fun h=>by omega,fun h=>by rw[h]⟩
def je (ws r:List Nat):Bool:=decide (2<=r.length)&&(decide r.Nodup&&(List.range r.length).all fun k=>e9 ws (r.getD (ahead r.length k) 0) (r.getD k 0))
def pD (r:List Nat):List Nat:=r.drop 1++r.take 1
theorem EK (h:1<=r.length):(pD r).length=r.length:=by unfold pD;rw[fz,tz,qN];omega
theorem nG {k:Nat}(hk:k<r.length):(pD r).getD k 0=r.getD (if k+1<r.length then k+1 else 0) 0:=by
 unfold pD;rw[cc,cc]
 by_cases c:k+1<r.length
 ·rw[if_pos c,F8 (by rw[tz];omega),getElem?_drop,Nat.add_comm]
 ·rw[if_neg c,zk (by rw[tz];omega),tz,show k - (r.length - 1)=0 by omega,Uo (by decide)]
theorem BI:((List.range r.length).map fun k=>e9 ws (r.getD k 0) ((pD r).getD k 0)).all id=(List.range r.length).all fun k=>e9 ws (r.getD (ahead r.length k) 0) (r.getD k 0):=by
 apply TZ.mpr
 rw[On];simp only[List.all_eq_true,List.mem_range,Function.comp,id_eq]
 constructor
 ·intro h k hk;unfold ahead
  by_cases c:k=0
  ·subst c;rw[if_pos rfl]
   have:=h (r.length - 1) (by omega)
   rw[nG (by omega),if_neg (by omega)] at this
   exact this
  ·rw[if_neg c]
   have:=h (k - 1) (by omega)
   rw[nG (by omega),if_pos (by omega),show k - 1+1=k by omega] at this
   exact this
 ·intro h k hk;rw[nG hk]
  by_cases c:k+1<r.length
  ·rw[if_pos c]
   have:=h (k+1) c
   unfold ahead at this;rw[if_neg (by omega),Nat.add_sub_cancel] at this
   exact this
  ·rw[if_neg c]
   have:=h 0 (by omega)
   unfold ahead at this;rw[if_pos rfl,show r.length - 1=k by omega] at this
   exact this
theorem pE:(aD r).Nodup↔r.Nodup:=by
 constructor
 ·intro h;unfold aD at h;rw[Os,List.pairwise_map] at h;rw[Os];exact h.imp fun h=>by omega
 ·exact qB
theorem qD:∀ {ns:List Int},¬ ns.Nodup->∃ x∈ns,x∈ns.erase x
 | [],h=>absurd nodup_nil h
 | a::r,h=>by
  by_cases c:a∈r
  ·exact⟨a,fO ..,by rw[List.erase_cons_head];exact c⟩
  ·have e:¬ r.Nodup:=fun z=>h (vr.mpr ⟨c,z⟩);obtain⟨x,h1,d⟩:=qD e;refine⟨x,fA _ h1,?_⟩;have b:a≠x:=fun z=>c (z ▸ h1);rw[List.erase_cons_tail (by simpa using b)]
   exact fA _ d
theorem nH:∀ {xs ys:List Int},xs.Nodup->(∀ i∈xs,i∈ys)->xs.length<=ys.length
 | [],_,_,_=>zero_le _
 | a::r,ys,c,h=>by
  have b:=vr.mp c;have h1:=nH (xs:=r) (ys:=ys.erase a) b.2 fun i hi=>by
   have:i≠a:=fun z=>b.1 (z ▸ hi)
   exact(List.mem_erase_of_ne this).mpr (h i (fA _ hi))
  have d:=length_erase (a:=a) (l:=ys);rw[if_pos (h a (fO ..))] at d
  have:0<ys.length:=length_pos_of_mem (h a (fO ..))
  rw[pb];omega
theorem BJ {ns:List Int}(h:¬ ns.Nodup):unlike ns<ns.length:=by
 obtain⟨x,h1,d⟩:=qD h;obtain⟨f,b⟩:=vh (ns:=ns) ns.length (ef _);have g:=nH (ys:=ns.erase x) f fun i hi=>by
  have hi:=(b i).mp hi;rw[SZ] at hi
  by_cases e:i=x
  ·rw[e];exact d
  ·exact(List.mem_erase_of_ne e).mpr hi
 have c:=length_erase (a:=x) (l:=ns);rw[if_pos h1] at c
 have:0<ns.length:=length_pos_of_mem h1
 unfold unlike
 omega
def QF (K:Frag):Sp:=fun a H Q _=>∃ (w p:Addr) (ws r:List Nat),a=[.ref w,.ref p]/\aH K H w ((aD ws).map V.int)/\aH K H p ((aD r).map V.int)/\ws.length<=8/\r.length<=90/\(∀ i∈r,i<ws.length)/\∀ H',ah H H'->Q (.bl (je ws r)) H'
def Off (wb:Addr)(H H':Hp):Prop:=∀ b o,b≠wb->H b=some o->H' b=some o
variable {wb:Addr}
theorem Off.trans {H1 H2:Hp}(a:Off wb H H1)(b:Off wb H1 H2):Off wb H H2:=fun c o n h=>b c o n (a c o n h)
theorem ah.vk {H':Hp}(s:ah H H'):Off wb H H':=fun b o _ h=>s b o h
theorem Off.upd {wb:Addr}{H:Hp}{o:HO}:Off wb H (L2.upd H wb o):=fun b u n h=>by rw[aq n];exact h
variable {p:Addr}
theorem av {K:Frag}{xs:List V}{i:Int}{v:V}(h:aB K H p xs)(e:xw xs i=some v)(q:Q v H):uQ K (.ref p) (.int i) H Q:=⟨p,_,i,_,rfl,rfl,h,e,q⟩
theorem Jr {ds:List PyData}:PyData.eqv (.list ds) (.list [])=decide (ds=[]):=by
 cases ds with
 | nil=>rfl
 | cons a r=>simp[PyData.eqv,PyData.eqvAll]
theorem lcAny {j:Int}{te:TE}{rest:St}{H1:Hp}(n:Nat)(e:j=(n:Int))(hn:n<=1000000)(Ok:Nat->Prop)
  (step:∀ i H (A:V->Hp->Prop),i<n->ah H1 H->(∀ (x:Nat) H',ah H H'->Ok x->A (.int (x:Int)) H')->te (some (.int (i:Int))::rest) H A)
  (fin:∀ acc (row:List Nat) H,H1 acc=none->ah H1 H->H acc=some (.lst ((aD row).map V.int))->row.length=n->(∀ x∈row,Ok x)->Q (.ref acc) H) :
  ∃ k:Int,[V.int j]=[.int k]/\-(2 ^ 62)<=k/\k<2 ^ 62/\rV (bA 0) gW te (none::rest) Q (xg 0 k.toNat) H1:=by
 subst e;refine⟨_,rfl,by omega,by omega,?_⟩
 rw[zm];intro acc d;refine⟨fun i m τ H=>m=n - i/\i<=n/\(∃ y,τ=y::rest)/\ah H1 H/\∃ row:List Nat,H acc=some (.lst ((aD row).map V.int))/\row.length=i/\∀ x∈row,Ok x,⟨n,by simp,zero_le _,⟨_,rfl⟩,ah.new d _,[],ag,rfl,(fun _ h=>nomatch h)⟩,?_⟩
 rintro i m τ H ⟨rfl,hi,⟨y,rfl⟩,l,row,q,o,r⟩
 by_cases f:i<n
 ·refine .inr ⟨f,fun s H'=>(∃ y,s=y::rest)/\ah H1 H'/\∃ row:List Nat,H' acc=some (.lst ((aD row).map V.int))/\row.length=i+1/\∀ x∈row,Ok x,fun s H' ⟨a,b,c⟩=>⟨n - (i+1),by omega,rfl,f,a,b,c⟩,fun x H' y=>?_⟩
  obtain⟨rfl,rfl⟩:=y;rw[Int.zero_add];simp only[rX,gn,set_cons_zero,xP,jZ];refine step i H' _ f l fun x t g hx=>?_;have p:=g _ _ q;refine⟨_,p,?_,⟨_,rfl⟩,(l.trans g).set d _,row++[x],?_,by rw[fz,o];rfl,fun z hz=>?_⟩
  ·rw[di,ao,o];exact ih (ih f hn) (by decide)
  ·rw[ag,dN,hO];rfl
  ·rcases kb.mp hz with z1 | z1
   ·exact r z z1
   ·rw[ea.mp z1];exact hx
 ·have e:i=n:=by omega
  subst e;exact .inl ⟨ef _,fin acc row H d l q o r⟩
theorem EL {k x:Nat}(hd:l.Nodup)(h:x∈l.take k):l.idxOf x<k:=by
 obtain⟨i,hi,e⟩:=Da h;rw[qN] at hi;rw[getElem_take] at e;rw[<-e,hd.idxOf_getElem i (by omega)]
 omega
variable {a:Addr}
theorem LD {K:Frag}{xs:List V}{g:TG}{tb:TS}{D:Ends}{σ:St}(I:Nat->St->Hp->Prop)(h:aB K H a xs)(h0:I 0 σ H)(hl:∀ i σ H,I i σ H->aB K H a xs)
  (step:∀ i x σ H,xs[i]?=some x->I i σ H->g x σ H fun σ2 H2=>tb {D with nx:=I (i+1),ct:=I (i+1),bk:=D.nx} σ2 H2)
  (fin:∀ σ H,I xs.length σ H->D.nx σ H):∃ b,V.ref a=.ref b/\(∃ xs,aB K H b xs)/\rY g tb D σ (Hz K b) H:=
 ⟨a,rfl,⟨_,h⟩,uI (xs:=xs) I h0 (fun i σ H _ p=>hl i σ H p) step fin⟩
theorem BK {ms:List Int}{k:Nat}{v:Int}:(ms.set j v).getD k 0=if j=k/\j<ms.length then v else ms.getD k 0:=by
 rw[cc,List.getElem?_set,cc]
 by_cases e:j=k
 ·by_cases h:j<ms.length
  ·rw[if_pos e,if_pos h,if_pos ⟨e,h⟩];rfl
  ·rw[if_pos e,if_neg h,if_neg (fun z=>h z.2),j6 (by omega)]
 ·rw[if_neg e,if_neg (fun z=>e z.1)]
theorem HN.set {cs ms:List Int}{n j:Nat}{v:Int}(h:HN cs ms n)(h0:0<=v)(h1:v<cs.getD j 0):HN cs (ms.set j v) n:=by
 refine⟨by rw[length_set,h.1],fun i hi=>?_⟩
 rw[BK]
 by_cases e:j=i/\j<ms.length
 ·rw[if_pos e,<-e.1];exact⟨h0,h1⟩
 ·rw[if_neg e];exact h.2 i hi
variable {j:Int}
theorem EM {te:TE}{rest:St}{H1:Hp}(n:Nat)(e:j=(n:Int))(hn:n<=1000000)(Ok:Nat->Int->Prop)
  (step:∀ i H (A:V->Hp->Prop),i<n->ah H1 H->(∀ (x:Int) H',ah H H'->Ok i x->A (.int x) H')->te (some (.int (i:Int))::rest) H A)
  (fin:∀ acc (row:List Int) H,H1 acc=none->ah H1 H->H acc=some (.lst (row.map V.int))->row.length=n->(∀ i,i<n->Ok i (row.getD i 0))->Q (.ref acc) H) :
  ∃ k:Int,[V.int j]=[.int k]/\-(2 ^ 62)<=k/\k<2 ^ 62/\rV (bA 0) gW te (none::rest) Q (xg 0 k.toNat) H1:=by
 subst e;refine⟨_,rfl,by omega,by omega,?_⟩
 rw[zm];intro acc d;refine⟨fun i m τ H=>m=n - i/\i<=n/\(∃ y,τ=y::rest)/\ah H1 H/\∃ row:List Int,H acc=some (.lst (row.map V.int))/\row.length=i/\∀ k,k<i->Ok k (row.getD k 0),⟨n,by simp,zero_le _,⟨_,rfl⟩,ah.new d _,[],ag,rfl,fun k hk=>absurd hk (Uk k)⟩,?_⟩
 rintro i m τ H ⟨rfl,hi,⟨y,rfl⟩,l,row,p,h,q⟩
 by_cases f:i<n
 ·refine .inr ⟨f,fun r H'=>(∃ y,r=y::rest)/\ah H1 H'/\∃ row:List Int,H' acc=some (.lst (row.map V.int))/\row.length=i+1/\∀ k,k<i+1->Ok k (row.getD k 0),fun r H' ⟨a,b,c⟩=>⟨n - (i+1),by omega,rfl,f,a,b,c⟩,fun x H' y=>?_⟩
  obtain⟨rfl,rfl⟩:=y;rw[Int.zero_add];simp only[rX,gn,set_cons_zero,xP,jZ];refine step i H' _ f l fun x s g hx=>?_;have o:=g _ _ p;refine⟨_,o,?_,⟨_,rfl⟩,(l.trans g).set d _,row++[x],?_,by rw[fz,h];rfl,fun k hk=>?_⟩
  ·rw[di,h];exact ih (ih f hn) (by decide)
  ·rw[ag,hO];rfl
  ·by_cases e:k=i
   ·subst e;rw[<-h,sD,h];exact hx
   ·rw[sC (by omega)];exact q k (by omega)
 ·have e:i=n:=by omega
  subst e;exact .inl ⟨ef _,fin acc row H d l p h q⟩
variable {us:List V}
theorem ax {v:V}(h:us[i]?=some v):xw us (i:Int)=some v:=by
 have a:=(mv.mp h).1
 have:=ib (xs:=us) (i:=(i:Int)) (k:=i) rfl .br a
 rw[this,cc,h];rfl
def SI (K:Frag):List V->Hp->VK->Prop:=fun a H Q=>∃ (p:Addr) (bs:List Bool),a=[.ref p]/\aB K H p (bs.map V.bl)/\Q (.bl (bs.any id)) H
def QH (K:Frag):List V->Hp->VK->Prop:=fun a H Q=>∃ (p:Addr) (ns:List Int),a=[.ref p]/\(aB K H p (ns.map V.int)∨aH K H p (ns.map V.int))/\ns≠[]/\∀ m∈ns,(∀ n∈ns,n<=m)->Q (.int m) H
theorem nI:∀ {ns:List Int} {its:List Value} {i:Nat} {v:Value},Vals (ns.map V.int) its->its[i]?=some v->∃ t,v=.int (ns.getD i 0) t/\i<ns.length
 | [],_,i,v,.nil,h=>by simp at h
 | n::r,_,0,v,.cons h _,e=>by
  obtain⟨t,h⟩:=h
  simp at e
  exact⟨t,by rw[<-e,h];rfl,by simp⟩
 | n::r,_,i+1,v,.cons _ t,e=>by
  obtain⟨a,h1,b⟩:=nI t (i:=i) (v:=v) (by simpa using e)
  exact⟨a,by rw[h1];simp,by simp;exact b⟩
theorem vm:∀ {xs:List V} {its:List Value},Vals xs its->Vals xs.reverse its.reverse
 | [],_,.nil=>.nil
 | _::_,_,.cons h t=>by rw[List.reverse_cons,List.reverse_cons];exact(vm t).append (.cons h .nil)
variable {K:Frag}
theorem BL (hc:X.calm=true)(hK:X.K=K):bQ X (.builtin "any") (SI K):=by
 subst hK;intro f s σ H A E Q I r h;obtain⟨p,bs,rfl,hq,q⟩:=h;obtain⟨u,rfl,j⟩:=vals1 r
 cases j
 obtain⟨a,w,d,hz⟩:=I.list hq;have g:=sH w;have l:p<s.heap.objs.size:=by obtain⟨o,e,_⟩:=d.isList;exact lt_size e
 refine PySem.call_any_walk (TX d.isList ?_);refine⟨s.heap.objs.size,_,_,_,_,_,fun i=>bs.getD i false,rfl,Walks.list (by simpa using I.ok.hd hc) s.heap.objs.size p (nt l) a.toArray,⟨⟨_,hU _ rfl,rfl,rfl⟩,d.isList.push _⟩,?_,fun D C hk=>?_⟩
 ·intro i v n m B hv c;have hv:a[i]?=some v:=by simpa using hv
  rw[g,ey] at hv
  cases e:bs[i]? with
  | none=>rw[e] at hv;cases hv
  | some b=>
   rw[e] at hv
   cases hv
   have c:m (bs.getD i false) n:=c;rw[cc,e] at c;exact Do c
 ·have y:a.toArray.size=bs.length:=by rw[j5,g,di]
  have t:(List.range a.toArray.size).any (fun i=>bs.getD i false)=bs.any id:=by
   rw[y]
   apply TZ.mpr
   simp only[List.any_eq_true,List.mem_range,id_eq]
   constructor
   ·rintro⟨k,hk,h⟩;rw[cc,cv hk] at h;exact⟨_,oD hk,h⟩
   ·rintro⟨b,hb,h⟩;obtain⟨k,hk,e⟩:=Da hb;refine⟨k,hk,?_⟩;rw[cc,cv hk];show bs[k]=true;rw[e];exact h
  rw[t];refine⟨.bl _,H,I.kept fun b o e=>hk b o ?_ (ed _ e),rfl,q⟩;intro z
  have:b=s.heap.objs.size:=by simpa using z
  subst this;exact GT _ (lt_size e)
theorem BM {pins:List (Addr × Obj)}{σ:St}{ns:List Int}(hc:X.calm=true)(I:Inv X pins σ H s)(hq:aB X.K H p (ns.map V.int)∨aH X.K H p (ns.map V.int)){R:Value->Shared->Prop}
  (h:∀ (J:Addr) (fp wr:List Addr) (Pv:Nat->Value->Prop) (St:Nat->Heap->Prop) (s2:Shared),Walks X.prog X.w X.A.in1 J fp wr ns.length Pv St->St 0 s2.heap->(∀ b∈fp,b<s2.heap.objs.size)->(∀ i v,Pv i v->∃ t,v=.int (ns.getD i 0) t)->
   (∀ h' tk,(∀ b o,b∉wr->s2.heap.get? b=some o->h'.get? b=some o)->Inv X pins σ H {s2 with heap:=h',toks:=tk})->R (.ref J) s2):wpAny (model X.prog X.w) X.A.in1 (pyIter (.ref p)) R E s:=by
 have kept:∀ {o:Obj} {h':Heap} {tk:Nat},(∀ b u,b∉[s.heap.objs.size]->(s.heap.push o).get? b=some u->h'.get? b=some u)->Inv X pins σ H {s with heap:=h',toks:=tk}:=fun hk=>I.kept fun b u e=>hk b u (fun z=>by
  have:b=s.heap.objs.size:=by simpa using z
  subst this;exact GT _ (lt_size e)) (ed _ e)
 rcases hq with hq | hq
 ·obtain⟨a,d,f,hz⟩:=I.list hq;have g:a.toArray.size=ns.length:=by rw[j5,<-d.length,di]
  have c:p<s.heap.objs.size:=by obtain⟨o,e,_⟩:=f.isList;exact lt_size e
  refine TX f.isList ?_;have W:=Walks.list (prog:=X.prog) (w:=X.w) (A:=X.A.in1) (by simpa using I.ok.hd hc) s.heap.objs.size p (nt c) a.toArray
  rw[g] at W;refine h _ _ _ _ _ _ W ⟨⟨_,hU _ rfl,rfl,rfl⟩,f.isList.push _⟩ (fun b hb=>?_) (fun i v hv=>?_) fun h' tk hk=>kept hk
  ·show b<(s.heap.push _).objs.size;rw[Fk]
   rcases gz.mp hb with rfl | hb
   ·exact UD _
   ·have:b=p:=by simpa using hb
    rw[this];exact Up c
  ·obtain⟨t,e,_⟩:=nI d (by simpa using hv)
   exact⟨t,e⟩
 ·obtain⟨a,d,f,hz⟩:=I.tuple hq;have pt:s.heap.IsTuple p a.toArray:=f;have g:a.toArray.size=ns.length:=by rw[j5,<-d.length,di]
  have c:p<s.heap.objs.size:=by obtain⟨o,e,_⟩:=pt;exact lt_size e
  refine T8 pt ?_;have W:=Walks.tuple (prog:=X.prog) (w:=X.w) (A:=X.A.in1) (by simpa using I.ok.hd hc) s.heap.objs.size p (nt c) a.toArray
  rw[g] at W;refine h _ _ _ _ _ _ W ⟨⟨_,hU _ rfl,rfl,rfl⟩,pt.at fun o e=>ed _ e⟩ (fun b hb=>?_) (fun i v hv=>?_) fun h' tk hk=>kept hk
  ·show b<(s.heap.push _).objs.size;rw[Fk]
   rcases gz.mp hb with rfl | hb
   ·exact UD _
   ·have:b=p:=by simpa using hb
    rw[this];exact Up c
  ·obtain⟨t,e,_⟩:=nI d (by simpa using hv)
   exact⟨t,e⟩
theorem xY (hc:X.calm=true)(hK:X.K=K):bQ X (.builtin "max") (QH K):=by
 subst hK;intro l s σ H E G Q I r h;obtain⟨p,c,rfl,hq,g,q⟩:=h;obtain⟨u,rfl,m⟩:=vals1 r
 cases m
 have hn:0<c.length:=O0.mpr g;refine PySem.call_max_walk (BM hc I hq fun J C o Pv St D W y f a b=>?_);refine⟨J,C,o,_,Pv,St,_,rfl,W,y,f,hn,CmpOf.ints_gt (fun i=>c.getD i 0) a,fun v B z A hk=>?_⟩;obtain⟨t,rfl⟩:=a _ _ A;obtain⟨F,w⟩:=argBest_gt (fun i=>c.getD i 0) (c.length - 1);refine⟨.int _,H,b B z hk,⟨t,rfl⟩,q _ (L2.getD_mem (by omega)) fun n d=>?_⟩
 obtain⟨k,j,e⟩:=Da d
 have:=w k (by omega)
 rw[cc,cv j] at this;rw[<-e];exact this
def LF:TS:=fun _ _ _=>False
theorem qF {st:Stmt}:QS X st LF:=⟨fun _ _ _ _ _ _ h=>h.elim⟩
theorem EN {D:Ends}{σ:St} :LF D σ H=False:=rfl
def QK (K:Frag):V->Hp->VK->Prop:=fun x H Q=>∃ a xs,x=.ref a/\aB K H a xs/\∀ p,H p=none->Q (.ref p) (upd H p (.lst xs.reverse))
def SJ (K:Frag)(te ts:TE):TE:=fun σ H Q=>te σ H fun x H1=>ts σ H1 fun y a=>y=.int (-1)/\QK K x a Q
variable {e st:Expr}{te ts:TE}{pos p2:Pos}{ops:Value->Value->List Value}
theorem N0 (he:PE X e te)(hs:PE X st ts)(hsub:∀ o i,subscripted (.Slice none none (some st) p2) false o i=operate (ops o i) (getItem o i)):PE X (.Subscript e (.Slice none none (some st) p2) pos) (SJ X.K te ts):=by
 intro c s σ H Q I h;refine Subscript_ (bP (he c s σ H _ I h) fun v u ⟨x,H1,D,C,B⟩=>?_);refine wpAny_Slice ?_;rw[evalPart_none];refine eR (eR ?_);rw[evalPart_some];refine bP (hs c u σ H1 _ D B) fun F d ⟨y,z,m,n,p⟩=>?_;obtain⟨rfl,a,E,rfl,hx,q⟩:=p
 cases C
 obtain⟨t,rfl⟩:=n;have g:Inv X c σ z {d with heap:=d.heap.push {cls:=.type "slice",data:=.fields #[.none,.none,.int (-1) t]}}:=m.kept (t':=d.toks) fun b ob q=>ed _ q;obtain⟨f,r,l,hz⟩:=g.list hx;have j:=r.length;show wpAny (model X.prog X.w) X.A (subscriptTail e (.Slice none none (some st) p2) (.ref a) (.ref d.heap.objs.size)) (EP X c σ Q) X.xe {d with heap:=d.heap.push {cls:=.type "slice",data:=.fields #[.none,.none,.int (-1) t]}};refine tail_any (T:="list") (ops:=ops (.ref a) (.ref d.heap.objs.size)) l.isList.typeIs slot_list_getitem.lookup ?_ (hsub _ _);refine wpAny_getItem_list_slice l.isList (Heap.IsSliceOf.new ..) .none .none (.int (-1) t) (by simp) ?_ (by rw[j5]<;>omega)
 rw[PySem.W.krv_pick];refine⟨.ref _,_,g.laid (t':=d.toks) (o:=.lst E.reverse) (fun b ob q=>ed _ q) (ef _) ?_,rfl,q _ (g.bb.fresh (ef _))⟩;exact⟨by rw[List.length_reverse];exact hz,f.reverse,0,vm r,hU _ rfl⟩
theorem Js (he:QE X e te)(hs:QE X st ts)(h:X.K=K)(hsub:∀ o i,subscripted (.Slice none none (some st) p2) false o i=operate (ops o i) (getItem o i):=by intro _ _;with_unfolding_all rfl):QE X (.Subscript e (.Slice none none (some st) p2) pos) (SJ K te ts):=⟨by subst h;exact N0 he.h hs.h hsub⟩
theorem QL {σ:St} :SJ K te ts σ H Q=te σ H fun x H1=>ts σ H1 fun y H2=>y=.int (-1)/\QK K x H2 Q:=rfl
def rg (n i:Nat)(s:Int):Int:=if i=n - 1 then s else 1 - s
def QM:Sp:=fun a H Q _=>∃ (n i:Nat) (s:Int),a=[.int n,.int i,.int s]/\1<=n/\Q (.int (rg n i s)) H
def kd (b:Bool):Str:=if b then "ring" else "circle"
theorem sL (b:Bool):decide (kd b="ring")=b:=by cases b<;>decide
def GL (K:Frag)(H:Hp):List V->List (Bool × List Nat)->Prop
 | [],[]=>True
 | v::a,g::L=>(∃ r p,v=.ref r/\aH K H r [.str (kd g.1),.ref p]/\aH K H p ((aD g.2).map V.int))/\GL K H a L
 | _,_=>False
variable {H':Hp}
theorem GL.mono (s:ah H H'):∀ {vs:List V} {L:List (Bool × List Nat)},GL K H vs L->GL K H' vs L
 | [],[],h=>h
 | _::_,_::_,⟨⟨r,p,e,h,a⟩,t⟩=>⟨⟨r,p,e,s.aJ h,s.aJ a⟩,GL.mono s t⟩
 | [],_::_,h=>h.elim
 | _::_,[],h=>h.elim
theorem GL.length:∀ {vs:List V} {L:List (Bool × List Nat)},GL K H vs L->vs.length=L.length
 | [],[],_=>rfl
 | _::_,_::_,⟨_,t⟩=>by rw[pb,pb,GL.length t]
 | [],_::_,h=>h.elim
 | _::_,[],h=>h.elim
theorem GL.get:∀ {vs:List V} {L:List (Bool × List Nat)} {i:Nat} {v:V},GL K H vs L->vs[i]?=some v->∃ g r p,L[i]?=some g/\v=.ref r/\aH K H r [.str (kd g.1),.ref p]/\aH K H p ((aD g.2).map V.int)
 | [],[],i,v,_,e=>by simp at e
 | _::_,g::_,0,v,⟨⟨r,p,e,h,d⟩,_⟩,c=>by simp at c;subst c;exact⟨g,r,p,rfl,e,h,d⟩
 | _::_,_::_,i+1,v,⟨_,t⟩,c=>by
  obtain⟨g,r,p,a,b⟩:=GL.get (i:=i) (v:=v) t (by simpa using c)
  exact⟨g,r,p,by simpa using a,b⟩
 | [],_::_,_,_,h,_=>h.elim
 | _::_,[],_,_,h,_=>h.elim
theorem TL {L:List (Bool × List Nat)}{rest:St}{H1:Hp}(val:(Bool × List Nat)->Int)(h:aH K H1 a us)(hg:GL K H1 us L)(hn:L.length<sizeLine)
  (step:∀ (i:Nat) g p H (A:V->Hp->Prop),L[i]?=some g->ah H1 H->aH K H p ((aD g.2).map V.int)->(∀ H',ah H H'->A (.int (val g)) H')->te (some (.str (kd g.1))::some (.ref p)::rest) H A)
  (fin:∀ acc H,H1 acc=none->ah H1 H->H acc=some (.lst ((L.map val).map V.int))->Q (.ref acc) H) :
  ∃ b,V.ref a=.ref b/\(∃ xs,aH K H1 b xs)/\rV (m9 K 2 (dq (bA 0) (dq (bA 1) m7))) gW te (none::none::rest) Q (Bc K b) H1:=by
 have E:=hg.length;refine⟨a,rfl,⟨_,h⟩,fun acc c=>?_⟩;refine⟨fun i m τ H=>m=L.length - i/\i<=L.length/\(∃ y z,τ=y::z::rest)/\ah H1 H/\H acc=some (.lst (((L.take i).map val).map V.int)),⟨L.length,by simp,zero_le _,⟨_,_,rfl⟩,ah.new c _,ag⟩,?_⟩
 rintro i m τ H ⟨rfl,hi,⟨y,z,rfl⟩,f,s⟩;have n:=f.aJ h
 by_cases q:i<L.length
 ·have hx:us[i]?=some (us[i]'(by omega)):=cv _
  refine .inr ⟨⟨_,_,n,hx⟩,fun t H'=>(∃ y z,t=y::z::rest)/\ah H1 H'/\H' acc=some (.lst (((L.take (i+1)).map val).map V.int)),fun t H' ⟨u,v,w⟩=>⟨L.length - (i+1),by omega,rfl,q,u,v,w⟩,fun x H' y=>?_⟩
  obtain⟨rfl,hv⟩:=y;have o:=hv _ n;obtain⟨g,r,p,j,rfl,C,B⟩:=(hg.mono f).get o;refine⟨r,_,rfl,C,rfl,_,_,rfl,_,_,rfl,rfl,?_⟩;simp only[gn,xP,jZ,set_cons_zero,set_cons_succ];refine step i g p _ _ j f B fun D d=>?_;have l:=d _ _ s;refine⟨_,l,?_,⟨_,_,rfl⟩,(f.trans d).set c _,?_⟩
  ·rw[di,di,qN];omega
  ·rw[ag]
   have:L.take (i+1)=L.take i++[g]:=by rw[take_succ,j];rfl
   rw[this,hO,hO];rfl
 ·have e:i=L.length:=by omega
  subst e;refine .inl ⟨⟨_,n,by omega⟩,fin acc H c f ?_⟩
  rw[s,SZ]
def pk (cs:List Int)(l:List Nat):List Int:=l.map fun i=>cs.getD i 0
def vn (cs:List Int)(g:Bool × List Nat):Int:=if g.1 then 1 else de (pr (pk cs g.2)) (pk cs g.2) / pr (pk cs g.2)
structure Jt (n:Nat)(g:Bool × List Nat):Prop where
 lt:∀ i∈g.2,i<n
 len:g.2.length<=8
variable {g:Bool × List Nat}
theorem LG {cs:List Int}(h:bW cs)(hg:Jt cs.length g):bW (pk cs g.2):=by
 refine⟨fun c hc=>?_,by unfold pk;rw[di];exact hg.len⟩
 obtain⟨i,hi,e⟩:=j9.mp hc;rw[<-e];exact h.get (hg.lt i hi)
theorem sM {cs:List Int} :(pk cs l).length=l.length:=by unfold pk;rw[di]
theorem N1 {cs:List Int}{k:Nat}(h:k<l.length):(pk cs l).getD k 0=cs.getD (l.getD k 0) 0:=by
 unfold pk;rw[cc,ey,cv h,cc (l:=l),cv h];rfl
def nJ (K:Frag):Sp:=fun a H Q _=>∃ (c p:Addr) (cs:List Int) (l:List Nat),a=[.ref c,.ref p]/\aH K H c (cs.map V.int)/\aH K H p ((aD l).map V.int)/\(∀ i∈l,i<cs.length)/\l.length<=8/\∀ (t:Addr) (H':Hp),ah H H'->H' t=some (.tup ((pk cs l).map V.int))->Q (.ref t) H'
def Af (K:Frag):Sp:=fun a H Q _=>∃ (c p:Addr) (cs:List Int) (g:Bool × List Nat),a=[.ref c,.str (kd g.1),.ref p]/\aH K H c (cs.map V.int)/\aH K H p ((aD g.2).map V.int)/\bW cs/\Jt cs.length g/\∀ (H':Hp),ah H H'->Q (.int (vn cs g)) H'
def xZ (K:Frag):Sp:=fun a H Q _=>∃ (c g:Addr) (cs:List Int) (us:List V) (L:List (Bool × List Nat)),a=[.ref c,.ref g]/\aH K H c (cs.map V.int)/\aH K H g us/\GL K H us L/\bW cs/\(∀ g∈L,Jt cs.length g)/\L.length<=100/\∀ (H':Hp),ah H H'->Q (.int (L.map (vn cs)).sum) H'
def vo (cs:List Int)(l:List Nat):List Int:=l.map fun i=>cs.getD i 0
theorem Ag {cs:List Int} :(vo cs l).length=l.length:=by unfold vo;rw[di]
theorem Ju {cs:List Int}{k:Nat}(h:k<l.length):(vo cs l).getD k 0=cs.getD (l.getD k 0) 0:=by
 unfold vo;rw[cc,ey,cv h,cc (l:=l),cv h];rfl
def QN (cs hs:List Int)(g:Bool × List Nat)(i:Nat):Int:=if g.1 then rg g.2.length (g.2.idxOf i) (hs.getD (g.2.getD ((g.2.idxOf i+1) % g.2.length) 0) 0) else cg (vo cs g.2) (vo hs g.2) (g.2.idxOf i)
def x9 (cs:List Int)(L:List (Bool × List Nat))(hs:List Int)(i:Nat):Int:=match L.find? (fun g=>decide (i∈g.2)) with
 | none=>0
 | some g=>QN cs hs g i
structure QP (cs:List Int)(ws:List Nat)(g:Bool × List Nat):Prop where
 lt:∀ x∈g.2,x<cs.length
 nd:g.2.Nodup
 ring:g.1=true->2<=g.2.length/\(∀ x∈g.2,cs.getD x 0=2)/\∀ k,k<g.2.length->e9 ws (g.2.getD k 0) (g.2.getD ((k+1) % g.2.length) 0)=true
 J7:g.1=false->∀ x∈g.2,∀ y∈g.2,x≠y->e9 ws x y=true
structure BN (cs:List Int)(ws:List Nat)(L:List (Bool × List Nat)):Prop where
 each:∀ g∈L,QP cs ws g
 yW:L.Pairwise fun g h=>∀ x∈g.2,x∉h.2
theorem nK {k:Nat}(h:k<l.length):l.getD k 0∈l:=by
 rw[cc,cv h];exact oD h
theorem SK {k:Nat}(hd:l.Nodup)(h:k<l.length):l.idxOf (l.getD k 0)=k:=by
 rw[cc,cv h];exact hd.idxOf_getElem k h
theorem getIdx {x:Nat}(h:x∈l):l.getD (l.idxOf x) 0=x:=by
 have a:=T3 h;rw[cc,cv a];exact UC a
theorem ya {L:List (Bool × List Nat)}(h:L.find? (fun g=>decide (i∈g.2))=some g):g∈L/\i∈g.2:=⟨List.mem_of_find?_eq_some h,by have:=List.find?_some h;exact uu this⟩
theorem Jv {cs hs:List Int}(hp:∀ c∈cs,1<=c)(hn:HN cs hs cs.length)(h:QP cs ws g)(hi:i∈g.2):0<=QN cs hs g i/\QN cs hs g i<cs.getD i 0:=by
 have d:=T3 hi;unfold QN
 cases hb:g.1 with
 | true=>
  obtain⟨m,hc,_⟩:=h.ring hb;have a:=nK (l:=g.2) (k:=(g.2.idxOf i+1) % g.2.length) (mod_lt _ (by omega))
  have hv:=hn.2 _ (h.lt _ a);rw[hc _ a] at hv;rw[hc i hi];simp only[if_true];unfold rg
  split<;>omega
 | false=>
  simp only[Bool.false_eq_true,if_false];have f:∀ c∈vo cs g.2,1<=c:=fun c hc=>by
   obtain⟨x,hx,e⟩:=j9.mp hc;rw[<-e];exact hp _ (getD_mem (h.lt x hx))
  have j:g.2.idxOf i<(vo cs g.2).length:=by rw[Ag];exact d
  have b:=Qf (hs:=vo hs g.2) f j;rw[Ju d,getIdx hi] at b;exact⟨Qe f j,b⟩
theorem Jw {cs hs:List Int}{L:List (Bool × List Nat)}(hp:∀ c∈cs,1<=c)(hn:HN cs hs cs.length)(h:BN cs ws L)(hi:i<cs.length):0<=x9 cs L hs i/\x9 cs L hs i<cs.getD i 0:=by
 unfold x9
 cases b:L.find? (fun g=>decide (i∈g.2)) with
 | none=>have:=hp _ (getD_mem hi);exact⟨by show (0:Int)<=0;decide,by show (0:Int)<_;omega⟩
 | some g=>
  obtain⟨h1,a⟩:=ya b;exact Jv hp hn (h.each g h1) a
def pF (cs:List Int)(g:Bool × List Nat):Int:=if g.1 then 1 else de (pr (vo cs g.2)) (vo cs g.2) / pr (vo cs g.2)
theorem lY:∀ {vs:List Value} {ns:List Int},IntsAre vs ns->∀ i,i<ns.length->∃ u,vs[i]?=some (.int (ns.getD i 0) u)
 | _,_,.nil,i,h=>absurd h (Uk i)
 | _,_,.cons n t _,0,_=>⟨t,rfl⟩
 | _,_,.cons n t r,i+1,h=>by
  obtain⟨u,e⟩:=lY r i (by simpa using h)
  exact⟨u,by simpa using e⟩
theorem kX {vs:List Value}{ns:List Int}{k:Int}{t:Tok}{Q:Value->Shared->Prop}(hp:s.heap.IsTuple p vs.toArray)(hi:IntsAre vs ns)(hk:k∈ns)(q:∀ tk,Q (.int (ns.idxOf k:Nat) tk) {s with toks:=s.toks+1}) :
  wpAny (model prog w) A (call (.builtin "tuple.index") [.ref p,.int k t]) Q E s:=by
 obtain⟨o,z,B,n,r⟩:=id hp;refine F2 slot_tuple_index hp.typeIs F.entry_tuple_index ?_ (F.args_tuple_index_2 _ _);unfold Builtin.«tuple.index»;refine dy (wpAny_of_eq (a:=(Value.ref p,[Value.int k t])) rfl ?_)
 dsimp only
 have h:=hi.length;have b:ns.idxOf k<ns.length:=C6.mpr hk;have dA:=lY hi;unfold Builtin.Tuple.tupleItemsOf;refine dy (dy (Ua z r (eR (dy (eR (dy (eR (dy ?_))))))));rw[Std.Legacy.Range.forIn_eq_forIn_range'];have c:∀ (m i:Nat) (R:Option Fin × Unit->Shared->Prop),i+m=vs.length->i<=ns.idxOf k->R (some (.done (.ret (.int (ns.idxOf k:Nat) s.toks))),()) {s with toks:=s.toks+1}->
   wpAny (model prog w) A.in1 (forIn (List.range' i m) ((none,()):Option Fin × Unit) fun (i:Nat) __s=>
    match vs.toArray[i]? with
    | some y=>do
     let __do_lift<-eqBool y (Value.int k t)
     if __do_lift=true then do
       let __do_lift<-retInt ((i:Nat):Int)
       pure (ForInStep.done (some __do_lift,()))
      else pure (ForInStep.yield (none,()))
    | x=>pure (ForInStep.yield (none,()))) R E s:=by
  intro m
  induction m with
  | zero=>intro i R h1 v _;omega
  | succ m l=>
   intro i R h1 v j;obtain⟨u,hu⟩:=dA i (by omega)
   rw[List.range'_succ,forIn_cons];have d:vs.toArray[i]?=some (.int (ns.getD i 0) u):=by simpa using hu
   simp only[d];refine dy (dy (wpAny_eqBool_int ?_))
   by_cases e:i=ns.idxOf k
   ·have f:(ns.getD i 0 == k)=true:=by
     rw[e,cc,cv b];show (ns[ns.idxOf k] == k)=true;rw[UC b,Uu]
    rw[f,if_pos rfl];unfold retInt;refine dy (dy (wpAny_mkInt (eR (eR (eR ?_)))));rw[e];exact j
   ·have f:(ns.getD i 0 == k)=false:=by
     rw[cc,cv (by omega)]
     exact ne_of_lt_idxOf (show i<ns.idxOf k by omega) (by omega)
    rw[f,if_neg (by decide)]
    exact eR (l (i+1) R (by omega) (by omega) j)
 have g:(([: min vs.toArray.size vs.toArray.size]:Std.Legacy.Range)).size=vs.length:=by simp[Std.Legacy.Range.size]
 rw[g];exact c vs.length 0 _ (by omega) (zero_le _) (eR ⟨_,rfl,q _⟩)
def Jx (K:Frag):V->List V->Hp->VK->Prop:=fun x a H Q=>∃ (l:Addr) (ns:List Int) (k:Int),x=.ref l/\a=[.int k]/\aH K H l (ns.map V.int)/\k∈ns/\Q (.int (ns.idxOf k:Nat)) H
theorem yb (hK:X.K=K):xa X "tuple.index" (Jx K):=by
 subst hK;intro a s σ H x i v n Q I d e h;obtain⟨l,j,k,rfl,rfl,g,hk,q⟩:=h
 cases d
 obtain⟨u,rfl,c⟩:=e.one;obtain⟨t,rfl⟩:=c;obtain⟨b,r,f,hz⟩:=I.tuple g;exact kX (show s.heap.IsTuple l b.toArray from f) (intsAre_of r) hk (Q:=EP X a σ Q) fun m=>⟨.int _,H,I.tok _,⟨_,rfl⟩,q⟩
def QQ (K:Frag)(H0:Hp)(c g h:Addr)(L:List (Bool × List Nat))(i:Nat)(k:Nat)(σ:St)(H:Hp):Prop:=ah H0 H/\(∀ t,t<k->∀ x,L[t]?=some x->i∉x.2)/\∃ y1 y2 y3:Option V,σ=[some (.ref c),some (.ref g),some (.ref h),some (.int (i:Int)),y1,y2,y3]
theorem yc {L:List (Bool × List Nat)}(h:∀ t,t<L.length->∀ x,L[t]?=some x->i∉x.2):L.find? (fun g=>decide (i∈g.2))=none:=by
 rw[List.find?_eq_none];intro g b;obtain⟨t,a,e⟩:=Da b;rw[o6];exact h t a g (by rw[cv a,e])
theorem yd {L:List (Bool × List Nat)}{k:Nat}(h:∀ t,t<k->∀ x,L[t]?=some x->i∉x.2)(hk:L[k]?=some g)(hi:i∈g.2):L.find? (fun g=>decide (i∈g.2))=some g:=by
 induction L generalizing k with
 | nil=>simp at hk
 | cons a r b=>
  cases k with
  | zero=>
   simp at hk
   subst hk;rw[find?_cons,ek hi]
  | succ k=>
   have c:=h 0 (Nat.succ_pos k) a rfl;rw[find?_cons,eG c];exact b (k:=k) (fun t d x hx=>h (t+1) (by omega) x (by simpa using hx)) (by simpa using hk)
theorem Jy {cs hs:List Int}(hcs:bW cs)(hn:HN cs hs cs.length)(hl:∀ x∈l,x<cs.length):Qr (pk cs l) (pk hs l):=by
 refine⟨by rw[sM,sM],fun j hj=>?_⟩
 rw[sM] at hj;rw[N1 hj];have hx:=hl _ (dM hj);have hv:=hn.2 _ hx;exact(hcs.get hx).bt.of_le hv.1 (by omega)
def qG (K:Frag)(H:Hp)(p:Addr):Prop:=(∃ o,K.lookup p=some o/\o.cls=.type "tuple"/\o.dict=none)∨∃ o u,H p=some (.fe o u)/\o.cls=.type "tuple"/\o.dict=none
theorem qG.mono (s:ah H H'):qG K H p->qG K H' p
 | .inl h=>.inl h
 | .inr ⟨o,u,h,c⟩=>.inr ⟨o,u,s _ _ h,c⟩
theorem qG.cE {acc:Addr}{ys:List V}(ha:H acc=some (.lst ys)):qG K H p->qG K (upd H acc o) p
 | .inl h=>.inl h
 | .inr ⟨ob,u,h,c⟩=>.inr ⟨ob,u,by rw[aq (cF h ha fun z=>nomatch z)];exact h,c⟩
theorem N2 {pins:List (Addr × Obj)}{σ:St}(I:Inv X pins σ H s)(ty:qG X.K H p):s.TypeIs (.ref p) "tuple"/\∀ a,Value.ref p=.ref a->∃ ob,s.heap.get? a=some ob/\ob.dict=none:=by
 rcases ty with ⟨o,hk,hc,b⟩ | ⟨o,u,hk,hc,b⟩
 ·refine⟨⟨o,I.pf p o hk,hc⟩,fun a e=>?_⟩
  cases e
  exact⟨o,I.pf _ o hk,b⟩
 ·obtain⟨c,_⟩:=I.bb p _ hk;refine⟨⟨o,c,hc⟩,fun a e=>?_⟩
  cases e
  exact⟨o,c,b⟩
def N3 (K:Frag)(r:V->List V->Hp->VK->Prop)(to:TE)(t:TA):TE:=fun σ H Q=>to σ H fun x H1=>(∃ p,x=.ref p/\qG K H1 p)/\t σ H1 fun a b=>r x a b Q
variable {r:V->List V->Hp->VK->Prop}
theorem LH {to:TE}{t:TA}{σ:St} :N3 K r to t σ H Q=to σ H fun x H1=>(∃ p,x=.ref p/\qG K H1 p)/\t σ H1 fun xs H2=>r x xs H2 Q:=rfl
variable {o:Expr}{es:List Expr}{to:TE}{t:TA}{name:Str}{apos cC:Pos}{id:String}
theorem N4 (pa:PlainAttrs "tuple")(slot:Slot "tuple" name id)(hty:typeOf (.builtin id)=pure (.type "method_descriptor"))(hm:xa X id r)(ho:PE X o to)(ha:PA X (e::es) t)
  (eA:attributeBase o name X.env (eval o X.env)=eval o X.env:=by rfl)
  (hfew:((backTo cC (starEach (e::es) X.env)).all (fun x=>!x.1)&&(backToKw cC (keywordEach [] X.env)).all (fun x=>x.1.isSome)
   &&decide ((e::es).length+([]:List Keyword).length+(if ([]:List Keyword).isEmpty then 0 else 1)<30))=true:=by rfl)
  (eB:(apos.endLine == cC.line)=true:=by rfl) (hs:starEach (e::es) X.env=(false,eval e X.env)::starEach es X.env:=by rfl) (hplain:(backTo cC (starEach es X.env)).any (·.1)=false:=by rfl) :
  PE X (.Call (.Attribute o name apos) (e::es) [] cC) (N3 X.K r to t):=by
 intro a s σ H Q I h;refine wpAny_Call_method_late eA hfew eB rfl (bP (ho a s σ H _ I h) fun v j ⟨x,H1,c,n,⟨p,l,ty⟩,m⟩=>?_);subst l
 cases n
 obtain⟨h1,i⟩:=N2 c ty;refine⟨"tuple",id,pa,slot,hty,h1,i,?_⟩;have b:=ha cC a j σ H1 _ c m;rw[hs] at b ⊢;refine Calls.callWith_builtin (by show (false||(backTo cC (starEach es X.env)).any (·.1))=false;rw[hplain]<;>rfl) (Calls.evalArgs_plain ?_)
 exact bP b fun y f ⟨d,g,w,u,q⟩=>hm a f σ g (.ref p) d (.ref p) y Q w rfl u q
theorem Tf (pa:PlainAttrs "tuple")(slot:Slot "tuple" name id)(hty:typeOf (.builtin id)=pure (.type "method_descriptor"))(hm:xa X id r)(h:X.K=K)(ho:QE X o to)(ha:QB X (e::es) t)
  (eA:attributeBase o name X.env (eval o X.env)=eval o X.env:=by rfl) (hlen:decide ((e::es).length<30)=true:=by rfl)
  (eB:(apos.endLine == cC.line)=true:=by rfl):QE X (.Call (.Attribute o name apos) (e::es) [] cC) (N3 K r to t):=by
 subst h;exact⟨N4 pa slot hty hm ho.h ha.h.pa eA (by rw[kS ha.h.ns];exact hlen) eB (aW ha.h.he) (cy ha.h.zN)⟩
def QR (K:Frag):List V->Hp->VK->Prop:=fun a H Q=>∃ p ys,a=[.ref p]/\aB K H p ys/\∀ l o,H l=none->o.cls=.type "tuple"->o.dict=none->Q (.ref l) (upd H l (.fe o (.tup ys)))
theorem nL (hK:X.K=K):bQ X (.type "tuple") (QR K):=by
 subst hK;intro a s σ H v y Q I r h;obtain⟨p,g,rfl,hq,q⟩:=h;obtain⟨u,rfl,l⟩:=vals1 r
 cases l
 obtain⟨c,i,n,hz⟩:=I.list hq;have j:=i.length;refine call_tuple_list n.isList (fun d m=>?_) (by simp only[List.size_toArray]<;>omega)
 have f:Inv X a σ H {s with heap:=d}:=I.kept (t':=s.toks) m;have t:Inv X a σ (upd H d.objs.size (.fe {cls:=.type "tuple",data:=.seq c.toArray} (.tup g))) {s with heap:=d.push {cls:=.type "tuple",data:=.seq c.toArray}}:=
  f.laid (t':=s.toks) (fun b o e=>ed _ e) (ef _) (show bz X.prog X.w _ _ _ (.fe _ (.tup g)) from ⟨hU _ rfl,hz,c,i,IsTup.new _ _⟩)
 exact⟨.ref d.objs.size,_,t,rfl,q _ _ (f.bb.fresh (ef _)) rfl rfl⟩
theorem aH.fe {K:Frag}{H:Hp}{a:Addr}{o:Obj}{xs:List V}(h:H a=some (.fe o (.tup xs))):aH K H a xs:=.inl (.inr ⟨o,h⟩)
def GF (K:Frag)(H:Hp):List V->List (Bool × List Nat)->Prop
 | [],[]=>True
 | v::a,g::L=>(∃ r p,v=.ref r/\aH K H r [.str (kd g.1),.ref p]/\aH K H p ((aD g.2).map V.int)/\qG K H p)/\GF K H a L
 | _,_=>False
theorem GF.gl:∀ {vs:List V} {L:List (Bool × List Nat)},GF K H vs L->GL K H vs L
 | [],[],h=>h
 | _::_,_::_,⟨⟨r,p,e,h,a,_⟩,t⟩=>⟨⟨r,p,e,h,a⟩,GF.gl t⟩
 | [],_::_,h=>h.elim
 | _::_,[],h=>h.elim
theorem GF.mono (s:ah H H'):∀ {vs:List V} {L:List (Bool × List Nat)},GF K H vs L->GF K H' vs L
 | [],[],h=>h
 | _::_,_::_,⟨⟨r,p,e,h,a,b⟩,t⟩=>⟨⟨r,p,e,s.aJ h,s.aJ a,b.mono s⟩,GF.mono s t⟩
 | [],_::_,h=>h.elim
 | _::_,[],h=>h.elim
theorem GF.cE {acc:Addr}{ys:List V}{o:HO}(ha:H acc=some (.lst ys)):∀ {vs:List V} {L:List (Bool × List Nat)},GF K H vs L->GF K (upd H acc o) vs L
 | [],[],h=>h
 | _::_,_::_,⟨⟨r,p,e,h,a,b⟩,t⟩=>⟨⟨r,p,e,h.cE ha,a.cE ha,b.cE ha⟩,GF.cE ha t⟩
 | [],_::_,h=>h.elim
 | _::_,[],h=>h.elim
theorem GF.append:∀ {vs ws:List V} {L M:List (Bool × List Nat)},GF K H vs L->GF K H ws M->GF K H (vs++ws) (L++M)
 | [],_,[],_,_,h=>h
 | _::_,_,_::_,_,⟨a,t⟩,h=>⟨a,GF.append t h⟩
 | [],_,_::_,_,h,_=>h.elim
 | _::_,_,[],_,h,_=>h.elim
theorem GF.length {vs:List V}{L:List (Bool × List Nat)}(h:GF K H vs L):vs.length=L.length:=h.gl.length
theorem GF.get:∀ {vs:List V} {L:List (Bool × List Nat)} {i:Nat} {v:V},GF K H vs L->vs[i]?=some v->∃ g r p,L[i]?=some g/\v=.ref r/\aH K H r [.str (kd g.1),.ref p]/\aH K H p ((aD g.2).map V.int)/\qG K H p
 | [],[],i,v,_,e=>by simp at e
 | _::_,g::_,0,v,⟨⟨r,p,e,h,d⟩,_⟩,c=>by simp at c;subst c;exact⟨g,r,p,rfl,e,h,d⟩
 | _::_,_::_,i+1,v,⟨_,t⟩,c=>by
  obtain⟨g,r,p,a,b⟩:=GF.get (i:=i) (v:=v) t (by simpa using c)
  exact⟨g,r,p,by simpa using a,b⟩
 | [],_::_,_,_,h,_=>h.elim
 | _::_,[],_,_,h,_=>h.elim
theorem N5 {L:List (Bool × List Nat)}{i0 j0:Nat}{tb:TS}{D:Ends}{σ:St}(I:Nat->St->Hp->Prop)(h:aH K H a us)(hL:GF K H us L)(h0:I 0 σ H)(hl:∀ i σ H,I i σ H->aH K H a us/\GF K H us L)
  (step:∀ (i:Nat) g p σ H,L[i]?=some g->aH K H p ((aD g.2).map V.int)->qG K H p->I i σ H->tb {D with nx:=I (i+1),ct:=I (i+1),bk:=D.nx} ((σ.set i0 (some (.str (kd g.1)))).set j0 (some (.ref p))) H)
  (fin:∀ σ H,I L.length σ H->D.nx σ H):∃ b,V.ref a=.ref b/\(∃ xs,aH K H b xs)/\rY (m9 K 2 (dq (bA i0) (dq (bA j0) m7))) tb D σ (Bc K b) H:=by
 refine⟨a,rfl,⟨_,h⟩,zw (xs:=us) I h0 (fun i σ H _ p=>(hl i σ H p).1) (fun i x σ H e p=>?_) fun σ H p=>fin σ H (by rw[hL.length] at p;exact p)⟩
 obtain⟨g,r,j,c,rfl,l,f,d⟩:=(hl i σ H p).2.get e;exact⟨r,_,rfl,l,rfl,_,_,rfl,_,_,rfl,rfl,step i g j σ H c f d p⟩
def QU (K:Frag):Sp:=fun a H Q _=>∃ (c g h:Addr) (cs hs:List Int) (ws:List Nat) (us:List V) (L:List (Bool × List Nat)) (i:Nat),a=[.ref c,.ref g,.ref h,.int i]/\aH K H c (cs.map V.int)/\aH K H g us/\GF K H us L/\aH K H h (hs.map V.int)/\bW cs/\HN cs hs cs.length/\BN cs ws L/\i<cs.length/\∀ (H':Hp),ah H H'->Q (.int (x9 cs L hs i)) H'
theorem Ah:QE X (.Dict [] [] pos) xC:=⟨DT⟩
variable {i:Expr}{td ty:TE}
theorem QV (hu:X.A.units+1<cLine)(hi:QE X i ty)(ho:QE X o td)(hm:behindInMarks .In o=false):QE X (.Compare i [.In] [o] pos) (IE ty td):=⟨ML (DP hu hi.h ho.h) hm⟩
variable {value:Expr}{pos':Pos}{tv:TE}
theorem EO (hu:X.A.units+1<cLine)(hv:QE X value tv)(ho:QE X o td)(hi:QE X i ty)(hs:swapsWith value (some (.Subscript o i pos')) pos.line X.env=pure false:=by rfl):QS X (.Assign [.Subscript o i pos'] value pos) (DO td ty tv):=⟨IG hu ho.h hi.h hv.h hs⟩
variable {σ:St}
theorem ES:xC σ H Q=∀ p,H p=none->Q (.ref p) (upd H p (.dK [])):=rfl
theorem LJ:IE ty td σ H Q=ty σ H fun y H1=>td σ H1 fun x H2=>∃ a o,x=.ref a/\jo H2 a y o/\Q (.bl o.isSome) H2:=rfl
variable {D:Ends}
theorem ET:DO td ty tv D σ H=tv σ H fun v H1=>td σ H1 fun x H2=>ty σ H2 fun y H3=>∃ a H4,x=.ref a/\pv H3 a y v H4/\D.nx σ H4:=rfl
theorem u1 (hu:X.A.units+64<cLine):X.A.units+1<cLine:=by omega
def EU (H:Hp)(d:Addr)(ns:List Int):Prop:=∃ kvs:List (Key × V),H d=some (.dK kvs)/\kvs.length<=ns.length/\∀ k:Int,(cM kvs (Sum.inl k)).isSome=decide (k∈ns)
variable {d:Addr}
theorem EU.nil (h:H d=some (.dK [])):EU H d []:=⟨[],h,ef _,fun k=>by rw[DJ];rfl⟩
theorem EU.same {ns:List Int}(s:ah H H'):EU H d ns->EU H' d ns
 | ⟨a,h,l,v⟩=>⟨a,s _ _ h,l,v⟩
theorem N6 {ns:List Int}{k:Int}(h:EU H d ns)(q:Q (.bl (decide (k∈ns))) H):∃ a o,V.ref d=.ref a/\jo H a (.int k) o/\Q (.bl o.isSome) H:=by
 obtain⟨b,e,_,v⟩:=h;exact⟨d,_,rfl,jo.k (k:=Sum.inl k) e,by rw[v];exact q⟩
theorem EV (kvs:List (Key × V))(k:Key)(y:V):(putK kvs k y).length<=kvs.length+1:=by
 unfold putK
 split
 ·rw[di];omega
 ·rw[fz];exact ef _
theorem Jz {ns:List Int}{k:Int}{y:V}{Q:Hp->Prop}(h:EU H d ns)(hl:ns.length<sizeLine)(q:∀ o,EU (upd H d o) d (ns++[k])->Q (upd H d o)):∃ a H4,V.ref d=.ref a/\pv H a (.int k) y H4/\Q H4:=by
 obtain⟨b,e,l,v⟩:=h;refine⟨d,_,rfl,pv.k (k:=Sum.inl k) e (FM l hl),q _ ⟨_,ag,?_,fun j=>?_⟩⟩
 ·rw[fz];exact ka (EV _ _ _) (succ_le_succ l)
 ·rw[DK]
  by_cases c:j=k
  ·subst c;rw[if_pos rfl]
   simp
  ·rw[if_neg (fun z=>c (Sum.inl.inj z)),v]
   congr 1
   simp[c]
def nM (l:List Nat):Bool:=(List.range (l.length - 1)).all fun k=>decide (l.getD k 0<l.getD (k+1) 0)
theorem vp (h:nM l=true):l.Nodup:=by
 have a:∀ k,k+1<l.length->l.getD k 0<l.getD (k+1) 0:=fun k hk=>by
  have:=kf.mp h k (ls.mpr (by omega))
  simpa using this
 have lt:∀ d i,i+d+1<l.length->l.getD i 0<l.getD (i+d+1) 0:=by
  intro d
  induction d with
  | zero=>intro i hi;exact a i hi
  | succ d c=>intro i hi;exact T2 (c i (by omega)) (a (i+d+1) (by omega))
 rw[Os,List.pairwise_iff_getElem];intro i j hi hj f e
 have:=lt (j - i - 1) i (by omega)
 rw[show i+(j - i - 1)+1=j by omega,cc,cc,cv hi,cv hj] at this
 exact GT _ (by have b:l[i]<l[j]:=this;rw[e] at b;exact b)
def nats (ns:List Int):List Nat:=ns.map toNat
def HD (n:Nat)(ns:List Int):Bool:=ns.all fun i=>decide (0<=i)&&decide (i<(n:Int))
theorem JA {n:Nat}{ns:List Int}(h:HD n ns=true):ns=aD (nats ns)/\∀ x∈nats ns,x<n:=by
 have hb:∀ i∈ns,0<=i/\i<(n:Int):=fun i hi=>by
  have:=kf.mp h i hi
  simpa using this
 refine⟨?_,fun x hx=>?_⟩
 ·unfold aD nats;rw[kJ]
  apply ext_getElem
  ·simp
  ·intro i h1 a
   have:=hb _ (oD h1)
   simp
   omega
 ·obtain⟨i,hi,rfl⟩:=j9.mp hx
  have:=hb i hi
  omega
def BO (cs:List Int)(ws:List Nat)(b:Bool)(l:List Nat):Bool:=if b then je ws l&&l.all (fun x=>decide (cs.getD x 0=2)) else nM l&&cN ws l
def C7 (cs:List Int)(ws:List Nat)(g:Bool × List Int):Bool:=decide (1<=g.2.length)&&(HD cs.length g.2&&BO cs ws g.1 (nats g.2))
def C8 (cs:List Int)(ws:List Nat):List Int->Nat->List (Bool × List Int)->Option Nat
 | _,_,[]=>none
 | gone,k,g::r=>if (C7 cs ws g&&!(g.2.any fun i=>decide (i∈gone)))=true then C8 cs ws (gone++g.2) (k+1) r else some k
def oV:Option Nat->V
 | none=>.br
 | some k=>.int (k:Int)
def GI (K:Frag)(H:Hp):List V->List (Bool × List Int)->Prop
 | [],[]=>True
 | v::a,g::L=>(∃ r p,v=.ref r/\aH K H r [.str (kd g.1),.ref p]/\aH K H p (g.2.map V.int))/\GI K H a L
 | _,_=>False
theorem GI.length:∀ {vs:List V} {L:List (Bool × List Int)},GI K H vs L->vs.length=L.length
 | [],[],_=>rfl
 | _::_,_::_,⟨_,t⟩=>by rw[pb,pb,GI.length t]
 | [],_::_,h=>h.elim
 | _::_,[],h=>h.elim
theorem GI.get:∀ {vs:List V} {L:List (Bool × List Int)} {i:Nat} {v:V},GI K H vs L->vs[i]?=some v->∃ g r p,L[i]?=some g/\v=.ref r/\aH K H r [.str (kd g.1),.ref p]/\aH K H p (g.2.map V.int)
 | [],[],i,v,_,e=>by simp at e
 | _::_,g::_,0,v,⟨⟨r,p,e,h,d⟩,_⟩,c=>by simp at c;subst c;exact⟨g,r,p,rfl,e,h,d⟩
 | _::_,_::_,i+1,v,⟨_,t⟩,c=>by
  obtain⟨g,r,p,a,b⟩:=GI.get (i:=i) (v:=v) t (by simpa using c)
  exact⟨g,r,p,by simpa using a,b⟩
 | [],_::_,_,_,h,_=>h.elim
 | _::_,[],_,_,h,_=>h.elim
def Ai (K:Frag):Sp:=fun a H Q _=>∃ (p:Addr) (l:List Nat),a=[.ref p]/\aH K H p ((aD l).map V.int)/\1<=l.length/\l.length<=90/\∀ H',ah H H'->Q (.bl (nM l)) H'
def LK (K:Frag):Sp:=fun a H Q _=>∃ (c w p:Addr) (cs:List Int) (ws:List Nat) (g:Bool × List Int),a=[.ref c,.ref w,.str (kd g.1),.ref p]/\aH K H c (cs.map V.int)/\aH K H w ((aD ws).map V.int)/\aH K H p (g.2.map V.int)/\ws.length=cs.length/\cs.length<=8/\g.2.length<=90/\∀ H',ah H H'->Q (.bl (C7 cs ws g)) H'
def vq (K:Frag):Sp:=fun a H Q _=>∃ (c w g:Addr) (cs:List Int) (ws:List Nat) (us:List V) (L:List (Bool × List Int)),a=[.ref c,.ref w,.ref g]/\aH K H c (cs.map V.int)/\aH K H w ((aD ws).map V.int)/\aH K H g us/\GI K H us L/\ws.length=cs.length/\cs.length<=8/\(∀ g∈L,g.2.length<=30)/\L.length<=30/\∀ H',ah H H'->Q (oV (C8 cs ws [] 0 L)) H'
theorem EW (l:List Nat):nats (aD l)=l:=by
 unfold nats aD;rw[kJ]
 conv=>rhs;rw[<-List.map_id l]
 apply List.map_congr_left
 intro x _;exact zm x
theorem lZ (L:List Nat):(List.range L.length).map (fun k=>L.getD k 0)=L:=by
 apply A5
 intro k
 by_cases hk:k<L.length
 ·rw[ey,q5 hk,cv hk];show some (L.getD k 0)=_;rw[cc,cv hk];rfl
 ·rw[j6 (by rw[di,kc];omega),j6 (by omega)]
theorem Aj {σ:St}{R:It->Hp->Prop}:zu t σ H R=t σ H fun vs H1=>∃ i j:Int,vs=[.int i,.int j]/\(-(2 ^ 62)<=i/\i<2 ^ 62/\-(2 ^ 62)<=j/\j<2 ^ 62)/\R (xg i (j - i).toNat) H1:=rfl
theorem LL {i:Int}{lo n:Nat}{g:TG}{tb:TS}{σ:St}(I:Nat->St->Hp->Prop)(ei:i=(lo:Int))(ej:j=((lo+n:Nat):Int))(hn:lo+n<=1000000)(h0:I 0 σ H)
  (step:∀ k σ H,k<n->I k σ H->g (.int ((lo+k:Nat):Int)) σ H fun σ2 H2=>tb {D with nx:=I (k+1),ct:=I (k+1),bk:=D.nx} σ2 H2)
  (fin:∀ σ H,I n σ H->D.nx σ H):∃ i' j':Int,[V.int i,V.int j]=[.int i',.int j']/\(-(2 ^ 62)<=i'/\i' < 2 ^ 62/\-(2 ^ 62)<=j'/\j' < 2 ^ 62)/\rY g tb D σ (xg i' (j' - i').toNat) H:=by
 subst ei ej;refine⟨_,_,rfl,⟨by omega,by omega,by omega,by omega⟩,?_⟩
 rw[show (((lo+n:Nat):Int) - (lo:Int)).toNat=n by omega]
 refine qf (n:=n) I h0 (fun k σ H hk p=>?_) fun σ H p=>fin σ H p;rw[show (lo:Int)+(k:Nat)=((lo+k:Nat):Int) by omega]
 exact step k σ H hk p
variable {z:Str}
theorem qH {m:Made}{pins:List (Addr × Obj)}{σ:St}(I:Inv X pins σ H s)(hm:(∃ t,m=.val (.str z t))∨m=.str z)(hz:z.length<=sizeLine)(q:Q (.str z) H):m.post (EP X pins σ Q) s:=by
 rcases hm with ⟨t,rfl⟩ | rfl
 ·exact⟨.str z,H,I,⟨_,rfl⟩,q⟩
 ·exact⟨hz,.str z,H,I.tok _,⟨_,rfl⟩,q⟩
def SM:V->Option Int->Option Int->Hp->VK->Prop:=fun x l u H Q=>∃ z,x=.str z/\(StrLaws.sliceText z l u).length<=sizeLine/\Q (.str (StrLaws.sliceText z l u)) H
theorem sN:Np X SM:=by
 intro d s σ H x v y r b hi n Q I f hs i j h;obtain⟨z,rfl,hz,q⟩:=h;obtain⟨t,rfl⟩:=f;refine⟨"str",_,slot_str_getitem.lookup,typeIs_str s z t,?_⟩;have a:∀ {w:Value} {o:Option Int},IsPart w o->∃ p:Option (Int × Tok),w=partValue p/\p.map (·.1)=o:=fun {w o} h=>by
  cases h with
  | none=>exact⟨none,rfl,rfl⟩
  | int=>exact⟨some (_,_),rfl,rfl⟩
 obtain⟨l,rfl,m⟩:=a i;obtain⟨u,rfl,hu⟩:=a j;refine wpAny_getItem_str_slice (st:=none) hs rfl ?_;refine qH I ?_ hz q;have e:sliceMade z t l u none=if ((Builtin.Str.strSliceIndices b hi 1 z.length).length == z.length)=true then Made.val (Value.str z t) else Made.str ⟨((Builtin.Str.strSliceIndices b hi 1 z.length).filterMap (fun x=>z.cps[x]?)).toArray⟩:=by
  unfold sliceMade slicePicked;rw[m,hu]
  rfl
 have g:StrLaws.sliceText z b hi=if ((Builtin.Str.strSliceIndices b hi 1 z.length).length == z.length)=true then z else ⟨((Builtin.Str.strSliceIndices b hi 1 z.length).filterMap (fun x=>z.cps[x]?)).toArray⟩:=by
  unfold StrLaws.sliceText
  rfl
 rw[e,g]
 by_cases c:((Builtin.Str.strSliceIndices b hi 1 z.length).length == z.length)=true
 ·rw[if_pos c,if_pos c];exact .inl ⟨t,rfl⟩
 ·rw[if_neg c,if_neg c];exact .inr rfl
def QX (z:Str):It:=⟨fun i _=>i<z.cps.size,fun i H x a=>a=H/\∃ c,z.cps[i]?=some c/\x=.str ⟨#[c]⟩,fun i _=>z.cps.size<=i⟩
def N7 (te:TE):TI:=fun σ H R=>te σ H fun x H1=>∃ z,x=.str z/\R (QX z) H1
theorem qI {P:Program}(hA:A.handled=none)(I:Addr)(x:Str)(t:Tok):Walks P w A I [I] [I] x.cps.size (SignAt x) fun i h=>h.IsStrIter I (strIterType x) x t i:=by
 unfold strIterType
 split
 ·exact Walks.strAscii hA I x t
 ·exact Walks.strWide hA I x t
variable {Q:Value->Shared->Prop}{t:Tok}
theorem EX {P:Program}{it:Addr}{x:Str}{i:Nat}(st:s.heap.IsStrIter it (strIterType x) x t i)(h:Q (.ref it) s):wpAny (model P w) A (pyIter (.ref it)) Q E s:=by
 unfold strIterType at st
 split at st
 ·exact wpAny_pyIter_striter_ascii st h
 ·exact wpAny_pyIter_striter_wide st h
theorem EY {P:Program}{tg:Expr}(z:Str)(t:Tok)(it:Addr):Turn P w K tg (QX z) [it] it (fun i h=>i<=z.cps.size/\h.IsStrIter it (strIterType z) z t i) where
 mem:=by simp
 obj:=fun i h f b hb=>by
  have e:b=it:=by simpa using hb
  subst e;obtain⟨_,o,e,c,d⟩:=f;exact⟨o,e,fun v z=>by rw[d] at z;cases z⟩
 keep:=fun i h l f k=>by
  obtain⟨a,o,e,c,d⟩:=f;exact⟨a,o,k it (by simp) o e,c,d⟩
 item:=by
  intro X J C B hc i g s σ H E I n f m;subst J C B;obtain⟨q,F,O,y,r,G⟩:=n it (by simp)
  refine(qI (I.ok.hd hc) it z t).item i s _ E m f.2 fun v l j hv D M=>?_;obtain⟨c,u,p,rfl⟩:=hv;have N:Inv X g σ H {s with heap:=l,toks:=j}:=I.turned (t':=j) (fun b o hb e=>M b o (by simpa using hb) e) q F y r G
  have go:∀ {Q:Unit->Shared->Prop},Q () {s with heap:=l,toks:=j}->wpAny (model X.prog X.w) X.A (letOwnedTupleGo tg (.ref it) (.str ⟨#[c]⟩ u)) Q E {s with heap:=l,toks:=j}:=fun hq=>by
   unfold letOwnedTupleGo
   cases tg<;>exact eR hq
  exact⟨_,rfl,go ⟨.str ⟨#[c]⟩,H,N,⟨_,rfl⟩,⟨rfl,c,p,rfl⟩,⟨m,D⟩,fun b hb=>(n b hb).1⟩⟩
 done:=by
  intro X J C B hc i g s σ H E I n f m;subst J C B;obtain⟨q,F,O,y,r,G⟩:=n it (by simp)
  have e:i=z.cps.size:=Nat.le_antisymm f.1 m;subst e;exact(qI (I.ok.hd hc) it z t).done s _ E f.2 fun l j M=>⟨rfl,I.turned (t':=j) (fun b o hb e=>M b o (by simpa using hb) e) q F y r G⟩
 self:=fun A i s Q E f h=>EX f.2 h
variable {tg:Expr}
theorem JB (he:PE X e te):PI X tg e (N7 te):=by
 intro a s σ H R I h;refine bP (he a s σ H _ I h) fun v c ⟨x,H1,d,g,f⟩=>?_;obtain⟨z,rfl,q⟩:=f;obtain⟨t,rfl⟩:=g;refine wpAny_pyIter_strU ?_;refine⟨c.heap.objs.size,[c.heap.objs.size],_,_,H1,rfl,d.kept (t':=c.toks) fun b o e=>ed _ e,EY z t _,⟨zero_le _,_,hU _ rfl,rfl,rfl⟩,fun b hb=>?_,q⟩;have e:b=c.heap.objs.size:=by simpa using hb
 subst e;exact d.uG (ef _) (d.bb.fresh (ef _))
theorem LM (he:QE X e te)(hK:X.K=K):QI X tg e (N7 te):=⟨JB he.h⟩
theorem EZ {σ:St}{R:It->Hp->Prop}:N7 te σ H R=te σ H fun x H1=>∃ z,x=.str z/\R (QX z) H1:=rfl
theorem Fb {H1:Hp}:uY (QX z) H1 z.cps.size fun i=>.str ⟨#[(z.cps[i]?).getD 0]⟩ where
 go:=fun i H _ hi=>hi
 stop:=fun i H _ hi=>hi
 yY:=fun i H x a _ _ y=>by
  obtain⟨rfl,c,e,rfl⟩:=y;exact⟨rfl,by rw[e];rfl⟩
def Fc:V->List V->Hp->VK->Prop:=fun x a H Q=>∃ z y,x=.str z/\a=[.str y]/\y.length≠0/\z.length+2<=sizeLine/\(Txt.split z y).length<=sizeLine/\∀ l,H l=none->Q (.ref l) (upd H l (.lst ((Txt.split z y).map V.str)))
theorem qJ:∀ (k:Nat) (l:List Str),Vals (l.map V.str) (strsFrom k l)
 | _,[]=>.nil
 | k,x::r=>.cons ⟨_,rfl⟩ (qJ _ r)
theorem eO:xa X "str.split" Fc:=by
 intro a s σ H x p v r Q I m n h;obtain⟨z,y,rfl,rfl,hy,hz,l,q⟩:=h;obtain⟨t,rfl⟩:=m;obtain⟨u,rfl,t',rfl⟩:=vals1 n;have d:(y.length == 0)=false:=by simpa using hy
 have one:Txt.split z y=[z]->EP X a σ Q (.ref s.heap.objs.size) {s with heap:=s.heap.push {cls:=.type "list",data:=.seq #[.str z t]}}:=fun e=>by
  rw[e] at q;exact⟨.ref _,_,I.laid (t':=s.toks) (fun b o j=>ed _ j) (ef _) (show bz X.prog X.w _ _ _ (.lst [V.str z]) from ⟨by show 1<=sizeLine;decide,[.str z t],0,.cons (show RelV (.str z) _ from ⟨t,rfl⟩) .nil,hU _ rfl⟩),rfl,q _ (I.bb.fresh (ef _))⟩
 by_cases c:(decide (z.length<y.length)||decide (Builtin.Str.strKind z<Builtin.Str.strKind y))=true
 ·refine T9 Ux (typeIs_str s z t) F.entry_str_split (F.args_str_split_2 _ _) (meets_str_split_cannot_occur z y t t' c) ?_;exact one (by unfold Txt.split;rw[if_pos c])
 ·have f:(decide (z.length<y.length)||decide (Builtin.Str.strKind z<Builtin.Str.strKind y))=false:=by simpa using c
  by_cases g:(Builtin.Str.occurrences z y 0 z.length (z.length+1)).isEmpty=true
  ·refine T9 Ux (typeIs_str s z t) F.entry_str_split (F.args_str_split_2 _ _) (meets_str_split_not_found z y t t' f d g) ?_;exact one (by unfold Txt.split;rw[if_neg c,if_pos g])
  ·have i:(Builtin.Str.occurrences z y 0 z.length (z.length+1)).isEmpty=false:=by simpa using g
   have e:Txt.split z y=Builtin.Str.partsBetween z (Builtin.Str.occurrences z y 0 z.length (z.length+1)) y.length:=by unfold Txt.split;rw[if_neg c,if_neg g]
   refine T9 Ux (typeIs_str s z t) F.entry_str_split (F.args_str_split_2 _ _) (meets_str_split_sep z y t t' f d i (by omega) (by rw[<-e];exact l)) ?_
   rw[<-e];exact⟨.ref _,_,I.laid (fun b o j=>ed _ j) (ef _) (show bz X.prog X.w _ _ _ (.lst _) from ⟨by rw[di];exact l,_,0,qJ _ _,hU _ rfl⟩),rfl,q _ (I.bb.fresh (ef _))⟩
def rJoin (K:Frag):V->List V->Hp->VK->Prop:=fun x a H Q=>∃ y p l,x=.str y/\a=[.ref p]/\aB K H p (l.map V.str)/\(l.map fun z=>z.length+y.length).sum<=sizeLine/\(y.join l).length<=sizeLine/\Q (.str (y.join l)) H
theorem kY:∀ {l:List Str} {us:List Value},Vals (l.map V.str) us->∃ m:List (Str × Tok),us=strValues m/\m.map (·.1)=l
 | [],_,.nil=>⟨[],rfl,rfl⟩
 | x::r,_,.cons ⟨t,rfl⟩ h=>by
  obtain⟨m,rfl,e⟩:=kY h;exact⟨(x,t)::m,rfl,by rw[pS,e]⟩
theorem qK (k:Nat):∀ (l:List Str) (a:Nat),l.foldl (fun x1 x2=>x1+x2.length+k) a=a+(l.map fun z=>z.length+k).sum
 | [],a=>by simp
 | x::r,a=>by rw[List.foldl_cons,qK k r,pS,Uj];omega
theorem cR (hK:X.K=K):xa X "str.join" (rJoin K):=by
 subst hK;intro e s σ H x A v B Q I j n h;obtain⟨y,p,l,rfl,rfl,g,hz,hj,q⟩:=h;obtain⟨t,rfl⟩:=j;obtain⟨u,rfl,f⟩:=vals1 n
 cases f
 obtain⟨i,r,w,o⟩:=I.list g;obtain⟨m,rfl,d⟩:=kY r;refine T9 Ur (typeIs_str s y t) F.entry_str_join (F.args_str_join_2 _ _) (meets_str_join_list y t p m ?_) ⟨w.isList,?_⟩
 ·rw[d,<-Array.foldl_toList,qK,Nat.zero_add,show l.toArray.toList=l from rfl]
  unfold Builtin.Str.tooLong;exact eG (by omega)
 ·refine qH I (z:=y.join l) ?_ hj q;unfold joinMade
  match m,d with
  | [],d=>exact .inr (by
    show Made.str (Builtin.Str.glued y [])=_;rw[StrLaws.glued_eq_join,<-d];rfl)
  | [a],d=>exact .inl ⟨a.2,by rw[<-d];rfl⟩
  | a::b::c,d=>exact .inr (by
    show Made.str (Builtin.Str.glued y ((a::b::c).map (·.1)))=_;rw[StrLaws.glued_eq_join,<-d])
def QY:List V->Hp->VK->Prop:=fun a H Q=>∃ x n,a=[.str x]/\intText? x=some n/\x.length<=640/\Q (.int n) H
theorem j8:bQ X (.type "int") QY:=by
 intro a s σ H b c Q I r h;obtain⟨x,n,rfl,hx,hz,q⟩:=h;obtain⟨u,rfl,t,rfl⟩:=vals1 r;exact PySem.W.KIN.call_text hx hz ⟨.int n,H,I.tok _,⟨_,rfl⟩,q⟩
def pG (val:Nat->Str):Nat->Nat->(Str->Bool)->Nat->(Str->Bool) × Nat
 | 0,_,F,m=>(F,m)
 | k+1,i,F,m=>pG val k (i+1) (fun x=>F x||decide (x=val i)) (if F (val i)=true then m else m+1)
variable {R:Result->Shared->Prop}{I:Addr}{fp wr:List Addr}{G:Array GenState->Array GenState->Prop}{n:Nat}{P:Nat->Value->Prop}{St:Nat->Shared->Prop}
theorem sO (Wk:WalksS prog w A.in1 I fp wr G n P St)(S:Addr)(hS:S∉fp)(val:Nat->Str)(hv:∀ i v,P i v->∃ t,v=.str (val i) t)(hn:n+1<scanBound) :
  ∀ (k i:Nat) (s:Shared) (Fm:Str->Bool) (m:Nat),n - i=k->i<=n->m<=i->St i s->s.heap.SetOf (PySem.strKind prog w) S Fm m->
   (∀ s',Moved (S::wr) G s s'->s'.heap.SetOf (PySem.strKind prog w) S (pG val k i Fm m).1 (pG val k i Fm m).2->R (.ok (.ret .none)) s')->
   codeAny (model prog w) A (.builtin "set.update.loop" ⟨[.ref S,.ref I],[]⟩) R s:=by
 intro k
 induction k with
 | zero=>
  intro i s Fm m hk hi hm q hs h;have e:i=n:=by omega
  subst e;refine codeAny_builtin F.entry_set_update_loop ?_;rw[Around.under_plainId F.plain_set_update_loop _];show wpAny _ A.in1 (pyNext (.ref I) >>= _) _ _ s;refine dy (Wk.done s _ _ q fun s' H=>?_);refine eR ?_;refine h s' (H.mono fun b hb=>fA _ hb) ?_;obtain⟨o,u,B,t,y,r⟩:=hs;exact⟨o,u,B,t,H.heap S o (fun z=>hS (Wk.sub S z)) y,r⟩
 | succ k K=>
  intro i s Fm m hk hi hm q hs h;refine codeAny_builtin F.entry_set_update_loop ?_;rw[Around.under_plainId F.plain_set_update_loop _];show wpAny _ A.in1 (pyNext (.ref I) >>= _) _ _ s;refine dy (Wk.item i s _ _ (by omega) q fun v a M f d=>?_)
  obtain⟨t,rfl⟩:=hv i v M;have D:a.heap.SetOf (PySem.strKind prog w) S Fm m:=by
   obtain⟨o,u,B,t,y,r⟩:=hs;exact⟨o,u,B,t,d.heap S o (fun z=>hS (Wk.sub S z)) y,r⟩
  have c:(PySem.strKind prog w).is (val i) (.str (val i) t)=true:=by
   show Value.isStrOf (val i) (.str (val i) t)=true
   simp[Value.isStrOf]
  show wpAny _ A.in1 (holding [.str (val i) t] (setAdd S (.str (val i) t)) >>= _) _ _ a;refine dy ?_;show wpAny _ A.in1 (setAdd S (.str (val i) t)) _ _ a;unfold setAdd;show wpAny _ A.in1 (pyHash (.str (val i) t) >>= fun x=>setAddHashed S (.str (val i) t) x) _ _ a;refine dy ((PySem.strKind prog w).pyHash c ?_);refine wpAny_setAddHashed_of (knd:=PySem.strKind prog w) (s:={a with toks:=a.toks+1}) c rfl D (by omega) fun J E p=>?_
  refine eR ⟨plainId_quiet F.plain_set_update_loop _,?_⟩;have C:Moved (S::wr) G a {a with heap:=J,toks:=a.toks+1}:=⟨fun b o hb e=>(E.2 b (fun z=>hb (by rw[z];exact fO))).trans e,Wk.grefl _,rfl,rfl,le_succ _⟩
  have j:=Wk.frame (i+1) a J (a.toks+1) f (le_succ _) fun b hb o e=>(E.2 b (fun z=>hS (by rw[<-z];exact hb))).trans e
  refine K (i+1) _ _ _ (by omega) (by omega) (by split<;>omega) j p fun s' l g=>?_
  exact h s' (Moved.trans Wk.gtrans (Moved.trans Wk.gtrans (d.mono fun b hb=>fA _ hb) C) l) g
theorem pH (val:Nat->Str)(hA:A.handled=none)(hp:s.heap.IsList p vs)(vl:∀ (i:Nat) (v:Value),vs[i]?=some v->∃ t,v=.str (val i) t)(hb:vs.size+1<scanBound)
  (h:∀ (h1:Heap) (k:Nat),h1.SetOf (PySem.strKind prog w) s.heap.objs.size (pG val vs.size 0 (fun _=>false) 0).1 (pG val vs.size 0 (fun _=>false) 0).2->(∀ b o,b<s.heap.objs.size->s.heap.get? b=some o->h1.get? b=some o)->Q (.ref s.heap.objs.size) {s with heap:=h1,toks:=k}) :
  wpAny (model prog w) A (call (.type "set") [.ref p]) Q E s:=by
 obtain⟨c0,t0,m0⟩:=C2.mro;have m1:=C2.made;have m2:=C2.sub;have m3:=C2.notType;have m4:=C2.canCreate;have m5:=F.typeCall_set_1 (.ref p);refine wpAny_call (codeAny_of_tree (show wpAny _ _ (callAny (.type "set") _) _ _ _ from eR ⟨Code.quiet_builtin _ (by decide +kernel),codeAny_builtin F.entry_type_call ?_⟩))
 rw[Around.under_plain (weight_type_call_type "set" [.ref p] []) rfl]
 repeat (any_goals (first | assumption | wp_step))
 refine Ui (code_set_new_1 (.ref p) (E:=E) (Q₁:=fun o G=>∃ a:Bool,o=.ref s.heap.objs.size/\G={s with heap:=s.heap.push (gZ a)}) fun a=>⟨a,rfl,rfl⟩) fun r G m=>?_
 cases r with
 | error e=>exact m
 | ok W=>
  cases W with
  | ret obj=>
   obtain⟨a,rfl,rfl⟩:=m;have u:(s.heap.push (gZ a)).get? s.heap.objs.size=some (gZ a):=hU _ rfl;have X:Shared.TypeIs {s with heap:=s.heap.push (gZ a)} (.ref s.heap.objs.size) "set":=⟨_,u,rfl⟩;have k3:=C2.init.lookup;have Z:=C2.init.bind (.ref s.heap.objs.size)
   repeat (any_goals (first | assumption | wp_step))
   refine Ui (codeAny_call_builtin (R:=wants (fun r q=>r=.none/\∃ h1 k,q={s with heap:=h1,toks:=k}/\h1.SetOf (PySem.strKind prog w) s.heap.objs.size (pG val vs.size 0 (fun _=>false) 0).1 (pG val vs.size 0 (fun _=>false) 0).2/\
     (∀ b o,b<s.heap.objs.size->s.heap.get? b=some o->h1.get? b=some o)) E) C2.init.plain F.entry_set_init (check_set_init_1 X ?_)) fun K q g=>?_
   ·obtain⟨T,H,C,P,B⟩:=hp;obtain⟨u1,u2,u3,u4⟩:=T
    simp only at C B
    subst C;subst B;have N:=ed (gZ a) H;have z1:=F.sub_list_set;have z2:=F.sub_list_frozenset;have z3:(Value.type "list" == Value.type "dict")=false:=by decide
    have D:(s.heap.push (gZ a)).IsList p vs:=⟨_,N,rfl,P,rfl⟩;unfold Builtin.«set.__init__» noKeywords Builtin.Frozenset.updateFrom;generalize d:pyIter=PI
    wp_walk
    subst d;refine TX D (dy (wpAny_runValue ?_));have z:p<s.heap.objs.size:=lt_size H;have J:A.in1.in1.in1.handled=none:=by simp[hA]
    have j:(s.heap.push (gZ a)).objs.size=s.heap.objs.size+1:=Fk ..;have S:p≠(s.heap.push (gZ a)).objs.size:=by rw[j];exact nt (Up z)
    have O:s.heap.objs.size∉[(s.heap.push (gZ a)).objs.size,p]:=by
     rw[j];simp only[mem_cons,not_mem_nil,or_false,not_or];exact⟨nt (UD _),Uz z⟩
    refine sO ((Walks.list J _ p S vs).toS) s.heap.objs.size O val vl hb (vs.size - 0) 0 _ (fun _=>false) 0 (by omega) (zero_le _) (ef _) ⟨⟨_,hU _ rfl,rfl,rfl⟩,(D.push _)⟩ ?x ?y
    case x=>
     exact SetOf_congr ((setObjOf_fresh (knd:=PySem.strKind prog w) a).setOf (ed _ u) (by unfold scanBound;omega)) (fun _=>rfl) rfl
    case y=>
     intro M hm c;obtain⟨h1,Y,U,f,l⟩:=M;obtain rfl:Y=s.gens:=hm.gens;obtain rfl:U=s.drawn:=hm.drawn;obtain rfl:l=s.os:=hm.os;show wpAny _ _ _ _ _ _;refine eR (show wpAny _ _ (ret Value.none) _ _ _ from eR ⟨rfl,h1,f,rfl,c,fun b o hb e=>?_⟩)
     refine hm.heap b o ?_ (ed _ (ed _ e));rw[j];simp only[mem_cons,not_mem_nil,or_false,not_or];exact⟨nt hb,nt (Up hb)⟩
   ·cases K with
    | error e=>exact g
    | ok I=>
     cases I with
     | ret r=>
      obtain⟨rfl,h1,k,rfl,c,n⟩:=g
      repeat (any_goals (first | assumption | wp_step))
      exact h _ _ c n
     | _=>exact g.elim
  | _=>exact m.elim
def vt (P:Program)(w:World)(a:Addr)(n:Nat):HO:=.ext fun h=>∃ Fm,h.SetOf (PySem.strKind P w) a Fm n
def sP (l:List Str):Nat:=(pG (fun i=>l.getD i ⟨#[]⟩) l.length 0 (fun _=>false) 0).2
theorem BP (l:List Str):∀ (k i:Nat) (Fm:Str->Bool) (m:Nat),l.length - i=k->i<=l.length->(∀ x,Fm x=true↔x∈l.take i)->m<=i->(m=i↔(l.take i).Nodup)->(pG (fun i=>l.getD i ⟨#[]⟩) k i Fm m).2<=l.length/\((pG (fun i=>l.getD i ⟨#[]⟩) k i Fm m).2=l.length↔l.Nodup):=by
 intro k
 induction k with
 | zero=>
  intro i Fm m hk hi f hm hn;have e:i=l.length:=by omega
  subst e;rw[SZ] at hn;exact⟨hm,hn⟩
 | succ k j=>
  intro i Fm m hk hi f hm hn;have d:i<l.length:=by omega
  have g:l.take (i+1)=l.take i++[l.getD i ⟨#[]⟩]:=by rw[take_succ,cv d,cc,cv d];rfl
  refine j (i+1) _ _ (by omega) (by omega) (fun x=>?_) ?_ ?_
  ·rw[g,kb,ea,Ug,f x,o6]
  ·split<;>omega
  ·rw[g,Uc]
   by_cases c:Fm (l.getD i ⟨#[]⟩)=true
   ·rw[if_pos c]
    constructor
    ·intro e;omega
    ·intro h;exact absurd rfl (h.2.2 _ ((f _).mp c) _ (ea.mpr rfl))
   ·rw[if_neg c]
    constructor
    ·intro e;refine⟨hn.mp (by omega),by simp,fun a n b hb=>?_⟩
     rw[ea.mp hb];intro z;exact c ((f _).mpr (by rw[<-z];exact n))
    ·intro h
     have:=hn.mpr h.1
     omega
theorem JC (l:List Str):sP l<=l.length/\(sP l=l.length↔l.Nodup):=
 BP l l.length 0 (fun _=>false) 0 (by omega) (zero_le _) (fun x=>by simp) (ef _) (by simp)
def JD (K:Frag):List V->Hp->VK->Prop:=fun b H Q=>∃ p l,b=[.ref p]/\aB K H p (l.map V.str)/\l.length<1000/\∀ (P:Program) (w:World) a,H a=none->Q (.ref a) (upd H a (vt P w a (sP l)))
theorem sQ (hc:X.calm=true)(hK:X.K=K):bQ X (.type "set") (JD K):=by
 subst hK;intro j s σ H M O Q I r h;obtain⟨p,l,rfl,hq,N,q⟩:=h;obtain⟨u,rfl,C⟩:=vals1 r
 cases C
 obtain⟨B,E,F,hz⟩:=I.list hq;obtain⟨m,rfl,y⟩:=kY E;have g:m.length=l.length:=by rw[<-y,di]
 have c:(strValues m).toArray.size=l.length:=by rw[j5];unfold strValues;rw[di,g]
 have n:(1001:Nat)<scanBound:=by decide
 refine pH (vs:=(strValues m).toArray) (fun i=>l.getD i ⟨#[]⟩) (I.ok.hd hc) F.isList (fun i v hv=>?_) (by rw[c];omega) fun h1 k f G=>?_
 ·rw[List.getElem?_toArray] at hv;unfold strValues at hv;rw[ey] at hv
  cases e:m[i]? with
  | none=>rw[e] at hv;cases hv
  | some a=>
   rw[e] at hv
   cases hv
   refine⟨a.2,?_⟩;rw[<-y,cc,ey,e];rfl
 ·rw[c] at f;refine⟨.ref _,_,I.laid (fun b o e=>G b o (lt_size e) e) (ef _) (show bz X.prog X.w _ h1 _ (vt X.prog X.w _ (sP l)) from ⟨⟨_,f⟩,?_,fun h1 J ⟨D,hs⟩ k=>?_⟩),rfl,q X.prog X.w _ I.fresh⟩
  ·obtain⟨o,z,A,t,d,_⟩:=f;exact⟨o,d⟩
  ·obtain⟨o,z,A,t,d,r⟩:=hs;exact⟨D,o,z,A,t,k o d,r⟩
def N8:List V->Hp->VK->Prop:=fun a H Q=>∃ p n P w,a=[.ref p]/\H p=some (vt P w p n)/\Q (.int n) H
theorem ye:bQ X (.builtin "len") N8:=by
 intro a s σ H v y Q I r h;obtain⟨p,n,P,w,rfl,c,q⟩:=h;obtain⟨u,rfl,d⟩:=vals1 r
 cases d
 obtain⟨⟨m,o,j,l,t,f,g,e,_,_,hb,i,hn⟩,_,_⟩:=I.bb p _ c;have b:scanBound<2 ^ 62:=by decide
 refine PySem.call_len_set f g e i (by omega) ⟨.int n,H,I.tok _,⟨_,by rw[hn]⟩,q⟩
variable {N W G:List Str}{x:Str}
theorem QZ (S:Sc X N W G)(g:Nat)(h:∃ t,X.mg x=some (.str z t))(hg:G[g]?=some x:=by rfl):QE X (.Name x pos) (tC (.str z)):=by
 obtain⟨t,h⟩:=h;have q:=S.gl _ (gc hg);exact⟨mI q.1 h ⟨t,rfl⟩ q.2.1⟩
theorem N9 (S:Sc X N W G)(g:Nat){z:Int}(h:∃ t,X.mg x=some (.int z t))(hg:G[g]?=some x:=by rfl):QE X (.Name x pos) (tC (.int z)):=by
 obtain⟨t,h⟩:=h;have q:=S.gl _ (gc hg);exact⟨mI q.1 h ⟨t,rfl⟩ q.2.1⟩
structure Q0 (K:Frag)(x qual:Str)(st:Stmt)(f:Addr)(fd:FuncData)(d:List Value):Prop where
 ex:∃ (oc:Value) (od:Option Addr) (T:Addr) (kV doc pm:Value) (an:Option Addr) (cp ct:Value) (osl:Array (Option Value)) (o:Obj) (n:Nat),
  fd=fnOf x qual (bf st) (aO st) (ai st) (.ref T) kV doc pm an cp ct/\K.lookup f=some ⟨oc,od,.func fd,osl⟩/\codeIn K cp qual=true/\K.lookup T=some o/\o.data=.seq d.toArray n
 kp:keepIn K (.ref f)=true
structure Fd (K:Frag)(mg:Str->Option Value)(x:Str)(st:Stmt)(i:Int):Prop where
 ex:∃ f fd t,Q0 K x x st f fd [.int i t]/\mg x=some (.ref f)
variable {i:Int}{st:Stmt}{f T:Addr}
theorem JE {mg:Str->Option Value}{x:Str}{o:Obj}{m:Nat}{oc:Value}{od an:Option Addr}{osl:Array (Option Value)}{kV doc pm cp ct:Value}(X:K.In h)(G:h.Ns mainGlobals mg)
  (a:nsIn K mainGlobals x=some (some (.ref f))) (l:K.lookup f=some ⟨oc,od,.func (fnOf x x (bf st) (aO st) (ai st) (.ref T) kV doc pm an cp ct),osl⟩)
  (c:codeIn K cp x=true) (k:keepIn K (.ref f)=true) (lt:K.lookup T=some o) (ld:o.data=.seq #[.int i t] m):Fd K mg x st i:=
 ⟨f,_,t,⟨⟨oc,od,T,kV,doc,pm,an,cp,ct,osl,o,m,rfl,l,c,lt,ld⟩,k⟩,mg_of X G a⟩
def Sa {α:Type}:List α->List α->List α
 | [a],[b]=>[a,b]
 | _,_=>[]
variable {us:List Value}
theorem Fe {vs:List V}{zs:List V}{ws:List Value}(h:Vals vs us)(k:Vals zs ws):Vals (Sa vs zs) (Sa us ws):=by
 cases h with
 | nil=>exact .nil
 | cons a t=>
  cases t with
  | cons _ _=>exact .nil
  | nil=>
   cases k with
   | nil=>exact .nil
   | cons b s=>
    cases s with
    | nil=>exact .cons a (.cons b .nil)
    | cons _ _=>exact .nil
structure Sb (P:Program)(w:World)(K:Frag)(mg:Str->Option Value)(base:Heap)(k:Nat)(x p1 p2:Str)(i:Int)(sp:Sp):Prop where
 ex:∃ f fd t,eK P w K mg base Bu k f fd [p1,p2] sp/\mg x=some (.ref f)/\keepIn K (.ref f)=true/\Binds K fd [p1,p2] []/\Binds K fd [p1,p2] [.int i t]/\Nl K fd [p1,p2] [p2] Sa Sa
variable {k:Nat}
def LN (x:Str)(st:Stmt)(p1 p2:Str):Prop:=∀ (T:Addr) (kV doc pm:Value) (an:Option Addr) (cp ct u v:Value),
 (∃ k,bindArgs (fnOf x x (bf st) (aO st) (ai st) (.ref T) kV doc pm an cp ct) ⟨[u],[]⟩=(seqItems? (.ref T) >>= k)/\∀ d,k (some #[d])=pure [(p1,u),(p2,d)])/\
 (∃ k,bindArgs (fnOf x x (bf st) (aO st) (ai st) (.ref T) kV doc pm an cp ct) ⟨[u,v],[]⟩=(seqItems? (.ref T) >>= k)/\∀ d,k (some #[d])=pure [(p1,u),(p2,v)])/\
 (∃ k,bindArgs (fnOf x x (bf st) (aO st) (ai st) (.ref T) kV doc pm an cp ct) ⟨[u],[(p2,v)]⟩=(seqItems? (.ref T) >>= k)/\∀ d,k (some #[d])=pure [(p1,u),(p2,v)])
variable {P:Program}{mg:Str->Option Value}{base:Heap}{p1 p2:Str}{sp:Sp}
theorem Fd.gq (D:Fd K mg x st i)(S:DS (ai st) N [p1,p2] G)(hb:LN x st p1 p2)
  (len:∀ vs H Q E,sp vs H Q E->vs.length=2)
  (cU:∀ (X:Cx),Sc X N N G->X.prog=P->X.w=w->X.K=K->X.mg=mg->X.base=base->X.calm=true->X.env.scope=ai st->X.xe=(fun _ _=>False)->bY k X.A->X.A.units+64<cLine->
   ∀ (H:Hp) (vs:List V) (Q:VK) (E:XK),sp vs H Q E->∃ t,uZ X (aO st) t/\t {nx:=fun _ H'=>Q .br H',rt:=Q} (L2.start N vs) H):Sb P w K mg base (k+1) x p1 p2 i sp:=by
 obtain⟨f,Y,t,F,hm⟩:=D.ex;obtain⟨U,R,T,kV,c,y,r,B,ct,M,o,n,rfl,O,z,lt,C⟩:=F.ex;refine⟨f,_,t,uP O z S.fs len fun A p s H vs Q E J m=>?_,hm,F.kp,fun s e j d=>?_,fun s e j d=>?_,fun s e I j d=>?_,fun a b=>Fe a b⟩
 ·obtain⟨t,h,q⟩:=cU _ S.cx rfl rfl rfl rfl rfl rfl rfl rfl J J.units H vs Q E m;exact⟨t,h.h.K3,q⟩
 ·rw[Um] at d ⊢
  match e,d with
  | [u,v],_=>
   obtain⟨k,l,g⟩:=(hb T kV c y r B ct u v).2.1;exact binds_K j rfl lt C l (g _)
 ·obtain⟨u,rfl⟩:∃ u,e=[u]:=by
   rw[fz] at d
   have:e.length=1:=by simpa using d
   exact List.length_eq_one_iff.mp this
  obtain⟨k,l,g⟩:=(hb T kV c y r B ct u u).1;exact binds_K j rfl lt C l (g _)
 ·obtain⟨u,v,rfl,rfl⟩:∃ u v,e=[u]/\I=[v]:=by
   match e,I,d with
   | [u],[v],_=>exact⟨u,v,rfl,rfl⟩
  obtain⟨k,l,g⟩:=(hb T kV c y r B ct u v).2.2;exact binds_K j rfl lt C l (g _)
variable {m:Nat}{p:Pos}{e2:Expr}{t:TA}
theorem SN (S:Sc X N W G)(g:Nat)(F:Sb X.prog X.w X.K X.mg X.base k x p1 p2 i sp)(hr:bY m X.A)(ha:QB X [e,e2] t)(hk:k<=m:=by decide)(hg:G[g]?=some x:=by rfl):QE X (.Call (.Name x p) [e,e2] [] pos) (nk sp [] E0 t):=by
 obtain⟨f,c,b,F,hm,a,hb,_⟩:=F.ex;have q:=S.gl _ (gc hg);exact⟨rH F (hr.mono hk) q.1 hm a hb .nil K7 ha.h.pa q.2.1 (aW ha.h.he) (cy ha.h.zN)⟩
abbrev cz (x:Str):List Nat:=x.cps.toList
variable {b:Str}
theorem ke {a:Str}(h:cz a=cz b):a=b:=by
 obtain⟨a⟩:=a;obtain⟨b⟩:=b
 congr 1
 exact Array.toList_inj.mp h
theorem bT (a b:Str):cz (a++b)=cz a++cz b:=by show (a.cps++b.cps).toList=_;rw[Array.toList_append]
theorem aM (a:Str):a.length=(cz a).length:=by show a.cps.size=_;rw[Us]
theorem Ff (c:Nat):cz ⟨#[c]⟩=[c]:=rfl
theorem bU (s x y:Str)(r:List Str):cz (s.join (x::y::r))=cz x++cz s++cz (s.join (y::r)):=by
 show cz (x++s++s.join (y::r))=_;rw[bT,bT]
theorem Fg {c:Nat}:∀ {p p' q q':List Nat},c∉p->c∉p'->p++c::q=p'++c::q'->p=p'/\q=q'
 | [],[],_,_,_,_,e=>⟨rfl,(Re e).2⟩
 | [],a::p',_,_,_,d,e=>absurd (gz.mpr (.inl (Re e).1)) d
 | a::p,[],_,_,h,_,e=>absurd (gz.mpr (.inl (Re e).1.symm)) h
 | a::p,b::p',_,_,h,d,e=>by
  obtain⟨g,j⟩:=Re e;obtain⟨i,f⟩:=Fg (fun z=>h (fA _ z)) (fun z=>d (fA _ z)) j;exact⟨by rw[g,i],f⟩
theorem vw (c:Nat):∀ {a b:List Str},a≠[]->b≠[]->(∀ x∈a,c∉cz x)->(∀ x∈b,c∉cz x)->cz (Str.join ⟨#[c]⟩ a)=cz (Str.join ⟨#[c]⟩ b)->a=b
 | [],_,h,_,_,_,_=>absurd rfl h
 | _::_,[],_,h,_,_,_=>absurd rfl h
 | [x],[y],_,_,_,_,e=>by rw[ke (show cz x=cz y from e)]
 | [x],y::z::r,_,_,d,_,e=>by
  rw[bU] at e;have e:cz x=cz y++[c]++_:=e;refine absurd ?_ (d x fO);rw[e];simp
 | x::y::r,[z],_,_,_,hb,e=>by
  rw[bU] at e;have e:cz x++[c]++_=cz z:=e;refine absurd ?_ (hb z fO);rw[<-e];simp
 | x::y::r,i::j::l,_,_,d,hb,e=>by
  rw[bU,bU,Ff,sU,sU] at e;obtain⟨f,g⟩:=Fg (d x fO) (hb i fO) e;rw[ke f,vw c (by simp) (by simp) (fun x hx=>d x (fA _ hx)) (fun x hx=>hb x (fA _ hx)) g]
theorem Fh (x:Str)(c:Nat):Txt.split x ⟨#[c]⟩≠[]:=by
 unfold Txt.split
 split
 ·simp
 split
 ·simp
 ·unfold Builtin.Str.partsBetween
  cases Builtin.Str.occurrences x ⟨#[c]⟩ 0 x.length (x.length+1)<;>simp
variable {a:List Str}
theorem fg (c:Nat)(h:a≠[])(hf:∀ x∈a,c∉cz x):Txt.split (Str.join ⟨#[c]⟩ a) ⟨#[c]⟩=a:=
 vw c (Fh _ c) h (fun p b=>StrLaws.split_free _ c p b) hf (by rw[StrLaws.join_split])
def kZ:Str:="abcdefghijklmnopqrstuvwxyz"
def Q1:Str:="0123456789"
def Fi (c:Nat):Bool:=decide (c∈cz kZ)
def JF (c:Nat):Bool:=decide (c∈cz Q1)
def bH (x:Str):Bool:=decide (1<=x.length/\x.length<=12)&&(cz x).all Fi
def df (x:Str):Bool:=decide (1<=x.length/\x.length<=30)&&(decide ((cz x).getD 0 0≠48)&&(cz x).all JF)
def vx (l:List Str):Bool:=decide (l.length=3)&&(decide (l.getD 0 ⟨#[]⟩="hat")&&(bH (l.getD 1 ⟨#[]⟩)&&df (l.getD 2 ⟨#[]⟩)))
def qL (l:List Str):Bool:=decide (3<=l.length)&&(decide (l.getD 0 ⟨#[]⟩="sees")&&(l.drop 1).all bH)
variable {c:Nat}
theorem Ak (h:Fi c=true):c≠32/\c≠10:=by
 have a:=uu h
 have:∀ c∈cz kZ,c≠32/\c≠10:=by decide +kernel
 exact this c a
theorem nN:JF c=true↔48<=c/\c<=57:=by
 unfold JF;rw[decide_eq_true_iff,show cz Q1=List.range' 48 10 by decide +kernel,List.mem_range'_1]
 omega
theorem gw {x:Str}(h:bH x=true):32∉cz x/\10∉cz x:=by
 unfold bH at h;rw[h9,kf] at h;exact⟨fun z=>(Ak (h.2 _ z)).1 rfl,fun z=>(Ak (h.2 _ z)).2 rfl⟩
theorem ik {x:Str}(h:df x=true):32∉cz x/\10∉cz x:=by
 unfold df at h;rw[h9,h9,kf] at h;exact⟨fun z=>by have:=nN.mp (h.2.2 _ z);omega,fun z=>by have:=nN.mp (h.2.2 _ z);omega⟩
theorem vy (n:Nat):cz (Str.ofString (toString ((n:Nat):Int)))=(toDigits 10 n).map Char.toNat:=by
 show (Str.ofString (toString (Int.ofNat n))).cps.toList=_;rw[text_ofNat n]
theorem vz:∀ (n:Nat),0<n->∃ c r,toDigits 10 n=c::r/\c≠'0':=by
 intro n
 induction n using Nat.strongRecOn with
 | _ n a=>
  intro h;rw[Nat.toDigits_eq_if (by decide)]
  by_cases c:n<10
  ·rw[if_pos c];refine⟨_,_,rfl,?_⟩
   have:∀ n,n<10->0<n->Nat.digitChar n≠'0':=by decide
   exact this n c h
  ·rw[if_neg c];obtain⟨d,r,e,b⟩:=a (n / 10) (by omega) (by omega)
   exact⟨d,r++[Nat.digitChar (n % 10)],by rw[e];rfl,b⟩
theorem dO (h0:0<n)(h30:n<10 ^ 30):df (Str.ofString (toString ((n:Nat):Int)))=true/\intText? (Str.ofString (toString ((n:Nat):Int)))=some (n:Int):=by
 have e:=vy n;have a:∀ c∈(toDigits 10 n).map Char.toNat,48<=c/\c<=57:=fun c hc=>by
  obtain⟨d,a,rfl⟩:=j9.mp hc
  have:=Nat.isDigit_of_mem_toDigits (by decide) (by decide) a
  simp only[Char.isDigit,Bool.and_eq_true,decide_eq_true_eq] at this;exact this
 have h:(toDigits 10 n).length<=30:=(Nat.length_toDigits_le_iff (by decide) (by decide)).mpr h30
 have g:0<(toDigits 10 n).length:=Nat.length_toDigits_pos;obtain⟨c,r,f,hc⟩:=vz n h0
 constructor
 ·unfold df;rw[aM,e,di,ek (show 1<=(toDigits 10 n).length/\(toDigits 10 n).length<=30 from ⟨g,h⟩),qE,h9]
  refine⟨ek ?_,kf.mpr fun c hc=>nN.mpr (a c hc)⟩;rw[f];show c.toNat≠48;intro z;exact hc (Char.toNat_inj.mp z)
 ·have b:(Str.ofString (toString ((n:Nat):Int))).cps.toList=(toDigits 10 n).map Char.toNat:=e;rw[intText_digits (by rw[b];exact a) (by rw[b,f];simp) (by rw[aM,e,di];omega),b,PySem.W.KIN.val_back]
theorem bu:(Str.ofString " ")=⟨#[32]⟩:=by decide +kernel
theorem k7 (c:Nat):∀ {l:List Str} {x:Str},x∈l->x.length<=(Str.join ⟨#[c]⟩ l).length
 | [y],x,h=>by rw[ea.mp h];exact ef _
 | y::z::r,x,h=>by
  have e:(Str.join ⟨#[c]⟩ (y::z::r)).length=y.length+1+(Str.join ⟨#[c]⟩ (z::r)).length:=by
   rw[aM,bU,fz,fz,<-aM,<-aM];rfl
  rcases gz.mp h with rfl | h
  ·omega
  ·have:=k7 c h
   omega
theorem yf {x:Str}(h:x∈Txt.split z ⟨#[32]⟩):x.length<=z.length:=by
 have:=k7 32 h
 rw[StrLaws.join_split] at this;exact this
abbrev ba:Str:=⟨#[]⟩
def kh:Sp:=fun a H Q _=>∃ z:Str,a=[.str z]/\z.length<=1000000/\∀ H',ah H H'->Q (.bl (bH z)) H'
def k8:Sp:=fun a H Q _=>∃ z:Str,a=[.str z]/\z.length<=1000000/\∀ H',ah H H'->Q (.bl (df z)) H'
structure Ws (K:Frag)(H:Hp)(p:Addr)(l:List Str):Prop where
 sq:aB K H p (l.map V.str)
 fD:l.length<=900
 short:∀ x∈l,x.length<=1000000
def Al (K:Frag):Sp:=fun a H Q _=>∃ (p:Addr) (l:List Str),a=[.ref p]/\Ws K H p l/\∀ H',ah H H'->Q (.bl (vx l)) H'
def vA (K:Frag):Sp:=fun a H Q _=>∃ (p:Addr) (l:List Str),a=[.ref p]/\Ws K H p l/\∀ H',ah H H'->Q (.bl (qL l)) H'
def yg (K:Frag):Sp:=fun a H Q _=>∃ (z:Str) (i:Int) (l:List Str),a=[.str z,.int i]/\z.length<=1000000/\Txt.split z ⟨#[32]⟩=l/\l.length<=900/\
 ((vx l=true/\∃ c:Int,intText? (l.getD 2 ba)=some c/\∀ (t:Addr) (H':Hp),ah H H'->H' t=some (.tup [.str "hat",.str (l.getD 1 ba),.int c])->Q (.ref t) H')∨
  (vx l=false/\qL l=true/\(l.drop 1).Nodup/\∀ (t u:Addr) (H':Hp),ah H H'->H' t=some (.tup [.str "sees",.str (l.getD 1 ba),.ref u])->H' u=some (.tup ((l.drop 2).map V.str))->Q (.ref t) H'))
theorem mM (h:n<=1000000):n<=sizeLine:=ka h (by decide)
variable {l:List Str}
theorem aX {k:Nat}(h:k<l.length):(l.map V.str)[k]?=some (.str (l.getD k ba)):=by
 rw[ey,cv h,cc,cv h];rfl
theorem getD_memS {k:Nat}(h:k<l.length):l.getD k ba∈l:=by
 rw[cc,cv h];exact oD h
end L2
namespace L2
open PySem PySem.Spec PyProof.Rows
theorem BQ (z:Str)(p:Nat->Bool):((List.range z.cps.size).map fun i=>p ((z.cps[i]?).getD 0)).all id=(cz z).all p:=by
 rw[On];have e:cz z=(List.range z.cps.size).map fun i=>(z.cps[i]?).getD 0:=by
  apply A5
  intro i
  by_cases hi:i<z.cps.size
  ·rw[ey,q5 hi,getElem?_toList,Array.getElem?_eq_getElem hi];show some z.cps[i]=some ((z.cps[i]?).getD 0);rw[Array.getElem?_eq_getElem hi];rfl
  ·rw[j6 (by rw[Us];omega),j6 (by rw[di,kc];omega)]
 rw[e,On]
 rfl
variable {Q:VK}{y:Str}
theorem vB {K:Frag}{z:Str}{H:Hp}(hz:z.length<=1000000)(q:∀ H',ah H H'->Q (.bl ((cz z).all fun c=>decide (c∈cz y))) H') :
  rV (bA 0) gW (rF (fun x y H Q=>∃ i j,x=V.str i/\y=V.str j/\Q (V.bl !(Builtin.Str.occurrences j i 0 j.length 1).isEmpty) H) (rC 0) (tC (.str y))) [none] (fun x H1=>QA K [x] H1 Q) (QX z) H:=by
 refine uB Fb (fun _=>true) (fun i=>.bl (decide ((z.cps[i]?).getD 0∈cz y))) (FM hz (by decide)) ?_ ?_
 ·intro i H1 A B hi f d _;simp only[gn,xP,jZ,NF,xF,Sx];refine⟨_,_,rfl,rfl,?_⟩;rw[StrLaws.found_one];exact d rfl _ (ah.refl _)
 ·intro b H1 hn e a;rw[bK] at a;refine⟨b,(List.range z.cps.size).map fun i=>decide ((z.cps[i]?).getD 0∈cz y),rfl,aB.of (by rw[a,kJ];rfl),?_⟩
  rw[BQ z fun c=>decide (c∈cz y)];exact q H1 e
theorem Fj (k:Str)(ns:List Str):K6 (.str k) (ns.map V.str)=decide (k∈ns):=by
 induction ns with
 | nil=>simp[K6]
 | cons a r b=>
  unfold K6 at b ⊢;rw[pS,any_cons,b]
  by_cases e:a=k
  ·subst e;simp[CY]
  ·have:¬ k=a:=fun z=>e z.symm
   simp[CY,e,this]
theorem Fo {K:Frag}{neg:Bool}{H:Hp}{p:Addr}{k:Str}{a:List Str}(h:aB K H p (a.map V.str)∨aH K H p (a.map V.str))(q:Q (.bl (if neg then !decide (k∈a) else decide (k∈a))) H):O4 K neg (.str k) (.ref p) H Q:=by
 refine⟨p,_,rfl,h,rfl,?_,?_⟩
 ·rw[On];exact kf.mpr fun _ _=>rfl
 ·rw[Fj];exact q
def i9 (x:Str):Prop:=∀ c∈cz x,Fi c=true
theorem i9.append {a b:Str}(ha:i9 a)(hb:i9 b):i9 (a++b):=fun c hc=>by
 rw[bT] at hc
 rcases kb.mp hc with z | z
 ·exact ha c z
 ·exact hb c z
theorem aE (a b:Str):(a++b).length=a.length+b.length:=by rw[aM,bT,fz,<-aM,<-aM]
theorem mO {x:Str}(h:i9 x)(h1:1<=x.length)(h2:x.length<=12):bH x=true:=by
 unfold bH;rw[ek (show 1<=x.length/\x.length<=12 from ⟨h1,h2⟩),qE]
 exact kf.mpr h
theorem dG {x:Str}(h:bH x=true):i9 x/\1<=x.length/\x.length<=12:=by
 unfold bH at h;rw[h9,kf] at h;exact⟨h.2,(uu h.1).1,(uu h.1).2⟩
theorem vC {x:Str}{k:Nat}(h:k<=x.length):cz (StrLaws.sliceText x none (some (k:Int)))=(cz x).take k:=by
 have a:k<=x.cps.toList.length:=by rw[aM] at h;exact h
 rw[StrLaws.sliceText_to ⟨by omega,by omega⟩]
 show List.take ((k:Int) - 0).toNat (List.drop 0 _)=_;rw[drop_zero,show ((k:Int) - 0).toNat=k by omega]
theorem yh {x:Str}{k:Nat}(h:k<=x.length):cz (StrLaws.sliceText x (some (k:Int)) none)=(cz x).drop k:=by
 have a:k<=x.cps.toList.length:=by rw[aM] at h;exact h
 rw[StrLaws.sliceText_from ⟨by omega,by omega⟩]
 show List.take _ (List.drop ((k:Int)).toNat _)=_;rw[zm,yx (by rw[tz];omega)]
theorem yi {x:Str}{k:Nat}(h0:1<=k)(h:k<=x.length):cz (StrLaws.sliceText x (some (-(k:Int))) none)=(cz x).drop ((cz x).length - k):=by
 have e:=aM x;rw[StrLaws.sliceText_from_neg (by omega) (by omega)]
 show List.take _ (List.drop (-(k:Int)+(x.length:Nat)).toNat _)=_;rw[show (-(k:Int)+(x.length:Nat)).toNat=(cz x).length - k by omega,yx (by rw[tz];show (cz x).length - _<=(((cz x).length:Int) - _).toNat;omega)]
theorem vD {x:Str}{k:Nat}(h:i9 x)(e:cz y=(cz x).take k):i9 y:=fun c hc=>h c (List.mem_of_mem_take (by rw[<-e];exact hc))
theorem vE {x:Str}{k:Nat}(h:i9 x)(e:cz y=(cz x).drop k):i9 y:=fun c hc=>h c (mem_of_mem_drop (by rw[<-e];exact hc))
theorem JG {c:Nat}{i:Nat}(h:(cz kZ)[i]?=some c):i9 ⟨#[c]⟩:=fun d a=>by
 have e:d=c:=by simpa using a
 subst e;unfold Fi;exact ek (gc h)
theorem Fp:(cz kZ).length=26:=by decide +kernel
theorem Fq {i:Int}(h0:0<=i)(h1:i<26):∃ c,xw (cz kZ) i=some c/\i9 ⟨#[c]⟩:=by
 obtain⟨n,rfl⟩:=q7 h0;have hn:n<(cz kZ).length:=by rw[Fp];omega
 refine⟨(cz kZ).getD n 0,ib rfl 0 hn,JG (i:=n) ?_⟩;rw[cc,cv hn];rfl
def il:Sp:=fun a H Q _=>∃ (cell:Int) (n:Nat),a=[.int cell,.int n]/\n<=100/\∀ (l:Addr) (ns:List Int) (H':Hp),ah H H'->H l=none->H' l=some (.lst (ns.map V.int))->ns.length=n->(∀ x∈ns,0<=x)->Q (.ref l) H'
def Q2 (H0:Hp)(cell:Int)(n:Nat)(l:Addr)(k:Nat)(σ:St)(H:Hp):Prop:=∃ (num:Int) (ns:List Int) (y:Option V),σ=[some (.int cell),some (.int n),some (.int num),some (.ref l),y]/\ah H0 H/\H l=some (.lst (ns.map V.int))/\ns.length=k/\∀ x∈ns,0<=x
def Am:Sp:=fun a H Q _=>∃ (num:Int) (k:Nat),a=[.int num,.int k]/\k<=12/\∀ z:Str,z.length=k->i9 z->Q (.str z) H
def Q3 (H0:Hp)(n:Nat)(k:Nat)(σ:St)(H:Hp):Prop:=∃ (num:Int) (z:Str) (y:Option V),σ=[some (.int num),some (.int n),some (.str kZ),some (.str z),y]/\H=H0/\z.length=k/\i9 z
structure JH (ns:List Str)(n:Nat):Prop where
 fD:ns.length<=n
 nd:ns.Nodup
 nm:∀ x∈ns,bH x=true
def An:Sp:=fun a H Q _=>∃ (cell:Int) (n:Nat),a=[.int cell,.int n]/\1<=n/\n<=8/\∀ (l:Addr) (ns:List Str) (H':Hp),ah H H'->H l=none->H' l=some (.lst (ns.map V.str))->ns≠[]->JH ns n->Q (.ref l) H'
def l9:List Str:=["hat","sees","put","guess","right","ring","order","book","sure","share","groups","circle","hats"]
theorem Fs:∀ x∈l9,bH x=true:=by decide +kernel
def Q4 (H0:Hp)(cell:Int)(n:Nat)(sm dr:Addr)(base:Str)(a:Nat)(l:Addr)(dn:List Int)(k:Nat)(σ:St)(H:Hp):Prop:=∃ (ns:List Str) (y1 y2 y3 y4:Option V),σ=[some (.int cell),some (.int n),some (.str kZ),some (.ref sm),some (.ref dr),some (.str base),some (.int a),some (.ref l),y1,y2,y3,y4]/\ah H0 H/\H l=some (.lst (ns.map V.str))/\H sm=some (.lst (l9.map V.str))/\H dr=some (.lst (dn.map V.int))/\JH ns k/\(1<=k->ns≠[])
def vF:Sp:=fun a H Q _=>∃ (cell:Int) (k:Int),a=[.int cell,.int k]/\∀ (c:Nat) (H':Hp),0<c->c<10 ^ 30->ah H H'->Q (.int (c:Int)) H'
theorem mP {K:Frag}{H:Hp}:∀ l:List Str,ee K H (l.map V.str) (l.map PyData.str)
 | []=>.nil
 | x::r=>.cons (.str x) (mP r)
theorem jr:∀ l:List Str,PyData.depthAll (l.map PyData.str)<=1
 | []=>by simp[PyData.depthAll]
 | x::r=>by
  have:=jr r
  simp only[map_cons,PyData.depthAll,PyData.depth]
  omega
theorem qM {d:PyData}(h1:PyData.canLay0 d=true)(h2:PyData.depth d<=64):shaped d=true:=by
 show (PyData.canLay0 d&&decide (PyData.depth d<=64))=true;rw[h1,ek h2];rfl
def Oa (H:Hp)(f:Addr)(n:Str)(l:List Str):Prop:=∃ p,H f=some (.tup [.str "sees",.str n,.ref p])/\H p=some (.tup (l.map V.str))
def Q5 (H:Hp)(f:Addr)(n:Str)(c:Int):Prop:=H f=some (.tup [.str "hat",.str n,.int c])
abbrev dP (c:Nat):Str:=Str.ofString (toString ((c:Nat):Int))
structure SO (l:List Str):Prop where
 two:2<=l.length
 fD:l.length<=40
 nd:l.Nodup
 nm:∀ x∈l,bH x=true
theorem nO (c:Nat):∀ l:List Str,(Str.join ⟨#[c]⟩ l).length<=(l.map fun z=>z.length+1).sum
 | []=>by show (0:Nat)<=_;omega
 | [x]=>by show x.length<=(x.length+1)+0;omega
 | x::y::r=>by
  have a:=nO c (y::r);have e:(Str.join ⟨#[c]⟩ (x::y::r)).length=x.length+1+(Str.join ⟨#[c]⟩ (y::r)).length:=by
   rw[aM,bU,fz,fz,<-aM,<-aM];rfl
  rw[e,pS,Uj]
  omega
theorem fK (b:Nat):∀ l:List Str,(∀ x∈l,x.length<=b)->(l.map fun z=>z.length+1).sum<=l.length*(b+1)
 | [],_=>by simp
 | x::r,h=>by
  have a:=fK b r fun x hx=>h x (fA _ hx)
  have:=h x fO
  rw[pS,Uj,pb,Nat.add_mul]
  omega
theorem iX {x:Str}(h:df x=true):x.length<=30:=by
 unfold df at h;rw[h9] at h;exact(uu h.1).2
variable {n:Str}
theorem BR {c:Nat}(hn:bH n=true)(h0:0<c)(h30:c<10 ^ 30):∀ x∈[Str.ofString "hat",n,dP c],32∉cz x/\10∉cz x/\x.length<=30:=by
 intro x hx;have h1:32∉cz (Str.ofString "hat")/\10∉cz (Str.ofString "hat")/\(Str.ofString "hat").length<=30:=by decide +kernel
 have b:=gw hn;have a:=(dO h0 h30).1
 rcases gz.mp hx with rfl | hx
 ·exact h1
 rcases gz.mp hx with rfl | hx
 ·exact⟨b.1,b.2,ka (dG hn).2.2 (by decide)⟩
 rw[ea.mp hx];exact⟨(ik a).1,(ik a).2,iX a⟩
theorem yj {l:List Str}(h:∀ x∈l,bH x=true):∀ x∈(Str.ofString "sees"::l),32∉cz x/\10∉cz x/\x.length<=30:=by
 intro x hx;have h1:32∉cz (Str.ofString "sees")/\10∉cz (Str.ofString "sees")/\(Str.ofString "sees").length<=30:=by decide +kernel
 rcases gz.mp hx with rfl | hx
 ·exact h1
 ·exact⟨(gw (h x hx)).1,(gw (h x hx)).2,ka (dG (h x hx)).2.2 (by decide)⟩
theorem Ob {c:Nat}(hn:bH n=true)(h0:0<c)(h30:c<10 ^ 30):vx [Str.ofString "hat",n,dP c]=true:=by
 show (decide (3=3)&&(decide (Str.ofString "hat"=Str.ofString "hat")&&(bH n&&df (dP c))))=true;rw[hn,(dO h0 h30).1,ek (rfl:Str.ofString "hat"=Str.ofString "hat")];rfl
theorem Ft (l:List Str):vx (Str.ofString "sees"::l)=false:=by
 unfold vx;show (_&&(decide (Str.ofString "sees"=Str.ofString "hat")&&_))=false;rw[show decide (Str.ofString "sees"=Str.ofString "hat")=false by decide +kernel,r3,Uw]
theorem JI {l:List Str}(h2:2<=l.length)(h:∀ x∈l,bH x=true):qL (Str.ofString "sees"::l)=true:=by
 unfold qL;show (decide (3<=l.length+1)&&(decide (Str.ofString "sees"=Str.ofString "sees")&&l.all bH))=true;rw[ek (show 3<=l.length+1 by omega),ek rfl,kf.mpr h];rfl
theorem nP (n c:Str):(((Str.ofString "hat "++n)++Str.ofString " ")++c)=Str.join ⟨#[32]⟩ [Str.ofString "hat",n,c]:=by
 apply ke
 rw[bT,bT,bT,bU,bU,show cz (Str.ofString "hat ")=cz (Str.ofString "hat")++[32] by decide +kernel,show cz (Str.ofString " ")=[32] by decide +kernel]
 show _=cz (Str.ofString "hat")++[32]++(cz n++[32]++cz c);simp only[List.append_assoc]
variable {prog:Program}{w:World}{κ:Type}{a:Addr}[DecidableEq κ]{knd:KeyKind prog w κ}
theorem BS {h:Heap}{kvs:List (κ × Value)}(x:h.DictOf knd a kvs):∃ ep,h.DictAt knd a kvs ep:=by
 obtain⟨o,b,ep,r⟩:=x;exact⟨ep,o,b,r⟩
variable {A:Around}{E:Value->Shared->Prop}{s:Shared}{ep:Nat}
theorem ja {d:Addr}{kvs:List (κ × Value)}{Q₁:Value->Shared->Prop}(lo:(d == sysModules)=false)(hh:A.handled=none)(hd:s.heap.DictAt knd d kvs ep)(hn:kvs.length<=sizeLine)
  (h:∀ (h':Heap) (tk:Nat) (acc:Array Value),(∀ b o,s.heap.get? b=some o->h'.get? b=some o)->ItemsOf (fun i v=>∃ k x,kvs[i]?=some (k,x)/\knd.is k v=true) acc kvs.length->Q₁ (.ref h'.objs.size) {s with heap:=h'.push {cls:=.type "tuple",data:=.seq acc},toks:=tk}) :
  codeAny (model prog w) A (.call (.builtin "tuple.__new__") ⟨[.type "tuple",.ref d],[]⟩) (wants Q₁ E) s:=by
 refine codeAny_of_tree ?_;show wpAny _ A.in1 (do checkBuiltinCall "tuple.__new__" ⟨[.type "tuple",.ref d],[]⟩;again (.builtin "tuple.__new__" ⟨[.type "tuple",.ref d],[]⟩)) _ _ s
 refine dy (wpAny_of_eq (F.newCall_tuple_1 _) (eR ⟨plainId_quiet F.plain_tuple_new _,codeAny_builtin F.entry_tuple_new ?_⟩));rw[Around.under_plainId F.plain_tuple_new _];have g:=sub_tuple_self;have f:=init_tuple_lookup;have j:=madeHere_tuple;have c:=hd.dictOf.typeIs
 wp_walk using wpAny_typeOf c,PySem.W.kdu_collect (A:=A.in1) (PySem.W.kdl_dict (knd:=knd) (ep:=ep) lo) hh hd hn
 intro h' tk acc hm a;show wpAny _ _ (Builtin.Tuple.tupleExact acc.toList.toArray >>= fun v=>ret v) _ _ _;unfold Builtin.Tuple.tupleExact;refine dy (GE ?_ (by show acc.toList.toArray.size<=sizeLine;simp only[Array.toArray_toList];rw[a.1];exact hn))
 refine eR ?_;have e:acc.toList.toArray=acc:=by simp
 rw[e];exact h h' tk acc hm a
theorem mw {d:Addr}{kvs:List (κ × Value)}{Q:Value->Shared->Prop}(lo:(d == sysModules)=false)(hh:A.handled=none)(hd:s.heap.DictAt knd d kvs ep)(hn:kvs.length<=sizeLine)
  (h:∀ (h':Heap) (tk:Nat) (acc:Array Value),(∀ b o,s.heap.get? b=some o->h'.get? b=some o)->ItemsOf (fun i v=>∃ k x,kvs[i]?=some (k,x)/\knd.is k v=true) acc kvs.length->Q (.ref h'.objs.size) {s with heap:=h'.push {cls:=.type "tuple",data:=.seq acc},toks:=tk}) :
  wpAny (model prog w) A (call (.type "tuple") [.ref d]) Q E s:=by
 refine callType_codes (Q₁:=fun obj c=>c.TypeIs obj "tuple"/\Q obj c) F.called_tuple (F.typeCall_tuple_1 _) F.entry_object_init
  (ja lo hh hd hn fun h' tk acc hm a=>⟨⟨_,hU _ rfl,rfl⟩,h h' tk acc hm a⟩) fun obj c e=>?_
 exact⟨e.1,F.args_object_init_2 obj _,object_init_meets F.called_tuple.init.lookup F.called_tuple.made (by decide) prog w A.in1 _ c ⟨e.1,rfl,e.2⟩⟩
variable {X:Cx}{o i:Expr}{pos:Pos}{td ty:TE}
theorem Ao (hu:X.A.units+1<cLine)(ho:QE X o td)(hi:QE X i ty)(hs:ID i:=by intro _ _;rfl):QE X (.Subscript o i pos) (DM td ty):=⟨IF hu ho.h hi.h hs⟩
def LO:List V->Hp->VK->Prop:=fun b H Q=>∃ a kvs,b=[.ref a]/\H a=some (.dK kvs)/\Q (.int kvs.length) H
theorem qO:bQ X (.builtin "len") LO:=by
 intro c s σ H i j Q I r h;obtain⟨a,b,rfl,e,q⟩:=h;obtain⟨u,rfl,d⟩:=vals1 r
 cases d
 exact PD I (.inl e) fun t g f=>⟨.int b.length,H,f,⟨_,rfl⟩,q⟩
variable {u:Value}
theorem Oc {P:Program}{i:Int}(h:(bB P w).is (Sum.inl i) u=true):RelV (.int i) u:=by
 rcases bx (show lR (Sum.inl i) u=true from h) with ⟨j,t,e,rfl⟩ | ⟨x,t,e,rfl⟩
 ·cases e;exact⟨t,rfl⟩
 ·cases e
theorem Od {P:Program}{x:Str}(h:(bB P w).is (Sum.inr x) u=true):RelV (.str x) u:=by
 rcases bx (show lR (Sum.inr x) u=true from h) with ⟨j,t,e,rfl⟩ | ⟨y,t,e,rfl⟩
 ·cases e
 ·cases e;exact⟨t,rfl⟩
theorem qP {α β:Type}{F:α->β->Prop}:∀ {l₁:List α} {l₂:List β},l₁.length=l₂.length->(∀ (i:Nat) a b,l₁[i]?=some a->l₂[i]?=some b->F a b)->Paired F l₁ l₂
 | [],[],_,_=>.nil
 | a::l₁,b::l₂,e,h=>.cons (h 0 a b rfl rfl) (qP (Nat.succ.inj e) fun i a b h1 c=>h (i+1) a b h1 c)
theorem JJ {P:Program}{k:Key}(h:(bB P w).is k u=true):RelV (kV k) u:=by
 cases k with
 | inl i=>exact Oc h
 | inr x=>exact Od h
theorem BU {P:Program}{kvs:List (Key × V)}{vs:List (Key × Value)}{acc:Array Value}(rel:KV kvs vs)(h:ItemsOf (fun i v=>∃ k x,vs[i]?=some (k,x)/\(bB P w).is k v=true) acc vs.length):Vals (kvs.map fun p=>kV p.1) acc.toList:=by
 have hk:=rel.keys;have j:=rel.length;refine qP (by rw[di,j,<-h.1];exact(Us (xs:=acc)).symm) fun i a b h1 g=>?_
 obtain⟨k,x,e,hi⟩:=h.2 i b (by rw[<-getElem?_toList];exact g)
 rw[ey] at h1;obtain⟨p,d,rfl⟩:=Option.map_eq_some_iff.mp h1;have c:(kvs.map (·.1))[i]?=some p.1:=by rw[ey,d];rfl
 have f:(vs.map (·.1))[i]?=some k:=by rw[ey,e];rfl
 rw[hk,f] at c
 cases c
 exact JJ hi
variable {H:Hp}{σ:St}
theorem Fu:DM td ty σ H Q=td σ H fun x H1=>ty σ H1 fun y H2=>∃ a v,x=.ref a/\jo H2 a y (some v)/\Q v H2:=rfl
theorem Q6 {pos:Pos}(hu:X.A.units+1<cLine)(hi:QE X i ty)(ho:QE X o td)(hm:behindInMarks .In o=false):QT X (.Compare i [.In] [o] pos) (tB (IE ty td)):=⟨Dg (DP hu hi.h ho.h) hm⟩
def nQ:Nat->List Str->List (Key × V)
 | _,[]=>[]
 | k,x::r=>(Sum.inr x,.int (k:Int))::nQ (k+1) r
theorem sR:∀ (k:Nat) (ns:List Str),(nQ k ns).length=ns.length
 | _,[]=>rfl
 | k,x::r=>by rw[nQ,pb,sR,pb]
theorem vG:∀ (k:Nat) (ns:List Str),(nQ k ns).map (fun p=>kV p.1)=ns.map V.str
 | _,[]=>rfl
 | k,x::r=>by rw[nQ,pS,vG,pS];rfl
theorem vH:∀ (k:Nat) (ns:List Str) (x:Str),nQ k (ns++[x])=nQ k ns++[(Sum.inr x,.int ((k+ns.length:Nat):Int))]
 | k,[],x=>rfl
 | k,y::r,x=>by
  rw[cons_append,nQ,vH,nQ,pb,show k+1+r.length=k+(r.length+1) by omega]
  rfl
theorem mQ (x:Str):∀ (k:Nat) (ns:List Str),cM (nQ k ns) (Sum.inr x)=if x∈ns then some (.int ((k+ns.idxOf x:Nat):Int)) else none
 | _,[]=>rfl
 | k,y::r=>by
  rw[nQ]
  by_cases e:y=x
  ·subst e;rw[cu rfl,if_pos fO,List.idxOf_cons_self]
   rfl
  ·rw[cw (fun z=>e (Sum.inr.inj z)),mQ x (k+1) r]
   by_cases m:x∈r
   ·have a:List.idxOf x (y::r)=List.idxOf x r+1:=by
     rw[idxOf_cons,show (y == x)=false from AC.mpr e];rfl
    rw[if_pos m,if_pos (fA _ m),a,show k+1+List.idxOf x r=k+(List.idxOf x r+1) by omega]
   ·rw[if_neg m,if_neg (fun z=>(gz.mp z).elim (fun z=>e z.symm) m)]
def DN (H:Hp)(d:Addr)(ns:List Str):Prop:=H d=some (.dK (nQ 0 ns))
variable {ns:List Str}
theorem vI {d:Addr}{x:Str}(h:DN H d ns)(m:x∈ns):jo H d (.str x) (some (.int (ns.idxOf x:Nat))):=by
 have:=jo.k (k:=Sum.inr x) h
 rw[mQ,if_pos m,Nat.zero_add] at this;exact this
theorem Oe {d:Addr}{x:Str}(h:DN H d ns)(m:x∉ns):jo H d (.str x) none:=by
 have:=jo.k (k:=Sum.inr x) h
 rw[mQ,if_neg m] at this;exact this
theorem Fv {Q:Hp->Prop}{d:Addr}{x:Str}{k:Int}(h:DN H d ns)(hk:k=(ns.length:Nat))(m:x∉ns)(hl:ns.length<sizeLine)(q:Q (upd H d (.dK (nQ 0 (ns++[x]))))):∃ a H4,V.ref d=.ref a/\pv H a (.str x) (.int k) H4/\Q H4:=by
 subst hk;refine⟨d,_,rfl,pv.k (k:=Sum.inr x) h (by rw[sR];exact hl),?_⟩
 rw[DL _ (by rw[mQ,if_neg m]),show ((ns.length:Nat):Int)=((0+ns.length:Nat):Int) by rw[Nat.zero_add],<-vH]
 exact q
theorem vJ {d:Addr}(h:DN H d ns)(q:Q (.int (ns.length:Nat)) H):LO [.ref d] H Q:=⟨d,_,rfl,h,by rw[sR];exact q⟩
inductive Ln where
 | dA (n:Str) (c:Nat)
 | sees (n:Str) (l:List Str)
def nR:Ln->List Str
 | .dA n c=>[Str.ofString "hat",n,dP c]
 | .sees n l=>Str.ofString "sees"::n::l
def k9 (x:Ln):Str:=Str.join ⟨#[32]⟩ (nR x)
def gA:Ln->Prop
 | .dA n c=>bH n=true/\0<c/\c<10 ^ 30
 | .sees n l=>SO (n::l)
structure Bk where
 ns:List Str
 cs:List Nat
 ws:List Nat
def ma (ns l:List Str):Nat:=(l.map fun y=>2 ^ ns.idxOf y).sum
def jf (b:Bk):Ln->Option Bk
 | .dA n c=>if n∉b.ns/\b.ns.length<8 then some ⟨b.ns++[n],b.cs++[c],b.ws++[0]⟩ else none
 | .sees n l=>if n∈b.ns/\b.ws.getD (b.ns.idxOf n) 0=0/\∀ y∈l,y∈b.ns then some ⟨b.ns,b.cs,b.ws.set (b.ns.idxOf n) (ma b.ns l)⟩ else none
variable {b b2:Bk}
theorem BV {c:Nat}(h:jf b (.dA n c)=some b2):n∉b.ns/\b.ns.length<8/\b2=⟨b.ns++[n],b.cs++[c],b.ws++[0]⟩:=by
 have h:(if n∉b.ns/\b.ns.length<8 then some (⟨b.ns++[n],b.cs++[c],b.ws++[0]⟩:Bk) else none)=some b2:=h
 by_cases a:n∉b.ns/\b.ns.length<8
 ·rw[if_pos a] at h;exact⟨a.1,a.2,(ot h).symm⟩
 ·rw[if_neg a] at h;cases h
theorem yk {l:List Str}(h:jf b (.sees n l)=some b2):n∈b.ns/\b.ws.getD (b.ns.idxOf n) 0=0/\(∀ y∈l,y∈b.ns)/\b2=⟨b.ns,b.cs,b.ws.set (b.ns.idxOf n) (ma b.ns l)⟩:=by
 have h:(if n∈b.ns/\b.ws.getD (b.ns.idxOf n) 0=0/\∀ y∈l,y∈b.ns then some (⟨b.ns,b.cs,b.ws.set (b.ns.idxOf n) (ma b.ns l)⟩:Bk) else none)=some b2:=h
 by_cases a:n∈b.ns/\b.ws.getD (b.ns.idxOf n) 0=0/\∀ y∈l,y∈b.ns
 ·rw[if_pos a] at h;exact⟨a.1,a.2.1,a.2.2,(ot h).symm⟩
 ·rw[if_neg a] at h;cases h
def cS:Bk->List Ln->Option Bk
 | b,[]=>some b
 | b,x::r=>(jf b x).bind fun a=>cS a r
theorem gB:∀ (b:Bk) (l r:List Ln),cS b (l++r)=(cS b l).bind fun b'=>cS b' r
 | b,[],r=>rfl
 | b,x::l,r=>by
  rw[cons_append,cS,cS]
  cases jf b x with
  | none=>rfl
  | some b'=>exact gB b' l r
theorem yl {b0:Bk}{L:List Ln}{k:Nat}{x:Ln}(h:cS b0 L=some b)(hx:L[k]?=some x):∃ b1 b2,cS b0 (L.take k)=some b1/\jf b1 x=some b2/\cS b0 (L.take (k+1))=some b2:=by
 have e:L=L.take k++x::L.drop (k+1):=by
  have hk:k<L.length:=(mv.mp hx).1
  have:=T7 k L
  rw[List.drop_eq_getElem_cons hk] at this;rw[(mv.mp hx).2] at this;exact this.symm
 rw[e,gB] at h
 cases h1:cS b0 (L.take k) with
 | none=>rw[h1] at h;cases h
 | some b1=>
  rw[h1] at h;have h:(jf b1 x).bind (fun a=>cS a (L.drop (k+1)))=some b:=h
  cases c:jf b1 x with
  | none=>rw[c] at h;cases h
  | some b2=>
   refine⟨b1,b2,rfl,c,?_⟩;rw[List.take_add_one,hx,Option.toList_some,gB,h1];show (jf b1 x).bind (fun a=>cS a [])=_;rw[c];rfl
theorem ym {α:Type}(g:Str->α)(l:List Str):((List.range l.length).map fun i=>g (l.getD i ba))=l.map g:=by
 apply A5
 intro i
 by_cases hi:i<l.length
 ·rw[ey,q5 hi,ey,cv hi];show some (g (l.getD i ba))=some (g l[i]);rw[cc,cv hi];rfl
 ·rw[j6 (by rw[di,kc];omega),j6 (by rw[di];omega)]
theorem qQ {α:Type}(f:α->Nat):∀ l:List α,(l.map fun i=>((f i:Nat):Int)).sum=((l.map f).sum:Nat)
 | []=>rfl
 | x::r=>by rw[pS,Uj,qQ f r,pS,Uj];rfl
theorem Fw (ns l:List Str):((List.range l.length).map fun i=>((2 ^ ns.idxOf (l.getD i ba):Nat):Int)).sum=(ma ns l:Nat):=by
 rw[qQ (fun i=>2 ^ ns.idxOf (l.getD i ba)),ym (fun y=>2 ^ ns.idxOf y)];rfl
theorem Fx (ws:List Nat)(i m:Nat):((aD ws).map V.int).set i (.int (m:Int))=(aD (ws.set i m)).map V.int:=by
 unfold aD;rw[List.map_set,List.map_set]
theorem nS (ws:List Nat)(m:Nat):(aD ws).map V.int++[.int (m:Int)]=(aD (ws++[m])).map V.int:=by
 unfold aD;rw[hO,hO];rfl
theorem ip {x:Ln}(h:gA x):(∀ y∈nR x,32∉cz y/\10∉cz y/\y.length<=30)/\(nR x).length<=41/\3<=(nR x).length:=by
 cases x with
 | dA n c=>exact⟨BR h.1 h.2.1 h.2.2,by show 3<=41;decide,ef 3⟩
 | sees n l=>exact⟨yj h.nm,succ_le_succ h.fD,succ_le_succ h.two⟩
theorem qR {c d:Nat}(hcd:d≠c):∀ {l:List Str},(∀ y∈l,d∉cz y)->d∉cz (Str.join ⟨#[c]⟩ l)
 | [],_=>by show d∉([]:List Nat);simp
 | [x],h=>h x fO
 | x::y::r,h=>by
  rw[bU];intro z
  rcases kb.mp z with z | z
  ·rcases kb.mp z with z | z
   ·exact h x fO z
   ·exact hcd (by simpa using z)
  ·exact qR hcd (fun y hy=>h y (fA _ hy)) z
theorem Fy {x:Ln}(h:gA x):10∉cz (k9 x):=qR (by decide) fun y hy=>((ip h).1 y hy).2.1
theorem iY {x:Ln}(h:gA x):(k9 x).length<=1271:=by
 have h1:=nO 32 (nR x);have b:=fK 30 (nR x) fun y hy=>((ip h).1 y hy).2.2;have a:=(ip h).2.1;have c:(nR x).length*31<=41*31:=FS _ a;unfold k9
 omega
theorem JK (x:Ln):0<(k9 x).length:=by
 cases x with
 | dA n c=>
  have e:(k9 (.dA n c)).length=(cz (Str.join ⟨#[32]⟩ [Str.ofString "hat",n,dP c])).length:=aM _;rw[e,bU,fz,fz];show 0<_+1+_
  omega
 | sees n l=>
  have e:(k9 (.sees n l)).length=(cz (Str.join ⟨#[32]⟩ (Str.ofString "sees"::n::l))).length:=aM _;rw[e,bU,fz,fz];show 0<_+1+_
  omega
def ck (L:List Ln):Str:=Str.join ⟨#[10]⟩ (L.map k9)
def iq (z:Str):List Str:=if z=Str.ofString "" then [] else Txt.split z ⟨#[10]⟩
theorem gD {L:List Ln}(h:∀ x∈L,gA x):iq (ck L)=L.map k9:=by
 cases L with
 | nil=>rfl
 | cons x r=>
  have a:0<(ck (x::r)).length:=by
   have h1:=k7 10 (l:=(x::r).map k9) (x:=k9 x) (by simp)
   have b:=JK x;unfold ck
   omega
  unfold iq;rw[if_neg (fun z=>by rw[z] at a;exact absurd a (by decide +kernel))]
  exact fg 10 (by simp) fun y hy=>by
   obtain⟨u,hu,rfl⟩:=j9.mp hy;exact Fy (h u hu)
theorem iZ {L:List Ln}(h:∀ x∈L,gA x)(hl:L.length<=100):(ck L).length<=127200:=by
 have h1:=nO 10 (L.map k9);have a:=fK 1271 (L.map k9) fun y hy=>by
  obtain⟨u,hu,rfl⟩:=j9.mp hy;exact iY (h u hu)
 rw[di] at a;have b:L.length*1272<=100*1272:=FS _ hl;unfold ck
 omega
def vK:Sp:=fun a H Q _=>∃ (d:Addr) (ns:List Str) (x:Str) (i:Int),a=[.ref d,.str x,.int i]/\DN H d ns/\x∉ns/\ns.length<8/\Q .br (upd H d (.dK (nQ 0 (ns++[x]))))
def nU (K:Frag):Sp:=fun a H Q _=>∃ (d w t:Addr) (ns l:List Str) (ws:List Nat) (x:Str) (i:Int),a=[.ref d,.ref w,.str x,.ref t,.int i]/\DN H d ns/\H w=some (.lst ((aD ws).map V.int))/\ws.length=ns.length/\ns.length<=8/\x∈ns/\ws.getD (ns.idxOf x) 0=0/\H t=some (.tup (l.map V.str))/\(∀ y∈l,y∈ns)/\l.length<=40/\
 ∀ H1,ah H H1->Q .br (upd H1 w (.lst ((aD (ws.set (ns.idxOf x) (ma ns l))).map V.int)))
def yn:Sp:=fun a H Q _=>∃ z:Str,a=[.str z]/\z.length<=1000000/\(iq z).length<=900/\∀ l H',ah H H'->H l=none->H' l=some (.lst ((iq z).map V.str))->Q (.ref l) H'
structure Tg (H:Hp)(d c w:Addr)(b:Bk):Prop where
 hd:DN H d b.ns
 hc:H c=some (.lst ((aD b.cs).map V.int))
 hw:H w=some (.lst ((aD b.ws).map V.int))
 lw:b.ws.length=b.ns.length
 lc:b.cs.length=b.ns.length
 fD:b.ns.length<=8
def Q7 (H0:Hp)(z:Str)(d c w r:Addr)(L:List Ln)(k:Nat)(σ:St)(H:Hp):Prop:=∃ (b:Bk) (y1 y2 y3:Option V),σ=[some (.str z),some (.ref d),some (.ref c),some (.ref w),y1,y2,y3]/\ah H0 H/\H r=some (.lst ((L.map k9).map V.str))/\cS ⟨[],[],[]⟩ (L.take k)=some b/\Tg H d c w b
theorem JL {K:Frag}{x:Ln}{i:Int}{E:XK}(h:gA x)(q1:∀ n c f H',x=.dA n c->ah H H'->Q5 H' f n (c:Int)->Q (.ref f) H')(q2:∀ n l f H',x=.sees n l->ah H H'->Oa H' f n l->Q (.ref f) H'):yg K [.str (k9 x),.int i] H Q E:=by
 have d:=iY h;have a:=ip h;have hs:Txt.split (k9 x) ⟨#[32]⟩=nR x:=fg 32 (by intro z;rw[z] at a;exact absurd a.2.2 (by decide)) fun y hy=>(a.1 y hy).1
 refine⟨_,i,_,rfl,by omega,hs,by omega,?_⟩
 cases x with
 | dA n c=>exact .inl ⟨Ob h.1 h.2.1 h.2.2,c,(dO h.2.1 h.2.2).2,fun f H' s b=>q1 n c f H' rfl s b⟩
 | sees n l=>exact .inr ⟨Ft _,JI h.two h.nm,h.nd,fun f u H' s b hu=>q2 n l f H' rfl s ⟨u,b,hu⟩⟩
theorem LP {it t:Addr}{items:Array Value}(hne:t≠it):∀ (n i:Nat) (s:Shared) (Q:List Value->Shared->Prop),s.heap.IsListIter it t i->s.heap.IsList t items->i+n<=items.size->
  (∀ h',h'.IsListIter it t (i+n)->SameBut it s.heap h'->Q ((items.toList.drop i).take n) {s with heap:=h'})->wpAny (model prog w) A (draw (.ref it) n) Q E s
 | 0,i,s,Q,a,_,_,g=>by
  show wpAny _ _ (pure []) Q E s;exact eR (by simpa using g s.heap a (Heap.SameBut.refl ..))
 | n+1,i,s,Q,a,h,l,g=>by
  have b:i<items.size:=by omega
  show wpAny _ _ (pyNext (.ref it) >>= _) Q E s;refine dy (wpAny_pyNext_list_item a h (x:=items[i]) (by simp[b]) fun o e c=>?_)
  refine dy (T5 (LP hne n (i+1) _ _ e (h.extBut c.extBut hne) (by omega) fun m d f=>eR ?_))
  have j:items.toList.drop i=items[i]::items.toList.drop (i+1):=by simp[List.drop_eq_getElem_cons,b]
  have:=g m (by rw[show i+(n+1)=i+1+n by omega];exact d) (c.trans f)
  rw[j,List.take_succ_cons] at this;exact this
variable {t:Addr}
theorem sS {items:Array Value}{Q:List Value->Shared->Prop}(hh:A.handled=none)(ht:s.heap.IsList t items)
  (hQ:∀ h',ExtBut s.heap.objs.size s.heap h'->Q items.toList {s with heap:=h'}):wpAny (model prog w) A (unpackItems (.ref t) items.size none) Q E s:=by
 have a:t≠s.heap.objs.size:=by obtain⟨o,l,_⟩:=ht;exact nt (lt_size l)
 unfold unpackItems;refine dy ?_
 ·unfold notIterableAtAll;refine dy (wpAny_specialOf ht.typeIs F.slot_list_iter.lookup ?_);refine eR ?_;simp only[Bool.false_eq_true,if_false];refine dy (T5 (TX ht ?_));refine dy (T5 (LP a items.size 0 _ _ ⟨_,hU _ rfl,rfl,rfl⟩ (ht.push _) (by omega) fun i d c=>?_))
  have h:List.take items.size (List.drop 0 items.toList)=items.toList:=by
   rw[drop_zero];exact yx (by simp)
  rw[h];rw[if_neg (by simp)]
  have f:i.IsList t items:=(ht.push _).extBut c.extBut a;refine dy (T5 (wpAny_pyNext_list_end hh d f (by simp) fun j g=>?_))
  simp only[isSome_none,Bool.false_eq_true,if_false];refine eR (hQ j fun b o hb e=>g b o hb (c.extBut b o hb (ed _ e)))
variable {elts:List Expr}
theorem JM {env:Env}{x1}{pos:Pos}{items:Array Value}{Q:Unit->Shared->Prop}(hh:A.handled=none)(ht:s.heap.IsList t items)
  (hn:(assignEach elts env).length=items.size) (hstar:(assignEach elts env).findIdx? (·.1)=none)
  (h:∀ h',ExtBut s.heap.objs.size s.heap h'->wpAny (model prog w) A (assignInOrder ((assignEach elts env).map (·.2)) items.toList) Q E {s with heap:=h'}) :
  wpAny (model prog w) A (assign (.Tuple elts x1 pos) env (.ref t)) Q E s:=by
 rw[assign_Tuple];refine dy (wpAny_standAt ?_);unfold unpack;rw[hn,hstar];exact dy (T5 (sS hh ht h))
def Of (K:Frag)(n:Nat)(t:zp):TG:=fun v σ H Q=>∃ a xs,v=.ref a/\aB K H a xs/\xs.length=n/\t xs σ H Q
variable {t:zp}{n:Nat}
theorem Og {es:List Expr}{k:Nat}(hc:X.calm=true)(h:O3 X es t)
  (hn:(assignEach es X.env).length=n:=by rfl) (hst:(assignEach es X.env).findIdx? (·.1)=none:=by rfl):PG X (.Tuple es k pos) (Of X.K n t):=by
 intro c s σ H v u Q I r d;obtain⟨a,q,g,hq,j,d⟩:=d;subst g
 cases r
 obtain⟨i,f,m,hz⟩:=I.list hq;refine JM (I.ok.hd hc) m.isList (by simp[hn,<-j,f.length]) hst fun p hx=>?_
 have l:Inv X c σ H {s with heap:=p}:=I.kept (t':=s.toks) fun b o e=>hx b o (nt (lt_size e)) e;exact h c _ σ H q _ Q l (by simpa using f) d
variable {K:Frag}
theorem Q8 {es:List Expr}{kk:Nat}{tgs:zp}(hc:X.calm=true)(hK:X.K=K)(h:Qc X es tgs)(hn:(assignEach es X.env).length=n:=by rfl)(hst:(assignEach es X.env).findIdx? (·.1)=none:=by rfl):QG X (.Tuple es kk pos) (Of K n tgs):=⟨by subst hK;exact Og hc h.h hn hst⟩
theorem Fz {v:V}{σ:St}{Q:St->Hp->Prop}:Of K n t v σ H Q=∃ a xs,v=.ref a/\aB K H a xs/\xs.length=n/\t xs σ H Q:=rfl
def dw {α:Type}(l:List α)(k:Nat)(x:α):List α:=l.take k++x::l.drop k
def JN:V->List V->Hp->VK->Prop:=fun x a H Q=>∃ (l:Addr) (xs:List V) (k:Nat) (y:V),x=.ref l/\a=[.int (k:Int),y]/\H l=some (.lst xs)/\xs.length<1000000/\k<=xs.length/\Q .br (upd H l (.lst (dw xs k y)))
theorem JO {x y:V}{us:List Value}(r:Vals [x,y] us):∃ u v,us=[u,v]/\RelV x u/\RelV y v:=by
 cases r with
 | cons a r=>cases r with
  | cons b r=>cases r;exact⟨_,_,rfl,a,b⟩
theorem FA {k:Nat}(h:k<=1000000):¬(!Builtin.List.listFitsIndex (k:Int))=true:=by
 have:Builtin.List.listFitsIndex (k:Int)=true:=by
  unfold Builtin.List.listFitsIndex;rw[h9];have a:(2:Int) ^ 63=9223372036854775808:=by decide
  exact⟨ek (by rw[a];omega),ek (by rw[a];omega)⟩
 rw[this];decide
theorem Ap {α β:Type}{F:α->β->Prop}{a:α}{b:β}:∀ {l₁:List α} {l₂:List β} (k:Nat),Paired F l₁ l₂->F a b->Paired F (dw l₁ k a) (dw l₂ k b)
 | _,_,0,r,h=>.cons h r
 | [],_,k+1,.nil,h=>.cons h .nil
 | _::_,_::_,k+1,.cons c r,h=>.cons c (Ap k r h)
theorem BW:Tc X "list.insert" JN:=by
 intro g s σ H x B v D Q I o p h;obtain⟨l,A,k,y,rfl,rfl,i,hz,hk,q⟩:=h
 cases o
 obtain⟨u,w,rfl,⟨t,rfl⟩,f⟩:=JO p;obtain⟨z,a,n,r,C,e⟩:=I.Py i;have j:=r.length;have m:(1000002:Nat)<=sizeLine:=by decide
 have d:a.toArray.size<=sizeLine:=by rw[j5];omega
 have b:=FA (k:=k) (by omega)
 generalize c:(k:Int)=ki at b ⊢;have M:=PySem.AutoSeq1.list_insert_list_int_val_1 l a.toArray n ki t w b d;refine T9 F.slot_list_insert ⟨_,e,rfl⟩ F.entry_list_insert (F.args_list_insert_3 _ _ _) M ⟨e,?_⟩;refine⟨.br,_,I.Pw (its':=dw a k w) i e ?_ (Ap k r f) ?_,rfl,q⟩
 ·subst c;show (a.toArray.extract 0 (if (k:Int)<0 then ((k:Int)+(a.toArray.size:Int)).toNat else min (k:Int).toNat a.toArray.size)).push w++a.toArray.extract (if (k:Int)<0 then ((k:Int)+(a.toArray.size:Int)).toNat else min (k:Int).toNat a.toArray.size)=_
  rw[if_neg (by omega),zm,j5,Nat.min_eq_left (by omega)]
  apply Array.toList_inj.mp
  simp[dw]
  exact yx (by rw[tz];omega)
 ·unfold dw;rw[fz,pb,qN,tz]
  omega
def isStr (k:Str):Value->Bool
 | .str x _=>x == k
 | _=>false
theorem nV (k:Str):∀ {xs:List Str} {vs:List Value},Vals (xs.map V.str) vs->∀ (j:Nat) (h1:j<vs.length) (h2:j<xs.length),isStr k vs[j]=(xs[j] == k)
 | x::xs,_,.cons ⟨t,rfl⟩ r,0,_,_=>rfl
 | x::xs,_,.cons ⟨t,rfl⟩ r,j+1,h1,h2=>nV k r j (Nat.lt_of_succ_lt_succ h1) (Nat.lt_of_succ_lt_succ h2)
theorem vL (k:Str)(t:Tok){A:Around}{s:Shared}:∀ {xs:List Str} {vs:List Value},Vals (xs.map V.str) vs->∀ y,y∈vs->EqAt A s y (.str k t) (isStr k y)
 | [],_,.nil,_,hy=>nomatch hy
 | x::xs,_,.cons ⟨u,rfl⟩ r,y,hy=>by
  rcases gz.mp hy with rfl | hy
  ·exact PySem.SeqAt.EqAt.str_str x u k t
  ·exact vL k t r y hy
variable {j:Nat}
theorem Aq {k:Str}(h:j<ns.idxOf k)(h2:j<ns.length):(ns[j] == k)=false:=by
 have:=List.not_of_lt_findIdx (p:=(· == k)) h
 simpa using this
def JP (K:Frag):V->List V->Hp->VK->Prop:=fun x a H Q=>∃ (l:Addr) (ns:List Str) (k:Str),x=.ref l/\a=[.str k]/\aB K H l (ns.map V.str)/\k∈ns/\Q (.int (ns.idxOf k:Nat)) H
theorem BX (hK:X.K=K):xa X "list.index" (JP K):=by
 subst hK;intro i s σ H x O v P Q I C D h;obtain⟨l,e,k,rfl,rfl,N,hk,q⟩:=h
 cases C
 obtain⟨u,rfl,B⟩:=D.one;obtain⟨t,rfl⟩:=B;obtain⟨f,r,M,hz⟩:=I.list N;obtain⟨⟨J,G,w,E⟩,A,p,n,o⟩:=id M.isList
 simp only at p o
 subst p o;have c:=r.length;rw[di] at c;have d:e.idxOf k<e.length:=C6.mpr hk;rw[di] at hz;have m:sizeLine<2 ^ 62:=by decide
 refine T9 slot_list_index ⟨_,A,rfl⟩ PySem.F.entry_list_index (PySem.F.args_list_index_2 _ _) (list_indexAt l f.toArray n G E (.str k t) (isStr k) (e.idxOf k) (by rw[j5,<-c];exact d) (by omega) ?a ?b) ⟨A,fun y hy=>vL k t r y (by simpa using hy),?_⟩
 case a=>
  have z:=nV k r (e.idxOf k) (by rw[<-c];exact d) d
  rw[UC d,Uu] at z;exact z
 case b=>
  intro j hj g;have z:=nV k r j (by simpa using hj) (by omega)
  rw[Aq g] at z;exact z
 exact⟨.int _,H,I.tok _,⟨_,rfl⟩,q⟩
structure g4 (ns:List Str)(cs ws:List Nat):Prop where
 nm:JH ns 8
 lc:cs.length=ns.length
 lw:ws.length=ns.length
 RZ:∀ c∈cs,0<c/\c<10 ^ 30
 R1:∀ j,j<ns.length->ws.getD j 0<2 ^ ns.length
 MB:∀ j,j<ns.length->ws.getD j 0 / 2 ^ j % 2=0
def LQ (H:Hp)(b:Addr)(ns:List Str)(cs ws:List Nat):Prop:=∃ a1 a2 a3,H b=some (.lst [.ref a1,.ref a2,.ref a3])/\H a1=some (.lst (ns.map V.str))/\H a2=some (.lst ((aD cs).map V.int))/\H a3=some (.lst ((aD ws).map V.int))
def js (n w:Nat):List Nat:=(List.range n).filter fun j=>decide (w / 2 ^ j % 2=1)
theorem mR (w:Nat):∀ n,((js n w).map fun j=>2 ^ j).sum=w % 2 ^ n
 | 0=>by show 0=_;rw[Nat.pow_zero,Nat.mod_one]
 | n+1=>by
  have a:=mR w n;unfold js at a ⊢;rw[I3,UA,hO,List.sum_append,a,Nat.mod_pow_succ]
  congr 1
  rcases Ub (w / 2 ^ n) with e | e
  ·rw[List.filter_cons_of_neg (by simp[e]),e];simp
  ·rw[List.filter_cons_of_pos (by simp[e]),e];simp
variable {w:Nat}
theorem kj:j∈js n w↔j<n/\w / 2 ^ j % 2=1:=by
 unfold js;rw[u5,ls,decide_eq_true_iff]
theorem Oh (n w:Nat):(js n w).Nodup:=UG.sublist filter_sublist
inductive Mx where
 | dA (j:Nat)
 | sees (i:Nat) (l:List Nat)
def Mx.hi:Mx->Option Nat
 | .dA j=>some j
 | .sees _ _=>none
def Mx.si:Mx->Option Nat
 | .dA _=>none
 | .sees i _=>some i
def gE (ns:List Str)(cs:List Nat):Mx->Ln
 | .dA j=>.dA (ns.getD j ba) (cs.getD j 0)
 | .sees i l=>.sees (ns.getD i ba) (l.map fun j=>ns.getD j ba)
def sT:List Nat->List Mx->Prop
 | _,[]=>True
 | S,.dA j::r=>sT (S++[j]) r
 | S,.sees i l::r=>(i∈S/\∀ j∈l,j∈S)/\sT S r
theorem fh:∀ (S:List Nat) (A B:List Mx),sT S (A++B)↔sT S A/\sT (S++A.filterMap Mx.hi) B
 | S,[],B=>by simp[sT]
 | S,.dA j::A,B=>by
  show sT (S++[j]) (A++B)↔sT (S++[j]) A/\_;rw[fh,zf];show _↔_/\sT (S++(j::A.filterMap Mx.hi)) B;rw[sU];rfl
 | S,.sees i l::A,B=>by
  show (_/\sT S (A++B))↔(_/\sT S A)/\sT (S++(Mx.sees i l::A).filterMap Mx.hi) B;rw[fh,zf];exact and_assoc.symm
variable {i q:Nat}{M:List Mx}{l:List Nat}
theorem JQ (h:sT [] M)(hi:i∈(M.take q).filterMap Mx.hi)(hl:∀ j∈l,j∈(M.take q).filterMap Mx.hi):sT [] (dw M q (.sees i l)):=by
 have a:=(fh [] (M.take q) (M.drop q)).mp (by rw[T7];exact h)
 unfold dw;refine(fh _ _ _).mpr ⟨a.1,⟨?_,a.2⟩⟩;rw[nil_append];exact⟨hi,hl⟩
theorem Oi:(dw M q (.sees i l)).filterMap Mx.hi=M.filterMap Mx.hi:=by
 unfold dw;rw[GM,zf];show _++(M.drop q).filterMap Mx.hi=_;rw[<-GM,T7]
theorem FC:((dw M q (.sees i l)).filterMap Mx.si).Perm (i::M.filterMap Mx.si):=by
 unfold dw;rw[GM,zf];show ((M.take q).filterMap Mx.si++i::(M.drop q).filterMap Mx.si).Perm _;refine List.perm_middle.trans (List.Perm.cons _ ?_);rw[<-GM,T7]
theorem JR {α:Type}{M:List α}{x y:α}:y∈dw M q x↔y=x∨y∈M:=by
 unfold dw;rw[kb,gz]
 constructor
 ·rintro(h | h | h)
  ·exact .inr (List.mem_of_mem_take h)
  ·exact .inl h
  ·exact .inr (mem_of_mem_drop h)
 ·rintro(h | h)
  ·exact .inr (.inl h)
  ·rw[<-T7 q M] at h
   rcases kb.mp h with z | z
   ·exact .inl z
   ·exact .inr (.inr z)
theorem Ar {α β:Type}(f:α->β)(M:List α)(q:Nat)(x:α):(dw M q x).map f=dw (M.map f) q (f x):=by
 unfold dw;rw[hO,pS,map_take,UB]
def stM (ns:List Str)(cs ws:List Nat)(h:Nat)(U:List Nat):Bk:=⟨ns.take h,cs.take h,(List.range h).map fun i=>if i∈U then ws.getD i 0 else 0⟩
variable {cs ws:List Nat}{h:Nat}
theorem sV (P:g4 ns cs ws)(hj:j<h)(hh:h<=ns.length):ns.getD j ba∈ns.take h/\(ns.take h).idxOf (ns.getD j ba)=j:=by
 have a:(ns.take h).length=h:=by rw[qN];omega
 have e:ns.getD j ba=(ns.take h)[j]'(by omega):=by
  rw[getElem_take,cc,cv (by omega)];rfl
 rw[e];exact⟨oD _,(P.nm.nd.sublist (take_sublist _ _)).idxOf_getElem _ _⟩
theorem lg {α:Type}{l:List α}(d:α)(hh:h<l.length):l.take (h+1)=l.take h++[l.getD h d]:=by
 rw[List.take_add_one,cv hh,cc,cv hh];rfl
theorem JS (P:g4 ns cs ws)(hl:∀ j∈l,j<h)(hh:h<=ns.length)(hp:l.Perm (js ns.length (ws.getD i 0)))(hi:i<ns.length):ma (ns.take h) (l.map fun j=>ns.getD j ba)=ws.getD i 0:=by
 unfold ma;rw[kJ];have e:l.map ((fun y=>2 ^ (ns.take h).idxOf y) ∘ fun j=>ns.getD j ba)=l.map fun j=>2 ^ j:=List.map_congr_left fun j hj=>by
  show 2 ^ _=_;rw[(sV P (hl j hj) hh).2]
 rw[e,(hp.map _).sum_nat,mR,mod_eq_of_lt (P.R1 i hi)]
theorem lh (P:g4 ns cs ws):∀ (r:List Mx) (h:Nat) (U:List Nat),sT (List.range h) r->List.range h++r.filterMap Mx.hi=List.range ns.length->(U++r.filterMap Mx.si).Nodup->(∀ i∈U,i<h)->
  (∀ i l,Mx.sees i l∈r->l.Perm (js ns.length (ws.getD i 0)))->cS (stM ns cs ws h U) (r.map (gE ns cs))=some (stM ns cs ws ns.length (U++r.filterMap Mx.si))
 | [],h,U,_,f,_,_,_=>by
  have e:h=ns.length:=by
   have:=L4 List.length f
   simpa using this
  rw[map_nil,List.filterMap_nil,Um,e];rfl
 | .dA j::r,h,U,ok,f,o,p,n=>by
  have a:List.range h++j::r.filterMap Mx.hi=List.range ns.length:=f;have g:=L4 List.length a;rw[fz,pb,kc,kc] at g;have D:j=h:=by
   have this:(List.range h++j::r.filterMap Mx.hi)[h]?=(List.range ns.length)[h]?:=by rw[a]
   rw[zk (by simp),kc,Nat.sub_self,q5 (by omega)] at this
   exact ot this
  subst D;have b:j<ns.length:=by omega
  have F:=P.nm.fD;have t:=lh P r (j+1) U (by rw[I3];exact ok) (by rw[I3,sU];exact a) o (fun i hi=>Up (p i hi)) (fun i l hm=>n i l (fA _ hm))
  have C:(ns.take j).length=j:=by rw[qN];omega
  have c:ns.getD j ba∉ns.take j:=fun z=>by
   have e:ns.getD j ba=ns[j]:=by rw[cc,cv b];rfl
   rw[e] at z;obtain⟨k,hk,A⟩:=Da z;rw[getElem_take] at A
   have:=(getElem_inj P.nm.nd).mp A
   omega
  have u:jf (stM ns cs ws j U) (gE ns cs (.dA j))=some (stM ns cs ws (j+1) U):=by
   show (if ns.getD j ba∉ns.take j/\(ns.take j).length<8 then some (⟨ns.take j++[ns.getD j ba],cs.take j++[cs.getD j 0],((List.range j).map fun i=>if i∈U then ws.getD i 0 else 0)++[0]⟩:Bk) else none)=_
   rw[if_pos ⟨c,by omega⟩,<-lg ba b,<-lg 0 (by rw[P.lc];exact b)]
   unfold stM;rw[I3,hO];have hj:j∉U:=fun z=>GT _ (p j z);show some (⟨_,_,_++[0]⟩:Bk)=some ⟨_,_,_++[if j∈U then ws.getD j 0 else 0]⟩
   rw[if_neg hj]
  rw[pS,cS,u];exact t
 | .sees i l::r,h,U,ok,f,o,p,n=>by
  obtain⟨⟨hi,q⟩,s⟩:=ok;have hi:i<h:=ls.mp hi;have q:∀ j∈l,j<h:=fun j hj=>ls.mp (q j hj);have a:List.range h++r.filterMap Mx.hi=List.range ns.length:=f;have v:h<=ns.length:=by
   have:=L4 List.length a
   rw[fz,kc,kc] at this
   omega
  have d:(U++i::r.filterMap Mx.si).Nodup:=o;have w:i∉U:=fun z=>by
   have:=(Uc.mp d).2.2 i z i fO
   exact this rfl
  have t:=lh P r h (U++[i]) s a (by rw[sU];exact d) (fun k hk=>by
   rcases kb.mp hk with z | z
   ·exact p k z
   ·rw[ea.mp z];exact hi) (fun k m hm=>n k m (fA _ hm))
  have hn:=sV P hi v;have u:jf (stM ns cs ws h U) (gE ns cs (.sees i l))=some (stM ns cs ws h (U++[i])):=by
   show (if ns.getD i ba∈ns.take h/\((List.range h).map fun i=>if i∈U then ws.getD i 0 else 0).getD ((ns.take h).idxOf (ns.getD i ba)) 0=0/\∀ y∈l.map (fun j=>ns.getD j ba),y∈ns.take h then some (⟨ns.take h,cs.take h,((List.range h).map fun i=>if i∈U then ws.getD i 0 else 0).set ((ns.take h).idxOf (ns.getD i ba)) (ma (ns.take h) (l.map fun j=>ns.getD j ba))⟩:Bk) else none)=_
   rw[hn.2,JS P q v (n i l fO) (by omega)]
   have B:((List.range h).map fun i=>if i∈U then ws.getD i 0 else 0).getD i 0=0:=by
    rw[cc,ey,q5 hi];show (if i∈U then _ else 0)=0
    rw[if_neg w]
   have E:∀ y∈l.map (fun j=>ns.getD j ba),y∈ns.take h:=by
    intro y hy;obtain⟨j,hj,rfl⟩:=j9.mp hy;exact(sV P (q j hj) v).1
   rw[if_pos ⟨hn.1,B,E⟩];unfold stM
   congr 2
   apply A5
   intro k;rw[List.getElem?_set,ey,di,kc]
   by_cases e:i=k
   ·subst e;rw[if_pos rfl,if_pos hi,ey,q5 hi];show _=some (if i∈U++[i] then _ else _)
    rw[if_pos (by simp)]
   ·rw[if_neg e,ey]
    by_cases hk:k<h
    ·rw[q5 hk];show some (if k∈U then _ else _)=some (if k∈U++[i] then _ else _)
     have:k∈U↔k∈U++[i]:=by
      rw[kb,ea];exact⟨.inl,fun z=>z.elim id fun z=>absurd z.symm e⟩
     simp only[this]
    ·rw[j6 (by rw[kc];omega)]
     first | rfl | (rw[ey,j6 (by rw[kc];omega)];rfl)
  rw[pS,cS,u];show cS _ _=some (stM ns cs ws ns.length (U++i::r.filterMap Mx.si));rw[show U++i::r.filterMap Mx.si=(U++[i])++r.filterMap Mx.si by rw[sU];rfl]
  exact t
structure cZ (ns:List Str)(ws:List Nat)(done:Nat->Prop)(M:List Mx):Prop where
 ok:sT [] M
 da:M.filterMap Mx.hi=List.range ns.length
 nd:(M.filterMap Mx.si).Nodup
 pm:∀ i l,Mx.sees i l∈M->l.Perm (js ns.length (ws.getD i 0))/\i<ns.length/\l≠[]
 al:∀ i,i∈M.filterMap Mx.si↔done i/\i<ns.length/\js ns.length (ws.getD i 0)≠[]
variable {done:Nat->Prop}
theorem cZ.book (P:g4 ns cs ws)(h:cZ ns ws done M)(hd:∀ i,i<ns.length->done i):cS ⟨[],[],[]⟩ (M.map (gE ns cs))=some ⟨ns,cs,ws⟩:=by
 have:=lh P M 0 [] h.ok (by rw[List.range_zero,nil_append];exact h.da) (by rw[nil_append];exact h.nd) (fun _ z=>nomatch z) (fun i l hm=>(h.pm i l hm).1)
 rw[nil_append] at this;have c:stM ns cs ws 0 []=⟨[],[],[]⟩:=by unfold stM;simp
 rw[c] at this;rw[this];unfold stM
 congr 2
 ·exact yx (ef _)
 ·exact yx (by rw[P.lc];exact ef _)
 ·apply A5
  intro k;rw[ey]
  by_cases hk:k<ns.length
  ·have b:k<ws.length:=by rw[P.lw];exact hk
   rw[q5 hk,cv (by rw[P.lw];exact hk)]
   show some (if k∈M.filterMap Mx.si then ws.getD k 0 else 0)=some ws[k]
   have a:ws.getD k 0=ws[k]'(by rw[P.lw];exact hk):=by rw[cc,cv (by rw[P.lw];exact hk)];rfl
   by_cases hb:js ns.length (ws.getD k 0)=[]
   ·rw[if_neg (fun z=>((h.al k).mp z).2.2 hb)]
    have:=mR (ws.getD k 0) ns.length
    rw[hb,mod_eq_of_lt (P.R1 k hk)] at this;rw[<-a,<-this];rfl
   ·rw[if_pos ((h.al k).mpr ⟨hd k hk,hk,hb⟩),a]
  ·rw[j6 (by rw[kc];omega),j6 (by rw[P.lw];omega)]
   rfl
abbrev eP (ns:List Str)(cs:List Nat)(x:Mx):Str:=k9 (gE ns cs x)
theorem getD_inj (P:g4 ns cs ws)(hi:i<ns.length)(hj:j<ns.length)(e:ns.getD i ba=ns.getD j ba):i=j:=by
 rw[cc,cc,cv hi,cv hj] at e;exact(getElem_inj P.nm.nd).mp e
theorem sW (P:g4 ns cs ws)(hj:j<ns.length):gA (gE ns cs (.dA j)):=by
 have hc:cs.getD j 0∈cs:=by
  rw[cc,cv (by rw[P.lc];exact hj)];exact oD _
 exact⟨P.nm.nm _ (getD_memS hj),P.RZ _ hc⟩
theorem FD (P:g4 ns cs ws):∀ {l:List Nat},l.Nodup->(∀ j∈l,j<ns.length)->(l.map fun j=>ns.getD j ba).Nodup
 | [],_,_=>.nil
 | x::r,h,a=>by
  have b:=vr.mp h;rw[pS,vr];refine⟨fun z=>?_,FD P b.2 fun j hj=>a j (fA _ hj)⟩;obtain⟨j,hj,e⟩:=j9.mp z
  have:=getD_inj P (a j (fA _ hj)) (a x fO) e
  exact b.1 (this ▸ hj)
theorem sX (P:g4 ns cs ws)(hi:i<ns.length)(hp:l.Perm (js ns.length (ws.getD i 0)))(hl:l≠[]):gA (gE ns cs (.sees i l)):=by
 have hm:∀ j∈l,j<ns.length/\ws.getD i 0 / 2 ^ j % 2=1:=fun j hj=>kj.mp (hp.mem_iff.mp hj);have a:l.Nodup:=hp.nodup_iff.mpr (Oh _ _);have b:i∉l:=fun z=>by have:=(hm i z).2;rw[P.MB i hi] at this;cases this
 have c:l.length<=ns.length:=by
  rw[hp.length_eq];unfold js
  have:=C4 (fun j=>decide (ws.getD i 0 / 2 ^ j % 2=1)) (List.range ns.length)
  rw[kc] at this;exact this
 have f:=P.nm.fD;have d:0<l.length:=O0.mpr hl;have e:(ns.getD i ba::l.map fun j=>ns.getD j ba)=(i::l).map fun j=>ns.getD j ba:=rfl;show SO (ns.getD i ba::l.map fun j=>ns.getD j ba);rw[e];refine⟨by rw[di,pb];omega,by rw[di,pb];omega,FD P (vr.mpr ⟨b,a⟩) ?_,?_⟩
 ·intro j hj
  rcases gz.mp hj with z | z
  ·rw[z];exact hi
  ·exact(hm j z).1
 ·intro x hx;obtain⟨j,hj,rfl⟩:=j9.mp hx
  rcases gz.mp hj with z | z
  ·rw[z];exact P.nm.nm _ (getD_memS hi)
  ·exact P.nm.nm _ (getD_memS (hm j z).1)
theorem sY:Mx.dA j∈M↔j∈M.filterMap Mx.hi:=by
 rw[List.mem_filterMap]
 constructor
 ·intro h;exact⟨_,h,rfl⟩
 ·rintro⟨x,hx,e⟩
  cases x with
  | dA k=>cases e;exact hx
  | sees i l=>cases e
theorem cZ.sZ (P:g4 ns cs ws)(h:cZ ns ws done M):∀ x∈M,gA (gE ns cs x):=by
 intro x hx
 cases x with
 | dA j=>
  have:=sY.mp hx
  rw[h.da] at this;exact sW P (ls.mp this)
 | sees i l=>exact sX P (h.pm i l hx).2.1 (h.pm i l hx).1 (h.pm i l hx).2.2
theorem cZ.qS (P:g4 ns cs ws)(h:cZ ns ws done M):∀ x∈M.map (gE ns cs),gA x:=by
 intro x hx;obtain⟨y,hy,rfl⟩:=j9.mp hx;exact h.sZ P y hy
theorem FE {x y:Ln}(hx:gA x)(hy:gA y)(e:k9 x=k9 y):nR x=nR y:=by
 have f:∀ {z:Ln},gA z->Txt.split (k9 z) ⟨#[32]⟩=nR z:=fun {z} hz=>fg 32 (by intro w;have:=(ip hz).2.2;rw[w] at this;exact absurd this (by decide)) fun y hy=>((ip hz).1 y hy).1
 rw[<-f hx,<-f hy,e]
theorem Oj (P:g4 ns cs ws)(h:cZ ns ws done M){x:Mx}(hx:x∈M)(hj:j<ns.length)(e:eP ns cs x=eP ns cs (.dA j)):x=.dA j:=by
 have w:=FE (h.sZ P x hx) (sW P hj) e
 cases x with
 | dA k=>
  have hk:k<ns.length:=by
   have:=sY.mp hx
   rw[h.da] at this;exact ls.mp this
  have w:[Str.ofString "hat",ns.getD k ba,dP (cs.getD k 0)]=[Str.ofString "hat",ns.getD j ba,dP (cs.getD j 0)]:=w;have a:ns.getD k ba=ns.getD j ba:=(Re (Re w).2).1;rw[getD_inj P hk hj a]
 | sees i l=>
  have w:Str.ofString "sees"::_=Str.ofString "hat"::_:=w;exact absurd (Re w).1 (by decide +kernel)
theorem cZ.idx (P:g4 ns cs ws)(h:cZ ns ws done M)(hj:j<ns.length):eP ns cs (.dA j)∈M.map (eP ns cs)/\(M.map (eP ns cs)).idxOf (eP ns cs (.dA j))<M.length/\∀ q,(M.map (eP ns cs)).idxOf (eP ns cs (.dA j))<q->j∈(M.take q).filterMap Mx.hi:=by
 have hm:Mx.dA j∈M:=sY.mpr (by rw[h.da];exact ls.mpr hj)
 have h1:eP ns cs (.dA j)∈M.map (eP ns cs):=j9.mpr ⟨_,hm,rfl⟩;have a:=C6.mpr h1;rw[di] at a;refine⟨h1,a,fun q hq=>?_⟩;have e:=UC (xs:=M.map (eP ns cs)) (x:=eP ns cs (.dA j)) (by rw[di];exact a)
 rw[List.getElem_map] at e;have hx:=Oj P h (oD a) hj e;refine sY.mp ?_;rw[<-hx];refine gc (i:=(M.map (eP ns cs)).idxOf (eP ns cs (.dA j))) ?_;rw[Uo hq];exact cv a
theorem cZ.start:cZ ns ws (fun _=>False) ((List.range ns.length).map Mx.dA):=by
 have d:∀ l:List Nat,(l.map Mx.dA).filterMap Mx.hi=l:=fun l=>by
  induction l with
  | nil=>rfl
  | cons a r b=>rw[pS,zf];show a::_=_;rw[b]
 have hs:∀ l:List Nat,(l.map Mx.dA).filterMap Mx.si=[]:=fun l=>by
  induction l with
  | nil=>rfl
  | cons a r b=>rw[pS,zf];exact b
 have c:∀ (l S:List Nat),sT S (l.map Mx.dA):=fun l=>by
  induction l with
  | nil=>intro S;trivial
  | cons a r b=>intro S;exact b (S++[a])
 refine⟨c _ _,d _,by rw[hs];exact .nil,fun i l hm=>?_,fun i=>?_⟩
 ·obtain⟨k,_,e⟩:=j9.mp hm;cases e
 ·rw[hs];exact⟨(fun z=>nomatch z),fun z=>z.1.elim⟩
variable {done':Nat->Prop}
theorem cZ.ins (h:cZ ns ws done M)(hi:i<ns.length)(hd:¬ done i)(hp:l.Perm (js ns.length (ws.getD i 0)))(hl:l≠[])(hq:∀ j∈i::l,j∈(M.take q).filterMap Mx.hi)(hdd:∀ x,done' x↔done x∨x=i) :
  cZ ns ws done' (dw M q (.sees i l)) where
 ok:=JQ h.ok (hq i fO) fun j hj=>hq j (fA _ hj)
 da:=by rw[Oi];exact h.da
 nd:=FC.nodup_iff.mpr (vr.mpr ⟨fun z=>hd ((h.al i).mp z).1,h.nd⟩)
 pm:=fun k m hm=>by
  rcases JR.mp hm with e | e
  ·cases e;exact⟨hp,hi,hl⟩
  ·exact h.pm k m e
 al:=fun k=>by
  rw[FC.mem_iff,gz,h.al k,hdd]
  constructor
  ·rintro(rfl | ⟨a,b,c⟩)
   ·exact⟨.inr rfl,hi,fun z=>hl (by rw[z] at hp;exact hp.eq_nil)⟩
   ·exact⟨.inl a,b,c⟩
  ·rintro⟨a | a,b,c⟩
   ·exact .inr ⟨a,b,c⟩
   ·exact .inl a
theorem cZ.skip (h:cZ ns ws done M)(hb:js ns.length (ws.getD i 0)=[])(hdd:∀ x,done' x↔done x∨x=i):cZ ns ws done' M where
 ok:=h.ok
 da:=h.da
 nd:=h.nd
 pm:=h.pm
 al:=fun k=>by
  rw[h.al k,hdd]
  constructor
  ·rintro⟨a,b,c⟩;exact⟨.inl a,b,c⟩
  ·rintro⟨a | a,b,c⟩
   ·exact⟨a,b,c⟩
   ·rw[a] at c;exact absurd hb c
theorem dQ {k:Nat}(h:k<l.length):((aD l).map V.int).getD k .br=.int ((l.getD k 0:Nat):Int):=by
 unfold aD;rw[cc,ey,ey,cv h,cc,cv h];rfl
theorem dg {α:Type}(g:Nat->α)(l:List Nat):((List.range l.length).map fun i=>g (l.getD i 0))=l.map g:=by
 apply A5
 intro i
 by_cases hi:i<l.length
 ·rw[ey,q5 hi,ey,cv hi];show some (g (l.getD i 0))=some (g l[i]);rw[cc,cv hi];rfl
 ·rw[j6 (by rw[di,kc];omega),j6 (by rw[di];omega)]
theorem dR {k:Nat}(h:k<l.length):l.getD k 0∈l:=by
 rw[cc,cv h];exact oD h
def As (K:Frag):Sp:=fun a H Q _=>∃ (b dr:Addr) (ns:List Str) (cs ws:List Nat) (dn:List Int),a=[.ref b,.ref dr]/\LQ H b ns cs ws/\g4 ns cs ws/\H dr=some (.lst (dn.map V.int))/\dn.length=26/\(∀ x∈dn,0<=x)/\
 ∀ l M H',ah H H'->H' l=some (.lst ((M.map (eP ns cs)).map V.str))->cZ ns ws (fun i=>i<ns.length) M->M.length<=16->Q (.ref l) H'
def Q9 (H0:Hp)(b dr a1 a2 a3 l:Addr)(ns:List Str)(cs:List Nat)(k:Nat)(σ:St)(H:Hp):Prop:=∃ y6 y7 y8 y9 y10 y11 y12:Option V,σ=[some (.ref b),some (.ref dr),some (.ref a1),some (.ref a2),some (.ref a3),some (.ref l),y6,y7,y8,y9,y10,y11,y12]/\ah H0 H/\H l=some (.lst ((((List.range k).map Mx.dA).map (eP ns cs)).map V.str))
def Ra (H0:Hp)(b dr a1 a2 a3 l o:Addr)(ns:List Str)(cs ws od:List Nat)(k:Nat)(σ:St)(H:Hp):Prop:=∃ (M:List Mx) (y6 y8 y9 y10 y11 y12:Option V),σ=[some (.ref b),some (.ref dr),some (.ref a1),some (.ref a2),some (.ref a3),some (.ref l),y6,some (.ref o),y8,y9,y10,y11,y12]/\ah H0 H/\H o=some (.lst ((aD od).map V.int))/\H l=some (.lst ((M.map (eP ns cs)).map V.str))/\cZ ns ws (fun i=>i∈od.take k) M/\M.length<=ns.length+k
def Rb (H0:Hp)(b dr a1 a2 a3 l:Addr)(ns:List Str)(cs:List Nat)(σ:St)(H:Hp):Prop:=∃ (o:Addr) (od:List Nat) (y6 y8 y9 y10 y11 y12:Option V),σ=[some (.ref b),some (.ref dr),some (.ref a1),some (.ref a2),some (.ref a3),some (.ref l),y6,some (.ref o),y8,y9,y10,y11,y12]/\ah H0 H/\H l=some (.lst ((((List.range ns.length).map Mx.dA).map (eP ns cs)).map V.str))/\H o=some (.lst ((aD od).map V.int))/\od.Perm (List.range ns.length)/\l≠o
def Rc (H0:Hp)(b dr a1 a2 a3 l o:Addr)(i:Nat)(bt:List Nat)(σ:St)(H:Hp):Prop:=∃ (s:Addr) (sm:List Nat) (y6 y10 y11 y12:Option V),σ=[some (.ref b),some (.ref dr),some (.ref a1),some (.ref a2),some (.ref a3),some (.ref l),y6,some (.ref o),some (.int (i:Int)),some (.ref s),y10,y11,y12]/\ah H0 H/\H s=some (.lst ((aD sm).map V.int))/\sm.Perm bt
variable {od:List Nat}
theorem BY {k:Nat}(hk:k<od.length)(x:Nat):x∈od.take (k+1)↔x∈od.take k∨x=od.getD k 0:=by
 rw[lg 0 hk,kb,ea]
theorem FF (nd:od.Nodup){k:Nat}(hk:k<od.length):od.getD k 0∉od.take k:=fun z=>by
 have e:od.getD k 0=od[k]:=by rw[cc,cv hk];rfl
 rw[e] at z;obtain⟨j,hj,a⟩:=Da z;rw[getElem_take] at a;rw[qN] at hj
 have:=(getElem_inj nd).mp a
 omega
theorem SQ {tc:TT}{te:TE}{rest:St}{J:It}{H1:Hp}{item:Nat->V}(ok:uY J H1 n item)(hn:n<sizeLine)
  (step:∀ i H (B:Hp->Prop) (A:V->Hp->Prop),i<n->ah H1 H->B H->tc (some (item i)::rest) H fun b H3=>if b=true then te (some (item i)::rest) H3 A else B H3)
  (fin:∀ acc H,ah H1 H->H acc=some (.lst [])->Q (.ref acc) H):rV (bA 0) tc te (none::rest) Q J H1:=
 uB ok (fun _=>false) (fun _=>.br) hn (fun i H A B hi c _ d=>step i H B A hi c (d rfl _ (ah.refl _))) fun acc H _ c a=>fin acc H c (by rw[a];simp)
def Rf:V->Hp->VK->Prop:=fun x H Q=>(∃ y,x=.str y/\y.length<=sizeLine/\Q (.str y) H)∨(∃ i:Int,x=.int i/\i.natAbs.log2<1920/\Q (.str (Str.ofString (toString i))) H)
def Rg (tv:TE):TE:=fun σ H Q=>tv σ H fun x H1=>Rf x H1 Q
variable {v:Expr}{tv:TE}
theorem JT (hv:QE X v tv):QE X (.FormattedValue v (-1) none pos) (Rg tv):=⟨by
 intro a s σ H Q I h;refine FormattedValue_plain (bP (hv.h a s σ H _ I h) fun u g ⟨x,H1,c,b,d⟩=>?_)
 rcases d with ⟨y,rfl,hy,q⟩ | ⟨i,rfl,hi,q⟩
 ·obtain⟨t,rfl⟩:=b;exact formatField_str (fun t' f=>⟨.str y,H1,c.kept (t':=f) fun _ _ e=>e,⟨_,rfl⟩,q⟩) hy
 ·obtain⟨t,rfl⟩:=b;exact formatField_int_small hi ⟨.str _,H1,c.kept (t':=_) fun _ _ e=>e,⟨_,rfl⟩,q⟩⟩
def O8:List TE->Str->TE
 | [],a=>fun _ H Q=>a.length<=sizeLine/\Q (.str a) H
 | t::r,a=>fun σ H Q=>t σ H fun x H1=>∃ y,x=.str y/\(a++y).length<=sizeLine/\O8 r (a++y) σ H1 Q
structure QJ (X:Cx)(es:List Expr)(ts:List TE):Prop where
 h:∀ (acc:Str) (pins:List (Addr × Obj)) (s:Shared) (σ:St) (H:Hp) (Q:VK),Inv X pins σ H s->O8 ts acc σ H Q->wpAny (model X.prog X.w) X.A (joinParts acc (evalEach es X.env)) (EP X pins σ Q) X.xe s
theorem FG:QJ X [] []:=⟨fun a b s σ H Q I h=>joinParts_nil ⟨.str a,H,I.tok _,⟨_,rfl⟩,h.2⟩ h.1⟩
variable {t:TE}{ts:List TE}
theorem gF {e:Expr}{es:List Expr}(he:QE X e t)(hr:QJ X es ts):QJ X (e::es) (t::ts):=⟨fun d a s σ H Q I h=>by
 refine joinParts_cons (x:=eval e X.env) (rest:=evalEach es X.env) (bP (he.h a s σ H _ I h) fun u b ⟨x,H1,g,f,c⟩=>?_);obtain⟨y,rfl,hy,q⟩:=c;obtain⟨i,rfl⟩:=f;exact⟨hy,hr.h _ a b σ H1 Q g q⟩⟩
theorem LR {e e2:Expr}{es:List Expr}(h:QJ X (e::e2::es) ts):QE X (.JoinedStr (e::e2::es) pos) (O8 ts Str.empty):=⟨fun a s σ H Q I q=>JoinedStr_many (h.h Str.empty a s σ H Q I q)⟩
theorem LS {σ:St} :Rg tv σ H Q=tv σ H fun x H1=>Rf x H1 Q:=rfl
variable {acc:Str}
theorem LU {σ:St} :O8 [] acc σ H Q=(acc.length<=sizeLine/\Q (.str acc) H):=rfl
theorem LV {r:List TE}{σ:St} :O8 (t::r) acc σ H Q=t σ H fun x H1=>∃ y,x=.str y/\(acc++y).length<=sizeLine/\O8 r (acc++y) σ H1 Q:=rfl
def LW (K:Frag):V->Int->Int->Hp->VK->Prop:=fun x a b H Q=>∃ l xs,x=.ref l/\aB K H l xs/\b≠0/\∀ (R:List Nat) p,H p=none->(R.filterMap fun i=>xs[i]?).length<=sizeLine->Q (.ref p) (upd H p (.lst (R.filterMap fun i=>xs[i]?)))
def FH (K:Frag)(te tl ts:TE):TE:=fun σ H Q=>te σ H fun x H1=>tl σ H1 fun y d=>∃ a,y=.int a/\ts σ d fun z c=>∃ b,z=.int b/\LW K x a b c Q
theorem qT {xs:List V}{its:List Value}(r:Vals xs its):∀ R:List Nat,Vals (R.filterMap fun i=>xs[i]?) (R.filterMap fun i=>its[i]?)
 | []=>.nil
 | k::R=>by
  have a:=qT r R;have c:=r.length;rw[zf,zf]
  by_cases hk:k<xs.length
  ·obtain⟨u,hu,b⟩:=r.get (cv hk);rw[cv hk,hu];exact .cons b a
  ·rw[j6 (by omega),j6 (by omega)]
   exact a
variable {e lo st:Expr}{te tl ts:TE}{p2:Pos}
theorem JU {ops:Value->Value->List Value}(he:PE X e te)(hlo:PE X lo tl)(hs:PE X st ts)(hsub:∀ o i,subscripted (.Slice (some lo) none (some st) p2) false o i=operate (ops o i) (getItem o i)):PE X (.Subscript e (.Slice (some lo) none (some st) p2) pos) (FH X.K te tl ts):=by
 intro c s σ H Q I h;refine Subscript_ (bP (he c s σ H _ I h) fun v Y ⟨x,H1,P,N,M⟩=>?_);refine wpAny_Slice ?_;rw[evalPart_some];refine bP (hlo c Y σ H1 _ P M) fun vl E ⟨y,F,I2,O,u⟩=>?_;obtain⟨j,rfl,u⟩:=u;rw[evalPart_none];refine eR ?_;rw[evalPart_some];refine bP (hs c E σ F _ I2 u) fun vs f ⟨z,H3,S,J,W⟩=>?_;obtain⟨g,rfl,a,C,rfl,hx,hb,q⟩:=W
 cases N
 obtain⟨m,rfl⟩:=O;obtain⟨t,rfl⟩:=J;have p:Inv X c σ H3 {f with heap:=f.heap.push {cls:=.type "slice",data:=.fields #[.int j m,.none,.int g t]}}:=S.kept (t':=f.toks) fun b ob q=>ed _ q;obtain⟨d,r,B,hz⟩:=p.list hx;have D:=r.length;show wpAny (model X.prog X.w) X.A (subscriptTail e (.Slice (some lo) none (some st) p2) (.ref a) (.ref f.heap.objs.size)) (EP X c σ Q) X.xe {f with heap:=f.heap.push {cls:=.type "slice",data:=.fields #[.int j m,.none,.int g t]}};refine tail_any (T:="list") (ops:=ops (.ref a) (.ref f.heap.objs.size)) B.isList.typeIs slot_list_getitem.lookup ?_ (hsub _ _);refine wpAny_getItem_list_slice B.isList (Heap.IsSliceOf.new ..) (.int j m) .none (.int g t) (by simpa using hb) ?_ (by rw[j5]<;>omega)
 obtain⟨R,Z⟩:∃ R:List Nat,slicePick d.toArray (some j) none (some g)=(R.filterMap fun i=>d[i]?).toArray:=by
  unfold slicePick;refine⟨sliceRange (sliceBounds (some j) none (some g) d.toArray.size).1 (sliceBounds (some j) none (some g) d.toArray.size).2.1 (sliceBounds (some j) none (some g) d.toArray.size).2.2,?_⟩;have U:(fun k=>d.toArray[k]?)=(fun k:Nat=>d[k]?):=by funext k;simp
  rw[U]
 have n:=slicePick_size_le d.toArray (some j) none (some g);rw[Z] at n ⊢;rw[j5,j5] at n;have hv:=qT r R;have G:=hv.length;have l:(R.filterMap fun i=>C[i]?).length<=sizeLine:=by omega
 exact⟨.ref _,_,p.laid (t':=f.toks) (o:=.lst (R.filterMap fun i=>C[i]?)) (fun b ob q=>ed _ q) (ef _) ⟨l,_,0,hv,hU _ rfl⟩,rfl,q R _ (p.bb.fresh (ef _)) l⟩
theorem LX {ops:Value->Value->List Value}(he:QE X e te)(hlo:QE X lo tl)(hs:QE X st ts)(h:X.K=K)(hsub:∀ o i,subscripted (.Slice (some lo) none (some st) p2) false o i=operate (ops o i) (getItem o i):=by intro _ _;with_unfolding_all rfl):QE X (.Subscript e (.Slice (some lo) none (some st) p2) pos) (FH K te tl ts):=⟨by subst h;exact JU he.h hlo.h hs.h hsub⟩
theorem FI {σ:St} :FH K te tl ts σ H Q=te σ H fun x H1=>tl σ H1 fun y H2=>∃ a,y=.int a/\ts σ H2 fun z H3=>∃ b,z=.int b/\LW K x a b H3 Q:=rfl
theorem qU (ns:List Int)(R:List Nat):(R.filterMap fun i=>(ns.map V.int)[i]?)=(R.filterMap fun i=>ns[i]?).map V.int:=by
 rw[List.map_filterMap];have a:(fun i=>(ns.map V.int)[i]?)=(fun i:Nat=>Option.map V.int ns[i]?):=by funext k;rw[ey]
 rw[a]
def bV (ns:List Str)(ws:List Nat):List Mx:=(List.range ns.length).map Mx.dA++((List.range ns.length).filter fun i=>decide (ws.getD i 0≠0)).map fun i=>.sees i (js ns.length (ws.getD i 0))
theorem Au (P:g4 ns cs ws)(hi:i<ns.length):js ns.length (ws.getD i 0)≠[]↔ws.getD i 0≠0:=by
 have hs:=mR (ws.getD i 0) ns.length;rw[mod_eq_of_lt (P.R1 i hi)] at hs
 constructor
 ·intro h z;refine h ?_
  apply List.eq_nil_iff_forall_not_mem.mpr
  intro j hj
  have:=(kj.mp hj).2
  rw[z,Nat.zero_div] at this
  cases this
 ·intro h z;rw[z] at hs;exact h hs.symm
theorem tf:∀ l:List Nat,(l.map Mx.dA).filterMap Mx.hi=l
 | []=>rfl
 | a::r=>by rw[pS,zf];show a::_=_;rw[tf r]
theorem tj:∀ l:List Nat,(l.map Mx.dA).filterMap Mx.si=[]
 | []=>rfl
 | a::r=>by rw[pS,zf];exact tj r
theorem Av (g:Nat->List Nat):∀ l:List Nat,(l.map fun i=>Mx.sees i (g i)).filterMap Mx.hi=[]
 | []=>rfl
 | a::r=>by rw[pS,zf];exact Av g r
theorem tm (g:Nat->List Nat):∀ l:List Nat,(l.map fun i=>Mx.sees i (g i)).filterMap Mx.si=l
 | []=>rfl
 | a::r=>by rw[pS,zf];show a::_=_;rw[tm g r]
theorem mS (g:Nat->List Nat)(S:List Nat):∀ l:List Nat,(∀ i∈l,i∈S/\∀ j∈g i,j∈S)->sT S (l.map fun i=>Mx.sees i (g i))
 | [],_=>trivial
 | a::r,h=>⟨h a fO,mS g S r fun i hi=>h i (fA _ hi)⟩
theorem Aw:∀ (l S:List Nat),sT S (l.map Mx.dA)
 | [],_=>trivial
 | a::r,S=>Aw r (S++[a])
theorem fG (P:g4 ns cs ws):cZ ns ws (fun i=>i<ns.length) (bV ns ws) where
 ok:=by
  refine(fh _ _ _).mpr ⟨Aw _ _,?_⟩;rw[tf,nil_append];refine mS _ _ _ fun i hi=>⟨(u5.mp hi).1,fun j hj=>ls.mpr (kj.mp hj).1⟩
 da:=by unfold bV;rw[GM,tf,Av,Um]
 nd:=by unfold bV;rw[GM,tj,tm,nil_append];exact UG.sublist filter_sublist
 pm:=fun i l hm=>by
  unfold bV at hm
  rcases kb.mp hm with z | z
  ·obtain⟨k,_,e⟩:=j9.mp z;cases e
  ·obtain⟨k,hk,e⟩:=j9.mp z
   cases e
   have:=u5.mp hk
   exact⟨List.Perm.refl _,ls.mp this.1,(Au P (ls.mp this.1)).mpr (uu this.2)⟩
 al:=fun i=>by
  unfold bV;rw[GM,tj,tm,nil_append,u5,ls,decide_eq_true_iff]
  constructor
  ·intro ⟨a,b⟩;exact⟨a,a,(Au P a).mpr b⟩
  ·intro ⟨_,a,b⟩;exact⟨a,(Au P a).mp b⟩
theorem lj:(bV ns ws).length<=2*ns.length:=by
 unfold bV
 have:=C4 (fun i=>decide (ws.getD i 0≠0)) (List.range ns.length)
 rw[kc] at this;rw[fz,di,di,kc]
 omega
def JV (ns:List Str)(ws:List Nat)(k:Nat):List Mx:=(List.range ns.length).map Mx.dA++((List.range k).filter fun i=>decide (ws.getD i 0≠0)).map fun i=>.sees i (js ns.length (ws.getD i 0))
theorem vM (ns:List Str)(ws:List Nat)(k:Nat):JV ns ws (k+1)=if ws.getD k 0≠0 then JV ns ws k++[.sees k (js ns.length (ws.getD k 0))] else JV ns ws k:=by
 unfold JV;rw[I3,UA,hO]
 by_cases c:ws.getD k 0≠0
 ·have e:(List.filter (fun i=>decide (ws.getD i 0≠0)) [k])=[k]:=by
   rw[List.filter_cons,if_pos (ek c)];rfl
  rw[if_pos c,e,<-sU];rfl
 ·have e:(List.filter (fun i=>decide (ws.getD i 0≠0)) [k])=[]:=by
   rw[List.filter_cons,if_neg (by rw[eG c];exact hI)];rfl
  rw[if_neg c,e,map_nil,Um]
theorem JW (h:w<2 ^ n):aL w=js n w:=by
 rw[<-qC h];unfold js;have a:w.testBit=fun j=>decide (w / 2 ^ j % 2=1):=by funext j;exact tD
 rw[a]
def Rh (H0:Hp)(t a1 r:Addr)(ns:List Str)(cs ws:List Nat)(k:Nat)(σ:St)(H:Hp):Prop:=∃ y3 y4 y5:Option V,σ=[some (.ref t),some (.ref a1),some (.ref r),y3,y4,y5]/\ah H0 H/\H r=some (.lst (((JV ns ws k).map (eP ns cs)).map V.str))
def Fl (h:Heap)(a T C:Addr)(d:Option Addr)(fl:Value):Prop:=
 ∃ oe vs oT ts,h.get? a=some oe/\oe.cls=.ref C/\oe.dict=d/\oe.data=.fields vs/\vs[1]?=some (.ref T)/\T≠a/\h.get? T=some oT/\oT.data=.fields ts/\ts[3]?=some fl
def Ri (h:Heap)(H:Hp)(a T C:Addr)(d:Option Addr):Prop:=Fl h a T C d .none/\H a=none/\H T=none
def kE (P:Program)(w:World):Bl:=fun b H s E e c=>
 ∃ a T C d H',e=.ref a/\c.os=s.os/\AllBare c.gens/\Un (jb b) [] H H' s.heap c.heap/\gY P w H' c.heap/\s.heap.get? a=none/\s.heap.get? T=none/\Ri c.heap H' a T C d/\E (.ref C) d H'
variable {w:World}
theorem md {P:Program} :Passes (kE P w) X E0:=fun _ _ _ _ _ _ _ h=>by
 obtain⟨_,_,_,_,_,_,_,_,_,_,_,_,_,q⟩:=h;exact q.elim
variable {fs bad:List Addr}{H0 H1:Hp}{h0 h1 h2:Heap}
theorem FJ (u:Un fs [] H0 H1 h0 h1)(hb:∀ b∈bad,h0.get? b=none)(k:∀ b o,h1.get? b=some o->b∉fs->b∉bad->h2.get? b=some o)
  (sl:∀ b o,h1.get? b=some o->b∈fs->b∉bad->∃ s,h2.get? b=some {o with slots:=s}):Un fs [] H0 H1 h0 h2:=by
 have c:∀ b o,h0.get? b=some o->b∉bad:=fun b o e z=>by rw[hb b z] at e;cases e
 refine⟨fun b o e n a hx=>k b o (u.keep b o e n a hx) a (c b o e),fun b o e n a hx=>?_,u.free,fun b o e hx=>?_,u.oS,u.lP,u.oR⟩
 ·obtain⟨i,d⟩:=u.slot b o e n a hx;obtain⟨g,f⟩:=sl b _ d a (c b o e);exact⟨g,f⟩
 ·obtain⟨h,d⟩:=u.there b o e hx
  by_cases a:b∈fs
  ·obtain⟨g,f⟩:=sl b _ d a (c b o e);exact⟨_,f⟩
  ·exact⟨_,k b _ d a (c b o e)⟩
variable {P:Program}
theorem Ax (x:gY P w H1 h1)(k:∀ b o,h1.get? b=some o->b∉fs->b∉bad->h2.get? b=some o)(nf:∀ b∈fs,H1 b=none)(nb:∀ b∈bad,H1 b=none):gY P w H1 h2:=fun a o e=>
 (x a o e).kG (fun b u hb q=>k b u q (fun z=>by
  rcases hb with rfl | hb
  ·rw[nf b z] at e;cases e
  ·rw[nf b z] at hb;cases hb) (fun z=>by
  rcases hb with rfl | hb
  ·rw[nb b z] at e;cases e
  ·rw[nb b z] at hb;cases hb)) (fun _ q=>q) fun _ _ q=>q
variable {h:Heap}
theorem gY.there {o:HO}(x:gY P w H h)(e:H a=some o):∃ u,h.get? a=some u:=by
 have z:=x a o e
 cases o with
 | lst c=>obtain⟨_,_,_,_,e⟩:=z;exact⟨_,e⟩
 | tup c=>obtain⟨_,_,_,o,e,_⟩:=z;exact⟨_,e⟩
 | dK b=>obtain⟨_,_,_,_,o,_,_,e,_⟩:=z;exact⟨_,e⟩
 | dT b=>obtain⟨_,_,_,_,o,_,_,e,_⟩:=z;exact⟨_,e⟩
 | set S n=>obtain⟨o,_,_,_,e,_⟩:=z;exact⟨_,e⟩
 | ins C d fs=>obtain⟨_,_,_,e,_⟩:=z;exact⟨_,e⟩
 | own y=>exact z
 | xd fs=>obtain⟨_,⟨_,_,_,e,_⟩,_⟩:=z;exact⟨_,e⟩
 | HK g hi=>obtain⟨_,_,_,e⟩:=z;exact⟨_,e⟩
 | fe ob u=>obtain⟨e,_⟩:=z;exact⟨_,e⟩
 | MC i=>exact⟨_,z⟩
 | met f y=>exact⟨_,z⟩
 | ext φ=>obtain⟨_,e,_⟩:=z;exact e
theorem gY.FK (x:gY P w H h)(e:h.get? a=none):H a=none:=by
 cases q:H a with
 | none=>rfl
 | some o=>obtain⟨u,z⟩:=x.there q;rw[e] at z;cases z
theorem BZ (o:Obj)(f):(o.mapFields f).dict=o.dict:=by
 cases o with
 | mk c d dt a=>cases dt<;>rfl
def Kept (l:List Addr)(bad:List Addr)(h h':Heap):Prop:=(∀ b o,h.get? b=some o->b∉l->b∉bad->h'.get? b=some o)/\∀ b o,h.get? b=some o->b∉bad->∃ sl,h'.get? b=some {o with slots:=sl}
variable {l:List Addr}
theorem Kept.trans {bad':List Addr}(x:Kept l bad h h1)(y:Kept l bad' h1 h2)(hs:∀ b o,h.get? b=some o->b∈bad'->b∈bad):Kept l bad h h2:=by
 refine⟨fun b o e c a=>y.1 b o (x.1 b o e c a) c fun z=>a (hs b o e z),fun b o e a=>?_⟩;obtain⟨i,f⟩:=x.2 b o e a;obtain⟨d,g⟩:=y.2 b _ f fun z=>a (hs b o e z);exact⟨d,g⟩
variable {M:Model}{base:Heap}{env:Env}{outer:List Env}{L C:Addr}{d:Option Addr}{Q:Unit->Shared->Prop}{oe:Obj}
theorem qV {vs:Array Value}{head:Value}{nx:Bool}(hfr:A.frames=some (env::outer))(hl:s.heap.FunFrames base (env::outer))(hf:env.frame=some L)
  (he:s.heap.get? a=some oe) (hc:oe.cls=.ref C) (hdi:oe.dict=d) (hd:oe.data=.fields vs) (hsz:1<vs.size)
  (h:∀ h' T,s.heap.get? T=none->Fl h' a T C d (rawInt L)->Kept (jb (env::outer)) [a] s.heap h'->Q () {s with heap:=h'}) :
  wpAny M A (do let fr<-frameOf env;let pl<-entryPlaceOf L nx;let t<-EntryCells.newEntry head fr .none (rawInt L) .none pl;setField (.ref a) 1 t) Q E s:=by
 have y:a∉(env::outer).filterMap (·.frame):=fun hm=>by
  obtain⟨_,o,n,hn⟩:=hl.mem hm;rw[he] at n;cases n;exact hn vs hd
 refine dy (wpAny_frameOf_fun hfr hl hf fun h1 g=>?_);refine dy (wpAny_entryPlaceOf fun pl e=>?_);unfold EntryCells.newEntry newFields;refine dy (GE ?_ (e.sizeOk5 _ _ _ _ _));have m:h1.get? a=some oe:=(g.2.1 a y).trans he;have lt:a<h1.objs.size:=lt_size m;generalize p:({cls:=.type "traceback",dict:=none,data:=.fields ([head,.ref L,.none,rawInt L,.none]++(if pl.isEmpty then List.replicate 6 Value.none else pl)).toArray}:Obj)=oT
 have i:oT.isFreed=false:=by rw[<-p];rfl
 have r:(h1.push oT).get? a=some oe:=ed _ m;have w:(h1.push oT).get? h1.objs.size=some oT:=hU h1 i;refine Uv r hd hsz (h _ h1.objs.size (Heap.get?_none_of_le (Nat.le_of_eq g.1.symm)) ?_ ⟨fun b o l v j=>?_,fun b o l j=>?_⟩)
 ·have ne:h1.objs.size≠a:=Uz lt;have f:=KE hd (·.setIfInBounds 1 (Value.ref h1.objs.size));refine⟨_,_,oT,_,get?_update_self _ r (Ud f),(Obj.cls_mapFields _ _).trans hc,(BZ _ _).trans hdi,f,by simp[hsz],ne,(TY _ _ ne.symm).trans w,by rw[<-p],?_⟩
  first | (simp;done) | (rcases e with rfl | ⟨_,_,_,_,_,_,_,rfl⟩<;>simp)
 ·have c:b≠a:=fun z=>j (by rw[z];exact fO)
  rw[TY _ _ c.symm];exact ed _ ((g.2.1 b v).trans l)
 ·have c:b≠a:=fun z=>j (by rw[z];exact fO)
  obtain⟨u,q⟩:=g.2.2 b o l;refine⟨u,?_⟩;rw[TY _ _ c.symm];exact ed _ q
theorem yo {vs:Array Value}(hfr:A.frames=some (env::outer))(hl:s.heap.FunFrames base (env::outer))(hf:env.frame=some L)
  (he:s.heap.get? a=some oe) (hc:oe.cls=.ref C) (hdi:oe.dict=d) (hd:oe.data=.fields vs) (h1:vs[1]?=some .none)
  (h:∀ h' T,s.heap.get? T=none->Fl h' a T C d (rawInt L)->Kept (jb (env::outer)) [a] s.heap h'->Q () {s with heap:=h'}):wpAny M A (noteFrame (.ref a) env) Q E s:=by
 unfold noteFrame;simp only[hf];refine dy (Pi he hd h1 ?_);rw[if_neg (by decide)]
 exact qV hfr hl hf he hc hdi hd (F1.mp h1).1 h
theorem Ay {T:Addr}(hfr:A.frames=some (env::outer))(hl:s.heap.FunFrames base (env::outer))(hf:env.frame=some L)(f:Fl s.heap a T C d .none)
  (h:∀ h' T',s.heap.get? T'=none->Fl h' a T' C d (rawInt L)->Kept (jb (env::outer)) [a,T] s.heap h'->Q () {s with heap:=h'}):wpAny M A (noteFrame (.ref a) env) Q E s:=by
 obtain⟨G,t,F,D,he,hc,l,u,h1,r,i,g,v⟩:=f;unfold noteFrame;simp only[hf];refine dy (Pi he u h1 ?_);rw[if_pos (show (Value.ref T != Value.none)=true from by simp)]
 refine dy (Pi i g v ?_);rw[if_neg (show ¬ ((Value.none == rawInt L)=true) from by simp[rawInt])]
 refine dy (Uv i g (F1.mp v).1 ?_);have c:∀ b,b≠T->(s.heap.update T (Obj.mapFields (·.setIfInBounds 3 Value.none))).get? b=s.heap.get? b:=fun b hb=>TY _ _ hb.symm;have y:Kept (jb (env::outer)) [a,T] s.heap (s.heap.update T (Obj.mapFields (·.setIfInBounds 3 Value.none))):=by
  refine⟨fun b o e _ n=>(c b fun z=>n (by simp[z])).trans e,fun b o e n=>⟨o.slots,(c b fun z=>n (by simp[z])).trans e⟩⟩
 have j:∀ b o,s.heap.get? b=some o->(∀ t,o.data≠.fields t)->b≠T:=fun b o hb hn q=>by rw[q,i] at hb;cases hb;exact hn D g
 refine qV hfr (hl.of_keeps fun b o hb hn=>⟨o,(c b (j b o hb hn)).trans hb,rfl⟩) hf ((c a r.symm).trans he) hc l u (F1.mp h1).1 fun h' T' p B w=>?_;refine h h' T' ?_ B (y.trans w fun b _ _ z=>by rw[ea.mp z];exact fO)
 have m:T'≠T:=fun z=>by
  rw[z,get?_update_self _ i (Ud (KE g _))] at p
  cases p
 rw[<-c T' m];exact p
theorem fH {T:Addr}{fl:Value}(f:Fl s.heap a T C d fl)(h:∀ h',Fl h' a T C d .none->Kept l [T] s.heap h'->Q () {s with heap:=h'}):wpAny M A (setFlight (.ref a) none) Q E s:=by
 obtain⟨u,r,w,t,he,hc,m,p,h1,j,q,c,v⟩:=f;have i:3<t.size:=(F1.mp v).1;unfold setFlight;refine dy (Pi he p h1 ?_);rw[if_pos (show (Value.ref T != Value.none)=true from by simp)]
 have g:∀ b,b≠T->(s.heap.update T (Obj.mapFields (·.setIfInBounds 3 ((none:Option Addr).elim Value.none fun f=>rawInt f)))).get? b=s.heap.get? b:=fun b hb=>TY _ _ hb.symm;refine Uv q c i (h _ ⟨u,r,_,_,(g a j.symm).trans he,hc,m,p,h1,j,get?_update_self _ q (Ud (KE c _)),KE c _,by simp[i]⟩ ?_)
 exact⟨fun b o e _ n=>(g b fun z=>n (by simp[z])).trans e,fun b o e n=>⟨o.slots,(g b fun z=>n (by simp[z])).trans e⟩⟩
theorem vN {vs:Array Value}(hfr:A.frames=some (env::outer))(hl:s.heap.FunFrames base (env::outer))(hf:env.frame=some L)
  (he:s.heap.get? a=some oe) (hc:oe.cls=.ref C) (hdi:oe.dict=d) (hd:oe.data=.fields vs) (h1:vs[1]?=some .none)
  (h:∀ h' T,s.heap.get? T=none->Fl h' a T C d .none->Kept (jb (env::outer)) [a] s.heap h'->Q () {s with heap:=h'}):wpAny M A (leaving env (.ref a)) Q E s:=by
 unfold leaving;refine dy (yo hfr hl hf he hc hdi hd h1 fun h' T c f k=>?_);refine fH (l:=jb (env::outer)) f fun i j g=>h i T c j (k.trans g fun b o e z=>?_);rw[ea.mp z,c] at e;cases e
theorem FN {T:Addr}(hfr:A.frames=some (env::outer))(hl:s.heap.FunFrames base (env::outer))(hf:env.frame=some L)(f:Fl s.heap a T C d .none)
  (h:∀ h' T',s.heap.get? T'=none->Fl h' a T' C d .none->Kept (jb (env::outer)) [a,T] s.heap h'->Q () {s with heap:=h'}):wpAny M A (leaving env (.ref a)) Q E s:=by
 unfold leaving;refine dy (Ay hfr hl hf f fun h' T' c f k=>?_);refine fH (l:=jb (env::outer)) f fun i j g=>h i T' c j (k.trans g fun b o e z=>?_);rw[ea.mp z,c] at e;cases e
variable {mg:Str->Option Value}{N:List Str}{qual:Str}{scope:Scope}{f e:Addr}{cd:Value}{s0:Shared}{E:XK}{pins:List (Addr × Obj)}
theorem Az {T:Addr}(I:Inv (fE (kE P w) P w K mg base N qual scope f cd A outer s0 H0 E) pins σ H s)
  (hb:∀ b∈bad,s0.heap.get? b=none/\H b=none) (k:Kept (jb (envOfC qual scope s0.heap.objs.size f cd::outer)) bad s.heap h2) (he:s0.heap.get? e=none) (nT:s.heap.get? T=none) (hH:H e=none)
  (fl:Fl h2 e T C d .none) (q:E (.ref C) d H):kE P w outer H0 s0 E (.ref e) {s with heap:=h2}:=by
 have h:∀ b,b∉jb outer->b≠(envOfC qual scope s0.heap.objs.size f cd).locals->b∉jb (envOfC qual scope s0.heap.objs.size f cd::outer):=fun b h1 h2 z=>by
  rcases gz.mp (I.rA b z) with z | z
  ·exact h2 z
  ·exact h1 z
 have a:∀ b∈(envOfC qual scope s0.heap.objs.size f cd).locals::bad,s0.heap.get? b=none/\H b=none:=fun b hm=>by
  rcases gz.mp hm with z | z
  ·rw[z];exact⟨Heap.get?_none_of_le (ef _),I.free⟩
  ·exact hb b z
 have l:∀ b o,s.heap.get? b=some o->b∉jb outer->b∉(envOfC qual scope s0.heap.objs.size f cd).locals::bad->h2.get? b=some o:=fun b o c m i=>
  k.1 b o c (h b m fun z=>i (by rw[z];exact fO)) fun z=>i (fA _ z)
 have g:∀ b∈jb outer,H b=none:=fun b hm=>I.mH b (by
  show b∈jb (envOfC qual scope s0.heap.objs.size f cd::outer);unfold jb;rw[zf];exact fA _ hm)
 refine⟨e,T,C,d,H,rfl,I.os,I.bare,FJ I.base (fun b hm=>(a b hm).1) l (fun b o c _ n=>k.2 b o c fun z=>n (fA _ z)),Ax I.bb l g fun b hm=>(a b hm).2,he,?_,⟨fl,hH,I.bb.FK nT⟩,q⟩
 cases z:s0.heap.get? T with
 | none=>rfl
 | some o=>
  obtain⟨p,j⟩:=I.base.there T o z (by simp[fE])
  rw[nT] at j;cases j
theorem i3 (I:Inv (fE (kE P w) P w K mg base N qual scope f cd A outer s0 H0 E) pins σ H s)(n:s.heap.get? a=none):s0.heap.get? a=none:=by
 cases z:s0.heap.get? a with
 | none=>rfl
 | some o=>
  obtain⟨c,b⟩:=I.base.there a o z (by simp[fE])
  rw[n] at b;cases b
theorem B0 {vs:Array Value}(I:Inv (fE (kE P w) P w K mg base N qual scope f cd A outer s0 H0 E) pins σ H s)
  (he:s.heap.get? e=some oe) (n0:s0.heap.get? e=none) (hH:H e=none) (hc:oe.cls=.ref C) (hdi:oe.dict=d) (hd:oe.data=.fields vs) (h1:vs[1]?=some .none) (q:E (.ref C) d H) :
  (fE (kE P w) P w K mg base N qual scope f cd A outer s0 H0 E).xe (.ref e) s:=by
 refine vN (L:=s0.heap.objs.size) I.ok.frames I.stack rfl he hc hdi hd h1 fun g T c a k=>?_;exact Az I (fun b hb=>by rw[ea.mp hb];exact⟨n0,hH⟩) k n0 c hH a q
theorem nW {args:List Value}{h':Heap}(I:Inv (fE (kE P w) P w K mg base N qual scope f cd A outer s0 H0 E) pins σ H s)(M:Heap.MadeExcOf s.heap h' e (.ref C) args)(q:E (.ref C) none H) :
  (fE (kE P w) P w K mg base N qual scope f cd A outer s0 H0 E).xe (.ref e) {s with heap:=h'}:=by
 obtain⟨t,he,_,_⟩:=M.there;have a:Inv (fE (kE P w) P w K mg base N qual scope f cd A outer s0 H0 E) pins σ H {s with heap:=h'}:=I.uE (ch:=[]) rfl (Un.kept M.keeps) (I.bb.kept M.keeps) I.bare fun b z=>absurd z (by simp)
 exact B0 a he (i3 I M.new) (I.bb.FK M.new) rfl rfl rfl rfl q
theorem yp {s':Shared}{e:Value}(I:Inv (fE (kE P w) P w K mg base N qual scope f cd A outer s0 H0 E) pins σ H s)(h:kE P w (envOfC qual scope s0.heap.objs.size f cd::outer) H s E e s') :
  (fE (kE P w) P w K mg base N qual scope f cd A outer s0 H0 E).xe e s':=by
 obtain⟨a,T,C,d,u,rfl,o,c,un,n,l,t,⟨r,m,p⟩,q⟩:=h;have i:Inv (fE (kE P w) P w K mg base N qual scope f cd A outer s0 H0 E) pins σ u s':=I.uE (ch:=[]) o un n c fun b z=>absurd z (by simp)
 refine FN (L:=s0.heap.objs.size) i.ok.frames i.stack rfl r fun v y j g k=>?_;refine Az i (fun b hb=>?_) k (i3 I l) j m g q
 rcases gz.mp hb with z | z
 ·rw[z];exact⟨i3 I l,m⟩
 ·rw[ea.mp z];exact⟨i3 I t,p⟩
theorem qW:Passes (kE P w) (fE (kE P w) P w K mg base N qual scope f cd A outer s0 H0 E) E:=fun _ _ _ _ _ _ I h=>yp I h
variable {E:Value->Shared->Prop}{g:Array GenState}{d:Drawn}{t:Nat}{os:OsState}{od:Option Obj}
theorem B1 {nv:Value}(X:K.In h)(I:PySem.W.InstAt h a oe C od)(hb:mroIn K C (.type "BaseException")=some true)(hq:Q () ⟨h,g,d,t,os⟩) :
  wpAny M A (checkBuiltinCall "BaseException.__getattribute__" ⟨[.ref a,nv],[]⟩) Q E ⟨h,g,d,t,os⟩:=by
 have hk:builtinKind "BaseException.__getattribute__"=some .slot:=by decide +kernel
 have hs:splitId "BaseException.__getattribute__"=some ("BaseException","__getattribute__"):=by decide +kernel
 have e:=I.type (M:=M);have b:=looks_mroIn (M:=M) X hb;have c:Looks M h (isInstance (.ref a) (.type "BaseException")) true:=e.andThen b;have f:=F.args_bexc_ga (.ref a) nv;simp only[checkBuiltinCall,hk,hs];refine dy (c.at ?_)
 repeat (first | assumption | wp_step)
variable {name:Str}{v:Value}{tk:Tok}
theorem nX {gt at':Value}{Q:Fin->Shared->Prop}(X:K.In h)(I:PySem.W.InstAt h a oe C od)(hf:findObj K C od name=some (.bind gt at'))
  (hc:∀ (A:Around) (R:Result->Shared->Prop) (s:Shared),s.heap=h->R (.ok (.ret v)) s->codeAny (model prog w) A (.call gt ⟨[at',.ref a,.ref C],[]⟩) R s) (hq:Q (.done (.ret v)) ⟨h,g,d,t,os⟩) :
  wpAny (model prog w) A (Builtin.«object.__getattribute__» ⟨[.ref a,.str name tk],[]⟩) Q E ⟨h,g,d,t,os⟩:=by
 have b:=I.type (M:=model prog w);have c:=PySem.W.looks_find (M:=model prog w) X I hf;unfold Builtin.«object.__getattribute__»
 repeat (first | with_reducible refine b.at ?_ | with_reducible refine c.at ?_ | wp_step)
 refine hc _ _ _ rfl ?_
 repeat (first | assumption | wp_step)
structure FO (K:Frag)(C:Addr):Prop where
 ga:findIn K (.ref C) "__getattribute__"=some (some (.builtin "BaseException.__getattribute__"))
 no:findIn K (.ref C) "__getattr__"=some none
 base:mroIn K C (.type "BaseException")=some true
theorem Ol {fill expr:Bool}{Q:Value->Shared->Prop}(X:K.In h)(I:PySem.W.InstAt h a oe C od)(G:FO K C)
  (hc:∀ (A:Around) (Q:Fin->Shared->Prop) (E:Value->Shared->Prop),Q (.done (.ret v)) ⟨h,g,d,t,os⟩->wpAny (model prog w) A (Builtin.«object.__getattribute__» ⟨[.ref a,.str name tk],[]⟩) Q E ⟨h,g,d,t,os⟩)
  (hv:handedIn v=true) (hq:Q v ⟨h,g,d,t,os⟩):wpAny (model prog w) A (getAttrBy (.ref a) (.str name tk) fill expr) Q E ⟨h,g,d,t,os⟩:=by
 have f:=I.type (M:=model prog w);have i:=looks_findIn (M:=model prog w) X G.ga;have c:=looks_findIn (M:=model prog w) X G.no;have FB:=F.excAttr_ValueError;have l:=FB.ga.bind (.ref a);have e:(expr&&onTheHeap (Value.builtin "BaseException.__getattribute__"))=false:=by cases expr<;>rfl
 have b:(Value.builtin "BaseException.__getattribute__" == Value.builtin "object.__getattribute__")=false:=by decide +kernel
 have j:(onTheHeap (Value.ref C)&&Value.builtin "BaseException.__getattribute__" == Value.builtin "object.__getattribute__")=false:=by rw[b];rfl
 unfold getAttrBy getAttrByItsOwn hookBefore
 repeat (first | with_reducible refine f.at ?_ | with_reducible refine i.at ?_ | with_reducible refine c.at ?_ | assumption | wp_step)
 refine codeAny_call_builtin FB.ga.plain F.entry_bexc_ga (B1 X I G.base (hc _ _ _ ?_));exact PySem.W.handed_on hv hq
theorem yq (X:K.In h){t:Value}(z:mroIn K C t=some true):Looks M h (isType (.ref C)) true:=by
 unfold mroIn clsIn at z
 split at z
 ·rename_i c' d' cd' sl' ho
  intro c b d a k q;unfold isType loadHead;exact dy (wpAny_loadPart (k _ _ (X _ _ ho)) (eR q))
 ·cases z
structure tq (K:Frag)(C:Addr):Prop extends FO K C where
 cl:findIn K (.ref C) "__class__"=some (some (.builtin "object.__class__"))
 gt:specialIn K (.builtin "object.__class__") "__get__"=some (some (.builtin "getset_descriptor.__get__"))
 tk:takesIn K (.builtin "object.__class__")=some true
 ob:mroIn K C (.type "object")=some true
theorem B2 {Q:Option Value->Shared->Prop}(X:K.In h)(I:PySem.W.InstAt h a oe C od)(G:tq K C)(hq:Q (some (.ref C)) ⟨h,g,d,t+1,os⟩) :
  wpAny (model prog w) A (getAttr? (.ref a) "__class__") Q E ⟨h,g,d,t,os⟩:=by
 have b:(clsIn K C).isSome=true:=by
  have z:=G.ob;unfold mroIn at z
  cases q:clsIn K C with
  | none=>rw[q] at z;cases z
  | some _=>rfl
 have c:findObj K C od "__class__"=some (.bind (.builtin "getset_descriptor.__get__") (.builtin "object.__class__")):=by
  obtain⟨f,hc⟩:=Option.isSome_iff_exists.mp b;unfold findObj;rw[hc,bind_some,G.cl,bind_some]
  simp[G.gt,G.tk]
 unfold getAttr? getAttrBy?;refine dy (wpAny_mkText (dy (wpAny_attempt ?_)));refine Ol (v:=.ref C) X I ⟨G.ga,G.no,G.base⟩ (fun A Q E q=>nX X I c (fun A R s e r=>?_) q) rfl ?_
 ·obtain⟨n,i,l,j,m⟩:=s
  cases e
  exact PySem.W.class_get X I G.ob r
 ·exact eR hq
theorem FP (G:tq K C):KitX K (.ref a) (.ref C) (fun h=>PySem.W.InstAt h a oe C od) where
 ty:=fun _ _ _ I=>I.type
 it:=fun _ _ X _=>by
  have z:=G.ob;unfold mroIn clsIn at z
  split at z
  ·rename_i c' d' cd' sl' ho
   intro t r m g k q;unfold isType loadHead;exact dy (wpAny_loadPart (k _ _ (X _ _ ho)) (eR q))
  ·cases z
 ne:=fun h f d c n i X b=>by
  have z:=G.ob;refine Bool.eq_false_iff.mpr fun q=>?_;have e:C=f:=Value.ref.inj (beq_iff_eq.mp q);subst e;unfold mroIn clsIn at z
  split at z
  ·rename_i c' d' cd' sl' ho
   have z:=(X _ _ ho).symm.trans b
   cases z
  ·cases z
 ca:=fun {_ _ _ _ _ s} X I k=>by
  obtain⟨o,j,d,l,p⟩:=s;exact B2 X I G k
def vO (x y:Str):Bool:=x == y||y == "HatError"||(y == "LineError"&&(x == "NoLine"||x == "Twice"||x == "Unknown"||x == "TooMany"))
def LY (x:Str):Bool:=x == "LineError"||x == "NoLine"||x == "Twice"||x == "Unknown"||x == "TooMany"
def FQ:List Value:=[.type "ValueError",.type "Exception",.type "BaseException",.type "object"]
def FR (K:Frag)(C:Addr):Bool:=
 findIn K (.ref C) "__getattribute__" == some (some (.builtin "BaseException.__getattribute__"))&&findIn K (.ref C) "__getattr__" == some none&&mroIn K C (.type "BaseException") == some true&&
 findIn K (.ref C) "__class__" == some (some (.builtin "object.__class__"))&&specialIn K (.builtin "object.__class__") "__get__" == some (some (.builtin "getset_descriptor.__get__"))&&
 takesIn K (.builtin "object.__class__") == some true&&mroIn K C (.type "object") == some true&&typeIn K (.ref C) == some (.type "type")&&kitOne K (.ref C) (.type "ValueError") == some true
def LZ (K:Frag)(names:List Str)(er:Str->Addr):Bool:=
 names.all fun x=>nsIn K mainGlobals x == some (some (.ref (er x)))&&FR K (er x)&&(LY x||excIn K (er x) FQ "ValueError.__new__")&&
  names.all fun y=>kitOne K (.ref (er x)) (.ref (er y)) == some (vO x y)&&mroIn K (er x) (.ref (er y)) == some (vO x y)
structure ll (K:Frag)(mg:Str->Option Value)(names:List Str)(er:Str->Addr):Prop where
 gl:∀ x∈names,mg x=some (.ref (er x))
 cls:∀ x∈names,tq K (er x)
 ty:∀ x∈names,typeIn K (.ref (er x))=some (.type "type")
 val:∀ x∈names,kitOne K (.ref (er x)) (.type "ValueError")=some true
 own:∀ x∈names,LY x=false->excIn K (er x) FQ "ValueError.__new__"=true
 TV:∀ x∈names,∀ y∈names,kitOne K (.ref (er x)) (.ref (er y))=some (vO x y)
 TU:∀ x∈names,∀ y∈names,mroIn K (er x) (.ref (er y))=some (vO x y)
variable {er:Str->Addr}
theorem JX {names:List Str}(X:K.In h)(G:h.Ns mainGlobals mg)(e:LZ K names er=true):ll K mg names er:=by
 have z:∀ x∈names,_:=kf.mp e;simp only[Bool.and_eq_true,Bool.or_eq_true,beq_iff_eq,FR,List.all_eq_true] at z;refine⟨fun x hx=>mg_of X G (z x hx).1.1.1,fun x hx=>?_,fun x hx=>(z x hx).1.1.2.1.2,fun x hx=>(z x hx).1.1.2.2,fun x hx hn=>?_,fun x hx y hy=>((z x hx).2 y hy).1,fun x hx y hy=>((z x hx).2 y hy).2⟩
 ·obtain⟨⟨⟨_,⟨⟨⟨⟨⟨⟨⟨⟨a,b⟩,c⟩,d⟩,e⟩,f⟩,g⟩,_⟩,_⟩⟩,_⟩,_⟩:=z x hx;exact⟨⟨a,b,c⟩,d,e,f,g⟩
 ·rcases(z x hx).1.2 with q | q
  ·rw[hn] at q;cases q
  ·exact q
variable {bmB:List Value}{newId:String}
theorem JY (X:K.In h)(q:excIn K C bmB newId=true) :
  ∃ bm N nm qn bs hdct sn sub ab col dd k0 k1 k2 k3 k5 mN,h.get? C=some (excClassObj nm qn C N bs bm hdct sn sub ab col dd k0 k1 k2 k3 k5 newId)/\h.Ns N mN/\mN "__init__"=none/\OwnTail h bmB bm:=by
 unfold excIn at q
 split at q
 next dd cd sl ho=>
  split at q
  next C' bm k0 k1 k2 k3 n k5 hm hs=>
   simp only[Bool.and_eq_true,beq_iff_eq,Bool.not_eq_true'] at q;obtain⟨⟨⟨⟨⟨j,m⟩,c⟩,o⟩,a⟩,b⟩:=q;subst j m;obtain⟨nm,bs,i,f,qn,d,sn,sub,ab,col,g⟩:=cd
   dsimp only at hm c a b
   subst hm c;have e:sl=#[k0,k1,k2,k3,some (.builtin n),k5]:=by
    cases sl with
    | mk l=>dsimp only at hs;subst hs;rfl
   subst e;exact⟨bm,f,nm,qn,bs,d,sn,sub,ab,col,dd,k0,k1,k2,k3,k5,_,X _ _ ho,Heap.Ns.of_isNs (PySem.W.isNs_of_in X a),PySem.W.nsMap_none_of_in X a b,PySem.W.tail_of_in X o⟩
  next=>cases q
 next=>cases q
def Raises (X:Cx)(E:XK):Prop:=∀ (pins:List (Addr × Obj)) (σ:St) (H:Hp) (s:Shared) (e C:Addr) (args:List Value) (h':Heap),Inv X pins σ H s->Heap.MadeExcOf s.heap h' e (.ref C) args->E (.ref C) none H->X.xe (.ref e) {s with heap:=h'}
def yr (E:XK)(C:Addr)(t:TA):TS:=fun _ σ H=>t σ H fun a H1=>a.length<=sizeLine/\E (.ref C) none H1
variable {E:XK}{x:Str}{np cC:Pos}{e:Expr}{es:List Expr}{t:TA}
theorem FU (hc:X.calm=true)(hx:Raises X E)(hg:Gl X x)(hm:X.mg x=some (.ref C))(ho:excIn X.K C FQ "ValueError.__new__"=true)(ha:PA X (e::es) t)
  (hdb:(x == ("__debug__":Str))=false:=by decide) (he:starEach (e::es) X.env=(false,eval e X.env)::starEach es X.env:=by rfl) (hpl:(backTo cC (starEach es X.env)).any (·.1)=false:=by rfl) :
  PS X (.Raise (some (.Call (.Name x np) (e::es) [] cC)) none pos) (yr E C t):=by
 intro b s σ H D I h;have FB:ExcBaseFacts "ValueError" "ValueError.__new__" "ValueError.__init__" FQ:=PySem.F.excBase_ValueError;obtain⟨bm,N,nm,g,bs,hdct,sn,sub,ab,col,dd,k0,k1,k2,k3,k5,mN,i,f,d,T⟩:=JY I.ok.mod.MD ho;refine wpAny_Raise_call_subT (C:=C) (nm:=nm) (q:=g) (N:=N) (bs:=bs) (bm:=bm) (hdct:=hdct) (sn:=sn) (sub:=sub) (ab:=ab) (col:=col) (dd:=dd) (k0:=k0) (k1:=k1) (k2:=k2) (k3:=k3) (k5:=k5)
  FB (mN:=mN) (T.hasType FB.hasBase) (I.ok.hd hc) ?_ d (jJ I hg hm ⟨rfl,?_⟩ hdb)
 ·rw[he];show (false||(backTo cC (starEach es X.env)).any (·.1))=false;rw[hpl];rfl
 ·have z:=ha cC b s σ H _ I h;rw[he] at z ⊢;refine Calls.evalArgs_plain (bP z fun o m ⟨l,H1,c,r,j,q⟩=>?_);exact⟨rfl,by rw[<-r.length];exact j,c.bk _ _ i,f.keeps c.bk,T.keeps c.bk,fun n a M=>hx _ _ _ _ _ _ _ _ c M q⟩
variable {b:Bool}
theorem B3 {E:Value->Shared->Prop}{t:Nat}{D:Addr}{Q:Bool->Shared->Prop}(X:K.In h)
  (he:h.get? a=some oe) (hc:oe.cls=.ref C) (hD:typeIn K (.ref D)=some (.type "type")) (GD:tq K D) (hs:mroIn K C (.ref D)=some b) (hq:Q b ⟨h,g,d,t,os⟩) :
  wpAny M A (excMatches (.ref a) (.ref D)) Q E ⟨h,g,d,t,os⟩:=by
 have j:Looks M h (typeOf (.ref a)) (.ref C):=hc ▸ (PySem.W.Looks.ld he).andThen .now;have l:=PySem.W.looks_typeIn (M:=M) X hD;have e:=looks_mroIn (M:=M) X GD.base;have i:=looks_mroIn (M:=M) X hs;have c:Looks M h (isType (.ref D)) true:=yq X GD.base;have f:=tc_notTuple;unfold excMatches isExcClass isInstance
 repeat (first | with_reducible refine j.at ?_ | with_reducible refine l.at ?_ | with_reducible refine e.at ?_ | with_reducible refine i.at ?_ | with_reducible refine c.at ?_ | wp_step)
 all_goals (cases b<;>first | exact hq | (wp_walk;exact hq))
structure Se (P:Program)(w:World)(K:Frag)(mg:Str->Option Value)(base:Heap)(k:Nat)(x:Str)(ps:List Str)(sp:Sp):Prop where
 ex:∃ f fd,eK P w K mg base (kE P w) k f fd ps sp/\mg x=some (.ref f)/\keepIn K (.ref f)=true/\Binds K fd ps []
variable {ps G:List Str}
theorem DS.Th {CX:Bl}{sc:Scope}{q:Str}{cp:Value}(D:DS sc N ps G):Sc (fE CX P w K mg base N q sc f cp A outer s H E) N N G:=
 ⟨rfl,D.fs.nd,fun x hx=>r6 (D.R0 x hx),fun x hx=>⟨D.loc x hx,.inl rfl⟩,fun x hx=>xH (D.gl x hx)⟩
def Own (X:Cx):Prop:=X.stack=X.env::X.outer/\X.env.frame=some X.env.locals
variable {k:Nat}{sp:Sp}{st:Stmt}
theorem Def.ge (D:Def K mg x st)(S:DS (ai st) N ps G)
  (hb:∀ (kV doc pm:Value) (an:Option Addr) (cp ct:Value) (us:List Value),us.length=ps.length->bindArgs (fnOf x x (bf st) (aO st) (ai st) .none kV doc pm an cp ct) ⟨us,[]⟩=pure (ps.zip us))
  (len:∀ vs H Q E,sp vs H Q E->vs.length=ps.length)
  (cU:∀ (X:Cx) (E:XK),Sc X N N G->X.prog=P->X.w=w->X.K=K->X.mg=mg->X.base=base->X.calm=true->X.env.scope=ai st->Own X->Raises X E->Passes (kE P w) X E->bY k X.A->X.A.units+64<cLine->
   ∀ (H:Hp) (vs:List V) (Q:VK),sp vs H Q E->∃ t,uZ X (aO st) t/\t {nx:=fun _ H'=>Q .br H',rt:=Q} (L2.start N vs) H):Se P w K mg base (k+1) x ps sp:=by
 obtain⟨f,e,F,m⟩:=D.ex;refine⟨f,e,?_,m,F.kp,F.binds hb⟩;obtain⟨j,l,kV,doc,pm,an,cp,ct,i,rfl,g,c⟩:=F.ex;refine uP g c S.fs len fun A b s H vs Q E d a=>?_;obtain⟨t,h,q⟩:=cU _ E S.Th rfl rfl rfl rfl rfl rfl rfl ⟨rfl,rfl⟩ (fun _ _ _ _ _ _ _ _ I M q=>nW I M q) qW d d.units H vs Q a;exact⟨t,h.h,q⟩
theorem Def.gy (D:Def K mg x st)(S:DS (ai st) N ps G)
  (hb:∀ (kV doc pm:Value) (an:Option Addr) (cp ct:Value) (us:List Value),us.length=ps.length->bindArgs (fnOf x x (bf st) (aO st) (ai st) .none kV doc pm an cp ct) ⟨us,[]⟩=pure (ps.zip us))
  (len:∀ vs H Q E,sp vs H Q E->vs.length=ps.length)
  (cU:∀ (X:Cx),Sc X N N G->X.prog=P->X.w=w->X.K=K->X.mg=mg->X.base=base->X.calm=true->X.env.scope=ai st->Own X->X.xe=(fun _ _=>False)->bY k X.A->X.A.units+64<cLine->
   ∀ (H:Hp) (vs:List V) (Q:VK) (E:XK),sp vs H Q E->∃ t,uZ X (aO st) t/\t {nx:=fun _ H'=>Q .br H',rt:=Q} (L2.start N vs) H):Fn P w K mg base (k+1) x ps sp:=by
 refine D.fn S.fs hb len fun f cp A a s H vs Q E b h=>?_;obtain⟨t,z,y⟩:=cU _ S.cx rfl rfl rfl rfl rfl rfl rfl ⟨rfl,rfl⟩ rfl b b.units H vs Q E h;exact⟨t,z.h,y⟩
variable {W:List Str}{m:Nat}{p:Pos}
theorem Ti (S:Sc X N W G)(g:Nat)(F:Se X.prog X.w X.K X.mg X.base k x ps sp)(hx:Passes (kE X.prog X.w) X E)(hr:bY m X.A)(ha:QB X (e::es) t)(hk:k<=m:=by decide)(hg:G[g]?=some x:=by rfl) :
  QE X (.Call (.Name x p) (e::es) [] pos) (nk sp [] E t):=by
 obtain⟨f,b,F,hm,a,hb⟩:=F.ex;have q:=S.gl x (gc hg);exact⟨rH F (hr.mono hk) q.1 hm a hb .nil hx ha.h.pa q.2.1 (aW ha.h.he) (cy ha.h.zN)⟩
theorem nY (S:Sc X N W G)(g:Nat)(hc:X.calm=true)(hx:Raises X E)(hm:X.mg x=some (.ref C))(ho:excIn X.K C FQ "ValueError.__new__"=true)(ha:QB X (e::es) t)(hg:G[g]?=some x:=by rfl) :
  QS X (.Raise (some (.Call (.Name x np) (e::es) [] cC)) none pos) (yr E C t):=by
 have q:=S.gl x (gc hg);exact⟨FU hc hx q.1 hm ho ha.h.pa q.2.1 (aW ha.h.he) (cy ha.h.zN)⟩
abbrev Rj:=St->Hp->VK->XK->Prop
abbrev Om:=Ends->(St->XK)->St->Hp->Prop
def XP (X:Cx)(pins:List (Addr × Obj))(W:St->XK)(e:Value)(s':Shared):Prop:=∃ σ' H0 s0,Inv X pins σ' H0 s0/\kE X.prog X.w X.stack H0 s0 (W σ') e s'
structure Tj (X:Cx)(e:Expr)(t:Rj):Prop where
 h:∀ (pins:List (Addr × Obj)) (s:Shared) (σ:St) (H:Hp) (Q:VK) (E:XK),Inv X pins σ H s->t σ H Q E->wpAny (model X.prog X.w) X.A (eval e X.env) (EP X pins σ Q) (fun x s'=>∃ H0 s0,Inv X pins σ H0 s0/\kE X.prog X.w X.stack H0 s0 E x s') s
structure Tn (X:Cx)(st:Stmt)(t:Om):Prop where
 h:∀ (pins:List (Addr × Obj)) (s:Shared) (σ:St) (H:Hp) (D:Ends) (W:St->XK),Inv X pins σ H s->t D W σ H->wpAny (model X.prog X.w) X.A (exec st X.env) (SP X pins D) (XP X pins W) s
structure Rk (X:Cx)(st:List Stmt)(t:Om):Prop where
 h:∀ (pins:List (Addr × Obj)) (s:Shared) (σ:St) (H:Hp) (D:Ends) (W:St->XK),Inv X pins σ H s->t D W σ H->wpAny (model X.prog X.w) X.A (execs st X.env) (SP X pins D) (XP X pins W) s
def L6 (te:Rj)(g:TG):Om:=fun D W σ H=>te σ H (fun x H1=>g x σ H1 D.nx) (W σ)
variable {pos':Pos}{te:Rj}{v:Om}
theorem SR (S:Sc X N W G)(i:Nat)(he:Tj X e te)(h:N[i]?=some x:=by rfl)(hw:W[i]?=some x:=by rfl)(hs:swapsWith e (some (.Name x pos')) pos.line X.env=pure false:=by rfl) :
  Tn X (.Assign [.Name x pos'] e pos) (L6 te (bA i)):=by
 have q:=S.R3 x (gc hw);refine⟨fun a s σ H D W I z=>wpAny_Assign_Name (wh (he.h a s σ H _ _ I z) (fun v o ⟨y,H1,l,j,c⟩=>?_) fun x m ⟨g,b,d,z⟩=>⟨σ,g,b,d,z⟩) hs⟩;exact jI l (by rw[S.eN];exact S.nd) (by rw[S.eN];exact h) q.1 j (fun n f=>⟨_,H1,f,c⟩) q.2
variable {u:Om}
theorem Oo (h1:Tn X st u):Rk X [st] u:=by
 refine⟨fun a s σ H D W I h=>wpAny_execs_cons (bP (h1.h a s σ H D W I h) fun f b q=>?_)⟩
 cases f with
 | next=>exact wpAny_execs_nil q
 | ret v=>exact q
 | brk=>exact q
 | cont=>exact q
theorem mT {E:Value->Shared->Prop}{x:Str}{pos:Pos}(I:Inv X pins σ H s)(hN:X.N.Nodup)(hi:X.N[i]?=some x)(hk:X.env.kindOf x=some .local)
  (h:∀ s',Inv X pins (σ.set i none) H s'->Q () s'):wpAny M A (do bindName X.env x .none;unbindBehindTheSuite X.env x pos) Q E s:=by
 obtain⟨m,hn,K⟩:=id I.loc;have f:(X.env.scope.kind == .class||(X.env.scope.kind == .module&&X.env.locals != X.env.globals))=false:=by rw[I.ok.kind];rfl
 refine wpAny_nameGoes_keeps hk hn f fun O v l hs=>h _ ?_;have r:∀ b o,X.s₀.heap.get? b=some o->b≠X.env.locals:=fun b o e=>nt (ih (lt_size e) I.ok.above);refine⟨I.ok,I.os,I.bare,⟨fun b o e n hb hx=>(hs.2 b (r b o e)).trans (I.base.keep b o e n hb hx),fun b o e n hb hx=>?_,I.base.free,fun b o e hx=>?_,I.base.oS,I.base.lP,I.base.oR⟩,
  ⟨_,l,fun j y C a g G=>?_⟩,fun y c e=>?_,I.free,I.fC,fun p u=>?_,fun b ob e=>?_,by simpa using I.len⟩
 ·obtain⟨w,a⟩:=I.base.slot b o e n hb hx;exact⟨w,(hs.2 b (r b o e)).trans a⟩
 ·obtain⟨D,a⟩:=I.base.there b o e hx;exact⟨D,(hs.2 b (r b o e)).trans a⟩
 ·by_cases hj:j=i
  ·subst hj;rw[LI (by rw[I.len];exact(mv.mp hi).1)] at g
   cases g
  ·rw[Uh (Ne.symm hj)] at g;obtain⟨F,J,q⟩:=K j y C a g G;refine⟨F,J,?_⟩
   rcases q with ⟨k,e⟩ | ⟨k,c,e,z⟩
   ·have:y≠x:=fun e=>hj (mZ hN a (e ▸ hi))
    exact .inl ⟨k,by simp[this,e]⟩
   ·exact .inr ⟨k,c,e,z.sameBut hs (I.HQ y c e)⟩
 ·obtain⟨t,z⟩:=I.cell y c e;exact⟨t,z.sameBut hs (I.HQ y c e)⟩
 ·obtain⟨e,n,ne,B,d⟩:=I.pin p u;exact⟨(hs.2 p.1 ne).trans e,n,ne,B,d⟩
 ·refine(I.bb b ob e).kG (fun c t hc q=>(hs.2 c ?_).trans q) (fun _ q=>q) fun _ _ q=>q;rintro rfl
  rcases hc with rfl | hc
  ·rw[I.free] at e;cases e
  ·rw[I.free] at hc;cases hc
def Cx.hand (X:Cx)(a:Addr)(o:Obj):Cx:={X with A:=X.A.mark (some (.ref a)),calm:=false,pn:=(a,o)::X.pn}
def Cx.held (X:Cx)(a:Addr):Cx:={X with A:=X.A.mark (some (.ref a)),calm:=false}
theorem Inv.held (I:Inv X pins σ H s)(a:Addr):Inv (X.held a) pins σ H s:=
 ⟨⟨I.ok.mod,I.ok.kind,I.ok.glob,I.ok.blt,I.ok.above,I.ok.inj,I.ok.has,I.ok.MA,(fun z=>by cases z),I.ok.frames,I.ok.KY,I.ok.OW,I.ok.bs,I.ok.Dd,I.ok.uf,I.ok.wD,I.ok.i6,I.ok.HH⟩,I.os,I.bare,I.base,I.loc,I.cell,I.free,I.fC,I.pin,I.bb,I.len⟩
variable {o:Obj}
theorem Inv.hand (I:Inv X pins σ H s)(e:s.heap.get? a=some o)(n:H a=none)(ne:a≠X.env.locals)(nf:a∉X.fs)(nc:∀ v,o.data≠.cell v):Inv (X.hand a o) pins σ H s:=
 ⟨⟨I.ok.mod,I.ok.kind,I.ok.glob,I.ok.blt,I.ok.above,I.ok.inj,I.ok.has,I.ok.MA,(fun z=>by cases z),I.ok.frames,I.ok.KY,I.ok.OW,I.ok.bs,I.ok.Dd,I.ok.uf,I.ok.wD,I.ok.i6,I.ok.HH⟩,I.os,I.bare,I.base,I.loc,I.cell,I.free,I.fC,
  fun p b=>by
   rcases gz.mp (show p∈(a,o)::(X.pn++pins) from b) with z | z
   ·rw[z];exact⟨e,n,ne,nf,nc⟩
   ·exact I.pin p z,I.bb,I.len⟩
theorem Inv.tw (hc:X.calm=true->X.A.handled=none)(hf:X.A.frames=some X.stack)(I:Inv (X.hand a o) pins σ H s):Inv X pins σ H s:=
 ⟨⟨I.ok.mod,I.ok.kind,I.ok.glob,I.ok.blt,I.ok.above,I.ok.inj,I.ok.has,I.ok.MA,hc,hf,I.ok.KY,I.ok.OW,I.ok.bs,I.ok.Dd,I.ok.uf,I.ok.wD,I.ok.i6,I.ok.HH⟩,I.os,I.bare,I.base,I.loc,I.cell,I.free,I.fC,
  fun p b=>I.pin p (fA _ b),I.bb,I.len⟩
theorem Sc.hand {N W G:List Str}(S:Sc X N W G):Sc (X.hand a o) N W G:=⟨S.eN,S.nd,S.R0,S.R3,S.gl⟩
def Oq (o:Obj)(C:Addr)(d:Option Addr):Prop:=o.cls=.ref C/\o.dict=d/\∃ vs,o.data=.fields vs
def Rl (names:List Str)(er:Str->Addr)(tb:Om)(i:Nat)(y:Str)(th:Str->Addr->Option Addr->TS):TS:=fun D σ H=>
 tb D (fun c C d e=>∃ x,x∈names/\C=.ref (er x)/\vO x y=true/\∀ a,th x a d {nx:=fun b=>D.nx (b.set i none),rt:=D.rt,bk:=fun b=>D.bk (b.set i none),ct:=fun b=>D.ct (b.set i none)} (c.set i (some (.ref a))) e) σ H
variable {tb:Om}{th:Str->Addr->Option Addr->TS}
theorem SS {names:List Str}{n:Str}{hpos pos:Pos}{b0:Stmt}{suite body:List Stmt}{rest:List ExceptHandler}(S:Sc X N W G)(g i:Nat)
  (hxe:X.xe=fun _ _=>False) (hc:X.calm=true) (ho:Own X) (ER:ll X.K X.mg names er) (hy:y∈names) (hb:Rk X body tb)
  (hh:∀ (a:Addr) (o:Obj) (x:Str) (d:Option Addr),x∈names->vO x y=true->Oq o (er x) d->Sc (X.hand a o) N W G->uZ (X.hand a o) (b0::suite) (th x a d))
  (hk:X.env.scope.names.lookup n=some .local) (hg:G[g]?=some y:=by rfl) (hi:N[i]?=some n:=by rfl) (hw:W[i]?=some n:=by rfl) :
  QS X (.Try body (.ExceptHandler (some (.Name y np)) (some n) (b0::suite) hpos::rest) [] [] pos) (Rl names er tb i y th):=by
 have qg:=S.gl y (gc hg);have qs:=S.R3 n (gc hw);have hN:X.N.Nodup:=by rw[S.eN];exact S.nd
 have t:X.N[i]?=some n:=by rw[S.eN];exact hi
 refine⟨fun c s σ H D I h=>?_⟩;refine wpAny_Try_except (wh (hb.h c s σ H D _ I h) (fun f B q=>?_) fun e B ⟨σ',H0,s0,I0,z⟩=>?_)
 ·cases f with
  | next=>exact wpAny_execs_nil q
  | ret v=>exact q
  | brk=>exact q
  | cont=>exact q
 obtain⟨a,T,C,d,M,rfl,os,F,un,bb,na,nT,⟨fl,ha,hT⟩,x,hx,hC,hxy,w⟩:=z
 cases hC
 have J:Inv X c σ' M B:=I0.uE (ch:=[]) os un bb F fun b z=>absurd z (by simp)
 have fr:X.A.frames=some (X.env::X.outer):=by rw[I.ok.frames,ho.1]
 have KY:B.heap.FunFrames X.base (X.env::X.outer):=by rw[<-ho.1];exact J.stack
 refine Ay fr KY ho.2 fl fun h4 T4 Z f4 k4=>?_;refine fH (l:=jb (X.env::X.outer)) f4 fun h5 f5 k5=>?_;have k45:Kept (jb (X.env::X.outer)) [a,T] B.heap h5:=k4.trans k5 fun b o e z=>by rw[ea.mp z,Z] at e;cases e
 have step:∀ (R:List Addr) (h2:Heap),(∀ b∈R,s0.heap.get? b=none/\M b=none)->Kept (jb (X.env::X.outer)) R B.heap h2->Inv X c σ' M {B with heap:=h2}:=fun R h2 O k=>by
  refine I0.uE (ch:=[]) os ?_ ?_ F fun b z=>absurd z (by simp)
  ·exact FJ un (fun b hb=>(O b hb).1) (fun b o e n1 n2=>k.1 b o e (by rw[<-ho.1];exact n1) n2) fun b o e _ n2=>k.2 b o e n2
  ·exact Ax bb (fun b o e n1 n2=>k.1 b o e (by rw[<-ho.1];exact n1) n2) J.mH fun b hb=>(O b hb).2
 have E:∀ b∈[a,T],s0.heap.get? b=none/\M b=none:=fun b hb=>by
  rcases gz.mp hb with z | z
  ·rw[z];exact⟨na,ha⟩
  ·rw[ea.mp z];exact⟨nT,hT⟩
 have I5:Inv X c σ' M {B with heap:=h5}:=step _ _ E k45;obtain⟨oe5,vs5,oT5,ts5,he5,hc5,hd5,hdt5,_⟩:=id f5;refine wpAny_handleBy_cons (codeAny_handlers_test (jJ (X:=X.held a) (I5.held a) qg.1 (ER.gl y hy) ?_ qg.2.1)) (by intro q;cases q)
 refine B3 (K:=X.K) I5.pf he5 hc5 (ER.ty y hy) (ER.cls y hy) ((ER.TU x hx y hy).trans (by rw[hxy])) ?_
 show codeAny _ _ _ _ _;refine codeAny_handlers_suite_as ?_;refine fH (l:=jb (X.env::X.outer)) f5 fun h6 f6 k6=>?_;have nT4':s0.heap.get? T4=none:=by
  cases z:s0.heap.get? T4 with
  | none=>rfl
  | some o=>
   obtain⟨o',e'⟩:=un.there T4 o z (by simp)
   rw[Z] at e';cases e'
 have k56:Kept (jb (X.env::X.outer)) [a,T] B.heap h6:=k45.trans k6 fun b o e z=>by rw[ea.mp z,Z] at e;cases e
 have I6:Inv X c σ' M {B with heap:=h6}:=step _ _ E k56;obtain⟨Q,vs6,oT6,ts6,P,hc6,hd6,p,_⟩:=id f6;have nal:a≠X.env.locals:=fun z=>by
  obtain⟨m,⟨o,es,ep,e1,e2,_⟩,_⟩:=I6.loc;rw[<-z,P] at e1;cases e1
  rw[p] at e2;cases e2
 have naf:a∉X.fs:=fun z=>by
  obtain⟨_,o,e1,e2⟩:=I6.i6.mem z;rw[P] at e1;cases e1
  exact e2 _ p
 have I7:Inv (X.hand a Q) c σ' M {B with heap:=h6}:=I6.hand P ha nal naf fun v z=>by rw[p] at z;cases z
 refine jI (X:=X.hand a Q) (v:=.ref a) I7 hN t qs.1 rfl (fun s7 I8=>?_) qs.2;refine wh ((hh a Q x d hx hxy ⟨hc6,hd6,vs6,p⟩ S.hand).h c s7 _ M _ I8 (w a)) (fun f s8 q=>?_) fun e s8 z=>?_
 ·cases f with
  | next=>
   obtain⟨σ8,U,Y,q⟩:=q;exact mT (Y.tw I.ok.hd I.ok.frames) hN t hk fun s9 j=>⟨_,U,j,q⟩
  | brk=>
   obtain⟨σ8,U,Y,q⟩:=q;exact mT (Y.tw I.ok.hd I.ok.frames) hN t hk fun s9 j=>⟨_,U,j,q⟩
  | cont=>
   obtain⟨σ8,U,Y,q⟩:=q;exact mT (Y.tw I.ok.hd I.ok.frames) hN t hk fun s9 j=>⟨_,U,j,q⟩
  | ret u=>
   obtain⟨v,σ8,U,Y,r,q⟩:=q;exact mT (Y.tw I.ok.hd I.ok.frames) hN t hk fun s9 j=>⟨v,_,U,j,r,q⟩
 ·have z':X.xe e s8:=z;rw[hxe] at z';exact z'.elim
def JZ (H:Hp):Option Addr->Prop
 | none=>True
 | some a=>∃ fs,H a=some (.xd fs)
def Ot (a:Addr)(d:Option Addr)(c:V)(b:Bool):List V->Hp->VK->Prop:=fun e H Q=>e=[.ref a,c]/\JZ H d/\Q (.bl b) H
variable {d:Option Addr}
theorem Inv.Rm {σ:St}(I:Inv (X.hand a o) pins σ H s)(ho:Oq o (er x) d)(v:JZ H d):∃ od,PySem.W.InstAt s.heap a o (er x) od:=by
 have e:=(I.pin (a,o) (SC _ fO)).1;obtain⟨h1,b,f,c⟩:=ho;have hn:notCls o=true:=by unfold notCls;rw[c]
 cases d with
 | none=>exact⟨none,⟨e,h1,hn,by rw[b];trivial⟩⟩
 | some g=>
  obtain⟨fs,q⟩:=v;obtain⟨u,z⟩:=I.bb.there q;exact⟨some u,⟨e,h1,hn,by rw[b];exact z⟩⟩
variable {names:List Str}
theorem i4 (ER:ll X.K X.mg names er)(ho:Oq o (er x) d)(hx:x∈names)(hy:y∈names):bQ (X.hand a o) (.builtin "isinstance") (Ot a d (.ref (er y)) (vO x y)):=by
 intro b s σ H j l Q I r h;obtain⟨rfl,v,q⟩:=h;obtain⟨u1,c,rfl,f,g⟩:=r.two
 cases (show u1=Value.ref a from f)
 cases (show c=Value.ref (er y) from g)
 obtain⟨i,J⟩:=I.Rm ho v;exact PySem.W.kia_one (FP (ER.cls x hx)) I.pf J (ER.TV x hx y hy) (by intro z;cases z) fun e=>⟨.bl _,H,I.tok e,rfl,q⟩
theorem Sf (S:Sc X N W G)(g:Nat)(ER:ll X.K X.mg names er)(hy:y∈names)(hg:G[g]?=some y:=by rfl):QE X (.Name y pos) (tC (.ref (er y))):=by
 have q:=S.gl y (gc hg);exact⟨mI q.1 (ER.gl y hy) rfl q.2.1⟩
variable {c:V}{Q:VK}
theorem Ma:Ot a d c b [.ref a,c] H Q=(JZ H d/\Q (.bl b) H):=by unfold Ot;simp
theorem FV:JZ H none=True:=rfl
variable {D:Ends}
theorem AA:yr E C t D σ H=t σ H fun vs H1=>vs.length<=sizeLine/\E (.ref C) none H1:=rfl
theorem Mb {names:List Str} :Rl names er tb i y th D σ H=
 tb D (fun σ' C d H'=>∃ x,x∈names/\C=.ref (er x)/\vO x y=true/\∀ a,th x a d {nx:=fun σ''=>D.nx (σ''.set i none),rt:=D.rt,bk:=fun σ''=>D.bk (σ''.set i none),ct:=fun σ''=>D.ct (σ''.set i none)} (σ'.set i (some (.ref a))) H') σ H:=rfl
theorem FW {g:TG}{W:St->XK}:L6 te g D W σ H=te σ H (fun x H1=>g x σ H1 D.nx) (W σ):=rfl
theorem yt {K:Frag}{H:Hp}:∀ bs:List Bool,ee K H (bs.map V.bl) (bs.map PyData.bool)
 | []=>.nil
 | b::bs=>.cons (.bl b) (yt bs)
theorem lp:fillsNumberSlot (.type "tuple") "mul"=pure false:=by
 first | (unfold fillsNumberSlot;kernel_rfl) | kernel_rfl
theorem tE:seqRepeat? (.type "tuple")=pure (some (.builtin "tuple.__mul__")):=by
 first | (unfold seqRepeat?;kernel_rfl) | kernel_rfl
theorem yu (a:Int)(t:Tok)(l:Addr)(dd:Option Addr)(items:Array Value)(n:Nat)(sl:Array (Option Value)) :
  Meets (Builtin.«int.__rmul__» ⟨[.int a t,.ref l],[]⟩) (fun _ R s=>s.heap.get? l=some ⟨.type "tuple",dd,.seq items n,sl⟩/\R (.ok (.ret Value.notImplemented)) s):=
 .of_wp fun b w A R s h=>by obtain⟨e,g,d,f,c⟩:=s;obtain⟨i,h⟩:=h;wp_walk;exact⟨_,rfl,h⟩
section
variable {k:Int}(t:Tok)(l:Addr)(dd:Option Addr)(it:Value)(n:Nat)(sl:Array (Option Value))
theorem FX (m:Nat):List.foldl (fun x1 x2=>x1++x2) #[] (List.replicate m #[it])=(List.replicate m it).toArray:=by
 have:∀ (m:Nat) (a:List Value),List.foldl (fun x1 x2=>x1++x2) a.toArray (List.replicate m #[it])=(a++List.replicate m it).toArray:=by
  intro m
  induction m with
  | zero=>intro a;simp
  | succ m b=>
   intro a;rw[List.replicate_succ,List.foldl_cons,show a.toArray++#[it]=(a++[it]).toArray from by simp,b,sU]
   simp[List.replicate_succ]
 simpa using this m []
theorem B4 (h1:1<k)(h2:k<=1000) :
  Meets (Builtin.«tuple.__mul__» ⟨[.ref l,.int k t],[]⟩) (fun _ R s=>s.heap.get? l=some ⟨.type "tuple",dd,.seq #[it] n,sl⟩/\R (.ok (.ret (.ref s.heap.objs.size))) {s with heap:=s.heap.push {cls:=.type "tuple",data:=.seq (List.replicate k.toNat it).toArray}}):=
 .of_wp fun b w A R s h=>by
  obtain⟨m,g,d,p,o⟩:=s;obtain⟨q,h⟩:=h;have f:(decide (k < -(2 ^ 63))||decide (k ≥ 2 ^ 63))=false:=by rw[eG (by omega),eG (by omega)];rfl
  have e:((#[it]:Array Value).isEmpty||k == 1)=false:=by rw[show (k == 1)=false from AC.mpr (by omega)];rfl
  have i:(decide (k<=0)||(#[it]:Array Value).isEmpty)=false:=by rw[eG (by omega)];rfl
  have c:¬ (((#[it]:Array Value).size:Int)*k>(2 ^ 63 - 1) / 8):=by show ¬ ((1:Int)*k>_);omega
  have sl:(sizeLine:Int) ≥ 1000:=by decide
  have j:Builtin.Tuple.tupleTooMany (((#[it]:Array Value).size:Int)*k)=false:=by
   unfold Builtin.Tuple.tupleTooMany;exact eG (by show ¬ ((1:Int)*k>_);omega)
  have a:(List.replicate k.toNat it).toArray.size<=sizeLine:=by rw[j5,Ut];omega
  unfold Builtin.«tuple.__mul__»
  k_delta "repeated"
  wp_walk
  rw[if_neg (by rw[f];exact hI)]
  wp_walk
  rw[if_neg (by rw[e];exact hI)]
  wp_walk
  rw[if_neg (by rw[i];exact hI)]
  rw[if_neg c,if_neg (by rw[j];exact hI),FX]
  unfold Builtin.Tuple.tupleExact;refine dy (GE ?_ a);exact eR ⟨_,rfl,h⟩
theorem yv :
  Meets (Builtin.«tuple.__mul__» ⟨[.ref l,.int 1 t],[]⟩) (fun _ R s=>s.heap.get? l=some ⟨.type "tuple",dd,.seq #[it] n,sl⟩/\R (.ok (.ret (.ref l))) s):=
 .of_wp fun a w A R s h=>by
  obtain⟨c,g,d,e,b⟩:=s;obtain⟨f,h⟩:=h;unfold Builtin.«tuple.__mul__»
  k_delta "repeated"
  wp_walk
  exact⟨_,rfl,h⟩
theorem yw :
  Meets (Builtin.«tuple.__mul__» ⟨[.ref l,.int 0 t],[]⟩) (fun _ R s=>s.heap.get? l=some ⟨.type "tuple",dd,.seq #[it] n,sl⟩/\R (.ok (.ret (.ref s.heap.objs.size))) {s with heap:=s.heap.push {cls:=.type "tuple",data:=.seq #[]}}):=
 .of_wp fun a w A R s h=>by
  obtain⟨c,g,d,e,b⟩:=s;obtain⟨f,h⟩:=h;unfold Builtin.«tuple.__mul__»
  k_delta "repeated"
  wp_walk
  exact⟨_,rfl,h⟩
end
def Mc (K:Frag):R2:=fun x y H Q=>∃ (l:Addr) (k:Nat) (v:V),x=.ref l/\y=.int (k:Int)/\aH K H l [v]/\k<=1000/\∀ p H',ah H H'->aH K H' p (List.replicate k v)->Q (.ref p) H'
theorem vP {v:V}{u:Value}(r:RelV v u):∀ k:Nat,Vals (List.replicate k v) (List.replicate k u)
 | 0=>.nil
 | k+1=>.cons r (vP r k)
theorem FY (h:X.K=K):dY X (binaryOp .Mult) (Mc K):=by
 subst h;intro j s σ H x y v u Q I A C h;obtain⟨l,k,w,rfl,rfl,m,hk,q⟩:=h
 cases A
 obtain⟨t,rfl⟩:=C;obtain⟨g,r,⟨⟨cls,f,data,d⟩,e,z,n,p⟩,_⟩:=I.tuple m
 simp only at z p
 subst z p;obtain⟨c,rfl,B⟩:∃ c,g=[c]/\RelV w c:=by
  cases r with
  | cons a b=>cases b;exact⟨_,rfl,a⟩
 have hz:(List.replicate k w).length<=sizeLine:=by
  have:1000<=sizeLine:=by decide
  rw[Ut];omega
 refine wpAny_binaryOp_repeat_ref (T:="tuple") (U:="int") (by decide) ⟨_,e,rfl⟩ (fun D=>typeIs_int D k t) lp F.fills_int_mul F.slot_int_rmul tE F.slot_int_index.lookup
  (T9 F.slot_int_rmul (typeIs_int s k t) F.entry_int_rmul (F.args_int_rmul_2 _ _) (yu k t l f [c].toArray n d) ⟨e,rfl,⟨_,e,rfl⟩,?_⟩)
 rcases Nat.lt_or_ge 1 k with h1 | h1
 ·refine T9 F.slot_tuple_mul ⟨_,e,rfl⟩ F.entry_tuple_mul (F.args_tuple_mul_2 _ _) (B4 t l f c n d (k:=(k:Int)) (by omega) (by omega)) ⟨e,?_⟩
  rw[zm];have i:=I.laid (t':=s.toks) (a:=s.heap.objs.size) (o:=.tup (List.replicate k w)) (h':=s.heap.push {cls:=.type "tuple",data:=.seq (List.replicate k c).toArray}) (fun _ _ q=>ed _ q) (ef _) ⟨hz,_,vP B k,_,hU _ rfl,rfl,0,rfl⟩;exact⟨.ref _,_,i,rfl,q _ _ (ah.new I.fresh _) (aH.of ag)⟩
 ·have hc:k=0∨k=1:=by omega
  rcases hc with rfl | rfl
  ·refine T9 F.slot_tuple_mul ⟨_,e,rfl⟩ F.entry_tuple_mul (F.args_tuple_mul_2 _ _) (yw t l f c n d) ⟨e,?_⟩;have i:=I.laid (t':=s.toks) (a:=s.heap.objs.size) (o:=.tup []) (h':=s.heap.push {cls:=.type "tuple",data:=.seq #[]}) (fun _ _ q=>ed _ q) (ef _) ⟨zero_le _,[],.nil,_,hU _ rfl,rfl,0,rfl⟩;exact⟨.ref _,_,i,rfl,q _ _ (ah.new I.fresh _) (aH.of ag)⟩
  ·refine T9 F.slot_tuple_mul ⟨_,e,rfl⟩ F.entry_tuple_mul (F.args_tuple_mul_2 _ _) (yv t l f c n d) ⟨e,?_⟩;exact⟨.ref l,H,I,rfl,q _ _ (ah.refl _) m⟩
theorem FZ {x y:V} :Mc K x y H Q=∃ (l:Addr) (k:Nat) (v:V),x=.ref l/\y=.int (k:Int)/\aH K H l [v]/\k<=1000/\∀ p H',ah H H'->aH K H' p (List.replicate k v)->Q (.ref p) H':=rfl
def AB (K:Frag)(x:Str)(C:Addr)(fields:List Str):Bool:=
 nsIn K mainGlobals x == some (some (.ref C))&&plainGet K C Str.empty&&hasDictIn K C&&plainOver K C&&findIn K (.ref C) "__setattr__" == some (some (.builtin "object.__setattr__"))&&
 makesIn K C&&keepIn K (.ref C)&&fields.all fun f=>findIn K (.ref C) f == some none
structure fi (K:Frag)(mg:Str->Option Value)(x:Str)(C:Addr)(fields:List Str):Prop where
 gl:mg x=some (.ref C)
 cls:K5 K C
 makes:makesIn K C=true
 kp:keepIn K (.ref C)=true
 no:∀ f∈fields,nj K C f
variable {fields:List Str}
theorem AD {x:Str}(X:K.In h)(G:h.Ns mainGlobals mg)(e:AB K x C fields=true):fi K mg x C fields:=by
 unfold AB at e;simp only[Bool.and_eq_true,beq_iff_eq,List.all_eq_true] at e;obtain⟨⟨⟨⟨⟨⟨⟨a,b⟩,c⟩,d⟩,f⟩,g⟩,i⟩,j⟩:=e;exact⟨mg_of X G a,⟨b,c,d,f⟩,g,i,j⟩
structure mx (K:Frag)(C:Addr)(m qual:Str)(st:Stmt):Prop where
 ex:∃ f fd,HA K m qual st f fd/\Meth K C m f
variable {m:Str}
theorem J0 {oc:Value}{od an:Option Addr}{osl:Array (Option Value)}{kV doc pm cp ct:Value}
  (a:findIn K (.ref C) m=some (some (.ref f))) (l:K.lookup f=some ⟨oc,od,.func (fnOf m qual (bf st) (aO st) (ai st) .none kV doc pm an cp ct),osl⟩)
  (c:codeIn K cp qual=true) (k:keepIn K (.ref f)=true) (i:isFn K (.ref f)=true):mx K C m qual st:=⟨f,_,xB l c k,a,i,k⟩
def me (s:Stmt)(j:Nat):Stmt:=match s with
 | .ClassDef _ _ _ a _ _ _ _ _ _ _=>a.getD j (.Pass ⟨0,0,0,0⟩)
 | _=>.Pass ⟨0,0,0,0⟩
structure qX (P:Program)(w:World)(K:Frag)(mg:Str->Option Value)(base:Heap)(k:Nat)(C:Addr)(m:Str)(ps:List Str)(sp:Sp):Prop where
 ex:∃ f fd,eK P w K mg base (kE P w) k f fd ps sp/\Meth K C m f/\Binds K fd ps []
theorem eK.lift {fd:FuncData}(F:eK P w K mg base Bu k f fd ps sp):eK P w K mg base (kE P w) k f fd ps sp:=
 ⟨F.len,fun A a s H b i c Q E d h hb hv hs=>Ui (F.run A a s H b i c Q E d h hb hv hs) fun r j z=>by
  cases r with
  | error e=>exact False.elim z
  | ok g=>cases g<;>exact z⟩
theorem mx.ge (D:mx K C m qual st)(S:DS (ai st) N ps G)
  (hb:∀ (kV doc pm:Value) (an:Option Addr) (cp ct:Value) (us:List Value),us.length=ps.length->bindArgs (fnOf m qual (bf st) (aO st) (ai st) .none kV doc pm an cp ct) ⟨us,[]⟩=pure (ps.zip us))
  (len:∀ vs H Q E,sp vs H Q E->vs.length=ps.length)
  (cU:∀ (X:Cx) (E:XK),Sc X N N G->X.prog=P->X.w=w->X.K=K->X.mg=mg->X.base=base->X.calm=true->X.env.scope=ai st->Own X->Raises X E->Passes (kE P w) X E->bY k X.A->X.A.units+64<cLine->
   ∀ (H:Hp) (vs:List V) (Q:VK),sp vs H Q E->∃ t,uZ X (aO st) t/\t {nx:=fun _ H'=>Q .br H',rt:=Q} (L2.start N vs) H):qX P w K mg base (k+1) C m ps sp:=by
 obtain⟨f,e,F,M⟩:=D.ex;refine⟨f,e,?_,M,F.binds hb⟩;obtain⟨j,l,kV,doc,pm,an,cp,ct,i,rfl,g,c⟩:=F.ex;refine uP g c S.fs len fun A b s H vs Q E d a=>?_;obtain⟨t,h,q⟩:=cU _ E S.Th rfl rfl rfl rfl rfl rfl rfl ⟨rfl,rfl⟩ (fun _ _ _ _ _ _ _ _ I M q=>nW I M q) qW d d.units H vs Q a;exact⟨t,h.h,q⟩
theorem mx.gq (D:mx K C m qual st)(S:DS (ai st) N ps G)
  (hb:∀ (kV doc pm:Value) (an:Option Addr) (cp ct:Value) (us:List Value),us.length=ps.length->bindArgs (fnOf m qual (bf st) (aO st) (ai st) .none kV doc pm an cp ct) ⟨us,[]⟩=pure (ps.zip us))
  (len:∀ vs H Q E,sp vs H Q E->vs.length=ps.length)
  (cU:∀ (X:Cx),Sc X N N G->X.prog=P->X.w=w->X.K=K->X.mg=mg->X.base=base->X.calm=true->X.env.scope=ai st->X.xe=(fun _ _=>False)->bY k X.A->X.A.units+64<cLine->
   ∀ (H:Hp) (vs:List V) (Q:VK) (E:XK),sp vs H Q E->∃ t,uZ X (aO st) t/\t {nx:=fun _ H'=>Q .br H',rt:=Q} (L2.start N vs) H):qX P w K mg base (k+1) C m ps sp:=by
 obtain⟨f,c,F,M⟩:=D.ex;refine⟨f,c,eK.lift ?_,M,F.binds hb⟩;refine F.ok S.fs len fun cp A a s H vs Q E b h=>?_;obtain⟨t,z,y⟩:=cU _ S.cx rfl rfl rfl rfl rfl rfl rfl rfl b b.units H vs Q E h;exact⟨t,z.h,y⟩
def To (C:Addr)(f:Str)(ta:TE):TE:=fun σ H Q=>ta σ H fun x H1=>∃ a dx fs v,x=.ref a/\H1 a=some (.ins C dx fs)/\fs.lookup f=some v/\Q v H1
def Tp (C:Addr)(f:Str)(ta tv:TE):TS:=fun D σ H=>tv σ H fun y H1=>ta σ H1 fun x b=>∃ a dx fs,x=.ref a/\b a=some (.ins C dx fs)/\fs.length<1000/\D.nx σ (upd b a (.ins C dx (dz f y fs)))
variable {f:Str}{ta:TE}
theorem vQ (T:fi X.K X.mg x C fields)(he:QE X e ta)(hf:f∈fields:=by decide)(hb:attributeBase e f X.env (eval e X.env)=eval e X.env:=by rfl):QE X (.Attribute e f pos) (To C f ta):=by
 refine⟨fun b s σ H Q I h=>Ij hb (bP (he.h b s σ H _ I h) fun u p ⟨x,H1,m,g,a,o,fs,v,j,d,l,q⟩=>?_)⟩;subst j;obtain rfl:u=Value.ref a:=g;exact xm m d T.cls (T.no f hf) l fun r n i c=>⟨v,H1,i,c,q⟩
variable {o value:Expr}
theorem O9 (T:fi X.K X.mg x C fields)(ha:QE X o ta)(hv:QE X value tv)(hf:f∈fields:=by decide)(hs:swapsWith value (some (.Attribute o f pos')) pos.line X.env=pure false:=by rfl):QS X (.Assign [.Attribute o f pos'] value pos) (Tp C f ta tv):=by
 refine⟨fun b s σ H D I h=>plainObj_wpAny_Assign_Attribute (bP (hv.h b s σ H _ I h) fun u i ⟨y,H1,p,r,q⟩=>bP (ha.h b i σ H1 _ p q) fun c t ⟨x,v,j,e,a,z,fs,m,d,l,n⟩=>?_) hs⟩;subst m;obtain rfl:c=Value.ref a:=e;exact xn j d T.cls (T.no f hf) l r fun w g=>⟨σ,_,g,n⟩
variable {apos:Pos}
theorem Rn {pl:Sem Bool}(T:fi X.K X.mg x C fields)(F:qX X.prog X.w X.K X.mg X.base k C m ps sp)(hx:Passes (kE X.prog X.w) X E)(hr:bY n X.A)(he:QE X o ta)(ha:QB X (e::es) t)(hk:k<=n:=by decide)
  (ht:eval (.Call (.Attribute o m apos) (e::es) [] pos) X.env=(do
   let ov<-eval o X.env
   standAt apos.atName
   let (f,first)<-holding [ov] (getMethod ov m pl)
   callWith pos f first (backTo pos (starEach (e::es) X.env)) (backToKw pos (keywordEach [] X.env))):=by rfl) :
  QE X (.Call (.Attribute o m apos) (e::es) [] pos) (qi C m sp [] E ta t):=by
 obtain⟨f,a,F,M,hb⟩:=F.ex;exact⟨Io he.h T.cls M F (hr.mono hk) hb .nil hx ha.h.pa (aW ha.h.he) (cy ha.h.zN) ht⟩
theorem SU {pl:Sem Bool}(T:fi X.K X.mg x C fields)(F:qX X.prog X.w X.K X.mg X.base k C m ps sp)(hx:Passes (kE X.prog X.w) X E)(hr:bY n X.A)(he:QE X o ta)(hk:k<=n:=by decide)
  (ht:eval (.Call (.Attribute o m apos) [] [] pos) X.env=(do
   let ov<-eval o X.env
   standAt apos.atName
   let (f,first)<-holding [ov] (getMethod ov m pl)
   callWith pos f first (backTo pos (starEach [] X.env)) (backToKw pos (keywordEach [] X.env))):=by rfl) :
  QE X (.Call (.Attribute o m apos) [] [] pos) (qi C m sp [] E ta uM):=by
 obtain⟨f,a,F,M,hb⟩:=F.ex;exact⟨Dx he.h T.cls M F (hr.mono hk) hb .nil hx ht⟩
theorem TM (S:Sc X N W G)(g:Nat)(T:fi X.K X.mg x C fields)(F:qX X.prog X.w X.K X.mg X.base k C "__init__" ps sp)(hx:Passes (kE X.prog X.w) X E)(hr:bY n X.A)(ha:QB X (e::es) t)(hk:k+1<=n:=by decide)(hg:G[g]?=some x:=by rfl) :
  QE X (.Call (.Name x p) (e::es) [] pos) (qj C sp [] E t):=by
 obtain⟨f,a,F,M,hb⟩:=F.ex;have q:=S.gl x (gc hg);exact⟨zD ⟨T.makes,M.at_,M.fn,T.kp⟩ F (hr.mono hk) q.1 T.gl hb .nil hx ha.h.pa q.2.1 (aW ha.h.he) (cy ha.h.zN)⟩
theorem Ro:To C f ta σ H Q=ta σ H fun x H1=>∃ a dx fs v,x=.ref a/\H1 a=some (.ins C dx fs)/\fs.lookup f=some v/\Q v H1:=rfl
theorem Md:Tp C f ta tv D σ H=tv σ H fun y H1=>ta σ H1 fun x H2=>∃ a dx fs,x=.ref a/\H2 a=some (.ins C dx fs)/\fs.length<1000/\D.nx σ (upd H2 a (.ins C dx (dz f y fs))):=rfl
theorem F0:qi C m sp [] E ta t σ H Q=ta σ H fun x H1=>∃ a dx fs,x=.ref a/\H1 a=some (.ins C dx fs)/\fs.lookup m=none/\t σ H1 fun vs H2=>sp (x::vs) H2 Q E:=by
 unfold qi;simp only[append_nil]
theorem Ga:qj C sp [] E t σ H Q=t σ H fun vs H1=>∀ x dx,H1 x=none->H1 dx=none->dx≠x->sp (.ref x::vs) (upd (upd H1 dx (.own x)) x (.ins C dx [])) (fun v H2=>v=.br/\Q (.ref x) H2) E:=by
 unfold qj;simp only[append_nil]
def cI (cs hs:List Int):Bool:=decide (hs.length=cs.length)&&(List.range cs.length).all fun k=>decide (0<=hs.getD k 0)&&decide (hs.getD k 0<cs.getD k 0)
def Me (K:Frag):Sp:=fun a H Q _=>∃ (c h:Addr) (cs hs:List Int),a=[.ref c,.ref h]/\aH K H c (cs.map V.int)/\aH K H h (hs.map V.int)/\cs.length<=90/\∀ H',ah H H'->Q (.bl (cI cs hs)) H'
def xb (c g n:Addr):List (Str × V):=[("counts",.ref c),("groups",.ref g),("worn",.ref n)]
structure cj (K:Frag)(C:Addr)(H:Hp)(a:Addr)(c g:Addr)(cs:List Int)(us:List V)(hs:List Int):Prop where
 ex:∃ dx n,H a=some (.ins C dx (xb c g n))/\aH K H n (hs.map V.int)
 OV:aH K H c (cs.map V.int)
 Pe:aH K H g us
def AE (K:Frag)(C:Addr)(er:Str->Addr):Sp:=fun a H Q E=>∃ (x dx c w g:Addr) (cs:List Int) (ws:List Nat) (us:List V) (L:List (Bool × List Int)),a=[.ref x,.ref c,.ref w,.ref g]/\H x=some (.ins C dx [])/\aH K H c (cs.map V.int)/\aH K H w ((aD ws).map V.int)/\aH K H g us/\GI K H us L/\ws.length=cs.length/\cs.length<=8/\(∀ g∈L,g.2.length<=30)/\L.length<=30/\
 (C8 cs ws [] 0 L≠none->∀ H',ah H H'->E (.ref (er "NoGroups")) none H')/\(C8 cs ws [] 0 L=none->∀ H',Off x H H'->cj K C H' x c g cs us (List.replicate cs.length 0)->Q .br H')
def HE (c:Addr):List (Str × V):=[("counts",.ref c)]
def nZ (c g:Addr):List (Str × V):=[("counts",.ref c),("groups",.ref g)]
variable {c:Addr}
theorem B5:dz "counts" (.ref c) []=HE c:=rfl
variable {g:Addr}
theorem B6:dz "groups" (.ref g) (HE c)=nZ c g:=by
 unfold HE dz;rw[if_neg (by decide)];rfl
variable {n:Addr}
theorem J1:dz "worn" (.ref n) (nZ c g)=xb c g n:=by
 unfold nZ dz;rw[if_neg (by decide)];unfold dz;rw[if_neg (by decide)];rfl
theorem Gb {m:Addr}:dz "worn" (.ref m) (xb c g n)=xb c g m:=by
 unfold xb dz;rw[if_neg (by decide)];unfold dz;rw[if_neg (by decide)];unfold dz;rw[if_pos rfl]
theorem lq:(xb c g n).lookup ("counts":Str)=some (.ref c):=rfl
theorem qY:(xb c g n).lookup ("groups":Str)=some (.ref g):=by
 unfold xb;rw[SL,show (("groups":Str) == ("counts":Str))=false from by decide];rfl
theorem mU:(xb c g n).lookup ("worn":Str)=some (.ref n):=by
 unfold xb;rw[SL,show (("worn":Str) == ("counts":Str))=false from by decide];dsimp only;rw[SL,show (("worn":Str) == ("groups":Str))=false from by decide];rfl
theorem vR (h1:(m == ("counts":Str))=false:=by decide)(h2:(m == ("groups":Str))=false:=by decide)(h3:(m == ("worn":Str))=false:=by decide):(xb c g n).lookup m=none:=by
 unfold xb;rw[SL,h1];dsimp only;rw[SL,h2];dsimp only;rw[SL,h3];rfl
variable {r dx:Addr}{fs:List (Str × V)}{H':Hp}{xs:List V}
theorem aH.dh (s:Off a H H')(ha:H a=some (.ins C dx fs))(h:aH K H r xs):aH K H' r xs:=by
 rcases h with (h | ⟨o,h⟩) | h
 ·exact .inl (.inl (s r _ (cF h ha fun z=>nomatch z) h))
 ·exact .inl (.inr ⟨o,s r _ (cF h ha fun z=>nomatch z) h⟩)
 ·exact .inr h
theorem qG.dh {p:Addr}(s:Off a H H')(ha:H a=some (.ins C dx fs)):qG K H p->qG K H' p
 | .inl h=>.inl h
 | .inr ⟨o,u,h,c⟩=>.inr ⟨o,u,s p _ (cF h ha fun z=>nomatch z) h,c⟩
theorem GF.dh (s:Off a H H')(ha:H a=some (.ins C dx fs)):∀ {vs:List V} {L:List (Bool × List Nat)},GF K H vs L->GF K H' vs L
 | [],[],h=>h
 | _::_,_::_,⟨⟨r,p,e,h,b,t⟩,q⟩=>⟨⟨r,p,e,h.dh s ha,b.dh s ha,t.dh s ha⟩,GF.dh s ha q⟩
 | [],_::_,h=>h.elim
 | _::_,[],h=>h.elim
variable {us:List V}{cs:List Int}
theorem cj.off {n':Addr}{hs hs':List Int}(h:cj K C H a c g cs us hs)(s:Off a H H')(e:∃ dx,H' a=some (.ins C dx (xb c g n')))(hn:aH K H' n' (hs'.map V.int)):cj K C H' a c g cs us hs':=by
 obtain⟨dx,n,d,_⟩:=h.ex;obtain⟨b,e⟩:=e;exact⟨⟨b,n',e,hn⟩,h.OV.dh s d,h.Pe.dh s d⟩
theorem cj.mono {hs:List Int}(h:cj K C H a c g cs us hs)(s:ah H H'):cj K C H' a c g cs us hs:=by
 obtain⟨d,n,b,hn⟩:=h.ex;exact⟨⟨d,n,s _ _ b,s.aJ hn⟩,s.aJ h.OV,s.aJ h.Pe⟩
def vS (K:Frag)(C:Addr)(er:Str->Addr):Sp:=fun b H Q E=>∃ (a hb c g:Addr) (cs hs0 hs:List Int) (us:List V),b=[.ref a,.ref hb]/\cj K C H a c g cs us hs0/\aH K H hb (hs.map V.int)/\cs.length<=90/\
 (cI cs hs=false->∀ H',ah H H'->E (.ref (er "NoHats")) none H')/\(cI cs hs=true->∀ H',Off a H H'->cj K C H' a c g cs us hs->Q .br H')
def Gd (K:Frag)(C:Addr)(er:Str->Addr):Sp:=fun b H Q E=>∃ (a c g:Addr) (cs hs0:List Int) (us:List V) (i col:Int),b=[.ref a,.int i,.int col]/\cj K C H a c g cs us hs0/\hs0.length=cs.length/\cs.length<=90/\
 (¬ (0<=i/\i<(cs.length:Int))->∀ H',ah H H'->E (.ref (er "NoName")) none H')/\(0<=i/\i<(cs.length:Int)->cI cs (hs0.set i.toNat col)=false->∀ H',ah H H'->E (.ref (er "NoHats")) none H')/\
 (0<=i/\i<(cs.length:Int)->cI cs (hs0.set i.toNat col)=true->∀ H',Off a H H'->cj K C H' a c g cs us (hs0.set i.toNat col)->Q .br H')
def n9 (K:Frag)(C:Addr):Sp:=fun b H Q _=>∃ (a c g:Addr) (cs hs:List Int) (ws:List Nat) (us:List V) (L:List (Bool × List Nat)) (i:Nat),b=[.ref a,.int i]/\cj K C H a c g cs us hs/\GF K H us L/\bW cs/\HN cs hs cs.length/\BN cs ws L/\i<cs.length/\∀ H',ah H H'->Q (.int (x9 cs L hs i)) H'
structure Tq (cs:List Int)(g:Bool × List Nat):Prop where
 lt:∀ x∈g.2,x<cs.length
 nd:g.2.Nodup
 ne:1<=g.2.length
 ring:g.1=true->2<=g.2.length/\∀ x∈g.2,cs.getD x 0=2
 J7:g.1=false->nM g.2=true
def gI (L:List (Bool × List Nat)):List (Bool × List Int):=L.map fun g=>(g.1,aD g.2)
theorem GF.gi {K:Frag}{H:Hp}:∀ {vs:List V} {L:List (Bool × List Nat)},GF K H vs L->GI K H vs (gI L)
 | [],[],h=>h
 | _::_,_::_,⟨⟨r,p,e,h,a,_⟩,q⟩=>⟨⟨r,p,e,h,a⟩,GF.gi q⟩
 | [],_::_,h=>h.elim
 | _::_,[],h=>h.elim
variable {g:Bool × List Nat}
theorem Ou (h:QP cs ws g)(a:Tq cs g):C7 cs ws (g.1,aD g.2)=true:=by
 unfold C7;have b:decide (1<=(aD g.2).length)=true:=ek (by rw[ao];exact a.ne)
 have c:HD cs.length (aD g.2)=true:=by
  unfold HD aD;rw[On,kf];intro x hx
  have:=a.lt x hx
  simp only[Function.comp,Bool.and_eq_true,decide_eq_true_eq]
  omega
 show (decide (1<=(aD g.2).length)&&(HD cs.length (aD g.2)&&BO cs ws g.1 (nats (aD g.2))))=true;rw[b,c,EW,qE,qE];unfold BO
 cases hb:g.1 with
 | true=>
  obtain⟨d,hc,hs⟩:=h.ring hb;rw[if_pos rfl,h9];refine⟨?_,?_⟩
  ·unfold je;rw[ek d,ek h.nd,qE,qE,kf];intro k hk;have hk:=ls.mp hk
   have:=hs (ahead g.2.length k) (by unfold ahead;split<;>omega)
   have e:(ahead g.2.length k+1) % g.2.length=k:=by
    unfold ahead
    split
    ·rename_i z;rw[show g.2.length - 1+1=g.2.length by omega,Nat.mod_self,z]
    ·rw[show k - 1+1=k by omega,mod_eq_of_lt hk]
   rw[e] at this;exact this
  ·rw[kf];exact fun x hx=>ek (hc x hx)
 | false=>
  rw[if_neg hI,a.J7 hb,qE];unfold cN;rw[kf];intro x hx;rw[kf];intro y hy
  by_cases e:y=x
  ·rw[ek e];rfl
  ·rw[h.J7 hb x hx y hy (Ne.symm e),Bool.or_true]
theorem AF {cs:List Int}{ws:List Nat}:∀ {L:List (Bool × List Nat)} {gone:List Nat} {k:Nat},(∀ g∈L,QP cs ws g/\Tq cs g)->(L.Pairwise fun g h=>∀ x∈g.2,x∉h.2)->(∀ g∈L,∀ x∈g.2,x∉gone)->C8 cs ws (aD gone) k (gI L)=none
 | [],_,_,_,_,_=>rfl
 | g::L,gone,k,h,d,n=>by
  have h1:=h g fO;show (if (C7 cs ws (g.1,aD g.2)&&!((aD g.2).any fun i=>decide (i∈aD gone)))=true then C8 cs ws (aD gone++aD g.2) (k+1) (gI L) else some k)=none
  have e:((aD g.2).any fun i=>decide (i∈aD gone))=false:=by
   rw[List.any_eq_false];intro i hi;obtain⟨x,hx,rfl⟩:=j9.mp hi;rw[o6];exact fun z=>n g fO x hx (mL.mp z)
  rw[Ou h1.1 h1.2,e,if_pos (by decide),<-dN]
  obtain⟨c,f⟩:=List.pairwise_cons.mp d;refine AF (fun b a=>h b (fA _ a)) f fun b a x hx z=>?_
  rcases kb.mp z with z | z
  ·exact n b (fA _ a) x hx z
  ·exact c b a x z hx
theorem vT (row:List Nat)(p:Nat->Bool):(((List.range (aD row).length).filter fun j=>p (row.getD j 0)).map fun j=>((row.getD j 0:Nat):Int))=aD (row.filter p):=by
 have e:row=(List.range row.length).map fun k=>row.getD k 0:=by
  apply ext_getElem
  ·simp
  ·intro i h1 a;simp[h1]
 have f:=List.filter_map (f:=fun k=>row.getD k 0) (p:=p) (l:=List.range row.length);rw[<-e] at f;rw[ao,f];unfold aD;rw[kJ]
 rfl
def ir (cs hs:List Int)(L:List (Bool × List Nat)):List Nat:=(List.range cs.length).filter fun i=>decide (x9 cs L hs i=hs.getD i 0)
theorem Ge {hs:List Int}(h:HN cs hs cs.length):cI cs hs=true:=by
 unfold cI;rw[ek h.1,qE,kf];intro k hk
 have:=h.2 k (ls.mp hk)
 rw[ek this.1,ek this.2]
 rfl
theorem HN.Ov (h:∀ c∈cs,1<=c):HN cs (List.replicate cs.length 0) cs.length:=by
 refine⟨Ut,fun i hi=>?_⟩
 have:=h _ (L2.getD_mem hi)
 rw[show (List.replicate cs.length (0:Int)).getD i 0=0 by rw[cc,List.getElem?_replicate,if_pos hi];rfl]
 omega
variable {B:TS}
theorem SV {A:TS}{σ:L2.St}(I:L2.St->Hp->Prop)(h2:∀ σ' H',I σ' H'->B D σ' H')(h1:∀ R:L2.St->Hp->Prop,(∀ σ' H',I σ' H'->R σ' H')->A {D with nx:=R} σ H):Bb A B D σ H:=h1 (B D) h2
def Gf (C:Addr)(m:Str)(sp:Sp)(ta:TE)(t:TA):Rj:=fun σ H Q E=>ta σ H fun x H1=>∃ a dx fs,x=.ref a/\H1 a=some (.ins C dx fs)/\fs.lookup m=none/\t σ H1 fun b c=>sp (x::b) c Q E
variable {n:Nat}
theorem TN {pl:Sem Bool}(hxe:X.xe=fun _ _=>False)(T:fi X.K X.mg x C fields)(F:qX X.prog X.w X.K X.mg X.base k C m ps sp)(hr:bY n X.A)(he:QE X o ta)(ha:QB X (e::es) t)(hk:k<=n:=by decide)
  (ht:eval (.Call (.Attribute o m apos) (e::es) [] pos) X.env=(do
   let ov<-eval o X.env
   standAt apos.atName
   let (f,first)<-holding [ov] (getMethod ov m pl)
   callWith pos f first (backTo pos (starEach (e::es) X.env)) (backToKw pos (keywordEach [] X.env))):=by rfl) :
  Tj X (.Call (.Attribute o m apos) (e::es) [] pos) (Gf C m sp ta t):=by
 obtain⟨f,U,F,M,hb⟩:=F.ex;refine⟨fun b s σ H Q E I h=>?_⟩;refine methodCall_KW (pl:=pl) (wh (he.h b s σ H _ I h) (fun u P ⟨x,H1,y,J,a,S,fs,p,O,l,q⟩=>?_) fun x B z=>by rw[hxe] at z;exact z.elim) ht
 subst p;obtain rfl:u=Value.ref a:=J;refine jn y O T.cls M l ?_;refine callWith_K (first:=[.ref a]) (h₀:=X.base) I.ok.mod.MD M.kp (wh (ha.h.pa pos b P σ H1 _ y q) (fun g i ⟨D,j,d,r,G⟩=>⟨d.pf,?_⟩) fun x B z=>by rw[hxe] at z;exact z.elim) (aW ha.h.he) (cy ha.h.zN)
 have v:Vals (V.ref a::D) (Value.ref a::g):=.cons rfl r;have N:(Value.ref a::g).length=ps.length:=by rw[<-v.length];exact F.len _ _ _ _ G
 have c:=hb i (Value.ref a::g) d.pf (by rw[Um];exact N)
 rw[Um] at c;refine wpAny_call (Ui (F.run X.A X.stack i j ⟨Value.ref a::g,[]⟩ (Value.ref a::g) (V.ref a::D) Q E (hr.mono hk) d.Nk c v G) fun r B hq=>?_)
 cases r with
 | error e=>exact⟨j,i,d,hq⟩
 | ok R=>
  cases R with
  | ret u=>exact d.after hq
  | next=>exact False.elim hq
  | brk=>exact False.elim hq
  | cont=>exact False.elim hq
theorem Rp {a b v:Int}{j1 j2:Nat}{p1 pos:Pos}(hc:kL a b)(hv:a ^ b.toNat=v):QE X (.BinOp (.Constant (.int a) j1 p1) .Pow (.Constant (.int b) j2 p2) pos) (tC (.int v)):=
 ⟨fun c s σ H Q I h=>(aR jk (aw (i:=a)) (aw (i:=b))).h c s σ H Q I (by
  show ∃ i j,V.int a=.int i/\V.int b=.int j/\kL i j/\Q (.int (i ^ j.toNat)) H;exact⟨a,b,rfl,rfl,hc,by rw[hv];exact h⟩)⟩
theorem AG:Gf C m sp ta t σ H Q E=ta σ H fun x H1=>∃ a dx fs,x=.ref a/\H1 a=some (.ins C dx fs)/\fs.lookup m=none/\t σ H1 fun vs H2=>sp (x::vs) H2 Q E:=rfl
theorem Ow (L:List (Bool × List Nat)):(gI L).length=L.length:=di _
theorem ah.Gg (s:ah H H'){b:Addr}(h:H' b=none):H b=none:=by
 cases e:H b with
 | none=>rfl
 | some o=>rw[s _ _ e] at h;cases h
def Sub (a m:Nat):Prop:=∀ j,a.testBit j=true->m.testBit j=true
def Rq (a b:Nat):Prop:=∀ j,a.testBit j=true->b.testBit j=false
variable {a b:Nat}
theorem Sub.trans {c:Nat}(h:Sub a b)(k:Sub b c):Sub a c:=fun j hj=>k j (h j hj)
variable {m:Nat}
theorem Sub.and (h:Sub a m):m&&& a=a:=sI.mpr h
theorem J4 (a b:Nat):a&&& b=2*(a / 2&&& b / 2)+(a % 2)*(b % 2):=by
 have h1:(a&&& b) / 2=a / 2&&& b / 2:=Nat.and_div_two;have c:(a&&& b) % 2=(a % 2)*(b % 2):=by
  have:=Nat.and_mod_two_pow (a:=a) (b:=b) (n:=1)
  rw[Nat.pow_one] at this;rw[this]
  rcases Ub a with e | e<;>rcases Ub b with f | f<;>rw[e,f]<;>decide
 omega
theorem Sub.le (h:Sub a m):a<=m:=by
 have:=h.and
 rw[<-this];exact Nat.and_le_left
theorem J5:∀ (m:Nat),0<m->∃ i,m.testBit i=true/\m - (m&&& (m - 1))=2 ^ i:=by
 intro m
 induction m using Nat.strongRecOn with
 | _ m b=>
  intro d;have hm:=J4 m (m - 1)
  rcases Ub m with e | e
  ·obtain⟨i,h1,f⟩:=b (m / 2) (by omega) (by omega)
   refine⟨i+1,by rw[Nat.testBit_succ];exact h1,?_⟩
   have a:(m - 1) / 2=m / 2 - 1:=by omega
   rw[a,e,Nat.zero_mul] at hm;rw[Nat.pow_succ]
   omega
  ·refine⟨0,by rw[Nat.testBit_zero,e];rfl,?_⟩
   have a:(m - 1) / 2=m / 2:=by omega
   have c:(m - 1) % 2=0:=by omega
   rw[a,c,Nat.and_self] at hm;rw[Nat.pow_zero]
   omega
theorem km (h:Sub a m)(j:Nat):(m - a).testBit j=(m.testBit j&&!a.testBit j):=by
 have:=ig m a j
 rwa [h.and] at this
theorem tF (h:Rq a b)(j:Nat):(a+b).testBit j=(a.testBit j||b.testBit j):=by
 have z:a&&& b=0:=by
  apply T6
  intro j;rw[testBit_and,zero_testBit]
  cases e:a.testBit j with
  | false=>rfl
  | true=>rw[h j e];rfl
 rw[nE,z,Nat.add_zero,testBit_or]
theorem tG (h:m.testBit i=true):Sub (2 ^ i) m:=fun j hj=>by
 rw[I1,o6] at hj;rw[<-hj];exact h
theorem fj (h:m.testBit i=true)(j:Nat):(m - 2 ^ i).testBit j=(m.testBit j&&!decide (i=j)):=by
 rw[km (tG h),I1]
def Tr (m:Nat)(l:List Nat):Prop:=(∀ a∈l,Sub a m)/\l.Pairwise Rq
def val (v:Nat->Nat)(l:List Nat):Nat:=(l.map v).sum
variable {l:List Nat}
theorem J6 {part:Nat}(hi:m.testBit i=true)(hp:Sub part (m - 2 ^ i))(h:Tr ((m - 2 ^ i) - part) l):Tr m ((2 ^ i+part)::l):=by
 have b:Rq (2 ^ i) part:=fun j hj=>by
  rw[I1,o6] at hj
  cases e:part.testBit j with
  | false=>rfl
  | true=>
   have:=hp j e
   rw[fj hi,hj] at this
   simp at this
 have d:Sub (2 ^ i+part) m:=fun j hj=>by
  rw[tF b,Ug] at hj
  rcases hj with hj | hj
  ·exact tG hi j hj
  ·have:=hp j hj
   rw[fj hi,h9] at this;exact this.1
 have c:Sub (m - 2 ^ i - part) m:=fun j hj=>by
  rw[km hp,fj hi,h9,h9] at hj;exact hj.1.1
 refine⟨fun a f=>?_,List.pairwise_cons.mpr ⟨fun a f j hj=>?_,h.2⟩⟩
 ·rcases gz.mp f with e | e
  ·rw[e];exact d
  ·exact(h.1 a e).trans c
 ·cases e:a.testBit j with
  | false=>rfl
  | true=>
   have:=h.1 a f j e
   rw[km hp,fj hi] at this;rw[tF b,Ug,I1,o6] at hj
   rcases hj with hj | hj
   ·rw[hj] at this;simp at this
   ·rw[hj] at this;simp at this
theorem lr {x:Nat}(h:m<2 ^ n)(hx:m.testBit x=true):x<n:=A7 fun q=>by
 rw[jq h (by omega)] at hx;cases hx
theorem fk {x:Nat}:x∈aL m↔m.testBit x=true:=by
 unfold aL;rw[u5,ls];exact⟨fun h=>h.2,fun h=>⟨lr Nat.lt_log2_self h,h⟩⟩
theorem mf (m:Nat):(aL m).Pairwise (· < ·):=List.pairwise_lt_range.sublist filter_sublist
theorem dj (m:Nat):(aL m).Nodup:=(mf m).imp fun h=>by omega
theorem B7 (m:Nat):mask (aL m)=m:=by
 apply T6
 intro j;rw[f9 (dj m)]
 by_cases c:m.testBit j=true
 ·rw[c,ek (fk.mpr c)]
 ·rw[eG (fun z=>c (fk.mp z))]
  cases e:m.testBit j with
  | false=>rfl
  | true=>exact absurd e c
def tH (cs:List Int)(l:List Nat):Int:=de (pr (vo cs l)) (vo cs l) / pr (vo cs l)
def J7 (cs:List Int)(ws:List Nat)(m:Nat):Int:=if cN ws (aL m)=true then tH cs (aL m) else 0
theorem Gh (hp:∀ c∈cs,1<=c)(hl:∀ x∈l,x<cs.length):∀ c∈vo cs l,1<=c:=fun c hc=>by
 unfold vo at hc;obtain⟨x,hx,e⟩:=j9.mp hc;rw[<-e];exact hp _ (getD_mem (hl x hx))
theorem pI (hp:∀ c∈cs,1<=c)(hl:∀ x∈l,x<cs.length):0<=tH cs l:=by
 have h:=Gh hp hl;have h1:=ny h;exact Int.ediv_nonneg (ia (by omega) h) (by omega)
structure GG (cs:List Int)(ws:List Nat)(m:Nat)(g:Bool × List Nat):Prop where
 ok:QP cs ws g
 ne:g.2≠[]
 rise:g.1=false->g.2.Pairwise (· < ·)
 Tb:∀ x∈g.2,m.testBit x=true
theorem GG.mono {k:Nat}(h:GG cs ws k g)(s:Sub k m):GG cs ws m g:=⟨h.ok,h.ne,h.rise,fun x hx=>s x (h.Tb x hx)⟩
theorem yy (h:cN ws l=true):∀ x∈l,∀ y∈l,x≠y->e9 ws x y=true:=fun x hx y hy n=>by
 unfold cN at h;rw[kf] at h
 have:=h x hx
 rw[kf] at this
 have:=this y hy
 rw[Ug,o6] at this
 rcases this with e | e
 ·exact absurd e.symm n
 ·exact e
theorem yz (cs:List Int)(l:List Nat):pF cs (false,l)=tH cs l:=rfl
def tJ (cs:List Int)(l:List Nat):List Nat:=l.filter fun i=>decide (cs.getD i 0=2)
def iu (ws l:List Nat):List Nat:=(List.range ws.length).map fun i=>if i∈l then ws.getD i 0 else 0
theorem gf (ws l:List Nat):(iu ws l).length=ws.length:=by unfold iu;rw[di,kc]
theorem oa (hi:i<ws.length):(iu ws l).getD i 0=if i∈l then ws.getD i 0 else 0:=by
 unfold iu;rw[cc,ey,q5 hi];rfl
theorem tK (hi:i<ws.length):e9 (iu ws l) i j=(decide (i∈l)&&e9 ws i j):=by
 unfold e9;rw[oa hi]
 by_cases c:i∈l
 ·rw[if_pos c,ek c];rfl
 ·rw[if_neg c,eG c,zero_testBit];rfl
theorem J8 (h:ic ws):ic (iu ws l):=by
 refine⟨fun i hi=>?_,fun i hi=>?_⟩
 ·rw[gf] at hi;rw[oa hi,gf]
  split
  ·exact h.lt i hi
  ·exact T1 _
 ·rw[gf] at hi;rw[tK hi,h.self i hi,Uw]
abbrev og:=Int × List (Bool × List Nat)
def Ch (K:Frag)(H:Hp)(v:V)(x:og):Prop:=∃ r g us,v=.ref r/\aH K H r [.int x.1,.ref g]/\aH K H g us/\GF K H us x.2
def kF (K:Frag)(H:Hp):List V->List og->Prop
 | [],[]=>True
 | v::a,x::b=>Ch K H v x/\kF K H a b
 | _,_=>False
theorem Ch.mono {v:V}{x:og}(s:ah H H')(h:Ch K H v x):Ch K H' v x:=by
 obtain⟨r,g,c,e,h1,a,b⟩:=h;exact⟨r,g,c,e,s.aJ h1,s.aJ a,b.mono s⟩
theorem Ch.cE {v:V}{x:og}{acc:Addr}{ys:List V}{o:HO}(ha:H acc=some (.lst ys))(h:Ch K H v x):Ch K (upd H acc o) v x:=by
 obtain⟨r,g,c,e,h1,a,b⟩:=h;exact⟨r,g,c,e,h1.cE ha,a.cE ha,b.cE ha⟩
theorem kF.mono (s:ah H H'):∀ {vs:List V} {xs:List og},kF K H vs xs->kF K H' vs xs
 | [],[],h=>h
 | _::_,_::_,⟨a,t⟩=>⟨a.mono s,kF.mono s t⟩
 | [],_::_,h=>h.elim
 | _::_,[],h=>h.elim
theorem kF.cE {acc:Addr}{ys:List V}{o:HO}(ha:H acc=some (.lst ys)):∀ {vs:List V} {xs:List og},kF K H vs xs->kF K (upd H acc o) vs xs
 | [],[],h=>h
 | _::_,_::_,⟨a,t⟩=>⟨a.cE ha,kF.cE ha t⟩
 | [],_::_,h=>h.elim
 | _::_,[],h=>h.elim
theorem kF.length:∀ {vs:List V} {xs:List og},kF K H vs xs->vs.length=xs.length
 | [],[],_=>rfl
 | _::_,_::_,⟨_,t⟩=>by rw[pb,pb,kF.length t]
 | [],_::_,h=>h.elim
 | _::_,[],h=>h.elim
theorem kF.get:∀ {vs:List V} {xs:List og} {i:Nat},kF K H vs xs->i<xs.length->∃ v,vs[i]?=some v/\Ch K H v (xs.getD i (0,[]))
 | [],[],i,_,h=>by simp at h
 | v::_,x::_,0,⟨a,_⟩,_=>⟨v,rfl,a⟩
 | _::_,_::xs,i+1,⟨_,t⟩,h=>by
  obtain⟨v,e,c⟩:=kF.get (i:=i) t (by simpa using h)
  exact⟨v,by simpa using e,by simpa using c⟩
 | [],_::_,_,h,_=>h.elim
 | _::_,[],_,h,_=>h.elim
theorem kF.append:∀ {vs ws:List V} {xs ys:List og},kF K H vs xs->kF K H ws ys->kF K H (vs++ws) (xs++ys)
 | [],_,[],_,_,h=>h
 | _::_,_,_::_,_,⟨a,t⟩,h=>⟨a,kF.append t h⟩
 | [],_,_::_,_,h,_=>h.elim
 | _::_,_,[],_,h,_=>h.elim
structure yA (cs:List Int)(ws:List Nat)(m:Nat)(x:og):Prop where
 each:∀ g∈x.2,GG cs ws m g
 yW:x.2.Pairwise fun g h=>∀ x∈g.2,x∉h.2
 sum:(x.2.map (pF cs)).sum=x.1
 nn:0<=x.1
theorem yA.mono {cs:List Int}{ws:List Nat}{k m:Nat}{x:og}(h:yA cs ws k x)(s:Sub k m):yA cs ws m x:=⟨fun g a=>(h.each g a).mono s,h.yW,h.sum,h.nn⟩
theorem yA.len {x:og}(h:yA cs ws m x):x.2.length<=cs.length:=by
 have f:∀ {L:List (Bool × List Nat)},(∀ g∈L,GG cs ws m g)->(L.Pairwise fun g h=>∀ x∈g.2,x∉h.2)->(L.map fun g=>g.2.getD 0 0).Nodup/\∀ y∈L.map fun g=>g.2.getD 0 0,y<cs.length/\∃ g∈L,y∈g.2:=fun {L} h1 p=>by
  induction L with
  | nil=>exact⟨nodup_nil,fun _ h=>nomatch h⟩
  | cons g L n=>
   obtain⟨o,r⟩:=List.pairwise_cons.mp p;obtain⟨q,l⟩:=n (fun g d=>h1 g (fA _ d)) r;have d:=h1 g fO;have hm:g.2.getD 0 0∈g.2:=nK (O0.mpr d.ne);refine⟨?_,fun y hy=>?_⟩
   ·rw[pS,vr];refine⟨fun z=>?_,q⟩;obtain⟨_,j,i,hy⟩:=l _ z;exact o j i _ hm hy
   ·rcases gz.mp hy with e | e
    ·rw[e];exact⟨d.ok.lt _ hm,g,fO,hm⟩
    ·obtain⟨a,j,b,c⟩:=l y e;exact⟨a,j,fA _ b,c⟩
 obtain⟨a,b⟩:=f h.each h.yW
 have:=cB a fun y hy=>(b y hy).1
 rwa [di] at this
theorem yA.add {x y:og}(h:yA cs ws a x)(k:yA cs ws b y)(d:Rq a b)(s1:Sub a m)(s2:Sub b m):yA cs ws m (x.1+y.1,x.2++y.2):=by
 refine⟨fun g c=>?_,List.pairwise_append.mpr ⟨h.yW,k.yW,fun g c l f z hz i=>?_⟩,?_,?_⟩
 ·rcases kb.mp c with e | e
  ·exact(h.each g e).mono s1
  ·exact(k.each g e).mono s2
 ·have h1:=(h.each g c).Tb z hz;have j:=(k.each l f).Tb z i;rw[d z h1] at j;cases j
 ·show ((x.2++y.2).map (pF cs)).sum=x.1+y.1;rw[hO,L2.sum_append,h.sum,k.sum]
 ·show 0<=x.1+y.1
  have:=h.nn;have:=k.nn;omega
def oh (cs:List Int)(ws:List Nat)(m:Nat)(x:og):Prop:=yA cs ws m x/\True
def lu (cs:List Int)(ws:List Nat)(m:Nat)(x:og):Prop:=yA cs ws m x/\True
theorem tL (cs:List Int)(ws:List Nat)(m:Nat):yA cs ws m (0,[]):=⟨(fun _ h=>nomatch h),.nil,rfl,Int.le_refl _⟩
theorem B8 (cs:List Int)(ws:List Nat):oh cs ws 0 (0,[]):=⟨tL cs ws 0,trivial⟩
theorem B9 (cs:List Int)(ws:List Nat):lu cs ws 0 (0,[]):=⟨tL cs ws 0,trivial⟩
theorem vU {k:Nat}{ps:List Nat}(hk:k<(aL m).length)(hi:i=(aL m).getD k 0)(h:∀ q∈ps,Sub q m/\∀ j,q.testBit j=true->j∈(aL m).take k) :
  ∀ q∈ps++ps.map (fun x=>x+2 ^ i),Sub q m/\∀ j,q.testBit j=true->j∈(aL m).take (k+1):=by
 rw[take_snoc 0 hk,<-hi];intro q hq
 rcases kb.mp hq with hq | hq
 ·exact⟨(h q hq).1,fun j hj=>SC _ ((h q hq).2 j hj)⟩
 ·obtain⟨q,c,rfl⟩:=j9.mp hq;obtain⟨a,b⟩:=h q c;have hb:q.testBit i=false:=by
   cases e:q.testBit i with
   | false=>rfl
   | true=>
    have h1:=EL (dj m) (b i e);rw[hi,SK (dj m) hk] at h1
    omega
  have g:∀ j,(q+2 ^ i).testBit j=true->q.testBit j=true∨i=j:=fun j hj=>by
   rw[Ad hb,ie,Ug,o6] at hj;exact hj
  refine⟨fun j hj=>?_,fun j hj=>?_⟩
  ·rcases g j hj with hj | rfl
   ·exact a j hj
   ·rw[hi];exact fk.mp (nK hk)
  ·rcases g j hj with hj | rfl
   ·exact SC _ (b j hj)
   ·exact r4 _ fO
def Rr (K:Frag):Sp:=fun a H Q _=>∃ (w p:Addr) (ws l:List Nat),a=[.ref w,.ref p]/\aH K H w ((aD ws).map V.int)/\aB K H p ((aD l).map V.int)/\ws.length<=8/\l.length<=8/\∀ (t:Addr) (H':Hp),ah H H'->aH K H' t ((aD (iu ws l)).map V.int)->Q (.ref t) H'
variable {E:Value->Shared->Prop}{d:Addr}{od:Obj}{es:Array DictEntry}
theorem Gi {Q:Value->Shared->Prop}(nd:(d == sysModules)=false)(gd:s.heap.get? d=some od)(cd:od.ExactDict)(dd:od.data=.dict es ep)
  (kQ:Q (.ref s.heap.objs.size) {s with heap:=s.heap.push {cls:=.type "dict_keyiterator",data:=.fields #[.ref d,.int 0 0,.int es.size 0,.int ep 0]}}):wpAny (model prog w) A (pyIter (.ref d)) Q E s:=by
 have a:s.TypeIs (.ref d) "dict":=⟨od,gd,cd.1⟩;refine wpAny_pyIter_slot a F.slot_dict_iter (F2 F.slot_dict_iter a F.entry_dict_iter ?_ (F.args_dict_iter_1 (.ref d)));unfold Builtin.«dict.__iter__»;refine dy (by
  unfold Builtin.Dict.dictSlotNone;refine dy (wpAny_notOrdered_dict a ?_);show wpAny (model prog w) _ (pure (Value.ref d)) _ _ s;refine eR ?_;show wpAny (model prog w) _ (Builtin.Dict.showsAll d >>= _) _ _ s;unfold Builtin.Dict.showsAll;rw[if_neg (fun z=>by rw[nd] at z;cases z)]
  refine dy (eR (dy (wpAny_dictEntries gd dd (dy (wpAny_dictEpoch gd dd ?_)))));refine dy (GE (eR ⟨_,rfl,"dict_keyiterator",_,⟨_,hU _ rfl,rfl⟩,KB.lookup,?_⟩))
  simpa [rawInt] using kQ)
variable {it:Addr}{Q:Option Value->Shared->Prop}
theorem Gj (kI:s.heap.IsKeyIter it d i es.size ep)(gd:s.heap.get? d=some od)(dd:od.data=.dict es ep)(lt:i<es.size)
  (kQ:∀ h',h'.IsKeyIter it d (i+1) es.size ep->SameBut it s.heap h'->Q (some es[i].key) {s with heap:=h'}):wpAny (model prog w) A (pyNext (.ref it)) Q E s:=by
 obtain⟨e,gi,c,a⟩:=id kI;unfold pyNext;refine dy (wpAny_attempt (E9 (name:=Str.ofString "__next__") kI.typeIs KB (F2 KB kI.typeIs F.entry_dict_keyiterator_next ?_ (F.args_dict_keyiterator_next_1 (.ref it)))));refine dy (eR (dy (dy ?_)))
 first | refine dy (S4 kI.typeIs (eR ?_)) | refine dy (wpAny_typeNameOf_keyiter kI.typeIs (eR ?_))
 refine dy (wpAny_fieldsOf gi a ?_);simp only[show Builtin.Dict_items.ownsTuple "dict_keyiterator"=false from by decide,Bool.false_eq_true,if_false]
 show wpAny (model prog w) _ (if (Value.ref d == Value.none)=true then _ else _) _ _ s
 rw[if_neg (show ¬ ((Value.ref d == Value.none)=true) by intro z;exact hI z)]
 refine dy (eR (dy (wpAny_dictEntries gd dd ?_)));rw[if_neg (by simp)]
 refine dy (eR (dy (wpAny_dictEpoch gd dd ?_)));rw[if_neg (by simp)]
 refine eR ?_;simp only[if_neg (show ¬ ((i:Int)<0) by omega),toNat_natCast,Array.getElem?_eq_getElem lt]
 refine dy ?_
 first | refine dy (S4 kI.typeIs (eR ?_)) | refine dy (wpAny_typeNameOf_keyiter kI.typeIs (eR ?_))
 refine dy (wpAny_isOneOf_keyiter kI.typeIs ?_);show wpAny (model prog w) _ (setField (.ref it) 1 (rawInt ((i:Int)+1)) >>= _) _ _ s;refine dy (Uv gi a (by simp) ?_)
 have b:(s.heap.update it (Obj.mapFields (·.setIfInBounds 1 (rawInt ((i:Int)+1))))).IsKeyIter it d (i+1) es.size ep:=⟨_,get?_update_self _ gi (Ud (KE a _)),(Obj.cls_mapFields ..).trans c,by rw[KE a];simp[rawInt]⟩
 refine dy (T5 (dy (wpAny_isOneOf_keyiter (s:={s with heap:=s.heap.update it (Obj.mapFields (·.setIfInBounds 1 (rawInt ((i:Int)+1))))}) b.typeIs ?_)));show wpAny (model prog w) _ (pure es[i].key) _ _ _;exact eR (eR ⟨_,rfl,eR (kQ _ b (Heap.SameBut.update ..))⟩)
theorem J9 (hh:A.handled=none)(kI:s.heap.IsKeyIter it d i es.size ep)(gd:s.heap.get? d=some od)(dd:od.data=.dict es ep)(ge:es.size<=i)
  (kQ:∀ h',ExtBut it s.heap h'->Q none {s with heap:=h'}):wpAny (model prog w) A (pyNext (.ref it)) Q E s:=by
 obtain⟨e,gi,f,c⟩:=id kI;unfold pyNext;refine dy (wpAny_attempt (E9 (name:=Str.ofString "__next__") kI.typeIs KB (F2 KB kI.typeIs F.entry_dict_keyiterator_next ?_ (F.args_dict_keyiterator_next_1 (.ref it)))));refine dy (eR (dy (dy ?_)))
 first | refine dy (S4 kI.typeIs (eR ?_)) | refine dy (wpAny_typeNameOf_keyiter kI.typeIs (eR ?_))
 refine dy (wpAny_fieldsOf gi c ?_);simp only[show Builtin.Dict_items.ownsTuple "dict_keyiterator"=false from by decide,Bool.false_eq_true,if_false]
 show wpAny (model prog w) _ (if (Value.ref d == Value.none)=true then _ else _) _ _ s
 rw[if_neg (show ¬ ((Value.ref d == Value.none)=true) by intro z;exact hI z)]
 refine dy (eR (dy (wpAny_dictEntries gd dd ?_)));rw[if_neg (by simp)]
 refine dy (eR (dy (wpAny_dictEpoch gd dd ?_)));rw[if_neg (by simp)]
 refine eR ?_;simp only[if_neg (show ¬ ((i:Int)<0) by omega),toNat_natCast,Array.getElem?_eq_none ge]
 refine dy ?_
 first | refine dy (S4 kI.typeIs (eR ?_)) | refine dy (wpAny_typeNameOf_keyiter kI.typeIs (eR ?_))
 show wpAny (model prog w) _ (setField (.ref it) 0 .none >>= _) _ _ s;refine dy (Uv gi c (by simp) ?_)
 show wpAny (model prog w) _ (newExc (.type "StopIteration") [] >>= _) _ _ _;refine dy ?_;simp only[newExc,newTuple];refine dy (GE ?_ (by size_fits))
 refine dy (m:=firstArgMember _ _) (wpAny_of_eq (a:=Value.none) (by first | rfl | (simp only[firstArgMember];rfl)) ?_)
 refine GE ?_ (by size_fits)
 simp only[raiseNew];refine dy (wpAny_handled ?_);rw[show A.in1.handled=none from hh]
 refine dy (eR (wpAny_throw ?_));refine dy (wpAny_isInstance (T:="StopIteration") (b:=true) ⟨_,hU _ rfl,rfl⟩ isSubtype_stop (eR (kQ _ (((Heap.SameBut.update ..).extBut.push _).push _))))
variable {us:List Value}
theorem Gk (h:us.length=n+1):∃ a t,us=a::t/\t.length=n:=by
 cases us with
 | nil=>cases h
 | cons a t=>exact⟨a,t,rfl,Nat.succ.inj h⟩
theorem Rt (h:us.length=1):∃ a0,us=[a0]:=by
 obtain⟨a,t,rfl,k⟩:=Gk h
 cases t with
 | nil=>exact⟨a,rfl⟩
 | cons _ _=>cases k
theorem Ru (h:us.length=2):∃ a0 a1,us=[a0,a1]:=by
 obtain⟨a,t,rfl,k⟩:=Gk h;obtain⟨b,rfl⟩:=Rt k;exact⟨a,b,rfl⟩
theorem Rv (h:us.length=3):∃ a0 a1 a2,us=[a0,a1,a2]:=by
 obtain⟨a,t,rfl,k⟩:=Gk h;obtain⟨c,b,rfl⟩:=Ru k;exact⟨a,c,b,rfl⟩
theorem Rw (h:us.length=4):∃ a0 a1 a2 a3,us=[a0,a1,a2,a3]:=by
 obtain⟨a,t,rfl,k⟩:=Gk h;obtain⟨d,b,c,rfl⟩:=Rv k;exact⟨a,d,b,c,rfl⟩
theorem SW (h:us.length=5):∃ a0 a1 a2 a3 a4,us=[a0,a1,a2,a3,a4]:=by
 obtain⟨a,t,rfl,k⟩:=Gk h;obtain⟨e,c,d,b,rfl⟩:=Rw k;exact⟨a,e,c,d,b,rfl⟩
theorem SX {A:TS}{σ:St}(h:∀ R:St->Hp->Prop,(∀ σ' H',B D σ' H'->R σ' H')->A {D with nx:=R} σ H):Bb A B D σ H:=h (B D) fun _ _ z=>z
structure Ca (P:Program)(w:World)(K:Frag)(a:Addr)(kvs:List (Key × V)):Prop where
 ns:(a == sysModules)=false
 ex:∃ o vs,K.lookup a=some o/\o.IsDictOf (bB P w) vs/\KV kvs vs
def Mf (kvs:List (Key × V))(a:Addr)(td ty:TE):TE:=fun σ H Q=>td σ H fun x H1=>ty σ H1 fun y b=>∃ k v,x=.ref a/\y=kV k/\cM kvs k=some v/\Q v b
def Gm (kvs:List (Key × V))(a:Addr)(ty td:TE):TE:=fun σ H Q=>ty σ H fun y H1=>td σ H1 fun x b=>∃ k,x=.ref a/\y=kV k/\Q (.bl (!(cM kvs k).isSome)) b
variable {a:Addr}
theorem Rx (S:Sc X N W G)(g:Nat)(h:X.mg x=some (.ref a))(hg:G[g]?=some x:=by rfl):QE X (.Name x pos) (tC (.ref a)):=by
 have q:=S.gl _ (gc hg);exact⟨mI q.1 h rfl q.2.1⟩
variable {kvs:List (Key × V)}
theorem Ca.at_ {σ:St}(D:Ca X.prog X.w X.K a kvs)(I:Inv X pins σ H s):∃ vs,KV kvs vs/\s.heap.DictOf (bB X.prog X.w) a vs:=by
 obtain⟨o,vs,hk,b,r⟩:=D.ex;exact⟨vs,r,Heap.dictOf_iff.mpr ⟨o,I.pf a o hk,b⟩⟩
variable {i:Expr}
theorem Ry (D:Ca X.prog X.w X.K a kvs)(ho:QE X o td)(hi:QE X i ty)(hs:ID i:=by intro _ _;rfl):QE X (.Subscript o i pos) (Mf kvs a td ty):=by
 refine⟨fun b s σ H Q I h=>zI PySem.F.slot_dict_getitem.lookup hs (bP (ho.h b s σ H _ I h) fun u n ⟨x,H1,A,j,p⟩=>bP (hi.h b n σ H1 _ A p) fun E C ⟨y,m,f,B,k,v,r,q,l,t⟩=>?_)⟩;subst r q;obtain rfl:u=Value.ref a:=j;obtain⟨g,c,e⟩:=D.at_ f;obtain⟨G,z,d⟩:=g6.some_of (v:=v) (o:=valueAt g k) (by rw[<-l];exact c.val k)
 exact⟨e.typeIs,wpAny_getItem_of (qt B) e.mapOf z ⟨v,m,f.tok _,d,t⟩⟩
theorem Ka (D:Ca X.prog X.w X.K a kvs)(hi:PE X i ty)(ho:PE X o td):PC X .NotIn i o (Gm kvs a ty td):=by
 intro b s σ H Q I h;refine bP (hi b s σ H _ I h) fun z j ⟨y,H1,q,r,l⟩=>bP (ho b j σ H1 _ q l) fun u t ⟨x,f,d,e,k,n,m,p⟩=>?_;subst n m;obtain rfl:u=Value.ref a:=e;obtain⟨v,c,g⟩:=D.at_ d;refine wpAny_notIn_of (qt r) D.ns g.mapOf ?_;rw[<-(c.val k).iU];exact⟨.bl (!(cM kvs k).isSome),f,d.tok _,rfl,p⟩
theorem Rz (D:Ca X.prog X.w X.K a kvs)(hi:QE X i ty)(ho:QE X o td)(hm:behindInMarks .NotIn o=false):QT X (.Compare i [.NotIn] [o] pos) (tB (Gm kvs a ty td)):=⟨Dg (Ka D hi.h ho.h) hm⟩
variable {Q:VK}
theorem Gn {σ:St} :Mf kvs a td ty σ H Q=td σ H fun x H1=>ty σ H1 fun y H2=>∃ k v,x=.ref a/\y=kV k/\cM kvs k=some v/\Q v H2:=rfl
theorem Gp {σ:St} :Gm kvs a ty td σ H Q=ty σ H fun y H1=>td σ H1 fun x H2=>∃ k,x=.ref a/\y=kV k/\Q (.bl (!(cM kvs k).isSome)) H2:=rfl
def om (e:Nat->Addr):List (Key × V):=[(.inr "sure",.ref (e 0)),(.inr "share",.ref (e 1)),(.inr "groups",.ref (e 2)),(.inr "ring",.ref (e 3)),(.inr "order",.ref (e 4)),(.inr "put",.ref (e 5)),(.inr "guess",.ref (e 6)),(.inr "right",.ref (e 7)),(.inr "book",.ref (e 8))]
structure tM (P:Program)(w:World)(K:Frag)(mg:Str->Option Value)(a:Addr)(e:Nat->Addr):Prop where
 gl:mg "FORMS"=some (.ref a)
 pN:Ca P w K a (om e)
 t0:∀ k,k<9->k≠5->k≠6->∀ H,aH K H (e k) []
 t5:∀ H,aH K H (e 5) [.str "name",.str "colour"]
 t6:∀ H,aH K H (e 6) [.str "name"]
def SY (e0 e1 e2 e3 e4 e5 e6 e7 e8:Addr):Nat->Addr
 | 0=>e0
 | 1=>e1
 | 2=>e2
 | 3=>e3
 | 4=>e4
 | 5=>e5
 | 6=>e6
 | 7=>e7
 | _=>e8
variable {u0 u2:Tok}{n1 n2:Nat}
theorem Gq {e0 e1 e2 e3 e4 e5 e6 e7 e8:Addr}{t0 t1 t2 t3 t4 t5 t6 t7 t8 u1:Tok}{n0 n3 n4 n5 n6 n7 n8:Nat}{d0 d1 d2 d3 d4 d5 d6 d7 d8:Option Addr}{s0 s1 s2 s3 s4 s5 s6 s7 s8:Array (Option Value)}(X:K.In h)(G:h.Ns mainGlobals mg)
  (a0:nsIn K mainGlobals "FORMS"=some (some (.ref a))) (hs:(a == sysModules)=false)
  (a1:K.lookup a=some ⟨.type "dict",none,.dict #[⟨PyData.keyHash w.params "sure",.str "sure" t0,.ref e0⟩,⟨PyData.keyHash w.params "share",.str "share" t1,.ref e1⟩,⟨PyData.keyHash w.params "groups",.str "groups" t2,.ref e2⟩,⟨PyData.keyHash w.params "ring",.str "ring" t3,.ref e3⟩,⟨PyData.keyHash w.params "order",.str "order" t4,.ref e4⟩,⟨PyData.keyHash w.params "put",.str "put" t5,.ref e5⟩,⟨PyData.keyHash w.params "guess",.str "guess" t6,.ref e6⟩,⟨PyData.keyHash w.params "right",.str "right" t7,.ref e7⟩,⟨PyData.keyHash w.params "book",.str "book" t8,.ref e8⟩] ep,#[]⟩)
  (l0:K.lookup e0=some ⟨.type "tuple",d0,.seq #[] n0,s0⟩) (l1:K.lookup e1=some ⟨.type "tuple",d1,.seq #[] n1,s1⟩) (l2:K.lookup e2=some ⟨.type "tuple",d2,.seq #[] n2,s2⟩) (l3:K.lookup e3=some ⟨.type "tuple",d3,.seq #[] n3,s3⟩) (l4:K.lookup e4=some ⟨.type "tuple",d4,.seq #[] n4,s4⟩) (l5:K.lookup e5=some ⟨.type "tuple",d5,.seq #[.str "name" u0,.str "colour" u1] n5,s5⟩) (l6:K.lookup e6=some ⟨.type "tuple",d6,.seq #[.str "name" u2] n6,s6⟩) (l7:K.lookup e7=some ⟨.type "tuple",d7,.seq #[] n7,s7⟩) (l8:K.lookup e8=some ⟨.type "tuple",d8,.seq #[] n8,s8⟩):tM P w K mg a (SY e0 e1 e2 e3 e4 e5 e6 e7 e8):=by
 refine⟨mg_of X G a0,⟨hs,_,[(.inr "sure",.ref e0),(.inr "share",.ref e1),(.inr "groups",.ref e2),(.inr "ring",.ref e3),(.inr "order",.ref e4),(.inr "put",.ref e5),(.inr "guess",.ref e6),(.inr "right",.ref e7),(.inr "book",.ref e8)],a1,⟨_,_,⟨rfl,rfl,rfl⟩,rfl,?_,?_,?_⟩,?_⟩,fun k hk b c H=>?_,fun H=>.inr ⟨_,_,_,l5,rfl,rfl,by show 2<=sizeLine;decide,.cons ⟨_,rfl⟩ (.cons ⟨_,rfl⟩ .nil)⟩,fun H=>.inr ⟨_,_,_,l6,rfl,rfl,by show 1<=sizeLine;decide,.cons ⟨_,rfl⟩ .nil⟩⟩
 ·intro e he;simp only[List.mem_toArray,mem_cons,not_mem_nil,or_false] at he
  rcases he with rfl | rfl | rfl | rfl | rfl | rfl | rfl | rfl | rfl<;>exact⟨.inr _,bF P w _ _,rfl⟩
 ·exact .cons (bF P w _ _) rfl (.cons (bF P w _ _) rfl (.cons (bF P w _ _) rfl (.cons (bF P w _ _) rfl (.cons (bF P w _ _) rfl (.cons (bF P w _ _) rfl (.cons (bF P w _ _) rfl (.cons (bF P w _ _) rfl (.cons (bF P w _ _) rfl .nil))))))))
 ·show ([.inr "sure",.inr "share",.inr "groups",.inr "ring",.inr "order",.inr "put",.inr "guess",.inr "right",.inr "book"]:List Key).Nodup
  decide +kernel
 ·exact .cons ⟨rfl,rfl⟩ (.cons ⟨rfl,rfl⟩ (.cons ⟨rfl,rfl⟩ (.cons ⟨rfl,rfl⟩ (.cons ⟨rfl,rfl⟩ (.cons ⟨rfl,rfl⟩ (.cons ⟨rfl,rfl⟩ (.cons ⟨rfl,rfl⟩ (.cons ⟨rfl,rfl⟩ .nil))))))))
 ·match k,hk,b,c with
  | 0,_,_,_=>exact .inr ⟨_,_,_,l0,rfl,rfl,by decide,.nil⟩
  | 1,_,_,_=>exact .inr ⟨_,_,_,l1,rfl,rfl,by decide,.nil⟩
  | 2,_,_,_=>exact .inr ⟨_,_,_,l2,rfl,rfl,by decide,.nil⟩
  | 3,_,_,_=>exact .inr ⟨_,_,_,l3,rfl,rfl,by decide,.nil⟩
  | 4,_,_,_=>exact .inr ⟨_,_,_,l4,rfl,rfl,by decide,.nil⟩
  | 7,_,_,_=>exact .inr ⟨_,_,_,l7,rfl,rfl,by decide,.nil⟩
  | 8,_,_,_=>exact .inr ⟨_,_,_,l8,rfl,rfl,by decide,.nil⟩
structure vV (K:Frag)(C:Addr)(m qual:Str)(st:Stmt)(z:Str):Prop where
 ex:∃ f fd t,Q0 K m qual st f fd [.str z t]/\Meth K C m f
variable {m:Str}
theorem Gr {z:Str}{f T:Addr}{t:Tok}{o:Obj}{oc:Value}{od an:Option Addr}{osl:Array (Option Value)}{kV doc pm cp ct:Value}
  (a:findIn K (.ref C) m=some (some (.ref f))) (l:K.lookup f=some ⟨oc,od,.func (fnOf m qual (bf st) (aO st) (ai st) (.ref T) kV doc pm an cp ct),osl⟩)
  (c:codeIn K cp qual=true) (k:keepIn K (.ref f)=true) (i:isFn K (.ref f)=true) (lt:K.lookup T=some o) (ld:o.data=.seq #[.str z t] n):vV K C m qual st z:=
 ⟨f,_,t,⟨⟨oc,od,T,kV,doc,pm,an,cp,ct,osl,o,n,rfl,l,c,lt,ld⟩,k⟩,a,i,k⟩
structure Gs (P:Program)(w:World)(K:Frag)(mg:Str->Option Value)(base:Heap)(k:Nat)(C:Addr)(m p1 p2:Str)(z:Str)(sp:Sp):Prop where
 ex:∃ f fd t,eK P w K mg base (kE P w) k f fd [p1,p2] sp/\Meth K C m f/\Binds K fd [p1,p2] []/\Binds K fd [p1,p2] [.str z t]
def bindM (m qual:Str)(st:Stmt)(p1 p2:Str):Prop:=∀ (T:Addr) (kV doc pm:Value) (an:Option Addr) (cp ct u v:Value),
 (∃ k,bindArgs (fnOf m qual (bf st) (aO st) (ai st) (.ref T) kV doc pm an cp ct) ⟨[u],[]⟩=(seqItems? (.ref T) >>= k)/\∀ d,k (some #[d])=pure [(p1,u),(p2,d)])/\
 (∃ k,bindArgs (fnOf m qual (bf st) (aO st) (ai st) (.ref T) kV doc pm an cp ct) ⟨[u,v],[]⟩=(seqItems? (.ref T) >>= k)/\∀ d,k (some #[d])=pure [(p1,u),(p2,v)])
variable {z p1 p2:Str}
theorem vV.gq (D:vV K C m qual st z)(S:DS (ai st) N [p1,p2] G)(hb:bindM m qual st p1 p2)
  (len:∀ vs H Q E,sp vs H Q E->vs.length=2)
  (cU:∀ (X:Cx),Sc X N N G->X.prog=P->X.w=w->X.K=K->X.mg=mg->X.base=base->X.calm=true->X.env.scope=ai st->X.xe=(fun _ _=>False)->bY k X.A->X.A.units+64<cLine->
   ∀ (H:Hp) (vs:List V) (Q:VK) (E:XK),sp vs H Q E->∃ t,uZ X (aO st) t/\t {nx:=fun _ H'=>Q .br H',rt:=Q} (L2.start N vs) H):Gs P w K mg base (k+1) C m p1 p2 z sp:=by
 obtain⟨f,Y,t,F,M⟩:=D.ex;obtain⟨U,R,T,kV,a,r,p,B,ct,J,o,n,rfl,O,g,lt,I⟩:=F.ex;refine⟨f,_,t,eK.lift (uP O g S.fs len fun A e s H vs Q E y d=>?_),M,fun s c j b=>?_,fun s c j b=>?_⟩
 ·obtain⟨t,h,q⟩:=cU _ S.cx rfl rfl rfl rfl rfl rfl rfl rfl y y.units H vs Q E d;exact⟨t,h.h.K3,q⟩
 ·rw[Um] at b ⊢
  match c,b with
  | [u,v],_=>
   obtain⟨k,l,i⟩:=(hb T kV a r p B ct u v).2;exact binds_K j rfl lt I l (i _)
 ·obtain⟨u,rfl⟩:∃ u,c=[u]:=by
   rw[fz] at b
   have:c.length=1:=by simpa using b
   exact List.length_eq_one_iff.mp this
  obtain⟨k,l,i⟩:=(hb T kV a r p B ct u u).1;exact binds_K j rfl lt I l (i _)
variable {es:List Expr}{E:XK}
theorem Ox (S:Sc X N W G)(g:Nat)(T:fi X.K X.mg x C fields)(F:Gs X.prog X.w X.K X.mg X.base k C "__init__" p1 p2 z sp)(hx:Passes (kE X.prog X.w) X E)(hr:bY n X.A)(ha:QB X (e::es) t)(hk:k+1<=n:=by decide)(hg:G[g]?=some x:=by rfl) :
  QE X (.Call (.Name x p) (e::es) [] pos) (qj C sp [] E t):=by
 obtain⟨f,a,_,F,M,hb,_⟩:=F.ex;have q:=S.gl x (gc hg);exact⟨zD ⟨T.makes,M.at_,M.fn,T.kp⟩ F (hr.mono hk) q.1 T.gl hb .nil hx ha.h.pa q.2.1 (aW ha.h.he) (cy ha.h.zN)⟩
theorem AH:qj C sp [.str z] E uM σ H Q=∀ x dx,H x=none->H dx=none->dx≠x->sp [.ref x,.str z] (upd (upd H dx (.own x)) x (.ins C dx [])) (fun v H2=>v=.br/\Q (.ref x) H2) E:=rfl
abbrev pJ (k:Bool)(h:Heap)(i l:Addr)(n:Nat):Prop:=cond k (h.IsListIter i l n) (h.IsTupleIter i l n)
abbrev tN (k:Bool)(h:Heap)(l:Addr)(ys:Array Value):Prop:=cond k (h.IsList l ys) (h.IsTuple l ys)
abbrev et (k:Bool)(K:Frag)(H:Hp)(l:Addr)(ys:List V):Prop:=cond k (aB K H l ys) (aH K H l ys)
theorem pJ.at {k:Bool}{h h':Heap}{i l:Addr}{n:Nat}(t:pJ k h i l n)(q:∀ o,h.get? i=some o->h'.get? i=some o):pJ k h' i l n:=by
 cases k
 ·exact Heap.IsTupleIter.at t q
 ·exact Heap.IsListIter.at t q
theorem tN.at {k:Bool}{h h':Heap}{l:Addr}{ys:Array Value}(t:tN k h l ys)(q:∀ o,h.get? l=some o->h'.get? l=some o):tN k h' l ys:=by
 cases k
 ·exact Heap.IsTuple.at t q
 ·exact Heap.IsList.at t q
variable {i l:Addr}
theorem pJ.ob {k:Bool}(t:pJ k h i l n):∃ o m,h.get? i=some o/\o.cls=.type m/\"zip"≠m/\"tuple"≠m/\∃ d,o.data=.fields d:=by
 cases k
 ·obtain⟨o,e,c,d⟩:=t;exact⟨o,_,e,c,by decide,by decide,_,d⟩
 ·obtain⟨o,e,c,d⟩:=t;exact⟨o,_,e,c,by decide,by decide,_,d⟩
variable {E Q:Value->Shared->Prop}{ys:Array Value}
theorem Ts {k:Bool}{y:Value}(t:pJ k s.heap i l n)(p:tN k s.heap l ys)(e:ys[n]?=some y)
  (q:∀ h',pJ k h' i l (n+1)->h'.objs.size=s.heap.objs.size/\(∀ c,c≠i->h'.get? c=s.heap.get? c)->Q y {s with heap:=h'}):wpAny (model prog w) A (Builtin.SmallTypes.nextOf (.ref i)) Q E s:=by
 cases k
 ·exact vd t p e fun h' a b=>q h' a b
 ·exact wpAny_nextOf_list_item t p e fun h' a b=>q h' a b
theorem S1 {k:Bool}(hA:A.handled=none)(t:pJ k s.heap i l n)(p:tN k s.heap l ys)(e:ys[n]?=none)
  (q:∀ h' e,ExtBut i s.heap h'->(∃ o,h'.get? e=some o/\o.cls=.type "StopIteration")->E (.ref e) {s with heap:=h'}):wpAny (model prog w) A (Builtin.SmallTypes.nextOf (.ref i)) Q E s:=by
 cases k
 ·exact j4 hA t p e q
 ·exact wpAny_nextOf_list_end hA t p e q
variable {j:Bool}{xs:Array Value}{z i1 i2:Addr}
theorem RA {k:Bool}{TI TO l1 l2:Addr}{a b:Value}(hA:A.handled=none)(D:ZipApart z TI TO i1 i2 l1 l2)(kz:IsZip s.heap z TI TO .none)(kI:IsPair s.heap TI (.ref i1) (.ref i2))(kO:IsPair s.heap TO a b)
  (t1:pJ j s.heap i1 l1 n1) (t2:pJ k s.heap i2 l2 n2) (p1:tN j s.heap l1 xs) (p2:tN k s.heap l2 ys)
  (q:∀ x y h',xs[n1]?=some x->ys[n2]?=some y->IsZip h' z TI TO (rawInt s.heap.objs.size)->IsPair h' TO x y->pJ j h' i1 l1 (n1+1)->pJ k h' i2 l2 (n2+1)->IsPair h' s.heap.objs.size x y->
   (∀ c o,c≠z->c≠TO->c≠i1->c≠i2->s.heap.get? c=some o->h'.get? c=some o)->Q (.ref s.heap.objs.size) {s with heap:=h'})
  (qe:∀ h' e,xs[n1]?=none∨ys[n2]?=none->(∀ c o,c≠z->c≠TO->c≠i1->c≠i2->s.heap.get? c=some o->h'.get? c=some o)->(∃ o,h'.get? e=some o/\o.cls=.type "StopIteration")->E (.ref e) {s with heap:=h'}) :
  wpAny (model prog w) A (Builtin.«zip.__next__» ⟨[.ref z],[]⟩) (fun f s'=>∃ v,f=.done (.ret v)/\Q v s') E s:=by
 refine dy (m:=field (.ref z) 2) (Pi kz rfl (x:=.bool false) rfl (dy (m:=field (.ref z) 3) (Pi kz rfl (x:=.ref TI) rfl (dy (Ua kI rfl (dy (m:=Builtin.SmallTypes.ownedTupleIsFree (.ref z)) ?_))))));unfold Builtin.SmallTypes.ownedTupleIsFree;refine dy (Pi kz rfl (x:=.none) rfl (eR ?_));simp only[if_true];refine dy (wpAny_rule (dy (Pi kz rfl (x:=.ref TO) rfl (dy (wpAny_setField_rec kz (by simp) fun u1 z1 B=>?_)))))
 have z1:IsZip u1 z TI TO .ellipsis:=z1;refine dy ?_;simp only[List.zipIdx_cons,List.zipIdx_nil,forIn_cons,List.forIn_nil];have G:∀ (i:Addr) (v u:Heap) (e:Addr),i=i1∨i=i2->xs[n1]?=none∨ys[n2]?=none->i≠z->IsZip v z TI TO .ellipsis->(∀ c o,c≠z->c≠i1->c≠TO->s.heap.get? c=some o->v.get? c=some o)->ExtBut i v u->(∃ o,u.get? e=some o/\o.cls=.type "StopIteration")->
   IsZip u z TI TO .ellipsis/\∀ d,SameBut z u d->E (.ref e) {s with heap:=d}:=by
  intro i v u e hi hn iz zv kv l ⟨oe,ge,ce⟩;have Y:u.get? z=some _:=l _ _ iz.symm zv;have ne:e≠z:=gu ge ce Y rfl (by decide)
  exact⟨Y,fun d h=>qe d e hn (fun c o g p t H x=>(h.2 c g).trans (l c o (fun q=>hi.elim (fun r=>t (q.trans r)) fun r=>H (q.trans r)) (kv c o g t p x))) ⟨oe,(h.2 e ne).trans ge,ce⟩⟩
 cases K:xs[n1]? with
 | none=>
  refine dy (dy (wpAny_onRaise (dy (m:=Builtin.SmallTypes.nextOf (.ref i1)) (S1 hA (t1.at fun o e=>(B.2 _ D.i1z).trans e) (p1.at fun o e=>(B.2 _ D.l1z).trans e) K fun U e C he=>?_))));have f:=G i1 u1 U e (.inl rfl) (.inl K) D.i1z z1 (fun c o g _ _ e=>(B.2 c g).trans e) C he;exact wpAny_setField_rec f.1 (by simp) fun d _ h=>f.2 d h
 | some x=>
 refine dy (dy (wpAny_onRaise (dy (m:=Builtin.SmallTypes.nextOf (.ref i1)) (Ts (t1.at fun o e=>(B.2 _ D.i1z).trans e) (p1.at fun o e=>(B.2 _ D.l1z).trans e) K fun U s1 C=>eR ?_))));have Z:IsPair U TO a b:=(C.2 _ D.TOi1).trans ((B.2 _ D.TOz).trans kO);refine dy (Ua Z rfl (dy (wpAny_updateSeq_pair Z fun M S P=>?_)));have S:IsPair M TO x b:=S;have F:∀ c o,c≠z->c≠i1->c≠TO->s.heap.get? c=some o->M.get? c=some o:=fun c o g p t e=>(P.2 c t).trans ((C.2 c p).trans ((B.2 c g).trans e));have z3:IsZip M z TI TO .ellipsis:=(P.2 _ D.TOz.symm).trans ((C.2 _ D.i1z.symm).trans z1);refine dy (wpAny_letGo (eR ?_))
 cases J:ys[n2]? with
 | none=>
  refine dy (dy (wpAny_onRaise (dy (m:=Builtin.SmallTypes.nextOf (.ref i2)) (S1 hA (t2.at fun o e=>F _ o D.i2z D.i12.symm D.TOi2.symm e) (p2.at fun o e=>F _ o D.l2z D.l2i1 D.l2TO e) J fun T e l he=>?_))));have f:=G i2 M T e (.inr rfl) (.inr J) D.i2z z3 F l he;exact wpAny_setField_rec f.1 (by simp) fun d _ h=>f.2 d h
 | some y=>
 refine dy (dy (wpAny_onRaise (dy (m:=Builtin.SmallTypes.nextOf (.ref i2)) (Ts (t2.at fun o e=>F _ o D.i2z D.i12.symm D.TOi2.symm e) (p2.at fun o e=>F _ o D.l2z D.l2i1 D.l2TO e) J fun T s2 l=>eR ?_))));have o4:IsPair T TO x b:=(l.2 _ D.TOi2).trans S;refine dy (Ua o4 rfl (dy (wpAny_updateSeq_pair o4 fun d R h=>?_)));have R:IsPair d TO x y:=R;refine dy (wpAny_letGo (eR (eR (dy (Ua R rfl (dy (wpAny_newTuple ?_)))))));have X:d.objs.size=s.heap.objs.size:=by rw[h.1,l.1,P.1,C.1,B.1]
 have k5:∀ c o,c≠z->c≠TO->c≠i1->c≠i2->s.heap.get? c=some o->d.get? c=some o:=fun c o g p t H e=>(h.2 c p).trans ((l.2 c H).trans (F c o g t p e));have z5:IsZip d z TI TO .ellipsis:=(h.2 _ D.TOz.symm).trans ((l.2 _ D.i2z.symm).trans z3);have r1:pJ j d i1 l1 (n1+1):=s1.at fun o e=>(h.2 _ D.TOi1.symm).trans ((l.2 _ D.i12).trans ((P.2 _ D.TOi1.symm).trans e));have r2:pJ k d i2 l2 (n2+1):=s2.at fun o e=>(h.2 _ D.TOi2.symm).trans e;have lz:z<d.objs.size:=lt_size z5;refine dy (m:=Builtin.SmallTypes.ownedTupleHandOut (.ref z) (.ref d.objs.size)) ?_;unfold Builtin.SmallTypes.ownedTupleHandOut;have z6:IsZip (d.push {cls:=.type "tuple",data:=.seq #[x,y]}) z TI TO .ellipsis:=ed _ z5;refine dy (wpAny_setField_rec z6 (by simp) fun u7 W b7=>?_)
 have W:IsZip u7 z TI TO (rawInt d.objs.size):=W;refine wpAny_setField_rec W (by simp) fun N O b8=>?_
 have O:IsZip N z TI TO (rawInt d.objs.size):=O;have I:∀ c o,c≠z->d.get? c=some o->N.get? c=some o:=fun c o g e=>(b8.2 c g).trans ((b7.2 c g).trans (ed _ e));have new:IsPair N d.objs.size x y:=(b8.2 _ (Uz lz)).trans ((b7.2 _ (Uz lz)).trans (hU _ rfl));rw[X] at O new;refine eR ⟨_,rfl,(show ∀ n:Nat,n=s.heap.objs.size->Q (.ref n) _ from fun n en=>?_) d.objs.size X⟩
 subst en;exact q x y N K J O (I _ _ D.TOz R) (r1.at fun o e=>I _ o D.i1z e) (r2.at fun o e=>I _ o D.i2z e) new fun c o g p t H e=>I c o g (k5 c o g p t H e)
abbrev uC (k:Bool)(p:Addr):Obj:={cls:=.type (cond k "list_iterator" "tuple_iterator"),data:=.fields #[.ref p,.int 0 0]}
def Pa (j k:Bool)(h:Heap)(p1 p2:Addr):Heap:=(h.push (uC j p1)).push (uC k p2)
def S3 (j k:Bool)(h:Heap)(p1 p2:Addr):Heap:=
 (((Pa j k h p1 p2).push (CZ (.ref h.objs.size) (.ref (h.push (uC j p1)).objs.size))).push (CZ .none .none)).push {cls:=.type "zip",data:=.fields #[.none,.bool false,.bool false,.ref (Pa j k h p1 p2).objs.size,.ref ((Pa j k h p1 p2).push (CZ (.ref h.objs.size) (.ref (h.push (uC j p1)).objs.size))).objs.size]}
theorem RB {k:Bool}{p:Addr}(h:tN k s.heap p ys)(q:Q (.ref s.heap.objs.size) {s with heap:=s.heap.push (uC k p)}):wpAny (model prog w) A (pyIter (.ref p)) Q E s:=by
 cases k
 ·exact T8 h q
 ·exact TX h q
theorem tN.push {k:Bool}{h:Heap}{p:Addr}{ys:Array Value}(t:tN k h p ys)(o:Obj):tN k (h.push o) p ys:=t.at fun _ e=>ed _ e
theorem Gu (j k:Bool)(p1 p2:Addr)(xs ys:Array Value) :
  Meets (Builtin.«zip.__new__» ⟨[.type "zip",.ref p1,.ref p2],[]⟩) (fun _ R s=>tN j s.heap p1 xs/\tN k s.heap p2 ys/\R (.ok (.ret (.ref (((Pa j k s.heap p1 p2).push (CZ (.ref s.heap.objs.size) (.ref (s.heap.push (uC j p1)).objs.size))).push (CZ .none .none)).objs.size))) {s with heap:=S3 j k s.heap p1 p2}):=
 .of_wp fun e w A R s h=>by
  obtain⟨b,g,d,c,a⟩:=s;obtain⟨f,i,h⟩:=h;have z:=sub_zip;have l:tN j (Shared.heap ⟨b,g,d,c,a⟩) p1 xs:=f;have m:tN k (Shared.heap ⟨b.push (uC j p1),g,d,c,a⟩) p2 ys:=i.push _
  wp_walk using RB l,RB m
  exact⟨_,rfl,h⟩
theorem Cb {k:Bool}{p1 p2:Addr}(e1:tN j s.heap p1 xs)(e2:tN k s.heap p2 ys)
  (q:∀ h',IsZip h' (s.heap.objs.size+4) (s.heap.objs.size+2) (s.heap.objs.size+3) .none->IsPair h' (s.heap.objs.size+2) (.ref s.heap.objs.size) (.ref (s.heap.objs.size+1))->IsPair h' (s.heap.objs.size+3) .none .none->
   pJ j h' s.heap.objs.size p1 0->pJ k h' (s.heap.objs.size+1) p2 0->(∀ c o,s.heap.get? c=some o->h'.get? c=some o)->Q (.ref (s.heap.objs.size+4)) {s with heap:=h'}) :
  wpAny (model prog w) A (call (.type "zip") [.ref p1,.ref p2]) Q E s:=by
 refine callType_new F.called_zip (by decide) (F.typeCall_zip_2 _ _) (F.newCall_zip_2 _ _) (fun obj=>F.args_object_init_3 obj _ _) F.entry_zip_new (Gu j k p1 p2 xs ys) ⟨e1,e2,?_⟩
 generalize g:s.heap.push (uC j p1)=a;have r:a.objs.size=s.heap.objs.size+1:=by rw[<-g];exact Fk ..
 have z:a.get? s.heap.objs.size=some (uC j p1):=by rw[<-g];exact hU _ rfl
 have C:∀ c o,s.heap.get? c=some o->a.get? c=some o:=fun c o e=>by rw[<-g];exact ed _ e
 have hb:Pa j k s.heap p1 p2=a.push (uC k p2):=by unfold Pa;rw[g]
 have h:(a.push (uC k p2)).objs.size=s.heap.objs.size+2:=by rw[Fk,r]
 have y:(a.push (uC k p2)).get? (s.heap.objs.size+1)=some (uC k p2):=by rw[<-r];exact hU _ rfl
 have l:∀ c o,a.get? c=some o->(a.push (uC k p2)).get? c=some o:=fun c o e=>ed _ e;have D:S3 j k s.heap p1 p2=(((a.push (uC k p2)).push (CZ (.ref s.heap.objs.size) (.ref a.objs.size))).push (CZ .none .none)).push {cls:=.type "zip",data:=.fields #[.none,.bool false,.bool false,.ref (a.push (uC k p2)).objs.size,.ref ((a.push (uC k p2)).push (CZ (.ref s.heap.objs.size) (.ref a.objs.size))).objs.size]}:=by
  unfold S3;rw[hb,g]
 rw[D,hb];generalize a.push (uC k p2)=b at h y l;generalize hc:b.push (CZ (.ref s.heap.objs.size) (.ref a.objs.size))=c;have p:c.objs.size=s.heap.objs.size+3:=by rw[<-hc,Fk,h]
 have v:c.get? (s.heap.objs.size+2)=some (CZ (.ref s.heap.objs.size) (.ref a.objs.size)):=by rw[<-hc,<-h];exact hU _ rfl
 have i:∀ x o,b.get? x=some o->c.get? x=some o:=fun x o e=>by rw[<-hc];exact ed _ e
 generalize m:c.push (CZ .none .none)=d;have t:d.objs.size=s.heap.objs.size+4:=by rw[<-m,Fk,p]
 have B:d.get? (s.heap.objs.size+3)=some (CZ .none .none):=by rw[<-m,<-p];exact hU _ rfl
 have kd:∀ x o,c.get? x=some o->d.get? x=some o:=fun x o e=>by rw[<-m];exact ed _ e
 have f:∀ x o u,d.get? x=some o->(d.push u).get? x=some o:=fun x o u e=>ed _ e;rw[r] at v;rw[h,p];have n:=hU d (o:={cls:=.type "zip",data:=.fields #[.none,.bool false,.bool false,.ref (s.heap.objs.size+2),.ref (s.heap.objs.size+3)]}) rfl;rw[t] at n;show _/\_;rw[t];exact⟨⟨_,n,rfl⟩,q _ n (f _ _ _ (kd _ _ v)) (f _ _ _ B) (by cases j<;>exact⟨_,f _ _ _ (kd _ _ (i _ _ (l _ _ z))),rfl,rfl⟩) (by cases k<;>exact⟨_,f _ _ _ (kd _ _ (i _ _ y)),rfl,rfl⟩) fun x o e=>f _ _ _ (kd _ _ (i _ _ (l _ _ (C _ _ e))))⟩
def Pb (j k:Bool)(K:Frag)(a b:Addr):It:=
 ⟨fun i H=>∃ xs ys x y,et j K H a xs/\et k K H b ys/\xs[i]?=some x/\ys[i]?=some y,fun i H v c=>∃ p x y,H p=none/\v=.ref p/\c=upd H p (.tup [x,y])/\∀ xs ys,et j K H a xs->et k K H b ys->xs[i]?=some x/\ys[i]?=some y,fun i H=>∃ xs ys,et j K H a xs/\et k K H b ys/\(xs.length<=i∨ys.length<=i)⟩
structure RC (j k:Bool)(z TI TO i1 i2 a b:Addr)(i:Nat)(h:Heap):Prop where
 zz:IsZip h z TI TO .none
 ti:IsPair h TI (.ref i1) (.ref i2)
 to:∃ u v,IsPair h TO u v
 t1:pJ j h i1 a i
 t2:pJ k h i2 b i
variable {xs:List V}{k:Bool}
theorem et.ar (I:Inv X pins σ H s)(h:et k X.K H a xs):∃ its,Vals xs its/\tN k s.heap a its.toArray:=by
 cases k
 ·obtain⟨its,r,p,_⟩:=I.tuple h;exact⟨its,r,show s.heap.IsTuple a its.toArray from p⟩
 ·obtain⟨its,r,p,_⟩:=I.list h;exact⟨its,r,p.isList⟩
variable {ys:List V}
theorem et.inj (I:Inv X pins σ H s)(h:et k X.K H a xs)(h':et k X.K H a ys):xs=ys:=by
 cases k
 ·exact I.qd h h'
 ·exact I.uF h h'
variable {b:Addr}
theorem fL (I:Inv X pins σ H s)(h:et k X.K H a xs)(f:jK X pins H b):a≠b:=fun z=>by
 subst z
 cases k
 all_goals
  rcases h with (h | ⟨o,h⟩) | ⟨o,c,n,hk,_⟩
  ·rw[f.1] at h;cases h
  ·rw[f.1] at h;cases h
  ·have e:=I.mod.MD a o hk
   rcases f.2.2.2.1 with z | z
   ·exact I.ok.uf a o e z
   ·exact absurd (ih (lt_size (I.ok.bs a o e).1) z) (GT _)
variable {TI TO:Addr}{i:Nat}
theorem RC.apart (I:Inv X pins σ H s)(hTT:TI≠TO)(hii:i1≠i2)(st:RC j k z TI TO i1 i2 a b i s.heap)(ha:et j X.K H a xs)(hb:et k X.K H b ys)
  (f:∀ c∈[z,TI,TO,i1,i2],jK X pins H c):ZipApart z TI TO i1 i2 a b:=by
 obtain⟨d,h,⟨u,v,n⟩,y,C⟩:=st;obtain⟨G,D,e,g,A,o,_⟩:=y.ob;obtain⟨E,F,l,m,B,r,_⟩:=C.ob;have q:=f z (by simp)
 have p:=f TO (by simp)
 have t:=f i1 (by simp)
 have w:=f i2 (by simp)
 exact⟨gu h rfl d rfl (by decide),gu n rfl d rfl (by decide),gu e g d rfl A.symm,gu l m d rfl B.symm,hTT,gu h rfl e g o,gu h rfl l m r,gu n rfl e g o,gu n rfl l m r,hii,
  fL I ha q,fL I ha p,fL I ha t,fL I ha w,fL I hb q,fL I hb p,fL I hb t,fL I hb w⟩
theorem RC.obj (st:RC j k z TI TO i1 i2 a b i h)(c:Addr)(hc:c∈[z,TI,TO,i1,i2]):∃ o,h.get? c=some o/\∀ v,o.data≠.cell v:=by
 obtain⟨f,m,⟨u,v,n⟩,g,p⟩:=st;obtain⟨t,_,d,_,_,_,_,l⟩:=g.ob;obtain⟨s,_,e,_,_,_,_,r⟩:=p.ob;simp only[mem_cons,not_mem_nil,or_false] at hc
 rcases hc with rfl | rfl | rfl | rfl | rfl
 ·exact⟨_,f,fun v q=>by cases q⟩
 ·exact⟨_,m,fun v q=>by cases q⟩
 ·exact⟨_,n,fun v q=>by cases q⟩
 ·exact⟨_,d,fun v q=>by rw[l] at q;cases q⟩
 ·exact⟨_,e,fun v q=>by rw[r] at q;cases q⟩
variable {x1:Nat}
theorem Cc {k:Bool}{pos:Pos}(z TI TO i1 i2 a b:Addr)(hTT:TI≠TO)(hii:i1≠i2):Turn P w K (.Tuple elts x1 pos) (Pb j k K a b) [z,TI,TO,i1,i2] z (RC j k z TI TO i1 i2 a b) where
 mem:=by simp
 obj:=fun _ _ m=>m.obj
 keep:=fun i h h' m k=>by
  obtain⟨t,C,⟨u,v,Q⟩,J,M⟩:=m;exact⟨k z (by simp) _ t,k TI (by simp) _ C,⟨u,v,k TO (by simp) _ Q⟩,J.at fun o q=>k i1 (by simp) o q,M.at fun o q=>k i2 (by simp) o q⟩
 item:=by
  intro X hP Y U hc i N s σ H E I B m hg;subst hP Y U;obtain⟨xs,ys,x,y,hq,l,hx,hy⟩:=hg;obtain⟨r,S,p⟩:=et.ar I hq;obtain⟨f,A,p2⟩:=et.ar I l;obtain⟨u,hu,ru⟩:=S.get hx;obtain⟨v,hv,Z⟩:=A.get hy;have eu:r.toArray[i]?=some u:=by simpa using hu
  have ev:f.toArray[i]?=some v:=by simpa using hv
  have no:r.toArray[i]?=none∨f.toArray[i]?=none->False:=fun hn=>by
   rw[eu,ev] at hn
   rcases hn with hn | hn<;>cases hn
  have D:=m.apart I hTT hii hq l B;have ob:=m.obj;obtain⟨t,C,⟨c,d,Q⟩,J,M⟩:=m;have O:s.TypeIs (.ref z) "zip":=⟨_,t,rfl⟩;unfold pyNext;refine dy (wpAny_attempt (E9 (name:=Str.ofString "__next__") O F.slot_zip_next (F2 F.slot_zip_next O F.entry_zip_next
   (RA (by simpa using I.ok.hd hc) D t C Q J M p p2 (fun x' y' h1 gx gy z1 W r1 r2 new k1=>eR ?_) (fun _ _ hn=>(no hn).elim)) (F.args_zip_next_1 _))))
  rw[eu] at gx;cases gx
  rw[ev] at gy;cases gy
  refine⟨_,rfl,wpAny_letOwnedTupleGo_zip z1 fun n z2 G=>?_⟩;have lz:z<s.heap.objs.size:=lt_size t;have R:∀ c o,c≠z->c≠TO->c≠i1->c≠i2->s.heap.get? c=some o->n.get? c=some o:=fun c o a1 a2 a3 a4 e=>(G.2 c a1).trans (k1 c o a1 a2 a3 a4 e);refine⟨.ref s.heap.objs.size,upd H s.heap.objs.size (.tup [x,y]),I.qA (ch:=[z,TI,TO,i1,i2]) (fun c o hc q=>?_) B (ef _) (show bz X.prog X.w _ n _ (.tup _) from ⟨by show 2<=sizeLine;decide,[u,v],.cons ru (.cons Z .nil),?_⟩),rfl,⟨_,x,y,I.fresh,rfl,rfl,fun xs' ys' h1 n=>by rw[et.inj I h1 hq,et.inj I n l];exact⟨hx,hy⟩⟩,⟨z2,?_,⟨u,v,?_⟩,?_,?_⟩,fun c hc=>?_⟩
  ·simp only[mem_cons,not_mem_nil,or_false,not_or] at hc;exact R c o hc.1 hc.2.2.1 hc.2.2.2.1 hc.2.2.2.2 q
  ·exact⟨_,(G.2 _ (Uz lz)).trans new,rfl,_,rfl⟩
  ·exact R _ _ D.TIz hTT D.TIi1 D.TIi2 C
  ·exact(G.2 _ D.TOz).trans W
  ·exact r1.at fun o q=>(G.2 _ D.i1z).trans q
  ·exact r2.at fun o q=>(G.2 _ D.i2z).trans q
  ·obtain⟨o,e,_⟩:=ob c hc;rw[aq (nt (lt_size e))];exact(B c hc).1
 done:=by
  intro X hP Y U hc i N s σ H E I B m hg;subst hP Y U;obtain⟨xs,ys,hq,l,hx⟩:=hg;obtain⟨r,S,p⟩:=et.ar I hq;obtain⟨f,A,p2⟩:=et.ar I l;have hl:=S.length;have hl2:=A.length;have D:=m.apart I hTT hii hq l B;obtain⟨t,C,⟨c,d,Q⟩,J,M⟩:=m;have O:s.TypeIs (.ref z) "zip":=⟨_,t,rfl⟩;have no:∀ x y,r.toArray[i]?=some x->f.toArray[i]?=some y->False:=fun x y h1 n=>by
   have h1:=(F1.mp h1).1;have n:=(F1.mp n).1
   simp at h1 n
   omega
  unfold pyNext;refine dy (wpAny_attempt (E9 (name:=Str.ofString "__next__") O F.slot_zip_next (F2 F.slot_zip_next O F.entry_zip_next
   (RA (by simpa using I.ok.hd hc) D t C Q J M p p2 (fun x y _ h1 n _ _ _ _ _ _=>(no x y h1 n).elim) fun h' e _ k he=>?_) (F.args_zip_next_1 _))))
  obtain⟨o,g,ce⟩:=he;refine dy (wpAny_isInstance (T:="StopIteration") (b:=true) ⟨o,g,ce⟩ isSubtype_stop (eR ⟨rfl,I.Jk (t':=s.toks) (ch:=[z,TI,TO,i1,i2]) (fun c o hc q=>?_) B⟩));simp only[mem_cons,not_mem_nil,or_false,not_or] at hc;exact k c o hc.1 hc.2.2.1 hc.2.2.2.1 hc.2.2.2.2 q
 self:=fun _ _ _ _ _ m h=>wpAny_pyIter_zip m.zz h
end L2
namespace L2
open PySem PySem.Spec PyProof.Rows
def Tt (j k:Bool)(K:Frag)(ta:TA):TI:=fun σ H R=>ta σ H fun c H1=>∃ a b,c=[.ref a,.ref b]/\(∃ xs,et j K H1 a xs)/\(∃ ys,et k K H1 b ys)/\R (Pb j k K a b) H1
variable {X:Cx}{N W G:List Str}{K:Frag}{e f:Expr}{t:TA}{p pos tpos:Pos}{elts:List Expr}{x1:Nat}
theorem RD (j k:Bool)(S:Sc X N W G)(g:Nat)(hm:X.mg "zip"=none)(hK:X.K=K)(ha:QB X [e,f] t)(hg:G[g]?=some "zip":=by rfl):QI X (.Tuple elts x1 tpos) (.Call (.Name "zip" p) [e,f] [] pos) (Tt j k K t):=by
 subst hK;refine⟨fun d s σ H R I h=>?_⟩;have ha:=ha.h;have q:=S.gl _ (gc hg);have y:Ea f=true:=by have:=ha.zN;rw[all_cons,h9] at this;exact this.1
 refine Call_ (kK I q.1 hm boot_zip (KM (bP (ha.pa pos d s σ H _ I h) fun us r ⟨vs,H1,l,J,F⟩=>?_) (by rw[aW ha.he,aW y]) (by rw[aW y];rfl)))
 obtain⟨a,b,rfl,⟨Z,hq⟩,⟨ys,m⟩,q⟩:=F;obtain⟨u,v,rfl,D,M⟩:=J.two
 cases D
 cases M
 obtain⟨C,Y,P⟩:=et.ar l hq;obtain⟨A,E,o⟩:=et.ar l m;refine Cb P o fun h' w Q T B U O=>wpAny_pyIter_zip w ?_;generalize hn:r.heap.objs.size=n at *;refine⟨n+4,[n+4,n+2,n+3,n,n+1],_,_,H1,rfl,l.kept (t':=r.toks) O,Cc _ _ _ _ _ a b (fun z=>by have z:n+2=n+3:=z;omega) (fun z=>by have z:n=n+1:=z;omega),⟨w,Q,⟨_,_,T⟩,B,U⟩,fun c hc=>?_,q⟩
 have i:r.heap.objs.size<=c:=by
  simp only[mem_cons,not_mem_nil,or_false] at hc;rw[hn]
  rcases hc with rfl | rfl | rfl | rfl | rfl
  all_goals first | exact ef _ | exact Nat.le_add_right _ _
 exact l.uG i (l.bb.fresh i)
variable {ta:TA}{R:It->Hp->Prop}
theorem Mg {j k:Bool}{σ:St}{H:Hp} :Tt j k K ta σ H R=ta σ H fun vs H1=>∃ a b,vs=[.ref a,.ref b]/\(∃ xs,et j K H1 a xs)/\(∃ ys,et k K H1 b ys)/\R (Pb j k K a b) H1:=rfl
theorem et.mono {k:Bool}{H H':Hp}{l:Addr}{ys:List V}(h:et k K H l ys)(s:ah H H'):et k K H' l ys:=by
 cases k
 ·exact s.aJ h
 ·exact s.seq h
variable {j k:Bool}{a b:Addr}{te:TE}{Q:VK}{H1:Hp}{vs us:List V}{rest:St}
theorem RE (n:Nat)(val:Nat->V)(h:et j K H1 a us)(h':et k K H1 b vs)(hu:n<=us.length)(hv:n<=vs.length)(hl:us.length<=n∨vs.length<=n)(hn:n<sizeLine)
  (step:∀ i H (A:V->Hp->Prop),i<n->ah H1 H->(∀ H',ah H H'->A (val i) H')->te (some (us.getD i .br)::some (vs.getD i .br)::rest) H A)
  (fin:∀ acc H,H1 acc=none->ah H1 H->H acc=some (.lst ((List.range n).map val))->Q (.ref acc) H) :
  ∃ c d,[V.ref a,V.ref b]=[.ref c,.ref d]/\(∃ xs,et j K H1 c xs)/\(∃ ys,et k K H1 d ys)/\rV (m9 K 2 (dq (bA 0) (dq (bA 1) m7))) gW te (none::none::rest) Q (Pb j k K c d) H1:=by
 refine⟨a,b,rfl,⟨_,h⟩,⟨_,h'⟩,fun acc f=>?_⟩;refine⟨fun i m τ H=>m=n - i/\i<=n/\(∃ y z,τ=y::z::rest)/\ah H1 H/\H acc=some (.lst ((List.range i).map val)),⟨n,by simp,zero_le _,⟨_,_,rfl⟩,ah.new f _,ag⟩,?_⟩
 rintro i m τ H ⟨rfl,hi,⟨y,z,rfl⟩,o,F⟩;have t:=h.mono o;have D:=h'.mono o
 by_cases g:i<n
 ·have M:∀ q:List V,n<=q.length->q[i]?=some (q.getD i .br):=fun q R=>by
   rw[cc,cv (ih g R)];rfl
  have I:=M us hu;have G:=M vs hv;refine .inr ⟨⟨_,_,_,_,t,D,I,G⟩,fun J H'=>(∃ y z,J=y::z::rest)/\ah H1 H'/\H' acc=some (.lst ((List.range (i+1)).map val)),fun J H' ⟨u,v,w⟩=>⟨n - (i+1),by omega,rfl,g,u,v,w⟩,fun x H' y=>?_⟩
  obtain⟨p,O,P,N,rfl,rfl,B⟩:=y;obtain⟨r,C⟩:=B _ _ t D;have r:O=us.getD i .br:=ot (r.symm.trans I);have C:P=vs.getD i .br:=ot (C.symm.trans G);subst r C;have s:=ah.new N (.tup [us.getD i .br,vs.getD i .br]);refine⟨p,_,rfl,aH.of ag,rfl,_,_,rfl,_,_,rfl,rfl,?_⟩;simp only[gn,xP,jZ,set_cons_zero,set_cons_succ];refine step i _ _ g (o.trans s) fun S l=>?_;have E:=l _ _ (s _ _ F);refine⟨_,E,?_,⟨_,_,rfl⟩,((o.trans s).trans l).set f _,?_⟩
  ·rw[di,kc];omega
  ·rw[ag,I3,hO];rfl
 ·have e:i=n:=by omega
  subst e;exact .inl ⟨⟨_,_,t,D,hl⟩,fin acc H f o F⟩
theorem RF (val:Nat->V)(h:et j K H1 a us)(h':et k K H1 b vs)(hl:us.length=vs.length)(hn:us.length<sizeLine)
  (step:∀ i H (A:V->Hp->Prop),i<us.length->ah H1 H->(∀ H',ah H H'->A (val i) H')->te (some (us.getD i .br)::some (vs.getD i .br)::rest) H A)
  (fin:∀ acc H,H1 acc=none->ah H1 H->H acc=some (.lst ((List.range us.length).map val))->Q (.ref acc) H) :
  ∃ c d,[V.ref a,V.ref b]=[.ref c,.ref d]/\(∃ xs,et j K H1 c xs)/\(∃ ys,et k K H1 d ys)/\rV (m9 K 2 (dq (bA 0) (dq (bA 1) m7))) gW te (none::none::rest) Q (Pb j k K c d) H1:=
 RE us.length val h h' (ef _) (Nat.le_of_eq hl) (.inl (ef _)) hn step fin
variable {ns:List Int}
theorem Oy {ms:List Int}(n:Nat)(val:Nat->V)(h:aH K H1 a (ns.map V.int))(h':aH K H1 b (ms.map V.int))(hu:n<=ns.length)(hv:n<=ms.length)(hl:ns.length<=n∨ms.length<=n)(hn:n<sizeLine)
  (step:∀ i H (A:V->Hp->Prop),i<n->ah H1 H->(∀ H',ah H H'->A (val i) H')->te (some (.int (ns.getD i 0))::some (.int (ms.getD i 0))::rest) H A)
  (fin:∀ acc H,H1 acc=none->ah H1 H->H acc=some (.lst ((List.range n).map val))->Q (.ref acc) H) :
  ∃ c d,[V.ref a,V.ref b]=[.ref c,.ref d]/\(∃ xs,et false K H1 c xs)/\(∃ ys,et false K H1 d ys)/\rV (m9 K 2 (dq (bA 0) (dq (bA 1) m7))) gW te (none::none::rest) Q (Pb false false K c d) H1:=by
 have f:∀ (e:List Int) i,i<e.length->(e.map V.int).getD i .br=.int (e.getD i 0):=fun e i hi=>by
  rw[cc,cc,ey,cv hi];rfl
 refine RE (j:=false) (k:=false) n val h h' (by rw[di];exact hu) (by rw[di];exact hv) (by rw[di,di];exact hl) hn (fun i H A hi g q=>?_) fin
 rw[f ns i (by omega),f ms i (by omega)]
 exact step i H A hi g q
def Cd (k:Bool)(K:Frag)(a:Addr):It:=
 ⟨fun i H=>∃ xs x,et k K H a xs/\xs[i]?=some x,fun i H x b=>∃ p v,H p=none/\x=.ref p/\b=upd H p (.tup [.int i,v])/\∀ xs,et k K H a xs->xs[i]?=some v,fun i H=>∃ xs,et k K H a xs/\xs.length=i⟩
theorem Oz {k:Bool}{prog:Program}{w:World}{A:Around}(hA:A.handled=none)(it p:Addr)(hne:p≠it)(vs:Array Value):Draws prog w A it [it,p] vs.size (fun i v=>vs[i]?=some v) (fun i h=>pJ k h it p i/\tN k h p vs):=by
 cases k
 ·exact NW hA it p hne vs
 ·exact Draws.list hA it p hne vs
theorem Gv {k:Bool}{P:Program}{w:World}{pos:Pos}(a e it:Addr)(hei:e≠it):Turn P w K (.Tuple elts x1 pos) (Cd k K a) [e,it] e (fun i h=>(∃ old,IsEnum h e it i old)/\pJ k h it a i) where
 mem:=by simp
 obj:=fun i h f b hb=>by
  obtain⟨⟨old,he⟩,t⟩:=f;obtain⟨o,_,eo,_,_,_,_,d⟩:=t.ob
  rcases gz.mp hb with rfl | hb
  ·exact⟨_,he,fun v z=>by cases z⟩
  ·rw[ea.mp hb];exact⟨o,eo,fun v z=>by rw[d] at z;cases z⟩
 keep:=fun i h h' f k=>by
  obtain⟨⟨old,he⟩,f⟩:=f;exact⟨⟨old,k e (by simp) _ he⟩,f.at fun o q=>k it (by simp) o q⟩
 item:=by
  intro X R D C hc i n s σ H E I l f G;subst R D C;obtain⟨xs,x,hq,hx⟩:=G;obtain⟨g,B,p⟩:=et.ar I hq;obtain⟨u,hu,U⟩:=B.get hx;obtain⟨⟨old,he⟩,si⟩:=f;have O:=fL I hq (l e (by simp))
  have Q:i<g.toArray.size:=by
   rw[j5];exact(mv.mp hu).1
  refine wpAny_pyNext_enum_itemD (Oz (by simpa using I.ok.hd hc) it a (fL I hq (l it (by simp))) g.toArray) he ⟨si,p⟩ Q hei (by simp only[mem_cons,not_mem_nil,or_false,not_or];exact⟨hei,Ne.symm O⟩) fun v h1 tk hv ho A Z hsz hk=>?_
  refine⟨_,rfl,wpAny_letOwnedTupleGo_enum ho fun Y N j=>?_⟩;have y:e<s.heap.objs.size:=lt_size he;have ev:v=u:=by
   have r:g[i]?=some v:=by simpa using hv
   rw[hu] at r;cases r;rfl
  subst ev;refine⟨.ref s.heap.objs.size,upd H s.heap.objs.size (.tup [.int i,x]),I.qA (ch:=[e,it]) (fun b o hb q=>?_) l (ef _) (show bz X.prog X.w _ Y _ (.tup _) from ⟨by show 2<=sizeLine;decide,[.int i tk,v],.cons ⟨_,rfl⟩ (.cons U .nil),?_⟩),rfl,⟨_,x,I.fresh,rfl,rfl,fun ys hy=>by rw[et.inj I hy hq];exact hx⟩,⟨⟨v,?_⟩,?_⟩,fun b hb=>?_⟩
  ·simp only[mem_cons,not_mem_nil,or_false,not_or] at hb;exact(j.2 b hb.1).trans (hk b o hb.1 hb.2 q)
  ·exact⟨_,(j.2 _ (Uz y)).trans Z,rfl,_,rfl⟩
  ·exact N
  ·exact A.1.at fun o q=>(j.2 it (Ne.symm hei)).trans q
  ·rw[aq (fun z=>?_)]
   ·exact(l b hb).1
   ·obtain⟨_,_,M,_⟩:=si.ob
    rcases gz.mp hb with rfl | hb
    ·exact absurd z (nt y)
    ·rw[ea.mp hb] at z;exact absurd z (nt (lt_size M))
 done:=by
  intro X R D C hc i n s σ H E I l f G;subst R D C;obtain⟨xs,hq,hx⟩:=G;obtain⟨g,B,p⟩:=et.ar I hq;obtain⟨⟨old,he⟩,si⟩:=f;have hl:=B.length;have S:s.TypeIs (.ref e) "enumerate":=⟨_,he,rfl⟩;unfold pyNext;refine dy (wpAny_attempt (E9 (name:=Str.ofString "__next__") S F.slot_enumerate_next (F2 F.slot_enumerate_next S F.entry_enumerate_next ?_ (F.args_enumerate_next_1 _))));refine dy (m:=field (.ref e) 2) (Pi he rfl (x:=.ref it) rfl (dy (S1 (by simpa using I.ok.hd hc) si p (by simp;omega) fun h' x eb J=>?_)))
  obtain⟨o,q,c⟩:=J;refine dy (wpAny_isInstance (T:="StopIteration") (b:=true) ⟨o,q,c⟩ isSubtype_stop ?_);obtain⟨W,f1,f2,f3,f4,f5⟩:=l it (by simp)
  exact eR ⟨rfl,I.turned (t':=s.toks) (fun b o hb z=>eb b o hb z) W f1 f3 f4 f5⟩
 self:=fun _ _ _ _ _ f h=>by
  obtain⟨⟨old,he⟩,_⟩:=f;exact wpAny_pyIter_enum he h
def OA (k:Bool)(K:Frag)(ta:TA):TI:=fun σ H R=>ta σ H fun b H1=>∃ a,b=[.ref a]/\(∃ xs,et k K H1 a xs)/\R (Cd k K a) H1
theorem OB (S:Sc X N W G)(g:Nat)(hm:X.mg "enumerate"=none)(hK:X.K=K)(ha:PB X [e] t)(hg:G[g]?=some "enumerate":=by rfl):PI X (.Tuple elts x1 tpos) (.Call (.Name "enumerate" p) [e] [] pos) (OA k K t):=by
 subst hK;intro f s σ H R I h;have q:=S.gl _ (gc hg);refine Call_ (kK I q.1 hm boot_enumerate (KM (bP (ha.pa pos f s σ H _ I h) fun F c ⟨C,H1,n,B,z⟩=>?_) (aW ha.he) rfl));obtain⟨a,rfl,⟨E,hq⟩,q⟩:=z;obtain⟨u,rfl,y⟩:=vals1 B
 cases y
 obtain⟨v,D,r⟩:=et.ar n hq;have go:∀ d,IsEnum d (c.heap.objs.size+1) c.heap.objs.size 0 .none->pJ k d c.heap.objs.size a 0->(∀ b o,c.heap.get? b=some o->d.get? b=some o)->wpAny (model X.prog X.w) X.A (pyIter (.ref (c.heap.objs.size+1))) (Sq X f σ (.Tuple elts x1 tpos) R) X.xe {c with heap:=d}:=fun d i l m=>by
  refine wpAny_pyIter_enum i ?_;refine⟨c.heap.objs.size+1,[c.heap.objs.size+1,c.heap.objs.size],_,_,H1,rfl,n.kept (t':=c.toks) m,Gv a _ _ (Nat.succ_ne_self _),⟨⟨_,i⟩,l⟩,fun b hb=>?_,q⟩;have j:c.heap.objs.size<=b:=by
   rcases gz.mp hb with rfl | hb
   ·exact le_succ _
   ·rw[ea.mp hb];exact ef _
  exact n.uG j (n.bb.fresh j)
 cases k
 ·exact xU r fun d i l m=>go d i l m
 ·exact call_enumerate_list r fun d i l _ m=>go d i l m
theorem Ce (k:Bool)(S:Sc X N W G)(g:Nat)(hm:X.mg "enumerate"=none)(hK:X.K=K)(ha:QB X [e] t)(hg:G[g]?=some "enumerate":=by rfl):QI X (.Tuple elts x1 tpos) (.Call (.Name "enumerate" p) [e] [] pos) (OA k K t):=⟨OB S g hm hK ha.h hg⟩
theorem Gw {σ:St}{H:Hp} :OA k K ta σ H R=ta σ H fun vs H1=>∃ a,vs=[.ref a]/\(∃ xs,et k K H1 a xs)/\R (Cd k K a) H1:=rfl
variable {j:Nat}{tb:TS}
theorem Gx (k:Bool){i:Nat}{D:Ends}{σ:St}{H:Hp}(I:Nat->St->Hp->Prop)(h:et k K H a us)(h0:I 0 σ H)(hl:∀ i σ H,I i σ H->et k K H a us)
  (step:∀ k v σ H H2,us[k]?=some v->I k σ H->ah H H2->tb {D with nx:=I (k+1),ct:=I (k+1),bk:=D.nx} ((σ.set i (some (.int k))).set j (some v)) H2)
  (fin:∀ σ H,I us.length σ H->D.nx σ H):∃ b,[V.ref a]=[.ref b]/\(∃ xs,et k K H b xs)/\rY (m9 K 2 (dq (bA i) (dq (bA j) m7))) tb D σ (Cd k K b) H:=by
 refine⟨a,rfl,⟨_,h⟩,fun k m σ H=>m=us.length - k/\k<=us.length/\I k σ H,⟨us.length,by simp,zero_le _,h0⟩,?_⟩
 rintro k m σ H ⟨rfl,hk,p⟩;have q:=hl k σ H p
 by_cases c:k<us.length
 ·obtain⟨v,hx⟩:∃ v,us[k]?=some v:=⟨_,cv c⟩;refine .inr ⟨⟨_,_,q,hx⟩,I (k+1),fun g f d=>⟨us.length - (k+1),by omega,rfl,c,d⟩,fun x f y=>?_⟩
  obtain⟨t,l,hn,rfl,rfl,hv⟩:=y
  have:=hv _ q
  rw[hx] at this;cases this
  refine⟨t,[.int k,v],rfl,aH.of ag,rfl,?_⟩;exact⟨_,_,rfl,_,_,rfl,rfl,step k v σ H _ hx p (ah.new hn _)⟩
 ·have e:k=us.length:=by omega
  subst e;exact .inl ⟨⟨_,q,rfl⟩,fin σ H p⟩
theorem Mh {i:Nat}{D:Ends}{σ:St}{H:Hp}(I:Nat->St->Hp->Prop)(h:aH K H a (ns.map V.int))(h0:I 0 σ H)(hl:∀ i σ H,I i σ H->aH K H a (ns.map V.int))
  (step:∀ k σ H H2,k<ns.length->I k σ H->ah H H2->tb {D with nx:=I (k+1),ct:=I (k+1),bk:=D.nx} ((σ.set i (some (.int k))).set j (some (.int (ns.getD k 0)))) H2)
  (fin:∀ σ H,I ns.length σ H->D.nx σ H):∃ b,[V.ref a]=[.ref b]/\(∃ xs,et false K H b xs)/\rY (m9 K 2 (dq (bA i) (dq (bA j) m7))) tb D σ (Cd false K b) H:=
 Gx false I h h0 hl (fun k v σ H H2 e p s=>by
  rw[ey] at e;have hk:k<ns.length:=Nat.lt_of_not_le fun z=>by rw[j6 z] at e;cases e
  have:=step k σ H H2 hk p s
  rw[cc] at this;rw[cv hk] at e this
  cases e;exact this) (fun σ H p=>fin σ H (by rw[di] at p;exact p))
theorem RG {tc:TT}{rest:St}(keep:Nat->Bool)(val:Nat->Int)(h:aH K H1 a (ns.map V.int))(hn:ns.length<sizeLine)
  (step:∀ i H (A:V->Hp->Prop) (B:Hp->Prop),i<ns.length->ah H1 H->(keep i=true->∀ H',ah H H'->A (.int (val i)) H')->(keep i=false->∀ H',ah H H'->B H')->
   tc (some (.int (i:Int))::some (.int (ns.getD i 0))::rest) H fun b H3=>if b=true then te (some (.int (i:Int))::some (.int (ns.getD i 0))::rest) H3 A else B H3)
  (fin:∀ acc H,H1 acc=none->ah H1 H->H acc=some (.lst ((((List.range ns.length).filter keep).map val).map V.int))->Q (.ref acc) H) :
  ∃ b,[V.ref a]=[.ref b]/\(∃ xs,et false K H1 b xs)/\rV (m9 K 2 (dq (bA 0) (dq (bA 1) m7))) tc te (none::none::rest) Q (Cd false K b) H1:=by
 refine⟨a,rfl,⟨_,h⟩,fun acc d=>?_⟩;refine⟨fun i m τ H=>m=ns.length - i/\i<=ns.length/\(∃ y z,τ=y::z::rest)/\ah H1 H/\H acc=some (.lst ((((List.range i).filter keep).map val).map V.int)),⟨ns.length,by simp,zero_le _,⟨_,_,rfl⟩,ah.new d _,ag⟩,?_⟩
 rintro i m τ H ⟨rfl,hi,⟨y,z,rfl⟩,g,l⟩;have o:=g.aJ h
 by_cases f:i<ns.length
 ·have hx:(ns.map V.int)[i]?=some (.int (ns.getD i 0)):=by
   rw[ey,cv f,cc,cv f];rfl
  refine .inr ⟨⟨_,_,o,hx⟩,fun q H'=>(∃ y z,q=y::z::rest)/\ah H1 H'/\H' acc=some (.lst ((((List.range (i+1)).filter keep).map val).map V.int)),fun q H' ⟨u,v,w⟩=>⟨ns.length - (i+1),by omega,rfl,f,u,v,w⟩,fun x H' y=>?_⟩
  obtain⟨t,v,n,rfl,rfl,hv⟩:=y
  have:=hv _ o
  rw[hx] at this;cases this
  have j:=ah.new n (.tup [.int (i:Int),.int (ns.getD i 0)]);refine⟨t,_,rfl,aH.of ag,rfl,_,_,rfl,_,_,rfl,rfl,?_⟩;simp only[set_cons_zero,set_cons_succ];have r:(((List.range i).filter keep).map val).length<=i:=by
   have:=C4 keep (List.range i)
   rw[kc] at this;rw[di];exact this
  refine step i _ _ _ f (g.trans j) (fun hk s c=>?_) fun hk s c=>?_
  ·have p:=c _ _ (j _ _ l);refine⟨_,p,?_,⟨_,_,rfl⟩,((g.trans j).trans c).set d _,?_⟩
   ·rw[di];omega
   ·rw[ag,I3,UA,hO,hO]
    simp[hk]
  ·refine⟨⟨_,_,rfl⟩,(g.trans j).trans c,?_⟩;rw[c _ _ (j _ _ l),I3,UA,hO,hO]
   simp[hk]
 ·have e:i=ns.length:=by omega
  subst e;exact .inl ⟨⟨_,o,by rw[di]⟩,fin acc H d g l⟩
theorem mh:∀ {vs:List Value} {ns:List Str},Vals (ns.map V.str) vs->∀ i,i<ns.length->∃ u,vs[i]?=some (.str (ns.getD i ba) u)
 | _,[],.nil,i,h=>absurd h (Uk i)
 | _,_::_,.cons ⟨t,rfl⟩ _,0,_=>⟨t,rfl⟩
 | _,_::_,.cons ⟨t,rfl⟩ r,i+1,h=>by
  obtain⟨u,e⟩:=mh r i (by simpa using h)
  exact⟨u,by simpa using e⟩
variable {prog:Program}{w:World}{A:Around}{E:Value->Shared->Prop}{s:Shared}{p:Addr}{ns:List Str}
theorem kn {vs:List Value}{k:Str}{t:Tok}{Q:Value->Shared->Prop}(hp:s.heap.IsTuple p vs.toArray)(hi:Vals (ns.map V.str) vs)(hk:k∈ns)(q:∀ tk,Q (.int (ns.idxOf k:Nat) tk) {s with toks:=s.toks+1}) :
  wpAny (model prog w) A (call (.builtin "tuple.index") [.ref p,.str k t]) Q E s:=by
 obtain⟨o,z,B,n,r⟩:=id hp;refine F2 slot_tuple_index hp.typeIs F.entry_tuple_index ?_ (F.args_tuple_index_2 _ _);unfold Builtin.«tuple.index»;refine dy (wpAny_of_eq (a:=(Value.ref p,[Value.str k t])) rfl ?_)
 dsimp only
 have b:=hi.length;rw[di] at b;have c:ns.idxOf k<ns.length:=C6.mpr hk;have dA:=mh hi;unfold Builtin.Tuple.tupleItemsOf;refine dy (dy (Ua z r (eR (dy (eR (dy (eR (dy ?_))))))));rw[Std.Legacy.Range.forIn_eq_forIn_range'];have d:∀ (m i:Nat) (R:Option Fin × Unit->Shared->Prop),i+m=vs.length->i<=ns.idxOf k->R (some (.done (.ret (.int (ns.idxOf k:Nat) s.toks))),()) {s with toks:=s.toks+1}->
   wpAny (model prog w) A.in1 (forIn (List.range' i m) ((none,()):Option Fin × Unit) fun (i:Nat) __s=>
    match vs.toArray[i]? with
    | some y=>do
     let __do_lift<-eqBool y (Value.str k t)
     if __do_lift=true then do
       let __do_lift<-retInt ((i:Nat):Int)
       pure (ForInStep.done (some __do_lift,()))
      else pure (ForInStep.yield (none,()))
    | x=>pure (ForInStep.yield (none,()))) R E s:=by
  intro m
  induction m with
  | zero=>intro i R h1 v _;omega
  | succ m l=>
   intro i R h1 v j;obtain⟨u,hu⟩:=dA i (by omega)
   rw[List.range'_succ,forIn_cons];have f:vs.toArray[i]?=some (.str (ns.getD i ba) u):=by simpa using hu
   simp only[f];refine dy (dy (wpAny_eqBool_str ?_))
   by_cases e:i=ns.idxOf k
   ·have g:decide (ns.getD i ba=k)=true:=by
     rw[e,cc,cv c];show decide (ns[ns.idxOf k]=k)=true;rw[UC c];exact ek rfl
    rw[g,if_pos rfl];unfold retInt;refine dy (dy (wpAny_mkInt (eR (eR (eR ?_)))));rw[e];exact j
   ·have g:decide (ns.getD i ba=k)=false:=by
     rw[cc,cv (by omega)]
     show decide (ns[i]=k)=false
     have:=Aq (show i<ns.idxOf k by omega) (by omega)
     exact eG (by simpa using this)
    rw[g,if_neg (by decide)]
    exact eR (l (i+1) R (by omega) (by omega) j)
 have h:(([: min vs.toArray.size vs.toArray.size]:Std.Legacy.Range)).size=vs.length:=by simp[Std.Legacy.Range.size]
 rw[h];exact d vs.length 0 _ (by omega) (zero_le _) (eR ⟨_,rfl,q _⟩)
def Gy (K:Frag):V->List V->Hp->VK->Prop:=fun x a H Q=>∃ (l:Addr) (ns:List Str) (k:Str),x=.ref l/\a=[.str k]/\aH K H l (ns.map V.str)/\k∈ns/\Q (.int (ns.idxOf k:Nat)) H
theorem yB (hK:X.K=K):xa X "tuple.index" (Gy K):=by
 subst hK;intro a s σ H x i v n Q I d e h;obtain⟨l,j,k,rfl,rfl,g,hk,q⟩:=h
 cases d
 obtain⟨u,rfl,c⟩:=e.one;obtain⟨t,rfl⟩:=c;obtain⟨b,r,f,hz⟩:=I.tuple g;exact kn (show s.heap.IsTuple l b.toArray from f) r hk (Q:=EP X a σ Q) fun m=>⟨.int _,H,I.tok _,⟨_,rfl⟩,q⟩
def Gz:List V->Hp->VK->Prop:=fun b H Q=>∃ a kvs,b=[.ref a]/\H a=some (.dK kvs)/\∀ l o,H l=none->o.cls=.type "tuple"->o.dict=none->Q (.ref l) (upd H l (.fe o (.tup (kvs.map fun p=>kV p.1))))
theorem yC (hc:X.calm=true):bQ X (.type "tuple") Gz:=by
 intro d s σ H C D Q I r h;obtain⟨a,g,rfl,e,q⟩:=h;obtain⟨u,rfl,v⟩:=vals1 r
 cases v
 obtain⟨z,n,A,f,m⟩:=K9 I.bb e;obtain⟨B,m⟩:=BS m;refine mw n (I.ok.hd hc) m (by rw[<-f.length];exact z) fun l j c hk i=>?_
 have t:Inv X d σ H {s with heap:=l,toks:=j}:=I.kept (t':=j) hk;have hv:Vals (g.map fun p=>kV p.1) c.toList:=BU f i;have y:Inv X d σ (upd H l.objs.size (.fe {cls:=.type "tuple",data:=.seq c} (.tup (g.map fun p=>kV p.1)))) {s with heap:=l.push {cls:=.type "tuple",data:=.seq c},toks:=j}:=
  t.laid (t':=j) (fun b o e=>ed _ e) (ef _) (show bz X.prog X.w _ _ _ (.fe _ (.tup _)) from ⟨hU _ rfl,by rw[di];exact z,c.toList,hv,IsTup.new _ _⟩)
 exact⟨.ref l.objs.size,_,y,rfl,q _ _ (t.bb.fresh (ef _)) rfl rfl⟩
theorem S5 {L:List (Bool × List Nat)}{rest:St}(val:(Bool × List Nat)->Str)(h:aH K H1 a us)(hg:GL K H1 us L)(hn:L.length<sizeLine)
  (step:∀ (i:Nat) g p H (A:V->Hp->Prop),L[i]?=some g->ah H1 H->aH K H p ((aD g.2).map V.int)->(∀ H',ah H H'->A (.str (val g)) H')->te (some (.str (kd g.1))::some (.ref p)::rest) H A)
  (fin:∀ acc H,H1 acc=none->ah H1 H->H acc=some (.lst ((L.map val).map V.str))->Q (.ref acc) H) :
  ∃ b,V.ref a=.ref b/\(∃ xs,aH K H1 b xs)/\rV (m9 K 2 (dq (bA 0) (dq (bA 1) m7))) gW te (none::none::rest) Q (Bc K b) H1:=by
 have E:=hg.length;refine⟨a,rfl,⟨_,h⟩,fun acc c=>?_⟩;refine⟨fun i m τ H=>m=L.length - i/\i<=L.length/\(∃ y z,τ=y::z::rest)/\ah H1 H/\H acc=some (.lst (((L.take i).map val).map V.str)),⟨L.length,by simp,zero_le _,⟨_,_,rfl⟩,ah.new c _,ag⟩,?_⟩
 rintro i m τ H ⟨rfl,hi,⟨y,z,rfl⟩,f,s⟩;have n:=f.aJ h
 by_cases q:i<L.length
 ·have hx:us[i]?=some (us[i]'(by omega)):=cv _
  refine .inr ⟨⟨_,_,n,hx⟩,fun t H'=>(∃ y z,t=y::z::rest)/\ah H1 H'/\H' acc=some (.lst (((L.take (i+1)).map val).map V.str)),fun t H' ⟨u,v,w⟩=>⟨L.length - (i+1),by omega,rfl,q,u,v,w⟩,fun x H' y=>?_⟩
  obtain⟨rfl,hv⟩:=y;have o:=hv _ n;obtain⟨g,r,p,j,rfl,C,B⟩:=(hg.mono f).get o;refine⟨r,_,rfl,C,rfl,_,_,rfl,_,_,rfl,rfl,?_⟩;simp only[gn,xP,jZ,set_cons_zero,set_cons_succ];refine step i g p _ _ j f B fun D d=>?_;have l:=d _ _ s;refine⟨_,l,?_,⟨_,_,rfl⟩,(f.trans d).set c _,?_⟩
  ·rw[di,di,qN];omega
  ·rw[ag]
   have:L.take (i+1)=L.take i++[g]:=by rw[take_succ,j];rfl
   rw[this,hO,hO];rfl
 ·have e:i=L.length:=by omega
  subst e;refine .inl ⟨⟨_,n,by omega⟩,fin acc H c f ?_⟩
  rw[s,SZ]
def xc (K:Frag)(H:Hp)(t:Addr)(b:Bk):Prop:=∃ a1 a2 a3,aH K H t [.ref a1,.ref a2,.ref a3]/\aH K H a1 (b.ns.map V.str)/\qG K H a1/\aH K H a2 ((aD b.cs).map V.int)/\aH K H a3 ((aD b.ws).map V.int)
variable {H H':Hp}{t:Addr}{b:Bk}
theorem xc.mono (s:ah H H')(h:xc K H t b):xc K H' t b:=by
 obtain⟨a,d,c,f,h1,g,i,e⟩:=h;exact⟨a,d,c,s.aJ f,s.aJ h1,g.mono s,s.aJ i,s.aJ e⟩
variable {C dx:Addr}{fs:List (Str × V)}
theorem xc.dh (s:Off a H H')(ha:H a=some (.ins C dx fs))(h:xc K H t b):xc K H' t b:=by
 obtain⟨c,e,d,g,h1,i,j,f⟩:=h;exact⟨c,e,d,g.dh s ha,h1.dh s ha,i.dh s ha,j.dh s ha,f.dh s ha⟩
variable {acc:Addr}{ys:List V}{o:HO}
theorem xc.cE (ha:H acc=some (.lst ys))(h:xc K H t b):xc K (upd H acc o) t b:=by
 obtain⟨a,d,c,f,h1,g,i,e⟩:=h;exact⟨a,d,c,f.cE ha,h1.cE ha,g.cE ha,i.cE ha,e.cE ha⟩
theorem Cf {d:Addr}(h:DN H d ns)(q:∀ l o,H l=none->o.cls=.type "tuple"->o.dict=none->Q (.ref l) (upd H l (.fe o (.tup (ns.map V.str))))):Gz [.ref d] H Q:=⟨d,_,rfl,h,by rw[vG];exact q⟩
def AI (K:Frag):Sp:=fun a H Q _=>∃ (L:List Ln) (b:Bk),a=[.str (ck L)]/\(∀ x∈L,gA x)/\L.length<=100/\cS ⟨[],[],[]⟩ L=some b/\∀ t H',ah H H'->xc K H' t b->Q (.ref t) H'
def vW (K:Frag):Sp:=fun a H Q _=>∃ (t:Addr) (ns:List Str) (cs ws:List Nat),a=[.ref t]/\xc K H t ⟨ns,cs,ws⟩/\g4 ns cs ws/\∀ H',ah H H'->Q (.str (ck ((bV ns ws).map (gE ns cs)))) H'
def Kb (b h:Addr):List (Str × V):=[("book",.ref b),("hall",.ref h)]
def vX (b:Addr):List (Str × V):=[("book",.ref b)]
variable {b:Addr}
theorem Kc:dz "book" (.ref b) []=vX b:=rfl
variable {h:Addr}
theorem Ke:dz "hall" (.ref h) (vX b)=Kb b h:=by
 unfold vX dz;rw[if_neg (by decide)];rfl
theorem vY:(vX b).lookup ("book":Str)=some (.ref b):=rfl
theorem AJ:(Kb b h).lookup ("book":Str)=some (.ref b):=rfl
theorem mV:(Kb b h).lookup ("hall":Str)=some (.ref h):=by
 unfold Kb;rw[SL,show (("hall":Str) == ("book":Str))=false from by decide];rfl
theorem Mi {m:Str}(h1:(m == ("book":Str))=false:=by decide)(h2:(m == ("hall":Str))=false:=by decide):(Kb b h).lookup m=none:=by
 unfold Kb;rw[SL,h1];dsimp only;rw[SL,h2];rfl
structure bc (K:Frag)(cH cD:Addr)(H:Hp)(d hl:Addr)(ns:List Str)(cs ws:List Nat)(L:List (Bool × List Nat))(hs:List Int):Prop where
 ex:∃ dx b,H d=some (.ins cD dx (Kb b hl))/\xc K H b ⟨ns,cs,ws⟩
 gh:∃ c g us,cj K cH H hl c g (aD cs) us hs/\GF K H us L
structure bI (ns:List Str)(cs ws:List Nat)(L:List (Bool × List Nat))(hs:List Int):Prop where
 xf:g4 ns cs ws
 best:lu (aD cs) ws (2 ^ (aD cs).length - 1) ((L.map (pF (aD cs))).sum,L)
 da:HN (aD cs) hs (aD cs).length
theorem cj.cE {K:Frag}{C a c g acc:Addr}{H:Hp}{cs hs:List Int}{us ys:List V}{o:HO}(h:cj K C H a c g cs us hs)(ha:H acc=some (.lst ys)):cj K C (upd H acc o) a c g cs us hs:=by
 obtain⟨b,n,h1,d⟩:=h.ex;exact⟨⟨b,n,by rw[aq (cF h1 ha fun z=>nomatch z)];exact h1,d.cE ha⟩,h.OV.cE ha,h.Pe.cE ha⟩
theorem cj.Kf {C' c g x:Addr}{cs hs:List Int}{fs:List (Str × V)}(h:cj K C H a c g cs us hs)(s:Off x H H')(hx:H x=some (.ins C' dx fs))(ne:a≠x):cj K C H' a c g cs us hs:=by
 obtain⟨d,n,h1,b⟩:=h.ex;exact⟨⟨d,n,s _ _ ne h1,b.dh s hx⟩,h.OV.dh s hx,h.Pe.dh s hx⟩
variable {cH cD d hl:Addr}{cs ws:List Nat}{L:List (Bool × List Nat)}{hs:List Int}
theorem bc.mono (h:bc K cH cD H d hl ns cs ws L hs)(s:ah H H'):bc K cH cD H' d hl ns cs ws L hs:=by
 obtain⟨⟨e,b,h1,f⟩,c,g,j,i,a⟩:=h;exact⟨⟨e,b,s _ _ h1,f.mono s⟩,c,g,j,i.mono s,a.mono s⟩
theorem bc.cE (h:bc K cH cD H d hl ns cs ws L hs)(ha:H acc=some (.lst ys)):bc K cH cD (upd H acc o) d hl ns cs ws L hs:=by
 obtain⟨⟨f,b,h1,e⟩,c,g,j,i,a⟩:=h;exact⟨⟨f,b,by rw[aq (cF h1 ha fun z=>nomatch z)];exact h1,e.cE ha⟩,c,g,j,i.cE ha,a.cE ha⟩
variable {x:Addr}
theorem bc.Kf (h:bc K cH cD H d hl ns cs ws L hs)(s:Off x H H')(hx:H x=some (.ins C dx fs))(n1:d≠x)(n2:hl≠x):bc K cH cD H' d hl ns cs ws L hs:=by
 obtain⟨⟨dx,b,h1,e⟩,c,g,i,f,a⟩:=h;exact⟨⟨dx,b,s _ _ n1 h1,e.dh s hx⟩,c,g,i,f.Kf s hx n2,a.dh s hx⟩
theorem bc.ne (h:bc K cH cD H d hl ns cs ws L hs):d≠hl:=fun e=>by
 obtain⟨⟨j,b,h1,_⟩,c,g,l,i,_⟩:=h;obtain⟨a,n,f,_⟩:=i.ex;rw[e,f] at h1
 injection h1 with h1
 injection h1 with _ _ h1
 have:=L4 List.length h1
 cases this
def gG (i:Int):Str:=Str.ofString (toString i)
def GA (ns:List Str)(l:List Nat):Str:=Str.join ⟨#[32]⟩ (l.map fun i=>ns.getD i ba)
def ez (ns:List Str)(l:List Nat):List Str:=if l=[] then [] else [GA ns l]
def GB (ns:List Str)(g:Bool × List Nat):Str:=Str.join ⟨#[32]⟩ (kd g.1::g.2.map fun i=>ns.getD i ba)
def yD (cs:List Int):Str:=gG (Qo cs)++Str.ofString "/"++gG (O7 cs)
inductive TK where
 | sure | share | groups | ring | order | book
def jg:TK->Str
 | .sure=>"sure"
 | .share=>"share"
 | .groups=>"groups"
 | .ring=>"ring"
 | .order=>"order"
 | .book=>"book"
def RH (ns:List Str)(cs ws:List Nat)(L:List (Bool × List Nat)):TK->List Str->Prop
 | .sure,a=>a=[gG (L.map (pF (aD cs))).sum]
 | .share,a=>a=[yD (aD cs)]
 | .groups,a=>a=L.map (GB ns)
 | .ring,a=>(¬ (laidOut ws).length<ws.length/\a=[])∨((laidOut ws).length<ws.length/\∃ r,Ring ws r/\a=ez ns r)
 | .order,a=>((laidOut ws).length<ws.length/\a=[])∨(¬ (laidOut ws).length<ws.length/\a=ez ns (laidOut ws))
 | .book,a=>a=iq (ck ((bV ns ws).map (gE ns cs)))
inductive AK where
 | told (k:TK)
 | right
 | du (i:Nat)
 | put (i c:Nat)
def dk (ns:List Str):AK->List Str
 | .told k=>[jg k]
 | .right=>["right"]
 | .du i=>["guess",ns.getD i ba]
 | .put i c=>["put",ns.getD i ba,dP c]
def iw (ns:List Str):AK->Prop
 | .told _=>True
 | .right=>True
 | .du i=>i<ns.length
 | .put i c=>i<ns.length/\c<10 ^ 30
def qZ (p z:Str):Bool:=if p="name" then bH z else decide (z="0")||df z
def GC:Sp:=fun a H Q _=>∃ p z:Str,a=[.str p,.str z]/\z.length<=1000000/\∀ H',ah H H'->Q (.bl (qZ p z)) H'
def AL (K:Frag)(e:Nat->Addr):Sp:=fun a H Q _=>∃ (p x:Addr) (w0:Str) (f b:List Str),a=[.ref p]/\aB K H p ((w0::b).map V.str)/\cM (om e) (.inr w0)=some (.ref x)/\aH K H x (f.map V.str)/\b.length=f.length/\b.length<=8/\(∀ z∈b,z.length<=1000000)/\(∀ k,k<f.length->qZ (f.getD k ba) (b.getD k ba)=true)/\(∀ H':Hp,aH K H' x (f.map V.str))/\∀ H',ah H H'->Q (.bl true) H'
def Mj (K:Frag)(er:Str->Addr):Sp:=fun a H Q E=>∃ (p:Addr) (ns:List Str) (z:Str),a=[.ref p,.str z]/\aH K H p (ns.map V.str)/\qG K H p/\(z∉ns->∀ H',ah H H'->E (.ref (er "NoName")) none H')/\(z∈ns->∀ H',ah H H'->Q (.int (ns.idxOf z:Nat)) H')
structure eQ (ns:List Str)(l:List Nat):Prop where
 nm:∀ x∈ns,x.length<=12
 lt:∀ i∈l,i<ns.length
 fD:l.length<=8
def vZ (K:Frag):Sp:=fun b H Q _=>∃ (p:Addr) (ns:List Str) (v:V) (l:List Nat),b=[.ref p,v]/\aH K H p (ns.map V.str)/\((v=.br/\l=[])∨∃ q,v=.ref q/\aH K H q ((aD l).map V.int))/\eQ ns l/\∀ a H',ah H H'->H a=none->H' a=some (.lst ((ez ns l).map V.str))->Q (.ref a) H'
def v3 (K:Frag):Sp:=fun b H Q _=>∃ (p q:Addr) (ns:List Str) (l:List Nat),b=[.ref p,.ref q]/\aH K H p (ns.map V.str)/\aB K H q ((aD l).map V.int)/\eQ ns l/\∀ a H',ah H H'->H a=none->H' a=some (.lst ((ez ns l).map V.str))->Q (.ref a) H'
def GH (K:Frag):Sp:=fun a H Q _=>∃ (p:Addr) (cs:List Int),a=[.ref p]/\aH K H p (cs.map V.int)/\bW cs/\∀ H',ah H H'->Q (.str (yD cs)) H'
def Ml (K:Frag):Sp:=fun a H Q _=>∃ (p q:Addr) (ns:List Str) (g:Bool × List Nat),a=[.ref p,.str (kd g.1),.ref q]/\aH K H p (ns.map V.str)/\aH K H q ((aD g.2).map V.int)/\eQ ns g.2/\∀ H',ah H H'->Q (.str (GB ns g)) H'
def Kg (K:Frag)(cH cD:Addr)(er:Str->Addr)(d hl:Addr)(ns:List Str)(cs ws:List Nat)(L:List (Bool × List Nat))(hs:List Int)(H:Hp)(Q:VK)(E:XK):AK->Prop
 | .told k=>∀ l rows H',ah H H'->H l=none->H' l=some (.lst (rows.map V.str))->RH ns cs ws L k rows->Q (.ref l) H'
 | .right=>∀ l H',ah H H'->H l=none->H' l=some (.lst ((ez ns (ir (aD cs) hs L)).map V.str))->Q (.ref l) H'
 | .du i=>∀ l H',ah H H'->H l=none->H' l=some (.lst [.str (gG (x9 (aD cs) L hs i))])->Q (.ref l) H'
 | .put i c=>(cI (aD cs) (hs.set i (c:Int))=false->∀ H',ah H H'->E (.ref (er "NoHats")) none H')/\(cI (aD cs) (hs.set i (c:Int))=true->∀ l H',Off hl H H'->H l=none->H' l=some (.lst [])->bc K cH cD H' d hl ns cs ws L (hs.set i (c:Int))->Q (.ref l) H')
theorem g4.len (P:g4 ns cs ws):(aD cs).length=ns.length:=by rw[ao,P.lc]
theorem g4.Cg (P:g4 ns cs ws):bW (aD cs):=by
 refine⟨fun c hc=>?_,by rw[P.len];exact P.nm.fD⟩
 unfold aD at hc;obtain⟨n,hn,rfl⟩:=j9.mp hc;have h:=P.RZ n hn;have e:(10:Nat) ^ 30=1000000000000000000000000000000:=by decide
 rw[e] at h;refine⟨?_,?_⟩
 ·show (1:Int)<=((n:Nat):Int)
  omega
 ·show ((n:Nat):Int)<=_
  omega
theorem g4.Mm (P:g4 ns cs ws):ic ws:=by
 refine⟨fun i hi=>?_,fun i hi=>?_⟩
 ·rw[P.lw] at hi ⊢;exact P.R1 i hi
 ·rw[P.lw] at hi
  have:=P.MB i hi
  unfold e9;rw[tD,this];rfl
theorem bI.Kh (D:bI ns cs ws L hs):BN (aD cs) ws L:=⟨fun g a=>(D.best.1.each g a).ok,D.best.1.yW⟩
variable {l:List Nat}
theorem tO {n:Nat}(nd:l.Nodup)(h:∀ x∈l,x<n):l.length<=n:=cB nd h
theorem bI.g8 (D:bI ns cs ws L hs):∀ g∈L,g.2.length<=8:=fun g a=>by
 have h:=(D.best.1.each g a).ok
 have:=tO h.nd h.lt
 rw[D.xf.len] at this
 have:=D.xf.nm.fD
 omega
theorem bI.fD (D:bI ns cs ws L hs):L.length<=8:=by
 have:=D.best.1.len
 rw[D.xf.len] at this
 have:=D.xf.nm.fD
 show L.length<=8;have h:((L.map (pF (aD cs))).sum,L).2.length<=ns.length:=by assumption
 exact ka h this
theorem Ki (h:l.Pairwise (· < ·)):nM l=true:=by
 unfold nM;refine kf.mpr fun k hk=>ek ?_;rw[ls] at hk;rw[cc,cc,cv (by omega),cv (by omega)]
 exact List.pairwise_iff_getElem.mp h k (k+1) (by omega) (by omega) (by omega)
variable {m:Nat}
theorem GJ {cs:List Int}{x:Int × List (Bool × List Nat)}(h:yA cs ws m x):C8 cs ws [] 0 (gI x.2)=none:=by
 refine AF (gone:=[]) (fun g a=>?_) h.yW (fun _ _ _ _ z=>nomatch z);have G:=h.each g a;exact⟨G.ok,G.ok.lt,G.ok.nd,O0.mpr G.ne,fun e=>⟨(G.ok.ring e).1,(G.ok.ring e).2.1⟩,fun e=>Ki (G.rise e)⟩
theorem AM {α:Type}{f:α->Int}:∀ {l:List α},(∀ x∈l,f x<=8)->(l.map f).sum<=8*l.length
 | [],_=>Int.le_refl _
 | a::r,h=>by
  have h1:=h a fO;have b:=AM (l:=r) fun x hx=>h x (fA _ hx);rw[pS,Uj,pb]
  omega
theorem bI.Kj (D:bI ns cs ws L hs):Bt 7 (L.map (pF (aD cs))).sum:=by
 have h:(L.map (pF (aD cs))).sum<=8*L.length:=AM fun g b=>by
  unfold pF
  split
  ·decide
  ·have c:=Gh D.xf.Cg.pos (D.best.1.each g b).ok.lt;have f:=D.g8 g b;have a:=ny c;have h1:=sj (Int.le_of_lt a) c;rw[Ag] at h1;refine Int.ediv_le_of_le_mul a (Int.le_trans h1 (Int.mul_le_mul_of_nonneg_right (by omega) (Int.le_of_lt a)))
 have e:=D.fD;have d:0<=(L.map (pF (aD cs))).sum:=D.best.1.nn;unfold Bt;show _<128
 omega
theorem g4.Pc (P:g4 ns cs ws):∀ x∈ns,x.length<=12:=fun x hx=>(dG (P.nm.nm x hx)).2.2
theorem bI.names (D:bI ns cs ws L hs){g:Bool × List Nat}(hg:g∈L):eQ ns g.2:=
 ⟨D.xf.Pc,fun i hi=>by have:=(D.best.1.each g hg).ok.lt i hi;rw[D.xf.len] at this;exact this,D.g8 g hg⟩
theorem rf (P:g4 ns cs ws):eQ ns (ir (aD cs) hs L):=by
 unfold ir;refine⟨P.Pc,fun i hi=>?_,?_⟩
 ·have:=(u5.mp hi).1
  rw[ls,P.len] at this;exact this
 ·refine ka (C4 _ _) ?_;rw[kc,P.len];exact P.nm.fD
theorem AN (P:g4 ns cs ws){r:List Nat}(h:Ring ws r):eQ ns r:=by
 have a:∀ i∈r,i<ns.length:=fun i hi=>by have:=h.lt i hi;rw[P.lw] at this;exact this
 exact⟨P.Pc,a,ka (tO h.nd a) P.nm.fD⟩
theorem oq (P:g4 ns cs ws):eQ ns (laidOut ws):=by
 obtain⟨l,h,_⟩:=gr ws;have a:∀ i∈laidOut ws,i<ns.length:=fun i hi=>by have:=h.lt i hi;rw[P.lw] at this;exact this
 exact⟨P.Pc,a,ka (tO h.nd a) P.nm.fD⟩
theorem v5 (n:Nat):cz (gG (n:Int))=(toDigits 10 n).map Char.toNat:=vy n
theorem GK {n:Nat}{k:Nat}(h:n<10 ^ k)(hk:0<k):(gG (n:Int)).length<=k:=by
 rw[aM,v5,di];exact(Nat.length_toDigits_le_iff (by decide) hk).mpr h
theorem gH {i:Int}{k:Nat}(h0:0<=i)(h:Bt k i)(hk:k<=900):(gG i).length<=300/\i.natAbs.log2<1920:=by
 obtain⟨n,rfl⟩:∃ n:Nat,i=(n:Int):=⟨i.toNat,by omega⟩
 have h:n<2 ^ k:=by unfold Bt at h;rwa [Uy] at h
 have a:n<2 ^ 900:=ih h (ri (by decide) hk)
 refine⟨GK (T2 a (by decide +kernel)) (by decide),?_⟩
 rw[Uy]
 by_cases z:n=0
 ·subst z;decide
 ·exact(log2_lt z).mpr (T2 a (by decide +kernel))
theorem namesW (h:eQ ns l):∀ x∈l.map (fun i=>ns.getD i ba),x.length<=12:=fun x hx=>by
 obtain⟨i,hi,rfl⟩:=j9.mp hx;exact h.nm _ (getD_memS (h.lt i hi))
theorem eV (c:Nat)(k:Nat):∀ (l:List Str),(∀ x∈l,x.length<=k)->(Str.join ⟨#[c]⟩ l).length<=l.length*(k+1)
 | [],_=>by show 0<=_;omega
 | [x],h=>by have:=h x fO;show x.length<=1*(k+1);omega
 | x::y::r,h=>by
  have a:=eV c k (y::r) fun z hz=>h z (fA _ hz)
  have:=h x fO
  rw[aM,bU,fz,fz,Ff,<-aM,<-aM];show x.length+1+_<=((y::r).length+1)*(k+1);rw[Nat.add_mul,Nat.one_mul]
  omega
theorem yE (k:TK):jg k≠"put"/\jg k≠"guess"/\jg k≠"right"/\32∉cz (jg k)/\(jg k).length<=12:=by cases k<;>decide +kernel
variable {c:Nat}
theorem iy (h:c<10 ^ 30):qZ "colour" (dP c)=true/\intText? (dP c)=some (c:Int)/\32∉cz (dP c)/\(dP c).length<=30:=by
 unfold qZ;rw[if_neg (by decide)]
 by_cases z:c=0
 ·subst z;decide +kernel
 ·have q:=dO (n:=c) (by omega) h
  have a:df (dP c)=true:=q.1;refine⟨?_,q.2,(ik a).1,iX a⟩;rw[a,Bool.or_true]
theorem OC (e:Nat->Addr)(k:TK):∃ j,j<9/\j≠5/\j≠6/\cM (om e) (.inr (jg k))=some (.ref (e j)):=by
 cases k with
 | sure=>exact⟨0,by decide,by decide,by decide,rfl⟩
 | share=>exact⟨1,by decide,by decide,by decide,rfl⟩
 | groups=>exact⟨2,by decide,by decide,by decide,rfl⟩
 | ring=>exact⟨3,by decide,by decide,by decide,rfl⟩
 | order=>exact⟨4,by decide,by decide,by decide,rfl⟩
 | book=>exact⟨8,by decide,by decide,by decide,rfl⟩
theorem Ci (e:Nat->Addr):cM (om e) (.inr "right")=some (.ref (e 7)):=rfl
theorem Kk (e:Nat->Addr):cM (om e) (.inr "put")=some (.ref (e 5)):=rfl
theorem Cj (e:Nat->Addr):cM (om e) (.inr "guess")=some (.ref (e 6)):=rfl
theorem empty_app (x:Str):Str.empty++x=x:=ke (by rw[bT];rfl)
variable {a:AK}
theorem lx (P:g4 ns cs ws)(h:iw ns a):dk ns a≠[]/\(∀ x∈dk ns a,32∉cz x/\x.length<=30)/\(dk ns a).length<=3:=by
 have b:∀ i,i<ns.length->32∉cz (ns.getD i ba)/\(ns.getD i ba).length<=30:=fun i hi=>by
  have q:=P.nm.nm _ (getD_memS hi);exact⟨(gw q).1,ka (dG q).2.2 (by decide)⟩
 cases a with
 | told k=>
  refine⟨(fun z=>nomatch z),fun x hx=>?_,by show 1<=3;decide⟩
  obtain rfl:x=jg k:=ea.mp hx;exact⟨(yE k).2.2.2.1,ka (yE k).2.2.2.2 (by decide)⟩
 | right=>
  refine⟨(fun z=>nomatch z),fun x hx=>?_,by show 1<=3;decide⟩
  obtain rfl:x="right":=ea.mp hx
  decide +kernel
 | du i=>
  refine⟨(fun z=>nomatch z),fun x hx=>?_,by show 2<=3;decide⟩
  rcases gz.mp hx with rfl | hx
  ·decide +kernel
  ·obtain rfl:x=ns.getD i ba:=ea.mp hx;exact b i h
 | put i c=>
  refine⟨(fun z=>nomatch z),fun x hx=>?_,by show 3<=3;decide⟩
  rcases gz.mp hx with rfl | hx
  ·decide +kernel
  ·rcases gz.mp hx with rfl | hx
   ·exact b i h.1
   ·obtain rfl:x=dP c:=ea.mp hx;have q:=iy h.2;exact⟨q.2.2.1,q.2.2.2⟩
variable {aF:Addr}
theorem GN {P:Program}{mg:Str->Option Value}{e:Nat->Addr}(FT:tM P w K mg aF e)(PP:g4 ns cs ws)(h:iw ns a) :
  ∃ (x:Addr) (w0:Str) (f b:List Str),dk ns a=w0::b/\cM (om e) (.inr w0)=some (.ref x)/\b.length=f.length/\b.length<=8/\(∀ z∈b,z.length<=1000000)/\(∀ k,k<f.length->qZ (f.getD k ba) (b.getD k ba)=true)/\∀ H':Hp,aH K H' x (f.map V.str):=by
 have d:∀ i,i<ns.length->bH (ns.getD i ba)=true/\(ns.getD i ba).length<=1000000:=fun i hi=>by
  have q:=PP.nm.nm _ (getD_memS hi);exact⟨q,ka (dG q).2.2 (by decide)⟩
 cases a with
 | told k=>
  obtain⟨j,o,p,n,hv⟩:=OC e k;exact⟨e j,jg k,[],[],rfl,hv,rfl,by decide,(fun _ z=>nomatch z),(fun _ z=>absurd z (Uk _)),FT.t0 j o p n⟩
 | right=>exact⟨e 7,"right",[],[],rfl,Ci e,rfl,by decide,(fun _ z=>nomatch z),(fun _ z=>absurd z (Uk _)),FT.t0 7 (by decide) (by decide) (by decide)⟩
 | du i=>
  obtain⟨l,g⟩:=d i h;refine⟨e 6,"guess",["name"],[ns.getD i ba],rfl,Cj e,rfl,by show 1<=8;decide,fun z hz=>?_,fun k hk=>?_,FT.t6⟩
  ·rw[ea.mp hz];exact g
  ·obtain rfl:k=0:=by have:k<1:=hk;omega
   exact l
 | put i c=>
  obtain⟨l,g⟩:=d i h.1;obtain⟨m,_,_,r⟩:=iy h.2;refine⟨e 5,"put",["name","colour"],[ns.getD i ba,dP c],rfl,Kk e,rfl,by show 2<=8;decide,fun z hz=>?_,fun k hk=>?_,FT.t5⟩
  ·rcases gz.mp hz with rfl | hz
   ·exact g
   ·rw[ea.mp hz];exact ka r (by decide)
  ·have hk:k<2:=hk
   rcases(show k=0∨k=1 by omega) with rfl | rfl
   ·exact l
   ·exact m
theorem GO {cs hs:List Int}{L:List (Bool × List Nat)}{i:Nat}(hc:bW cs)(hn:HN cs hs cs.length)(h:BN cs ws L)(hi:i<cs.length):0<=x9 cs L hs i/\Bt 100 (x9 cs L hs i):=by
 obtain⟨h1,a⟩:=Jw hc.pos hn h hi;have hm:cs.getD i 0∈cs:=by
  rw[cc,cv hi];exact oD hi
 exact⟨h1,(hc.cn _ hm).bt.of_le h1 (by omega)⟩
theorem my (hp:H p=none)(e:upd H p o=H1):ah H H1/\H1 p=some o:=by
 subst e;exact⟨ah.new hp o,ag⟩
variable {a:Addr}{xs:List V}
theorem Kl (k:Nat)(h:aB K H a xs)(q:∀ p H',ah H H'->H p=none->H' p=some (.lst (xs.drop k))->Q (.ref p) H'):DF K (.ref a) (some (k:Int)) none H Q:=
 ⟨a,xs,rfl,h,fun p b=>q p _ (ah.new b _) b (by rw[dv];exact ag)⟩
theorem tP (k:Nat)(h:aB K H a xs)(q:∀ p H',ah H H'->H p=none->H' p=some (.lst (xs.take k))->Q (.ref p) H'):DF K (.ref a) none (some (k:Int)) H Q:=
 ⟨a,xs,rfl,h,fun p b=>q p _ (ah.new b _) b (by rw[kU];exact ag)⟩
def AO:Sp:=fun b H Q _=>∃ (a:Addr) (dn:List Int) (many:Nat) (kind:Int) (i:Nat),b=[.ref a,.int many,.int kind,.int i]/\H a=some (.lst (dn.map V.int))/\dn.length=24/\(∀ x∈dn,0<=x)/\1<=many/\many<=8/\i<many/\∀ m:Nat,m<2 ^ many->m.testBit i=false->Q (.int (m:Int)) H
def GP:Sp:=fun b H Q _=>∃ (a:Addr) (dn:List Int) (kind:Int) (i:Nat),b=[.ref a,.int kind,.int i]/\H a=some (.lst (dn.map V.int))/\dn.length=8/\(∀ x∈dn,0<=x)/\i<8/\∀ (c:Nat) H',ah H H'->0<c->c<10 ^ 30->Q (.int (c:Int)) H'
theorem yF {n i:Nat}(h:i<n):2 ^ n - 1 - 2 ^ i<2 ^ n/\(2 ^ n - 1 - 2 ^ i).testBit i=false:=by
 have h1:2 ^ i<2 ^ n:=Ul (by decide) h
 have b:=T1 i;generalize a:2 ^ n=N at h1 ⊢;refine⟨by omega,?_⟩
 subst a;rw[show 2 ^ n - 1 - 2 ^ i=2 ^ n - (2 ^ i+1) by omega,Nat.testBit_two_pow_sub_succ h1,Nat.testBit_two_pow_self]
 simp
theorem AQ {n i:Nat}(h:i<n):((2 ^ n:Nat):Int) - 1 - ((2 ^ i:Nat):Int)=((2 ^ n - 1 - 2 ^ i:Nat):Int):=by
 have h1:2 ^ i<2 ^ n:=Ul (by decide) h
 omega
theorem AR {x e n i:Nat}(h:e<2 ^ n)(h2:e.testBit i=false):x&&& e<2 ^ n/\(x&&& e).testBit i=false:=by
 refine⟨FM Nat.and_le_right h,?_⟩;rw[testBit_and,h2,Uw]
variable {dn:List Int}{dr:Addr}
theorem bJ {i:Int}(hd:H dr=some (.lst (dn.map V.int)))(hl:dn.length=m)(hnn:∀ x∈dn,0<=x)(h0:0<=i)(h1:i<m)(q:∀ x:Nat,Q (.int (x:Int)) H):uQ K (.ref dr) (.int i) H Q:=by
 obtain⟨m,rfl⟩:=q7 h0;have hm:m<dn.length:=by omega
 obtain⟨x,hx⟩:=q7 (hnn _ (oD hm));exact av (aB.of hd) (ax (by rw[ey,cv hm,hx];rfl)) (q x)
def eW (z:Str):Prop:=∀ c∈cz z,c<1114112
theorem eW.app {a b:Str}(ha:eW a)(hb:eW b):eW (a++b):=fun c hc=>by
 rw[bT] at hc
 rcases kb.mp hc with z | z
 ·exact ha c z
 ·exact hb c z
theorem eW.join {d:Nat}(hd:d<1114112):∀ {l:List Str},(∀ x∈l,eW x)->eW (Str.join ⟨#[d]⟩ l)
 | [],_=>fun c hc=>nomatch hc
 | [x],h=>h x fO
 | x::y::r,h=>fun c hc=>by
  rw[bU,Ff] at hc
  rcases kb.mp hc with z | z
  ·rcases kb.mp z with z | z
   ·exact h x fO c z
   ·rw[ea.mp z];exact hd
  ·exact eW.join hd (fun x hx=>h x (fA _ hx)) c z
variable {z:Str}
theorem eW.ok (h:eW z):PyData.strOk z=true:=by
 unfold PyData.strOk;rw[<-Array.all_toList];exact kf.mpr fun c hc=>ek (h c hc)
theorem eW.low (h:i9 z):eW z:=fun c hc=>by
 have a:=uu (h c hc)
 have:∀ c∈cz kZ,c<1114112:=by decide +kernel
 exact this c a
theorem eW.gG {i:Int}(h:0<=i):eW (gG i):=by
 obtain⟨n,rfl⟩:=q7 h;intro c hc;rw[v5] at hc;obtain⟨d,a,rfl⟩:=j9.mp hc
 have:=Nat.isDigit_of_mem_toDigits (by decide) (by decide) a
 simp only[Char.isDigit,Bool.and_eq_true,decide_eq_true_eq] at this;have b:d.toNat<=57:=this.2
 omega
theorem tQ:∀ l:List Str,(∀ x∈l,eW x)->PyData.canLayAll0 (l.map PyData.str)=true
 | [],_=>by simp[PyData.canLayAll0]
 | x::r,h=>by simp[PyData.canLayAll0,PyData.canLay0,tQ r fun x hx=>h x (mem_cons_of_mem _ hx),(h x mem_cons_self).ok]
variable {l:List Str}
theorem mi (h:∀ x∈l,eW x):shaped (.list (l.map PyData.str))=true:=qM
 (by simp[PyData.canLay0,tQ l h]) (by have:=jr l;simp only[PyData.depth];omega)
theorem gJ:∀ l m:List Str,PyData.eqvAll (l.map PyData.str) (m.map PyData.str)=decide (l=m)
 | [],[]=>by simp[PyData.eqvAll]
 | [],_::_=>by simp[PyData.eqvAll]
 | _::_,[]=>by simp[PyData.eqvAll]
 | x::r,y::s=>by
  simp only[map_cons,PyData.eqvAll,PyData.eqv,gJ r s]
  by_cases h:x=y<;>by_cases a:r=s<;>simp[h,a]
theorem Ck (l m:List Str):PyData.eqv (.list (l.map PyData.str)) (.list (m.map PyData.str))=decide (l=m):=by
 simp only[PyData.eqv,gJ]
variable {q:Addr}{m:List Str}
theorem Km (hp:aB K H p (l.map V.str))(hq:aB K H q (m.map V.str))(cl:∀ x∈l,eW x)(cm:∀ x∈m,eW x)(h:Q (.bl (!decide (l=m))) H):NL K (.ref p) (.ref q) H Q:=
 ⟨_,_,.lst hp (mP _),.lst hq (mP _),mi cl,mi cm,by rw[Ck];exact h⟩
theorem ou {l:List Nat}(hn:∀ x∈ns,bH x=true)(h:eQ ns l):∀ x∈ez ns l,eW x:=fun x hx=>by
 unfold ez at hx
 split at hx
 ·cases hx
 ·rw[ea.mp hx];unfold GA;refine eW.join (by decide) fun y hy=>?_
  obtain⟨i,hi,rfl⟩:=j9.mp hy;exact eW.low (dG (hn _ (getD_memS (h.lt i hi)))).1
theorem bI.set {ns:List Str}{cs ws:List Nat}{L:List (Bool × List Nat)}{hs:List Int}{i col:Nat}(D:bI ns cs ws L hs)(hi:i<ns.length)(hc:col<cs.getD i 0):bI ns cs ws L (hs.set i (col:Int))/\cI (aD cs) (hs.set i (col:Int))=true:=by
 have a:HN (aD cs) (hs.set i (col:Int)) (aD cs).length:=HN.set D.da (natCast_nonneg _) (by rw[aT];omega)
 exact⟨⟨D.xf,D.best,a⟩,Ge a⟩
theorem ow (ns:List Str)(i:Nat):Str.ofString "guess "++ns.getD i ba=Str.join ⟨#[32]⟩ (dk ns (.du i)):=by
 rw[show Str.ofString "guess "=Str.ofString "guess"++⟨#[32]⟩ by decide +kernel];rfl
theorem v7 (ns:List Str)(i c:Nat):Str.ofString "put "++ns.getD i ba++Str.ofString " "++gG ((c:Nat):Int)=Str.join ⟨#[32]⟩ (dk ns (.put i c)):=by
 rw[show Str.ofString "put "=Str.ofString "put"++⟨#[32]⟩ by decide +kernel,show Str.ofString " "=⟨#[32]⟩ by decide +kernel]
 refine ke ?_;show _=cz (Str.join ⟨#[32]⟩ [Str.ofString "put",ns.getD i ba,dP c]);rw[bU,bU,bT,bT,bT,bT,sU,sU,sU,sU,sU];rfl
theorem Kn (P:g4 ns cs ws){a:AK}(h:iw ns a):(Str.join ⟨#[32]⟩ (dk ns a)).length<=93:=by
 obtain⟨_,b,c⟩:=lx P h;have h1:=eV 32 30 _ fun x hx=>(b x hx).2;have d:(dk ns a).length*31<=3*31:=FS _ c
 omega
def DQ (K:Frag)(x:Str)(st:Stmt):Prop:=∃ (f:Addr) (oc:Value) (od an:Option Addr) (sl:Array (Option Value)) (kV doc pm cd ct:Value),nsIn K mainGlobals x=some (some (.ref f))/\K.lookup f=some ⟨oc,od,.func (fnOf x x (bf st) (aO st) (ai st) .none kV doc pm an cd ct),sl⟩/\codeIn K cd x=true/\keepIn K (.ref f)=true
variable {h:Heap}
theorem DQ.def {x:Str}{st:Stmt}{mg:Str->Option Value}(q:DQ K x st)(X:K.In h)(G:h.Ns mainGlobals mg):Def K mg x st:=by
 obtain⟨_,_,_,_,_,_,_,_,_,_,a,b,c,d⟩:=q;exact ND X G a b c d
def MQ (K:Frag)(C:Addr)(m qual:Str)(st:Stmt):Prop:=∃ (f:Addr) (oc:Value) (od an:Option Addr) (sl:Array (Option Value)) (kV doc pm cd ct:Value),findIn K (.ref C) m=some (some (.ref f))/\K.lookup f=some ⟨oc,od,.func (fnOf m qual (bf st) (aO st) (ai st) .none kV doc pm an cd ct),sl⟩/\codeIn K cd qual=true/\keepIn K (.ref f)=true/\isFn K (.ref f)=true
variable {m:Str}
theorem MQ.def {qual:Str}{st:Stmt}(q:MQ K C m qual st):mx K C m qual st:=by
 obtain⟨_,_,_,_,_,_,_,_,_,_,a,b,c,d,e⟩:=q;exact J0 a b c d e
variable {R:Prop}
theorem v8 (h:H a=some (.ins C dx fs))(n:fs.lookup m=none)(r:R):∃ a' dx' fs',V.ref a=.ref a'/\H a'=some (.ins C dx' fs')/\fs'.lookup m=none/\R:=⟨a,dx,fs,rfl,h,n,r⟩
variable {f:Str}{v:V}{G:V->Prop}
theorem rh (h:H a=some (.ins C dx fs))(n:fs.lookup f=some v)(r:G v):∃ a' dx' fs' v',V.ref a=.ref a'/\H a'=some (.ins C dx' fs')/\fs'.lookup f=some v'/\G v':=⟨a,dx,fs,v,rfl,h,n,r⟩
variable {y:Str}
theorem GQ (hy:y.length≠0)(h1:z.length+2<=sizeLine)(h2:(Txt.split z y).length<=sizeLine)(r:∀ t,H t=none->Q (.ref t) (upd H t (.lst ((Txt.split z y).map V.str)))):Fc (.str z) [.str y] H Q:=⟨z,y,rfl,rfl,hy,h1,h2,r⟩
def mj (ws left:List Nat)(i:Nat):Nat:=(left.filter fun j=>e9 ws i j).getD 0 0
theorem GR {left:List Nat}{i:Nat}(h:∃ j∈left,e9 ws i j=true):mj ws left i∈left/\e9 ws i (mj ws left i)=true:=by
 obtain⟨j,hj,hs⟩:=h;have a:0<(left.filter fun j=>e9 ws i j).length:=length_pos_of_mem (u5.mpr ⟨hj,hs⟩);have hm:mj ws left i∈left.filter fun j=>e9 ws i j:=by
  unfold mj;rw[cc,cv a];exact oD a
 exact u5.mp hm
def Mn (ws left:List Nat):Nat->List Nat->Nat->List Nat
 | 0,a,_=>a
 | f+1,a,i=>if i∈a then a.drop (a.idxOf i) else Mn ws left f (a++[i]) (mj ws left i)
variable {f:Nat}
theorem Ko {left path:List Nat}{i:Nat}(hf:0<f)(h:i∈path):Mn ws left f path i=path.drop (path.idxOf i):=by
 match f,hf with
 | f+1,_=>unfold Mn;rw[if_pos h]
theorem GS {left path:List Nat}{i:Nat}(h:i∉path):Mn ws left (f+1) path i=Mn ws left f (path++[i]) (mj ws left i):=by
 conv=>lhs;unfold Mn
 rw[if_neg h]
def jt (m:Nat):List Nat:=(aL m).foldl (fun a i=>a++a.map fun x=>x+2 ^ i) [0]
abbrev OD:=Int × List (Bool × List Nat)
def ly (fl fb:List OD)(f o:Nat)(x:OD)(p:Nat):OD:=
 if x.1<(fl.getD (f+p) (0,[])).1+(fb.getD (o - p) (0,[])).1 then ((fl.getD (f+p) (0,[])).1+(fb.getD (o - p) (0,[])).1,(fl.getD (f+p) (0,[])).2++(fb.getD (o - p) (0,[])).2) else x
def Cm (m:Nat):Nat:=m - (m&&& (m - 1))
def Pd (fl fb:List OD)(m:Nat):OD:=(jt (m - Cm m)).foldl (ly fl fb (Cm m) (m - Cm m)) (if (fl.getD m (0,[])).1<(fb.getD (m - Cm m) (0,[])).1 then fb.getD (m - Cm m) (0,[]) else fl.getD m (0,[]))
def iA (fl:List OD):Nat->List OD
 | 0=>[(0,[])]
 | k+1=>iA fl k++[Pd fl (iA fl k) (k+1)]
theorem rj {α:Type}(f:α->Nat->α)(z:α)(l:List Nat){k:Nat}(h:k<l.length):(l.take (k+1)).foldl f z=f ((l.take k).foldl f z) (l.getD k 0):=by
 rw[take_succ,cv h,List.foldl_append,cc,cv h];rfl
def iB (ws:List Nat):List Nat:=Mn ws (bX ws) (ws.length+1) [] ((bX ws).getD 0 0)
def v9 (cs:List Int)(L:List (Bool × List Nat)):og:=((L.map (pF cs)).sum,L)
def AS (cs:List Int)(ws:List Nat)(m:Nat):List (Bool × List Nat):=if (laidOut (iu ws (tJ cs (aL m)))).length<(iu ws (tJ cs (aL m))).length then [(true,iB (iu ws (tJ cs (aL m))))] else []
def jh (cs:List Int)(ws:List Nat)(m:Nat):List (Bool × List Nat):=if m=0 then [] else if cN ws (aL m)=true then [(false,aL m)] else AS cs ws m
def cJ (cs:List Int)(ws:List Nat):List og:=(List.range (2 ^ cs.length)).map fun k=>v9 cs (jh cs ws k)
def ko (cs:List Int)(ws:List Nat):List (Bool × List Nat):=((iA (cJ cs ws) (2 ^ cs.length - 1)).getD (2 ^ cs.length - 1) (0,[])).2
def Mo (K:Frag):Sp:=fun a H Q _=>∃ (w l:Addr) (ws left:List Nat) (i:Nat),a=[.ref w,.int i,.ref l]/\aH K H w ((aD ws).map V.int)/\aB K H l ((aD left).map V.int)/\i<ws.length/\left.length<=8/\(∃ j∈left,e9 ws i j=true)/\∀ (H':Hp),ah H H'->Q (.int (mj ws left i:Nat)) H'
def OE (K:Frag)(H0:Hp)(w o lf pa:Addr)(ws:List Nat)(m:Nat)(σ:St)(H:Hp):Prop:=∃ (path:List Nat) (i:Nat),σ=[some (.ref w),some (.ref o),some (.ref lf),some (.ref pa),some (.int i)]/\ah H0 H/\aB K H lf ((aD (bX ws)).map V.int)/\H pa=some (.lst ((aD path).map V.int))/\Path ws (bX ws) path i/\m=ws.length - path.length/\Mn ws (bX ws) (ws.length+1 - path.length) path i=iB ws
def yG (K:Frag):Sp:=fun a H Q _=>∃ (w:Addr) (ws:List Nat),a=[.ref w]/\aH K H w ((aD ws).map V.int)/\ws.length<=8/\ic ws/\∀ (H':Hp),ah H H'->(¬ (laidOut ws).length<ws.length->Q .br H')/\((laidOut ws).length<ws.length->∀ p o,H' p=some (.fe o (.tup ((aD (iB ws)).map V.int)))->o.cls=.type "tuple"->o.dict=none->Ring ws (iB ws)->Q (.ref p) H')
def Mp (K:Frag):Sp:=fun a H Q _=>∃ (c w:Addr) (cs:List Int) (ws:List Nat) (m:Nat),a=[.ref c,.ref w,.int (m:Int)]/\aH K H c (cs.map V.int)/\aH K H w ((aD ws).map V.int)/\bW cs/\ws.length=cs.length/\ic ws/\0<m/\m<2 ^ cs.length/\
 ∀ (t:Addr) (us:List V) (H':Hp),ah H H'->aH K H' t us->GF K H' us (jh cs ws m)->oh cs ws m (v9 cs (jh cs ws m))->Q (.ref t) H'
def GU (K:Frag):Sp:=fun a H Q _=>∃ (c w:Addr) (cs:List Int) (ws:List Nat),a=[.ref c,.ref w]/\aH K H c (cs.map V.int)/\aH K H w ((aD ws).map V.int)/\bW cs/\ws.length=cs.length/\ic ws/\
 ∀ (l:Addr) (us:List V) (H':Hp),ah H H'->H l=none->H' l=some (.lst us)->kF K H' us (cJ cs ws)->(∀ k,k<2 ^ cs.length->oh cs ws k ((cJ cs ws).getD k (0,[])))->Q (.ref l) H'
def Mq:Sp:=fun a H Q _=>∃ (m:Nat),a=[.int (m:Int)]/\m<256/\∀ (l:Addr) (H':Hp),ah H H'->H l=none->H' l=some (.lst ((aD (jt m)).map V.int))->(∀ q∈jt m,Sub q m)->(jt m).length<=256->Q (.ref l) H'
def Mr (K:Frag):Sp:=fun a H Q _=>∃ (lo be:Addr) (cs:List Int) (ws:List Nat) (ul ub:List V) (fl fb:List og) (m:Nat),a=[.ref lo,.ref be,.int (m:Int)]/\aB K H lo ul/\aB K H be ub/\kF K H ul fl/\kF K H ub fb/\bW cs/\ws.length=cs.length/\fl.length=2 ^ cs.length/\fb.length=m/\0<m/\m<2 ^ cs.length/\
 (∀ k,k<2 ^ cs.length->oh cs ws k (fl.getD k (0,[])))/\(∀ k,k<m->lu cs ws k (fb.getD k (0,[])))/\∀ (v:V) (H':Hp),ah H H'->Ch K H' v (Pd fl fb m)->lu cs ws m (Pd fl fb m)->Q v H'
def Ms (K:Frag):Sp:=fun a H Q _=>∃ (c w:Addr) (cs:List Int) (ws:List Nat),a=[.ref c,.ref w]/\aH K H c (cs.map V.int)/\aH K H w ((aD ws).map V.int)/\bW cs/\ws.length=cs.length/\ic ws/\
 ∀ (t:Addr) (us:List V) (H':Hp),ah H H'->aH K H' t us->GF K H' us (ko cs ws)->lu cs ws (2 ^ cs.length - 1) (((ko cs ws).map (pF cs)).sum,ko cs ws)->Q (.ref t) H'
theorem lA (cs:List Int)(ws:List Nat):(cJ cs ws).length=2 ^ cs.length:=by unfold cJ;rw[di,kc]
variable {cs:List Int}
theorem rk {k:Nat}(h:k<2 ^ cs.length):(cJ cs ws).getD k (0,[])=v9 cs (jh cs ws k):=by
 unfold cJ;rw[cc,ey,q5 h];rfl
theorem ox {k:Nat}(h:k<2 ^ cs.length):(cJ cs ws).take (k+1)=(cJ cs ws).take k++[v9 cs (jh cs ws k)]:=by
 rw[take_succ];have e:(cJ cs ws)[k]?=some (v9 cs (jh cs ws k)):=by
  unfold cJ;rw[ey,q5 h];rfl
 rw[e];rfl
theorem Mt (cs:List Int)(ws:List Nat):v9 cs (jh cs ws 0)=(0,[]):=rfl
theorem lB (fl:List og):∀ k,(iA fl k).length=k+1
 | 0=>rfl
 | k+1=>by unfold iA;rw[fz,lB fl k];rfl
def AU (ns:List Str)(cs ws:List Nat)(L:List (Bool × List Nat)):TK->List Str->Prop
 | .ring,a=>(¬ (laidOut ws).length<ws.length/\a=[])∨((laidOut ws).length<ws.length/\a=ez ns (iB ws)/\Ring ws (iB ws))
 | k,a=>RH ns cs ws L k a
def AV (K:Frag):Sp:=fun a H Q _=>∃ (b g:Addr) (ns:List Str) (cs ws:List Nat) (us:List V) (L:List (Bool × List Nat)) (hs:List Int) (k:TK),a=[.ref b,.ref g,.str (jg k)]/\xc K H b ⟨ns,cs,ws⟩/\aH K H g us/\GF K H us L/\bI ns cs ws L hs/\∀ l rows H',ah H H'->H l=none->H' l=some (.lst (rows.map V.str))->AU ns cs ws L k rows->Q (.ref l) H'
def oy (K:Frag)(cH cD:Addr):Sp:=fun a H Q _=>∃ (x dx:Addr) (M:List Ln) (ns:List Str) (cs ws:List Nat),a=[.ref x,.str (ck M)]/\H x=some (.ins cD dx [])/\(∀ y∈M,gA y)/\M.length<=100/\cS ⟨[],[],[]⟩ M=some ⟨ns,cs,ws⟩/\g4 ns cs ws/\
 ∀ H' hl L,Off x H H'->H hl=none->L=ko (aD cs) ws->bc K cH cD H' x hl ns cs ws L (List.replicate cs.length 0)->bI ns cs ws L (List.replicate cs.length 0)->Q .br H'
def GV (K:Frag)(cH cD:Addr)(er:Str->Addr)(d hl:Addr)(ns:List Str)(cs ws:List Nat)(L:List (Bool × List Nat))(hs:List Int)(H:Hp)(Q:VK)(E:XK):AK->Prop
 | .told k=>∀ l rows H',ah H H'->H l=none->H' l=some (.lst (rows.map V.str))->AU ns cs ws L k rows->Q (.ref l) H'
 | a=>Kg K cH cD er d hl ns cs ws L hs H Q E a
def tR (K:Frag)(cH cD:Addr)(er:Str->Addr):Sp:=fun b H Q E=>∃ (d hl:Addr) (ns:List Str) (cs ws:List Nat) (L:List (Bool × List Nat)) (hs:List Int) (a:AK),b=[.ref d,.str (Str.join ⟨#[32]⟩ (dk ns a))]/\bc K cH cD H d hl ns cs ws L hs/\bI ns cs ws L hs/\iw ns a/\GV K cH cD er d hl ns cs ws L hs H Q E a
noncomputable def outF (ns:List Str)(cs ws:List Nat)(L:List (Bool × List Nat))(hs:List Int):AK->Option (List Str)
 | .told k=>some (match k with
  | .sure=>[gG (L.map (pF (aD cs))).sum]
  | .share=>[yD (aD cs)]
  | .groups=>L.map (GB ns)
  | .ring=>if (laidOut ws).length<ws.length then ez ns (iB ws) else []
  | .order=>if (laidOut ws).length<ws.length then [] else ez ns (laidOut ws)
  | .book=>iq (ck ((bV ns ws).map (gE ns cs))))
 | .right=>some (ez ns (ir (aD cs) hs L))
 | .du i=>some [gG (x9 (aD cs) L hs i)]
 | .put i c=>if cI (aD cs) (hs.set i (c:Int))=true then some [] else none
def ml (cs:List Nat)(hs:List Int):AK->List Int
 | .put i c=>if cI (aD cs) (hs.set i (c:Int))=true then hs.set i (c:Int) else hs
 | _=>hs
variable {r:List Str}{cs:List Nat}
theorem Co {L:List (Bool × List Nat)}{hs:List Int}{k:TK}(h:AU ns cs ws L k r):outF ns cs ws L hs (.told k)=some r:=by
 cases k with
 | ring=>
  rcases h with ⟨c,e⟩ | ⟨c,e,_⟩
  ·rw[e];show some (if _ then _ else _)=_;rw[if_neg c]
  ·rw[e];show some (if _ then _ else _)=_;rw[if_pos c]
 | order=>
  rcases h with ⟨c,e⟩ | ⟨c,e⟩
  ·rw[e];show some (if _ then _ else _)=_;rw[if_pos c]
  ·rw[e];show some (if _ then _ else _)=_;rw[if_neg c]
 | sure=>rw[show r=_ from h];rfl
 | share=>rw[show r=_ from h];rfl
 | groups=>rw[show r=_ from h];rfl
 | book=>rw[show r=_ from h];rfl
theorem OF {x:Ln}(h:gA x):eW (k9 x):=by
 refine eW.join (by decide) fun y hy=>?_
 cases x with
 | dA n c=>
  rcases gz.mp hy with rfl | hy
  ·unfold eW;decide +kernel
  ·rcases gz.mp hy with rfl | hy
   ·exact eW.low (dG h.1).1
   ·rw[ea.mp hy];exact(eW.gG (i:=(c:Int)) (natCast_nonneg c) :)
 | sees n l=>
  rcases gz.mp hy with rfl | hy
  ·unfold eW;decide +kernel
  ·exact eW.low (dG (h.nm y hy)).1
theorem GW {L:List (Bool × List Nat)}{hs:List Int}{k:TK}(D:bI ns cs ws L hs)(h:AU ns cs ws L k r):∀ x∈r,eW x:=by
 have P:=D.xf;have b:=P.Cg;intro x hx
 cases k with
 | sure=>
  rw[show r=_ from h] at hx
  rw[ea.mp hx];exact eW.gG D.best.1.nn
 | share=>
  rw[show r=_ from h] at hx
  rw[ea.mp hx];exact((eW.gG (xR b)).app (by unfold eW;decide +kernel)).app (eW.gG (by have:=nz b;omega))
 | groups=>
  rw[show r=_ from h] at hx
  obtain⟨g,c,rfl⟩:=j9.mp hx;refine eW.join (by decide) fun y hy=>?_
  rcases gz.mp hy with rfl | hy
  ·unfold eW;cases g.1<;>decide +kernel
  ·obtain⟨i,hi,rfl⟩:=j9.mp hy;exact eW.low (dG (P.nm.nm _ (getD_memS ((D.names c).lt i hi)))).1
 | ring=>
  rcases h with ⟨_,e⟩ | ⟨_,e,f⟩
  ·rw[e] at hx;cases hx
  ·rw[e] at hx;exact ou P.nm.nm (AN P f) x hx
 | order=>
  rcases h with ⟨_,e⟩ | ⟨_,e⟩
  ·rw[e] at hx;cases hx
  ·rw[e] at hx;exact ou P.nm.nm (oq P) x hx
 | book=>
  have a:=(fG P).qS P;rw[show r=iq _ from h,gD a] at hx
  obtain⟨l,d,rfl⟩:=j9.mp hx;exact OF (a l d)
theorem Off.oz (s:ah H H'):Off a H H':=fun b u _ e=>s b u e
def stays:AK->Prop
 | .put _ _=>False
 | _=>True
variable {E:XK}
theorem AW {er:Str->Addr}{L:List (Bool × List Nat)}{hs:List Int}(a:AK)(hD:bc K cH cD H d hl ns cs ws L hs)(D:bI ns cs ws L hs)(ha:iw ns a)
  (r:∀ l rows H',outF ns cs ws L hs a=some rows->(∀ x∈rows,eW x)->Off hl H H'->(stays a->ah H H')->H l=none->H' l=some (.lst (rows.map V.str))->bc K cH cD H' d hl ns cs ws L (ml cs hs a)->Q (.ref l) H')
  (x:outF ns cs ws L hs a=none->∀ H',ah H H'->E (.ref (er "NoHats")) none H'):tR K cH cD er [.ref d,.str (Str.join ⟨#[32]⟩ (dk ns a))] H Q E:=by
 refine⟨d,hl,ns,cs,ws,L,hs,a,rfl,hD,D,ha,?_⟩
 cases a with
 | told k=>exact fun l rows H' s b h1 t=>r l rows H' (Co t) (GW D t) (Off.oz s) (fun _=>s) b h1 (hD.mono s)
 | right=>exact fun l H' s b h1=>r l _ H' rfl (ou D.xf.nm.nm (rf D.xf)) (Off.oz s) (fun _=>s) b h1 (hD.mono s)
 | du i=>exact fun l H' s b h1=>r l [_] H' rfl (fun x hx=>by rw[ea.mp hx];exact eW.gG (GO D.xf.Cg D.da D.Kh (by rw[D.xf.len];exact ha)).1) (Off.oz s) (fun _=>s) b h1 (hD.mono s)
 | put i c=>
  refine⟨fun z H' s=>x ?_ H' s,fun z l H' o b h1 e=>r l [] H' ?_ (fun _ z=>nomatch z) o (fun z=>nomatch z) b h1 ?_⟩
  ·show (if _ then _ else _)=_;rw[if_neg (by rw[z];exact hI)]
  ·show (if _ then _ else _)=_;rw[if_pos z]
  ·show bc _ _ _ _ _ _ _ _ _ _ (if _ then _ else _);rw[if_pos z];exact e
def oA (K:Frag)(cH cD:Addr):Sp:=fun b H Q _=>∃ (d hl:Addr) (ns:List Str) (cs ws:List Nat) (L:List (Bool × List Nat)) (hs:List Int) (a:AK),b=[.ref d,.str (Str.join ⟨#[32]⟩ (dk ns a))]/\bc K cH cD H d hl ns cs ws L hs/\bI ns cs ws L hs/\iw ns a/\
 (∀ t l kl rows H',outF ns cs ws L hs a=some rows->(∀ x∈rows,eW x)->Off hl H H'->(stays a->ah H H')->H l=none->H' t=some (.tup [.ref l,.ref kl])->H' l=some (.lst (rows.map V.str))->H' kl=some (.lst [])->bc K cH cD H' d hl ns cs ws L (ml cs hs a)->Q (.ref t) H')/\
 (outF ns cs ws L hs a=none->∀ t kl H',ah H H'->H' t=some (.tup [.br,.ref kl])->H' kl=some (.lst ([false,false,true,false].map V.bl))->Q (.ref t) H')
theorem Kp:kL 10 12:=by unfold kL;decide
theorem Kq:(10:Int) ^ (12:Int).toNat=1000000000000:=by decide
def we:Sp:=fun b H Q _=>∃ (dr nm ct:Addr) (ns:List Str) (cs ws:List Nat) (dn:List Int),b=[.ref dr,.ref nm,.ref ct]/\H dr=some (.lst (dn.map V.int))/\dn.length=8/\(∀ x∈dn,0<=x)/\H nm=some (.lst (ns.map V.str))/\H ct=some (.lst ((aD cs).map V.int))/\g4 ns cs ws/\ns≠[]/\
 ∀ a H',ah H H'->iw ns a->(∀ i c,a=.put i c->c<=cs.getD i 0)->Q (.str (Str.join ⟨#[32]⟩ (dk ns a))) H'
def Mu:Nat->TK
 | 0=>.groups
 | 1=>.ring
 | 2=>.order
 | 3=>.sure
 | 4=>.share
 | _=>.book
def oB:List Str:=["groups","ring","order","sure","share","book","right","right","guess","guess","put","put"]
theorem Kr {k:Nat}(h:k<12):(k<6/\oB.getD k ba=jg (Mu k))∨((k=6∨k=7)/\oB.getD k ba="right")∨((k=8∨k=9)/\oB.getD k ba="guess")∨oB.getD k ba="put":=by
 match k,h with
 | 0,_=>exact .inl ⟨by decide,rfl⟩
 | 1,_=>exact .inl ⟨by decide,rfl⟩
 | 2,_=>exact .inl ⟨by decide,rfl⟩
 | 3,_=>exact .inl ⟨by decide,rfl⟩
 | 4,_=>exact .inl ⟨by decide,rfl⟩
 | 5,_=>exact .inl ⟨by decide,rfl⟩
 | 6,_=>exact .inr (.inl ⟨.inl rfl,rfl⟩)
 | 7,_=>exact .inr (.inl ⟨.inr rfl,rfl⟩)
 | 8,_=>exact .inr (.inr (.inl ⟨.inl rfl,rfl⟩))
 | 9,_=>exact .inr (.inr (.inl ⟨.inr rfl,rfl⟩))
 | 10,_=>exact .inr (.inr (.inr rfl))
 | 11,_=>exact .inr (.inr (.inr rfl))
theorem oC:∀ {l:List Str} {us:List Value},Vals (l.map V.str) us->StrsAre us l
 | [],_,.nil=>.nil
 | x::l,_,.cons ⟨t,e⟩ r=>by subst e;exact .cons x t (oC r)
theorem kq:∀ {l:List Str} {us:List Value},StrsAre us l->Vals (l.map V.str) us
 | _,_,.nil=>.nil
 | _,_,.cons y t r=>.cons ⟨t,rfl⟩ (kq r)
def OG (K:Frag):List V->Hp->VK->Prop:=fun b H Q=>∃ (p:Addr) (l:List Str),b=[.ref p]/\aB K H p (l.map V.str)/\l.length<64/\∀ (a:Addr) (ms:List Str),H a=none->ms.Perm l->Q (.ref a) (upd H a (.lst (ms.map V.str)))
theorem tT (hK:X.K=K):bQ X (.builtin "sorted") (OG K):=by
 subst hK;intro d s σ H y A Q I r h;obtain⟨p,l,rfl,hq,v,q⟩:=h;obtain⟨u,rfl,m⟩:=vals1 r
 cases m
 obtain⟨c,g,t,hz⟩:=I.list hq;have hi:=oC g;have j:c.length=l.length:=by have:=g.length;rw[di] at this;exact this.symm
 refine sorted_strs t.isList hi (by omega) fun a f n i _=>?_
 obtain⟨e,he⟩:=sortedAll_at s.heap c a;refine⟨.ref _,_,I.laid (t':=s.toks) (fun b o z=>sortedAll_old z) (le_succ _) (show bz X.prog X.w _ _ _ (.lst (f.map V.str)) from ⟨?_,a.toList,e,kq n,he⟩),rfl,q _ f (I.bb.fresh (le_succ _)) i⟩
 rw[di,i.length_eq];exact bZ (by omega)
def Sg (d:Addr)(o:Obj)(kvs:List (Key × V)):It:=
 ⟨fun i H=>i<kvs.length/\H d=some (.fe o (.dK kvs)),fun i H x a=>a=H/\∃ k v,kvs[i]?=some (k,v)/\x=kV k,fun i H=>kvs.length<=i/\H d=some (.fe o (.dK kvs))⟩
theorem pairs_at {P:Program} :∀ {es:List DictEntry} {vs:List (Key × Value)},PySem.Pairs (bB P w) es vs->es.length=vs.length/\∀ {i:Nat} {e:DictEntry},es[i]?=some e->∃ kv,vs[i]?=some kv/\(bB P w).is kv.1 e.key=true:=by
 intro es vs r
 induction r with
 | nil=>exact⟨rfl,fun e=>nomatch e⟩
 | @cons e kv es vs h1 c r a=>
  refine⟨by rw[pb,pb,a.1],fun {i} {b} g=>?_⟩
  cases i with
  | zero=>cases g;exact⟨kv,rfl,h1⟩
  | succ j=>exact a.2 g
theorem RI:∀ {kvs:List (Key × V)} {vs:List (Key × Value)},KV kvs vs->∀ {i:Nat} {kv:Key × Value},vs[i]?=some kv->∃ v,kvs[i]?=some (kv.1,v):=by
 intro kvs vs r
 induction r with
 | nil=>intro i kv e;cases e
 | @cons p q f d h t a=>
  intro i kv e
  cases i with
  | zero=>
   cases e
   obtain⟨b,c⟩:=p;have h1:b=q.1:=h.1;exact⟨c,by rw[<-h1];rfl⟩
  | succ j=>exact a e
theorem Ks {P:Program}{k:Key}{u:Value}(h:(bB P w).is k u=true):RelV (kV k) u:=by
 rcases bx h with ⟨i,t,rfl,rfl⟩ | ⟨x,t,rfl,rfl⟩
 ·exact⟨t,rfl⟩
 ·exact⟨t,rfl⟩
variable {o:Obj}
theorem Kt {P:Program}{tg:Expr}(d it:Addr){kvs:List (Key × V)}{es:Array DictEntry}{ep:Nat}(ho:o.data=.dict es ep)(hl:es.size=kvs.length):Turn P w K tg (Sg d o kvs) [it] it (fun i h=>h.IsKeyIter it d i es.size ep) where
 mem:=by simp
 obj:=fun i h a b hb=>by
  have e:b=it:=by simpa using hb
  subst e;obtain⟨o,e,c,d⟩:=a;exact⟨o,e,fun v z=>by rw[d] at z;cases z⟩
 keep:=fun i h n a k=>by
  obtain⟨o,e,c⟩:=a;exact⟨o,k it (by simp) o e,c⟩
 item:=by
  intro X G B A hc i f s σ H E I p a C;subst G B A;obtain⟨hi,m⟩:=C;obtain⟨l,z,y,vs,r,o',Z,ep',M,cd,J,hk,O,hn⟩:=(show bz X.prog X.w H s.heap d (.fe o (.dK kvs)) from I.bb d _ m)
  rw[l] at M
  cases M
  rw[ho] at J
  cases J
  have g:i<es.size:=by omega
  obtain⟨kv,W,T⟩:=(pairs_at O).2 (i:=i) (e:=es[i]) (by rw[getElem?_toList,Array.getElem?_eq_getElem g])
  obtain⟨v,Y⟩:=RI r W;obtain⟨q,D,N,u,t,F⟩:=p it (by simp)
  refine Gj a l ho g fun n j sb=>?_;have U:Inv X f σ H {s with heap:=n}:=I.turned (t':=s.toks) (fun b o hb e=>(sb.2 b hb).trans e) q D u t F;obtain⟨oi,Q,S,R⟩:=id j;exact⟨_,rfl,zq (s:={s with heap:=n}) Q S R (by decide) ⟨kV kv.1,H,U,Ks T,⟨rfl,_,v,Y,rfl⟩,j,fun b hb=>(p b hb).1⟩⟩
 done:=by
  intro X G B A hc i f s σ H E I p a C;subst G B A;obtain⟨hi,m⟩:=C;obtain⟨l,_⟩:=(show bz X.prog X.w H s.heap d (.fe o (.dK kvs)) from I.bb d _ m)
  obtain⟨q,D,N,u,t,F⟩:=p it (by simp)
  exact J9 (I.ok.hd hc) a l ho (by omega) fun n eb=>⟨rfl,I.turned (t':=s.toks) (fun b o hb e=>eb b o hb e) q D u t F⟩
 self:=fun _ _ _ _ _ a h=>wpAny_pyIter_keyiter a h
def S6 (td:TE):TI:=fun σ H R=>td σ H fun x H1=>∃ d kvs,x=.ref d/\H1 d=some (.dK kvs)/\∀ o,R (Sg d o kvs) (upd H1 d (.fe o (.dK kvs)))
variable {tg l:Expr}
theorem RJ {td:TE}(hl:PE X l td):PI X tg l (S6 td):=by
 intro c s σ H R I h;refine bP (hl c s σ H _ I h) fun v f ⟨x,H1,u,C,B⟩=>?_;obtain⟨d,a,e,t,q⟩:=B;subst e
 cases C
 obtain⟨z,y,D,r,o,A,E,g,p,i,hk,n,hn⟩:=(show bz X.prog X.w H1 f.heap d (.dK a) from u.bb d _ t)
 have j:A.size=a.length:=by rw[<-Us,(pairs_at n).1,KV.length r]
 have m:Inv X c σ (upd H1 d (.fe o (.dK a))) f:=
  rS (h':=f.heap) (t':=f.toks) u (by rw[t];exact True.intro) ⟨rfl,fun b _=>rfl⟩ ⟨o,g⟩ ⟨g,z,y,D,r,o,A,E,g,p,i,hk,n,hn⟩
 refine Gi y g p i ?_;refine⟨f.heap.objs.size,[f.heap.objs.size],_,_,upd H1 d (.fe o (.dK a)),rfl,m.kept (t':=f.toks) fun b o e=>ed _ e,Kt d _ i j,⟨_,hU _ rfl,rfl,rfl⟩,fun b hb=>?_,q o⟩;have e:b=f.heap.objs.size:=by simpa using hb
 subst e;exact m.uG (ef _) (m.bb.fresh (ef _))
theorem TQ {td:TE}(hl:QE X l td):QI X tg l (S6 td):=⟨RJ hl.h⟩
theorem Mv {σ:St}{R:It->Hp->Prop}{td:TE}:S6 td σ H R=td σ H fun x H1=>∃ d kvs,x=.ref d/\H1 d=some (.dK kvs)/\∀ o,R (Sg d o kvs) (upd H1 d (.fe o (.dK kvs))):=rfl
theorem Inv.S7 {pins:List (Addr × Obj)}{σ:St}{kvs:List (Key × V)}(I:Inv X pins σ H s)(hd:H d=some (.fe o (.dK kvs)))(hn:∀ o u,X.H₀ d≠some (.fe o u)):Inv X pins σ (upd H d (.dK kvs)) s:=by
 have ne:∀ {b:Addr},H b=none->upd H d (.dK kvs) b=none:=fun {b} e=>by rw[aq (Ne.symm (az hd e))];exact e
 refine⟨I.ok,I.os,I.bare,⟨I.base.keep,I.base.slot,fun b ob e h x=>ne (I.base.free b ob e h x),I.base.there,fun b f e=>?_,fun b ob u e=>?_,fun b m e=>?_⟩,I.loc,I.cell,ne I.free,fun x c e=>ne (I.fC x c e),fun p i=>?_,fun b ob e=>?_,I.len⟩
 ·have a:=I.base.oS b f e;rw[aq (cF a hd (fun z=>nomatch z))];exact a
 ·have a:=I.base.lP b ob u e;rw[aq (fun z=>by subst z;exact hn _ _ e)];exact a
 ·obtain⟨more,a⟩:=I.base.oR b m e;exact⟨more,by rw[aq (cF a hd (fun z=>nomatch z))];exact a⟩
 ·obtain⟨l,j,g⟩:=I.pin p i;exact⟨l,ne j,g⟩
 ·by_cases z:b=d
  ·subst z;rw[ag] at e
   cases e
   exact(show bz X.prog X.w H s.heap b (.fe o (.dK kvs)) from I.bb b _ hd).2
  ·rw[aq z] at e;refine(I.bb b ob e).kG (fun _ _ _ q=>q) (fun c q=>by rw[aq (cF q hd (fun z=>nomatch z))];exact q) fun c n q=>?_
   rw[aq (cF q hd (fun z=>nomatch z))];exact q
def RK (t:TE):TE:=fun σ H Q=>∃ d kvs,H d=some (.dK kvs)/\t σ H fun v H1=>∃ o,H1 d=some (.fe o (.dK kvs))/\Q v (upd H1 d (.dK kvs))
variable {t:TE}
theorem S8 (h:QE X e t):QE X e (RK t):=by
 refine⟨fun a s σ H Q I hq=>?_⟩;obtain⟨d,b,c,hq⟩:=hq;have hn:∀ o u,X.H₀ d≠some (.fe o u):=fun o u z=>by
  have:=I.base.lP d o u z
  rw[c] at this;cases this
 refine bP (h.h a s σ H _ I hq) fun v j ⟨x,H1,i,g,o,h1,f⟩=>?_;exact⟨x,_,i.S7 h1 hn,g,f⟩
theorem Mw {σ:St} :RK t σ H Q=∃ d kvs,H d=some (.dK kvs)/\t σ H fun v H1=>∃ o,H1 d=some (.fe o (.dK kvs))/\Q v (upd H1 d (.dK kvs)):=rfl
def bC (kv:List (Nat × Nat))(z:List Int):List Int:=kv.foldl (fun hs p=>hs.set p.1 ((p.2:Nat):Int)) z
theorem dS:∀ (kv:List (Nat × Nat)) (z:List Int),(bC kv z).length=z.length
 | [],_=>rfl
 | p::r,z=>by
  show (bC r (z.set p.1 _)).length=_;rw[dS r,length_set]
theorem dU:∀ {kv:List (Nat × Nat)} {z:List Int} {j:Nat},j∉kv.map (·.1)->(bC kv z)[j]?=z[j]?
 | [],_,_,_=>rfl
 | p::r,z,j,h=>by
  rw[pS,gz,not_or] at h;show (bC r (z.set p.1 _))[j]?=_;rw[dU h.2,Uh (Ne.symm h.1)]
theorem eX:∀ {kv:List (Nat × Nat)} {z:List Int} {p:Nat × Nat},(kv.map (·.1)).Nodup->p∈kv->p.1<z.length->(bC kv z)[p.1]?=some ((p.2:Nat):Int)
 | [],_,_,_,h,_=>nomatch h
 | a::r,z,p,b,h,c=>by
  rw[pS,vr] at b;show (bC r (z.set a.1 _))[p.1]?=_
  rcases gz.mp h with rfl | h
  ·rw[dU b.1,LI c]
  ·exact eX b.2 h (by rw[length_set];exact c)
variable {z:List Int}
theorem wg {kv kv':List (Nat × Nat)}(h:kv'.Perm kv)(nd:(kv.map (·.1)).Nodup):bC kv' z=bC kv z:=by
 have a:(kv'.map (·.1)).Nodup:=(h.map _).nodup_iff.mpr nd;refine A5 fun j=>?_
 by_cases hj:j∈kv.map (·.1)
 ·obtain⟨p,b,rfl⟩:=j9.mp hj
  by_cases c:p.1<z.length
  ·rw[eX nd b c,eX a (h.mem_iff.mpr b) c]
  ·rw[j6 (by rw[dS];omega),j6 (by rw[dS];omega)]
 ·rw[dU hj,dU (fun z=>hj ((h.map _).mem_iff.mp z))]
def fm (kv:List (Nat × Nat))(p:Nat × Nat):List (Nat × Nat):=if p.1∈kv.map (·.1) then kv.map fun q=>if q.1=p.1 then p else q else kv++[p]
variable {p:Nat × Nat}
theorem rn {kv:List (Nat × Nat)}(nd:(kv.map (·.1)).Nodup):((fm kv p).map (·.1)).Nodup:=by
 unfold fm
 split
 ·have e:(kv.map fun q=>if q.1=p.1 then p else q).map (·.1)=kv.map (·.1):=by
   rw[kJ];refine List.map_congr_left fun q _=>?_;show (if q.1=p.1 then p else q).1=q.1
   split
   ·rename_i e;exact e.symm
   ·rfl
  rw[e];exact nd
 ·rename_i h
  rw[hO];exact Uc.mpr ⟨nd,by simp,fun a c b hb=>by rw[ea.mp hb];rintro rfl;exact h c⟩
theorem wj {kv:List (Nat × Nat)}{q:Nat × Nat}(h:q∈fm kv p):q=p∨(q∈kv/\q.1≠p.1):=by
 unfold fm at h
 split at h
 ·obtain⟨r,a,e⟩:=j9.mp h
  split at e
  ·exact .inl e.symm
  ·rename_i n;subst e;exact .inr ⟨a,n⟩
 ·rename_i n
  rcases kb.mp h with h | h
  ·exact .inr ⟨h,fun e=>n (e ▸ List.mem_map_of_mem h)⟩
  ·exact .inl (ea.mp h)
theorem wk {kv:List (Nat × Nat)}(nd:(kv.map (·.1)).Nodup)(hl:p.1<z.length):bC (fm kv p) z=(bC kv z).set p.1 ((p.2:Nat):Int):=by
 have b:=rn (p:=p) nd;have d:p∈fm kv p:=by
  unfold fm
  split
  ·rename_i h
   obtain⟨q,hq,e⟩:=j9.mp h;exact j9.mpr ⟨q,hq,if_pos e⟩
  ·exact r4 _ (ea.mpr rfl)
 refine A5 fun j=>?_
 by_cases e:j=p.1
 ·rw[e,eX b d hl,LI (by rw[dS];exact hl)]
 ·rw[Uh (Ne.symm e)]
  by_cases hj:j∈kv.map (·.1)
  ·obtain⟨q,hq,rfl⟩:=j9.mp hj;have c:q∈fm kv p:=by
    unfold fm
    split
    ·exact j9.mpr ⟨q,hq,if_neg e⟩
    ·exact SC _ hq
   by_cases a:q.1<z.length
   ·rw[eX nd hq a,eX b c a]
   ·rw[j6 (by rw[dS];omega),j6 (by rw[dS];omega)]
  ·rw[dU hj,dU fun h=>?_];obtain⟨q,hq,rfl⟩:=j9.mp h
   rcases wj hq with rfl | ⟨h1,_⟩
   ·exact e rfl
   ·exact hj (List.mem_map_of_mem h1)
theorem tU {α β:Type}(f:α->β){a b:List β}(h:a.Perm b):∀ {l:List α},b=l.map f->∃ k:List α,a=k.map f/\k.Perm l:=by
 induction h with
 | nil=>intro l e;exact⟨l,e,.refl _⟩
 | cons x _ o=>
  intro l e
  cases l with
  | nil=>cases e
  | cons y r=>
   obtain⟨g,c⟩:=Re e;obtain⟨k,j,n⟩:=o c;exact⟨y::k,by rw[pS,<-g,j],n.cons y⟩
 | swap x y r=>
  intro l e
  match l,e with
  | p::q::t,e=>
   obtain⟨g,c⟩:=Re e;obtain⟨c,s⟩:=Re c;exact⟨q::p::t,by rw[pS,pS,<-g,<-c,<-s],.swap p q t⟩
 | trans _ _ d i=>
  intro l e;obtain⟨k,j,n⟩:=i e;obtain⟨m,u,v⟩:=d j;exact⟨m,u,v.trans n⟩
structure iC (ns:List Str)(cs:List Nat)(kv:List (Nat × Nat)):Prop where
 nd:(kv.map (·.1)).Nodup
 lt:∀ p∈kv,p.1<ns.length/\p.2<cs.getD p.1 0
def fM (ns:List Str)(kv:List (Nat × Nat)):List (Key × V):=kv.map fun p=>(.inr (ns.getD p.1 ba),.str (dP p.2))
def z0 (cs:List Nat):List Int:=List.replicate cs.length 0
def wm (K:Frag)(cH cD:Addr):Sp:=fun a H Q _=>∃ (ht dr:Addr) (M:List Ln) (ns:List Str) (cs ws:List Nat) (kv:List (Nat × Nat)) (dn:List Int),a=[.str (ck M),.ref ht,.ref dr]/\(∀ y∈M,gA y)/\M.length<=100/\cS ⟨[],[],[]⟩ M=some ⟨ns,cs,ws⟩/\g4 ns cs ws/\H ht=some (.dK (fM ns kv))/\iC ns cs kv/\H dr=some (.lst (dn.map V.int))/\dn.length=8/\(∀ x∈dn,0<=x)/\
 ∀ d hl H',ah H H'->H d=none->H hl=none->bc K cH cD H' d hl ns cs ws (ko (aD cs) ws) (bC kv (z0 cs))->bI ns cs ws (ko (aD cs) ws) (bC kv (z0 cs))->Q (.ref d) H'
theorem Ku {kvs:List (Key × V)}(h:H1 d=some (.fe o (.dK kvs))):uY (Sg d o kvs) H1 kvs.length fun i=>(kvs.map fun p=>kV p.1).getD i .br where
 go:=fun i H e hi=>⟨hi,e _ _ h⟩
 stop:=fun i H e hi=>⟨hi,e _ _ h⟩
 yY:=fun i H x c e hi y=>by
  obtain⟨a,k,v,b,rfl⟩:=y;refine⟨a,?_⟩;rw[cc,ey,b];rfl
theorem GX {kv:List (Nat × Nat)}{i:Nat}(h:i<kv.length):kv[i]?=some (kv.getD i (0,0))/\kv.getD i (0,0)∈kv:=by
 rw[cc,cv h];exact⟨rfl,oD h⟩
theorem Kv {kv:List (Nat × Nat)}{i:Nat}(h:i<kv.length):((fM ns kv).map fun p=>kV p.1).getD i .br=.str (ns.getD (kv.getD i (0,0)).1 ba):=by
 unfold fM;rw[cc,ey,ey,(GX h).1];rfl
theorem AX {ns:List Str}{cs:List Nat}:∀ {kv:List (Nat × Nat)} {p:Nat × Nat},ns.Nodup->iC ns cs kv->p∈kv->cM (fM ns kv) (.inr (ns.getD p.1 ba))=some (.str (dP p.2))
 | [],_,_,_,h=>nomatch h
 | a::r,p,b,K,h=>by
  have d:iC ns cs r:=⟨(vr.mp K.nd).2,fun q hq=>K.lt q (fA _ hq)⟩;show cM ((.inr (ns.getD a.1 ba),.str (dP a.2))::fM ns r) _=_
  rcases gz.mp h with rfl | h
  ·exact cu rfl
  ·rw[cw,AX b d h];intro e;have e:ns.getD a.1 ba=ns.getD p.1 ba:=Sum.inr.inj e;have f:=(K.lt a fO).1;have c:=(K.lt p (fA _ h)).1;rw[cc,cc,cv f,cv c] at e
   have:=(getElem_inj b).mp e
   exact(vr.mp K.nd).1 (j9.mpr ⟨p,h,this.symm⟩)
def putL (ns:List Str)(p:Nat × Nat):Str:=Str.join ⟨#[32]⟩ (dk ns (.put p.1 p.2))
theorem kr (ns:List Str)(kv:List (Nat × Nat)):(fM ns kv).length=kv.length:=by unfold fM;rw[di]
theorem iC.fD {kv:List (Nat × Nat)}(h:iC ns cs kv):kv.length<=ns.length:=by
 have:=tO h.nd (n:=ns.length) fun x hx=>by
  obtain⟨p,a,rfl⟩:=j9.mp hx;exact(h.lt p a).1
 rw[di] at this;exact this
theorem yH {α:Type}(g:Nat × Nat->α)(l:List (Nat × Nat)):((List.range l.length).map fun i=>g (l.getD i (0,0)))=l.map g:=by
 refine ext_getElem (by rw[di,di,kc]) fun i h1 a=>?_
 rw[di] at a;rw[List.getElem_map,List.getElem_range,List.getElem_map,cc,cv a];rfl
theorem wo {kv:List (Nat × Nat)}{k:Nat}(h:k<kv.length):bC (kv.take (k+1)) z=(bC (kv.take k) z).set (kv.getD k (0,0)).1 (((kv.getD k (0,0)).2:Nat):Int):=by
 unfold bC;rw[take_succ,(GX h).1,List.foldl_append];rfl
def RL (K:Frag)(cH cD:Addr)(H0:Hp)(st:L2.St)(l x hl:Addr)(ns:List Str)(cs ws:List Nat)(L:List (Bool × List Nat))(kx:List (Nat × Nat))(k:Nat)(σ:L2.St)(H:Hp):Prop:=∃ y:Option V,σ=st++[y]/\ah H0 H/\H l=some (.lst ((kx.map (putL ns)).map V.str))/\bc K cH cD H x hl ns cs ws L (bC (kx.take k) (z0 cs))/\bI ns cs ws L (bC (kx.take k) (z0 cs))
def Kd (H H':Hp):Prop:=∀ b u,(∀ kvs,u≠.dK kvs)->H b=some u->H' b=some u
theorem Kd.upd {H:Hp}{a:Addr}{kvs:List (Key × V)}{o:HO}(h:H a=some (.dK kvs)):Kd H (L2.upd H a o):=fun b u n e=>by
 rw[aq (fun z=>by subst z;rw[h] at e;exact n _ (ot e).symm)];exact e
variable {r:Addr}
theorem aH.kd (s:Kd H H')(h:aH K H r xs):aH K H' r xs:=by
 rcases h with (h | ⟨o,h⟩) | h
 ·exact .inl (.inl (s _ _ (fun _ z=>nomatch z) h))
 ·exact .inl (.inr ⟨o,s _ _ (fun _ z=>nomatch z) h⟩)
 ·exact .inr h
variable {p:Addr}
theorem qG.kd (s:Kd H H'):qG K H p->qG K H' p
 | .inl h=>.inl h
 | .inr ⟨o,u,h,t⟩=>.inr ⟨o,u,s _ _ (fun _ z=>nomatch z) h,t⟩
theorem GF.kd (s:Kd H H'):∀ {vs:List V} {L:List (Bool × List Nat)},GF K H vs L->GF K H' vs L
 | [],[],h=>h
 | _::_,_::_,⟨⟨r,p,e,h,a,t⟩,q⟩=>⟨⟨r,p,e,h.kd s,a.kd s,t.kd s⟩,GF.kd s q⟩
 | [],_::_,h=>h.elim
 | _::_,[],h=>h.elim
theorem xc.kd {t:Addr}{b:Bk}(s:Kd H H')(h:xc K H t b):xc K H' t b:=by
 obtain⟨a,d,c,f,h1,g,i,e⟩:=h;exact⟨a,d,c,f.kd s,h1.kd s,g.kd s,i.kd s,e.kd s⟩
theorem bc.kd {cH cD d hl:Addr}{ns:List Str}{cs ws:List Nat}{L:List (Bool × List Nat)}{hs:List Int}(s:Kd H H')(h:bc K cH cD H d hl ns cs ws L hs):bc K cH cD H' d hl ns cs ws L hs:=by
 obtain⟨⟨j,b,h1,l⟩,c,g,p,⟨⟨a,n,f,o⟩,i,e⟩,m⟩:=h;exact⟨⟨j,b,s _ _ (fun _ z=>nomatch z) h1,l.kd s⟩,c,g,p,⟨⟨a,n,s _ _ (fun _ z=>nomatch z) f,o.kd s⟩,i.kd s,e.kd s⟩,m.kd s⟩
structure Sd where
 b:Addr
 M:List Ln
 ns:List Str
 cs:List Nat
 ws:List Nat
 d:Addr
 hl:Addr
 ht:Addr
 kv:List (Nat × Nat)
end L2
namespace L2
open PySem PySem.Spec PyProof.Rows
def Sd.L (s:Sd):List (Bool × List Nat):=ko (aD s.cs) s.ws
def Sd.hs (s:Sd):List Int:=bC s.kv (z0 s.cs)
theorem GY {ns:List Str}{cs:List Nat}{kv:List (Nat × Nat)}{i c:Nat}(nd:ns.Nodup)(h:iC ns cs kv)(hi:i<ns.length):putK (fM ns kv) (.inr (ns.getD i ba)) (.str (dP c))=fM ns (fm kv (i,c)):=by
 have inj:∀ p∈kv,(Sum.inr (ns.getD p.1 ba):Key)=.inr (ns.getD i ba)↔p.1=i:=fun p a=>by
  constructor
  ·intro e;have e:ns.getD p.1 ba=ns.getD i ba:=Sum.inr.inj e;have b:=(h.lt p a).1;rw[cc,cc,cv b,cv hi] at e;exact(getElem_inj nd).mp e
  ·intro e;rw[e]
 unfold putK fm
 by_cases hj:i∈kv.map (·.1)
 ·obtain⟨p,a,e⟩:=j9.mp hj;rw[if_pos,if_pos hj]
  ·unfold fM;rw[kJ,kJ];refine List.map_congr_left fun q hq=>?_;show (if (Sum.inr (ns.getD q.1 ba):Key)=.inr (ns.getD i ba) then ((Sum.inr (ns.getD q.1 ba):Key),V.str (dP c)) else (.inr (ns.getD q.1 ba),.str (dP q.2)))=(Sum.inr (ns.getD (if q.1=i then (i,c) else q).1 ba),V.str (dP (if q.1=i then (i,c) else q).2))
   by_cases z:q.1=i
   ·rw[if_pos ((inj q hq).mpr z),if_pos z,z]
   ·rw[if_neg (fun y=>z ((inj q hq).mp y)),if_neg z]
  ·rw[UF];exact⟨_,List.mem_map_of_mem a,ek ((inj p a).mpr e)⟩
 ·rw[if_neg,if_neg hj]
  ·unfold fM;rw[hO];rfl
  ·rw[UF];rintro⟨x,hx,e⟩;obtain⟨p,a,rfl⟩:=j9.mp hx;exact hj (j9.mpr ⟨p,a,(inj p a).mp (uu e)⟩)
def OH (H H':Hp)(b:Addr)(ns:List Str)(cs ws:List Nat):Prop:=∃ a1 a2 a3,(H b=none/\H a1=none/\H a2=none/\H a3=none)/\H' b=some (.lst [.ref a1,.ref a2,.ref a3])/\H' a1=some (.lst (ns.map V.str))/\H' a2=some (.lst ((aD cs).map V.int))/\H' a3=some (.lst ((aD ws).map V.int))
def fo (F:List Addr)(H:Hp)(b:Addr)(ns:List Str)(cs ws:List Nat):Prop:=∃ a1 a2 a3,(∀ x∈F,x≠b/\x≠a1/\x≠a2/\x≠a3)/\H b=some (.lst [.ref a1,.ref a2,.ref a3])/\H a1=some (.lst (ns.map V.str))/\H a2=some (.lst ((aD cs).map V.int))/\H a3=some (.lst ((aD ws).map V.int))
variable {F:List Addr}{H H':Hp}{b:Addr}{ns:List Str}{cs ws:List Nat}
theorem OH.x (h:OH H H' b ns cs ws)(hF:∀ x∈F,H x≠none):fo F H' b ns cs ws:=by
 obtain⟨a,i,c,⟨d,f,j,g⟩,h⟩:=h;exact⟨a,i,c,fun x hx=>⟨fun e=>hF x hx (e ▸ d),fun e=>hF x hx (e ▸ f),fun e=>hF x hx (e ▸ j),fun e=>hF x hx (e ▸ g)⟩,h⟩
theorem fo.at (h:fo F H b ns cs ws):LQ H b ns cs ws:=by
 obtain⟨a,d,c,_,h⟩:=h;exact⟨a,d,c,h⟩
theorem fo.mono (h:fo F H b ns cs ws)(s:ah H H'):fo F H' b ns cs ws:=by
 obtain⟨a,d,c,n,e,h1,f,g⟩:=h;exact⟨a,d,c,n,s _ _ e,s _ _ h1,s _ _ f,s _ _ g⟩
theorem fo.upd {x:Addr}{o:HO}(h:fo F H b ns cs ws)(hx:x∈F):fo F (L2.upd H x o) b ns cs ws:=by
 obtain⟨a,e,c,n,g,h1,l,m⟩:=h;obtain⟨f,d,j,i⟩:=n x hx;exact⟨a,e,c,n,by rw[aq (Ne.symm f)];exact g,by rw[aq (Ne.symm d)];exact h1,by rw[aq (Ne.symm j)];exact l,by rw[aq (Ne.symm i)];exact m⟩
variable {G:List Addr}
theorem fo.more (h:fo F H b ns cs ws)(hG:∀ x∈G,H x=none):fo G H b ns cs ws:=by
 obtain⟨e,g,f,_,a,h1,c,d⟩:=h;exact⟨e,g,f,fun x hx=>⟨Ne.symm (az a (hG x hx)),Ne.symm (az h1 (hG x hx)),Ne.symm (az c (hG x hx)),Ne.symm (az d (hG x hx))⟩,a,h1,c,d⟩
theorem fo.off {x C dx:Addr}{fs:List (Str × V)}(h:fo F H b ns cs ws)(s:Off x H H')(hx:H x=some (.ins C dx fs)):fo F H' b ns cs ws:=by
 obtain⟨a,d,c,n,f,h1,g,i⟩:=h;have k:∀ {y:Addr} {l:List V},H y=some (.lst l)->H' y=some (.lst l):=fun {y l} e=>s _ _ (cF e hx fun z=>nomatch z) e;exact⟨a,d,c,n,k f,k h1,k g,k i⟩
theorem fo.kd (h:fo F H b ns cs ws)(s:Kd H H'):fo F H' b ns cs ws:=by
 obtain⟨a,d,c,n,e,h1,f,g⟩:=h;exact⟨a,d,c,n,s _ _ (fun _ z=>nomatch z) e,s _ _ (fun _ z=>nomatch z) h1,s _ _ (fun _ z=>nomatch z) f,s _ _ (fun _ z=>nomatch z) g⟩
def rp (K:Frag):Sp:=fun c H Q _=>∃ (a:Addr) (xs:List Int) (most kinds:Nat),c=[.ref a,.int most,.int kinds]/\aB K H a (xs.map V.int)/\xs.length=3/\1<=most/\most<=8/\1<=kinds/\kinds<=6/\∀ b ns cs ws H',ah H H'->OH H H' b ns cs ws->g4 ns cs ws->ns.length<=most->Q (.ref b) H'
structure ku (F:List Addr)(H:Hp)(s:Sd):Prop where
 bk:fo F H s.b s.ns s.cs s.ws
 P:g4 s.ns s.cs s.ws
 CJ:∀ y∈s.M,gA y
 len:s.M.length<=100
 book:cS ⟨[],[],[]⟩ s.M=some ⟨s.ns,s.cs,s.ws⟩
variable {s:Sd}
theorem ku.mono (h:ku F H s)(q:ah H H'):ku F H' s:=⟨h.bk.mono q,h.P,h.CJ,h.len,h.book⟩
theorem ku.upd {x:Addr}{o:HO}(h:ku F H s)(hx:x∈F):ku F (L2.upd H x o) s:=⟨h.bk.upd hx,h.P,h.CJ,h.len,h.book⟩
theorem ku.more (h:ku F H s)(hG:∀ x∈G,H x=none):ku G H s:=⟨h.bk.more hG,h.P,h.CJ,h.len,h.book⟩
def RM (H0:Hp)(a tx bo:Addr)(k:Nat)(σ:L2.St)(H:Hp):Prop:=∃ (y:Option V) (S:List Sd),σ=some (.ref a)::some (.ref tx)::some (.ref bo)::y::List.replicate 15 none/\ah H0 H/\H tx=some (.lst (S.map fun s=>.str (ck s.M)))/\H bo=some (.lst (S.map fun s=>.ref s.b))/\S.length=k/\∀ s∈S,ku [tx,bo] H s
structure g5 (K:Frag)(cH cD:Addr)(F:List Addr)(H:Hp)(s:Sd):Prop where
 b:ku F H s
 wG:bc K cH cD H s.d s.hl s.ns s.cs s.ws s.L s.hs
 ok:bI s.ns s.cs s.ws s.L s.hs
 pN:H s.ht=some (.dK (fM s.ns s.kv))
 da:iC s.ns s.cs s.kv
variable {l:Addr}
theorem bc.My {K:Frag}{cH cD d:Addr}{L:List (Bool × List Nat)}{hs:List Int}(h:bc K cH cD H d l ns cs ws L hs):∃ C dx fs,H l=some (.ins C dx fs):=by
 obtain⟨_,_,_,_,a,_⟩:=h;obtain⟨_,_,b,_⟩:=a.ex;exact⟨_,_,_,b⟩
variable {K:Frag}{cH cD:Addr}
theorem g5.mono (h:g5 K cH cD F H s)(q:ah H H'):g5 K cH cD F H' s:=⟨h.b.mono q,h.wG.mono q,h.ok,q _ _ h.pN,h.da⟩
theorem g5.cE {x:Addr}{o:HO}{ys:List V}(h:g5 K cH cD F H s)(hx:x∈F)(hl:H x=some (.lst ys)):g5 K cH cD F (L2.upd H x o) s:=
 ⟨h.b.upd hx,h.wG.cE hl,h.ok,by rw[aq (cF h.pN hl fun z=>nomatch z)];exact h.pN,h.da⟩
theorem g5.off {x C dx:Addr}{fs:List (Str × V)}(h:g5 K cH cD F H s)(q:Off x H H')(hx:H x=some (.ins C dx fs))(n1:s.d≠x)(n2:s.hl≠x):g5 K cH cD F H' s:=
 ⟨⟨h.b.bk.off q hx,h.b.P,h.b.CJ,h.b.len,h.b.book⟩,h.wG.Kf q hx n1 n2,h.ok,q _ _ (cF h.pN hx fun z=>nomatch z) h.pN,h.da⟩
theorem g5.S9 {a:Addr}{kvs kvs':List (Key × V)}(h:g5 K cH cD F H s)(ha:H a=some (.dK kvs))(n:s.ht≠a):g5 K cH cD F (L2.upd H a (.dK kvs')) s:=
 ⟨⟨h.b.bk.kd (Kd.upd ha),h.b.P,h.b.CJ,h.b.len,h.b.book⟩,h.wG.kd (Kd.upd ha),h.ok,by rw[aq n];exact h.pN,h.da⟩
theorem g5.GZ (h:g5 K cH cD F H s):∃ C dx fs,H s.hl=some (.ins C dx fs):=by
 obtain⟨_,_,_,_,a,_⟩:=h.wG;obtain⟨_,_,b,_⟩:=a.ex;exact⟨_,_,_,b⟩
theorem g5.put {i c:Nat}(h:g5 K cH cD F H s)(q:Off s.hl H H')(hD:bc K cH cD H' s.d s.hl s.ns s.cs s.ws s.L (s.hs.set i ((c:Nat):Int)))(hi:i<s.ns.length)(hc:c<s.cs.getD i 0) :
  g5 K cH cD F (L2.upd H' s.ht (.dK (fM s.ns (fm s.kv (i,c))))) {s with kv:=fm s.kv (i,c)}:=by
 obtain⟨_,_,_,hx⟩:=h.GZ;have a:=q _ _ (cF h.pN hx fun z=>nomatch z) h.pN;have e:bC (fm s.kv (i,c)) (z0 s.cs)=s.hs.set i ((c:Nat):Int):=wk h.da.nd (by unfold z0;rw[Ut,h.b.P.lc];exact hi)
 refine⟨⟨(h.b.bk.off q hx).kd (Kd.upd a),h.b.P,h.b.CJ,h.b.len,h.b.book⟩,?_,?_,ag,⟨rn h.da.nd,fun p f=>?_⟩⟩
 ·show bc _ _ _ _ _ _ _ _ _ _ (bC (fm s.kv (i,c)) (z0 s.cs));rw[e];exact hD.kd (Kd.upd a)
 ·show bI _ _ _ _ (bC (fm s.kv (i,c)) (z0 s.cs));rw[e];exact(h.ok.set hi hc).1
 ·rcases wj f with rfl | ⟨h1,_⟩
  ·exact⟨hi,hc⟩
  ·exact h.da.lt p h1
def AY (G:List Addr)(H:Hp)(us:List V):Prop:=∀ v∈us,∃ (t a b:Addr) (r:List Str),v=.ref t/\H t=some (.tup [.ref a,.ref b])/\H a=some (.lst (r.map V.str))/\H b=some (.lst (r.map V.str))/\(∀ x∈r,eW x)/\∀ x∈G,a≠x/\b≠x
structure dW (K:Frag)(cH cD tx bo ds hs he:Addr)(G:List Addr)(n:Nat)(F:Nat->Sd)(H:Hp):Prop where
 HJ:H tx=some (.lst [.str (ck (F 0).M),.str (ck (F 1).M)])
 HI:H bo=some (.lst [.ref (F 0).b,.ref (F 1).b])
 HL:H ds=some (.lst [.ref (F 0).d,.ref (F 1).d])
 Hu:H hs=some (.lst [.ref (F 0).ht,.ref (F 1).ht])
 sd:∀ w,w<2->g5 K cH cD G H (F w)
 ap:∀ w v,w<2->v<2->w≠v->(F w).d≠(F v).hl/\(F w).hl≠(F v).hl/\(F w).ht≠(F v).ht
 ne:∀ x∈G,x≠tx/\x≠bo/\x≠ds/\x≠hs
 held:∃ us,H he=some (.lst us)/\us.length<=n/\AY G H us
variable {w:Nat}
theorem gK {f:Nat->V}(h:w<2):[f 0,f 1][w]?=some (f w):=by
 match w,h with
 | 0,_=>rfl
 | 1,_=>rfl
theorem fo.sub (h:fo F H b ns cs ws)(s:∀ x∈G,x∈F∨H x=none):fo G H b ns cs ws:=by
 obtain⟨f,i,g,n,a,h1,c,d⟩:=h;refine⟨f,i,g,fun x hx=>?_,a,h1,c,d⟩
 rcases s x hx with hx | e
 ·exact n x hx
 ·exact⟨Ne.symm (az a e),Ne.symm (az h1 e),Ne.symm (az c e),Ne.symm (az d e)⟩
def HF (F:Nat->Sd)(w i c:Nat)(v:Nat):Sd:=if v=w then {F w with kv:=fm (F w).kv (i,c)} else F v
theorem OI (F:Nat->Sd)(w i c v:Nat):(HF F w i c v).M=(F v).M/\(HF F w i c v).b=(F v).b/\(HF F w i c v).d=(F v).d/\(HF F w i c v).hl=(F v).hl/\(HF F w i c v).ht=(F v).ht:=by
 unfold HF
 split
 ·rename_i e;subst e;exact⟨rfl,rfl,rfl,rfl,rfl⟩
 ·exact⟨rfl,rfl,rfl,rfl,rfl⟩
theorem yI (F:Nat->Sd)(w i c:Nat):HF F w i c w={F w with kv:=fm (F w).kv (i,c)}:=if_pos rfl
theorem OJ (F:Nat->Sd){i c v:Nat}(h:v≠w):HF F w i c v=F v:=if_neg h
theorem AY.of {us:List V}(s:∀ x o,(∀ C dx fs,o≠.ins C dx fs)->(∀ kvs,o≠.dK kvs)->H x=some o->H' x=some o)(h:AY G H us):AY G H' us:=fun v hv=>by
 obtain⟨t,a,b,r,e,d,g,f,c⟩:=h v hv;exact⟨t,a,b,r,e,s _ _ (fun _ _ _ z=>nomatch z) (fun _ z=>nomatch z) d,s _ _ (fun _ _ _ z=>nomatch z) (fun _ z=>nomatch z) g,s _ _ (fun _ _ _ z=>nomatch z) (fun _ z=>nomatch z) f,c⟩
variable {tx bo ds hs he:Addr}{n:Nat}{F:Nat->Sd}
theorem dW.mono (h:dW K cH cD tx bo ds hs he G n F H)(s:ah H H'):dW K cH cD tx bo ds hs he G n F H':=by
 obtain⟨d,h1,a,c⟩:=h.held;exact⟨s _ _ h.HJ,s _ _ h.HI,s _ _ h.HL,s _ _ h.Hu,fun w b=>(h.sd w b).mono s,h.ap,h.ne,d,s _ _ h1,a,c.of fun x o _ _ e=>s x o e⟩
variable {G':List Addr}
theorem dW.sub (h:dW K cH cD tx bo ds hs he G n F H)(s:∀ x∈G',x∈G∨H x=none):dW K cH cD tx bo ds hs he G' n F H:=by
 obtain⟨C,h1,l,B⟩:=h.held;refine⟨h.HJ,h.HI,h.HL,h.Hu,fun w y=>?_,h.ap,fun x hx=>?_,C,h1,l,fun v hv=>?_⟩
 ·obtain⟨⟨q,u,p,j,A⟩,d,o,k,z⟩:=h.sd w y;exact⟨⟨q.sub s,u,p,j,A⟩,d,o,k,z⟩
 ·rcases s x hx with hx | e
  ·exact h.ne x hx
  ·exact⟨Ne.symm (az h.HJ e),Ne.symm (az h.HI e),Ne.symm (az h.HL e),Ne.symm (az h.Hu e)⟩
 ·obtain⟨t,a,b,r,e,i,f,c,g,m⟩:=B v hv;refine⟨t,a,b,r,e,i,f,c,g,fun x hx=>?_⟩
  rcases s x hx with hx | z
  ·exact m x hx
  ·exact⟨az f z,az c z⟩
variable {m:Nat}
theorem dW.le (h:dW K cH cD tx bo ds hs he G n F H)(e:n<=m):dW K cH cD tx bo ds hs he G m F H:=by
 obtain⟨c,h1,a,b⟩:=h.held;exact⟨h.HJ,h.HI,h.HL,h.Hu,h.sd,h.ap,h.ne,c,h1,ka a e,b⟩
theorem dW.cE {x:Addr}{ys:List V}{o:HO}(h:dW K cH cD tx bo ds hs he G n F H)(hx:x∈G)(hl:H x=some (.lst ys))(ne:x≠he):dW K cH cD tx bo ds hs he G n F (upd H x o):=by
 obtain⟨B,h1,l,y⟩:=h.held;obtain⟨m,j,g,A⟩:=h.ne x hx;refine⟨by rw[aq (Ne.symm m)];exact h.HJ,by rw[aq (Ne.symm j)];exact h.HI,by rw[aq (Ne.symm g)];exact h.HL,by rw[aq (Ne.symm A)];exact h.Hu,fun w u=>(h.sd w u).cE hx hl,h.ap,h.ne,B,by rw[aq (Ne.symm ne)];exact h1,l,fun v hv=>?_⟩
 obtain⟨t,a,b,r,e,c,q,i,f,d⟩:=y v hv;obtain⟨p,s⟩:=d x hx;exact⟨t,a,b,r,e,by rw[aq (cF c hl fun z=>nomatch z)];exact c,by rw[aq p];exact q,by rw[aq s];exact i,f,d⟩
variable {r:List Str}
theorem dW.app {p c:Addr}{us:List V}(h:dW K cH cD tx bo ds hs he G n F H)(hx:he∈G)(hu:H he=some (.lst us))(hp:H p=some (.tup [.ref l,.ref c]))(hl:H l=some (.lst (r.map V.str)))(hc:H c=some (.lst (r.map V.str)))(hr:∀ x∈r,eW x)(ap:∀ x∈G,l≠x/\c≠x):dW K cH cD tx bo ds hs he G (n+1) F (upd H he (.lst (us++[.ref p]))):=by
 obtain⟨q,h1,s,D⟩:=h.held;rw[hu] at h1
 cases h1
 obtain⟨u,o,j,E⟩:=h.ne he hx;refine⟨by rw[aq (Ne.symm u)];exact h.HJ,by rw[aq (Ne.symm o)];exact h.HI,by rw[aq (Ne.symm j)];exact h.HL,by rw[aq (Ne.symm E)];exact h.Hu,fun w C=>(h.sd w C).cE hx hu,h.ap,h.ne,_,ag,by rw[fz];exact succ_le_succ s,fun v hv=>?_⟩
 have g:∃ (t a b:Addr) (r:List Str),v=.ref t/\H t=some (.tup [.ref a,.ref b])/\H a=some (.lst (r.map V.str))/\H b=some (.lst (r.map V.str))/\(∀ x∈r,eW x)/\∀ x∈G,a≠x/\b≠x:=by
  rcases kb.mp hv with hv | hv
  ·exact D v hv
  ·exact⟨p,l,c,r,ea.mp hv,hp,hl,hc,hr,ap⟩
 obtain⟨t,a,b,r,e,d,A,m,i,f⟩:=g;obtain⟨y,B⟩:=f he hx;exact⟨t,a,b,r,e,by rw[aq (cF d hu fun z=>nomatch z)];exact d,by rw[aq y];exact A,by rw[aq B];exact m,i,f⟩
theorem wq (h:dW K cH cD tx bo ds hs he G n F H)(hw:w<2)(q:Off (F w).hl H H')(x:Addr)(o:HO)(n1:∀ C dx fs,o≠.ins C dx fs)(e:H x=some o):H' x=some o:=by
 obtain⟨C,dx,fs,hi⟩:=(h.sd w hw).GZ;exact q x o (cF e hi (n1 C dx fs)) e
theorem dW.ask (h:dW K cH cD tx bo ds hs he G n F H)(hw:w<2)(q:Off (F w).hl H H')(hD:bc K cH cD H' (F w).d (F w).hl (F w).ns (F w).cs (F w).ws (F w).L (F w).hs):dW K cH cD tx bo ds hs he G n F H':=by
 have k:=wq h hw q;obtain⟨l,h1,i,j⟩:=h.held;obtain⟨_,_,_,hi⟩:=(h.sd w hw).GZ;refine⟨k _ _ (fun _ _ _ z=>nomatch z) h.HJ,k _ _ (fun _ _ _ z=>nomatch z) h.HI,k _ _ (fun _ _ _ z=>nomatch z) h.HL,k _ _ (fun _ _ _ z=>nomatch z) h.Hu,fun v hv=>?_,h.ap,h.ne,l,k _ _ (fun _ _ _ z=>nomatch z) h1,i,j.of fun x o f _ e=>k x o f e⟩
 by_cases e:v=w
 ·subst e;have a:=h.sd v hv;exact⟨⟨a.b.bk.off q hi,a.b.P,a.b.CJ,a.b.len,a.b.book⟩,hD,a.ok,k _ _ (fun _ _ _ z=>nomatch z) a.pN,a.da⟩
 ·obtain⟨c,g,_⟩:=h.ap v w hv hw e;exact(h.sd v hv).off q hi c g
theorem dW.put {w i c:Nat}(h:dW K cH cD tx bo ds hs he G n F H)(hw:w<2)(q:Off (F w).hl H H')(hD:bc K cH cD H' (F w).d (F w).hl (F w).ns (F w).cs (F w).ws (F w).L ((F w).hs.set i ((c:Nat):Int)))(hi:i<(F w).ns.length)(hc:c<(F w).cs.getD i 0):dW K cH cD tx bo ds hs he G n (HF F w i c) (upd H' (F w).ht (.dK (fM (F w).ns (fm (F w).kv (i,c))))):=by
 have k:=wq h hw q;obtain⟨A,h1,r,y⟩:=h.held;obtain⟨_,_,_,b⟩:=(h.sd w hw).GZ;have g:=h.sd w hw;have j:H' (F w).ht=some (.dK (fM (F w).ns (F w).kv)):=k _ _ (fun _ _ _ z=>nomatch z) g.pN;have a:∀ x o,(∀ C dx fs,o≠.ins C dx fs)->(∀ kvs,o≠.dK kvs)->H x=some o->upd H' (F w).ht (.dK (fM (F w).ns (fm (F w).kv (i,c)))) x=some o:=fun x o t p e=>by
  have f:=k x o t e;rw[aq (fun z=>by rw[z,j] at f;exact p _ (ot f).symm)];exact f
 have S:=OI F w i c;refine⟨?_,?_,?_,?_,fun v hv=>?_,fun u v hu hv e=>?_,h.ne,A,a _ _ (fun _ _ _ z=>nomatch z) (fun _ z=>nomatch z) h1,r,y.of a⟩
 ·rw[(S 0).1,(S 1).1];exact a _ _ (fun _ _ _ z=>nomatch z) (fun _ z=>nomatch z) h.HJ
 ·rw[(S 0).2.1,(S 1).2.1];exact a _ _ (fun _ _ _ z=>nomatch z) (fun _ z=>nomatch z) h.HI
 ·rw[(S 0).2.2.1,(S 1).2.2.1];exact a _ _ (fun _ _ _ z=>nomatch z) (fun _ z=>nomatch z) h.HL
 ·rw[(S 0).2.2.2.2,(S 1).2.2.2.2];exact a _ _ (fun _ _ _ z=>nomatch z) (fun _ z=>nomatch z) h.Hu
 ·by_cases e:v=w
  ·rw[e,yI];exact g.put q hD hi hc
  ·rw[OJ F e];obtain⟨s,m,l⟩:=h.ap v w hv hw e;exact((h.sd v hv).off q b s m).S9 j l
 ·rw[(S u).2.2.1,(S v).2.2.2.1,(S u).2.2.2.1,(S u).2.2.2.2,(S v).2.2.2.2];exact h.ap u v hu hv e
def G0 (K:Frag)(cH cD:Addr)(H0:Hp)(a tx bo ds hs he:Addr)(y3:Option V)(k:Nat)(σ:L2.St)(H:Hp):Prop:=∃ (F:Nat->Sd) (b0 b1 b2 b3 b4 b5 b6 b7 b8 b9 b10 b11:Option V),σ=[some (.ref a),some (.ref tx),some (.ref bo),y3,some (.ref ds),some (.ref hs),some (.ref he),b0,b1,b2,b3,b4,b5,b6,b7,b8,b9,b10,b11]/\(∀ x ys,H0 x=some (.lst ys)->x≠he->H x=some (.lst ys))/\dW K cH cD tx bo ds hs he [he] k F H
def yJ:Option (List Str)->PyData
 | some r=>.tuple [.list (r.map PyData.str),.list []]
 | none=>.tuple [.none,.list ([false,false,true,false].map PyData.bool)]
def ji (H:Hp)(t:Addr):Option (List Str)->Prop
 | some r=>∃ l kl,H t=some (.tup [.ref l,.ref kl])/\H l=some (.lst (r.map V.str))/\H kl=some (.lst [])
 | none=>∃ kl,H t=some (.tup [.br,.ref kl])/\H kl=some (.lst ([false,false,true,false].map V.bl))
variable {o:Option (List Str)}{t:Addr}
theorem ji.mono (s:ah H H')(h:ji H t o):ji H' t o:=by
 cases o with
 | some r=>obtain⟨l,d,a,b,c⟩:=h;exact⟨l,d,s _ _ a,s _ _ b,s _ _ c⟩
 | none=>obtain⟨d,a,b⟩:=h;exact⟨d,s _ _ a,s _ _ b⟩
theorem ji.dt (h:ji H t o):Dt K H (.ref t) (yJ o):=by
 cases o with
 | some r=>obtain⟨l,d,a,b,c⟩:=h;exact .tup (aH.of a) (.cons (.lst (aB.of b) (mP _)) (.cons (.lst (aB.of c) .nil) .nil))
 | none=>obtain⟨d,a,b⟩:=h;exact .tup (aH.of a) (.cons .br (.cons (.lst (aB.of b) (yt _)) .nil))
theorem oE (h:∀ r,o=some r->∀ x∈r,eW x):shaped (yJ o)=true:=by
 cases o with
 | some r=>
  refine qM ?_ ?_
  ·simp[yJ,PyData.canLay0,PyData.canLayAll0,tQ r (h r rfl)]
  ·have:=jr r
   simp only[yJ,PyData.depth,PyData.depthAll]
   omega
 | none=>decide
theorem Kw (o:Option (List Str)):PyData.eqv (yJ o) (yJ o)=true:=by
 cases o with
 | some r=>simp[yJ,PyData.eqv,PyData.eqvAll,gJ]
 | none=>decide
theorem G8 {Q:VK}{t':Addr}(h:ji H t o)(h':ji H t' o)(hc:∀ r,o=some r->∀ x∈r,eW x)(q:Q (.bl false) H):NL K (.ref t) (.ref t') H Q:=
 ⟨_,_,h.dt,h'.dt,oE hc,oE hc,by rw[Kw];exact q⟩
def TR (l:Addr):Option (List Str)->V
 | some _=>.ref l
 | none=>.br
def Tu:Option (List Str)->List Bool
 | some _=>[]
 | none=>[false,false,true,false]
structure yK (H:Hp)(t l kl:Addr)(o:Option (List Str)):Prop where
 tp:H t=some (.tup [TR l o,.ref kl])
 kd:H kl=some (.lst ((Tu o).map V.bl))
 rw:∀ r,o=some r->H l=some (.lst (r.map V.str))
variable {kl:Addr}
theorem yK.at (h:yK H t l kl o):ji H t o:=by
 cases o with
 | some r=>exact⟨l,kl,h.tp,h.rw r rfl,h.kd⟩
 | none=>exact⟨kl,h.tp,h.kd⟩
theorem yK.of (h:yK H t l kl o)(s:∀ x u,(∀ kvs,u≠.dK kvs)->H x=some u->H' x=some u):yK H' t l kl o:=⟨s _ _ (fun _ z=>nomatch z) h.tp,s _ _ (fun _ z=>nomatch z) h.kd,fun r e=>s _ _ (fun _ z=>nomatch z) (h.rw r e)⟩
theorem AZ {Q:VK}{n:Addr}(h:H kl=some (.lst ((Tu o).map V.bl)))(hn:H n=some (.lst []))(q:Q (.bl o.isSome) H):P9 K (.ref kl) (.ref n) H Q:=by
 cases o with
 | some r=>exact⟨.list [],_,.lst (aB.of h) .nil,.lst (aB.of hn) .nil,by decide,by decide,q⟩
 | none=>exact⟨_,_,.lst (aB.of h) (yt _),.lst (aB.of hn) .nil,by decide,by decide,q⟩
def Sh:AK->Str
 | .told k=>jg k
 | .right=>"right"
 | .du _=>"guess"
 | .put _ _=>"put"
theorem Kx (ns:List Str)(a:AK):∃ tl,dk ns a=Sh a::tl:=by
 cases a<;>exact⟨_,rfl⟩
variable {a:AK}
theorem OK (h:Sh a=Str.ofString "put"):∃ i c,a=.put i c:=by
 cases a with
 | told k=>exact absurd h (by cases k<;>decide +kernel)
 | right=>exact absurd h (by decide +kernel)
 | du _=>exact absurd h (show ¬ (("guess":Str)=Str.ofString "put") by decide +kernel)
 | put i c=>exact⟨i,c,rfl⟩
theorem G9 {hs:List Int}(h:∀ i c,a≠.put i c):ml cs hs a=hs:=by
 cases a with
 | put i c=>exact absurd rfl (h i c)
 | _=>rfl
theorem wt {L:List (Bool × List Nat)}{hs:List Int}(h:outF ns cs ws L hs a=none):ml cs hs a=hs:=by
 cases a with
 | put i c=>
  have h:(if cI (aD cs) (hs.set i (c:Int))=true then some [] else (none:Option (List Str)))=none:=h
  by_cases e:cI (aD cs) (hs.set i (c:Int))=true
  ·rw[if_pos e] at h;cases h
  ·exact if_neg e
 | _=>rfl
theorem Ky {L:List (Bool × List Nat)}{hs:List Int}{i c:Nat}(h:outF ns cs ws L hs (.put i c)=some r):cI (aD cs) (hs.set i (c:Int))=true:=by
 have h:(if cI (aD cs) (hs.set i (c:Int))=true then some [] else (none:Option (List Str)))=some r:=h
 by_cases e:cI (aD cs) (hs.set i (c:Int))=true
 ·exact e
 ·rw[if_neg e] at h;cases h
theorem Cp {L:List (Bool × List Nat)}{hs:List Int}{i c:Nat}:outF ns cs ws L (hs.set i (c:Int)) (.put i c)=outF ns cs ws L hs (.put i c):=by
 show (if cI (aD cs) ((hs.set i (c:Int)).set i (c:Int))=true then _ else _)=_
 rw[List.set_set];rfl
theorem Ha {hs:List Int}{i c:Nat}(hi:i<cs.length)(h:cI (aD cs) (hs.set i (c:Int))=true):c<cs.getD i 0:=by
 unfold cI at h;rw[h9,o6,kf] at h;obtain⟨h1,a⟩:=h;rw[length_set,ao] at h1
 have:=a i (ls.mpr (by rw[ao];exact hi))
 rw[h9,o6,o6,aT] at this;have e:(hs.set i (c:Int)).getD i 0=(c:Int):=by rw[cc,LI (by omega)];rfl
 rw[e] at this
 omega
theorem tV {d hl:Addr}{Q:VK}{E:XK}{L:List (Bool × List Nat)}{hs:List Int}(hD:bc K cH cD H d hl ns cs ws L hs)(D:bI ns cs ws L hs)(ha:iw ns a)
  (r:∀ t H',Off hl H H'->(stays a->ah H H')->ji H' t (outF ns cs ws L hs a)->(∀ r,outF ns cs ws L hs a=some r->∀ x∈r,eW x)->Q (.ref t) H'):oA K cH cD [.ref d,.str (Str.join ⟨#[32]⟩ (dk ns a))] H Q E:=
 ⟨d,hl,ns,cs,ws,L,hs,a,rfl,hD,D,ha,fun t l g i H' h b o f _ c hl hk _=>r t H' o f (by rw[h];exact⟨l,g,c,hl,hk⟩) (fun x e=>by rw[h] at e;cases e;exact b),
  fun hn t g H' s c hk=>r t H' (Off.oz s) (fun _=>s) (by rw[hn];exact⟨g,c,hk⟩) (fun x e=>by rw[hn] at e;cases e)⟩
theorem lC (ns:List Str)(l:List Nat):(ez ns l).length<=1:=by
 unfold ez
 split
 ·exact zero_le _
 ·exact ef _
theorem Kz {L:List (Bool × List Nat)}{hs:List Int}(D:bI ns cs ws L hs)(h:outF ns cs ws L hs a=some r):r.length<=16:=by
 have P:=D.xf
 cases a with
 | told k=>
  have h:=ot h;rw[<-h]
  cases k with
  | sure=>exact(by decide:1<=16)
  | share=>exact(by decide:1<=16)
  | groups=>show (L.map (GB ns)).length<=16;rw[di];have:=D.fD;omega
  | ring=>
   show (if (laidOut ws).length<ws.length then ez ns (iB ws) else []).length<=16
   split
   ·exact ka (lC _ _) (by decide)
   ·exact zero_le _
  | order=>
   show (if (laidOut ws).length<ws.length then [] else ez ns (laidOut ws)).length<=16
   split
   ·exact zero_le _
   ·exact ka (lC _ _) (by decide)
  | book=>
   show (iq (ck ((bV ns ws).map (gE ns cs)))).length<=16;rw[gD ((fG P).qS P),di,di];exact ka lj (by have:=P.nm.fD;omega)
 | right=>rw[<-ot h];exact ka (lC _ _) (by decide)
 | du i=>rw[<-ot h];exact(by decide:1<=16)
 | put i c=>
  have h:(if cI (aD cs) (hs.set i (c:Int))=true then some [] else (none:Option (List Str)))=some r:=h
  split at h
  ·rw[<-ot h];exact zero_le _
  ·cases h
def A0 (ns:List Str):List V:=.str (Str.join ⟨#[32]⟩ (dk ns .right))::(List.range (ns.take 2).length).map fun i=>.str (Str.join ⟨#[32]⟩ (dk ns (.du i)))
theorem Cq {k:Nat}{v:V}(h:(A0 ns)[k]?=some v):∃ a,v=.str (Str.join ⟨#[32]⟩ (dk ns a))/\iw ns a/\stays a:=by
 rcases gz.mp (gc h) with rfl | hv
 ·exact⟨.right,rfl,trivial,trivial⟩
 ·obtain⟨i,hi,rfl⟩:=j9.mp hv
  have:=ls.mp hi
  rw[qN] at this;exact⟨.du i,rfl,by show i<_;omega,trivial⟩
def RN (H0:Hp)(pre:L2.St)(_:Nat)(σ:L2.St)(H:Hp):Prop:=∃ y:Option V,σ=pre++[y]/\ah H0 H
theorem Hb {i k:Nat}(h:i<ns.length)(hk:i<k):((ns.take k).map V.str).getD i .br=.str (ns.getD i ba):=by
 rw[cc,ey,Uo hk,cc,cv h];rfl
variable {a b:Expr}{ta tb:TE}
theorem eC {X:Cx}{pos:Pos}(ha:QE X a ta)(hb:QE X b tb)(hs:mJ b:=by exact fun _ _=>rfl):QE X (.Subscript a b pos) (rF (uQ X.K) ta tb):=mK (eh rfl) ha hb hs
theorem OL {X:Cx}{pos:Pos}(ha:QE X a ta)(hb:QE X b tb)(hs:mJ b:=by exact fun _ _=>rfl):QE X (.Subscript a b pos) (rF (Bp X.K) ta tb):=mK (cW rfl) ha hb hs
variable {i:Int}
theorem c9 {X:Cx}{pos pos':Pos}{j:Nat}(ha:QE X a ta):QE X (.Subscript a (.Constant (.int i) j pos') pos) (rF (uQ X.K) ta (tC (.int i))):=mK (eh rfl) ha aw (fun _ _=>rfl)
theorem iD {X:Cx}{pos pos':Pos}{j:Nat}(ha:QE X a ta):QE X (.Subscript a (.Constant (.int i) j pos') pos) (rF (Bp X.K) ta (tC (.int i))):=mK (cW rfl) ha aw (fun _ _=>rfl)
theorem af {X:Cx}{e:Expr}{te:TE}(ha:QE X e te)(hn:Ea e=true:=by rfl):QB X [e] (uN te uM):=ak ha bL hn
end L2
namespace K80
open PySem L2 PyProof.Rows
def top (i:Nat):Stmt:=PySem.Challenge.pw_hatsight_k80_two_desks.main.body.getD i (.Pass ⟨0,0,0,0⟩)
abbrev dm:Stmt:=top 1
abbrev tW:Stmt:=top 2
abbrev yL:Stmt:=top 3
abbrev lD:Stmt:=top 4
abbrev fq:Stmt:=top 5
abbrev gL:Stmt:=top 18
abbrev oF:Stmt:=top 20
abbrev yM:Stmt:=top 21
abbrev iE:Stmt:=top 22
abbrev lE:Stmt:=top 23
abbrev fN:Stmt:=top 24
abbrev ju:Stmt:=top 25
abbrev fP:Stmt:=top 26
abbrev gM:Stmt:=top 27
abbrev gN:Stmt:=top 28
abbrev tX:Stmt:=top 30
abbrev jv:Stmt:=top 31
abbrev fQ:Stmt:=top 32
abbrev oH:Stmt:=top 33
abbrev gO:Stmt:=top 34
abbrev iF:Stmt:=top 35
abbrev fR:Stmt:=top 36
abbrev fS:Stmt:=top 37
abbrev gP:Stmt:=top 38
abbrev ft:Stmt:=top 39
abbrev jw:Stmt:=top 40
abbrev fT:Stmt:=top 41
abbrev fU:Stmt:=top 42
abbrev jx:Stmt:=top 44
abbrev lF:Stmt:=top 52
abbrev jy:Stmt:=top 53
abbrev fV:Stmt:=top 54
abbrev fu:Stmt:=top 55
abbrev cT:Stmt:=top 56
abbrev lG:Stmt:=top 57
abbrev iG:Stmt:=top 58
abbrev lH:Stmt:=top 59
abbrev iH:Stmt:=top 60
abbrev gQ:Stmt:=top 61
abbrev yN:Stmt:=top 64
abbrev oI:Stmt:=top 65
abbrev iI:Stmt:=top 66
abbrev ky:Stmt:=top 67
abbrev fW:Stmt:=top 68
abbrev fX:Stmt:=top 69
abbrev lI:Stmt:=top 70
abbrev iJ:Stmt:=top 73
abbrev HG:Stmt:=top 74
abbrev iK:Stmt:=top 75
abbrev iL:Stmt:=top 76
abbrev iM:Stmt:=top 77
abbrev dH:Stmt:=top 78
abbrev iN:Stmt:=top 79
abbrev eD:Stmt:=top 80
abbrev iO:Stmt:=top 81
abbrev lJ:Stmt:=top 82
abbrev jz:Stmt:=top 83
abbrev jA:Stmt:=top 84
abbrev kA:Stmt:=top 85
abbrev eE:Stmt:=me (top 45) 0
abbrev fB:Stmt:=me (top 45) 1
abbrev jB:Stmt:=me (top 45) 2
abbrev Mz:Stmt:=me (top 45) 3
abbrev gR:Stmt:=me (top 45) 4
abbrev gS:Stmt:=me (top 45) 5
abbrev bN:Stmt:=me (top 71) 0
abbrev jC:Stmt:=me (top 71) 1
structure Bn (mg:Str->Option Value):Prop where
 range:mg "range"=none
 len:mg "len"=none
 sum:mg "sum"=none
 max:mg "max"=none
 isinstance:mg "isinstance"=none
 int:mg "int"=none
 bool:mg "bool"=none
 str:mg "str"=none
 tuple:mg "tuple"=none
 list:mg "list"=none
 sorted:mg "sorted"=none
 set:mg "set"=none
 all:mg "all"=none
 any:mg "any"=none
 zip:mg "zip"=none
 enumerate:mg "enumerate"=none
structure Cs (mg:Str->Option Value):Prop where
 KZ:∃ t,mg "LETTERS"=some (.str "abcdefghijklmnopqrstuvwxyz" t)
 KW:∃ t,mg "FIGURES"=some (.str "0123456789" t)
 ue:∃ t,mg "LONGEST_NAME"=some (.int 12 t)
 pM:∃ t,mg "LONGEST_COUNT"=some (.int 30 t)
 wF:∃ t,mg "MOST_PEOPLE"=some (.int 8 t)
abbrev Hc:List Str:=["HatError","LineError","NoAsk","NoName","NoHats","NoGroups"]
local macro_rules | `(tactic| walk_at $s) => do
 let l<-match s.getString with | "d" => `(Lean.Parser.Tactic.simpLemma| P1) | "r0" => `(Lean.Parser.Tactic.simpLemma| xF) | _ => Lean.Macro.throwUnsupported
 `(tactic| try simp only [L2.start,map_cons,map_nil,length_cons,length_nil,List.replicate,cons_append,nil_append,append_nil,set_cons_zero,set_cons_succ,Nat.reduceAdd,Nat.reduceSub,xF,D5,Sx,NF,PL,Lb,PM,PN,PQ,PR,zJ,Lc,uW,DV,PU,DW,DX,Ld,DY,Le,zK,Lf,Lg,DZ,D0,PV,Lh,Li,PX,Lj,LH,ES,LJ,FI,LS,LU,LV,Fz,Fu,ET,PY,uX,D1,PZ,P0,gn,D2,D3,Lk,Ll,Lm,rX,Lo,zL,D4,zM,Aj,QL,EN,Ma,FV,AA,Mb,Ro,Md,F0,Ga,AH,Gn,Gp,FZ,AG,FW,Gw,Mg,Mv,Mw,ED,EE,EF,EG,qw,EZ,Qt,Qu,Jg,SH,sE,bitAnd_m1,Qz,Qv,Qw,LA,Lp,Ls,Ei,Ej,Qg,jZ,Lu,Bool.false_eq_true,Lv,Lw,Lx,Qh,Qi,Bool.not_true,Bool.not_false,decide_eq_true_eq,$l:simpLemma])
local macro_rules | `(tactic| omega) => `(tactic| first | with_reducible assumption | with_reducible exact Nat.le_of_lt (by assumption) | with_reducible exact Nat.le_trans (by assumption) (by decide) | with_reducible exact Nat.lt_of_le_of_lt (by assumption) (by decide) | with_reducible exact Nat.lt_of_lt_of_le (by assumption) (by decide) | with_reducible exact Nat.lt_of_lt_of_le (by assumption) (by assumption) | with_reducible exact Nat.lt_of_le_of_lt (by assumption) (by assumption) | with_reducible exact Nat.le_trans (by assumption) (by assumption) | with_reducible exact Nat.le_trans (by assumption) (Nat.le_trans (by assumption) (by decide)) | with_reducible exact Nat.le_of_lt (Nat.lt_of_lt_of_le (by assumption) (by decide)) | with_reducible exact Nat.le_trans (Nat.le_of_lt (by assumption)) (Nat.le_trans (by assumption) (by decide)) | with_reducible exact Nat.lt_of_lt_of_le (by assumption) (Nat.le_trans (by assumption) (by decide)) | with_reducible exact Int.natCast_nonneg _ | with_reducible exact Int.ofNat_lt.mpr (by assumption) | with_reducible exact Int.ofNat_le.mpr (by assumption) | with_reducible exact Int.ofNat_lt.mp (by assumption) | decide | omega +splitDisjunctions)
set_option hygiene false in
local macro_rules | `(tactic| walk_at"s") => `(tactic| ((try with_reducible refine zH _ _ ?_); (walk_at"r0"); try (with_reducible refine zH _ _ ?_; walk_at"r0")))
set_option hygiene false in
local macro_rules | `(tactic| walk_at"g") => `(tactic| ((try with_reducible refine zH _ _ ?_); refine SX fun zR zH => ?_))
local macro_rules | `(tactic| walk_at"h") => `(tactic| (walk_at"g";walk_at"s"))
local macro_rules | `(tactic| walk_at"i") => `(tactic| (walk_at"s";walk_at"g";walk_at"s"))
set_option hygiene false in
local macro_rules | `(tactic| walk_at"hI") => `(tactic| (intro X S e1 e2 e3 e4 e5 hc hsc hxe hr hu H vs Q E h; subst e1 e2 e3 e4 e5))
set_option hygiene false in
local macro_rules | `(tactic| walk_at"hH") => `(tactic| (refine D.gq zY (by walk_at"hB") (by walk_at"hL") ?_; walk_at"hI"))
set_option hygiene false in
local macro_rules | `(tactic| walk_at"hB") => `(tactic| (intro _ _ _ _ _ _ us hl; first | (obtain ⟨_, rfl⟩ := Rt hl; rfl) | (obtain ⟨_, _, rfl⟩ := Ru hl; rfl) | (obtain ⟨_, _, _, rfl⟩ := Rv hl; rfl) | (obtain ⟨_, _, _, _, rfl⟩ := Rw hl; rfl) | (obtain ⟨_, _, _, _, _, rfl⟩ := SW hl; rfl)))
set_option hygiene false in
local macro_rules | `(tactic| walk_at"hL") => `(tactic| (intro vs H Q E h; first | (obtain ⟨_, rfl, _⟩ := h; rfl) | (obtain ⟨_, _, rfl, _⟩ := h; rfl) | (obtain ⟨_, _, _, rfl, _⟩ := h; rfl) | (obtain ⟨_, _, _, _, rfl, _⟩ := h; rfl) | (obtain ⟨_, _, _, _, _, rfl, _⟩ := h; rfl) | (obtain ⟨_, _, _, _, _, _, rfl, _⟩ := h; rfl) | (obtain ⟨_, _, _, _, _, _, _, rfl, _⟩ := h; rfl) | (obtain ⟨_, _, _, _, _, _, _, _, rfl, _⟩ := h; rfl) | (obtain ⟨_, _, _, _, _, _, _, _, _, rfl, _⟩ := h; rfl)))
variable {P:Program}{w:World}{K:Frag}{mg:Str->Option Value}{base:Heap}
theorem Cr (B:Bn mg)(KC:Cs mg)(D:Def K mg "is_name" lF):Fn P w K mg base 1 "is_name" ["word"] kh:=by
 have zY:DS (ai lF) ["word"] ["word"] ["LONGEST_NAME","len","all"]:=aN;walk_at"hH";obtain⟨z,rfl,hz,q⟩:=h;refine⟨_,(ae (cG (sf (xM nh nh aw (c7 S 1 gm B.len ro (af (kv S 0))) (N9 S 0 KC.ue))) (aj (aK HB)) aA)
   (aj (aK (c7 S 2 (cK hc rfl) B.all boot_all (af (i7 S hc hsc (LM (kv S 0) rfl) (N:=["sign"]) (W:=["sign"]) (G:=["LETTERS"]) (fv:=[none]) (by decide +kernel) (fun g C i s H a=>⟨(kg a 0),bp,(jV qh (kv a 0) (QZ a 0 KC.KZ) (by with_unfolding_all rfl))⟩))))))),?_⟩
 walk_at"d";refine⟨z,rfl,mM hz,?_⟩;have d:¬ (1<=z.length/\z.length<=12)->Q (.bl false) H:=fun c=>by
  have:=q H (ah.refl _)
  unfold bH at this;rw[eG c,r3] at this;exact this
 refine bR (fun c=>?_) (fun c=>d (by omega))
 refine bR (fun b=>d (by simp at b;omega)) (fun b=>?_)
 refine⟨z,rfl,vB hz fun f e=>?_⟩
 have:=q f e
 unfold bH at this;rw[ek (show 1<=z.length/\z.length<=12 by simp at b;omega),qE] at this
 exact this
theorem yO (B:Bn mg)(KC:Cs mg)(D:Def K mg "is_count" jy):Fn P w K mg base 1 "is_count" ["word"] k8:=by
 have zY:DS (ai jy) ["word"] ["word"] ["LONGEST_COUNT","len","all"]:=aN;walk_at"hH";obtain⟨z,rfl,hz,q⟩:=h;refine⟨_,(ae (cG (HC (O6 (sf (xM nh nh aw (c7 S 1 gm B.len ro (af (kv S 0))) (N9 S 0 KC.pM))) (By (aV aP (mK xx (kv S 0) aw (fun _ _=>rfl)) bj (au _))))) (aj (aK HB)) aA)
   (aj (aK (c7 S 2 (cK hc rfl) B.all boot_all (af (i7 S hc hsc (LM (kv S 0) rfl) (N:=["sign"]) (W:=["sign"]) (G:=["FIGURES"]) (fv:=[none]) (by decide +kernel) (fun o C p s H i=>⟨(kg i 0),bp,(jV qh (kv i 0) (QZ i 0 KC.KW) (by with_unfolding_all rfl))⟩))))))),?_⟩
 walk_at"d";refine⟨z,rfl,mM hz,?_⟩;have j:¬ (1<=z.length/\z.length<=30)->Q (.bl false) H:=fun c=>by
  have:=q H (ah.refl _)
  unfold df at this;rw[eG c,r3] at this;exact this
 refine bR (fun c=>?_) (fun c=>j (by omega))
 refine bR (fun g=>j (by simp at g;omega)) (fun g=>?_)
 have n:1<=z.length/\z.length<=30:=by simp at g;omega
 have m:0<(cz z).length:=by rw[<-aM];omega
 refine⟨z,0,(cz z).getD 0 0,rfl,rfl,mM hz,?_,?_⟩
 ·show xw (cz z) ((0:Nat):Int)=_;exact ib rfl 0 m
 walk_at"d";have b:decide ((⟨#[(cz z).getD 0 0]⟩:Str)=Str.ofString "0")=decide ((cz z).getD 0 0=48):=by
  rw[show Str.ofString "0"=⟨#[48]⟩ by decide +kernel]
  exact decide_eq_decide.mpr ⟨fun e=>by simpa using L4 cz e,fun e=>by rw[e]⟩
 have l:∀ a,ah H a->Q (.bl (decide ((cz z).getD 0 0≠48)&&(cz z).all JF)) a:=fun a d=>by
  have:=q a d
  unfold df at this;rw[ek n,qE] at this;exact this
 refine bR (fun f=>?_) (fun f=>?_)
 ·have e:(cz z).getD 0 0=48:=uu (by rw[<-b];exact ek f)
  have:=l H (ah.refl _)
  rw[eG (fun h=>h e),r3] at this;exact this
 ·have e:(cz z).getD 0 0≠48:=fun e=>f (uu (by rw[b];exact ek e))
  refine⟨z,rfl,vB hz fun a d=>?_⟩
  have:=l a d
  rw[ek e,qE] at this;exact this
theorem Hd (B:Bn mg)(D:Def K mg "is_hat_line" fV)(gj:Fn P w K mg base 1 "is_name" ["word"] kh)(jD:Fn P w K mg base 1 "is_count" ["word"] k8):Fn P w K mg base 2 "is_hat_line" ["words"] (Al K):=by
 have zY:DS (ai fV) ["words"] ["words"] ["is_name","is_count","len"]:=aN;walk_at"hH";obtain⟨p,l,rfl,a,q⟩:=h;refine⟨_,(aj (aK (pA (jV aP (c7 S 2 (aG rfl) B.len ro (af (kv S 0))) aw (au _)) (pA (jV aP (c9 (kv S 0)) bj (au _)) (pA (cA S 0 gj hr (af (c9 (kv S 0)))) (xK (cA S 1 jD hr (af (c9 (kv S 0)))))))))),?_⟩;walk_at"d";refine bq (.inl a.sq) ?_;rw[di];walk_at"d";unfold vx at q;refine bR (fun c=>?_) (fun c=>?_)
 ·rw[ek (show l.length=3 by omega),qE] at q
  refine av (i:=((0:Nat):Int)) a.sq (ax (aX (by omega))) ?_
  walk_at"d";refine bR (fun b=>?_) (fun b=>?_)
  ·rw[ek b,qE] at q;refine av (i:=((1:Nat):Int)) a.sq (ax (aX (by omega))) ?_
   refine⟨_,rfl,a.short _ (getD_memS (by omega)),fun H1 d=>?_⟩
   walk_at"d"
   cases h1:bH (l.getD 1 ba) with
   | false=>
    rw[h1,r3] at q;exact q _ d
   | true=>
    rw[h1,qE] at q;walk_at"d";refine av (i:=((2:Nat):Int)) (d.seq a.sq) (ax (aX (by omega))) ?_
    exact⟨_,rfl,a.short _ (getD_memS (by omega)),fun f e=>q _ (d.trans e)⟩
  ·rw[eG b,r3] at q;exact q _ (ah.refl _)
 ·rw[eG (show ¬ l.length=3 by omega),r3] at q
  exact q _ (ah.refl _)
theorem Ct (B:Bn mg)(D:Def K mg "is_sees_line" fu)(gj:Fn P w K mg base 1 "is_name" ["word"] kh):Fn P w K mg base 2 "is_sees_line" ["words"] (vA K):=by
 have zY:DS (ai fu) ["words"] ["words"] ["all","len"]:=aN;walk_at"hH";obtain⟨p,l,rfl,d,q⟩:=h;have n:=d.fD;refine⟨_,(aj (aK (pA (jV K4 (c7 S 1 (aG rfl) B.len ro (af (kv S 0))) aw (au _)) (pA (jV aP (c9 (kv S 0)) bj (au _)) (xK (c7 S 0 (cK hc rfl) B.all boot_all (af (i7 S hc hsc (cQ (pB (cP rfl) (kv S 0) (bE aw) bD) rfl) (N:=["word"]) (W:=["word"]) (G:=["is_name"]) (fv:=[none]) (by decide +kernel) (fun z C I s H g=>⟨(kg g 0),bp,(cA g 0 gj hr (af (kv g 0)))⟩))))))))),?_⟩
 walk_at"d";refine bq (.inl d.sq) ?_;rw[di];walk_at"d";unfold qL at q;refine bR (fun c=>?_) (fun c=>?_)
 ·rw[ek (show 3<=l.length by omega),qE] at q
  refine av (i:=((0:Nat):Int)) d.sq (ax (aX (by omega))) ?_
  walk_at"d";refine bR (fun m=>?_) (fun m=>?_)
  ·rw[ek m,qE] at q;refine⟨p,_,rfl,d.sq,fun a v=>?_⟩;rw[show (some (1:Int))=some ((1:Nat):Int) from rfl,dv,<-UB]
   have r:=ah.new v (.lst ((l.drop 1).map V.str));have f:(l.drop 1).length=l.length - 1:=tz;refine⟨a,rfl,⟨_,aB.of ag⟩,uB (cV (aB.of ag)) (fun _=>true) (fun i=>.bl (bH ((l.drop 1).getD i ba))) (by rw[di,f];exact aC (by omega)) ?_ ?_⟩
   ·intro i H1 A F hi E t _;rw[di] at hi;rw[show ((l.drop 1).map V.str).getD i .br=.str ((l.drop 1).getD i ba) by rw[cc,aX hi];rfl]
    walk_at"d";exact⟨_,rfl,d.short _ (mem_of_mem_drop (getD_memS hi)),fun y o=>t rfl _ o⟩
   ·intro j H1 hn u b;rw[bK,di] at b;refine⟨j,(List.range (l.drop 1).length).map fun i=>bH ((l.drop 1).getD i ba),rfl,aB.of (by rw[b,kJ];rfl),?_⟩
    have e:((List.range (l.drop 1).length).map fun i=>bH ((l.drop 1).getD i ba)).all id=(l.drop 1).all bH:=by
     rw[On]
     conv=>rhs;rw[show l.drop 1=(List.range (l.drop 1).length).map fun i=>(l.drop 1).getD i ba from by
      apply A5
      intro i
      by_cases hi:i<(l.drop 1).length
      ·rw[ey,q5 hi,cv hi];show some _=some ((l.drop 1).getD i ba);rw[cc,cv hi];rfl
      ·rw[j6 (by omega),j6 (by rw[di,kc];omega)]]
     rw[On];rfl
    rw[e];exact q _ (r.trans u)
  ·rw[eG m,r3] at q;exact q _ (ah.refl _)
 ·rw[eG (show ¬ 3<=l.length by omega),r3] at q
  exact q _ (ah.refl _)
theorem tY:DS (ai cT) ["text","line","words","names"] ["text","line"] ["is_hat_line","int","is_sees_line","NoLine","len","Twice","set","tuple"]:=aN
theorem tZ:LN "read_line" cT "text" "line":=fun T kV a d c b ct u v=>⟨⟨_,by with_unfolding_all rfl,fun _=>by with_unfolding_all rfl⟩,⟨_,by with_unfolding_all rfl,fun _=>by with_unfolding_all rfl⟩,⟨_,by with_unfolding_all rfl,fun _=>by with_unfolding_all rfl⟩⟩
theorem KA (B:Bn mg)(D:Fd K mg "read_line" cT 0)(pO:Fn P w K mg base 2 "is_hat_line" ["words"] (Al K))(oU:Fn P w K mg base 2 "is_sees_line" ["words"] (vA K)):Sb P w K mg base 3 "read_line" "text" "line" 0 (yg K):=by
 refine D.gq tY tZ (by walk_at"hL") ?_
 walk_at"hI";obtain⟨z,i,l,rfl,hz,J,g,q⟩:=h;refine⟨_,(ae (bg S 2 (jW IR Ux type_str_split eO rfl (kv S 0) (af bj)))
   (ae (cG (pC (cA S 0 pO hr (af (kv S 2)))) (aj (aK (qy (ak bj (ak (c9 (kv S 2)) (af (nu S 1 j8 B.int boot_int (af (c9 (kv S 2)))))))))) aA)
   (ae (cG (sf (pC (cA S 2 oU hr (af (kv S 2))))) (aj qF) aA)
   (ae (bg S 3 (pB (cP rfl) (kv S 2) (bE aw) bD))
   (ae (cG (aV g9 (c7 S 4 ye B.len ro (af (nu S 6 (sQ hc rfl) B.set boot_set (af (kv S 3))))) (c7 S 4 (aG rfl) B.len ro (af (kv S 3))) (au _)) (aj qF) aA)
   (aj (aK (qy (ak bj (ak (c9 (kv S 3)) (af (nu S 7 (eU rfl) B.tuple boot_tuple (af (pB (cP rfl) (kv S 3) (bE aw) bD)))))))))))))),?_⟩
 walk_at"d";have Z:(1000002:Nat)<=sizeLine:=by decide
 refine⟨rfl,z,_,rfl,rfl,by decide +kernel,by omega,?_,fun p R=>?_⟩
 ·rw[bu,J];omega
 rw[bu,J];have O:=ah.new R (.lst (l.map V.str));have m:Ws X.K (upd H p (.lst (l.map V.str))) p l:=⟨aB.of ag,g,fun x hx=>ka (yf (by rw[J];exact hx)) hz⟩
 refine⟨p,l,rfl,m,fun H1 E=>?_⟩;have d:aB X.K H1 p (l.map V.str):=E.seq m.sq;walk_at"d"
 rcases q with ⟨n,c,y,q⟩ | ⟨n,hs,G,q⟩
 ·rw[n];walk_at"d";have hb:=n;unfold vx at hb;rw[h9] at hb;have s:l.length=3:=uu hb.1;have f:df (l.getD 2 ba)=true:=by
   have N:=hb.2;rw[h9,h9] at N;exact N.2.2
  have aa:(l.getD 2 ba).length<=30:=by
   unfold df at f;rw[h9] at f;exact(uu f.1).2
  refine av (i:=((1:Nat):Int)) d (ax (aX (by omega))) ?_
  refine av (i:=((2:Nat):Int)) d (ax (aX (by omega))) ?_
  refine⟨_,c,rfl,y,by omega,?_⟩
  refine⟨by decide,fun t v=>?_⟩
  exact q t _ (O.trans (E.trans (ah.new v _))) ag
 ·rw[n];walk_at"d";refine⟨p,l,rfl,⟨d,m.fD,m.short⟩,fun o M=>?_⟩;rw[hs];walk_at"d";have r:=M.seq d;have s:3<=l.length:=by
   unfold qL at hs;rw[h9] at hs;exact uu hs.1
  refine⟨p,_,rfl,r,fun a T=>?_⟩;rw[show (some (1:Int))=some ((1:Nat):Int) from rfl,dv,<-UB]
  have W:=ah.new T (.lst ((l.drop 1).map V.str));have Y:(l.drop 1).length=l.length - 1:=tz;walk_at"d";refine⟨a,l.drop 1,rfl,aB.of ag,by omega,fun P w b hb=>?_⟩
  have C:=ah.new hb (vt P w b (sP (l.drop 1)));have j:upd (upd o a (.lst ((l.drop 1).map V.str))) b (vt P w b (sP (l.drop 1))) b=some (vt P w b (sP (l.drop 1))):=ag;have e:aB X.K (upd (upd o a (.lst ((l.drop 1).map V.str))) b (vt P w b (sP (l.drop 1)))) a ((l.drop 1).map V.str):=aB.of (C _ _ ag);generalize upd (upd o a (.lst ((l.drop 1).map V.str))) b (vt P w b (sP (l.drop 1)))=H3 at C j e ⊢;refine⟨b,_,P,w,rfl,j,?_⟩;refine bq (.inl e) ?_;rw[di,(JC (l.drop 1)).2.mpr G];walk_at"d";rw[if_neg (by omega)]
  refine av (i:=((0:Nat):Int)) e (ax (aX (by omega))) ?_
  rw[show (l.drop 1).getD 0 ba=l.getD 1 ba by rw[cc,getElem?_drop,<-cc]]
  refine⟨a,_,rfl,e,fun c I=>?_⟩;rw[dv,<-UB,List.drop_drop];have sc:=ah.new I (.lst ((l.drop (1+1)).map V.str));refine⟨c,_,rfl,.inl ⟨aB.of ag,fun u A=>?_⟩⟩;have U:=ah.new A (.tup ((l.drop (1+1)).map V.str));refine⟨by decide,fun t v=>?_⟩
  have Q:=ah.new v (.tup [.str "sees",.str (l.getD 1 ba),.ref u]);exact q t u _ ((O.trans E).trans ((M.trans W).trans ((C.trans sc).trans (U.trans Q)))) ag (Q _ _ ag)
theorem Cu (B:Bn mg)(KC:Cs mg)(D:Def K mg "add_hat" lG):Fn P w K mg base 1 "add_hat" ["numbers","name","line"] vK:=by
 have zY:DS (ai lG) ["numbers","name","line"] ["numbers","name","line"] ["Twice","MOST_PEOPLE","len","TooMany"]:=aN;walk_at"hH";obtain⟨d,b,x,i,rfl,a,hx,e,q⟩:=h;refine⟨_,(ae (cG (Q6 (u1 hu) (kv S 1) (kv S 0) (by with_unfolding_all rfl)) (aj qF) aA)
   (ae (cG (aV K4 (c7 S 2 qO B.len ro (af (kv S 0))) (N9 S 1 KC.wF) (au _)) (aj qF) aA)
   (aj (EO (u1 hu) (c7 S 2 qO B.len ro (af (kv S 0))) (kv S 0) (kv S 1))))),?_⟩
 walk_at"d";refine⟨d,_,rfl,Oe a hx,?_⟩;rw[isSome_none];walk_at"d";refine vJ a ?_;walk_at"d";refine bR (fun c=>absurd c (by omega)) (fun c=>?_)
 refine vJ a ?_;refine Fv a rfl hx (bZ (by omega)) ?_
 exact q
theorem wu (B:Bn mg)(D:Def K mg "add_sight" iG):Fn P w K mg base 1 "add_sight" ["numbers","web","name","seen","line"] (nU K):=by
 have zY:DS (ai iG) ["numbers","web","name","seen","line"] ["numbers","web","name","seen","line"] ["Twice","all","Unknown","sum"]:=aN;walk_at"hH";obtain⟨d,w,t,a,l,ws,x,i,rfl,E,Z,r,h8,hx,z,Y,U,hl40,q⟩:=h;refine⟨_,(ae (cG (HC (IW (Q6 (u1 hu) (kv S 2) (kv S 0) (by with_unfolding_all rfl)) (zW (aV uK (eC (kv S 1) (Ao (u1 hu) (kv S 0) (kv S 2))) aw (au _))))) (aj qF) aA)
   (ae (cG (sf (pC (c7 S 1 (cK hc rfl) B.all boot_all (af (i7 S hc hsc (dI (aR (h7 rfl) (qy (af (kv S 2))) (kv S 3)) rfl) (N:=["other","numbers"]) (W:=["other"]) (G:=[]) (fv:=[none,some 0]) (by decide +kernel) (fun cl C fp s H g=>⟨(kg g 0),bp,(QV (u1 hu) (kv g 0) (kv g 1) (by with_unfolding_all rfl))⟩)))))) (aj qF) aA)
   (aj (En (c7 S 3 (cX hc rfl) B.sum boot_sum (af (i7 S hc hsc (dI (kv S 3) rfl) (N:=["other","numbers"]) (W:=["other"]) (G:=[]) (fv:=[none,some 0]) (by decide +kernel) (fun cl C fp s H g=>⟨(kg g 0),bp,(aR c5 aw (Ao (u1 hu) (kv g 1) (kv g 0)))⟩)))) (NO (kv S 1) (Ao (u1 hu) (kv S 0) (kv S 2)) set_list))))),?_⟩
 walk_at"d";have hi:a.idxOf x<a.length:=C6.mpr hx;refine⟨d,_,rfl,vI E hx,?_⟩;rw[isSome_some];walk_at"d";refine⟨d,_,rfl,vI E hx,?_⟩;refine cY (aB.of Z) rfl (by rw[ao,r];exact hi) ?_
 rw[aT,z];walk_at"d";refine⟨by decide,fun p hp=>?_⟩
 have j:=ah.new hp (.tup [V.str x]);refine⟨p,t,_,_,rfl,rfl,aH.of ag,aH.of (j _ _ Y),by rw[di];exact bZ (by show 1+_<=_;omega),fun p1 H1 v f=>?_⟩
 have n:DN H1 d a:=v _ _ (j _ _ E);have M:([V.str x]++l.map V.str)=(x::l).map V.str:=rfl;rw[M] at f;have gh:∀ y∈x::l,y∈a:=fun y hy=>(gz.mp hy).elim (fun e=>e ▸ hx) (U y);refine⟨p1,rfl,⟨_,f⟩,uB (fY f) (fun _=>true) (fun i=>.bl true) (by rw[di,pb];exact aC (by omega)) ?_ ?_⟩
 ·intro i X A B' hi R F _;rw[di] at hi;rw[show ((x::l).map V.str).getD i .br=.str ((x::l).getD i ba) by rw[cc,aX hi];rfl]
  walk_at"d";refine⟨d,_,rfl,vI (R _ _ n) (gh _ (getD_memS hi)),?_⟩;exact F rfl _ (ah.refl _)
 intro O X hn2 u c;rw[bK,di] at c;refine⟨O,(List.range (x::l).length).map fun _=>true,rfl,aB.of (by rw[c,kJ];rfl),?_⟩
 have eT:(((List.range (x::l).length).map fun _=>true).all id)=true:=by rw[On];exact kf.mpr fun _ _=>rfl
 rw[eT];walk_at"d";have m:DN X d a:=u _ _ n;have o:=u _ _ (v _ _ (j _ _ Y));have J:=u _ _ (v _ _ (j _ _ Z));refine⟨t,rfl,⟨_,aH.of o⟩,uB (fY (aH.of o)) (fun _=>true) (fun i=>.int ((2 ^ a.idxOf (l.getD i ba):Nat):Int)) (by rw[di];exact aC (by omega)) ?_ ?_⟩
 ·intro i H3 A B' hi R F _;rw[di] at hi;rw[show (l.map V.str).getD i .br=.str (l.getD i ba) by rw[cc,aX hi];rfl]
  walk_at"d";refine⟨d,_,rfl,vI (R _ _ m) (U _ (getD_memS hi)),?_⟩;have hlt:a.idxOf (l.getD i ba)<a.length:=C6.mpr (U _ (getD_memS hi));walk_at"d";refine⟨eI (by omega),?_⟩
  exact F rfl H3 (ah.refl _)
 intro T H3 hn3 I b;rw[bK,di] at b;refine⟨T,(List.range l.length).map fun i=>((2 ^ a.idxOf (l.getD i ba):Nat):Int),rfl,aB.of (by rw[b,kJ];rfl),?_⟩
 walk_at"d";rw[Fw];have Q:=I _ _ J;refine⟨d,_,rfl,vI (I _ _ m) hx,?_⟩;refine⟨w,_,_,_,rfl,rfl,Q,Jf (by rw[di,ao,r];exact hi),?_⟩
 rw[Fx];exact q _ (j.trans (v.trans (u.trans I)))
variable {er:Str->Addr}
theorem KD (B:Bn mg)(D:Def K mg "rows_of" lH):Fn P w K mg base 1 "rows_of" ["text"] yn:=by
 have zY:DS (ai lH) ["text"] ["text"] []:=aN;walk_at"hH";obtain⟨z,rfl,hz,a,q⟩:=h;refine⟨_,(ae (cG (aV aP (kv S 0) bj (au _)) (aj (aK (eY bL))) aA)
   (aj (aK (jW IR Ux type_str_split eO rfl (kv S 0) (af bj))))),?_⟩
 walk_at"d";refine bR (fun c=>?_) (fun c=>?_)
 ·refine⟨by decide,fun l d=>?_⟩
  exact q l _ (ah.new d _) d (by rw[ag];unfold iq;rw[if_pos c];rfl)
 ·have g:(1000002:Nat)<=sizeLine:=by decide
  have f:(Str.ofString "\n")=⟨#[10]⟩:=by decide +kernel
  have e:iq z=Txt.split z ⟨#[10]⟩:=by unfold iq;rw[if_neg c]
  refine⟨rfl,z,_,rfl,rfl,by decide +kernel,by omega,?_,fun p b=>?_⟩
  ·rw[f,<-e];omega
  ·rw[f,<-e];exact q p _ (ah.new b _) b ag
theorem KG (B:Bn mg)(D:Def K mg "read_book" iH)(lQ:Fn P w K mg base 1 "rows_of" ["text"] yn)(wH:Sb P w K mg base 3 "read_line" "text" "line" 0 (yg K))(CK:Fn P w K mg base 1 "add_hat" ["numbers","name","line"] vK)(wI:Fn P w K mg base 1 "add_sight" ["numbers","web","name","seen","line"] (nU K)):Fn P w K mg base 4 "read_book" ["text"] (AI K):=by
 have zY:DS (ai iH) ["text","numbers","counts","web","line","row","told"] ["text"] ["enumerate","rows_of","read_line","add_hat","add_sight","tuple"]:=aN;walk_at"hH";obtain⟨L,b,rfl,bb,hL,hb,q⟩:=h;refine⟨_,(ae (bg S 1 Ah)
   (ae (bg S 2 (eY bL))
   (ae (bg S 3 (eY bL))
   (ae (eZ hxe hc (Ce true S 0 B.enumerate rfl (af (cA S 1 lQ hr (af (kv S 0))))) (jX hc (K:=X.K) (n:=2) rfl (aS (kg S 4) (aS (kg S 5) c6))) (ae (bg S 6 (SN S 2 wH hr (ak (kv S 5) (af (kv S 4)))))
   (aj (cG (aV aP (iD (kv S 6)) bj (au _)) (ae (c8 (cA S 3 CK hr (ak (kv S 1) (ak (iD (kv S 6)) (af (kv S 4))))))
   (ae (c8 (jW rr mo oo bw rfl (kv S 2) (af (iD (kv S 6)))))
   (aj (c8 (jW rr mo oo bw rfl (kv S 3) (af aw)))))) (aj (c8 (cA S 4 wI hr (ak (kv S 1) (ak (kv S 3) (ak (iD (kv S 6)) (ak (iD (kv S 6)) (af (kv S 4)))))))))))))
   (aj (aK (qy (ak (nu S 5 (yC hc) B.tuple boot_tuple (af (kv S 1))) (ak (nu S 5 (eU rfl) B.tuple boot_tuple (af (kv S 2))) (af (nu S 5 (eU rfl) B.tuple boot_tuple (af (kv S 3))))))))))))),?_⟩
 walk_at"d";intro d ay;have s0:=ah.new ay (.dK []);refine⟨by decide,fun c A=>?_⟩
 have s1:=ah.new A (.lst []);refine⟨by decide,fun w s=>?_⟩
 have s2:=ah.new s (.lst []);have cd:c≠d:=fun z=>by rw[z,ag] at A;cases A
 have wd:w≠d:=fun z=>by rw[z,aq cd.symm,ag] at s;cases s
 have wc:w≠c:=fun z=>by rw[z,ag] at s;cases s
 have hbt:=iZ bb hL;have u:=gD bb;refine⟨_,rfl,by omega,by rw[u,di];omega,fun r H1 t1 m N=>?_⟩
 rw[u] at N;have rd:r≠d:=fun z=>by rw[z,aq wd.symm,aq cd.symm,ag] at m;cases m
 have rc:r≠c:=fun z=>by rw[z,aq wc.symm,ag] at m;cases m
 have rw':r≠w:=fun z=>by rw[z,ag] at m;cases m
 have hB0:Tg H1 d c w ⟨[],[],[]⟩:=⟨t1 _ _ (s2 _ _ (s1 _ _ ag)),t1 _ _ (s2 _ _ ag),t1 _ _ ag,rfl,rfl,by decide⟩
 have hcn:H c=none:=s0.free A;have hwn:H w=none:=(s0.trans s1).free s;refine Gx true (Q7 H (ck L) d c w r L) (aB.of N) ⟨_,_,_,_,rfl,(s0.trans (s1.trans s2)).trans t1,N,rfl,hB0⟩ (fun k σ H' h=>by obtain⟨b,y1,y2,y3,_,_,h,_⟩:=h;exact aB.of h) ?_ ?_
 ·rintro k v σ H2 H3 hv ⟨b1,y1,y2,y3,rfl,W,O,y,j⟩ s3;obtain⟨x,hx,rfl⟩:∃ x,L[k]?=some x/\v=.str (k9 x):=by
   rw[ey,ey] at hv
   cases e:L[k]? with
   | none=>rw[e] at hv;cases hv
   | some x=>rw[e] at hv;cases hv;exact⟨x,rfl,rfl⟩
  obtain⟨a,b2,e1,e2,e3⟩:=yl hb hx;have eb:a=b1:=by rw[y] at e1;cases e1;rfl
  subst eb;have hS3:=W.trans s3;walk_at"d";refine JL (bb x (gc hx)) (fun n E f G ex s4 I=>?_) (fun n l f G ex s4 I=>?_)
  ·subst ex;obtain⟨hn,h8,rfl⟩:=BV e2;have g:=s3.trans s4;walk_at"d";refine aQ (i:=((0:Nat):Int)) (aH.of I) (ax rfl) ?_;walk_at"d";refine aQ (i:=((1:Nat):Int)) (aH.of I) (ax rfl) ?_;refine⟨d,_,n,_,rfl,g _ _ j.hd,hn,h8,?_⟩;have fd:f≠d:=fun z=>by have:=g _ _ j.hd;rw[<-z,I] at this;cases this
   have fc:f≠c:=fun z=>by have:=g _ _ j.hc;rw[<-z,I] at this;cases this
   have fw:f≠w:=fun z=>by have:=g _ _ j.hw;rw[<-z,I] at this;cases this
   walk_at"d";have M:upd G d (.dK (nQ 0 (a.ns++[n]))) c=some (.lst ((aD a.cs).map V.int)):=by rw[aq cd];exact g _ _ j.hc
   have aa:upd G d (.dK (nQ 0 (a.ns++[n]))) w=some (.lst ((aD a.ws).map V.int)):=by rw[aq wd];exact g _ _ j.hw
   have ab:upd G d (.dK (nQ 0 (a.ns++[n]))) r=some (.lst ((L.map k9).map V.str)):=by rw[aq rd];exact g _ _ O
   have T:upd G d (.dK (nQ 0 (a.ns++[n]))) f=some (.tup [.str "hat",.str n,.int (E:Int)]):=by rw[aq fd];exact I
   have R:upd G d (.dK (nQ 0 (a.ns++[n]))) d=some (.dK (nQ 0 (a.ns++[n]))):=ag;have Y:ah H (upd G d (.dK (nQ 0 (a.ns++[n])))):=(W.trans g).set ay _;generalize upd G d (.dK (nQ 0 (a.ns++[n])))=J at M aa ab T R Y ⊢;refine⟨.inl ⟨rfl,_,aB.of M⟩,?_⟩;refine aQ (i:=((2:Nat):Int)) (aH.of T) (ax rfl) ?_;refine⟨c,_,_,rfl,rfl,M,by rw[di,ao];exact bZ (by rw[j.lc];omega),?_⟩
   rw[nS];walk_at"d";have Q:upd J c (.lst ((aD (a.cs++[E])).map V.int)) w=some (.lst ((aD a.ws).map V.int)):=by rw[aq wc];exact aa
   have U:upd J c (.lst ((aD (a.cs++[E])).map V.int)) r=some (.lst ((L.map k9).map V.str)):=by rw[aq rc];exact ab
   have hd6:upd J c (.lst ((aD (a.cs++[E])).map V.int)) d=some (.dK (nQ 0 (a.ns++[n]))):=by rw[aq cd.symm];exact R
   have Z:upd J c (.lst ((aD (a.cs++[E])).map V.int)) c=some (.lst ((aD (a.cs++[E])).map V.int)):=ag;have hS6:ah H (upd J c (.lst ((aD (a.cs++[E])).map V.int))):=Y.set hcn _;generalize upd J c (.lst ((aD (a.cs++[E])).map V.int))=H6 at Q U hd6 Z hS6 ⊢;refine⟨.inl ⟨rfl,_,aB.of Q⟩,?_⟩;refine⟨w,_,_,rfl,rfl,Q,by rw[di,ao];exact bZ (by rw[j.lw];omega),?_⟩
   rw[show (V.int 0)=V.int ((0:Nat):Int) from rfl,nS]
   refine⟨_,_,_,_,rfl,hS6.set hwn _,by rw[aq rw'];exact U,e3,⟨by show upd _ _ _ _=_;rw[aq wd.symm];exact hd6,by rw[aq wc.symm];exact Z,ag,?_,?_,?_⟩⟩
   ·rw[fz,fz,j.lw];rfl
   ·rw[fz,fz,j.lc];rfl
   ·rw[fz];show _+1<=8;omega
  ·subst ex;obtain⟨hn,h0,hl,rfl⟩:=yk e2;have g:=s3.trans s4;obtain⟨p,HE,nZ⟩:=I;have hLs:SO (n::l):=bb _ (gc hx);walk_at"d";refine aQ (i:=((0:Nat):Int)) (aH.of HE) (ax rfl) ?_;walk_at"d";rw[if_neg (by decide +kernel)]
   refine aQ (i:=((1:Nat):Int)) (aH.of HE) (ax rfl) ?_;refine aQ (i:=((2:Nat):Int)) (aH.of HE) (ax rfl) ?_;refine⟨d,w,p,_,l,_,n,_,rfl,g _ _ j.hd,g _ _ j.hw,j.lw,j.fD,hn,h0,nZ,hl,by have:=hLs.fD;rw[pb] at this;omega,fun J s5=>?_⟩
   have C:=g.trans s5;walk_at"d";refine⟨_,_,_,_,rfl,(W.trans C).set hwn _,by rw[aq rw'];exact C _ _ O,e3,⟨by show upd _ _ _ _=_;rw[aq wd.symm];exact C _ _ j.hd,by rw[aq wc.symm];exact C _ _ j.hc,ag,?_,j.lc,j.fD⟩⟩
   rw[length_set];exact j.lw
 ·rintro σ H2 ⟨b1,y1,y2,y3,rfl,W,O,y,j⟩;rw[di,di,SZ,hb] at y
  cases y
  walk_at"d";refine Cf j.hd fun a1 o ha1 oc od=>?_;have u1:=ah.new ha1 (.fe o (.tup (b.ns.map V.str)));refine⟨c,_,rfl,.inl ⟨aB.of (u1 _ _ j.hc),fun a2 ha2=>?_⟩⟩;have u2:=ah.new ha2 (.tup ((aD b.cs).map V.int));refine⟨w,_,rfl,.inl ⟨aB.of (u2 _ _ (u1 _ _ j.hw)),fun a3 ha3=>?_⟩⟩;have u3:=ah.new ha3 (.tup ((aD b.ws).map V.int));refine⟨by decide,fun t ht=>?_⟩
  have u4:=ah.new ht (.tup [.ref a1,.ref a2,.ref a3]);exact q t _ (W.trans ((u1.trans u2).trans (u3.trans u4))) ⟨a1,a2,a3,aH.of ag,.inl (.inr ⟨o,u4 _ _ (u3 _ _ (u2 _ _ ag))⟩),.inr ⟨o,_,u4 _ _ (u3 _ _ (u2 _ _ ag)),oc,od⟩,aH.of (u4 _ _ (u3 _ _ ag)),aH.of (u4 _ _ ag)⟩
theorem Cv (B:Bn mg)(D:Def K mg "places" oF):Fn P w K mg base 1 "places" ["mask"] j7:=by
 have zY:DS (ai oF) ["mask"] ["mask"] ["range"]:=aN;walk_at"hH";obtain⟨m,rfl,hm,q⟩:=h;refine⟨_,(aj (aK (i7 S hc hsc (jY S 0 B.range (af (SA PySem.F.plainAttrs_int PySem.F.slot_int_bit_length PySem.F.type_int_bit_length BH rfl (kv S 0)))) (N:=["i","mask"]) (W:=["i"]) (G:=[]) (fv:=[none,some 0]) (by decide +kernel) (fun r C t s H d=>⟨(kg d 0),(gp (aV aP (aR dJ (aR xk (kv d 1) (kv d 0)) aw) aw (au _))),(kv d 0)⟩)))),?_⟩
 walk_at"d";refine⟨rfl,m,rfl,rfl,fun n hn a=>?_⟩;have j:=a 64 hm;walk_at"d";refine Qj n (fun i=>m.testBit i) (fun i=>(i:Int)) rfl (by omega) ?_ ?_
 ·intro i H1 A p hi g l o;walk_at"d";refine⟨by omega,?_⟩
  by_cases c:m.testBit i=true
  ·rw[c];walk_at"d";exact l c _ (ah.refl _)
  ·have c:m.testBit i=false:=by simpa using c
   rw[c];walk_at"d";exact o c _ (ah.refl _)
 ·intro f H1 e g b;refine q f H1 g e ?_;rw[b,<-qC hn];rfl
theorem mS (D:Def K mg "sees" yM):Fn P w K mg base 1 "sees" ["web","i","j"] (xV K):=by
 have zY:DS (ai yM) ["web","i","j"] ["web","i","j"] []:=aN;walk_at"hH";obtain⟨w,b,i,j,rfl,a,hi,q⟩:=h;refine⟨_,(aj (aK (jV aP (aR dJ (aR xk (OL (kv S 0) (kv S 1)) (kv S 2)) aw) aw (au _)))),?_⟩;walk_at"d";refine dF a rfl (by rw[ao];exact hi) ?_
 rw[aT];walk_at"d";exact⟨by omega,q⟩
theorem t9 (B:Bn mg)(D:Def K mg "is_circle" iE):Fn P w K mg base 1 "is_circle" ["web","people"] (NZ K):=by
 have zY:DS (ai iE) ["web","people","crowd","i","others"] ["web","people"] ["sum"]:=aN;walk_at"hH";obtain⟨w,p,ws,l,rfl,J,o,U,r,b,q⟩:=h;have M:=cB r b;refine⟨_,(ae (bg S 2 (c7 S 0 (cX hc rfl) B.sum boot_sum (af (i7 S hc hsc (dI (kv S 1) rfl) (N:=["i"]) (W:=["i"]) (G:=[]) (fv:=[none]) (by decide +kernel) (fun Q C Y s H t=>⟨(kg t 0),bp,(aR c5 aw (kv t 0))⟩)))))
   (ae (eZ hxe hc (dI (kv S 1) rfl) (kg S 3) (ae (bg S 4 (aR cq (kv S 2) (aR c5 aw (kv S 3))))
   (aj (cG (aV uK (aR dJ (OL (kv S 0) (kv S 3)) (kv S 4)) (kv S 4) (au _)) (aj (aK HB)) aA))))
   (aj (aK HB)))),?_⟩
 walk_at"d";refine R9 (fun _=>true) (fun j=>((2 ^ l.getD j 0:Nat):Int)) o (by rw[ao];exact aC (by omega)) ?_ ?_
 ·intro j H1 A T hj R v X;rw[ao] at hj;rw[aT];walk_at"d";exact⟨eI (by have:=b _ (dM hj);omega),v rfl _ (ah.refl _)⟩
 intro E H1 y a d;rw[bK] at d;refine kT (aB.of d) ?_;rw[Ae];have f:=a.aJ o;have n:=a.aJ J;walk_at"d";refine Jd (QC H1 w p ws l) f ⟨rfl,(fun j hj=>absurd hj (Uk j)),none,none,rfl⟩ (fun k σ u h=>by rw[h.1];exact f) ?_ ?_
 ·rintro k σ u hk ⟨i,g,I,O,rfl⟩;rw[ao] at hk;have hm:=dM hk;rw[i,aT];walk_at"d";refine⟨eI (by have:=b _ hm;omega),?_⟩
  refine dF n rfl (by rw[ao];exact b _ hm) ?_
  rw[aT,Jq (vj hm)];walk_at"d";have e:=xX (ws:=ws) r hm
  by_cases c:(l.all fun x=>decide (x=l.getD k 0)||e9 ws (l.getD k 0) x)=true
  ·rw[c,o6] at e;rw[e]
   try rw[NR rfl]
   walk_at"d";refine⟨rfl,fun j hj=>?_,_,_,rfl⟩
   by_cases F:j=k
   ·rw[F];exact c
   ·exact g j (by omega)
  ·have m:(l.all fun x=>decide (x=l.getD k 0)||e9 ws (l.getD k 0) x)=false:=by simpa using c
   rw[m,decide_eq_false_iff_not] at e;rw[eG (show ¬ (((ws.getD (l.getD k 0) 0&&& (mask l - 2 ^ l.getD k 0):Nat):Int)=((mask l - 2 ^ l.getD k 0:Nat):Int)) by rw[QD];exact e)]
   walk_at"d"
   have:cN ws l=false:=by
    cases z:cN ws l with
    | false=>rfl
    | true=>
     unfold cN at z;rw[kf] at z;rw[z _ hm] at m;cases m
   rw[<-this];exact q _ a
 ·rintro σ u ⟨i,g,I,O,rfl⟩;rw[ao] at g;rw[i];walk_at"d"
  have:cN ws l=true:=by
   unfold cN;rw[kf];intro x hx;obtain⟨k,hk,e⟩:=Da hx
   have:=g k hk
   rw[cc,cv hk] at this;rw[<-e];exact this
  rw[<-this];exact q _ a
theorem yP (B:Bn mg)(D:Def K mg "is_ring" lE)(yZ:Fn P w K mg base 1 "sees" ["web","i","j"] (xV K)):Fn P w K mg base 2 "is_ring" ["web","people"] (QF K):=by
 have zY:DS (ai lE) ["web","people","followers"] ["web","people"] ["len","set","all","zip"]:=aN;walk_at"hH";obtain⟨w,p,d,r,rfl,U,g,h8,Q,v,q⟩:=h;refine⟨_,(ae (cG (HC (O6 (aV g9 (c7 S 0 (aG rfl) B.len ro (af (kv S 1))) aw (au _)) (By (aV g9 (c7 S 0 vf B.len ro (af (nu S 1 (BE hc rfl) B.set boot_set (af (kv S 1))))) (c7 S 0 (aG rfl) B.len ro (af (kv S 1))) (au _))))) (aj (aK HB)) aA)
   (ae (bg S 2 (aR (h7 rfl) (pB (iV rfl) (kv S 1) (bE aw) bD) (pB (iV rfl) (kv S 1) bD (bE aw))))
   (aj (aK (c7 S 2 (cK hc rfl) B.all boot_all (af (i7 S hc hsc (RD false false S 3 B.zip rfl (ak (kv S 1) (af (kv S 2)))) (N:=["i","j","web"]) (W:=["i","j"]) (G:=["sees"]) (fv:=[none,none,some 0]) (by decide +kernel) (fun Z C fp s H l=>⟨(jX rfl (K:=X.K) (n:=2) rfl (aS (kg l 0) (aS (kg l 1) c6))),bp,(cA l 0 yZ hr (ak (kv l 2) (ak (kv l 0) (af (kv l 1)))))⟩)))))))),?_⟩
 walk_at"d";refine bq (.inr g) ?_;rw[di,ao];walk_at"d";refine bR (fun c=>?_) (fun c=>?_)
 ·rw[show false=je d r by unfold je;rw[eG (show ¬ 2<=r.length by omega)];rfl]
  exact q _ (ah.refl _)
 refine⟨p,aD r,rfl,.inr g,by rw[ao];omega,fun s hs=>?_⟩
 have i:=ah.new hs (.set (fun j=>(i8 (aD r) (aD r).length).any (· == j)) (unlike (aD r)));refine⟨s,_,_,rfl,ag,?_⟩;generalize upd H s _=H1 at i ⊢;refine bq (.inr (i.aJ g)) ?_;rw[di,ao];walk_at"d"
 by_cases o:r.Nodup
 ·rw[if_neg (by rw[BG (qB o),ao];omega)]
  refine sr 0 (i.aJ g) rfl (by rw[ao];omega) fun a T=>?_
  have F:=ah.new T (.tup (((aD r).drop (0+1)).map V.int));refine sk 1 ((i.trans F).aJ g) rfl (by rw[ao];omega) fun b hb=>?_
  have I:=ah.new hb (.tup (((aD r).take 1).map V.int));refine sx (ns:=(aD r).drop 1) (ms:=(aD r).take 1) (aH.of (I _ _ ag)) (aH.of ag) (bZ (by rw[tz,qN,ao];omega)) fun f M J E=>?_
  have E:aH X.K M f ((aD (pD r)).map V.int):=by
   unfold pD;rw[dN,<-vg,<-EH];exact E
  have t:=((i.trans F).trans I).trans J;walk_at"d";refine Oy _ (fun k=>.bl (e9 d (r.getD k 0) ((pD r).getD k 0))) (t.aJ g) E (ef _) (by rw[ao,ao,EK (by omega)];exact ef _) (.inl (ef _)) (by rw[ao];exact aC (by omega)) ?_ ?_
  ·intro k Y A hk e O;rw[ao] at hk;rw[aT,aT];walk_at"d";exact⟨w,d,r.getD k 0,(pD r).getD k 0,rfl,(t.trans e).aJ U,v _ (dM hk),O _ (ah.refl _)⟩
  ·intro y Y R e m;refine⟨y,(List.range r.length).map fun k=>e9 d (r.getD k 0) ((pD r).getD k 0),rfl,aB.of (by rw[m,ao,kJ];rfl),?_⟩
   rw[BI,show ((List.range r.length).all fun k=>e9 d (r.getD (ahead r.length k) 0) (r.getD k 0))=je d r by unfold je;rw[ek (show 2<=r.length by omega),ek o];rfl]
   exact q _ (t.trans e)
 ·have u:=BJ (fun z=>o (pE.mp z));rw[ao] at u;rw[if_pos (by omega),show false=je d r by unfold je;rw[eG o,r3,Uw]]
  exact q _ i
theorem He (B:Bn mg)(D:Def K mg "shown_book" gQ)(iP:Fn P w K mg base 1 "places" ["mask"] j7):Fn P w K mg base 2 "shown_book" ["book"] (vW K):=by
 have zY:DS (ai gQ) ["book","names","rows","i","mask","seen"] ["book"] ["zip","enumerate","places"]:=aN;walk_at"hH";obtain⟨t,a,b,d,rfl,⟨a1,a2,a3,h0,h1,_,h2,h3⟩,P,q⟩:=h;have h8:=P.nm.fD;refine⟨_,(ae (bg S 1 (iD (kv S 0)))
   (ae (IZ (i:=2) S hc hsc (RD false false S 0 B.zip rfl (ak (kv S 1) (af (iD (kv S 0))))) (N:=["name","count"]) (W:=["name","count"]) (G:=[]) (fv:=[none,none]) (by decide +kernel) (fun cl C fp s H o=>⟨(jX rfl (K:=X.K) (n:=2) rfl (aS (kg o 0) (aS (kg o 1) c6))),bp,(LR (gF bj (gF (JT (kv o 0)) (gF bj (gF (JT (kv o 1)) FG)))))⟩) (by rw[hsc];decide +kernel) (by rw[eM,hsc];rfl))
   (ae (eZ hxe hc (Ce false S 1 B.enumerate rfl (af (iD (kv S 0)))) (jX hc (K:=X.K) (n:=2) rfl (aS (kg S 3) (aS (kg S 4) c6))) (aj (cG (aV uK (kv S 4) aw (au _)) (ae (IZ (i:=5) S hc hsc (cQ (cA S 2 iP hr (af (kv S 4))) rfl) (N:=["j","names"]) (W:=["j"]) (G:=[]) (fv:=[none,some 1]) (by decide +kernel) (fun cl C fp s H o=>⟨(kg o 0),bp,(mK (cW rfl) (kv o 1) (kv o 0) (fun _ _=>rfl))⟩) (by rw[hsc];decide +kernel) (by rw[eM,hsc];rfl))
   (aj (c8 (jW rr mo oo bw rfl (kv S 2) (af (jW IR Ur type_str_join (cR rfl) rfl bj (af (aR (dE rfl) (eY (ak bj (af (OL (kv S 1) (kv S 3))))) (kv S 5))))))))) aA)))
   (aj (aK (jW IR Ur type_str_join (cR rfl) rfl bj (af (kv S 2)))))))),?_⟩
 walk_at"i";refine aQ (i:=((0:Nat):Int)) h0 (ax rfl) ?_;have h1000:(1000:Nat)<=sizeLine:=by decide
 have el:(Str.ofString "hat ").length=4:=by decide +kernel
 have u:(Str.ofString " ").length=1:=by decide +kernel
 have J:∀ k,k<a.length->bH (a.getD k ba)=true/\(a.getD k ba).length<=12/\(Str.ofString (toString ((b.getD k 0:Nat):Int))).length<=30/\((b.getD k 0:Nat):Int).natAbs.log2<1920:=fun k hk=>by
  have O:bH (a.getD k ba)=true/\0<b.getD k 0/\b.getD k 0<10 ^ 30:=sW P hk;refine⟨O.1,(dG O.1).2.2,iX (dO O.2.1 O.2.2).1,?_⟩;rw[Uy];exact(log2_lt (by omega)).mpr (T2 O.2.2 (by decide +kernel))
 walk_at"i";refine aQ (i:=((1:Nat):Int)) h0 (ax rfl) ?_;refine RF (fun k=>.str (eP a b (.dA k))) h1 h2 (by rw[di,di,ao,P.lc]) (by rw[di];exact aC (by show a.length<=_;omega)) ?_ ?_
 ·intro k H1 A hk hS hA;rw[di] at hk;rw[show (a.map V.str).getD k .br=.str (a.getD k ba) by rw[cc,aX hk];rfl,dQ (by rw[P.lc];exact hk)]
  obtain⟨f1,f2,f3,f4⟩:=J k hk;walk_at"s";have z0:(Str.empty++Str.ofString "hat ").length=4:=by decide +kernel
  refine⟨_,rfl,by rw[z0];omega,?_⟩
  refine .inl ⟨_,rfl,by omega,_,rfl,by rw[aE,z0];omega,?_⟩
  walk_at"s";refine⟨_,rfl,by rw[aE,aE,z0,u];omega,?_⟩
  refine .inr ⟨_,rfl,f4,_,rfl,by rw[aE,aE,aE,z0,u];omega,?_⟩
  walk_at"s";refine⟨by rw[aE,aE,aE,z0,u];omega,?_⟩
  have e0:Str.empty++Str.ofString "hat "=Str.ofString "hat ":=by decide +kernel
  rw[e0,nP];exact hA _ (ah.refl _)
 intro r H1 hr0 s1 f;rw[di] at f;have f:H1 r=some (.lst (((JV a d 0).map (eP a b)).map V.str)):=by
  rw[f];unfold JV;rw[List.range_zero,List.filter_nil,map_nil,Um,kJ,kJ];rfl
 have hrn:H r=none:=hr0;walk_at"i";refine aQ (i:=((2:Nat):Int)) (s1.aJ h0) (ax rfl) ?_;refine Mh (Rh H t a1 r a b d) (s1.aJ h3) ⟨_,_,_,rfl,s1,f⟩ (fun k σ H' h=>by obtain⟨y3,y4,y5,_,s,_⟩:=h;exact s.aJ h3) ?_ ?_
 ·rintro k σ H2 H3 hk ⟨y3,y4,y5,rfl,s2,l⟩ s3;rw[ao,P.lw] at hk;rw[aT];have U:=s2.trans s3;have M:=s3 _ _ l;have hsl:(JV a d k).length<=90:=by
   unfold JV
   have:=C4 (fun i=>decide (d.getD i 0≠0)) (List.range k)
   rw[kc] at this;rw[fz,di,di,kc]
   omega
  walk_at"s";refine bR (fun c=>?_) (fun c=>?_)
  ·have c':d.getD k 0≠0:=by simpa using c
   walk_at"i";have hw8:2 ^ a.length<=2 ^ 8:=ri (by decide) h8
   have hwl:=P.R1 k hk;refine⟨_,rfl,by omega,fun pl H4 t4 hpl0 g=>?_⟩
   rw[JW hwl] at g;have e:=sX P hk (List.Perm.refl _) ((Au P hk).mpr c');generalize p:js a.length (d.getD k 0)=bt at g e ⊢;have hbl8:bt.length<=a.length:=by
    rw[<-p];unfold js
    have:=C4 (fun j=>decide (d.getD k 0 / 2 ^ j % 2=1)) (List.range a.length)
    rw[kc] at this;exact this
   have hbm:∀ j∈bt,j<a.length:=fun j hj=>by
    rw[<-p] at hj;exact(kj.mp hj).1
   have s4:=U.trans t4;refine⟨pl,rfl,⟨_,aB.of g⟩,uB (cV (aB.of g)) (fun _=>true) (fun i=>.str (a.getD (bt.getD i 0) ba)) (by rw[di,ao];exact aC (by omega)) ?_ ?_⟩
   ·intro i H5 A B' hi hS hA _;rw[di,ao] at hi;rw[dQ hi];walk_at"s";refine aQ (hS.aJ (s4.aJ h1)) (ax (aX (hbm _ (dR hi)))) ?_;exact hA rfl _ (ah.refl _)
   intro nl H5 hnl0 s5 I;rw[bK,di,ao,dg (fun j=>V.str (a.getD j ba))] at I;have Y:=s4.trans s5;have T:=s5 _ _ (t4 _ _ M);walk_at"s";refine⟨.inl ⟨rfl,_,aB.of T⟩,rfl,?_⟩;refine aQ (Y.aJ h1) (ax (aX hk)) ?_;refine⟨by decide,fun p7 hp7=>?_⟩
   have v:=ah.new hp7 (.lst [V.str (Str.ofString "sees"),V.str (a.getD k ba)]);refine⟨p7,nl,_,_,rfl,rfl,aB.of ag,aB.of (v _ _ I),by rw[di];exact bZ (by show 2+_<=100;omega),fun p8 hp8=>?_⟩
   have sp8:=ah.new hp8 (.lst ([V.str (Str.ofString "sees"),V.str (a.getD k ba)]++bt.map fun j=>V.str (a.getD j ba)));have e8:([V.str (Str.ofString "sees"),V.str (a.getD k ba)]++bt.map fun j=>V.str (a.getD j ba))=(nR (gE a b (.sees k bt))).map V.str:=by
    show _=[V.str (Str.ofString "sees"),V.str (a.getD k ba)]++(bt.map fun j=>a.getD j ba).map V.str;rw[kJ];rfl
   have Q:=ip e;have hlt:=iY e;have m:=fK 30 (nR (gE a b (.sees k bt))) fun y hy=>(Q.1 y hy).2.2;have h41:(nR (gE a b (.sees k bt))).length*31<=41*31:=FS _ Q.2.1;have h2000:(2000:Nat)<=sizeLine:=by decide
   refine⟨_,p8,nR (gE a b (.sees k bt)),rfl,rfl,aB.of (by rw[ag,e8]),?_,?_,?_⟩
   ·rw[bu];show ((nR (gE a b (.sees k bt))).map fun z=>z.length+1).sum<=_
    omega
   ·rw[bu]
    have:(k9 (gE a b (.sees k bt))).length=(Str.join ⟨#[32]⟩ (nR (gE a b (.sees k bt)))).length:=rfl
    omega
   rw[bu];have sA:=v.trans sp8;refine⟨r,_,_,rfl,rfl,sA _ _ T,by rw[di,di];exact bZ (by omega),?_⟩
   refine⟨_,_,_,rfl,(Y.trans sA).set hrn _,?_⟩;rw[ag,vM,if_pos c',p,hO,hO];rfl
  ·have c':¬ d.getD k 0≠0:=by simpa using c
   refine⟨_,_,_,rfl,U,?_⟩;rw[vM,if_neg c'];exact M
 rintro σ2 H2 ⟨y3,y4,y5,rfl,s2,l⟩;rw[ao,P.lw] at l;walk_at"s";have hM:=fG P;have hML:(bV a d).length<=16:=ka lj (by omega)
 have en:(Str.ofString "\n")=⟨#[10]⟩:=by decide +kernel
 have Z:=hM.qS P;have emm:(bV a d).map (eP a b)=((bV a d).map (gE a b)).map k9:=by rw[kJ];rfl
 have R:((bV a d).map (gE a b)).length<=100:=by rw[di];omega
 have hbl:=iZ Z R;have m:=fK 1271 ((bV a d).map (eP a b)) fun y hy=>by
  obtain⟨x,hx,rfl⟩:=j9.mp hy;exact iY (hM.sZ P x hx)
 rw[di] at m;have h16:(bV a d).length*1272<=16*1272:=FS _ hML;have hbig:(1000000:Nat)<=sizeLine:=by decide
 have E:Str.join ⟨#[10]⟩ ((bV a d).map (eP a b))=ck ((bV a d).map (gE a b)):=by rw[emm];rfl
 refine⟨rfl,_,r,(bV a d).map (eP a b),rfl,rfl,aB.of l,?_,?_,?_⟩
 ·rw[en];show (((bV a d).map (eP a b)).map fun z=>z.length+1).sum<=_
  omega
 ·rw[en,E];omega
 rw[en,E];exact q H2 s2
theorem RO (D:Def K mg "greatest_divisor" dm):Fn P w K mg base 1 "greatest_divisor" ["a","b"] Ly:=by
 have zY:DS (ai dm) ["a","b","rest"] ["a","b"] []:=aN;walk_at"hH";obtain⟨m,n,rfl,q⟩:=h;refine⟨_,(ae (xN hxe (aV uK (kv S 1) aw (au _)) (ae (bg S 2 (aR cL (kv S 0) (kv S 1)))
   (ae (bg S 0 (kv S 1))
   (aj (bg S 1 (kv S 2))))))
   (aj (aK (kv S 0)))),?_⟩
 walk_at"d";refine IS (Qk H (Nat.gcd m n) [none]) Te ⟨rfl,m,n,_,rfl,rfl,rfl⟩ ?_;rintro σ f ⟨e,d,a,y,rfl,hy,b⟩;obtain⟨z,rfl⟩:=SE hy;rw[e];walk_at"d";refine bR (fun c=>?_) (fun c=>?_)
 ·have hn:a≠0:=by simpa using c
  refine IT (Pv:=Qk H (Nat.gcd m n) [none]) (μ:=Te) ?_;walk_at"d";rw[SF];refine⟨by omega,⟨rfl,a,d % a,_,rfl,rfl,by rw[Eo];exact b⟩,?_⟩
  show ((d % a:Nat):Int).toNat<((a:Nat):Int).toNat
  have:=mod_lt d (show a > 0 by omega)
  omega
 ·have hn:a=0:=by simpa using c
  subst hn;rw[Nat.gcd_zero_right] at b;subst b;exact q
theorem Hf (D:Def K mg "share" tW)(jE:Fn P w K mg base 1 "greatest_divisor" ["a","b"] Ly):Fn P w K mg base 2 "share" ["counts"] (sy K):=by
 have zY:DS (ai tW) ["counts","over","under","count","divisor"] ["counts"] ["greatest_divisor"]:=aN;walk_at"hH";obtain⟨p,b,rfl,d,a,q⟩:=h;refine⟨_,(ae (bg S 1 aw)
   (ae (bg S 2 aw)
   (ae (eZ hxe hc (dI (kv S 0) rfl) (kg S 3) (ae (bg S 1 (aR aU (aR dC (kv S 1) (kv S 3)) (kv S 2)))
   (aj (bg S 2 (aR dC (kv S 2) (kv S 3))))))
   (ae (bg S 4 (cA S 0 jE hr (ak (kv S 1) (af (kv S 2)))))
   (aj (aK (qy (ak (aR dD (kv S 1) (kv S 4)) (af (aR dD (kv S 2) (kv S 4))))))))))),?_⟩
 walk_at"d";refine Jd (SG H p b) d ⟨rfl,none,rfl⟩ (fun i σ f h=>by rw[h.1];exact d) ?_ ?_
 ·rintro i σ f hi ⟨c,y,rfl⟩;rw[c];walk_at"d";have hb:=(a.get hi).bt;refine⟨(a.take i).Qm.ok hb (by omega),(a.take i).BB.ok hb (by omega),rfl,some (.int (b.getD i 0)),?_⟩
  rw[take_snoc 0 hi,BA (a.get hi).lo,sh]
 ·rintro σ f ⟨c,y,rfl⟩;rw[c,SZ];walk_at"d";refine⟨(de (pr b) b).toNat,(pr b).toNat,by rw[toN a.Ql,toN (show 0<=pr b by have:=a.jd;omega)],?_⟩
  walk_at"d";have j:=xQ a;have e:(0:Int)<(gC b:Int)/\((gC b:Int)).natAbs.log2<9000:=⟨by omega,(Qp a).log (by omega) (by decide)⟩
  exact⟨e,e,by decide,fun t g=>q t _ (ah.new g _) ag⟩
theorem KH (D:Def K mg "sure" yL)(ug:Fn P w K mg base 2 "share" ["counts"] (sy K)):Fn P w K mg base 3 "sure" ["counts"] (Ey K):=by
 have zY:DS (ai yL) ["counts","told"] ["counts"] ["share"]:=aN;walk_at"hH";obtain⟨p,d,rfl,c,a,q⟩:=h;refine⟨_,(ae (bg S 1 (cA S 0 ug hr (af (kv S 0))))
   (aj (aK (aR dD (iD (kv S 1)) (iD (kv S 1)))))),?_⟩
 walk_at"d";refine⟨p,d,rfl,c,a,fun t f e b=>?_⟩;walk_at"d";refine aQ (aH.of b) (i:=0) rfl ?_;refine aQ (aH.of b) (i:=1) rfl ?_;walk_at"d";refine⟨⟨by have:=nz a;omega,(Ex a).log (by have:=nz a;omega) (by decide)⟩,?_⟩
 rw[NQ a];exact q f e
theorem Cw (B:Bn mg)(D:Def K mg "picked" oH):Fn P w K mg base 1 "picked" ["values","people"] (nJ K):=by
 have zY:DS (ai oH) ["values","people"] ["values","people"] ["tuple"]:=aN;walk_at"hH";obtain⟨c,p,g,l,rfl,b,n,j,E,q⟩:=h;refine⟨_,(aj (aK (nu S 0 (eU rfl) B.tuple boot_tuple (af (i7 S hc hsc (dI (kv S 1) rfl) (N:=["i","values"]) (W:=["i"]) (G:=[]) (fv:=[none,some 0]) (by decide +kernel) (fun F C I s H f=>⟨(kg f 0),bp,(mK (cW rfl) (kv f 1) (kv f 0) (fun _ _=>rfl))⟩)))))),?_⟩
 walk_at"d";refine R9 (fun _=>true) (fun k=>g.getD (l.getD k 0) 0) n (by rw[ao];exact aC (by omega)) ?_ ?_
 ·intro k H1 A z hk r o _;rw[ao] at hk;rw[aT];walk_at"d";exact dF (r.aJ b) rfl (j _ (dM hk)) (o rfl _ (ah.refl _))
 ·intro m H1 y d a;rw[bK,ao] at a;have e:((List.range l.length).map fun k=>g.getD (l.getD k 0) 0)=pk g l:=by
   unfold pk
   apply ext_getElem
   ·simp
   ·intro i h1 u
    simp at h1 u
    simp[h1]
  rw[e] at a;exact⟨m,_,rfl,.inl ⟨aB.of a,fun t v=>q t _ (d.trans (ah.new v _)) ag⟩⟩
theorem Hg (D:Def K mg "group_sure" gO)(kB:Fn P w K mg base 1 "picked" ["values","people"] (nJ K))(OY:Fn P w K mg base 3 "sure" ["counts"] (Ey K)):Fn P w K mg base 4 "group_sure" ["counts","kind","people"] (Af K):=by
 have zY:DS (ai gO) ["counts","kind","people"] ["counts","kind","people"] ["sure","picked"]:=aN;walk_at"hH";obtain⟨c,p,o,g,rfl,a,i,f,d,q⟩:=h;refine⟨_,(ae (cG (aV aP (kv S 1) bj (au _)) (aj (aK aw)) aA)
   (aj (aK (cA S 0 OY hr (af (cA S 1 kB hr (ak (kv S 0) (af (kv S 2))))))))),?_⟩
 walk_at"d";obtain⟨b,l⟩:=g;have e:decide (kd b="ring")=b:=sL b;simp only[qw,uW,e];unfold vn at q
 cases b with
 | true=>
  walk_at"d";exact q _ (ah.refl _)
 | false=>
  walk_at"d";refine⟨c,p,o,l,rfl,a,i,d.lt,d.len,fun t H1 m n=>?_⟩;exact⟨t,_,rfl,aH.of n,LG f d,fun r j=>q _ (m.trans j)⟩
theorem KI (B:Bn mg)(D:Def K mg "made_sure" iF)(uh:Fn P w K mg base 4 "group_sure" ["counts","kind","people"] (Af K)):Fn P w K mg base 5 "made_sure" ["counts","groups"] (xZ K):=by
 have zY:DS (ai iF) ["counts","groups"] ["counts","groups"] ["sum"]:=aN;walk_at"hH";obtain⟨c,g,m,O,L,rfl,d,t,E,e,z,j,q⟩:=h;refine⟨_,(aj (aK (c7 S 0 (cX hc rfl) B.sum boot_sum (af (i7 S hc hsc (dI (kv S 1) rfl) (N:=["kind","people","counts"]) (W:=["kind","people"]) (G:=["group_sure"]) (fv:=[none,none,some 0]) (by decide +kernel) (fun J C M s H a=>⟨(jX rfl (K:=X.K) (n:=2) rfl (aS (kg a 0) (aS (kg a 1) c6))),bp,(cA a 0 uh hr (ak (kv a 2) (ak (kv a 0) (af (kv a 1)))))⟩)))))),?_⟩
 walk_at"d";refine TL (vn m) t E (aC (by omega)) ?_ ?_
 ·intro i l p H1 A hi y o v;walk_at"d";exact⟨c,p,m,l,rfl,y.aJ d,o,e,z l (gc hi),fun u r=>v u r⟩
 ·intro I H1 F f b;exact kT (aB.of b) (q H1 f)
theorem oJ (B:Bn mg)(D:Def K mg "first_ready" fN):Fn P w K mg base 1 "first_ready" ["web","laid"] (NX K):=by
 have zY:DS (ai fN) ["web","laid","i","mask"] ["web","laid"] ["enumerate"]:=aN;walk_at"hH";obtain⟨w,ws,laid,rfl,m,o,q⟩:=h;refine⟨_,(ae (eZ hxe hc (Ce false S 0 B.enumerate rfl (af (kv S 0))) (jX hc (K:=X.K) (n:=2) rfl (aS (kg S 2) (aS (kg S 3) c6))) (aj (cG (HC (IW (aV aP (aR dJ (aR xk (kv S 1) (kv S 2)) aw) aw (au _)) (zW (aV aP (aR zx (kv S 3) (kv S 1)) (kv S 1) (au _))))) (aj (aK (kv S 2))) aA)))
   (aj (aK pz))),?_⟩
 walk_at"d";refine Mh (LB H w ws laid) m ⟨ah.refl _,(fun j hj=>absurd hj (Uk j)),none,none,rfl⟩ (fun k σ s h=>h.1.aJ m) ?_ ?_
 ·rintro k σ H1 l hk ⟨d,a,r,p,rfl⟩ c;rw[ao] at hk;rw[aT];walk_at"d";refine⟨by omega,?_⟩
  have e:=kW (ws:=ws) (laid:=laid) (i:=k);have next:ready ws laid k=false->LB H w ws laid (k+1) [some (.ref w),some (.int laid),some (.int k),some (.int (ws.getD k 0:Nat))] l:=fun hz=>by
   refine⟨d.trans c,fun j hj=>?_,_,_,rfl⟩
   by_cases g:j=k
   ·rw[g];exact hz
   ·exact a j (by omega)
  by_cases b:laid.testBit k=true
  ·rw[b];walk_at"d";exact next (by unfold ready;rw[b];rfl)
  ·have b:laid.testBit k=false:=by simpa using b
   rw[b];walk_at"d"
   by_cases f:ws.getD k 0||| laid=laid
   ·rw[if_pos f];refine(q l (d.trans c)).2 k (find_some a ?_ hk);unfold ready;rw[b,ek f];rfl
   ·rw[if_neg f];refine next ?_;unfold ready;rw[b,eG f];rfl
 ·rintro σ H1 ⟨d,a,r,p,rfl⟩;walk_at"d";rw[ao] at a;exact(q H1 d).1 (find_none a)
theorem wx (D:Def K mg "laid_out" ju)(jj:Fn P w K mg base 1 "first_ready" ["web","laid"] (NX K)):Fn P w K mg base 2 "laid_out" ["web"] (NY K):=by
 have zY:DS (ai ju) ["web","order","laid","i"] ["web"] ["first_ready"]:=aN;walk_at"hH";obtain⟨w,b,rfl,A,t,q⟩:=h;refine⟨_,(ae (bg S 1 (eY bL))
   (ae (bg S 2 aw)
   (ae (bg S 3 (cA S 0 jj hr (ak (kv S 0) (af (kv S 2)))))
   (ae (xN hxe (aV ve (kv S 3) pz (au _)) (ae (c8 (jW rr mo oo bw rfl (kv S 1) (af (kv S 3))))
   (ae (bg S 2 (aR zx (kv S 2) (aR c5 aw (kv S 3))))
   (aj (bg S 3 (cA S 0 jj hr (ak (kv S 0) (af (kv S 2)))))))))
   (aj (aK (kv S 1))))))),?_⟩
 walk_at"d";refine⟨by decide,fun l r=>?_⟩
 have u:=ah.new r (.lst []);have v:∀ (laid:Nat) (H1:Hp) (R:V->Hp->Prop),ah H H1->(∀ d,ah H1 d->R (LC b laid) d)->NX X.K [.ref w,.int laid] H1 R E0:=fun laid H1 R B y=>by
  refine⟨w,b,laid,rfl,B.aJ A,t,fun d a=>⟨fun e=>?_,fun i e=>?_⟩⟩
  ·have:=y d a
   unfold LC at this;rw[e] at this;exact this
  ·have:=y d a
   unfold LC at this;rw[e] at this;exact this
 refine v 0 _ _ u fun H1 j=>?_;walk_at"d";refine Ab (Qx H w l b) (b.length+1) ⟨[],0,rfl,u.trans j,j _ _ ag,Laid.nil b,rfl,by simp⟩ ?_
 rintro f σ d ⟨order,laid,rfl,a,g,p,c,o⟩;have z:=cB p.nd p.lt
 cases e:bM b laid with
 | none=>
  have s:LC b laid=.br:=by unfold LC;rw[e]
  rw[s];walk_at"d";refine q l d a r ?_;rw[<-c,vc e];exact g
 | some i=>
  have s:LC b laid=.int i:=by unfold LC;rw[e]
  obtain⟨hi,_⟩:=gX e;rw[s];walk_at"d";refine Ac ?_;walk_at"d";refine⟨.inl ⟨rfl,_,aB.of g⟩,?_⟩;refine⟨l,_,.int i,rfl,rfl,g,by rw[di,ao];exact aC (by omega),?_⟩
  walk_at"d";refine⟨eI (by omega),?_⟩
  have n:=a.set r (.lst ((aD order).map V.int++[.int i]));refine v _ _ _ n fun C m=>?_;walk_at"d"
  match f,c,o with
  | 0,_,o=>exact absurd o (by omega)
  | f+1,c,o=>
   refine⟨f,UD f,order++[i],_,rfl,n.trans m,?_,p.put e,?_,?_⟩
   ·rw[m _ _ ag,dN,hO];rfl
   ·rw[<-c,u9 e]
   ·rw[fz];show b.length<f+(order.length+1);omega
theorem pK (B:Bn mg)(D:Def K mg "first_seen" gM)(yZ:Fn P w K mg base 1 "sees" ["web","i","j"] (xV K)):Fn P w K mg base 2 "first_seen" ["web","i","people"] (Mo K):=by
 have zY:DS (ai gM) ["web","i","people"] ["web","i","people"] []:=aN;walk_at"hH";obtain⟨w,l,d,left,i,rfl,p,r,hi,v,⟨t,f,g⟩,q⟩:=h;refine⟨_,(aj (aK (mK (eh rfl) (i7 S hc hsc (cQ (kv S 2) rfl) (N:=["j","web","i"]) (W:=["j"]) (G:=["sees"]) (fv:=[none,some 0,some 1]) (by decide +kernel) (fun y C z s H b=>⟨(kg b 0),(gp (pC (cA b 0 yZ hr (ak (kv b 1) (ak (kv b 2) (af (kv b 0))))))),(kv b 0)⟩)) aw (fun _ _=>rfl)))),?_⟩
 walk_at"d";refine SD (fun k=>e9 d i (left.getD k 0)) (fun k=>((left.getD k 0:Nat):Int)) r (by rw[ao];exact aC (by omega)) ?_ ?_
 ·intro k H1 A u hk e m o;rw[ao] at hk;rw[aT];walk_at"d";refine⟨w,d,i,left.getD k 0,rfl,e.aJ p,hi,?_⟩;walk_at"d"
  by_cases c:e9 d i (left.getD k 0)=true
  ·rw[c];walk_at"d";exact m c _ (ah.refl _)
  ·have c:e9 d i (left.getD k 0)=false:=by simpa using c
   rw[c];walk_at"d";exact o c _ (ah.refl _)
 ·intro n H1 hn e a;rw[vT left (fun j=>e9 d i j)] at a;refine cY (k:=0) (aB.of a) rfl (by rw[ao];exact length_pos_of_mem (u5.mpr ⟨f,g⟩)) ?_
  rw[aT];exact q H1 e
theorem oK (B:Bn mg)(D:Def K mg "sight_ring" gN)(jF:Fn P w K mg base 2 "laid_out" ["web"] (NY K))(ui:Fn P w K mg base 2 "first_seen" ["web","i","people"] (Mo K)):Fn P w K mg base 3 "sight_ring" ["web"] (yG K):=by
 have zY:DS (ai gN) ["web","order","left","path","i"] ["web"] ["laid_out","range","len","first_seen","tuple"]:=aN;walk_at"hH";obtain⟨w,d,rfl,hw,hl8,bb,q⟩:=h;have hL8:=EJ d;refine⟨_,(ae (bg S 1 (cA S 0 jF hr (af (kv S 0))))
   (ae (IZ (i:=2) S hc hsc (jY S 1 B.range (af (c7 S 2 (aG rfl) B.len ro (af (kv S 0))))) (N:=["i","order"]) (W:=["i"]) (G:=[]) (fv:=[none,some 1]) (by decide +kernel) (fun cl C fp s H S2=>⟨(kg S2 0),(gp (aV (iW rfl) (kv S2 0) (kv S2 1) (by with_unfolding_all rfl))),(kv S2 0)⟩) (by rw[hsc];decide +kernel) (by rw[eM,hsc];rfl))
   (ae (cG (aV (xJ hu rfl) (kv S 2) (eY bL) (au _)) (aj (aK pz)) aA)
   (ae (bg S 3 (eY bL))
   (ae (bg S 4 (c9 (kv S 2)))
   (ae (xN hxe (aV (iW rfl) (kv S 4) (kv S 3) (by with_unfolding_all rfl)) (ae (c8 (jW rr mo oo bw rfl (kv S 3) (af (kv S 4))))
   (aj (bg S 4 (cA S 3 ui hr (ak (kv S 0) (ak (kv S 4) (af (kv S 2)))))))))
   (aj (aK (nu S 4 (nL rfl) B.tuple boot_tuple (af (pB (cP rfl) (kv S 3) (bE (jW rr slot_list_index PySem.F.type_list_index (BD rfl) rfl (kv S 3) (af (kv S 4)))) bD))))))))))),?_⟩
 walk_at"d";refine⟨w,d,rfl,hw,hl8,fun l H1 ab _ hl=>?_⟩;walk_at"d";refine bq (.inr (ab.aJ hw)) ?_;rw[di,ao];refine Qj d.length (fun i=>!decide (i∈laidOut d)) (fun i=>(i:Int)) rfl (by omega) ?_ ?_
 ·intro k H2 A B' hk hS hA hB;walk_at"d";refine Aa (.inl (aB.of (hS _ _ hl))) ?_;walk_at"d"
  by_cases c:k∈laidOut d
  ·rw[ek c];walk_at"d";exact hB (by rw[ek c];rfl) _ (ah.refl _)
  ·rw[eG c];walk_at"d";exact hA (by rw[eG c];rfl) _ (ah.refl _)
 intro R H2 hn2 hS2 n;have n:H2 R=some (.lst ((aD (bX d)).map V.int)):=n;have p:=ab.trans hS2;walk_at"d";refine⟨by decide,fun e he=>?_⟩
 have Y:=ah.new he (.lst []);refine⟨_,_,.lst (aB.of (Y _ _ n)) (ee.ints _),.lst (aB.of ag) .nil,jU _,by decide,?_⟩
 rw[show ([]:List PyData)=([]:List Int).map PyData.int from rfl,EA]
 walk_at"d";refine bR (fun c=>?_) (fun c=>?_)
 ·have:bX d=[]:=Jm.mp c
  exact(q _ (p.trans Y)).1 (vi.mp this)
 ·have aF:bX d≠[]:=fun z=>c (by rw[z];rfl)
  have hlt:(laidOut d).length<d.length:=A7 fun z=>aF (vi.mpr z);refine⟨by decide,fun M y=>?_⟩
  have sp:=Y.trans (ah.new y (.lst []));have r:0<(bX d).length:=O0.mpr aF;refine cY (k:=0) (aB.of (sp _ _ n)) rfl (by rw[ao];exact r) ?_
  rw[aT];have h0:(bX d).getD 0 0∈bX d:=by
   rw[cc,cv r];exact oD r
  walk_at"d";have Q:H M=none:=(p.trans Y).free y;have v:∀ j∈bX d,j<d.length:=fun j hj=>(f7.mp hj).1;refine Ab (OE X.K H w l R M d) _ ⟨[],_,rfl,p.trans sp,aB.of (sp _ _ n),ag,Path.nil h0,rfl,rfl⟩ ?_;rintro m σ H3 ⟨a,i,rfl,aa,U,f,O,rfl,hg⟩;have hplen:=cB O.nd fun j hj=>v j (O.sub j hj);walk_at"d";refine Aa (.inl (aB.of f)) ?_;walk_at"d"
  by_cases I:i∈a
  ·rw[ek I];walk_at"d";refine⟨.inl ⟨rfl,_,aB.of f⟩,M,aD a,i,rfl,rfl,aB.of f,mL.mpr I,?_⟩;walk_at"d";refine Je (a.idxOf i) (aB.of f) (by rw[zZ]) fun b hb=>?_
   rw[vg];have sb:=ah.new hb (.lst ((aD (a.drop (a.idxOf i))).map V.int));refine⟨b,_,rfl,aB.of ag,fun t o ht hoc hod=>?_⟩;have er:a.drop (a.idxOf i)=iB d:=by rw[<-hg,Ko (by omega) I]
   have hR:=O.ring bb v I;rw[er] at hR sb ht ⊢;exact(q _ ((aa.trans sb).trans (ah.new ht _))).2 hlt t o ag hoc hod hR
  ·rw[eG I];walk_at"d";refine Ac ?_;have hi:=v i O.here;obtain⟨j,aI,a0,ay⟩:=BC bb hi (f7.mp O.here).2;walk_at"d";refine⟨.inl ⟨rfl,_,aB.of f⟩,?_⟩;refine⟨M,_,.int i,rfl,rfl,f,by rw[di,ao];exact aC (by omega),?_⟩
   have T:=aa.set Q (.lst ((aD a).map V.int++[.int i]));have u:aB X.K (upd H3 M (.lst ((aD a).map V.int++[.int i]))) R ((aD (bX d)).map V.int):=by
    have aZ:R≠M:=az (Y _ _ n) y
    rcases U with (z | ⟨o,z⟩) | z
    ·exact .inl (.inl (by rw[aq aZ];exact z))
    ·exact .inl (.inr ⟨o,by rw[aq aZ];exact z⟩)
    ·exact .inr z
   refine⟨w,R,d,bX d,i,rfl,T.aJ hw,u,hi,by omega,⟨j,f7.mpr ⟨aI,ay⟩,a0⟩,fun H5 E=>?_⟩
   obtain⟨hk,Z⟩:=GR ⟨j,f7.mpr ⟨aI,ay⟩,a0⟩;rw[show d.length+1 - a.length=(d.length - a.length)+1 by omega,GS I] at hg
   generalize mj d (bX d) i=k at hk Z hg ⊢;walk_at"d";have J:=O.put I hk Z;have g:=cB J.nd fun j hj=>v j (J.sub j hj);rw[fz] at g;refine⟨d.length - (a++[i]).length,?_,a++[i],k,rfl,T.trans E,E.seq u,?_,J,rfl,by rw[<-hg,fz];congr 1;show d.length+1 - (a.length+1)=_;omega⟩
   ·rw[fz];simp at g ⊢;omega
   ·rw[E _ _ ag,dN,hO];rfl
theorem oM (B:Bn mg)(D:Def K mg "sight_order" fP)(jF:Fn P w K mg base 2 "laid_out" ["web"] (NY K)):Fn P w K mg base 3 "sight_order" ["web"] (Qy K):=by
 have zY:DS (ai fP) ["web","order"] ["web"] ["laid_out","len","tuple"]:=aN;walk_at"hH";obtain⟨w,g,rfl,d,b,q⟩:=h;refine⟨_,(ae (bg S 1 (cA S 0 jF hr (af (kv S 0))))
   (ae (cG (aV g9 (c7 S 1 (aG rfl) B.len ro (af (kv S 1))) (c7 S 1 (aG rfl) B.len ro (af (kv S 0))) (au _)) (aj (aK pz)) aA)
   (aj (aK (nu S 2 (eU rfl) B.tuple boot_tuple (af (kv S 1))))))),?_⟩
 walk_at"d";refine⟨w,g,rfl,d,b,fun l H1 a _ e=>?_⟩;walk_at"d";refine bq (.inl (aB.of e)) ?_;refine bq (.inr (a.aJ d)) ?_;rw[di,di,ao,ao];walk_at"d";refine bR (fun c=>?_) (fun c=>?_)
 ·exact(q H1 a).1 (by omega)
 ·exact⟨l,_,rfl,.inl ⟨aB.of e,fun p f=>(q _ (a.trans (ah.new f _))).2 (by omega) p ag⟩⟩
theorem Cy (B:Bn mg)(D:Def K mg "sights_from" fS):Fn P w K mg base 1 "sights_from" ["web","people"] (Rr K):=by
 have zY:DS (ai fS) ["web","people"] ["web","people"] ["tuple","enumerate"]:=aN;walk_at"hH";obtain⟨w,p,d,l,rfl,y,m,F,u,q⟩:=h;refine⟨_,(aj (aK (nu S 0 (eU rfl) B.tuple boot_tuple (af (i7 S hc hsc (Ce false S 1 B.enumerate rfl (af (kv S 0))) (N:=["i","mask","people"]) (W:=["i","mask"]) (G:=[]) (fv:=[none,none,some 1]) (by decide +kernel) (fun I C J s H g=>⟨(jX rfl (K:=X.K) (n:=2) rfl (aS (kg g 0) (aS (kg g 1) c6))),bp,(Sz (aV (Ed rfl) (kv g 0) (kv g 2) (by with_unfolding_all rfl)) (kv g 1) aw)⟩)))))),?_⟩
 walk_at"d";refine RG (fun _=>true) (fun i=>(((iu d l).getD i 0:Nat):Int)) y (by rw[ao];exact aC (by omega)) ?_ ?_
 ·intro i H1 A E hi o f _;rw[ao] at hi;rw[aT];have e:=oa (l:=l) hi;walk_at"d";refine Aa (a:=l) (.inl (o.seq m)) ?_
  by_cases c:i∈l
  ·rw[if_pos c] at e;rw[ek c];walk_at"d";rw[<-e];exact f rfl _ (ah.refl _)
  ·rw[if_neg c] at e;rw[eG c];walk_at"d"
   have:=f rfl _ (ah.refl _)
   rw[e] at this;exact this
 ·intro j H1 z r b;rw[bK,ao] at b;have e:((List.range d.length).map fun i=>(((iu d l).getD i 0:Nat):Int))=aD (iu d l):=by
   unfold aD;rw[<-gf d l]
   conv=>rhs;rw[<-lZ (iu d l),kJ]
   rfl
  rw[e] at b;exact⟨j,_,rfl,.inl ⟨aB.of b,fun t v=>q t _ (r.trans (ah.new v _)) (aH.of ag)⟩⟩
theorem RP {n:Nat}(h:n<=8):2 ^ n<=256:=ka (ri (by decide) h) (by decide)
theorem Hh {cs:List Int}{ws r:List Nat}{m:Nat}(hn:ws.length=cs.length)(h:Ring (iu ws (tJ cs (aL m))) r):GG cs ws m (true,r):=by
 have a:∀ x∈r,x<ws.length:=fun x hx=>by have:=h.lt x hx;rwa [gf] at this
 have sees:∀ k,k<r.length->e9 (iu ws (tJ cs (aL m))) (r.getD k 0) (r.getD ((k+1) % r.length) 0)=true:=fun k hk=>by
  by_cases c:k+1=r.length
  ·rw[c,Nat.mod_self]
   have:=h.last
   rw[show r.length - 1=k by omega] at this
   exact this
  ·rw[mod_eq_of_lt (by omega)]
   exact h.next k (by omega)
 have two:∀ x∈r,x∈tJ cs (aL m):=fun x hx=>by
  obtain⟨k,hk,e⟩:=Da hx
  have:=sees k hk
  rw[cc,cv hk] at this;rw[show (some r[k]).getD 0=r[k] from rfl,e,tK (a x hx),h9,o6] at this
  exact this.1
 have b:=h.two;refine⟨⟨fun x hx=>by rw[<-hn];exact a x hx,h.nd,fun _=>⟨h.two,fun x hx=>?_,fun k hk=>?_⟩,(fun e=>nomatch e)⟩,fun z=>?_,(fun e=>nomatch e),fun x hx=>?_⟩
 ·have:=(u5.mp (two x hx)).2
  exact uu this
 ·have:=sees k hk
  rw[tK (a _ (nK hk)),h9] at this;exact this.2
 ·have z:r=[]:=z;rw[z] at b;simp at b
 ·exact fk.mp (u5.mp (two x hx)).1
theorem pL (B:Bn mg)(D:Def K mg "lone_group" gP)(iP:Fn P w K mg base 1 "places" ["mask"] j7)(iQ:Fn P w K mg base 1 "is_circle" ["web","people"] (NZ K))(gT:Fn P w K mg base 3 "sight_ring" ["web"] (yG K))(pP:Fn P w K mg base 1 "sights_from" ["web","people"] (Rr K)):Fn P w K mg base 4 "lone_group" ["counts","web","crowd"] (Mp K):=by
 have zY:DS (ai gP) ["counts","web","crowd","people","twos","ring"] ["counts","web","crowd"] ["tuple","places","is_circle","sight_ring","sights_from"]:=aN;walk_at"hH";obtain⟨c,w,d,v,m,rfl,hcq,I,R,hn,bb,hm0,hm,q⟩:=h;have h8:=R.len;have hmb:m<256:=ih hm (RP h8);have n:∀ x∈aL m,x<d.length:=fun x hx=>lr hm (fk.mp hx);have Z:(aL m).length<=8:=ka (cB (dj m) n) h8;refine⟨_,(ae (bg S 3 (nu S 0 (nL rfl) B.tuple boot_tuple (af (cA S 1 iP hr (af (kv S 2))))))
   (ae (cG (pC (cA S 2 iQ hr (ak (kv S 1) (af (kv S 3))))) (aj (aK (qy (af (qy (ak bj (af (kv S 3)))))))) aA)
   (ae (IZ (i:=4) S hc hsc (dI (kv S 3) rfl) (N:=["i","counts"]) (W:=["i"]) (G:=[]) (fv:=[none,some 0]) (by decide +kernel) (fun cl C fp s H X=>⟨(kg X 0),(gp (aV aP (mK (cW rfl) (kv X 1) (kv X 0) (fun _ _=>rfl)) aw (au _))),(kv X 0)⟩) (by rw[hsc];decide +kernel) (by rw[eM,hsc];rfl))
   (ae (bg S 5 (cA S 3 gT hr (af (cA S 4 pP hr (ak (kv S 1) (af (kv S 4)))))))
   (ae (cG (aV sG (kv S 5) pz (au _)) (aj (aK (qy bL))) aA)
   (aj (aK (qy (af (qy (ak bj (af (kv S 5))))))))))))),?_⟩
 walk_at"d";refine⟨m,rfl,by omega,fun l H1 s1 _ hl=>?_⟩
 refine⟨l,_,rfl,aB.of hl,fun p o hp hoc aa=>?_⟩;have s2:=s1.trans (ah.new hp (.fe o (.tup ((aD (aL m)).map V.int))));have b:upd H1 p (.fe o (.tup ((aD (aL m)).map V.int))) p=some (.fe o (.tup ((aD (aL m)).map V.int))):=ag;generalize upd H1 p (.fe o (.tup ((aD (aL m)).map V.int)))=H2 at s2 b ⊢;walk_at"d";refine⟨w,p,v,aL m,rfl,s2.aJ I,aH.fe b,by omega,dj m,fun i hi=>by rw[hn];exact n i hi,fun H3 s3=>?_⟩
 have E:=s3 _ _ b;have u:=s2.trans s3;have y:jh d v m=if cN v (aL m)=true then [(false,aL m)] else AS d v m:=by unfold jh;rw[if_neg (by omega)]
 have hne:aL m≠[]:=fun z=>by
  have:=B7 m
  rw[z] at this
  have:0=m:=this
  omega
 cases cb:cN v (aL m) with
 | true=>
  walk_at"d";refine⟨by decide,fun z1 h1=>⟨by decide,fun z2 h2=>?_⟩⟩
  have M:=ah.new h1 (.tup [.str "circle",.ref p]);have Q:=ah.new h2 (.tup [.ref z1]);have a:=M.trans Q;rw[y,if_pos cb] at q;refine q z2 [.ref z1] _ (u.trans a) (aH.of ag) ⟨⟨z1,p,rfl,Q.aJ (aH.of ag),aH.fe (a _ _ E),.inr ⟨_,_,a _ _ E,hoc,aa⟩⟩,trivial⟩ ?_;have e:(([(false,aL m)]:List (Bool × List Nat)).map (pF d)).sum=tH d (aL m):=by
   show pF d (false,aL m)+0=_;rw[yz,Int.add_zero]
  unfold v9;rw[e];refine⟨⟨fun g hg=>?_,List.pairwise_singleton _ _,e,pI R.pos n⟩,trivial⟩;rw[ea.mp hg];exact⟨⟨n,dj m,(fun e=>nomatch e),fun _=>yy cb⟩,hne,fun _=>mf m,fun x hx=>fk.mp hx⟩
 | false=>
  walk_at"d";refine R9 (fun j=>decide (d.getD ((aL m).getD j 0) 0=2)) (fun j=>(((aL m).getD j 0:Nat):Int)) (aH.fe E) (by rw[ao];exact aC (by omega)) ?_ ?_
  ·intro j H4 A B' hj hS hA hB;rw[ao] at hj;rw[aT];walk_at"d";refine dF ((u.trans hS).aJ hcq) rfl (n _ (dM hj)) ?_;walk_at"d"
   by_cases U:d.getD ((aL m).getD j 0) 0=2
   ·rw[if_pos U];exact hA (ek U) _ (ah.refl _)
   ·rw[if_neg U];exact hB (eG U) _ (ah.refl _)
  intro F H4 _ Y f;rw[vT (aL m) (fun x=>decide (d.getD x 0=2))] at f;have f:H4 F=some (.lst ((aD (tJ d (aL m))).map V.int)):=f;walk_at"d";refine⟨w,F,v,tJ d (aL m),rfl,(u.trans Y).aJ I,aB.of f,by omega,ka (C4 _ _) Z,fun t H5 s5 ht=>?_⟩
  refine⟨t,_,rfl,ht,by rw[gf];omega,J8 bb,fun H6 s6=>⟨fun nf=>?_,fun O p2 o2 b T J hR=>?_⟩⟩
  ·walk_at"d";refine⟨by decide,fun z h1=>?_⟩
   have M:=ah.new h1 (.tup []);rw[y,if_neg (by rw[cb];exact hI),AS,if_neg nf] at q
   refine q z [] _ (u.trans (Y.trans (s5.trans (s6.trans M)))) (aH.of ag) trivial ⟨tL d v m,trivial⟩
  ·walk_at"d";refine⟨by decide,fun z1 h1=>⟨by decide,fun z2 h2=>?_⟩⟩
   have M:=ah.new h1 (.tup [.str "ring",.ref p2]);have Q:=ah.new h2 (.tup [.ref z1]);have a:=M.trans Q;rw[y,if_neg (by rw[cb];exact hI),AS,if_pos O] at q
   generalize iB (iu v (tJ d (aL m)))=r at b hR q;refine q z2 [.ref z1] _ (u.trans (Y.trans (s5.trans (s6.trans a)))) (aH.of ag) ⟨⟨z1,p2,rfl,Q.aJ (aH.of ag),aH.fe (a _ _ b),.inr ⟨_,_,a _ _ b,T,J⟩⟩,trivial⟩ ?_;have e:(([(true,r)]:List (Bool × List Nat)).map (pF d)).sum=1:=rfl;unfold v9;rw[e];refine⟨⟨fun g hg=>?_,List.pairwise_singleton _ _,e,(by show (0:Int)<=1;omega)⟩,trivial⟩
   rw[ea.mp hg];exact Hh hn hR
def OM (K:Frag)(H0:Hp)(c w l:Addr)(cs:List Int)(ws:List Nat)(i:Nat)(σ:L2.St)(H:Hp):Prop:=∃ (us:List V) (y1 y2:Option V),σ=[some (.ref c),some (.ref w),some (.ref l),y1,y2]/\ah H0 H/\H l=some (.lst us)/\kF K H us ((cJ cs ws).take (1+i))/\∀ k,k<1+i->oh cs ws k ((cJ cs ws).getD k (0,[]))
theorem mz (B:Bn mg)(D:Def K mg "lone_choices" ft)(uj:Fn P w K mg base 4 "lone_group" ["counts","web","crowd"] (Mp K))(iR:Fn P w K mg base 5 "made_sure" ["counts","groups"] (xZ K)):Fn P w K mg base 6 "lone_choices" ["counts","web"] (GU K):=by
 have zY:DS (ai ft) ["counts","web","choices","crowd","groups"] ["counts","web"] ["range","lone_group","len","made_sure"]:=aN;walk_at"hH";obtain⟨c,w,a,r,rfl,C,y,o,hn,bb,q⟩:=h;have h8:=o.len;have hpow:=RP h8;have m:0<2 ^ a.length:=T1 _;refine⟨_,(ae (bg S 2 (eY (af (qy (ak aw (af (qy bL)))))))
   (ae (eZ hxe hc (Qd S 0 B.range (ak aw (af (aR c5 aw (c7 S 2 (aG rfl) B.len ro (af (kv S 1))))))) (kg S 3) (ae (bg S 4 (cA S 1 uj hr (ak (kv S 0) (ak (kv S 1) (af (kv S 3))))))
   (aj (c8 (jW rr mo oo bw rfl (kv S 2) (af (qy (ak (cA S 3 iR hr (ak (kv S 0) (af (kv S 4)))) (af (kv S 4))))))))))
   (aj (aK (kv S 2))))),?_⟩
 walk_at"d";refine⟨by decide,fun z0 h0=>⟨by decide,fun z1 h1=>⟨by decide,fun l hl=>?_⟩⟩⟩
 have t0:=ah.new h0 (.tup []);have T:=ah.new h1 (.tup [.int 0,.ref z0]);have t2:=ah.new hl (.lst [.ref z1]);have u:H l=none:=(t0.trans T).Gg hl;have Y:=t0.trans (T.trans t2);have v:upd (upd (upd H z0 (.tup [])) z1 (.tup [.int 0,.ref z0])) l (.lst [.ref z1]) l=some (.lst [.ref z1]):=ag;have t:kF X.K (upd (upd (upd H z0 (.tup [])) z1 (.tup [.int 0,.ref z0])) l (.lst [.ref z1])) [.ref z1] [(0,[])]:=⟨⟨z1,z0,[],rfl,t2.aJ (aH.of ag),(T.trans t2).aJ (aH.of ag),trivial⟩,trivial⟩;generalize upd (upd (upd H z0 (.tup [])) z1 (.tup [.int 0,.ref z0])) l (.lst [.ref z1])=H1 at Y v t ⊢;refine bq (.inr (Y.aJ y)) ?_;rw[di,ao,hn];walk_at"d";refine⟨eI (by omega),?_⟩
 refine LL (lo:=1) (n:=2 ^ a.length - 1) (OM X.K H c w l a r) rfl (by rw[show 1+(2 ^ a.length - 1)=2 ^ a.length by omega]) (by omega) ⟨_,_,_,rfl,Y,v,?_,fun k hk=>?_⟩ ?_ ?_
 ·show kF _ _ _ ((cJ a r).take (0+1));rw[ox m,Mt];exact t
 ·have:k=0:=by omega
  subst this;rw[rk m,Mt];exact B8 a r
 ·rintro k σ J hk ⟨us,y1,y2,rfl,s,i,f,O⟩;have A:1+k<2 ^ a.length:=by omega
  have G:((cJ a r).take (1+k)).length=1+k:=by rw[qN,lA];omega
  walk_at"d";refine⟨c,w,a,r,1+k,rfl,s.aJ C,s.aJ y,o,hn,bb,by omega,by omega,fun g E H2 I hg Z M=>?_⟩
  have b:=M;rw[<-rk A] at M;generalize eL:jh a r (1+k)=L at Z b;walk_at"d";have hlL:L.length<=8:=by
   have:L.length<=a.length:=b.1.len
   omega
  refine⟨.inl ⟨rfl,_,aB.of (I _ _ i)⟩,?_⟩;refine⟨c,g,a,E,L,rfl,(s.trans I).aJ C,hg,Z.gl,o,fun g' p=>⟨(b.1.each g' p).ok.lt,ka (cB (b.1.each g' p).ok.nd (b.1.each g' p).ok.lt) h8⟩,by omega,fun H3 N=>?_⟩
  refine⟨by decide,fun z hz=>?_⟩
  have sz:=ah.new hz (.tup [.int ((L.map (pF a)).sum),.ref g]);have W:=I.trans (N.trans sz);have aa:aH X.K (upd H3 z (.tup [.int ((L.map (pF a)).sum),.ref g])) z [.int ((L.map (pF a)).sum),.ref g]:=aH.of ag;have R:=(N.trans sz).aJ hg;have U:=Z.mono (N.trans sz);have d:=W _ _ i;have Q:=f.mono W;refine⟨l,_,_,rfl,rfl,d,aC (by rw[f.length,G];omega),?_⟩
  refine⟨us++[.ref z],_,_,rfl,(s.trans W).set u _,ag,?_,fun j hj=>?_⟩
  ·rw[show 1+(k+1)=(1+k)+1 by omega,ox A,eL]
   exact(Q.cE d).append ⟨⟨z,g,E,rfl,aa.cE d,R.cE d,U.cE d⟩,trivial⟩
  ·by_cases e:j=1+k
   ·rw[e];exact M
   ·exact O j (by omega)
 ·rintro σ J ⟨us,y1,y2,rfl,s,i,f,O⟩;walk_at"d";rw[yx (by rw[lA];omega)] at f
  exact q l us J s u i f (fun k hk=>O k (by omega))
def RQ (H0:Hp)(pl:Addr)(m:Nat)(k:Nat)(σ:L2.St)(H:Hp):Prop:=∃ (l:Addr) (a:List Nat) (y:Option V),σ=[some (.int (m:Int)),some (.ref l),y]/\ah H0 H/\H0 l=none/\H l=some (.lst ((aD a).map V.int))/\H pl=some (.lst ((aD (aL m)).map V.int))/\a=((aL m).take k).foldl (fun a i=>a++a.map fun x=>x+2 ^ i) [0]/\a.length=2 ^ k/\∀ q∈a,Sub q m/\∀ j,q.testBit j=true->j∈(aL m).take k
theorem wy (B:Bn mg)(D:Def K mg "parts_of" jw)(iP:Fn P w K mg base 1 "places" ["mask"] j7):Fn P w K mg base 2 "parts_of" ["crowd"] Mq:=by
 have zY:DS (ai jw) ["crowd","parts","i"] ["crowd"] ["places"]:=aN;walk_at"hH";obtain⟨m,rfl,hm,q⟩:=h;have E:∀ x∈aL m,x<8:=fun x hx=>lr (n:=8) hm (fk.mp hx);have T:(aL m).length<=8:=cB (dj m) E;refine⟨_,(ae (bg S 1 (eY (af aw)))
   (ae (eZ hxe hc (cQ (cA S 0 iP hr (af (kv S 0))) rfl) (kg S 2) (aj (bg S 1 (aR (dE rfl) (kv S 1) (i7 S hc hsc (cQ (kv S 1) rfl) (N:=["part","i"]) (W:=["part"]) (G:=[]) (fv:=[none,some 2]) (by decide +kernel) (fun cl C fp s H U=>⟨(kg U 0),bp,(aR aU (kv U 0) (aR c5 aw (kv U 1)))⟩))))))
   (aj (aK (kv S 1))))),?_⟩
 walk_at"d";refine⟨by decide,fun l hl=>?_⟩
 have sl:=ah.new hl (.lst [.int 0]);refine⟨m,rfl,by omega,fun pl H2 u _ I=>?_⟩
 have X:=u _ _ (ag (H:=H) (a:=l) (o:=.lst [.int 0]));refine forL (RQ H pl m) (aB.of I) ⟨l,[0],_,rfl,sl.trans u,hl,X,I,rfl,rfl,fun q hq=>by rw[ea.mp hq];exact⟨(fun j hj=>by rw[zero_testBit] at hj;cases hj),(fun j hj=>by rw[zero_testBit] at hj;cases hj)⟩⟩ (fun i σ J h=>by obtain⟨_,_,_,_,_,_,_,h,_⟩:=h;exact aB.of h) ?_ ?_
 ·rintro k σ J hk ⟨l,d,y,rfl,O,z,r,M,b,f,c⟩;rw[ao] at hk;rw[aT];have R:=E _ (nK hk);have h2k:2 ^ k<=256:=ka (ri (by decide) (show k<=8 by omega)) (by decide)
  have F:=vU hk rfl c;have v:=rj (fun (d:List Nat) i=>d++d.map fun x=>x+2 ^ i) [0] (aL m) hk;rw[<-b] at v;generalize (aL m).getD k 0=i at R F v ⊢;walk_at"d";refine SD (fun _=>true) (fun t=>(((d.getD t 0+2 ^ i:Nat)):Int)) (aB.of r) (by rw[ao];exact aC (by omega)) ?_ ?_
  ·intro t J2 A B' ht hS Q _;rw[aT];walk_at"d";refine⟨eI (by omega),?_⟩
   rw[<-natCast_add];exact Q rfl _ (ah.refl _)
  ·intro acc J2 ha0 u g;rw[bK,ao] at g;have e:((List.range d.length).map fun t=>(((d.getD t 0+2 ^ i:Nat)):Int))=aD (d.map fun x=>x+2 ^ i):=by
    unfold aD;rw[kJ]
    conv=>rhs;rw[<-lZ d,kJ]
    rfl
   rw[e] at g;refine su (aB.of (u _ _ r)) (aB.of g) (nA (by rw[ao,ao,di];omega)) fun p Y=>?_
   have Z:=ah.new Y (.lst ((aD d++aD (d.map fun x=>x+2 ^ i)).map V.int));refine⟨p,d++d.map (fun x=>x+2 ^ i),_,rfl,O.trans (u.trans Z),(O.trans u).Gg Y,?_,(u.trans Z) _ _ M,v.symm,by rw[fz,di,f,Nat.pow_succ];omega,F⟩
   rw[dN];exact ag
 ·rintro σ J ⟨l,d,y,rfl,O,z,r,M,b,f,c⟩;rw[ao] at f c b;rw[yx (ef _)] at b;have b:d=jt m:=b;subst b;walk_at"d";refine q l J O z r (fun q hq=>(c q hq).1) ?_;rw[f];exact ka (ri (by decide) T) (by decide)
def RR (K:Frag)(H0:Hp)(lo be:Addr)(cs:List Int)(ws:List Nat)(ul ub:List V)(fl fb:List og)(m i:Nat)(pp:Addr)(ps:List Nat)(k:Nat)(σ:L2.St)(H:Hp):Prop:=∃ (v:V) (x:og) (y6 y7 y8:Option V),σ=[some (.ref lo),some (.ref be),some (.int (m:Int)),some (.int ((2 ^ i:Nat):Int)),some (.int ((m - 2 ^ i:Nat):Int)),some v,y6,y7,y8]/\ah H0 H/\aB K H pp ((aD ps).map V.int)/\Ch K H v x/\x=(ps.take k).foldl (ly fl fb (2 ^ i) (m - 2 ^ i)) (if (fl.getD m (0,[])).1<(fb.getD (m - 2 ^ i) (0,[])).1 then fb.getD (m - 2 ^ i) (0,[]) else fl.getD m (0,[]))/\yA cs ws m x
theorem KJ {m:Nat}(h:0<m):Builtin.bitAnd (m:Int) (-(m:Int))=((m - (m&&& (m - 1)):Nat):Int):=by
 have e:-(m:Int)=Builtin.bitNot ((m - 1:Nat):Int):=by unfold Builtin.bitNot;omega
 rw[e,sE]
theorem Cz {a m:Nat}(h:Sub a m):Sub (m - a) m:=fun j hj=>by
 rw[km h,h9] at hj;exact hj.1
def RS (K:Frag)(H0:Hp)(lo be:Addr)(cs:List Int)(ws:List Nat)(fl fb:List og)(m i:Nat)(σ:L2.St)(H:Hp):Prop:=∃ (v:V) (x:og),σ=[some (.ref lo),some (.ref be),some (.int (m:Int)),some (.int ((2 ^ i:Nat):Int)),some (.int ((m - 2 ^ i:Nat):Int)),some v,none,none,none]/\H=H0/\Ch K H0 v x/\x=(if (fl.getD m (0,[])).1<(fb.getD (m - 2 ^ i) (0,[])).1 then fb.getD (m - 2 ^ i) (0,[]) else fl.getD m (0,[]))/\yA cs ws m x
theorem oO (B:Bn mg)(D:Def K mg "best_choice" fT)(y0:Fn P w K mg base 2 "parts_of" ["crowd"] Mq):Fn P w K mg base 3 "best_choice" ["lone","best","crowd"] (Mr K):=by
 have zY:DS (ai fT) ["lone","best","crowd","first","others","found","part","group","rest"] ["lone","best","crowd"] ["parts_of"]:=aN;walk_at"hH";obtain⟨lo,be,cs,ws,ul,ub,c,b,m,rfl,I,E,cl,cb,hcs,hn,hfl,hfb,Y,hm,hL,hB,q⟩:=h;have h8:=hcs.len;have hpow:2 ^ cs.length<=256:=ka (ri (by decide) h8) (by decide)
 obtain⟨i,hi,g⟩:=J5 m Y;have hile:=(tG hi).le;have hip:0<2 ^ i:=T1 i;have o:Sub (m - 2 ^ i) m:=fun j hj=>by rw[fj hi,h9] at hj;exact hj.1
 refine⟨_,(ae (bg S 3 (aR dJ (kv S 2) (NM jl (kv S 2))))
   (ae (bg S 4 (aR cq (kv S 2) (kv S 3)))
   (ae (bg S 5 (eC (kv S 0) (kv S 2)))
   (ae (cG (aV zC (iD (eC (kv S 1) (kv S 4))) (iD (kv S 5)) (au _)) (aj (bg S 5 (eC (kv S 1) (kv S 4)))) aA)
   (ae (eZ hxe hc (cQ (cA S 0 y0 hr (af (kv S 4))) rfl) (kg S 6) (ae (bg S 7 (eC (kv S 0) (aR aU (kv S 3) (kv S 6))))
   (ae (bg S 8 (eC (kv S 1) (aR cq (kv S 4) (kv S 6))))
   (aj (cG (aV zC (aR aU (iD (kv S 7)) (iD (kv S 8))) (iD (kv S 5)) (au _)) (aj (bg S 5 (qy (ak (aR aU (iD (kv S 7)) (iD (kv S 8))) (af (aR (h7 rfl) (iD (kv S 7)) (iD (kv S 8)))))))) aA)))))
   (aj (aK (kv S 5)))))))),?_⟩
 walk_at"h";rw[KJ Y,g];walk_at"h";rw[show ((m:Int) - ((2 ^ i:Nat):Int))=((m - 2 ^ i:Nat):Int) by omega]
 obtain⟨v0,ev0,c0⟩:=cl.get (i:=m) (by omega)
 obtain⟨v1,G,c1⟩:=cb.get (i:=m - 2 ^ i) (by omega)
 have ab:=(hL m hm).1;have hB1:=(hB (m - 2 ^ i) (by omega)).1
 walk_at"h";refine av I (iT ev0) ?_;walk_at"s";refine SV (RS X.K H lo be cs ws c b m i) (fun σ J h=>?_) (fun R hR=>?_)
 rotate_left
 ·walk_at"d";refine av E (iT G) ?_;obtain⟨r1,g1,us1,rfl,aa,h12,h13⟩:=id c1;obtain⟨r0,g0,us0,rfl,h01,h02,h03⟩:=id c0;refine aQ aa rfl ?_;refine aQ h01 rfl ?_;walk_at"d";refine bR (fun u=>?_) (fun A=>?_)
  ·refine av E (iT G) ?_;exact hR _ _ ⟨_,_,rfl,rfl,c1,(if_pos u).symm,hB1.mono o⟩
  ·exact hR _ _ ⟨_,_,rfl,rfl,c0,(if_neg A).symm,ab⟩
 obtain⟨v,x,rfl,eJ,F,r,W⟩:=h;rw[eJ];clear eJ J;walk_at"h";refine⟨m - 2 ^ i,rfl,by omega,fun pp J sJ _ t O y=>?_⟩
 have eb:Pd c b m=(jt (m - 2 ^ i)).foldl (ly c b (2 ^ i) (m - 2 ^ i)) (if (c.getD m (0,[])).1<(b.getD (m - 2 ^ i) (0,[])).1 then b.getD (m - 2 ^ i) (0,[]) else c.getD m (0,[])):=by unfold Pd Cm;rw[g]
 generalize jt (m - 2 ^ i)=ps at t O y eb;refine forL (RR X.K H lo be cs ws ul ub c b m i pp ps) (aB.of t) ⟨v,x,_,_,_,rfl,sJ,aB.of t,F.mono sJ,r,W⟩ (fun i σ J h=>by obtain⟨_,_,_,_,_,_,_,h,_⟩:=h;exact h) ?_ ?_
 ·rintro k σ J2 hk ⟨v,x,y6,y7,y8,rfl,n,d,F,r,W⟩;rw[ao] at hk;rw[aT];have a:=O _ (nK hk);have f:=rj (ly c b (2 ^ i) (m - 2 ^ i)) (if (c.getD m (0,[])).1<(b.getD (m - 2 ^ i) (0,[])).1 then b.getD (m - 2 ^ i) (0,[]) else c.getD m (0,[])) ps hk
  rw[<-r] at f;generalize hq:ps.getD k 0=part at a f;have hle:=a.le;obtain⟨va,eva,ca⟩:=cl.get (i:=2 ^ i+part) (by omega)
  obtain⟨vb,evb,C⟩:=cb.get (i:=(m - 2 ^ i) - part) (by omega)
  have ga:=(hL (2 ^ i+part) (by omega)).1
  have gb:=(hB ((m - 2 ^ i) - part) (by omega)).1
  walk_at"d";refine av (n.seq I) (v:=va) (by rw[show (((2 ^ i:Nat):Int)+(part:Int))=((2 ^ i+part:Nat):Int) by omega];exact iT eva) ?_
  refine av (n.seq E) (v:=vb) (by rw[show (((m - 2 ^ i:Nat):Int) - (part:Int))=((m - 2 ^ i - part:Nat):Int) by omega];exact iT evb) ?_
  have ca:=ca.mono n;have C:=C.mono n;obtain⟨ra,g1,ua,rfl,s,ha2,U⟩:=id ca;obtain⟨rb,g2,N,rfl,p,hb2,Q⟩:=id C;obtain⟨rv,gv,uv,rfl,hv1,hv2,hv3⟩:=id F;refine aQ s rfl ?_;refine aQ p rfl ?_;walk_at"d";refine aQ hv1 rfl ?_;walk_at"d";refine bR (fun u=>?_) (fun A=>?_)
  ·refine aQ s rfl ?_;refine aQ p rfl ?_;walk_at"d";refine aQ s rfl ?_;refine aQ p rfl ?_;have la:=ga.len;have lb:=gb.len;refine⟨g1,g2,ua,N,rfl,rfl,ha2,hb2,bZ (by rw[U.length,Q.length];omega),fun g3 J3 s3 hg3=>?_⟩
   refine⟨by decide,fun z hz=>?_⟩
   have sz:=ah.new hz (.tup [.int ((c.getD (2 ^ i+part) (0,[])).1+(b.getD ((m - 2 ^ i) - part) (0,[])).1),.ref g3]);have Z:=s3.trans sz;have M:Sub (2 ^ i+part) m:=((J6 (l:=[]) hi a ⟨(fun _ h=>nomatch h),.nil⟩).1 _ fO);have dis:Rq (2 ^ i+part) (m - 2 ^ i - part):=fun j hj=>by
    rw[km a,fj hi];rw[tF (fun j' T=>?_)] at hj
    ·rw[Ug,I1,o6] at hj
     rcases hj with hj | hj
     ·rw[hj];simp
     ·rw[hj];simp
    ·rw[I1,o6] at T
     cases e:part.testBit j' with
     | false=>rfl
     | true=>have:=a j' e;rw[fj hi,T] at this;simp at this
   exact⟨.ref z,((c.getD (2 ^ i+part) (0,[])).1+(b.getD ((m - 2 ^ i) - part) (0,[])).1,(c.getD (2 ^ i+part) (0,[])).2++(b.getD ((m - 2 ^ i) - part) (0,[])).2),_,_,_,rfl,n.trans Z,Z.seq d,⟨z,g3,ua++N,rfl,aH.of ag,sz.aJ hg3,(U.mono Z).append (Q.mono Z)⟩,(by rw[f];unfold ly;rw[if_pos u]),ga.add gb dis M ((Cz a).trans o)⟩
  ·exact⟨_,x,_,_,_,rfl,n,d,F,(by rw[f];unfold ly;rw[if_neg A]),W⟩
 ·rintro σ J2 ⟨v,x,y6,y7,y8,rfl,n,d,F,r,W⟩;rw[ao] at r;rw[yx (ef _),<-eb] at r;walk_at"s";walk_at"d";subst r;exact q v J2 n F ⟨W,trivial⟩
def ON (K:Frag)(H0:Hp)(c w lo l:Addr)(cs:List Int)(ws:List Nat)(i:Nat)(σ:L2.St)(H:Hp):Prop:=∃ (us:List V) (y1:Option V),σ=[some (.ref c),some (.ref w),some (.ref lo),some (.ref l),y1]/\ah H0 H/\H l=some (.lst us)/\kF K H us (iA (cJ cs ws) i)/\∀ k,k<1+i->lu cs ws k ((iA (cJ cs ws) i).getD k (0,[]))
theorem oP (B:Bn mg)(D:Def K mg "best_groups" fU)(oX:Fn P w K mg base 6 "lone_choices" ["counts","web"] (GU K))(pQ:Fn P w K mg base 3 "best_choice" ["lone","best","crowd"] (Mr K)):Fn P w K mg base 7 "best_groups" ["counts","web"] (Ms K):=by
 have zY:DS (ai fU) ["counts","web","lone","best","crowd"] ["counts","web"] ["lone_choices","range","len","best_choice"]:=aN;walk_at"hH";obtain⟨c,w,a,b,rfl,T,O,p,hn,bb,q⟩:=h;have h8:=p.len;have hpow:2 ^ a.length<=256:=ka (ri (by decide) h8) (by decide)
 have ab:0<2 ^ a.length:=T1 _;refine⟨_,(ae (bg S 2 (cA S 0 oX hr (ak (kv S 0) (af (kv S 1)))))
   (ae (bg S 3 (eY (af (qy (ak aw (af (qy bL)))))))
   (ae (eZ hxe hc (Qd S 1 B.range (ak aw (af (c7 S 2 (aG rfl) B.len ro (af (kv S 2)))))) (kg S 4) (aj (c8 (jW rr mo oo bw rfl (kv S 3) (af (cA S 3 pQ hr (ak (kv S 2) (ak (kv S 3) (af (kv S 4))))))))))
   (aj (aK (iD (eC (kv S 3) (NM jl aw)))))))),?_⟩
 walk_at"d";refine⟨c,w,a,b,rfl,T,O,p,hn,bb,fun lo ul H1 s1 aa E cl hL=>?_⟩;have u:=lA a b;walk_at"d";refine⟨by decide,fun z0 h0=>⟨by decide,fun z1 h1=>⟨by decide,fun l hl=>?_⟩⟩⟩
 have t0:=ah.new h0 (.tup []);have W:=ah.new h1 (.tup [.int 0,.ref z0]);have Z:=ah.new hl (.lst [.ref z1]);have N:H1 l=none:=(t0.trans W).Gg hl;have I:=t0.trans (W.trans Z);have A:upd (upd (upd H1 z0 (.tup [])) z1 (.tup [.int 0,.ref z0])) l (.lst [.ref z1]) l=some (.lst [.ref z1]):=ag;have t:kF X.K (upd (upd (upd H1 z0 (.tup [])) z1 (.tup [.int 0,.ref z0])) l (.lst [.ref z1])) [.ref z1] [(0,[])]:=⟨⟨z1,z0,[],rfl,Z.aJ (aH.of ag),(W.trans Z).aJ (aH.of ag),trivial⟩,trivial⟩;generalize upd (upd (upd H1 z0 (.tup [])) z1 (.tup [.int 0,.ref z0])) l (.lst [.ref z1])=H2 at I A t ⊢;refine bq (.inl (aB.of (I _ _ E))) ?_;rw[cl.length,u];walk_at"d";refine LL (lo:=1) (n:=2 ^ a.length - 1) (ON X.K H1 c w lo l a b) rfl (by omega) (by omega) ⟨_,_,rfl,I,A,t,fun k hk=>?_⟩ ?_ ?_
 ·have:k=0:=by omega
  subst this;exact B9 a b
 ·rintro k σ J hk ⟨o,y1,rfl,y,f,d,H⟩;have m:=lB (cJ a b) k;walk_at"d";refine⟨.inl ⟨rfl,_,aB.of f⟩,?_⟩;refine⟨lo,l,a,b,ul,o,cJ a b,iA (cJ a b) k,1+k,rfl,aB.of (y _ _ E),aB.of f,cl.mono y,d,p,hn,u,by omega,by omega,by omega,hL,H,fun v H3 M R hx=>?_⟩
  have eN:iA (cJ a b) (k+1)=iA (cJ a b) k++[Pd (cJ a b) (iA (cJ a b) k) (1+k)]:=by rw[Nat.add_comm 1 k];rfl
  have s:=M _ _ f;refine⟨l,_,_,rfl,rfl,s,aC (by rw[d.length];omega),?_⟩
  refine⟨o++[v],_,rfl,(y.trans M).set N _,ag,by rw[eN];exact((d.mono M).cE s).append ⟨R.cE s,trivial⟩,fun j hj=>?_⟩
  rw[eN]
  by_cases e:j=1+k
  ·subst e;rw[cc,zk (by omega),m,show 1+k - (k+1)=0 by omega]
   exact hx
  ·rw[cc,F8 (by omega),<-cc]
   exact H j (by omega)
 ·rintro σ J ⟨o,y1,rfl,y,f,d,H⟩;have m:=lB (cJ a b) (2 ^ a.length - 1);walk_at"d";obtain⟨v,ev,R⟩:=d.get (i:=2 ^ a.length - 1) (by omega)
  have hb:=H (2 ^ a.length - 1) (by omega)
  have C:=d.length;refine av (aB.of f) (v:=v) ?_ ?_
  ·have Y:o=o.dropLast++[v]:=by
    have h1:o≠[]:=fun z=>by rw[z] at C;simp at C;omega
    have G:=List.dropLast_concat_getLast h1;have Q:o.getLast h1=v:=by
     rw[List.getLast_eq_getElem];rw[show 2 ^ a.length - 1=o.length - 1 by omega,cv (by omega)] at ev
     exact ot ev
    rw[Q] at G;exact G.symm
   rw[Y];exact DE _ _
  obtain⟨r,g,U,rfl,h1,G,Q⟩:=R;refine aQ h1 rfl ?_;refine q g U J (s1.trans y) G Q ?_;have e:=hb.1.sum;unfold ko;rw[e];exact hb
theorem all_map {α:Type}(l:List α)(p:α->Bool):(l.map p).all id=l.all p:=by rw[On];rfl
theorem any_map {α:Type}(l:List α)(p:α->Bool):(l.map p).any id=l.any p:=by rw[List.any_map];rfl
theorem range_getD {α:Type}(l:List Int)(f:Int->α):(List.range l.length).map (fun k=>f (l.getD k 0))=l.map f:=by
 apply ext_getElem
 ·simp
 ·intro i h1 a
  simp at h1 a
  simp[h1]
theorem Ta {a:Addr}{ns:List Int}{te:TE}{rest:L2.St}{Q:VK}{H1:Hp}(f:Int->Bool)(h:aH K H1 a (ns.map V.int))(hn:ns.length<=1000)
  (step:∀ (i:Int) H (A:V->Hp->Prop),i∈ns->ah H1 H->(∀ H',ah H H'->A (.bl (f i)) H')->te (some (.int i)::rest) H A)
  (fin:∀ acc H,H1 acc=none->ah H1 H->H acc=some (.lst ((ns.map f).map V.bl))->Q (.ref acc) H) :
  ∃ b,V.ref a=.ref b/\(∃ xs,aH K H1 b xs)/\rV (bA 0) gW te (none::rest) Q (Bc K b) H1:=by
 refine⟨a,rfl,⟨_,h⟩,uB (fY h) (fun _=>true) (fun i=>.bl (f (ns.getD i 0))) (by rw[di];exact aC hn) ?_ ?_⟩
 ·intro i H A j hi d g _;rw[di] at hi;rw[getD_ints hi];simp only[gn,xP,jZ];exact step _ H A (L2.getD_mem hi) d fun H' e=>g rfl _ e
 ·intro acc H hn d c;rw[bK,di] at c;refine fin acc H hn d ?_;rw[c,<-range_getD ns f,kJ];rfl
theorem Hi (B:Bn mg)(D:Def K mg "rises" tX):Fn P w K mg base 1 "rises" ["people"] (Ai K):=by
 have zY:DS (ai tX) ["people"] ["people"] ["all","zip"]:=aN;walk_at"hH";obtain⟨p,l,rfl,g,h1,m,q⟩:=h;refine⟨_,(aj (aK (c7 S 0 (cK hc rfl) B.all boot_all (af (i7 S hc hsc (RD false false S 1 B.zip rfl (ak (kv S 0) (af (pB (iV rfl) (kv S 0) (bE aw) bD)))) (N:=["i","j"]) (W:=["i","j"]) (G:=[]) (fv:=[none,none]) (by decide +kernel) (fun u C v s H d=>⟨(jX rfl (K:=X.K) (n:=2) rfl (aS (kg d 0) (aS (kg d 1) c6))),bp,(jV g9 (kv d 0) (kv d 1) (au _))⟩)))))),?_⟩
 walk_at"d";refine sr 0 g rfl (by rw[ao];omega) fun a r=>?_
 have i:=ah.new r (.tup (((aD l).drop (0+1)).map V.int));refine Oy (ns:=aD l) (ms:=(aD l).drop (0+1)) _ (fun k=>.bl (decide (l.getD k 0<l.getD (k+1) 0))) (i.aJ g) (aH.of ag) (by rw[tz,ao];omega) (ef _) (.inr (ef _)) (by rw[tz,ao];exact aC (by omega)) ?_ ?_
 ·intro k o A hk c j;rw[tz,ao] at hk;rw[aT,show ((aD l).drop (0+1)).getD k 0=((l.getD (k+1) 0:Nat):Int) by rw[<-aT,cc,getElem?_drop,cc];congr 2;omega]
  walk_at"d";have e:decide (((l.getD k 0:Nat):Int)<((l.getD (k+1) 0:Nat):Int))=decide (l.getD k 0<l.getD (k+1) 0):=by
   rw[decide_eq_decide];omega
  rw[e];exact j _ (ah.refl _)
 ·intro f o t c b;rw[tz,ao] at b;refine⟨f,(List.range (l.length - (0+1))).map fun k=>decide (l.getD k 0<l.getD (k+1) 0),rfl,aB.of (by rw[b,kJ];rfl),?_⟩
  rw[all_map];exact q _ (i.trans c)
theorem OO (B:Bn mg)(D:Def K mg "is_group" jv)(K0:Fn P w K mg base 1 "rises" ["people"] (Ai K))(iQ:Fn P w K mg base 1 "is_circle" ["web","people"] (NZ K))(CL:Fn P w K mg base 2 "is_ring" ["web","people"] (QF K)):Fn P w K mg base 3 "is_group" ["counts","web","kind","people"] (LK K):=by
 have zY:DS (ai jv) ["counts","web","kind","people"] ["counts","web","kind","people"] ["len","all","rises","is_circle","is_ring"]:=aN;walk_at"hH";obtain⟨c,w,p,f,r,⟨b,a⟩,rfl,E,U,n,F,h8,t,q⟩:=h;have n:aH X.K H p (a.map V.int):=n;have t:a.length<=90:=t;refine⟨_,(ae (cG (HC (O6 (aV g9 (c7 S 0 (aG rfl) B.len ro (af (kv S 3))) aw (au _)) (By (sf (pC (c7 S 1 (cK hc rfl) B.all boot_all (af (i7 S hc hsc (dI (kv S 3) rfl) (N:=["i","counts"]) (W:=["i"]) (G:=["len"]) (fv:=[none,some 0]) (by decide +kernel) (fun cl C fp s H o=>⟨(kg o 0),bp,(Em nh g9 aw (kv o 0) (c7 o 0 (aG rfl) B.len ro (af (kv o 1))))⟩))))))))) (aj (aK HB)) aA)
   (ae (cG (aV aP (kv S 2) bj (au _)) (aj (aK (pA (cA S 2 K0 hr (af (kv S 3))) (xK (cA S 3 iQ hr (ak (kv S 1) (af (kv S 3)))))))) aA)
   (aj (aK (pA (jV aP (kv S 2) bj (au _)) (pA (cA S 4 CL hr (ak (kv S 1) (af (kv S 3)))) (xK (c7 S 1 (cK hc rfl) B.all boot_all (af (i7 S hc hsc (dI (kv S 3) rfl) (N:=["i","counts"]) (W:=["i"]) (G:=[]) (fv:=[none,some 0]) (by decide +kernel) (fun cl C fp s H o=>⟨(kg o 0),bp,(jV aP (mK (cW rfl) (kv o 1) (kv o 0) (fun _ _=>rfl)) aw (au _))⟩))))))))))),?_⟩
 walk_at"d";refine bq (.inr n) ?_;rw[di];walk_at"d";refine bR (fun T=>?_) (fun T=>?_)
 ·have e:C7 f r (b,a)=false:=by unfold C7;rw[eG (show ¬ 1<=a.length by omega),r3]
  rw[e] at q;exact q _ (ah.refl _)
 refine Ta (fun i=>decide (0<=i)&&decide (i<(f.length:Int))) n (by omega) ?_ ?_
 ·intro i H1 A hi R y;walk_at"d"
  by_cases J:0<=i
  ·rw[if_pos J];refine bq (.inr (R.aJ E)) ?_;rw[di];walk_at"d";rw[ek J,qE] at y;exact y _ (ah.refl _)
  ·rw[if_neg J];rw[eG J,r3] at y;exact y _ (ah.refl _)
 intro Q H1 ab j I;refine⟨Q,_,rfl,aB.of I,?_⟩;rw[all_map,show (a.all fun i=>decide (0<=i)&&decide (i<(f.length:Int)))=HD f.length a from rfl]
 walk_at"d"
 by_cases d:HD f.length a=true
 ·rw[d];obtain⟨en,u⟩:=JA d;have aa:(nats a).length=a.length:=by unfold nats;rw[di]
  have O:C7 f r (b,a)=BO f r b (nats a):=by
   unfold C7;rw[ek (show 1<=a.length by omega),qE]
   show (HD f.length a&&_)=_;rw[d,qE]
  rw[O] at q;generalize nats a=l at *;subst en;rw[ao] at T t;have e:decide (kd b="ring")=b:=sL b;have e2:decide (kd b="circle")=!b:=by cases b<;>decide
  walk_at"d"
  (try simp only[qw,uW])
  (try simp only[e,e2])
  (try simp only[show (kd b=Str.ofString "circle")=(b=false) from propext ⟨fun h=>by cases b<;>first | rfl | exact absurd h (by decide),fun h=>by rw[h];rfl⟩,show (kd b=Str.ofString "ring")=(b=true) from propext ⟨fun h=>by cases b<;>first | rfl | exact absurd h (by decide),fun h=>by rw[h];rfl⟩])
  cases b with
  | false=>
   (try simp only[Bool.not_false,if_true])
   refine⟨p,l,rfl,j.aJ n,by omega,by omega,fun Z m=>?_⟩
   unfold BO at q;simp only[Bool.false_eq_true,if_false] at q;walk_at"d"
   cases g:nM l with
   | true=>
    rw[g,qE] at q;walk_at"d";exact⟨w,p,r,l,rfl,(j.trans m).aJ U,(j.trans m).aJ n,by omega,vp g,fun x hx=>by rw[F];exact u x hx,fun Y M=>q _ ((j.trans m).trans M)⟩
   | false=>
    rw[g,r3] at q;walk_at"d";exact q _ (j.trans m)
  | true=>
   (try simp only[Bool.not_true,Bool.true_eq_false,Bool.false_eq_true,if_false,if_true])
   unfold BO at q;simp only[if_true] at q;walk_at"d"
   try simp only[qw,uW,e,if_true]
   refine⟨w,p,r,l,rfl,j.aJ U,j.aJ n,by omega,by omega,fun x hx=>by rw[F];exact u x hx,fun Z m=>?_⟩
   walk_at"d"
   cases g:je r l with
   | true=>
    rw[g,qE] at q;walk_at"d";refine Ta (fun i=>decide (f.getD i.toNat 0=2)) ((j.trans m).aJ n) (by rw[ao];omega) ?_ ?_
    ·intro i Y A hi R y;obtain⟨x,hx,rfl⟩:=j9.mp hi;walk_at"d";refine dF (((j.trans m).trans R).aJ E) rfl (u x hx) ?_;walk_at"d";exact y _ (ah.refl _)
    ·intro z Y hn3 M v;refine⟨z,_,rfl,aB.of v,?_⟩;rw[all_map,show ((aD l).all fun i=>decide (f.getD i.toNat 0=2))=l.all (fun x=>decide (f.getD x 0=2)) by unfold aD;rw[On];rfl]
     exact q _ ((j.trans m).trans M)
   | false=>
    rw[g,r3] at q;walk_at"d";exact q _ (j.trans m)
 ·have d:HD f.length a=false:=by simpa using d
  have O:C7 f r (b,a)=false:=by
   unfold C7;show (_&&(HD f.length a&&_))=false;rw[d,r3,Uw]
  rw[d];rw[O] at q;walk_at"d";exact q _ j
def RT (K:Frag)(H0:Hp)(c w g:Addr)(cs:List Int)(ws:List Nat)(L:List (Bool × List Int))(k:Nat)(σ:L2.St)(H:Hp):Prop:=∃ (d:Addr) (gone:List Int) (y1 y2 y3 y4:Option V),σ=[some (.ref c),some (.ref w),some (.ref g),some (.ref d),y1,y2,y3,y4]/\ah H0 H/\H0 d=none/\EU H d gone/\gone.length<=30*k/\C8 cs ws [] 0 L=C8 cs ws gone k (L.drop k)
def OP (H0:Hp)(c w g d p:Addr)(k:Nat)(y2:V)(gone ns:List Int)(j:Nat)(σ:L2.St)(H:Hp):Prop:=∃ (y4:Option V),σ=[some (.ref c),some (.ref w),some (.ref g),some (.ref d),some (.int (k:Int)),some y2,some (.ref p),y4]/\ah H0 H/\EU H d (gone++ns.take j)
theorem CA (B:Bn mg)(D:Def K mg "group_fault" fQ)(za:Fn P w K mg base 3 "is_group" ["counts","web","kind","people"] (LK K)):Fn P w K mg base 4 "group_fault" ["counts","web","groups"] (vq K):=by
 have zY:DS (ai fQ) ["counts","web","groups","taken","place","group","people","i"] ["counts","web","groups"] ["enumerate","any","is_group"]:=aN;walk_at"hH";obtain⟨c,w,g,cs,ws,us,L,rfl,hcq,hw,hg,hL,U,h8,O,hL90,q⟩:=h;refine⟨_,(ae (bg S 3 Ah)
   (ae (eZ hxe hc (Ce false S 0 B.enumerate rfl (af (kv S 2))) (jX hc (K:=X.K) (n:=2) rfl (aS (kg S 4) (aS (kg S 5) c6))) (ae (bg S 6 (iD (kv S 5)))
   (ae (cG (HC (O6 (sf (pC (cA S 2 za hr (ak (kv S 0) (ak (kv S 1) (ak (iD (kv S 5)) (af (kv S 6)))))))) (By (pC (c7 S 1 (BL hc rfl) B.any boot_any (af (i7 S hc hsc (dI (kv S 6) rfl) (N:=["i","taken"]) (W:=["i"]) (G:=[]) (fv:=[none,some 3]) (by decide +kernel) (fun cl C fp s H S2=>⟨(kg S2 0),bp,(QV (u1 hu) (kv S2 0) (kv S2 1) (by with_unfolding_all rfl))⟩)))))))) (aj (aK (kv S 4))) aA)
   (aj (eZ hxe hc (dI (kv S 6) rfl) (kg S 7) (aj (EO (u1 hu) HB (kv S 3) (kv S 7))))))))
   (aj (aK pz)))),?_⟩
 walk_at"d";intro d hd;have sd:=ah.new hd (.dK []);refine Gx false (RT X.K H c w g cs ws L) (sd.aJ hg) ⟨d,[],_,_,_,_,rfl,sd,hd,EU.nil ag,zero_le _,rfl⟩ (fun k σ H' h=>by obtain⟨d,gone,y1,y2,y3,y,_,s,_⟩:=h;exact s.aJ hg) ?_ ?_
 ·rintro k v σ H1 H2 hv ⟨d,gone,y1,y2,y3,y,rfl,T,u,hD,M,a⟩ Z;have b:=T.trans Z;obtain⟨t,r,p,l,rfl,Q,m⟩:=hL.get hv;have E:=b.aJ Q;have hp:=b.aJ m;have J:k<L.length:=by have:=mv.mp l;exact this.1
  have hdr:L.drop k=t::L.drop (k+1):=by
   rw[List.drop_eq_getElem_cons J]
   congr 1
   have:=mv.mp l
   exact this.2
  rw[hdr,C8] at a;have g90:=O t (gc l);walk_at"d";refine aQ (i:=1) E rfl ?_;refine aQ (i:=0) E rfl ?_;refine⟨c,w,p,cs,ws,t,rfl,b.aJ hcq,b.aJ hw,hp,U,h8,by omega,fun H3 z=>?_⟩
  walk_at"d"
  cases hG:C7 cs ws t with
  | false=>
   rw[hG,r3,if_neg (by decide)] at a
   walk_at"d"
   have:=q _ (b.trans z)
   rw[a] at this;exact this
  | true=>
   rw[hG,qE] at a;walk_at"d";have Y:=b.trans z;refine Ta (fun i=>decide (i∈gone)) (z.aJ hp) (by omega) ?_ ?_
   ·intro i H4 A hi e I;walk_at"d";exact N6 ((hD.same Z).same (z.trans e)) (I _ (ah.refl _))
   intro R H4 hn4 s4 F;refine⟨R,_,rfl,aB.of F,?_⟩;rw[any_map];have e:=Y.trans s4
   cases I:t.2.any (fun i=>decide (i∈gone)) with
   | true=>
    rw[I,Bool.not_true,if_neg (by decide)] at a
    walk_at"d"
    have:=q _ e
    rw[a] at this;exact this
   | false=>
    rw[I,Bool.not_false,if_pos rfl] at a;walk_at"d";refine Jd (OP H c w g d p k (.ref r) gone t.2) (e.aJ m) ⟨_,rfl,e,by rw[take_zero,Um];exact(hD.same Z).same (z.trans s4)⟩ (fun j σ H' h=>by obtain⟨y,_,s,_⟩:=h;exact s.aJ m) ?_ ?_
    ·rintro j σ H5 hj ⟨y,rfl,s5,f⟩;walk_at"d";refine Jz f (aC (by rw[fz,qN];omega)) fun o hD6=>⟨_,rfl,s5.set u _,?_⟩
     rw[take_snoc 0 hj,<-sU];exact hD6
    ·rintro σ H5 ⟨y,rfl,s5,f⟩;rw[SZ] at f;exact⟨d,gone++t.2,_,_,_,_,rfl,s5,u,f,by rw[fz];omega,a⟩
 ·rintro σ H1 ⟨d,gone,y1,y2,y3,y,rfl,T,u,hD,M,a⟩;rw[hL.length,List.drop_length,C8] at a;walk_at"d"
  have:=q _ T
  rw[a] at this;exact this
theorem RU (D:Def K mg "ring_guess" gL):Fn P w K mg base 1 "ring_guess" ["many","i","seen"] QM:=by
 have zY:DS (ai gL) ["many","i","seen"] ["many","i","seen"] []:=aN;walk_at"hH";obtain⟨n,i,s,rfl,hn,q⟩:=h;refine⟨_,(ae (cG (aV aP (kv S 1) (aR cq (kv S 0) aw) (au _)) (aj (aK (kv S 2))) aA)
   (aj (aK (aR cq aw (kv S 2))))),?_⟩
 walk_at"d";unfold rg at q;refine bR (fun c=>?_) (fun c=>?_)
 ·rw[if_pos (by omega)] at q;exact q
 ·rw[if_neg (by omega)] at q;exact q
theorem yQ (D:Def K mg "product" lD):Fn P w K mg base 1 "product" ["counts"] (Ez K):=by
 have zY:DS (ai lD) ["counts","whole","count"] ["counts"] []:=aN;walk_at"hH";obtain⟨p,d,rfl,c,a,q⟩:=h;refine⟨_,(ae (bg S 1 aw)
   (ae (eZ hxe hc (dI (kv S 0) rfl) (kg S 2) (aj (bg S 1 (aR dC (kv S 1) (kv S 2)))))
   (aj (aK (kv S 1))))),?_⟩
 walk_at"d";refine Jd (Qq H p d) c ⟨rfl,none,rfl⟩ (fun i σ e h=>by rw[h.1];exact c) ?_ ?_
 ·rintro i σ e hi ⟨b,y,rfl⟩;rw[b];walk_at"d";refine⟨(a.take i).BB.ok (a.get hi).bt (by omega),rfl,some (.int (d.getD i 0)),?_⟩
  rw[take_snoc 0 hi,sh]
 ·rintro σ e ⟨b,y,rfl⟩;rw[b,SZ];walk_at"d";exact q
theorem RV (B:Bn mg)(D:Def K mg "circle_guess" fq)(CM:Fn P w K mg base 1 "product" ["counts"] (Ez K)):Fn P w K mg base 2 "circle_guess" ["counts","hats","i"] (Qs K):=by
 have zY:DS (ai fq) ["counts","hats","i","wheel","arc","start","seen","lacking"] ["counts","hats","i"] ["product","sum","range","len"]:=aN;walk_at"hH";obtain⟨p,h,b,hs,i,rfl,n,R,a,o,hi,q⟩:=h;refine⟨_,(ae (bg S 3 (cA S 0 CM hr (af (kv S 0))))
   (ae (bg S 4 (aR dD (kv S 3) (OL (kv S 0) (kv S 2))))
   (ae (bg S 5 (c7 S 1 (cX hc rfl) B.sum boot_sum (af (i7 S hc hsc (dI (pB (iV rfl) (kv S 0) bD (bE (kv S 2))) rfl) (N:=["count","wheel"]) (W:=["count"]) (G:=[]) (fv:=[none,some 3]) (by decide +kernel) (fun M C U s H d=>⟨(kg d 0),bp,(aR dD (kv d 1) (kv d 0))⟩)))))
   (ae (bg S 6 (c7 S 1 (cX hc rfl) B.sum boot_sum (af (i7 S hc hsc (jY S 2 B.range (af (c7 S 3 (aG rfl) B.len ro (af (kv S 0))))) (N:=["j","i","hats","wheel","counts"]) (W:=["j"]) (G:=[]) (fv:=[none,some 2,some 1,some 3,some 0]) (by decide +kernel) (fun M C U s H d=>⟨(kg d 0),(gp (aV uK (kv d 0) (kv d 1) (au _))),(aR dC (mK (cW rfl) (kv d 2) (kv d 0) (fun _ _=>rfl)) (aR dD (kv d 3) (mK (cW rfl) (kv d 4) (kv d 0) (fun _ _=>rfl))))⟩)))))
   (ae (bg S 7 (aR cL (aR cq (kv S 5) (kv S 6)) (kv S 3)))
   (aj (aK (aR cL (aR dD (aR cq (aR aU (kv S 7) (kv S 4)) aw) (kv S 4)) (OL (kv S 0) (kv S 2)))))))))),?_⟩
 walk_at"d";refine⟨p,b,rfl,n,a,?_⟩;walk_at"d";refine dF n rfl hi ?_;have F:=NS a hi;walk_at"d";refine⟨F,?_⟩;refine sk i n rfl hi fun s v=>?_;have y:ah H (upd H s (.tup ((b.take i).map V.int))):=ah.new v _;refine R9 (fun _=>true) (fun j=>pr b / (b.take i).getD j 0) (aH.of ag) (aC (by have:=(a.take i).len;omega)) ?_ ?_
 ·intro j X A O hj E t _;walk_at"d";exact⟨NS (a.take i) hj,t rfl _ (ah.refl _)⟩
 intro J H1 hn E g;rw[bK,L2.map_getD (b.take i) (fun c=>pr b / c)] at g;refine kT (aB.of g) ?_;rw[show ((b.take i).map fun c=>pr b / c).sum=de (pr b) (b.take i) from rfl]
 have l:=y.trans E;walk_at"d";refine bq (.inr (l.aJ n)) ?_;rw[di];refine Qj b.length (fun j=>decide (¬ j=i)) (fun j=>hs.getD j 0*(pr b / b.getD j 0)) rfl (by have:=a.len;omega) ?_ ?_
 ·intro j X A O hj u t T;walk_at"d";rw[NT]
  by_cases f:j=i
  ·rw[eG (not_not_intro f)];walk_at"d";exact T (by rw[eG (not_not_intro f)]) _ (ah.refl _)
  ·rw[ek f];walk_at"d";have e:=l.trans u;refine dF (e.aJ R) rfl (by rw[o.len];exact hj) ?_
   refine dF (e.aJ n) rfl hj ?_;walk_at"d";exact⟨NS a hj,(o.bt j hj).ok (Lz a hj) (by decide),t (ek f) _ (ah.refl _)⟩
 intro z I Q e m;refine kT (aB.of m) ?_;walk_at"d";have r:=l.trans e;have Y:=Es a.pos hi;refine⟨by have:=a.jd;omega,⟨by omega,(Lz a hi).log (by omega) (by decide)⟩,?_⟩
 refine dF (r.aJ n) rfl hi ?_;walk_at"d";exact⟨F.1,q I r⟩
theorem RW (B:Bn mg)(D:Def K mg "group_guess" fR)(uk:Fn P w K mg base 1 "ring_guess" ["many","i","seen"] QM)(kB:Fn P w K mg base 1 "picked" ["values","people"] (nJ K))(oY:Fn P w K mg base 2 "circle_guess" ["counts","hats","i"] (Qs K)):Fn P w K mg base 3 "group_guess" ["counts","groups","hats","i"] (QU K):=by
 have zY:DS (ai fR) ["counts","groups","hats","i","kind","people","place"] ["counts","groups","hats","i"] ["circle_guess","ring_guess","picked","len"]:=aN;walk_at"hH";obtain⟨c,g,hb,v,hs,ws,us,L,i,rfl,E,O,M,Q,r,hn,go,hi,q⟩:=h;refine⟨_,(ae (eZ hxe hc (dI (kv S 1) rfl) (jX hc (K:=X.K) (n:=2) rfl (aS (kg S 4) (aS (kg S 5) c6))) (aj (cG (aV (Ed rfl) (kv S 3) (kv S 5) (by with_unfolding_all rfl)) (ae (bg S 6 (Tf PySem.F.plainAttrs_tuple slot_tuple_index PySem.F.type_tuple_index (yb rfl) rfl (kv S 5) (af (kv S 3))))
   (ae (cG (aV aP (kv S 4) bj (au _)) (aj (aK (cA S 1 uk hr (ak (c7 S 3 (aG rfl) B.len ro (af (kv S 5))) (ak (kv S 6) (af (OL (kv S 2) (OL (kv S 5) (aR cL (aR aU (kv S 6) aw) (c7 S 3 (aG rfl) B.len ro (af (kv S 5)))))))))))) aA)
   (aj (aK (cA S 0 oY hr (ak (cA S 2 kB hr (ak (kv S 0) (af (kv S 5)))) (ak (cA S 2 kB hr (ak (kv S 2) (af (kv S 5)))) (af (kv S 6))))))))) aA)))
   (aj (aK aw))),?_⟩
 walk_at"d";refine N5 (QQ X.K H c g hb L i) O M ⟨ah.refl _,fun t N=>absurd N (Uk t),_,_,_,rfl⟩ (fun k σ H' h=>⟨h.1.aJ O,M.mono h.1⟩) ?_ ?_
 ·rintro k u p σ H1 hk o A ⟨m,f,U,y2,Z,rfl⟩;have s:=go.each u (gc hk);have d:u.2.length<=8:=ka (cB s.nd s.lt) r.len;walk_at"d";refine Aa (a:=u.2) (.inr o) ?_
  by_cases hm:i∈u.2
  ·have W:=yd f hk hm;have T:x9 v L hs i=QN v hs u i:=by unfold x9;rw[W]
   rw[T] at q;obtain⟨b,l⟩:=u;have hm:i∈l:=hm;have C:=T3 hm;rw[ek hm];walk_at"d";refine⟨⟨p,rfl,A⟩,p,aD l,(i:Int),rfl,rfl,o,mL.mpr hm,?_⟩;rw[zZ];walk_at"d";have e:decide (kd b="ring")=b:=sL b
   (try simp only[qw,uW])
   (try simp only[e])
   (try simp only[show (kd b=Str.ofString "ring")=(b=true) from propext ⟨fun h=>by cases b<;>first | rfl | exact absurd h (by decide),fun h=>by rw[h];rfl⟩])
   cases b with
   | true=>
    simp only[if_true];walk_at"d";refine bq (.inr o) ?_;refine bq (.inr o) ?_;rw[di,ao];walk_at"d";refine⟨by omega,?_⟩
    have j:(l.idxOf i+1) % l.length<l.length:=mod_lt _ (by omega)
    have I:l.getD ((l.idxOf i+1) % l.length) 0<v.length:=s.lt _ (dM j);refine dF (k:=(l.idxOf i+1) % l.length) o (by rw[UE,natCast_add];rfl) (by rw[ao];exact j) ?_
    rw[aT];refine dF (m.aJ Q) rfl (by rw[hn.1];exact I) ?_
    exact⟨l.length,l.idxOf i,_,rfl,by omega,q H1 m⟩
   | false=>
    simp only[Bool.false_eq_true,if_false];walk_at"d";refine⟨c,p,v,l,rfl,m.aJ E,o,s.lt,d,fun Y H2 y z=>?_⟩;refine⟨hb,p,hs,l,rfl,(m.trans y).aJ Q,y.aJ o,fun x hx=>by rw[hn.1];exact s.lt x hx,d,fun t2 H3 J G=>?_⟩
    refine⟨Y,t2,pk v l,pk hs l,l.idxOf i,rfl,aH.of (J _ _ z),aH.of G,LG r (g:=(false,l)) ⟨s.lt,d⟩,Jy r hn s.lt,by rw[sM];exact C,fun R s4=>?_⟩
    exact q R (m.trans (y.trans (J.trans s4)))
  ·rw[eG hm];walk_at"d";refine⟨m,fun t N x hx=>?_,_,_,_,rfl⟩
   by_cases e:t=k
   ·subst e;rw[hk] at hx
    cases hx
    exact hm
   ·exact f t (by omega) x hx
 ·rintro σ H1 ⟨m,f,U,y2,Z,rfl⟩;walk_at"d"
  have:=q H1 m
  unfold x9 at this;rw[yc f] at this;exact this
theorem yR (B:Bn mg)(D:Def K mg "are_hats" jx):Fn P w K mg base 1 "are_hats" ["counts","hats"] (Me K):=by
 have zY:DS (ai jx) ["counts","hats"] ["counts","hats"] ["all","len","zip"]:=aN;walk_at"hH";obtain⟨c,hb,g,hs,rfl,a,l,o,q⟩:=h;refine⟨_,(aj (aK (pA (jV aP (c7 S 1 (aG rfl) B.len ro (af (kv S 1))) (c7 S 1 (aG rfl) B.len ro (af (kv S 0))) (au _)) (xK (c7 S 0 (cK hc rfl) B.all boot_all (af (i7 S hc hsc (RD false false S 2 B.zip rfl (ak (kv S 1) (af (kv S 0)))) (N:=["colour","count"]) (W:=["colour","count"]) (G:=[]) (fv:=[none,none]) (by decide +kernel) (fun p C r s H f=>⟨(jX rfl (K:=X.K) (n:=2) rfl (aS (kg f 0) (aS (kg f 1) c6))),bp,(Em nh g9 aw (kv f 0) (kv f 1))⟩)))))))),?_⟩
 walk_at"d";refine bq (.inr l) ?_;refine bq (.inr a) ?_;rw[di,di];simp only[zJ,uW]
 by_cases d:hs.length=g.length
 ·rw[d,ek rfl];walk_at"d";refine Oy _ (fun k=>.bl (decide (0<=hs.getD k 0)&&decide (hs.getD k 0<g.getD k 0))) l a (ef _) (Nat.le_of_eq d) (.inl (ef _)) (aC (by omega)) ?_ ?_
  ·intro k H1 A hk j m;walk_at"d"
   have:=m H1 (ah.refl _)
   by_cases e:0<=hs.getD k 0
   ·rw[ek e,qE] at this;rw[if_pos e];exact this
   ·rw[eG e,r3] at this;rw[if_neg e];exact this
  ·intro i H1 hn j b;refine⟨i,(List.range hs.length).map fun k=>decide (0<=hs.getD k 0)&&decide (hs.getD k 0<g.getD k 0),rfl,aB.of (by rw[b,kJ];rfl),?_⟩
   have:=q H1 j
   unfold cI at this;rw[ek d,qE] at this;rw[On,d];exact this
 ·rw[eG (by omega)]
  walk_at"d"
  have:=q H (ah.refl _)
  unfold cI at this;rw[eG d,r3] at this;exact this
theorem lK:DS (ai eE) ["self","counts","web","groups"] ["self","counts","web","groups"] ["group_fault","NoGroups","len"]:=aN
variable {ay:Addr}
theorem Hj (B:Bn mg)(ER:ll K mg Hc er)(aZ:fi K mg "Hall" ay ["counts","groups","worn"])(D:mx K ay "__init__" "Hall.__init__" eE)(pR:Fn P w K mg base 4 "group_fault" ["counts","web","groups"] (vq K)):qX P w K mg base 5 ay "__init__" ["self","counts","web","groups"] (AE K ay er):=by
 refine D.ge lK (by walk_at"hB") (by walk_at"hL") ?_
 intro X E S Z U e3 Y R hc hsc F hx o hr hu H vs Q h;subst Z U e3 Y R;obtain⟨x,a,c,w,g,v,G,us,L,rfl,u,f,W,I,O,C,h8,t,A,T,q⟩:=h;refine⟨_,(ae (cG (aV ve (cA S 0 pR hr (ak (kv S 1) (ak (kv S 2) (af (kv S 3))))) pz (au _)) (aj (nY S 1 hc hx (ER.gl _ (by decide)) (ER.own _ (by decide) (by decide)) (af bj))) aA)
   (ae (O9 aZ (kv S 0) (kv S 1))
   (ae (O9 aZ (kv S 0) (kv S 3))
   (aj (O9 aZ (kv S 0) (aR (FY rfl) (qy (af aw)) (c7 S 2 (aG rfl) B.len ro (af (kv S 1))))))))),?_⟩
 walk_at"d";refine⟨c,w,g,v,G,us,L,rfl,f,W,I,O,C,h8,t,A,fun H1 j=>?_⟩
 cases N:C8 v G [] 0 L with
 | some k=>
  show nC (.int (k:Int)) .br H1 _;walk_at"d";exact⟨by decide,T (by rw[N];exact fun z=>nomatch z) H1 j⟩
 | none=>
  show nC .br .br H1 _;walk_at"d";have b:=j _ _ u;have i:=j.aJ f;refine⟨x,a,[],rfl,b,by decide,x,a,HE c,rfl,ag,by show 1<_;decide,by decide,fun p o=>?_⟩
  rw[B5,B6,HM] at o ⊢;have l:upd H1 x (.ins ay a (nZ c g)) x=some (.ins ay a (nZ c g)):=ag;have y:Off x H1 (upd H1 x (.ins ay a (nZ c g))):=Off.upd;have e:=i.dh y b;generalize upd H1 x (.ins ay a (nZ c g))=H2 at o l y e ⊢;have s:=ah.new o (.tup [.int 0]);refine bq (.inr (s.aJ e)) ?_;rw[di];refine⟨p,v.length,_,rfl,rfl,aH.of ag,by omega,fun n r J hn=>?_⟩
  have m:=J _ _ (s _ _ l);refine⟨x,a,_,rfl,m,by show 2<_;decide,?_⟩
  rw[J1];have M:Off x r (upd r x (.ins ay a (xb c g n))):=Off.upd;have d:Off x H1 (upd r x (.ins ay a (xb c g n))):=y.trans ((s.trans J).vk.trans M);refine q N _ (j.vk.trans d) ⟨⟨a,n,ag,?_⟩,i.dh d b,(j.aJ I).dh d b⟩;rw[List.map_replicate];exact hn.dh M m
theorem mB:DS (ai fB) ["self","hats"] ["self","hats"] ["are_hats","NoHats"]:=aN
theorem yS (B:Bn mg)(ER:ll K mg Hc er)(aZ:fi K mg "Hall" ay ["counts","groups","worn"])(D:mx K ay "put_all" "Hall.put_all" fB)(zb:Fn P w K mg base 1 "are_hats" ["counts","hats"] (Me K)):qX P w K mg base 2 ay "put_all" ["self","hats"] (vS K ay er):=by
 refine D.ge mB (by walk_at"hB") (by walk_at"hL") ?_
 intro X E S z u A y s hc F j hx G C hu H I Q h;subst z u A y s;obtain⟨a,hb,c,g,l,v,hs,J,rfl,f,p,i,t,q⟩:=h;obtain⟨e,n,m,hn⟩:=f.ex;refine⟨_,(ae (cG (sf (pC (cA S 0 zb C (ak (vQ aZ (kv S 0)) (af (kv S 1)))))) (aj (nY S 1 hc hx (ER.gl _ (by decide)) (ER.own _ (by decide) (by decide)) (af bj))) aA)
   (aj (O9 aZ (kv S 0) (kv S 1)))),?_⟩
 walk_at"d";refine⟨a,e,_,_,rfl,m,lq,c,hb,l,hs,rfl,f.OV,p,i,fun H1 d=>?_⟩;walk_at"d"
 cases r:cI l hs with
 | false=>
  walk_at"d";exact⟨by decide,t r H1 d⟩
 | true=>
  walk_at"d";have b:=d _ _ m;refine⟨a,e,_,rfl,b,by show 3<_;decide,?_⟩
  rw[Gb];have o:Off a H1 (upd H1 a (.ins ay e (xb c g hb))):=Off.upd;exact q r _ (d.vk.trans o) (f.off (d.vk.trans o) ⟨e,ag⟩ ((d.aJ p).dh o b))
theorem wz:DS (ai jB) ["self","i","colour"] ["self","i","colour"] ["NoName","len"]:=aN
theorem KL (B:Bn mg)(ER:ll K mg Hc er)(aZ:fi K mg "Hall" ay ["counts","groups","worn"])(D:mx K ay "put" "Hall.put" jB)(oZ:qX P w K mg base 2 ay "put_all" ["self","hats"] (vS K ay er)):qX P w K mg base 3 ay "put" ["self","i","colour"] (Gd K ay er):=by
 refine D.ge wz (by walk_at"hB") (by walk_at"hL") ?_
 intro X E S e1 W e3 e4 T hc hsc A hx O hr hu H vs Q h;subst e1 W e3 e4 T;obtain⟨a,c,g,I,b,us,i,d,rfl,p,U,s,M,F,q⟩:=h;obtain⟨l,n,m,hn⟩:=p.ex;refine⟨_,(ae (cG (sf (xM nh g9 aw (kv S 1) (c7 S 1 (aG rfl) B.len ro (af (vQ aZ (kv S 0)))))) (aj (nY S 0 hc hx (ER.gl _ (by decide)) (ER.own _ (by decide) (by decide)) (af bj))) aA)
   (aj (c8 (Rn aZ oZ O hr (kv S 0) (af (aR (h7 rfl) (aR (h7 rfl) (pB (iV rfl) (vQ aZ (kv S 0)) bD (bE (kv S 1))) (qy (af (kv S 2)))) (pB (iV rfl) (vQ aZ (kv S 0)) (bE (aR aU (kv S 1) aw)) bD))))))),?_⟩
 walk_at"d";refine bR (fun j=>?_) (fun j=>⟨by decide,M (fun z=>j z.1) H (ah.refl _)⟩)
 refine⟨a,l,_,_,rfl,m,lq,?_⟩;refine bq (.inr p.OV) ?_;rw[di];walk_at"d"
 by_cases h1:i<(I.length:Int)
 ·rw[ek h1];walk_at"d";obtain⟨k,rfl⟩:∃ k:Nat,i=(k:Int):=⟨i.toNat,by omega⟩
  have hk:k<b.length:=by omega
  rw[zm] at F q;refine⟨a,l,_,rfl,m,vR,a,l,_,_,rfl,m,mU,?_⟩;refine sk k hn rfl (by omega) fun t1 o=>?_
  have s1:=ah.new o (.tup ((b.take k).map V.int));walk_at"d";refine⟨by decide,fun t2 u=>?_⟩
  have C:=ah.new u (.tup [.int d]);refine sx (ns:=b.take k) (ms:=[d]) (aH.of (C _ _ ag)) (aH.of ag) (bZ (by rw[qN];show _+1<=100;omega)) fun t3 H3 R Z=>?_
  have f:=s1.trans (C.trans R);have v:=f _ _ m;refine⟨a,l,_,_,rfl,v,mU,?_⟩;refine sr k (f.aJ hn) (by omega) (by omega) fun t4 y=>?_
  have J:=ah.new y (.tup ((b.drop (k+1)).map V.int));refine sx (ns:=b.take k++[d]) (ms:=b.drop (k+1)) (J.aJ Z) (aH.of ag) (bZ (by rw[fz,qN,tz];show _+1+_<=100;omega)) fun Y H5 s5 G=>?_
  have e:=f.trans (J.trans s5);have es:b.take k++[d]++b.drop (k+1)=b.set k d:=by
   rw[List.set_eq_take_append_cons_drop,if_pos hk,sU];rfl
  rw[es] at G;exact⟨a,Y,c,g,I,b,b.set k d,us,rfl,p.mono e,G,s,fun z t s6=>F ⟨j,h1⟩ z t (e.trans s6),fun z t N r=>q ⟨j,h1⟩ z t (e.vk.trans N) r⟩
 ·rw[eG h1];walk_at"d";exact⟨by decide,M (fun z=>h1 z.2) H (ah.refl _)⟩
theorem CB (B:Bn mg)(aZ:fi K mg "Hall" ay ["counts","groups","worn"])(D:mx K ay "guess" "Hall.guess" gR)(pT:Fn P w K mg base 3 "group_guess" ["counts","groups","hats","i"] (QU K)):qX P w K mg base 4 ay "guess" ["self","i"] (n9 K ay):=by
 have zY:DS (ai gR) ["self","i"] ["self","i"] ["group_guess"]:=aN;walk_at"hH";obtain⟨a,c,g,p,hs,l,r,L,i,rfl,d,o,b,j,m,hi,q⟩:=h;obtain⟨e,n,f,hn⟩:=d.ex;refine⟨_,(aj (aK (cA S 0 pT hr (ak (vQ aZ (kv S 0)) (ak (vQ aZ (kv S 0)) (ak (vQ aZ (kv S 0)) (af (kv S 1)))))))),?_⟩;walk_at"d";exact⟨a,e,_,_,rfl,f,lq,a,e,_,_,rfl,f,qY,a,e,_,_,rfl,f,mU,c,g,n,p,hs,l,r,L,i,rfl,d.OV,d.Pe,o,hn,b,j,m,hi,q⟩
def rq (K:Frag)(C:Addr):Sp:=fun b H Q _=>∃ (a c g:Addr) (cs hs:List Int) (ws:List Nat) (us:List V) (L:List (Bool × List Nat)),b=[.ref a]/\cj K C H a c g cs us hs/\GF K H us L/\bW cs/\HN cs hs cs.length/\BN cs ws L/\∀ (l:Addr) (H':Hp),ah H H'->H l=none->H' l=some (.lst ((aD (ir cs hs L)).map V.int))->Q (.ref l) H'
theorem CC (B:Bn mg)(aZ:fi K mg "Hall" ay ["counts","groups","worn"])(D:mx K ay "right" "Hall.right" gS)(gU:qX P w K mg base 4 ay "guess" ["self","i"] (n9 K ay)):qX P w K mg base 5 ay "right" ["self"] (rq K ay):=by
 have zY:DS (ai gS) ["self"] ["self"] ["enumerate"]:=aN;walk_at"hH";obtain⟨a,c,g,m,hs,z,O,L,rfl,u,F,f,j,J,q⟩:=h;obtain⟨v,n,y,hn⟩:=u.ex;refine⟨_,(aj (aK (i7 S hc hsc (Ce false S 0 B.enumerate rfl (af (vQ aZ (kv S 0)))) (N:=["i","colour","self"]) (W:=["i","colour"]) (G:=[]) (fv:=[none,none,some 0]) (by decide +kernel) (fun Q C T s H d=>⟨(jX rfl (K:=X.K) (n:=2) rfl (aS (kg d 0) (aS (kg d 1) c6))),(gp (aV aP (Rn aZ gU md hr (kv d 2) (af (kv d 0))) (kv d 1) (au _))),(kv d 0)⟩)))),?_⟩
 walk_at"d";refine⟨a,v,_,_,rfl,y,mU,?_⟩;refine RG (fun i=>decide (x9 m L hs i=hs.getD i 0)) (fun i=>(i:Int)) hn (by rw[j.1];exact aC (by have:=f.len;omega)) ?_ ?_
 ·intro i H1 A R hi p l M;rw[j.1] at hi;walk_at"d";refine⟨a,v,_,rfl,p _ _ y,vR,a,c,g,m,hs,z,O,L,i,rfl,u.mono p,F.mono p,f,j,J,hi,fun t r=>?_⟩;walk_at"d"
  by_cases e:x9 m L hs i=hs.getD i 0
  ·rw[if_pos e];exact l (ek e) t r
  ·rw[if_neg e];exact M (eG e) t r
 ·intro o H1 E I b;rw[j.1] at b;exact q o H1 I E b
theorem KN (D:Def K mg "fits" yN)(gj:Fn P w K mg base 1 "is_name" ["word"] kh)(jD:Fn P w K mg base 1 "is_count" ["word"] k8):Fn P w K mg base 2 "fits" ["part","word"] GC:=by
 have zY:DS (ai yN) ["part","word"] ["part","word"] ["is_name","is_count"]:=aN;walk_at"hH";obtain⟨p,z,rfl,hz,q⟩:=h;unfold qZ at q;refine⟨_,(ae (cG (aV aP (kv S 0) bj (au _)) (aj (aK (cA S 0 gj hr (af (kv S 1))))) aA)
   (aj (aK (TJ (jV aP (kv S 1) bj (au _)) (xK (cA S 1 jD hr (af (kv S 1)))))))),?_⟩
 walk_at"d";refine bR (fun c=>?_) (fun c=>?_)
 ·rw[if_pos c] at q;exact⟨z,rfl,hz,q⟩
 ·rw[if_neg c] at q;refine bR (fun a=>?_) (fun a=>?_)
  ·rw[ek a,Bool.true_or] at q;exact q H (ah.refl _)
  ·rw[eG a,Bool.false_or] at q;exact⟨z,rfl,hz,q⟩
variable {aF:Addr}{eF:Nat->Addr}
theorem Hk (B:Bn mg)(FT:tM P w K mg aF eF)(D:Def K mg "is_ask" oI)(OZ:Fn P w K mg base 2 "fits" ["part","word"] GC):Fn P w K mg base 3 "is_ask" ["words"] (AL K eF):=by
 have zY:DS (ai oI) ["words","form","behind"] ["words"] ["FORMS","all","len","zip"]:=aN;walk_at"hH";obtain⟨p,x,g,f,b,rfl,j,hv,hx,o,J,hz,E,c,q⟩:=h;refine⟨_,(ae (cG (Rz FT.pN (c9 (kv S 0)) (Rx S 0 FT.gl) (by with_unfolding_all rfl)) (aj (aK HB)) aA)
   (ae (bg S 1 (Ry FT.pN (Rx S 0 FT.gl) (c9 (kv S 0))))
   (ae (bg S 2 (pB (cP rfl) (kv S 0) (bE aw) bD))
   (aj (aK (pA (jV aP (c7 S 2 (aG rfl) B.len ro (af (kv S 2))) (c7 S 2 (aG rfl) B.len ro (af (kv S 1))) (au _)) (xK (c7 S 1 (cK hc rfl) B.all boot_all (af (i7 S hc hsc (RD false true S 3 B.zip rfl (ak (kv S 1) (af (kv S 2)))) (N:=["part","word"]) (W:=["part","word"]) (G:=["fits"]) (fv:=[none,none]) (by decide +kernel) (fun F C M s H d=>⟨(jX rfl (K:=X.K) (n:=2) rfl (aS (kg d 0) (aS (kg d 1) c6))),bp,(cA d 0 OZ hr (ak (kv d 0) (af (kv d 1))))⟩))))))))))),?_⟩
 walk_at"d";refine av (i:=((0:Nat):Int)) j (ax rfl) ?_;refine⟨.inr g,trivial,rfl,?_⟩;rw[hv];walk_at"d";rw[if_neg (by simp)]
 refine av (i:=((0:Nat):Int)) j (ax rfl) ?_;refine⟨.inr g,_,trivial,rfl,hv,?_⟩;refine⟨p,_,rfl,j,fun a v=>?_⟩;rw[show (some (1:Int))=some ((1:Nat):Int) from rfl,dv,<-UB]
 have y:=ah.new v (.lst (b.map V.str));refine bq (.inl (aB.of ag)) ?_;refine bq (.inr (c _)) ?_;rw[di,di];simp only[zJ,uW];rw[if_pos (ek (by show ((b.length:Nat):Int)=_;rw[o]))]
 refine RF (fun _=>.bl true) (c _) (aB.of ag) (by rw[di,di];exact o.symm) (by rw[di];exact aC (by omega)) ?_ ?_
 ·intro i H1 A hi I u;rw[di] at hi;have m:i<((g::b).drop 1).length:=by show i<b.length;omega
  rw[show (f.map V.str).getD i .br=.str (f.getD i ba) by rw[cc,aX hi];rfl,show (((g::b).drop 1).map V.str).getD i .br=.str (b.getD i ba) by rw[cc,aX m];rfl]
  walk_at"d";refine⟨_,_,rfl,hz _ (getD_memS (show i<b.length by omega)),fun t r=>?_⟩
  rw[E i hi];exact u t r
 ·intro l H1 hn z e;refine⟨l,(List.range (f.map V.str).length).map fun _=>true,rfl,aB.of (by rw[e,kJ];rfl),?_⟩
  rw[show ((List.range (f.map V.str).length).map fun _=>true).all id=true from kf.mpr fun x hx=>by obtain⟨_,_,rfl⟩:=j9.mp hx;rfl]
  exact q H1 (y.trans z)
theorem uc:DS (ai iI) ["names","name"] ["names","name"] ["NoName"]:=aN
theorem OQ (B:Bn mg)(ER:ll K mg Hc er)(D:Def K mg "number_of" iI):Se P w K mg base 1 "number_of" ["names","name"] (Mj K er):=by
 refine D.ge uc (by walk_at"hB") (by walk_at"hL") ?_
 intro X E S f n g e i hc l c hx o s hu H r Q h;subst f n g e i;obtain⟨p,d,z,rfl,a,b,j,q⟩:=h;refine⟨_,(ae (cG (aV (iW rfl) (kv S 1) (kv S 0) (by with_unfolding_all rfl)) (aj (nY S 0 hc hx (ER.gl _ (by decide)) (ER.own _ (by decide) (by decide)) (af bj))) aA)
   (aj (aK (Tf PySem.F.plainAttrs_tuple slot_tuple_index PySem.F.type_tuple_index (yB rfl) rfl (kv S 0) (af (kv S 1)))))),?_⟩
 walk_at"d";refine Fo (neg:=true) (.inr a) ?_
 by_cases m:z∈d
 ·rw[if_pos rfl,ek m];walk_at"d";exact⟨⟨p,rfl,b⟩,p,d,z,rfl,rfl,a,m,q m H (ah.refl _)⟩
 ·rw[if_pos rfl,eG m];walk_at"d";exact⟨by decide,j m H (ah.refl _)⟩
theorem CD (B:Bn mg)(D:Def K mg "named" ky):Fn P w K mg base 1 "named" ["names","people"] (vZ K):=by
 have zY:DS (ai ky) ["names","people"] ["names","people"] ["len"]:=aN;walk_at"hH";obtain⟨p,f,v,l,rfl,o,hv,g,q⟩:=h;refine⟨_,(ae (cG (HC (O6 (aV sG (kv S 1) pz (au _)) (By (aV aP (c7 S 0 (aG rfl) B.len ro (af (kv S 1))) aw (au _))))) (aj (aK (eY bL))) aA)
   (aj (aK (eY (af (jW IR Ur type_str_join (cR rfl) rfl bj (af (i7 S hc hsc (dI (kv S 1) rfl) (N:=["i","names"]) (W:=["i"]) (G:=[]) (fv:=[none,some 0]) (by decide +kernel) (fun Q C T s H r=>⟨(kg r 0),bp,(mK (cW rfl) (kv r 1) (kv r 0) (fun _ _=>rfl))⟩))))))))),?_⟩
 rcases hv with ⟨rfl,rfl⟩ | ⟨a,rfl,n⟩
 ·walk_at"d";refine⟨by decide,fun t b=>?_⟩
  exact q t _ (ah.new b _) b ag
 ·walk_at"d";refine bq (.inr n) ?_;rw[di,ao];walk_at"d";refine bR (fun c=>?_) (fun c=>?_)
  ·have e:l=[]:=List.length_eq_zero_iff.mp (by omega)
   subst e;refine⟨by decide,fun t b=>?_⟩
   exact q t _ (ah.new b _) b ag
  ·have e:l≠[]:=fun z=>c (by rw[z];rfl)
   walk_at"d";refine⟨rfl,a,rfl,⟨_,n⟩,uB (fY n) (fun _=>true) (fun i=>.str (f.getD (l.getD i 0) ba)) (by rw[di,ao];exact aC (by have:=g.fD;omega)) ?_ ?_⟩
   ·intro i H1 A R hi M I _;rw[di,ao] at hi;rw[dQ hi];walk_at"d";refine aQ (M.aJ o) (ax (aX (g.lt _ (dR hi)))) ?_;exact I rfl _ (ah.refl _)
   intro m H1 hn E d;rw[bK,di,ao,dg (fun j=>V.str (f.getD j ba)),show (l.map fun j=>V.str (f.getD j ba))=(l.map fun j=>f.getD j ba).map V.str by rw[kJ];rfl] at d
   have y:=namesW g;have O:=g.fD;have h1:=eV 32 12 _ y;have J:=fK 12 _ y;rw[di] at h1 J;have u:(1000:Nat)<=sizeLine:=by decide
   refine⟨_,m,l.map fun j=>f.getD j ba,rfl,rfl,aB.of d,?_,?_,?_⟩
   ·rw[bu];show ((l.map fun j=>f.getD j ba).map fun z=>z.length+1).sum<=_
    omega
   ·rw[bu];omega
   rw[bu];refine⟨by decide,fun t b=>?_⟩
   refine q t _ (E.trans (ah.new b _)) (E.free b) ?_;rw[ag];unfold ez;rw[if_neg e];rfl
theorem CF (B:Bn mg)(D:Def K mg "named" ky):Fn P w K mg base 1 "named" ["names","people"] (v3 K):=by
 have zY:DS (ai ky) ["names","people"] ["names","people"] ["len"]:=aN;walk_at"hH";obtain⟨p,a,d,l,rfl,o,n,g,q⟩:=h;refine⟨_,(ae (cG (HC (O6 (aV sG (kv S 1) pz (au _)) (By (aV aP (c7 S 0 (aG rfl) B.len ro (af (kv S 1))) aw (au _))))) (aj (aK (eY bL))) aA)
   (aj (aK (eY (af (jW IR Ur type_str_join (cR rfl) rfl bj (af (i7 S hc hsc (cQ (kv S 1) rfl) (N:=["i","names"]) (W:=["i"]) (G:=[]) (fv:=[none,some 0]) (by decide +kernel) (fun O C R s H r=>⟨(kg r 0),bp,(mK (cW rfl) (kv r 1) (kv r 0) (fun _ _=>rfl))⟩))))))))),?_⟩
 walk_at"d";refine bq (.inl n) ?_;rw[di,ao];walk_at"d";refine bR (fun c=>?_) (fun c=>?_)
 ·have e:l=[]:=List.length_eq_zero_iff.mp (by omega)
  subst e;refine⟨by decide,fun t f=>?_⟩
  exact q t _ (ah.new f _) f ag
 ·have e:l≠[]:=fun z=>c (by rw[z];rfl)
  walk_at"d";refine⟨rfl,a,rfl,⟨_,n⟩,uB (cV n) (fun _=>true) (fun i=>.str (d.getD (l.getD i 0) ba)) (by rw[di,ao];exact aC (by have:=g.fD;omega)) ?_ ?_⟩
  ·intro i H1 A Q hi J E _;rw[di,ao] at hi;rw[dQ hi];walk_at"d";refine aQ (J.aJ o) (ax (aX (g.lt _ (dR hi)))) ?_;exact E rfl _ (ah.refl _)
  intro m H1 hn y b;rw[bK,di,ao,dg (fun j=>V.str (d.getD j ba)),show (l.map fun j=>V.str (d.getD j ba))=(l.map fun j=>d.getD j ba).map V.str by rw[kJ];rfl] at b
  have v:=namesW g;have M:=g.fD;have h1:=eV 32 12 _ v;have I:=fK 12 _ v;rw[di] at h1 I;have u:(1000:Nat)<=sizeLine:=by decide
  refine⟨_,m,l.map fun j=>d.getD j ba,rfl,rfl,aB.of b,?_,?_,?_⟩
  ·rw[bu];show ((l.map fun j=>d.getD j ba).map fun z=>z.length+1).sum<=_
   omega
  ·rw[bu];omega
  rw[bu];refine⟨by decide,fun t f=>?_⟩
  refine q t _ (y.trans (ah.new f _)) (y.free f) ?_;rw[ag];unfold ez;rw[if_neg e];rfl
theorem KO (D:Def K mg "shown_share" fW)(ug:Fn P w K mg base 2 "share" ["counts"] (sy K)):Fn P w K mg base 3 "shown_share" ["counts"] (GH K):=by
 have zY:DS (ai fW) ["counts","told","over","under"] ["counts"] ["share"]:=aN;walk_at"hH";obtain⟨p,d,rfl,e,a,q⟩:=h;refine⟨_,(ae (bg S 1 (cA S 0 ug hr (af (kv S 0))))
   (ae (bg S 2 (iD (kv S 1)))
   (ae (bg S 3 (iD (kv S 1)))
   (aj (aK (LR (gF (JT (kv S 2)) (gF bj (gF (JT (kv S 3)) FG))))))))),?_⟩
 walk_at"d";refine⟨p,d,rfl,e,a,fun t H1 g c=>?_⟩;refine aQ (i:=((0:Nat):Int)) (aH.of c) (ax rfl) ?_;refine aQ (i:=((1:Nat):Int)) (aH.of c) (ax rfl) ?_;obtain⟨l,f⟩:=gH (xR a) (NP a) (by decide)
 obtain⟨n,j⟩:=gH (show 0<=O7 d by have:=nz a;omega) (Ex a) (by decide)
 have b:(1000:Nat)<=sizeLine:=by decide
 have m:(Str.ofString "/").length=1:=by decide +kernel
 have le:∀ i,(Str.ofString (toString i))=gG i:=fun _=>rfl;walk_at"d";refine .inr ⟨_,rfl,f,_,rfl,?_,?_⟩
 ·rw[le,empty_app];omega
 walk_at"d";refine⟨_,rfl,?_,?_⟩
 ·rw[le,empty_app,aE];omega
 refine .inr ⟨_,rfl,j,_,rfl,?_,?_⟩
 ·rw[le,le,empty_app,aE,aE];omega
 walk_at"d";refine⟨?_,?_⟩
 ·rw[le,le,empty_app,aE,aE];omega
 rw[le,le,empty_app];exact q H1 g
theorem OR (B:Bn mg)(D:Def K mg "shown_group" fX):Fn P w K mg base 1 "shown_group" ["names","kind","people"] (Ml K):=by
 have zY:DS (ai fX) ["names","kind","people"] ["names","kind","people"] []:=aN;walk_at"hH";obtain⟨p,a,c,⟨b,l⟩,rfl,n,E,o,q⟩:=h;have r:l.length<=8:=o.fD;refine⟨_,(aj (aK (jW IR Ur type_str_join (cR rfl) rfl bj (af (aR (dE rfl) (eY (af (kv S 1))) (i7 S hc hsc (dI (kv S 2) rfl) (N:=["i","names"]) (W:=["i"]) (G:=[]) (fv:=[none,some 0]) (by decide +kernel) (fun Y C fp s H u=>⟨(kg u 0),bp,(mK (cW rfl) (kv u 1) (kv u 0) (fun _ _=>rfl))⟩))))))),?_⟩
 walk_at"d";refine⟨rfl,by decide,fun t R=>?_⟩
 have f:=ah.new R (.lst [.str (kd b)]);have e:upd H t (.lst [.str (kd b)]) t=some (.lst [.str (kd b)]):=ag;generalize upd H t (.lst [.str (kd b)])=H1 at f e ⊢;refine⟨a,rfl,⟨_,f.aJ E⟩,uB (fY (f.aJ E)) (fun _=>true) (fun i=>.str (c.getD (l.getD i 0) ba)) (by rw[di,ao];exact aC (ka r (by decide))) ?_ ?_⟩
 ·intro i M A Z hi T O _;rw[di,ao] at hi;rw[dQ hi];walk_at"d";refine aQ (T.aJ (f.aJ n)) (ax (aX (o.lt _ (dR hi)))) ?_;exact O rfl _ (ah.refl _)
 intro g M hn J d;rw[bK,di,ao,dg (fun j=>V.str (c.getD j ba)),show (l.map fun j=>V.str (c.getD j ba))=(l.map fun j=>c.getD j ba).map V.str by rw[kJ];rfl] at d
 have X:[V.str (kd b)]++(l.map fun j=>c.getD j ba).map V.str=(kd b::l.map fun j=>c.getD j ba).map V.str:=rfl;refine⟨t,g,_,_,rfl,rfl,aB.of (J _ _ e),aB.of d,by rw[di,di];exact bZ (by show 1+_<=100;omega),fun U v=>?_⟩
 rw[X];have m:=ah.new v (.lst ((kd b::l.map fun j=>c.getD j ba).map V.str));have I:∀ x∈kd b::l.map (fun j=>c.getD j ba),x.length<=12:=fun x hx=>by
  rcases gz.mp hx with rfl | hx
  ·cases b<;>decide +kernel
  ·exact namesW o x hx
 have h1:=eV 32 12 _ I;have Q:=fK 12 _ I;rw[pb,di] at h1 Q;have y:(1000:Nat)<=sizeLine:=by decide
 refine⟨_,U,_,rfl,rfl,aB.of ag,?_,?_,?_⟩
 ·rw[bu];show ((kd b::l.map fun j=>c.getD j ba).map fun z=>z.length+1).sum<=_
  omega
 ·rw[bu];omega
 rw[bu];exact q _ (f.trans (J.trans m))
theorem CG (B:Bn mg)(D:Def K mg "told_of" lI)(iR:Fn P w K mg base 5 "made_sure" ["counts","groups"] (xZ K))(pU:Fn P w K mg base 3 "shown_share" ["counts"] (GH K))(pV:Fn P w K mg base 1 "shown_group" ["names","kind","people"] (Ml K))(mY:Fn P w K mg base 1 "named" ["names","people"] (vZ K))(gT:Fn P w K mg base 3 "sight_ring" ["web"] (yG K))(pW:Fn P w K mg base 3 "sight_order" ["web"] (Qy K))(um:Fn P w K mg base 2 "shown_book" ["book"] (vW K))(lQ:Fn P w K mg base 1 "rows_of" ["text"] yn):Fn P w K mg base 6 "told_of" ["book","groups","ask"] (AV K):=by
 have zY:DS (ai lI) ["book","groups","ask","names","counts","web"] ["book","groups","ask"] ["str","made_sure","shown_share","named","sight_ring","sight_order","rows_of","shown_book"]:=aN;walk_at"hH";obtain⟨b,g,m,F,v,us,L,hs,k,rfl,hb,R,hL,D,q⟩:=h;obtain⟨a1,a2,a3,h0,h1,h1t,h2,h3⟩:=id hb;have P:=D.xf;have M:=P.Cg;have h8:=P.nm.fD;refine⟨_,(ae (bg S 3 (iD (kv S 0)))
   (ae (bg S 4 (iD (kv S 0)))
   (ae (bg S 5 (iD (kv S 0)))
   (ae (cG (aV aP (kv S 2) bj (au _)) (aj (aK (eY (af (nu S 0 dB B.str boot_str (af (cA S 1 iR hr (ak (kv S 4) (af (kv S 1)))))))))) aA)
   (ae (cG (aV aP (kv S 2) bj (au _)) (aj (aK (eY (af (cA S 2 pU hr (af (kv S 4))))))) aA)
   (ae (cG (aV aP (kv S 2) bj (au _)) (aj (aK (i7 S hc hsc (dI (kv S 1) rfl) (N:=["kind","people","names"]) (W:=["kind","people"]) (G:=["shown_group"]) (fv:=[none,none,some 3]) (by decide +kernel) (fun cl C fp s H I=>⟨(jX rfl (K:=X.K) (n:=2) rfl (aS (kg I 0) (aS (kg I 1) c6))),bp,(cA I 0 pV hr (ak (kv I 2) (ak (kv I 0) (af (kv I 1)))))⟩)))) aA)
   (ae (cG (aV aP (kv S 2) bj (au _)) (aj (aK (cA S 3 mY hr (ak (kv S 3) (af (cA S 4 gT hr (af (kv S 5)))))))) aA)
   (ae (cG (aV aP (kv S 2) bj (au _)) (aj (aK (cA S 3 mY hr (ak (kv S 3) (af (cA S 5 pW hr (af (kv S 5)))))))) aA)
   (aj (aK (cA S 6 lQ hr (af (cA S 7 um hr (af (kv S 0))))))))))))))),?_⟩
 walk_at"i";refine aQ (i:=((0:Nat):Int)) h0 (ax rfl) ?_;walk_at"i";refine aQ (i:=((1:Nat):Int)) h0 (ax rfl) ?_;walk_at"i";refine aQ (i:=((2:Nat):Int)) h0 (ax rfl) ?_;walk_at"s";have bb:∀ g∈L,Jt (aD F).length g:=fun g R=>⟨(D.best.1.each g R).ok.lt,D.g8 g R⟩;have hfew:=D.fD
 cases k with
 | sure=>
  walk_at"h";rw[if_pos (show jg .sure=Str.ofString "sure" from rfl)]
  refine⟨_,_,_,us,L,rfl,h2,R,hL.gl,M,bb,by omega,fun H1 d=>?_⟩
  have hsum:=D.best.1.sum;have U:0<=(L.map (pF (aD F))).sum:=D.best.1.nn;have e1:(L.map (vn (aD F))).sum=(L.map (pF (aD F))).sum:=rfl;rw[e1];walk_at"s";obtain⟨c1,c2⟩:=gH U (D.Kj) (by decide)
  refine⟨_,rfl,c2,?_⟩;walk_at"s";refine⟨by decide,fun t Q=>?_⟩
  exact q t _ _ (d.trans (ah.new Q _)) (d.free Q) ag rfl
 | share=>
  walk_at"h";rw[if_neg (show ¬ jg .share=Str.ofString "sure" by decide)]
  walk_at"h";rw[if_pos (show jg .share=Str.ofString "share" from rfl)]
  refine⟨_,_,rfl,h2,M,fun H1 d=>?_⟩;walk_at"s";refine⟨by decide,fun t Q=>?_⟩
  exact q t _ _ (d.trans (ah.new Q _)) (d.free Q) ag rfl
 | groups=>
  walk_at"h";rw[if_neg (show ¬ jg .groups=Str.ofString "sure" by decide)]
  walk_at"h";rw[if_neg (show ¬ jg .groups=Str.ofString "share" by decide)]
  walk_at"h";rw[if_pos (show jg .groups=Str.ofString "groups" from rfl)]
  refine S5 (GB m) R hL.gl (aC (by omega)) ?_ ?_
  ·intro i gg p H1 A hi hS hp hA;walk_at"s";exact⟨_,p,m,gg,rfl,hS.aJ h1,hp,D.names (gc hi),fun f j=>hA f j⟩
  ·intro Z H1 Y d T;exact q Z _ H1 d Y T rfl
 | ring=>
  walk_at"h";rw[if_neg (show ¬ jg .ring=Str.ofString "sure" by decide)]
  walk_at"h";rw[if_neg (show ¬ jg .ring=Str.ofString "share" by decide)]
  walk_at"h";rw[if_neg (show ¬ jg .ring=Str.ofString "groups" by decide)]
  walk_at"h";rw[if_pos (show jg .ring=Str.ofString "ring" from rfl)]
  refine⟨_,v,rfl,h3,by rw[P.lw];exact h8,P.Mm,fun H1 d=>⟨fun c=>?_,fun c r o u oc od O=>?_⟩⟩
  ·exact⟨_,m,_,[],rfl,d.aJ h1,.inl ⟨rfl,rfl⟩,⟨P.Pc,(fun _ z=>nomatch z),zero_le _⟩,fun a f j E e=>q a _ f (d.trans j) (d.free E) e (.inl ⟨c,rfl⟩)⟩
  ·exact⟨_,m,_,iB v,rfl,d.aJ h1,.inr ⟨r,rfl,.inl (.inr ⟨o,u⟩)⟩,AN P O,fun a f j E e=>q a _ f (d.trans j) (d.free E) e (.inr ⟨c,rfl,O⟩)⟩
 | order=>
  walk_at"h";rw[if_neg (show ¬ jg .order=Str.ofString "sure" by decide)]
  walk_at"h";rw[if_neg (show ¬ jg .order=Str.ofString "share" by decide)]
  walk_at"h";rw[if_neg (show ¬ jg .order=Str.ofString "groups" by decide)]
  walk_at"h";rw[if_neg (show ¬ jg .order=Str.ofString "ring" by decide)]
  walk_at"h";rw[if_pos (show jg .order=Str.ofString "order" from rfl)]
  refine⟨_,v,rfl,h3,by rw[P.lw];exact h8,fun H1 d=>⟨fun c=>?_,fun c r u=>?_⟩⟩
  ·exact⟨_,m,_,[],rfl,d.aJ h1,.inl ⟨rfl,rfl⟩,⟨P.Pc,(fun _ z=>nomatch z),zero_le _⟩,fun a f j E e=>q a _ f (d.trans j) (d.free E) e (.inl ⟨c,rfl⟩)⟩
  ·exact⟨_,m,_,laidOut v,rfl,d.aJ h1,.inr ⟨r,rfl,aH.of u⟩,oq P,fun a f j E e=>q a _ f (d.trans j) (d.free E) e (.inr ⟨c,rfl⟩)⟩
 | book=>
  walk_at"h";rw[if_neg (show ¬ jg .book=Str.ofString "sure" by decide)]
  walk_at"h";rw[if_neg (show ¬ jg .book=Str.ofString "share" by decide)]
  walk_at"h";rw[if_neg (show ¬ jg .book=Str.ofString "groups" by decide)]
  walk_at"h";rw[if_neg (show ¬ jg .book=Str.ofString "ring" by decide)]
  walk_at"h";rw[if_neg (show ¬ jg .book=Str.ofString "order" by decide)]
  walk_at"s";refine⟨b,m,F,v,rfl,hb,P,fun H1 d=>?_⟩;have hM:=fG P;have hML:(bV m v).length<=16:=ka lj (by omega)
  have J:((bV m v).map (gE m F)).length<=100:=by rw[di];omega
  have hbl:=iZ (hM.qS P) J;have y:=gD (hM.qS P);refine⟨_,rfl,by omega,by rw[y,di];omega,fun l f j hl0 hl=>?_⟩
  exact q l _ f (d.trans j) (d.free hl0) hl rfl
theorem lL:DS (ai bN) ["self","text","counts","web"] ["self","text"] ["read_book","Hall","best_groups"]:=aN
theorem lM:bindM "__init__" "Desk.__init__" bN "self" "text":=fun T kV a d c b ct u v=>⟨⟨_,by with_unfolding_all rfl,fun _=>by with_unfolding_all rfl⟩,⟨_,by with_unfolding_all rfl,fun _=>by with_unfolding_all rfl⟩⟩
variable {aI:Addr}
theorem Hl (B:Bn mg)(ER:ll K mg Hc er)(aZ:fi K mg "Hall" ay ["counts","groups","worn"])(bO:fi K mg "Desk" aI ["book","hall"])(D:vV K aI "__init__" "Desk.__init__" bN "")(wJ:Fn P w K mg base 4 "read_book" ["text"] (AI K))(pX:Fn P w K mg base 7 "best_groups" ["counts","web"] (Ms K))(mC:qX P w K mg base 5 ay "__init__" ["self","counts","web","groups"] (AE K ay er)):Gs P w K mg base 8 aI "__init__" "self" "text" "" (oy K ay aI):=by
 refine D.gq lL lM (by walk_at"hL") ?_
 walk_at"hI";obtain⟨x,j,M,ns,d,s,rfl,hx,hM,ab,hb,P,q⟩:=h;refine⟨_,(ae (O9 bO (kv S 0) (cA S 0 wJ hr (af (kv S 1))))
   (ae (bg S 2 (iD (vQ bO (kv S 0))))
   (ae (bg S 3 (iD (vQ bO (kv S 0))))
   (aj (O9 bO (kv S 0) (TM S 1 aZ mC md hr (ak (kv S 2) (ak (kv S 3) (af (cA S 2 pX hr (ak (kv S 2) (af (kv S 3))))))))))))),?_⟩
 walk_at"i";refine⟨M,_,rfl,hM,ab,hb,fun t H1 I ht=>?_⟩;have A:=I _ _ hx;walk_at"s";refine⟨x,j,[],rfl,A,by decide,?_⟩
 rw[Kc];have v:Off x H1 (upd H1 x (.ins aI j (vX t))):=Off.upd;have a:upd H1 x (.ins aI j (vX t)) x=some (.ins aI j (vX t)):=ag;have o:=ht.dh v A;generalize upd H1 x (.ins aI j (vX t))=H2 at v a o ⊢;obtain⟨a1,a2,a3,h0,h1,h1t,h2,h3⟩:=id o;walk_at"i";refine rh (a) vY ?_;refine aQ (i:=((1:Nat):Int)) h0 (ax rfl) ?_;walk_at"i";refine rh (a) vY ?_;refine aQ (i:=((2:Nat):Int)) h0 (ax rfl) ?_;walk_at"s";have p:=P.Cg;have C:s.length=(aD d).length:=by rw[P.lw,P.len]
 refine⟨_,_,aD d,s,rfl,h2,h3,p,C,P.Mm,fun g us J F hg T hB=>?_⟩;generalize eL:ko (aD d) s=L at T hB;intro y m hy Q aa;have h8:=P.nm.fD;have D:bI ns d s L (List.replicate d.length 0):=by
  refine⟨P,hB,?_⟩;rw[show (List.replicate d.length (0:Int))=List.replicate (aD d).length 0 by rw[ao]]
  exact HN.Ov p.pos
 have r:ah J (upd (upd J m (.own y)) y (.ins ay m [])):=(ah.new Q _).trans (ah.new (by rw[aq (Ne.symm aa)];exact hy) _)
 have l:upd (upd J m (.own y)) y (.ins ay m []) y=some (.ins ay m []):=ag;generalize upd (upd J m (.own y)) y (.ins ay m [])=H4 at r l ⊢;have c:=F.trans r;refine⟨y,m,_,_,g,aD d,s,us,gI L,rfl,l,c.aJ h2,c.aJ h3,r.aJ hg,(T.mono r).gi,C,by rw[P.len];exact h8,?_,by rw[Ow];have:=D.fD;omega,fun z=>absurd (GJ hB.1) z,fun _ G N hH=>⟨rfl,?_⟩⟩
 ·intro z hz;unfold gI at hz;obtain⟨g0,hg0,rfl⟩:=j9.mp hz
  have:=D.g8 g0 hg0
  show (aD g0.2).length<=30;rw[ao];omega
 have aF:=c _ _ a;have O:y≠x:=fun e=>by
  have:=F _ _ a
  rw[<-e,hy] at this;cases this
 have f:=N x _ O.symm aF;refine⟨x,j,_,rfl,f,by show 1<_;decide,?_⟩
 rw[Ke];have E:Off x G (upd G x (.ins aI j (Kb t y))):=Off.upd;have Z:=((o.mono c).dh N l).dh E f;have U:=((T.mono r).dh N l).dh E f;have Y:Off x H (upd G x (.ins aI j (Kb t y))):=fun b u n e=>by
  have e4:=c _ _ (v b u n (I _ _ e));have R:b≠y:=fun z=>by
   have:=F _ _ (v b u n (I _ _ e))
   rw[z,hy] at this;cases this
  exact E b u n (N b u R e4)
 have hH':cj X.K ay G y a2 g (aD d) us (List.replicate d.length 0):=by rw[ao] at hH;exact hH
 have W:H y=none:=by
  cases e:H y with
  | none=>rfl
  | some u=>
   have:=F _ _ (v y u O (I _ _ e))
   rw[hy] at this;cases this
 exact q _ y L Y W eL.symm ⟨⟨j,t,ag,Z⟩,_,g,us,hH'.Kf E f O,U⟩ D
theorem wA:DS (ai jC) ["self","line","words","names"] ["self","line"] ["is_ask","NoAsk","number_of","int","str","named","told_of"]:=aN
theorem OS (B:Bn mg)(ER:ll K mg Hc er)(aZ:fi K mg "Hall" ay ["counts","groups","worn"])(bO:fi K mg "Desk" aI ["book","hall"])(FT:tM P w K mg aF eF)(D:mx K aI "ask" "Desk.ask" jC)(Hv:Fn P w K mg base 3 "is_ask" ["words"] (AL K eF))(mn:Se P w K mg base 1 "number_of" ["names","name"] (Mj K er))(zc:qX P w K mg base 3 ay "put" ["self","i","colour"] (Gd K ay er))(gU:qX P w K mg base 4 ay "guess" ["self","i"] (n9 K ay))(uo:qX P w K mg base 5 ay "right" ["self"] (rq K ay))(mY:Fn P w K mg base 1 "named" ["names","people"] (v3 K))(CN:Fn P w K mg base 6 "told_of" ["book","groups","ask"] (AV K)):qX P w K mg base 7 aI "ask" ["self","line"] (tR K ay aI er):=by
 refine D.ge wA (by walk_at"hB") (by walk_at"hL") ?_
 intro X E S e1 e2 e3 e4 e5 hc hsc hown hx hp G hu H vs Q h;subst e1 e2 e3 e4 e5;obtain⟨d,Y,r,U,ws,L,hs,a,rfl,hD,D,ha,q⟩:=h;have P:=D.xf;have h8:=P.nm.fD;have A:=P.Cg;obtain⟨w1,w2,w3⟩:=lx P ha;obtain⟨⟨dx,b,hd,hb⟩,c,g,us,hH,hL⟩:=id hD;obtain⟨a1,a2,a3,h0,h1,aa,h2,h3⟩:=id hb;have R:=fg 32 w1 fun x hx=>(w2 x hx).1;have hjl:=eV 32 30 _ fun x hx=>(w2 x hx).2;have hj3:(dk r a).length*31<=3*31:=FS _ w3;have hbig:(1000:Nat)<=sizeLine:=by decide
 refine⟨_,(ae (bg S 2 (jW IR Ux type_str_split eO rfl (kv S 1) (af bj)))
   (ae (cG (sf (pC (cA S 0 Hv G (af (kv S 2))))) (aj (nY S 1 hc hx (ER.gl _ (by decide)) (ER.own _ (by decide) (by decide)) (af bj))) aA)
   (ae (bg S 3 (iD (vQ bO (kv S 0))))
   (ae (cG (aV aP (c9 (kv S 2)) bj (au _)) (ae (c8 (Rn aZ zc hp G (vQ bO (kv S 0)) (ak (Ti S 2 mn hp G (ak (kv S 3) (af (c9 (kv S 2))))) (af (nu S 3 j8 B.int boot_int (af (c9 (kv S 2))))))))
   (aj (aK (eY bL)))) aA)
   (ae (cG (aV aP (c9 (kv S 2)) bj (au _)) (aj (aK (eY (af (nu S 4 dB B.str boot_str (af (Rn aZ gU md G (vQ bO (kv S 0)) (af (Ti S 2 mn hp G (ak (kv S 3) (af (c9 (kv S 2))))))))))))) aA)
   (ae (cG (aV aP (c9 (kv S 2)) bj (au _)) (aj (aK (cA S 5 mY G (ak (kv S 3) (af (SU aZ uo md G (vQ bO (kv S 0)))))))) aA)
   (aj (aK (cA S 6 CN G (ak (vQ bO (kv S 0)) (ak (vQ aZ (vQ bO (kv S 0))) (af (c9 (kv S 2)))))))))))))),?_⟩
 walk_at"i";rw[bu];refine⟨rfl,_,_,rfl,rfl,by decide,by omega,by rw[R];omega,fun p hp0=>?_⟩
 rw[R];have s1:=ah.new hp0 (.lst ((dk r a).map V.str));have y:upd H p (.lst ((dk r a).map V.str)) p=some (.lst ((dk r a).map V.str)):=ag;generalize upd H p (.lst ((dk r a).map V.str))=H1 at s1 y ⊢;walk_at"i";obtain⟨fx,w0,ff,fb,ew,hv,f1,f2,f3,f4,f5⟩:=GN FT P ha;refine⟨p,fx,w0,ff,fb,rfl,aB.of (by rw[y,ew]),hv,f5 _,f1,f2,f3,f4,f5,fun H2 s2=>?_⟩
 have f:=s1.trans s2;have hD2:=hD.mono f;have s:=f _ _ hd;have m:aB X.K H2 p ((dk r a).map V.str):=aB.of (s2 _ _ y);have T:=hH.mono f;obtain⟨hdx,n,hh,hn⟩:=T.ex;clear y hv f1 f2 f3 f4 f5 ew R hjl hj3 w1 w2 w3;walk_at"i";refine rh (s) AJ ?_;refine aQ (i:=((0:Nat):Int)) (f.aJ h0) (ax rfl) ?_;walk_at"i"
 cases a with
 | told k=>
  obtain⟨n1,n2,n3,_,_⟩:=yE k;refine av (i:=((0:Nat):Int)) m (ax rfl) ?_;walk_at"s";rw[if_neg n1];walk_at"h";refine av (i:=((0:Nat):Int)) m (ax rfl) ?_;walk_at"s";rw[if_neg n2];walk_at"h";refine av (i:=((0:Nat):Int)) m (ax rfl) ?_;walk_at"s";rw[if_neg n3];walk_at"s";refine⟨d,dx,_,_,rfl,s,AJ,d,dx,_,_,rfl,s,mV,Y,hdx,_,_,rfl,hh,qY,?_⟩;refine av (i:=((0:Nat):Int)) m (ax rfl) ?_;exact⟨b,g,r,U,ws,us,L,hs,k,rfl,hb.mono f,T.Pe,hL.mono f,D,fun l rows H3 C hl0 J v=>q l rows H3 (f.trans C) (f.free hl0) J v⟩
 | right=>
  refine av (i:=((0:Nat):Int)) m (ax rfl) ?_;walk_at"s";rw[if_neg (by decide)]
  walk_at"h";refine av (i:=((0:Nat):Int)) m (ax rfl) ?_;walk_at"s";rw[if_neg (by decide)]
  walk_at"h";refine av (i:=((0:Nat):Int)) m (ax rfl) ?_;walk_at"s";refine rh (s) mV (v8 (hh) vR ?_);refine⟨Y,_,g,aD U,hs,ws,us,L,rfl,T,hL.mono f,A,D.da,D.Kh,fun l H3 C hl0 J=>?_⟩;have j:=f.trans C;exact⟨_,l,r,_,rfl,j.aJ h1,aB.of J,rf P,fun a I Z ha0 ha1=>q a I (j.trans Z) (j.free ha0) ha1⟩
 | du i=>
  have hi:i<r.length:=ha;have O:i<(aD U).length:=by rw[P.len];exact hi
  have hm:r.getD i ba∈r:=getD_memS hi;have N:r.idxOf (r.getD i ba)=i:=by
   rw[cc,cv hi];exact P.nm.nd.idxOf_getElem i hi
  refine av (i:=((0:Nat):Int)) m (ax rfl) ?_;walk_at"s";rw[if_neg (by decide)]
  walk_at"h";refine av (i:=((0:Nat):Int)) m (ax rfl) ?_;walk_at"s";refine rh (s) mV (v8 (hh) vR ?_);refine av (i:=((1:Nat):Int)) m (ax rfl) ?_;refine⟨_,r,_,rfl,f.aJ h1,aa.mono f,fun z=>absurd hm z,fun _ H3 C=>?_⟩;rw[N];have j:=f.trans C;refine⟨Y,_,g,aD U,hs,ws,us,L,i,rfl,hH.mono j,hL.mono j,A,D.da,D.Kh,O,fun I Z=>?_⟩;obtain⟨g1,g2⟩:=GO A D.da D.Kh O;refine⟨_,rfl,(gH g1 g2 (by decide)).2,?_⟩
  walk_at"s";refine⟨by decide,fun t v=>?_⟩
  have s14:=j.trans Z;exact q t _ (s14.trans (ah.new v _)) (s14.free v) ag
 | put i M=>
  obtain⟨hi,hcol⟩:i<r.length/\M<10 ^ 30:=ha;have O:i<(aD U).length:=by rw[P.len];exact hi
  have hm:r.getD i ba∈r:=getD_memS hi;have N:r.idxOf (r.getD i ba)=i:=by
   rw[cc,cv hi];exact P.nm.nd.idxOf_getElem i hi
  obtain⟨_,c2,_,c4⟩:=iy hcol;refine av (i:=((0:Nat):Int)) m (ax rfl) ?_;walk_at"i";refine rh (s) mV (v8 (hh) vR ?_);refine av (i:=((1:Nat):Int)) m (ax rfl) ?_;refine⟨_,r,_,rfl,f.aJ h1,aa.mono f,fun z=>absurd hm z,fun _ H3 C=>?_⟩;rw[N];have j:=f.trans C;refine av (i:=((2:Nat):Int)) (C.seq m) (ax rfl) ?_;refine⟨_,_,rfl,c2,by omega,?_⟩
  refine⟨Y,c,g,aD U,hs,us,(i:Int),(M:Int),rfl,hH.mono j,D.da.1,by have:=A.len;omega,fun z=>absurd ⟨natCast_nonneg i,by omega⟩ z,fun _ z I Z=>?_,fun _ z I o4 W=>?_⟩
  ·rw[zm] at z;exact q.1 z I (j.trans Z)
  ·rw[zm] at z W;walk_at"s";refine⟨by decide,fun t v=>?_⟩
   obtain⟨hx0,n0,hh0,_⟩:=hH.ex;have hh3:=j _ _ hh0;obtain⟨hx4,n4,hh4,_⟩:=W.ex;have hdn:=hD.ne;have st:=ah.new v (.lst []);have o:Off Y H I:=fun b u ne e=>o4 b u ne (j _ _ e);have htn:H t=none:=by
    cases e:H t with
    | none=>rfl
    | some u=>
     by_cases z:t=Y
     ·rw[z,hh4] at v;cases v
     ·rw[o t u z e] at v;cases v
   have hD4:bc X.K ay aI I d Y r U ws L (hs.set i (M:Int)):=⟨⟨dx,b,o d _ hdn hd,(hb.mono j).dh o4 hh3⟩,c,g,us,W,(hL.mono j).dh o4 hh3⟩;exact q.2 z t _ (fun b u ne e=>st _ _ (o b u ne e)) htn ag (hD4.mono st)
theorem CH (B:Bn mg)(D:Def K mg "_law_draws" iJ):Fn P w K mg base 1 "_law_draws" ["cell","count"] il:=by
 have zY:DS (ai iJ) ["cell","count","number","drawn","k"] ["cell","count"] ["range"]:=aN;walk_at"hH";obtain⟨e,n,rfl,hn,q⟩:=h;refine⟨_,(ae (bg S 2 (bG (Ek (aR aU (bG (kv S 0)) aw))))
   (ae (bg S 3 (eY bL))
   (ae (eZ hxe hc (jY S 0 B.range (af (kv S 1))) (kg S 4) (ae (bg S 2 (bG (Ek (kv S 2))))
   (aj (c8 (jW rr mo oo bw rfl (kv S 3) (af (qx (bG (aR dC (kv S 2) (kv S 2))))))))))
   (aj (aK (kv S 3)))))),?_⟩
 walk_at"d";refine⟨by decide,fun l i=>?_⟩
 refine forR n (Q2 H e n l) rfl (by omega) ⟨_,[],_,rfl,ah.new i _,ag,rfl,(fun x hx=>nomatch hx)⟩ ?_ ?_
 ·rintro k σ H1 hk ⟨b,f,y,rfl,g,c,a,d⟩;walk_at"d";have j:=emod_nonneg (b*45742) (show (2147483543:Int)≠0 by decide)
  have h1:=emod_lt_of_pos (b*45742) (show (0:Int)<2147483543 by decide)
  generalize b*45742 % 2147483543=nm at j h1 ⊢;refine⟨.inl ⟨rfl,_,aB.of c⟩,rW (by omega) (by omega),?_⟩
  refine⟨l,_,_,rfl,rfl,c,by rw[di];exact aC (by omega),?_⟩
  refine⟨_,f++[nm*nm % 2147483579 / 7],_,rfl,g.set i _,by rw[ag,hO];rfl,by rw[fz,a];rfl,fun x hx=>?_⟩
  rcases kb.mp hx with z | z
  ·exact d x z
  ·rw[ea.mp z];omega
 ·rintro σ H1 ⟨b,f,y,rfl,g,c,a,d⟩;walk_at"d";exact q l f H1 g i c a d
theorem Hm (B:Bn mg)(D:Def K mg "_law_fresh" iK):Fn P w K mg base 1 "_law_fresh" ["number","size"] Am:=by
 have zY:DS (ai iK) ["number","size","letters","name","k"] ["number","size"] ["range"]:=aN;walk_at"hH";obtain⟨b,n,rfl,hn,q⟩:=h;refine⟨_,(ae (bg S 2 bj)
   (ae (bg S 3 bj)
   (ae (eZ hxe hc (jY S 0 B.range (af (kv S 1))) (kg S 4) (ae (bg S 0 (bG (aR aU (Ek (kv S 0)) aw)))
   (aj (bg S 3 (aR aY (kv S 3) (mK xx (kv S 2) (bG (qx (kv S 0))) (fun _ _=>rfl)))))))
   (aj (aK (kv S 3)))))),?_⟩
 walk_at"d";refine forR n (Q3 H n) rfl (by omega) ⟨_,_,_,rfl,rfl,rfl,(fun c hc=>nomatch hc)⟩ ?_ ?_
 ·rintro k σ H1 hk ⟨b,z,y,rfl,rfl,hz,a⟩;walk_at"d";obtain⟨c,e,d⟩:=Fq (i:=(b*48271+11) % 2147483647 / 23 % 26) (by omega) (by omega)
  refine⟨kZ,_,c,rfl,rfl,by decide +kernel,e,?_⟩
  refine⟨_,_,rfl,rfl,?_,?_⟩
  ·show z.length+1<=sizeLine
   have:(100:Nat)<=sizeLine:=by decide
   omega
  ·exact⟨_,z++⟨#[c]⟩,_,rfl,rfl,by rw[aE,hz];rfl,a.append d⟩
 ·rintro σ H1 ⟨b,z,y,rfl,rfl,hz,a⟩;walk_at"d";exact q z hz a
theorem lN {A B:TS}{D:Ends}{σ:L2.St}{H:Hp}(I:L2.St->Hp->Prop)(h2:∀ σ' H',I σ' H'->B D σ' H')(h1:∀ R:L2.St->Hp->Prop,(∀ σ' H',I σ' H'->R σ' H')->A {D with nx:=R} σ H):Bb A B D σ H:=h1 (B D) h2
theorem cO {dn:List Int}{H:Hp}{dr:Addr}{i:Int}{m:Nat}{Q:VK}(hd:H dr=some (.lst (dn.map V.int)))(hl:dn.length=m)(hnn:∀ x∈dn,0<=x)(h0:0<=i)(h1:i<m)(q:∀ x:Int,0<=x->Q (.int x) H):uQ K (.ref dr) (.int i) H Q:=by
 obtain⟨m,rfl⟩:=q7 h0;have hm:m<dn.length:=by omega
 exact av (aB.of hd) (ax (by rw[ey,cv hm];rfl)) (q _ (hnn _ (oD hm)))
def Hn (H0:Hp)(cell:Int)(n:Nat)(sm dr:Addr)(base:Str)(a:Nat)(l:Addr)(dn:List Int)(k:Nat)(σ:L2.St)(H:Hp):Prop:=∃ (ns:List Str) (name:Str) (y3 y4:Option V),σ=[some (.int cell),some (.int n),some (.str kZ),some (.ref sm),some (.ref dr),some (.str base),some (.int a),some (.ref l),some (.int k),some (.str name),y3,y4]/\ah H0 H/\H l=some (.lst (ns.map V.str))/\H sm=some (.lst (l9.map V.str))/\H dr=some (.lst (dn.map V.int))/\JH ns k/\(1<=k->ns≠[])/\bH name=true
theorem KP {ns:List Str}{k:Nat}{x:Str}(h:JH ns k)(hx:bH x=true)(hn:x∉ns):JH (ns++[x]) (k+1) where
 fD:=by rw[fz];have:=h.fD;simp;omega
 nd:=Uc.mpr ⟨h.nd,by simp,fun a c b hb=>by rw[ea.mp hb];rintro rfl;exact hn c⟩
 nm:=fun y hy=>by
  rcases kb.mp hy with z | z
  ·exact h.nm y z
  ·rw[ea.mp z];exact hx
theorem oQ {ns:List Str}{k m:Nat}(h:JH ns k)(hk:k<=m):JH ns m:=⟨ka h.fD hk,h.nd,h.nm⟩
def C9:Str:="abcdefghijkl"
theorem Ho:i9 C9:=by
 have h:∀ c∈cz C9,Fi c=true:=by decide +kernel
 exact h
theorem ud:C9.length=12:=by decide +kernel
theorem Hq (B:Bn mg)(D:Def K mg "_law_names" iL)(bS:Fn P w K mg base 1 "_law_draws" ["cell","count"] il)(mq:Fn P w K mg base 1 "_law_fresh" ["number","size"] Am):Fn P w K mg base 2 "_law_names" ["cell","size"] An:=by
 have zY:DS (ai iL) ["cell","size","letters","some","drawn","base","at","names","k","name","sign","width"] ["cell","size"] ["_law_draws","_law_fresh","len","range"]:=aN;walk_at"hH";obtain⟨t,n,rfl,hn1,hn,q⟩:=h;refine⟨_,(ae (bg S 2 bj)
   (ae (bg S 3 (eY (zV (ns:=["hat","sees","put","guess","right","ring","order","book","sure","share","groups"]) (by decide +kernel))))
   (ae (bg S 3 (aR (dE rfl) (kv S 3) (eY (ak bj (af bj)))))
   (ae (bg S 4 (cA S 0 bS hr (ak (kv S 0) (af aw))))
   (ae (bg S 5 (cA S 1 mq hr (ak (c9 (kv S 4)) (af (aR aU aw (bG (c9 (kv S 4))))))))
   (ae (bg S 6 (aR cL (c9 (kv S 4)) (c7 S 2 gm B.len ro (af (kv S 5)))))
   (ae (bg S 7 (eY bL))
   (ae (eZ hxe hc (jY S 3 B.range (af (kv S 1))) (kg S 8) (ae (bg S 9 (cA S 1 mq hr (ak (eC (kv S 4) (aR aU aw (kv S 8))) (af (aR aU aw (bG (eC (kv S 4) (aR aU aw (kv S 8)))))))))
   (ae (cG (aV g9 (bG (c9 (kv S 4))) aw (au _)) (ae (bg S 10 (mK xx (kv S 2) (bG (aR aU (c9 (kv S 4)) (aR dC (kv S 8) (eC (eY (r9 (ns:=[1,3,5,7,9,11]) (by decide +kernel))) (bG (c9 (kv S 4))))))) (fun _ _=>rfl)))
   (aj (bg S 9 (aR aY (aR aY (pB sN (kv S 5) bD (bE (kv S 6))) (kv S 10)) (pB sN (kv S 5) (bE (aR aU (kv S 6) aw)) bD))))) aA)
   (ae (cG (aV aP (bG (c9 (kv S 4))) aw (au _)) (aj (bg S 9 (eC (kv S 3) (bG (aR aU (c9 (kv S 4)) (El (kv S 8))))))) aA)
   (ae (cG (aV aP (bG (c9 (kv S 4))) aw (au _)) (ae (bg S 11 (aR aU aw (bG (aR aU (El (kv S 8)) (c9 (kv S 4))))))
   (aj (bg S 9 (eC (eY (ak (pB sN (aR aY (kv S 5) bj) bD (bE (kv S 11))) (af (pB sN (aR aY bj (kv S 5)) (bE (NM jl (kv S 11))) bD)))) (bG (c9 (kv S 4))))))) aA)
   (aj (cG (aV (iW rfl) (kv S 9) (kv S 7) (by with_unfolding_all rfl)) (aj (c8 (jW rr mo oo bw rfl (kv S 7) (af (kv S 9))))) aA)))))))
   (aj (aK (kv S 7))))))))))),?_⟩
 walk_at"i";walk_at"i";refine⟨by decide,fun s0 hs0=>?_⟩
 have a0:=ah.new hs0 (.lst [V.str "hat",V.str "sees",V.str "put",V.str "guess",V.str "right",V.str "ring",V.str "order",V.str "book",V.str "sure",V.str "share",V.str "groups"]);walk_at"i";refine⟨by decide,fun s1 hs1=>?_⟩
 have a1:=ah.new hs1 (.lst [V.str "circle",V.str "hats"]);refine⟨s0,s1,_,_,rfl,rfl,aB.of (a1 _ _ ag),aB.of ag,by decide,fun X hsm=>?_⟩
 have a2:=ah.new hsm (.lst (l9.map V.str));walk_at"i";have b0:=a0.trans (a1.trans a2);have hsm':upd (upd (upd H s0 (.lst [V.str "hat",V.str "sees",V.str "put",V.str "guess",V.str "right",V.str "ring",V.str "order",V.str "book",V.str "sure",V.str "share",V.str "groups"])) s1 (.lst [V.str "circle",V.str "hats"])) X (.lst (l9.map V.str)) X=some (.lst (l9.map V.str)):=ag;refine⟨t,40,rfl,by decide,fun dr dn H1 t1 hdr0 N p j=>?_⟩
 have b1:=b0.trans t1;have W:=t1 _ _ hsm';walk_at"i";refine cO N p j (by decide) (by decide) fun x0 hx0=>?_
 refine cO N p j (by decide) (by decide) fun x1 hx1=>?_
 walk_at"s";obtain⟨m,hm⟩:=q7 (show 0<=1+x1 % 12 by omega)
 refine⟨x0,m,by rw[hm],by omega,fun base hbl M=>?_⟩
 walk_at"i";refine cO N p j (by decide) (by decide) fun x2 hx2=>?_
 walk_at"s";refine⟨_,rfl,mM (by omega),?_⟩
 walk_at"s";refine⟨by omega,?_⟩
 have U:=emod_nonneg x2 (show ((base.length:Nat):Int)≠0 by omega)
 have Y:=emod_lt_of_pos x2 (show (0:Int)<((base.length:Nat):Int) by omega)
 generalize x2 % ((base.length:Nat):Int)=am at U Y ⊢;obtain⟨a,rfl⟩:=q7 U;walk_at"i";refine⟨by decide,fun l hl=>?_⟩
 walk_at"i";have sl:=ah.new hl (.lst []);refine forR n (Q4 H t n X dr base a l dn) rfl (by omega) ⟨[],_,_,_,_,rfl,b1.trans sl,ag,sl _ _ W,sl _ _ N,⟨by simp,by simp,fun x hx=>nomatch hx⟩,fun z=>absurd z (by decide)⟩ ?_ ?_
 ·rintro k σ H2 hk ⟨ns,y1,y2,y3,y4,rfl,J,f,d,b,g,s⟩;walk_at"i";refine cO b p j (by omega) (by omega) fun x3 hx3=>?_
  walk_at"s";refine cO b p j (by omega) (by omega) fun x4 hx4=>?_
  walk_at"s";obtain⟨m4,hm4⟩:=q7 (show 0<=1+x4 % 12 by omega)
  refine⟨x3,m4,by rw[hm4],by omega,fun r hbl' Z=>?_⟩
  have G:=mO Z (by omega) (by omega)
  walk_at"s";refine lN (Hn H t n X dr base a l dn k) ?_ (fun R O=>?_)
  rotate_left
  ·walk_at"s";refine cO b p j (by decide) (by decide) fun x5 hx5=>?_
   walk_at"s";refine bR (fun c=>?_) (fun c=>O _ _ ⟨ns,r,_,_,rfl,J,f,d,b,g,s,G⟩);walk_at"i";refine cO b p j (by decide) (by decide) fun x6 hx6=>?_
   walk_at"s";refine⟨by decide,fun o ho=>?_⟩
   have y:=ah.new ho (.lst [V.int 1,V.int 3,V.int 5,V.int 7,V.int 9,V.int 11]);refine cO (y _ _ b) p j (by decide) (by decide) fun x7 hx7=>?_
   walk_at"s";refine cO (dn:=[1,3,5,7,9,11]) (m:=6) ag rfl (by decide) (by omega) (by omega) fun x8 hx8=>?_
   walk_at"s";refine⟨rW (by omega) (by omega),?_⟩
   obtain⟨c',ec,hlc⟩:=Fq (i:=(x6+(k:Int)*x8) % 26) (by omega) (by omega)
   refine⟨kZ,_,c',rfl,rfl,by decide +kernel,ec,?_⟩
   walk_at"s";have h100:(1000:Nat)<=sizeLine:=by decide
   obtain⟨u,C⟩:∃ u,StrLaws.sliceText base none (some (a:Int))=u:=⟨_,rfl⟩;obtain⟨v,I⟩:∃ v,StrLaws.sliceText base (some ((a+1:Nat):Int)) none=v:=⟨_,rfl⟩;have E:=vC (x:=base) (k:=a) (by omega)
   have A:=yh (x:=base) (k:=a+1) (by omega)
   rw[C] at E;rw[I] at A;have hul:u.length=a:=by rw[aM,E,qN,<-aM];omega
   have hvl:v.length=base.length - (a+1):=by rw[aM,A,tz,<-aM]
   refine⟨base,rfl,by rw[C];omega,?_⟩
   rw[C];walk_at"s";refine⟨_,_,rfl,rfl,by rw[hul];show a+1<=_;omega,?_⟩
   refine⟨base,rfl,by rw[show ((a:Int)+1)=((a+1:Nat):Int) from rfl,I];omega,?_⟩
   rw[show ((a:Int)+1)=((a+1:Nat):Int) from rfl,I]
   have aa:(u++(⟨#[c']⟩:Str)).length=a+1:=by rw[aE,hul];rfl
   refine⟨_,_,rfl,rfl,by rw[aa];omega,?_⟩
   exact O _ _ ⟨ns,_,_,_,rfl,J.trans y,y _ _ f,y _ _ d,y _ _ b,g,s,mO (((vD M E).append hlc).append (vE M A)) (by rw[aE,aa];omega) (by rw[aE,aa];omega)⟩
  rintro σ3 H3 ⟨ns,r,y3,y4,rfl,J,f,d,b,g,s,G⟩;refine lN (Hn H t n X dr base a l dn k) ?_ (fun R O=>?_)
  rotate_left
  ·walk_at"s";refine cO b p j (by decide) (by decide) fun x5 hx5=>?_
   walk_at"s";refine bR (fun c=>?_) (fun c=>O _ _ ⟨ns,r,_,_,rfl,J,f,d,b,g,s,G⟩);walk_at"s";refine cO b p j (by decide) (by decide) fun x6 hx6=>?_
   walk_at"s";obtain⟨m6,hm6⟩:=q7 (show 0<=(x6+5*(k:Int)) % 13 by omega)
   have T:m6<l9.length:=by have:l9.length=13:=rfl;omega
   rw[hm6];refine av (aB.of d) (ax (aX T)) ?_;exact O _ _ ⟨ns,_,_,_,rfl,J,f,d,b,g,s,Fs _ (getD_memS T)⟩
  rintro σ3 H3 ⟨ns,r,y3,y4,rfl,J,f,d,b,g,s,G⟩;refine lN (Hn H t n X dr base a l dn k) ?_ (fun R O=>?_)
  rotate_left
  ·walk_at"s";refine cO b p j (by decide) (by decide) fun x5 hx5=>?_
   walk_at"s";refine bR (fun c=>?_) (fun c=>O _ _ ⟨ns,r,_,_,rfl,J,f,d,b,g,s,G⟩);walk_at"i";refine cO b p j (by decide) (by decide) fun x6 hx6=>?_
   walk_at"s";have h0:0<=(5*(k:Int)+x6) % 12:=by omega
   have h1:(5*(k:Int)+x6) % 12<12:=by omega
   generalize (5*(k:Int)+x6) % 12=wd at h0 h1 ⊢;obtain⟨Q,rfl⟩:=q7 h0;rw[show (1+(Q:Int))=((1+Q:Nat):Int) from rfl]
   have h100:(1000:Nat)<=sizeLine:=by decide
   have hb1:(base++C9).length=base.length+12:=by rw[aE,ud]
   have hb2:(C9++base).length=12+base.length:=by rw[aE,ud]
   obtain⟨u,C⟩:∃ u,StrLaws.sliceText (base++C9) none (some ((1+Q:Nat):Int))=u:=⟨_,rfl⟩;obtain⟨v,I⟩:∃ v,StrLaws.sliceText (C9++base) (some (-((1+Q:Nat):Int))) none=v:=⟨_,rfl⟩;have E:=vC (x:=base++C9) (k:=1+Q) (by omega)
   have A:=yi (x:=C9++base) (k:=1+Q) (by omega) (by omega)
   rw[C] at E;rw[I] at A;have hul:u.length=1+Q:=by rw[aM,E,qN,<-aM];omega
   have hvl:v.length=1+Q:=by rw[aM,A,tz,<-aM];omega
   refine⟨_,_,rfl,rfl,by rw[show (Str.ofString "abcdefghijkl")=C9 from rfl,ud];omega,?_⟩
   refine⟨_,rfl,by rw[show (Str.ofString "abcdefghijkl")=C9 from rfl,C];omega,?_⟩
   rw[show (Str.ofString "abcdefghijkl")=C9 from rfl,C]
   walk_at"s";refine⟨_,_,rfl,rfl,by rw[ud];omega,?_⟩
   walk_at"s";refine⟨_,rfl,by rw[I];omega,?_⟩
   rw[I];walk_at"s";refine⟨by decide,fun o ho=>?_⟩
   have y:=ah.new ho (.lst [V.str u,V.str v]);refine cO (y _ _ b) p j (by decide) (by decide) fun x7 hx7=>?_
   walk_at"s";have okU:=mO (vD (M.append Ho) E) (by omega) (by omega)
   have okV:=mO (vE (Ho.append M) A) (by omega) (by omega)
   rcases(show x7 % 2=0∨x7 % 2=1 by omega) with e | e
   ·rw[e];refine av (i:=((0:Nat):Int)) (aB.of ag) (ax rfl) ?_;exact O _ _ ⟨ns,_,_,_,rfl,J.trans y,y _ _ f,y _ _ d,y _ _ b,g,s,okU⟩
   ·rw[e];refine av (i:=((1:Nat):Int)) (aB.of ag) (ax rfl) ?_;exact O _ _ ⟨ns,_,_,_,rfl,J.trans y,y _ _ f,y _ _ d,y _ _ b,g,s,okV⟩
  rintro σ3 H3 ⟨ns,r,y3,y4,rfl,J,f,d,b,g,s,G⟩;walk_at"s";refine Fo (.inl (aB.of f)) ?_;walk_at"s"
  by_cases c:r∈ns
  ·rw[ek c];walk_at"s";exact⟨ns,_,_,_,_,rfl,J,f,d,b,oQ g (by omega),fun _ z=>by rw[z] at c;exact nomatch c⟩
  ·rw[eG c];walk_at"s";refine⟨.inl ⟨rfl,_,aB.of f⟩,?_⟩;refine⟨l,_,_,rfl,rfl,f,by rw[di];exact bZ (by have:=g.fD;omega),?_⟩
   have hl0:H l=none:=b1.free hl;have ne1:X≠l:=az W hl;have ne2:dr≠l:=az N hl;exact⟨ns++[r],_,_,_,_,rfl,J.set hl0 _,by rw[ag,hO];rfl,by rw[aq ne1];exact d,by rw[aq ne2];exact b,KP g G c,fun _=>by simp⟩
 ·rintro σ H2 ⟨ns,y1,y2,y3,y4,rfl,J,f,d,b,g,s⟩;walk_at"s";exact q l ns H2 J (b1.free hl) f (s hn1) g
theorem Hr (B:Bn mg)(D:Def K mg "_law_count" iM)(bS:Fn P w K mg base 1 "_law_draws" ["cell","count"] il):Fn P w K mg base 2 "_law_count" ["cell","k"] vF:=by
 have zY:DS (ai iM) ["cell","k","drawn","kind"] ["cell","k"] ["_law_draws"]:=aN;walk_at"hH";obtain⟨r,k,rfl,q⟩:=h;refine⟨_,(ae (bg S 2 (cA S 0 bS hr (ak (aR aU (qx (kv S 0)) (El (kv S 1))) (af aw))))
   (ae (bg S 3 (bG (c9 (kv S 2))))
   (ae (cG (aV aP (kv S 3) aw (au _)) (aj (aK (aR aU aw (aR cL (qx (kv S 0)) (aR cq (aR jk aw aw) aw))))) aA)
   (ae (cG (aV aP (kv S 3) aw (au _)) (aj (aK (eC (eY (ak aw (ak (aR cq (aR jk aw aw) aw) (ak (aR jk aw aw) (r9 (ns:=[2,9,10,99,100]) (by decide +kernel)))))) (bG (c9 (kv S 2)))))) aA)
   (ae (cG (aV aP (kv S 3) aw (au _)) (aj (aK (aR aU aw (aR cL (aR aU (aR aU (aR dC (c9 (kv S 2)) (aR jk aw aw)) (aR dC (c9 (kv S 2)) (aR jk aw aw))) (c9 (kv S 2))) (aR cq (aR jk aw aw) aw))))) aA)
   (aj (aK (aR aU aw (bG (c9 (kv S 2))))))))))),?_⟩
 walk_at"d";refine⟨_,6,rfl,by decide,fun N R H1 I t d b a=>?_⟩
 walk_at"d";have e:(10:Int) ^ toNat 30=1000000000000000000000000000000:=by decide +kernel
 have j:(10:Int) ^ toNat 29=100000000000000000000000000000:=by decide +kernel
 have G:(10:Nat) ^ 30=1000000000000000000000000000000:=by decide +kernel
 have f:∀ (x:Int) (i:Hp),0<x->x<1000000000000000000000000000000->ah H1 i->Q (.int x) i:=fun x i O h1 s=>by
  obtain⟨c,rfl⟩:=q7 (show 0<=x by omega)
  exact q c i (by omega) (by omega) (I.trans s)
 refine cO d b a (by decide) (by decide) fun T u=>?_
 walk_at"d";refine bR (fun c=>?_) (fun c=>?_)
 ·refine⟨by unfold kL;decide,by rw[e];decide,?_⟩
  rw[e];exact f _ _ (by omega) (by omega) (ah.refl _)
 refine bR (fun z=>?_) (fun z=>?_)
 ·refine⟨by unfold kL;decide,by unfold kL;decide,by decide,fun o H=>?_⟩
  rw[e,j];have p:=ah.new H (.lst [V.int 1,V.int (1000000000000000000000000000000 - 1),V.int 100000000000000000000000000000,V.int 2,V.int 9,V.int 10,V.int 99,V.int 100]);refine cO (p _ _ d) b a (by decide) (by decide) fun E v=>?_
  walk_at"d";obtain⟨m,hm⟩:=q7 (show 0<=E % 8 by omega)
  rw[hm];have hb:∀ x∈[(1:Int),1000000000000000000000000000000 - 1,100000000000000000000000000000,2,9,10,99,100],0<x/\x<1000000000000000000000000000000:=by decide +kernel
  have g:m < [(1:Int),1000000000000000000000000000000 - 1,100000000000000000000000000000,2,9,10,99,100].length:=by show m<8;omega
  refine av (aB.of ag) (ax (show ([(1:Int),1000000000000000000000000000000 - 1,100000000000000000000000000000,2,9,10,99,100].map V.int)[m]?=_ by rw[ey,cv g];rfl)) ?_
  have:=hb _ (oD g)
  exact f _ _ this.1 this.2 p
 refine bR (fun F=>?_) (fun F=>?_)
 ·refine cO d b a (by decide) (by decide) fun n l=>?_
  refine⟨by unfold kL;decide,?_⟩
  walk_at"d";refine⟨jT (by decide +kernel) (by decide +kernel),?_⟩
  refine cO d b a (by decide) (by decide) fun A M=>?_
  refine⟨by unfold kL;decide,?_⟩
  walk_at"d";refine⟨jT (by decide +kernel) (by decide +kernel),?_⟩
  refine cO d b a (by decide) (by decide) fun C J=>?_
  walk_at"d";refine⟨by unfold kL;decide,by rw[e];decide,?_⟩
  rw[e];generalize n*10 ^ toNat 18+A*10 ^ toNat 9+C=y;exact f _ _ (by omega) (by omega) (ah.refl _)
 ·refine cO d b a (by decide) (by decide) fun n l=>?_
  walk_at"d";exact f _ _ (by omega) (by omega) (ah.refl _)
theorem Hs (B:Bn mg)(D:Def K mg "_law_mixed_lines" dH):Fn P w K mg base 1 "_law_mixed_lines" ["book","drawn"] (As K):=by
 have zY:DS (ai dH) ["book","drawn","names","counts","web","lines","k","order","i","some","at","hats","first"] ["book","drawn"] ["range","len","str","list","max"]:=aN;walk_at"hH";obtain⟨b,dr,ns,f,ws,dn,rfl,⟨a1,a2,a3,hb,h1,h2,h3⟩,P,a0,a6,a5,q⟩:=h;have h8:=P.nm.fD;refine⟨_,(ae (En (kv S 0) (Q8 hc (K:=X.K) (n:=3) rfl (aS (kg S 2) (aS (kg S 3) (aS (kg S 4) c6)))))
   (ae (bg S 5 (eY bL))
   (ae (eZ hxe hc (jY S 0 B.range (af (c7 S 1 (aG rfl) B.len ro (af (kv S 2))))) (kg S 6) (aj (c8 (jW rr mo oo bw rfl (kv S 5) (af (aR aY (aR aY (aR aY bj (eC (kv S 2) (kv S 6))) bj) (nu S 2 dB B.str boot_str (af (eC (kv S 3) (kv S 6))))))))))
   (ae (bg S 7 (nu S 3 (fZ hc) B.list boot_list (af (nu S 0 j3 B.range boot_range (af (c7 S 1 (aG rfl) B.len ro (af (kv S 2))))))))
   (ae (cG (aV aP (bG (c9 (kv S 1))) aw (au _)) (aj (bg S 7 (Js (kv S 7) (NM jl aw) rfl))) aA)
   (ae (eZ hxe hc (cQ (kv S 7) rfl) (kg S 8) (ae (IZ (i:=9) S hc hsc (jY S 0 B.range (af (c7 S 1 (aG rfl) B.len ro (af (kv S 2))))) (N:=["j","web","i"]) (W:=["j"]) (G:=[]) (fv:=[none,some 4,some 8]) (by decide +kernel) (fun cl C fp s H r=>⟨(kg r 0),(gp (aV aP (bG (aR dD (mK (eh rfl) (kv r 1) (kv r 2) (fun _ _=>rfl)) (aR c5 aw (kv r 0)))) aw (au _))),(kv r 0)⟩) (by rw[hsc];decide +kernel) (by rw[eM,hsc];rfl))
   (aj (cG (aV (r8 hu rfl) (kv S 9) (eY bL) (au _)) (ae (bg S 10 (aR cL (eC (kv S 1) (aR aU aw (kv S 8))) (c7 S 1 (aG rfl) B.len ro (af (kv S 9)))))
   (ae (bg S 9 (aR (dE rfl) (pB (cP rfl) (kv S 9) (bE (kv S 10)) bD) (pB (cP rfl) (kv S 9) bD (bE (kv S 10)))))
   (ae (cG (aV aP (bG (eC (kv S 1) (aR aU aw (kv S 8)))) aw (au _)) (aj (bg S 9 (Js (kv S 9) (NM jl aw) rfl))) aA)
   (ae (IZ (i:=11) S hc hsc (cQ (aR (dE rfl) (kv S 9) (eY (af (kv S 8)))) rfl) (N:=["j","names","counts"]) (W:=["j"]) (G:=["str"]) (fv:=[none,some 2,some 3]) (by decide +kernel) (fun cl C fp s H r=>⟨(kg r 0),bp,(aR aY (aR aY (aR aY bj (mK (eh rfl) (kv r 1) (kv r 0) (fun _ _=>rfl))) bj) (nu r 0 dB B.str boot_str (af (mK (eh rfl) (kv r 2) (kv r 0) (fun _ _=>rfl)))))⟩) (by rw[hsc];decide +kernel) (by rw[eM,hsc];rfl))
   (ae (bg S 12 (aR aU aw (c7 S 4 (xY hc rfl) B.max boot_max (af (i7 S hc hsc (cQ (kv S 11) rfl) (N:=["hat","lines"]) (W:=["hat"]) (G:=[]) (fv:=[none,some 5]) (by decide +kernel) (fun cl C fp s H r=>⟨(kg r 0),bp,(jW rr slot_list_index PySem.F.type_list_index (BX rfl) rfl (kv r 1) (af (kv r 0)))⟩))))))
   (ae (bg S 10 (aR aU (kv S 12) (aR cL (eC (kv S 1) (aR aU aw (kv S 8))) (aR aU (aR cq (c7 S 1 (aG rfl) B.len ro (af (kv S 5))) (kv S 12)) aw))))
   (aj (c8 (jW rr PySem.F.slot_list_insert PySem.F.type_list_insert BW rfl (kv S 5) (ak (kv S 10) (af (jW IR Ur type_str_join (cR rfl) rfl bj (af (aR (dE rfl) (eY (ak bj (af (eC (kv S 2) (kv S 8))))) (i7 S hc hsc (cQ (kv S 9) rfl) (N:=["j","names"]) (W:=["j"]) (G:=[]) (fv:=[none,some 2]) (by decide +kernel) (fun cl C fp s H r=>⟨(kg r 0),bp,(mK (eh rfl) (kv r 1) (kv r 0) (fun _ _=>rfl))⟩)))))))))))))))) aA))))
   (aj (aK (kv S 5))))))))),?_⟩
 walk_at"i";refine⟨b,_,rfl,aB.of hb,rfl,?_⟩;refine⟨_,_,rfl,⟨_,_,rfl,⟨_,_,rfl,⟨rfl,?_⟩⟩⟩⟩;walk_at"s";have h1000:(1000:Nat)<=sizeLine:=by decide
 have el:(Str.ofString "hat ").length=4:=by decide +kernel
 have aZ:(Str.ofString " ").length=1:=by decide +kernel
 have hatF:∀ k,k<ns.length->bH (ns.getD k ba)=true/\(ns.getD k ba).length<=12/\(Str.ofString (toString ((f.getD k 0:Nat):Int))).length<=30/\((f.getD k 0:Nat):Int).natAbs.log2<1920:=fun k hk=>by
  have bb:bH (ns.getD k ba)=true/\0<f.getD k 0/\f.getD k 0<10 ^ 30:=sW P hk;refine⟨bb.1,(dG bb.1).2.2,iX (dO bb.2.1 bb.2.2).1,?_⟩;rw[Uy];exact(log2_lt (by omega)).mpr (T2 bb.2.2 (by decide +kernel))
 walk_at"h";refine⟨by decide,fun l hl=>?_⟩
 have sl:=ah.new hl (.lst []);walk_at"h";refine bq (.inl (aB.of (sl _ _ h1))) ?_;rw[di];refine forR ns.length (Q9 H b dr a1 a2 a3 l ns f) rfl (by omega) ⟨_,_,_,_,_,_,_,rfl,sl,ag⟩ ?_ ?_
 ·rintro k σ H2 hk ⟨y6,y7,y8,y9,I,J,O,rfl,hS,Y⟩;walk_at"s";refine⟨.inl ⟨rfl,_,aB.of Y⟩,?_⟩;obtain⟨f1,f2,f3,f4⟩:=hatF k hk;refine av (aB.of (hS _ _ h1)) (ax (aX hk)) ?_;refine⟨_,_,rfl,rfl,by rw[el];omega,?_⟩
  refine⟨_,_,rfl,rfl,by rw[aE,el,aZ];omega,?_⟩
  refine cY (aB.of (hS _ _ h2)) rfl (by rw[ao,P.lc];exact hk) ?_
  rw[aT];refine⟨_,rfl,f4,?_⟩;refine⟨_,_,rfl,rfl,by rw[aE,aE,el,aZ];omega,?_⟩
  rw[nP];refine⟨l,_,_,rfl,rfl,Y,by rw[di,di,di,kc];exact bZ (by omega),?_⟩
  refine⟨_,_,_,_,_,_,_,rfl,hS.set hl _,?_⟩;rw[ag,I3,hO,hO,hO];rfl
 rintro σ2 H2 ⟨y6,y7,y8,y9,I,J,O,rfl,hS2,Y⟩;walk_at"i";refine bq (.inl (aB.of (hS2 _ _ h1))) ?_;rw[di];refine⟨ns.length,rfl,by omega,fun rg hrg=>?_⟩
 have srg:=ah.new hrg (.HK 0 ns.length);refine⟨rg,ns.length,rfl,ag,by omega,fun o ho=>?_⟩
 have lo3:l≠o:=az (srg _ _ Y) ho;have so:=ah.new ho (.lst (((List.range ns.length).map fun i=>((i:Nat):Int)).map V.int));have s2o:=srg.trans so;have ho':upd (upd H2 rg (.HK 0 ns.length)) o (.lst (((List.range ns.length).map fun i=>((i:Nat):Int)).map V.int)) o=some (.lst ((aD (List.range ns.length)).map V.int)):=ag;have bl:=s2o _ _ Y;have a9:=hS2.trans s2o;generalize upd (upd H2 rg (.HK 0 ns.length)) o (.lst (((List.range ns.length).map fun i=>((i:Nat):Int)).map V.int))=H3 at ho' bl a9 ⊢;walk_at"s";refine lN (Rb H b dr a1 a2 a3 l ns f) ?_ (fun R hR=>?_)
 rotate_left
 ·walk_at"s";refine cO (a9 _ _ a0) a6 a5 (by decide) (by decide) fun x0 hx0=>?_
  walk_at"s";refine bR (fun c=>?_) (fun c=>hR _ _ ⟨o,_,_,_,_,_,_,_,rfl,a9,bl,ho',List.Perm.refl _,lo3⟩);refine⟨trivial,o,_,rfl,aB.of ho',fun o2 ho2=>?_⟩;have so2:=ah.new ho2 (.lst ((aD (List.range ns.length)).map V.int).reverse);refine hR _ _ ⟨o2,(List.range ns.length).reverse,_,_,_,_,_,_,rfl,a9.trans so2,so2 _ _ bl,?_,reverse_perm _,az bl ho2⟩;rw[ag];unfold aD;rw[<-P3,<-P3]
 rintro σ4 H4 ⟨o,od,y6,y8,y9,I,J,O,rfl,hS4,hl4,ho4,a7,lo⟩;have hodl:od.length=ns.length:=by rw[a7.length_eq,kc]
 have hodn:od.Nodup:=a7.nodup_iff.mpr UG;walk_at"h";have M0:=cZ.start (ns:=ns) (ws:=ws);refine forL (Ra H b dr a1 a2 a3 l o ns f ws od) (aB.of ho4) ⟨_,_,_,_,_,_,_,rfl,hS4,ho4,hl4,⟨M0.ok,M0.da,M0.nd,M0.pm,fun i=>by rw[M0.al i,take_zero];exact⟨fun z=>z.1.elim,(fun z=>nomatch z.1)⟩⟩,by rw[di,kc];omega⟩ (fun k σ H' h=>by obtain⟨M,y6,y8,y9,I,J,O,_,_,h,_⟩:=h;exact aB.of h) ?_ ?_
 ·rintro k σ H5 hk ⟨M,y6,y8,y9,I,J,O,rfl,T,ho5,hl5,Q,hMl⟩;rw[ao] at hk;rw[aT];have hi:od.getD k 0<ns.length:=by
   have:od.getD k 0∈od:=by rw[cc,cv hk];exact oD _
   exact ls.mp (a7.mem_iff.mp this)
  have hnd:=FF hodn hk;have htd:=BY hk;generalize od.getD k 0=i at hi hnd htd ⊢;walk_at"i";refine bq (.inl (aB.of (T _ _ h1))) ?_;rw[di];refine Qj ns.length (fun j=>decide (ws.getD i 0 / 2 ^ j % 2=1)) (fun j=>((j:Nat):Int)) rfl (by omega) ?_ ?_
  ·intro j H6 A B' hj hS6 hA hB;walk_at"s";refine cY (aB.of (hS6 _ _ (T _ _ h3))) rfl (by rw[ao,P.lw];exact hi) ?_
   rw[aT];walk_at"s";have hpj:0<2 ^ j:=Nat.pow_pos (by decide)
   have hj8:2 ^ j<=2 ^ 8:=ri (by decide) (by omega)
   refine⟨eI (by omega),⟨by omega,?_⟩,?_⟩
   ·rw[Uy];exact(log2_lt (by omega)).mpr (FM hj8 (Ul (by decide) (by decide)))
   refine bR (fun c=>?_) (fun c=>?_)
   ·exact hA (by rw[<-tD];exact c) _ (ah.refl _)
   ·exact hB (by rw[<-tD];exact Bool.eq_false_iff.mpr c) _ (ah.refl _)
  intro sa H6 hsa0 s6 aF;have aF:H6 sa=some (.lst ((aD (js ns.length (ws.getD i 0))).map V.int)):=aF;have hpm:(js ns.length (ws.getD i 0)).Perm (js ns.length (ws.getD i 0)):=List.Perm.refl _;have hS6:=T.trans s6;have ho6:=s6 _ _ ho5;have hl6:=s6 _ _ hl5;walk_at"s";refine⟨by decide,fun z hz=>?_⟩
  have sz:=ah.new hz (.lst []);refine⟨_,_,.lst (aB.of (sz _ _ aF)) (ee.ints _),.lst (aB.of ag) .nil,jU _,by decide,?_⟩
  rw[Jr];have ho7:=sz _ _ ho6;have hl7:=sz _ _ hl6;have Z:=hS6.trans sz;have v:=sz _ _ aF;generalize upd H6 z (.lst [])=H7 at ho7 hl7 Z v ⊢
  by_cases c0:js ns.length (ws.getD i 0)=[]
  ·rw[ek (show (aD (js ns.length (ws.getD i 0))).map PyData.int=[] by rw[c0];rfl)]
   walk_at"s";exact⟨M,_,_,_,_,_,_,rfl,Z,ho7,hl7,Q.skip c0 htd,by omega⟩
  rw[eG (show ¬ (aD (js ns.length (ws.getD i 0))).map PyData.int=[] from fun z=>c0 (List.map_eq_nil_iff.mp (List.map_eq_nil_iff.mp z)))]
  walk_at"s";generalize hbt:js ns.length (ws.getD i 0)=bt at c0 v ⊢;have hbl:0<bt.length:=O0.mpr c0;have hbl8:bt.length<=ns.length:=by
   rw[<-hbt];unfold js
   have:=C4 (fun j=>decide (ws.getD i 0 / 2 ^ j % 2=1)) (List.range ns.length)
   rw[kc] at this;exact this
  walk_at"h";refine cO (Z _ _ a0) a6 a5 (by omega) (by omega) fun x1 hx1=>?_
  refine bq (.inl (aB.of v)) ?_;rw[di,ao];walk_at"s";refine⟨by omega,?_⟩
  obtain⟨d,hat1,eat1⟩:∃ a:Nat,a<bt.length/\x1 % (bt.length:Int)=(a:Int):=by
   have h0:=emod_nonneg x1 (show (bt.length:Int)≠0 by omega)
   have h1:=emod_lt_of_pos x1 (show (0:Int)<(bt.length:Int) by omega)
   exact⟨(x1 % (bt.length:Int)).toNat,by omega,by omega⟩
  rw[eat1];walk_at"h";refine⟨sa,_,rfl,aB.of v,fun c1 hc1=>?_⟩;rw[dv,<-UB];have sc1:=ah.new hc1 (.lst (((aD bt).drop d).map V.int));refine⟨sa,_,rfl,aB.of (sc1 _ _ v),fun c2 hc2=>?_⟩;rw[kU,<-map_take];have sc2:=ah.new hc2 (.lst (((aD bt).take d).map V.int));refine su (ns:=(aD bt).drop d) (ms:=(aD bt).take d) (aB.of (sc2 _ _ ag)) (aB.of ag) (bZ (by rw[tz,qN,ao];omega)) fun c3 hc3=>?_
  have sc3:=ah.new hc3 (.lst (((aD bt).drop d++(aD bt).take d).map V.int));have E:=sc1.trans (sc2.trans sc3);have e3:(aD bt).drop d++(aD bt).take d=aD (bt.drop d++bt.take d):=by unfold aD;rw[hO,UB,map_take]
  rw[e3];have hp3:(bt.drop d++bt.take d).Perm bt:=by
   have:=List.perm_append_comm (l₁:=bt.drop d) (l₂:=bt.take d)
   rw[T7] at this;exact this
  walk_at"s";refine lN (Rc H7 b dr a1 a2 a3 l o i bt) ?_ (fun R hR=>?_)
  rotate_left
  ·walk_at"s";rw[e3] at E;refine cO (E _ _ (Z _ _ a0)) a6 a5 (by omega) (by omega) fun x2 hx2=>?_
   walk_at"s";refine bR (fun c=>?_) (fun c=>hR _ _ ⟨c3,_,_,_,_,_,rfl,E,ag,hp3⟩);refine⟨trivial,c3,_,rfl,aB.of ag,fun c4 hc4=>?_⟩;have sc4:=ah.new hc4 (.lst ((aD (bt.drop d++bt.take d)).map V.int).reverse);refine hR _ _ ⟨c4,(bt.drop d++bt.take d).reverse,_,_,_,_,rfl,E.trans sc4,?_,(reverse_perm _).trans hp3⟩;rw[ag];unfold aD;rw[P3,P3]
  rintro σ8 H8 ⟨s,e,y6,I,J,O,rfl,s8,hs8,hsm⟩;have hS8:=Z.trans s8;have hl8:=s8 _ _ hl7;have ho8:=s8 _ _ ho7;have hsml:e.length=bt.length:=hsm.length_eq;have hsmm:∀ j∈e,j<ns.length:=fun j hj=>by
   have:=hsm.mem_iff.mp hj
   rw[<-hbt] at this;exact(kj.mp this).1
  walk_at"h";refine⟨by decide,fun p hp=>?_⟩
  have sp:=ah.new hp (.lst [V.int (i:Int)]);refine su (ns:=aD e) (ms:=[(i:Int)]) (aB.of (sp _ _ hs8)) (aB.of ag) (bZ (by rw[ao];show _+1<=100;omega)) fun p2 hp2=>?_
  have e4:aD e++[(i:Int)]=aD (e++[i]):=by unfold aD;rw[hO];rfl
  rw[e4];have sp2:=ah.new hp2 (.lst ((aD (e++[i])).map V.int));have bo:∀ j∈e++[i],j<ns.length:=fun j hj=>by
   rcases kb.mp hj with z | z
   ·exact hsmm j z
   ·rw[ea.mp z];exact hi
  have hlenh:(e++[i]).length<=9:=by rw[fz];show _+1<=9;omega
  have aa:0<(e++[i]).length:=by rw[fz];show 0<_+1;omega
  have sp12:=sp.trans sp2;refine⟨p2,rfl,⟨_,aB.of ag⟩,uB (cV (aB.of ag)) (fun _=>true) (fun t=>.str (eP ns f (.dA ((e++[i]).getD t 0)))) (by rw[di,ao];exact aC (by omega)) ?_ ?_⟩
  ·intro t H9 A B' ht hS9 hA _;rw[di,ao] at ht;rw[dQ ht];have hj:=bo _ (dR ht);generalize (e++[i]).getD t 0=j at hj hA ⊢;have s9:ah H H9:=hS8.trans (sp12.trans hS9);walk_at"s";obtain⟨f1,f2,f3,f4⟩:=hatF j hj;refine av (aB.of (s9 _ _ h1)) (ax (aX hj)) ?_;refine⟨_,_,rfl,rfl,by rw[el];omega,?_⟩
   refine⟨_,_,rfl,rfl,by rw[aE,el,aZ];omega,?_⟩
   refine cY (aB.of (s9 _ _ h2)) rfl (by rw[ao,P.lc];exact hj) ?_
   rw[aT];refine⟨_,rfl,f4,?_⟩;refine⟨_,_,rfl,rfl,by rw[aE,aE,el,aZ];omega,?_⟩
   rw[nP];exact hA rfl _ (ah.refl _)
  intro ht H9 hht0 s9 ab;rw[bK,di,ao,dg (fun j=>V.str (eP ns f (.dA j)))] at ab;have ab:H9 ht=some (.lst (((e++[i]).map fun j=>eP ns f (.dA j)).map V.str)):=by rw[ab,kJ];rfl
  have aI:=sp12.trans s9;have hl9:=aI _ _ hl8;have ho9:=aI _ _ ho8;have hS9:=hS8.trans aI;have hs9:=aI _ _ hs8;walk_at"i";refine⟨ht,rfl,⟨_,aB.of ab⟩,uB (cV (aB.of ab)) (fun _=>true) (fun t=>.int (((M.map (eP ns f)).idxOf (eP ns f (.dA ((e++[i]).getD t 0))):Nat):Int)) (by rw[di,di];exact aC (by omega)) ?_ ?_⟩
  ·intro t H10 A B' u g hA _;rw[di,di] at u;have e5:(((e++[i]).map fun j=>eP ns f (.dA j)).map V.str).getD t .br=.str (eP ns f (.dA ((e++[i]).getD t 0))):=by
    rw[cc,ey,ey,cv u,cc,cv u];rfl
   rw[e5];walk_at"s";refine⟨.inl ⟨rfl,_,aB.of (g _ _ hl9)⟩,?_⟩;exact⟨l,_,_,rfl,rfl,aB.of (g _ _ hl9),(Q.idx P (bo _ (dR u))).1,hA rfl _ (ah.refl _)⟩
  intro ix H10 hix0 a8 hix;rw[bK,di,di,dg (fun j=>V.int (((M.map (eP ns f)).idxOf (eP ns f (.dA j)):Nat):Int))] at hix;have U:=a8 _ _ hl9;have ho10:=a8 _ _ ho9;have g:=hS9.trans a8;have hs10:=a8 _ _ hs9;refine⟨ix,(e++[i]).map fun j=>(((M.map (eP ns f)).idxOf (eP ns f (.dA j)):Nat):Int),rfl,.inl (aB.of (by rw[hix,kJ];rfl)),by intro z;have:=List.map_eq_nil_iff.mp z;rw[this] at aa;exact absurd aa (by decide),fun m hm hmax=>?_⟩
  obtain⟨jm,hjm,rfl⟩:=j9.mp hm;have hmlt:=(Q.idx P (bo jm hjm)).2.1;have hmx:∀ j∈e++[i],(M.map (eP ns f)).idxOf (eP ns f (.dA j))<=(M.map (eP ns f)).idxOf (eP ns f (.dA jm)):=fun j hj=>by
   have:=hmax _ (j9.mpr ⟨j,hj,rfl⟩)
   exact Int.ofNat_le.mp this
  generalize (M.map (eP ns f)).idxOf (eP ns f (.dA jm))=mm at hmlt hmx ⊢;walk_at"i";refine cO (g _ _ a0) a6 a5 (by omega) (by omega) fun x3 hx3=>?_
  refine bq (.inl (aB.of U)) ?_;rw[di,di];walk_at"s";refine⟨by omega,?_⟩
  walk_at"s";refine⟨.inl ⟨rfl,_,aB.of U⟩,rfl,?_⟩;refine av (aB.of (g _ _ h1)) (ax (aX hi)) ?_;refine⟨by decide,fun p7 hp7=>?_⟩
  have a4:=ah.new hp7 (.lst [V.str (Str.ofString "sees"),V.str (ns.getD i ba)]);refine⟨s,rfl,⟨_,aB.of (a4 _ _ hs10)⟩,uB (cV (aB.of (a4 _ _ hs10))) (fun _=>true) (fun t=>.str (ns.getD (e.getD t 0) ba)) (by rw[di,ao];exact aC (by omega)) ?_ ?_⟩
  ·intro t H11 A B' u hS11 hA _;rw[di,ao] at u;rw[dQ u];walk_at"s";have hj:=hsmm _ (dR u);refine av (aB.of (hS11 _ _ (a4 _ _ (g _ _ h1)))) (ax (aX hj)) ?_;exact hA rfl _ (ah.refl _)
  intro nl H11 hnl0 s11 hnl;rw[bK,di,ao,dg (fun j=>V.str (ns.getD j ba))] at hnl;have s711:=a4.trans s11;refine⟨p7,nl,_,_,rfl,rfl,aB.of (s11 _ _ ag),aB.of hnl,by rw[di];exact bZ (by show 2+_<=100;omega),fun p8 hp8=>?_⟩
  have sp8:=ah.new hp8 (.lst ([V.str (Str.ofString "sees"),V.str (ns.getD i ba)]++e.map fun j=>V.str (ns.getD j ba)));have e8:([V.str (Str.ofString "sees"),V.str (ns.getD i ba)]++e.map fun j=>V.str (ns.getD j ba))=(nR (gE ns f (.sees i e))).map V.str:=by
   show _=[V.str (Str.ofString "sees"),V.str (ns.getD i ba)]++(e.map fun j=>ns.getD j ba).map V.str;rw[kJ];rfl
  have hsne:e≠[]:=fun z=>by rw[z] at hsml;exact absurd hsml (by show ¬ 0=_;omega)
  have hsp:e.Perm (js ns.length (ws.getD i 0)):=by rw[hbt];exact hsm
  have ay:=sX P hi hsp hsne;have hlw:=ip ay;have hlt:=iY ay;have hsum:=fK 30 (nR (gE ns f (.sees i e))) fun y hy=>(hlw.1 y hy).2.2;have h41:(nR (gE ns f (.sees i e))).length*31<=41*31:=FS _ hlw.2.1;have h2000:(2000:Nat)<=sizeLine:=by decide
  refine⟨_,p8,nR (gE ns f (.sees i e)),rfl,rfl,aB.of (by rw[ag,e8]),?_,?_,?_⟩
  ·rw[bu];show ((nR (gE ns f (.sees i e))).map fun z=>z.length+1).sum<=_
   omega
  ·rw[bu]
   have:(k9 (gE ns f (.sees i e))).length=(Str.join ⟨#[32]⟩ (nR (gE ns f (.sees i e)))).length:=rfl
   omega
  rw[bu];obtain⟨qq,hq1,hq2,eqq⟩:∃ a:Nat,mm<a/\a<=M.length/\1+(mm:Int)+x3 % ((M.length:Int) - (1+(mm:Int))+1)=(a:Int):=by
   have h0:=emod_nonneg x3 (show ((M.length:Int) - (1+(mm:Int))+1)≠0 by omega)
   have h1:=emod_lt_of_pos x3 (show (0:Int)<((M.length:Int) - (1+(mm:Int))+1) by omega)
   exact⟨(1+(mm:Int)+x3 % ((M.length:Int) - (1+(mm:Int))+1)).toNat,by omega,by omega,by omega⟩
  rw[eqq];have sA:=s711.trans sp8;refine⟨l,_,qq,_,rfl,rfl,sA _ _ U,by rw[di,di];omega,by rw[di,di];exact hq2,?_⟩
  have hln:H l=none:=hl;refine⟨dw M qq (.sees i e),_,_,_,_,_,_,rfl,(g.trans sA).set hln _,by rw[aq lo.symm];exact sA _ _ ho10,?_,?_,?_⟩
  ·rw[ag,Ar,Ar];rfl
  ·refine Q.ins hi hnd hsp hsne (fun j hj=>?_) htd;have hj':j∈e++[i]:=by
    rcases gz.mp hj with z | z
    ·exact kb.mpr (.inr (ea.mpr z))
    ·exact kb.mpr (.inl z)
   exact(Q.idx P (bo j hj')).2.2 qq (FM (hmx j hj') hq1)
  ·unfold dw;rw[fz,pb,qN,tz]
   omega
 rintro σ5 H5 ⟨M,y6,y8,y9,I,J,O,rfl,T,ho5,hl5,Q,hMl⟩;rw[ao] at Q hMl;walk_at"s";refine q l M H5 T hl5 ⟨Q.ok,Q.da,Q.nd,Q.pm,fun i=>?_⟩ (by omega)
 rw[Q.al i,SZ]
 have:i∈od↔i<ns.length:=by rw[a7.mem_iff,ls]
 rw[this]
theorem RX {a b:Prop}[Decidable a][Decidable b]{x t:Prop}(hx:a->b->x)(ht:t):if a then (if b then x else t) else t:=by
 split
 ·split
  ·exact hx ‹_› ‹_›
  ·exact ht
 ·exact ht
theorem Ht (k:Nat):(1:Int)*2 ^ ((k:Nat):Int).toNat=((2 ^ k:Nat):Int):=by
 rw[Int.one_mul,zm];exact(Int.natCast_pow 2 k).symm
theorem wB {x i n:Nat}(h:i<n):x&&& (2 ^ i - 1)<2 ^ n/\(x&&& (2 ^ i - 1)).testBit i=false:=by
 rw[Nat.and_two_pow_sub_one_eq_mod];have h1:=mod_lt x (T1 i);exact⟨T2 h1 (Ul (by decide) h),Nat.testBit_lt_two_pow h1⟩
theorem yT (B:Bn mg)(D:Def K mg "_law_sight" iN):Fn P w K mg base 1 "_law_sight" ["drawn","many","kind","i"] AO:=by
 have zY:DS (ai iN) ["drawn","many","kind","i","every","half","few"] ["drawn","many","kind","i"] []:=aN;walk_at"hH";obtain⟨a,y,b,s,i,rfl,f,g,d,h1,z,hi,q⟩:=h;refine⟨_,(ae (bg S 4 (aR cq (aR cq (aR c5 aw (kv S 1)) aw) (aR c5 aw (kv S 3))))
   (ae (bg S 5 (qx (kv S 1)))
   (ae (cG (aV aP (kv S 2) aw (au _)) (aj (aK (kv S 4))) aA)
   (ae (cG (aV aP (kv S 2) aw (au _)) (ae (bg S 6 (aR dJ (aR dJ (eC (kv S 0) (kv S 3)) (eC (kv S 0) (aR aU aw (kv S 3)))) (eC (kv S 0) (aR aU aw (kv S 3)))))
   (aj (aK (aR dJ (aR zx (aR c5 aw (aR cL (aR aU (kv S 3) aw) (kv S 1))) (kv S 6)) (kv S 4))))) aA)
   (ae (cG (aV aP (kv S 2) aw (au _)) (aj (aK (aR dJ (eC (kv S 0) (kv S 3)) (aR cq (aR c5 aw (kv S 3)) aw)))) aA)
   (ae (cG (HC (IW (aV aP (kv S 2) aw (au _)) (zW (aV g9 (kv S 3) (kv S 5) (au _))))) (aj (aK (aR cq (aR cq (aR c5 aw (kv S 5)) aw) (aR c5 aw (kv S 3))))) aA)
   (ae (cG (aV aP (kv S 2) aw (au _)) (aj (aK (aR dJ (aR c5 aw (aR aU (kv S 5) (aR cL (aR aU (aR cq (kv S 3) (kv S 5)) aw) (aR cq (kv S 1) (kv S 5))))) (kv S 4)))) aA)
   (ae (cG (aV aP (kv S 2) aw (au _)) (aj (aK (aR dJ (aR dJ (eC (kv S 0) (kv S 3)) (eC (kv S 0) (aR aU aw (kv S 3)))) (kv S 4)))) aA)
   (aj (aK (aR dJ (aR zx (eC (kv S 0) (kv S 3)) (eC (kv S 0) (aR aU aw (kv S 3)))) (kv S 4)))))))))))),?_⟩
 walk_at"i";refine⟨eI (by omega),eI (by omega),?_⟩
 rw[AQ hi];obtain⟨l,m⟩:=yF hi;have j:∀ x:Nat,Q (.int ((x&&& (2 ^ b - 1 - 2 ^ i):Nat):Int)) H:=fun x=>q _ (AR l m).1 (AR l m).2;have p:=q _ l m;generalize 2 ^ b - 1 - 2 ^ i=ev at p j ⊢;clear l m;walk_at"h";walk_at"h";refine bR (fun _=>p) (fun _=>?_);walk_at"h";refine bR (fun _=>?_) (fun _=>?_)
 ·walk_at"h";refine bJ f g d (by omega) (by omega) fun o=>?_
  refine bJ f g d (by omega) (by omega) fun r=>?_
  walk_at"s";refine bJ f g d (by omega) (by omega) fun A=>?_
  walk_at"s";rw[show ((i:Int)+1) % (b:Int)=(((i+1) % b:Nat):Int) by rw[UE];rfl,Ht]
  have hm:(i+1) % b<b:=mod_lt _ h1;refine⟨by omega,eI (by omega),?_⟩
  rw[SH,Jg];exact j _
 walk_at"h";refine bR (fun _=>?_) (fun _=>?_)
 ·refine bJ f g d (by omega) (by omega) fun o=>?_
  refine⟨eI (by omega),?_⟩
  rw[show ((2 ^ i:Nat):Int) - 1=((2 ^ i - 1:Nat):Int) by have:=T1 i;omega]
  walk_at"s";exact q _ (wB hi).1 (wB hi).2
 walk_at"h";have u:(b:Int) / 2=((b / 2:Nat):Int):=rfl;rw[u] at *;refine RX (fun _ c=>?_) ?_
 ·have c:i<b / 2:=by omega
  refine⟨eI (by omega),eI (by omega),?_⟩
  rw[Ht,AQ c];have t:2 ^ (b / 2)<=2 ^ b:=ri (by decide) (Nat.div_le_self _ _)
  exact q _ (ih (yF c).1 t) (yF c).2
 walk_at"h";refine bR (fun _=>?_) (fun _=>?_)
 ·have e:(0:Int)<(b:Int) - ((b / 2:Nat):Int):=by omega
  have C:=emod_nonneg ((i:Int) - ((b / 2:Nat):Int)+1) (show (b:Int) - ((b / 2:Nat):Int)≠0 by omega)
  have v:=emod_lt_of_pos ((i:Int) - ((b / 2:Nat):Int)+1) e;obtain⟨n,hn⟩:=q7 (show 0<=((b / 2:Nat):Int)+((i:Int) - ((b / 2:Nat):Int)+1) % ((b:Int) - ((b / 2:Nat):Int)) by omega)
  refine⟨e,?_⟩;rw[hn,Ht,Jg];exact⟨eI (by omega),j _⟩
 walk_at"h";refine bR (fun _=>?_) (fun _=>?_)
 ·refine bJ f g d (by omega) (by omega) fun o=>?_
  refine bJ f g d (by omega) (by omega) fun r=>?_
  walk_at"s";exact j _
 walk_at"s";refine bJ f g d (by omega) (by omega) fun o=>?_
 refine bJ f g d (by omega) (by omega) fun r=>?_
 walk_at"s";exact j _
theorem KQ (B:Bn mg)(D:Def K mg "_law_hat_count" eD)(wK:Fn P w K mg base 2 "_law_count" ["cell","k"] vF):Fn P w K mg base 3 "_law_hat_count" ["drawn","kind","i"] GP:=by
 have zY:DS (ai eD) ["drawn","kind","i"] ["drawn","kind","i"] ["_law_count"]:=aN;walk_at"hH";obtain⟨a,r,l,i,rfl,e,g,b,hi,q⟩:=h;have d:(10:Nat) ^ 30=1000000000000000000000000000000:=by decide +kernel
 rw[d] at q;refine⟨_,(ae (cG (aV aP (kv S 1) aw (au _)) (aj (aK aw)) aA)
   (ae (cG (aV aP (kv S 1) aw (au _)) (aj (aK (aR aU aw (bG (eC (kv S 0) (kv S 2)))))) aA)
   (ae (cG (aV aP (kv S 1) aw (au _)) (aj (aK (eC (eY (r9 (ns:=[2,2,3,2,4,1]) (by decide +kernel))) (bG (eC (kv S 0) (kv S 2)))))) aA)
   (aj (aK (cA S 0 wK hr (ak (eC (kv S 0) (kv S 2)) (af (kv S 2))))))))),?_⟩
 walk_at"d";refine bR (fun _=>q 2 H (ah.refl _) (by decide) (by decide)) (fun _=>?_)
 refine bR (fun _=>?_) (fun _=>?_)
 ·refine bJ e g b (by omega) (by omega) fun x=>?_
  walk_at"d";exact q (1+x % 6) H (ah.refl _) (by omega) (by omega)
 refine bR (fun _=>?_) (fun _=>?_)
 ·refine⟨by decide,fun p m=>?_⟩
  have j:=ah.new m (.lst [V.int 2,V.int 2,V.int 3,V.int 2,V.int 4,V.int 1]);refine bJ (j _ _ e) g b (by omega) (by omega) fun x=>?_
  walk_at"d";have hm:x % 6 < [2,2,3,2,4,1].length:=by show x % 6<6;omega
  have hb:∀ x∈[2,2,3,2,4,1],0<x/\x<1000000000000000000000000000000:=by decide +kernel
  refine av (i:=((x % 6:Nat):Int)) (aB.of ag) (ax (show ((aD [2,2,3,2,4,1]).map V.int)[x % 6]?=some (.int (([2,2,3,2,4,1][x % 6]'hm:Nat):Int)) by unfold aD;rw[ey,ey,cv hm];rfl)) ?_
  exact q _ _ j (hb _ (oD hm)).1 (hb _ (oD hm)).2
 ·refine bJ e g b (by omega) (by omega) fun x=>?_
  exact⟨_,_,rfl,fun c o n f s=>q c o s n (by rw[<-d];exact f)⟩
def RY (H0:Hp)(a:Addr)(most kinds:Nat)(dr nm:Addr)(ns:List Str)(ht:Addr)(x35:Nat)(ca sg wa tu o se:Addr)(k:Nat)(σ:L2.St)(H:Hp):Prop:=∃ (ws:List Nat) (y14 y15 y16:Option V),σ=[some (.ref a),some (.int (most:Int)),some (.int (kinds:Int)),some (.ref dr),some (.ref nm),some (.int (ns.length:Int)),some (.ref ht),some (.int ((x35:Int) % 6)),some (.ref ca),some (.ref sg),some (.ref wa),some (.ref tu),some (.ref o),some (.ref se),y14,y15,y16]/\ah H0 H/\H se=some (.lst ((aD ws).map V.int))/\ws.length=k/\∀ j,j<k->ws.getD j 0<2 ^ ns.length/\(ws.getD j 0).testBit j=false
theorem yU (B:Bn mg)(D:Def K mg "_law_house" iO)(bS:Fn P w K mg base 1 "_law_draws" ["cell","count"] il)(wL:Fn P w K mg base 2 "_law_names" ["cell","size"] An)(mD:Fn P w K mg base 3 "_law_hat_count" ["drawn","kind","i"] GP)(wM:Fn P w K mg base 1 "_law_sight" ["drawn","many","kind","i"] AO):Fn P w K mg base 4 "_law_house" ["cells","most","kinds"] (rp K):=by
 have zY:DS (ai iO) ["cells","most","kinds","drawn","names","many","hats","kind","counts","sights","web","turned","order","seen","i","mask","some"] ["cells","most","kinds"] ["_law_draws","_law_names","len","range","max","list","sum"]:=aN;walk_at"hH";obtain⟨a,xs,f,t,rfl,ha,hx3,m1,m8,k1,k6,q⟩:=h;obtain⟨c0,c1,c2,rfl⟩:∃ c0 c1 c2,xs=[c0,c1,c2]:=by
  match xs,hx3 with
  | [c0,c1,c2],_=>exact⟨c0,c1,c2,rfl⟩
 refine⟨_,(ae (bg S 3 (cA S 0 bS hr (ak (c9 (kv S 0)) (af aw))))
   (ae (bg S 4 (eY bL))
   (ae (cG (aV zC (bG (c9 (kv S 3))) aw (au _)) (aj (bg S 4 (cA S 1 wL hr (ak (qx (c9 (kv S 0))) (af (aR aU aw (aR cL (c9 (kv S 3)) (kv S 1)))))))) aA)
   (ae (bg S 5 (c7 S 2 (aG rfl) B.len ro (af (kv S 4))))
   (ae (bg S 6 (cA S 0 bS hr (ak (c9 (kv S 0)) (af aw))))
   (ae (bg S 7 (aR cL (c9 (kv S 3)) (kv S 2)))
   (ae (IZ (i:=8) S hc hsc (jY S 3 B.range (af (kv S 5))) (N:=["i","hats","kind"]) (W:=["i"]) (G:=["_law_hat_count"]) (fv:=[none,some 6,some 7]) (by decide +kernel) (fun cl C fp s H g=>⟨(kg g 0),bp,(cA g 0 mD hr (ak (kv g 1) (ak (kv g 2) (af (kv g 0)))))⟩) (by rw[hsc];decide +kernel) (by rw[eM,hsc];rfl))
   (ae (bg S 9 (cA S 0 bS hr (ak (c9 (kv S 0)) (af aw))))
   (ae (bg S 7 (bG (c9 (kv S 3))))
   (ae (IZ (i:=10) S hc hsc (jY S 3 B.range (af (kv S 5))) (N:=["i","sights","many","kind"]) (W:=["i"]) (G:=["_law_sight"]) (fv:=[none,some 9,some 5,some 7]) (by decide +kernel) (fun cl C fp s H g=>⟨(kg g 0),bp,(cA g 0 wM hr (ak (kv g 1) (ak (kv g 2) (ak (kv g 3) (af (kv g 0))))))⟩) (by rw[hsc];decide +kernel) (by rw[eM,hsc];rfl))
   (ae (bg S 11 (eY (ak (aR cL (c9 (kv S 3)) (c7 S 4 (Bx hc) B.max boot_max (ak aw (af (kv S 5))))) (af (bG (c9 (kv S 3)))))))
   (ae (bg S 12 (nu S 5 (fZ hc) B.list boot_list (af (nu S 3 j3 B.range boot_range (af (kv S 5))))))
   (ae (bg S 12 (aR (dE rfl) (pB (cP rfl) (kv S 12) (bE (c9 (kv S 11))) bD) (pB (cP rfl) (kv S 12) bD (bE (c9 (kv S 11))))))
   (ae (cG (aV aP (c9 (kv S 11)) aw (au _)) (aj (bg S 12 (Js (kv S 12) (NM jl aw) rfl))) aA)
   (ae (bg S 13 (eY bL))
   (ae (eZ hxe hc (jY S 3 B.range (af (kv S 5))) (kg S 14) (ae (bg S 15 (eC (kv S 10) (eC (kv S 12) (kv S 14))))
   (ae (IZ (i:=16) S hc hsc (jY S 3 B.range (af (kv S 5))) (N:=["j","mask","order"]) (W:=["j"]) (G:=[]) (fv:=[none,some 15,some 12]) (by decide +kernel) (fun cl C fp s H g=>⟨(kg g 0),(gp (aV aP (bG (aR dD (kv g 1) (aR c5 aw (mK (eh rfl) (kv g 2) (kv g 0) (fun _ _=>rfl))))) aw (au _))),(kv g 0)⟩) (by rw[hsc];decide +kernel) (by rw[eM,hsc];rfl))
   (aj (c8 (jW rr mo oo bw rfl (kv S 13) (af (c7 S 6 (cX hc rfl) B.sum boot_sum (af (i7 S hc hsc (cQ (kv S 16) rfl) (N:=["j"]) (W:=["j"]) (G:=[]) (fv:=[none]) (by decide +kernel) (fun cl C fp s H g=>⟨(kg g 0),bp,(aR c5 aw (kv g 0))⟩)))))))))))
   (aj (aK (eY (ak (kv S 4) (ak (kv S 8) (af (kv S 13))))))))))))))))))))))),?_⟩
 walk_at"i";refine av (i:=((0:Nat):Int)) ha (ax rfl) ?_;refine⟨_,40,rfl,by decide,fun dr dn H1 s1 hdr0 hdr I J=>?_⟩
 walk_at"i";refine⟨by decide,fun e0 aa=>?_⟩
 have s2:=s1.trans (ah.new aa (.lst []));have p:=ah.new aa (.lst []) _ _ hdr;have he2:upd H1 e0 (.lst []) e0=some (.lst []):=ag;generalize upd H1 e0 (.lst [])=H2 at s2 p he2 ⊢;walk_at"s";refine lN (fun σ' H'=>∃ (nm:Addr) (d:List Str),σ'=[some (.ref a),some (.int (f:Int)),some (.int (t:Int)),some (.ref dr),some (.ref nm),none,none,none,none,none,none,none,none,none,none,none,none]/\ah H2 H'/\H' nm=some (.lst (d.map V.str))/\JH d f/\H nm=none) ?_ ?_
 rotate_left
 ·intro R hR;walk_at"s";refine bJ p I J (by decide) (by decide) fun x=>?_
  walk_at"s";refine bR (fun _=>?_) (fun _=>hR _ _ ⟨e0,[],rfl,ah.refl _,he2,⟨zero_le _,.nil,(fun _ z=>nomatch z)⟩,s1.free aa⟩);refine av (i:=((0:Nat):Int)) (s2.seq ha) (ax rfl) ?_;walk_at"s";refine bJ p I J (by decide) (by decide) fun y=>?_
  walk_at"s";have hy:y % f<f:=mod_lt _ m1;refine⟨by omega,_,1+y % f,by rw[natCast_add,UE];rfl,by omega,by omega,fun l d H3 s3 hl0 hl1 hne hN=>hR _ _ ⟨l,d,rfl,s3,hl1,oQ hN (by omega),s2.free hl0⟩⟩
 rintro σ3 H3 ⟨nm,d,rfl,s3,hnm,hN,hnm0⟩;have hn8:=hN.fD;have s13:=s2.trans s3;have E:=s3 _ _ p;clear p he2 aa s2 s3 hdr0 hdr s1;walk_at"i";refine bq (.inl (aB.of hnm)) ?_;rw[di];walk_at"i";refine av (i:=((1:Nat):Int)) (s13.seq ha) (ax rfl) ?_;refine⟨_,8,rfl,by decide,fun ht hn H4 s4 _ hht hhl hhn=>?_⟩
 have s14:=s13.trans s4;walk_at"i";refine bJ (s4 _ _ E) I J (by decide) (by decide) fun x34=>?_
 refine⟨_,_,rfl,rfl,by omega,?_⟩
 walk_at"i";refine lcAny d.length rfl (by omega) (fun c=>0<c/\c<10 ^ 30) ?_ ?_
 ·intro i H5 A hi hS hA;walk_at"s";exact⟨ht,hn,_,i,rfl,hS _ _ hht,hhl,hhn,by omega,fun c H' s' h0 h1=>hA c H' s' ⟨h0,h1⟩⟩
 intro ca cs H5 hca0 s5 hca hcl hcok;have hcaN:=s14.free hca0;have s15:=s14.trans s5;walk_at"i";refine av (i:=((2:Nat):Int)) (s15.seq ha) (ax rfl) ?_;refine⟨_,24,rfl,by decide,fun sg sn H6 s6 _ hsg hsl hsn=>?_⟩
 have s16:=s15.trans s6;have s36:=(s4.trans s5).trans s6;walk_at"i";refine bJ (s36 _ _ E) I J (by decide) (by decide) fun x35=>?_
 walk_at"s";walk_at"i";refine EM d.length rfl (by omega) (fun i x=>∃ m:Nat,x=(m:Int)/\m<2 ^ d.length/\m.testBit i=false) ?_ ?_
 ·intro i H7 A hi hS hA;walk_at"s";exact⟨sg,sn,d.length,_,i,rfl,hS _ _ hsg,hsl,hsn,by omega,by omega,hi,fun m h0 h1=>hA _ _ (ah.refl _) ⟨m,rfl,h0,h1⟩⟩
 intro wa row H7 hwa0 s7 hwa hrl hrow;have s17:=s16.trans s7;have s37:=s36.trans s7;walk_at"i";refine bJ (s37 _ _ E) I J (by decide) (by decide) fun x36=>?_
 have hmx:(0:Int)<(if (d.length:Int)>1 then (d.length:Int) else 1):=by split<;>omega
 refine⟨_,_,rfl,rfl,hmx,?_⟩;obtain⟨U,hr0⟩:=q7 (emod_nonneg (x36:Int) (Int.ne_of_gt hmx));refine bJ (s37 _ _ E) I J (by decide) (by decide) fun x37=>?_
 walk_at"s";rw[hr0];refine⟨by decide,fun tu htu0=>?_⟩
 generalize r:upd H7 tu _=H8;obtain⟨st,htu⟩:=my htu0 r;clear r htu0;walk_at"i";refine⟨d.length,rfl,by omega,fun rg hrg=>?_⟩
 generalize r:upd H8 rg _=H9;obtain⟨srg,hrg9⟩:=my hrg r;refine⟨rg,d.length,rfl,hrg9,by omega,fun o ho=>?_⟩
 clear r;generalize r:upd H9 o _=H10;obtain⟨so,O⟩:=my ho r;clear r;have O:H10 o=some (.lst ((aD (List.range d.length)).map V.int)):=O;have s8o:=srg.trans so;have s79:=st.trans s8o;have u:=s8o _ _ htu;walk_at"i";refine av (i:=((0:Nat):Int)) (aB.of u) (ax rfl) ?_;walk_at"s";refine Kl U (aB.of O) fun o1 H11 t1 _ ho1=>?_;refine av (i:=((0:Nat):Int)) (aB.of (t1 _ _ u)) (ax rfl) ?_;walk_at"s";refine tP U (aB.of (t1 _ _ O)) fun o2 H12 t2 _ ho2=>?_;have hol:((aD (List.range d.length)).map V.int).length=d.length:=by rw[di,ao,kc]
 refine⟨o1,o2,_,_,rfl,rfl,aB.of (t2 _ _ ho1),aB.of ho2,?_,fun o3 ho3=>?_⟩
 ·rw[tz,qN,hol];exact bZ (by omega)
 generalize r:upd H12 o3 _=H13;obtain⟨t3,n⟩:=my ho3 r;clear r;have n:H13 o3=some (.lst ((aD ((List.range d.length).drop U++(List.range d.length).take U)).map V.int)):=by
  rw[n];unfold aD;rw[<-UB,<-UB,<-map_take,<-map_take,<-hO,<-hO]
 have t13:=(t1.trans t2).trans t3;have s7e:=s79.trans t13;have ay:((List.range d.length).drop U++(List.range d.length).take U).Perm (List.range d.length):=by
  have:=List.perm_append_comm (l₁:=(List.range d.length).drop U) (l₂:=(List.range d.length).take U)
  rwa [T7] at this
 have Q:=t13 _ _ u;generalize (List.range d.length).drop U++(List.range d.length).take U=od0 at n ay;clear hol ho1 ho2 ho3 O u t1 t2 t3 t13 s79;walk_at"s";refine lN (fun σ' H'=>∃ (o:Addr) (v:List Nat),σ'=[some (.ref a),some (.int (f:Int)),some (.int (t:Int)),some (.ref dr),some (.ref nm),some (.int (d.length:Int)),some (.ref ht),some (.int ((x35:Int) % 6)),some (.ref ca),some (.ref sg),some (.ref wa),some (.ref tu),some (.ref o),none,none,none,none]/\ah H7 H'/\H' o=some (.lst ((aD v).map V.int))/\v.Perm (List.range d.length)) ?_ ?_
 rotate_left
 ·intro R hR;walk_at"s";refine av (i:=((1:Nat):Int)) (aB.of Q) (ax rfl) ?_;walk_at"s";refine bR (fun c=>?_) (fun c=>hR _ _ ⟨o3,od0,rfl,s7e,n,ay⟩);refine⟨trivial,o3,_,rfl,aB.of n,fun o4 ho4=>?_⟩;have so4:=ah.new ho4 (.lst ((aD od0).map V.int).reverse);refine hR _ _ ⟨o4,od0.reverse,rfl,s7e.trans so4,?_,(reverse_perm _).trans ay⟩;rw[ag];unfold aD;rw[<-P3,<-P3]
 clear Q n ay s7e;rintro σ4 H14 ⟨o,v,rfl,s8,ho,hod⟩;have hodl:v.length=d.length:=by rw[hod.length_eq,kc]
 have hodn:v.Nodup:=hod.nodup_iff.mpr UG;have hodi:∀ k,k<d.length->v.getD k 0<d.length:=fun k hk=>ls.mp (hod.mem_iff.mp (nK (by omega)))
 walk_at"i";refine⟨by decide,fun se M=>?_⟩
 generalize r:upd H14 se _=H15;obtain⟨t5,hse⟩:=my M r;clear r;have s9:=s8.trans t5;have hseN:=s17.free (s8.free M);walk_at"i";refine forR d.length (RY H14 a f t dr nm d ht x35 ca sg wa tu o se) rfl (by omega) ⟨[],_,_,_,rfl,t5,hse,rfl,fun _ z=>absurd z (Uk _)⟩ ?_ ?_
 ·rintro k σ H16 hk ⟨ws,y14,y15,y16,rfl,u0,T,Y,ab⟩;walk_at"i";have hoA:=u0 _ _ ho;have hwA:=u0 _ _ (s8 _ _ hwa);have bb:=hodi k hk;refine cY (aB.of hoA) rfl (by rw[ao];omega) ?_
  rw[aT];refine cY (aB.of hwA) rfl (by omega) ?_
  obtain⟨m,hm,hm2,hmb⟩:=hrow _ bb;rw[hm];walk_at"i";refine Qj d.length (fun j=>m.testBit (v.getD j 0)) (fun j=>((j:Nat):Int)) rfl (by omega) ?_ ?_
  ·intro j H17 A B' hj hS hA hB;walk_at"s";refine cY (aB.of (hS _ _ hoA)) rfl (by rw[ao];omega) ?_
   rw[aT];have hjo:=hodi j hj;generalize v.getD j 0=oj at hA hB hjo ⊢;walk_at"s";have hpj:0<2 ^ oj:=T1 oj;have hj8:2 ^ oj<=2 ^ 8:=ri (by decide) (by omega)
   refine⟨eI (by omega),⟨by omega,?_⟩,?_⟩
   ·rw[Uy];exact(log2_lt (by omega)).mpr (FM hj8 (Ul (by decide) (by decide)))
   refine bR (fun c=>hA c _ (ah.refl _)) (fun c=>hB (by simpa using c) _ (ah.refl _))
  intro sm H17 hsm0 u1 X;have hnd:((List.range d.length).filter fun j=>m.testBit (v.getD j 0)).Nodup:=UG.sublist filter_sublist;have Z:∀ j∈(List.range d.length).filter (fun j=>m.testBit (v.getD j 0)),j<d.length/\m.testBit (v.getD j 0)=true:=fun j hj=>⟨ls.mp (u5.mp hj).1,(u5.mp hj).2⟩;have hsml:((List.range d.length).filter fun j=>m.testBit (v.getD j 0)).length<=8:=by
   refine ka (C4 _ _) ?_;rw[kc];omega
  have X:H17 sm=some (.lst ((aD ((List.range d.length).filter fun j=>m.testBit (v.getD j 0))).map V.int)):=X;generalize (List.range d.length).filter (fun j=>m.testBit (v.getD j 0))=l at X hnd Z hsml;walk_at"s";have hse2:=u1 _ _ T;refine⟨.inl ⟨rfl,_,aB.of hse2⟩,?_⟩;refine SD (fun _=>true) (fun i=>((2 ^ l.getD i 0:Nat):Int)) (aB.of X) (by rw[ao];exact aC (by omega)) ?_ ?_
  ·intro i H18 A B' hi hS hA _;rw[ao] at hi;rw[aT]
   have:=(Z _ (nK hi)).1
   walk_at"s";exact⟨eI (by omega),hA rfl _ (ah.refl _)⟩
  intro ac H18 hac0 u2 hac;rw[bK,ao] at hac;have u02:=u0.trans (u1.trans u2);have esum:((List.range l.length).map fun i=>((2 ^ l.getD i 0:Nat):Int)).sum=((mask l:Nat):Int):=by
   have:=Ae l
   rwa [ao] at this
  refine kT (aB.of hac) ?_;rw[esum];refine⟨se,_,_,rfl,rfl,u2 _ _ hse2,by rw[di,ao];exact bZ (by omega),?_⟩
  rw[nS];refine⟨_,_,_,_,rfl,u02.set M _,ag,by rw[fz,Y];rfl,fun j hj=>?_⟩
  by_cases e:j<k
  ·rw[cc,F8 (by omega),<-cc]
   exact ab j e
  ·obtain rfl:j=k:=by omega
   rw[cc,zk (by omega),Y,Nat.sub_self]
   refine⟨Jp hnd fun i hi=>(Z i hi).1,?_⟩;show (mask l).testBit j=false;rw[f9 hnd];exact eG fun z=>by
    have:=(Z j z).2
    rw[hmb] at this;cases this
 rintro σ H16 ⟨ws,y14,y15,y16,rfl,u0,T,Y,ab⟩;walk_at"s";have s1e:=s17.trans (s8.trans u0);have s3e:=s37.trans (s8.trans u0);have s5e:=(s6.trans s7).trans (s8.trans u0);refine⟨by decide,fun b hb=>?_⟩
 generalize r:upd H16 b _=H17;obtain⟨t6,hb'⟩:=my hb r;refine q b d cs ws _ (s1e.trans t6) ⟨nm,ca,se,⟨s1e.free hb,hnm0,hcaN,hseN⟩,hb',t6 _ _ (s3e _ _ hnm),t6 _ _ (s5e _ _ hca),t6 _ _ T⟩ ⟨oQ hN m8,hcl,Y,hcok,fun j hj=>(ab j (by omega)).1,fun j hj=>?_⟩ hn8
 have:=(ab j (by omega)).2
 rw[tD] at this
 have:=of_decide_eq_false this
 omega
theorem yV:DS (ai lJ) ["desk","line","found","kinds","e"] ["desk","line"] ["HatError","isinstance","NoAsk","NoName","NoHats","LineError"]:=aN
theorem KR (B:Bn mg)(ER:ll K mg Hc er)(aZ:fi K mg "Hall" ay ["counts","groups","worn"])(bO:fi K mg "Desk" aI ["book","hall"])(D:Def K mg "_law_ask" lJ)(jG:qX P w K mg base 7 aI "ask" ["self","line"] (tR K ay aI er)):Fn P w K mg base 8 "_law_ask" ["desk","line"] (oA K ay aI):=by
 refine D.gy yV (by walk_at"hB") (by walk_at"hL") ?_
 intro X S e1 e2 e3 e4 e5 hc W q v hr hu H vs Q E h;subst e1 e2 e3 e4 e5;obtain⟨d,hl,ns,cs,ws,L,hs,a,rfl,Y,D,ha,q1,q2⟩:=h;refine⟨_,(ae (bg S 2 pz)
   (ae (bg S 3 (eY bL))
   (ae (SS (names:=Hc) (er:=er) S 0 4 v hc q ER (by decide) (Oo (SR S 2 (TN v bO jG hr (kv S 0) (af (kv S 1)))))
   (fun a o x d hx hxy m c=>(aj (bg c 3 (eY (ak (c7 c 1 (i4 (y:="NoAsk") ER m hx (by decide)) B.isinstance boot_isinstance (ak (kv c 4) (af (Sf c 2 ER (by decide))))) (ak (c7 c 1 (i4 (y:="NoName") ER m hx (by decide)) B.isinstance boot_isinstance (ak (kv c 4) (af (Sf c 3 ER (by decide))))) (ak (c7 c 1 (i4 (y:="NoHats") ER m hx (by decide)) B.isinstance boot_isinstance (ak (kv c 4) (af (Sf c 4 ER (by decide))))) (af (c7 c 1 (i4 (y:="LineError") ER m hx (by decide)) B.isinstance boot_isinstance (ak (kv c 4) (af (Sf c 5 ER (by decide))))))))))))) (by rw[W];decide +kernel))
   (aj (aK (qy (ak (kv S 2) (af (kv S 3))))))))),?_⟩
 walk_at"i";walk_at"h";refine⟨by decide,fun kl A=>?_⟩
 generalize f:upd H kl _=H1;obtain⟨j,r⟩:=my A f;clear f;walk_at"i";obtain⟨⟨ddx,bk,hd,_⟩,_⟩:=id Y;obtain⟨_,_,_,_,O,_⟩:=id Y;obtain⟨_,_,R,_⟩:=O.ex;refine v8 (j _ _ hd) Mi ?_;refine AW a (Y.mono j) D ha (fun l s F m T o2 M J Z G=>?_) (fun hn F s2=>?_)
 ·have N:=o2 _ _ (cF r (j _ _ R) fun z=>nomatch z) r;walk_at"s";refine⟨by decide,fun t i=>?_⟩
  generalize f:upd F t _=H3;obtain⟨g,I⟩:=my i f;exact q1 t l kl s H3 m T (fun b u n e=>g _ _ (o2 b u n (j _ _ e))) (fun z=>j.trans ((M z).trans g)) (j.free J) I (g _ _ Z) (g _ _ N) (G.mono g)
 ·refine⟨"NoHats",by decide,rfl,by decide,fun a2=>⟨trivial,trivial,trivial,trivial,by decide,fun p C=>?_⟩⟩
  generalize f:upd F p _=H3;obtain⟨g,U⟩:=my C f;clear f;have U:H3 p=some (.lst ([false,false,true,false].map V.bl)):=by rw[U];rfl
  walk_at"s";refine⟨by decide,fun t i=>?_⟩
  generalize f:upd H3 t _=H4;obtain⟨s4,I⟩:=my i f;exact q2 hn t p H4 (j.trans (s2.trans (g.trans s4))) I (s4 _ _ U)
theorem CI (B:Bn mg)(D:Def K mg "_law_line" jz):Fn P w K mg base 1 "_law_line" ["drawn","names","counts"] we:=by
 have zY:DS (ai jz) ["drawn","names","counts","i","heads","head","colour"] ["drawn","names","counts"] ["len","str"]:=aN;walk_at"hH";obtain⟨dr,nm,ct,ns,M,ws,dn,rfl,n,m,g,t,o,P,Z,q⟩:=h;have G:0<ns.length:=O0.mpr Z;refine⟨_,(ae (bg S 3 (aR cL (c9 (kv S 0)) (c7 S 0 (aG rfl) B.len ro (af (kv S 1)))))
   (ae (bg S 4 (eY (zV (ns:=["groups","ring","order","sure","share","book","right","right","guess","guess","put","put"]) (by decide +kernel))))
   (ae (bg S 5 (eC (kv S 4) (bG (c9 (kv S 0)))))
   (ae (cG (aV aP (kv S 5) bj (au _)) (aj (aK (aR aY bj (eC (kv S 1) (kv S 3))))) aA)
   (ae (cG (aV aP (kv S 5) bj (au _)) (ae (bg S 6 (eC (eY (ak (aR cL (c9 (kv S 0)) (eC (kv S 2) (kv S 3))) (ak (aR cL (aR dC (c9 (kv S 0)) (Rp (v:=1000000000000) Kp Kq)) (eC (kv S 2) (kv S 3))) (ak (eC (kv S 2) (kv S 3)) (af (aR cq (eC (kv S 2) (kv S 3)) aw)))))) (bG (c9 (kv S 0)))))
   (aj (aK (aR aY (aR aY (aR aY bj (eC (kv S 1) (kv S 3))) bj) (nu S 1 dB B.str boot_str (af (kv S 6))))))) aA)
   (aj (aK (kv S 5)))))))),?_⟩
 walk_at"i";refine bJ n m g (by decide) (by decide) fun x0=>?_
 refine bq (.inl (aB.of t)) ?_;rw[di];walk_at"s";refine⟨by omega,?_⟩
 obtain⟨i,ei,hi⟩:∃ i:Nat,(x0:Int) % (ns.length:Int)=(i:Int)/\i<ns.length:=⟨x0 % ns.length,by rw[UE],mod_lt _ G⟩
 rw[ei];clear ei;walk_at"h";refine⟨by decide,fun l I=>?_⟩
 generalize O:upd H l _=H1;obtain⟨f,R⟩:=my I O;clear O;have R:H1 l=some (.lst (oB.map V.str)):=R;walk_at"i";refine bJ (f _ _ n) m g (by decide) (by decide) fun Q=>?_
 walk_at"s";have C:Q % 12<12:=mod_lt _ (by decide)
 refine av (i:=((Q % 12:Nat):Int)) (aB.of R) (ax (aX (l:=oB) C)) ?_;have hh:=Kr C;generalize oB.getD (Q % 12) ba=head at hh;generalize Q % 12=hk at hh;clear C R I;have nmi:=P.nm.nm _ (getD_memS hi);have nl:=(dG nmi).2.2;have hbig:(1000:Nat)<=sizeLine:=by decide
 walk_at"i"
 by_cases U:head=Str.ofString "guess"
 ·rw[if_pos U];have eg:(Str.ofString "guess ").length=6:=by decide +kernel
  refine av (aB.of (f _ _ t)) (ax (aX hi)) ?_;refine⟨_,_,rfl,rfl,by rw[eg];omega,?_⟩
  rw[ow];exact q (.du i) H1 f hi (fun _ _ z=>nomatch z)
 rw[if_neg U];walk_at"i"
 by_cases W:head=Str.ofString "put"
 ·rw[if_pos W];have T:M.getD i 0∈M:=nK (by rw[P.lc];exact hi)
  obtain⟨A,s⟩:=P.RZ _ T;have F:∀ c,c<=M.getD i 0->∀ j d,AK.put i c=.put j d->d<=M.getD j 0:=fun c hc j d e=>by cases e;exact hc
  walk_at"h";refine bJ (f _ _ n) m g (by decide) (by decide) fun x3=>?_
  refine cY (aB.of (f _ _ o)) rfl (by rw[ao,P.lc];exact hi) ?_
  rw[aT];generalize Y:M.getD i 0=ci at A s F;walk_at"s";refine⟨by omega,?_⟩
  refine bJ (f _ _ n) m g (by decide) (by decide) fun N=>?_
  refine⟨_,_,rfl,rfl,jT (by decide +kernel) (by decide +kernel),?_⟩
  refine cY (aB.of (f _ _ o)) rfl (by rw[ao,P.lc];exact hi) ?_
  rw[aT,Y];walk_at"s";refine⟨by omega,?_⟩
  refine cY (aB.of (f _ _ o)) rfl (by rw[ao,P.lc];exact hi) ?_
  rw[aT,Y];refine cY (aB.of (f _ _ o)) rfl (by rw[ao,P.lc];exact hi) ?_
  rw[aT,Y];walk_at"s";refine⟨by decide,fun p E=>?_⟩
  generalize O:upd H1 p _=H2;obtain⟨s2,hp⟩:=my E O;clear O;have u:=f.trans s2;refine bJ (u _ _ n) m g (by decide) (by decide) fun y=>?_
  walk_at"s";obtain⟨a,r,J⟩:∃ a:Nat,a<=ci/\[V.int ((x3:Int) % (ci:Int)),V.int ((N:Int)*1000000000000 % (ci:Int)),V.int (ci:Int),V.int ((ci:Int) - 1)][y % 4]?=some (.int (a:Int)):=by
   have hx4:y % 4<4:=mod_lt _ (by decide)
   rcases(show y % 4=0∨y % 4=1∨y % 4=2∨y % 4=3 by omega) with e | e | e | e
   ·exact⟨x3 % ci,Nat.le_of_lt (mod_lt _ A),by rw[e,UE];rfl⟩
   ·exact⟨N * 1000000000000 % ci,Nat.le_of_lt (mod_lt _ A),by rw[e,UE,Int.natCast_mul];rfl⟩
   ·exact⟨ci,ef _,by rw[e];rfl⟩
   ·exact⟨ci - 1,by omega,by rw[e,show ((ci - 1:Nat):Int)=(ci:Int) - 1 by omega];rfl⟩
  refine av (i:=((y % 4:Nat):Int)) (aB.of hp) (ax J) ?_;clear J hp E;have b:a<10 ^ 30:=FM r s;have cf:=iy b;have X:(Str.ofString "put ").length=4:=by decide +kernel
  have e1:(Str.ofString " ").length=1:=by decide +kernel
  have cl:(Str.ofString (toString ((a:Nat):Int))).length<=30:=cf.2.2.2;walk_at"s";refine av (aB.of (u _ _ t)) (ax (aX hi)) ?_;refine⟨_,_,rfl,rfl,by rw[X];omega,?_⟩
  refine⟨_,_,rfl,rfl,by rw[aE,X,e1];omega,?_⟩
  refine⟨_,rfl,?_,?_⟩
  ·rw[Uy]
   by_cases z:a=0
   ·rw[z];decide
   ·exact(log2_lt z).mpr (T2 b (by decide +kernel))
  refine⟨_,_,rfl,rfl,by rw[aE,aE,X,e1];omega,?_⟩
  rw[show Str.ofString (toString ((a:Nat):Int))=gG (a:Int) from rfl,v7]
  exact q (.put i a) H2 u ⟨hi,b⟩ (F a r)
 rw[if_neg W];walk_at"s"
 rcases hh with ⟨h6,e⟩ | ⟨_,e⟩ | ⟨_,e⟩ | e
 ·rw[e];exact q (.told (Mu hk)) H1 f trivial (fun _ _ z=>nomatch z)
 ·rw[e];exact q .right H1 f trivial (fun _ _ z=>nomatch z)
 ·exact absurd e U
 ·exact absurd e W
variable {o:HO}
theorem lO {H H':Hp}{x dx:Addr}(hx:H x=none)(hd:H dx=none)(hne:dx≠x)(s:Off x (L2.upd (L2.upd H dx (.own x)) x o) H'):ah H H':=fun b u e=>by
 have h1:b≠x:=fun z=>by rw[z,hx] at e;cases e
 have a:b≠dx:=fun z=>by rw[z,hd] at e;cases e
 exact s b u h1 (by rw[aq h1,aq a];exact e)
theorem KS (B:Bn mg)(ER:ll K mg Hc er)(aZ:fi K mg "Hall" ay ["counts","groups","worn"])(bO:fi K mg "Desk" aI ["book","hall"])(D:Def K mg "_law_anew" jA)(dc:Gs P w K mg base 8 aI "__init__" "self" "text" "" (oy K ay aI))(jG:qX P w K mg base 7 aI "ask" ["self","line"] (tR K ay aI er)):Fn P w K mg base 10 "_law_anew" ["text","hats","drawn"] (wm K ay aI):=by
 have zY:DS (ai jA) ["text","hats","drawn","desk","lines","line"] ["text","hats","drawn"] ["Desk","sorted"]:=aN;walk_at"hH";obtain⟨j,dr,M,c,cs,ws,d,dn,rfl,Y,U,r,P,hht,hK,hdr,hdl,hnn,q⟩:=h;refine⟨_,(ae (bg S 3 (Ox S 0 bO dc md hr (af (kv S 0))))
   (ae (bg S 4 (c7 S 1 (tT rfl) B.sorted boot_sorted (af (S8 (i7 S hc hsc (TQ (kv S 1)) (N:=["name","hats"]) (W:=["name"]) (G:=[]) (fv:=[none,some 1]) (by decide +kernel) (fun cl C fp s H S2=>⟨(kg S2 0),bp,(aR aY (aR aY (aR aY bj (kv S2 0)) bj) (Ao (u1 hu) (kv S2 1) (kv S2 0)))⟩))))))
   (ae (cG (aV aP (bG (c9 (kv S 2))) aw (au _)) (aj (bg S 4 (Js (kv S 4) (NM jl aw) rfl))) aA)
   (ae (eZ hxe hc (cQ (kv S 4) rfl) (kg S 5) (aj (c8 (Rn bO jG md hr (kv S 3) (af (kv S 5))))))
   (aj (aK (kv S 3))))))),?_⟩
 walk_at"i";intro x dx hx0 T hne;refine⟨x,dx,M,c,cs,ws,rfl,ag,Y,U,r,P,fun H1 hl L o1 a eL hD D=>⟨rfl,?_⟩⟩;have s1:=lO hx0 T hne o1;have a:H hl=none:=by
  have h1:hl≠x:=fun e=>by rw[e,ag] at a;cases a
  rw[aq h1] at a;have h2:hl≠dx:=fun e=>by rw[e,ag] at a;cases a
  rw[aq h2] at a;exact a
 clear o1 T hne Y U r;walk_at"i";have F:=s1 _ _ hht;have h8:=P.nm.fD;have hk8:=hK.fD;refine⟨j,_,F,j,_,rfl,F,fun o=>?_⟩;generalize eH:upd H1 j _=H2;have nZ:H2 j=some (.fe o (.dK (fM c d))):=by rw[<-eH];exact ag
 have aF:∀ b u,b≠j->H1 b=some u->H2 b=some u:=fun b u n e=>by rw[<-eH,aq n];exact e
 have hn2:∀ b,H2 b=none->H1 b=none:=fun b e=>by
  cases e1:H1 b with
  | none=>rfl
  | some u=>
   by_cases z:b=j
   ·rw[z,nZ] at e;cases e
   ·rw[aF b u z e1] at e;cases e
 clear eH;have e4:(Str.ofString "put ").length=4:=by decide +kernel
 have e1:(Str.ofString " ").length=1:=by decide +kernel
 have hbig:(1000:Nat)<=sizeLine:=by decide
 refine uB (Ku nZ) (fun _=>true) (fun i=>.str (putL c (d.getD i (0,0)))) (by rw[kr];exact aC (by omega)) ?_ ?_
 ·intro i H3 A B' hi hS hA _;rw[kr] at hi;rw[Kv hi];obtain⟨_,hm⟩:=GX hi;obtain⟨Z,p2⟩:=hK.lt _ hm;have hv:=AX (cs:=cs) P.nm.nd hK hm;have nl:=(dG (P.nm.nm _ (getD_memS Z))).2.2;have J:(d.getD i (0,0)).2<10 ^ 30:=T2 p2 (P.RZ _ (nK (by rw[P.lc];exact Z))).2
  have cl:(dP (d.getD i (0,0)).2).length<=30:=(iy J).2.2.2;walk_at"s";refine⟨_,_,rfl,rfl,by rw[e4];omega,?_⟩
  refine⟨_,_,rfl,rfl,by rw[aE,e4,e1];omega,?_⟩
  refine⟨j,.str (dP (d.getD i (0,0)).2),rfl,.inl ⟨_,.inr (c.getD (d.getD i (0,0)).1 ba),.inr ⟨o,hS _ _ nZ⟩,rfl,hv.symm⟩,_,_,rfl,rfl,by rw[aE,aE,e4,e1];omega,?_⟩
  rw[show Str.ofString "put "++c.getD (d.getD i (0,0)).1 ba++Str.ofString " "++dP (d.getD i (0,0)).2=putL c (d.getD i (0,0)) from v7 c _ _]
  exact hA rfl _ (ah.refl _)
 intro ac H3 I s3 t;rw[bK,kr,yH (fun p=>V.str (putL c p))] at t;have t:H3 ac=some (.lst ((d.map (putL c)).map V.str)):=by rw[t,kJ];rfl
 refine⟨o,s3 _ _ nZ,?_⟩;have Q:ah H1 (upd H3 j (.dK (fM c d))):=fun b u e=>by
  by_cases z:b=j
  ·rw[z,ag];rw[z,F] at e;exact e
  ·rw[aq z];exact s3 _ _ (aF b u z e)
 have O:ac≠j:=fun z=>by rw[z,nZ] at I;cases I
 have E:upd H3 j (.dK (fM c d)) ac=some (.lst ((d.map (putL c)).map V.str)):=by rw[aq O];exact t
 generalize upd H3 j (.dK (fM c d))=H4 at Q E ⊢;clear t I s3 nZ aF hn2 O;refine⟨ac,d.map (putL c),rfl,aB.of E,by rw[di];omega,fun l ms hl0 hp=>?_⟩
 obtain⟨f,rfl,g⟩:=tU (putL c) hp rfl;generalize eH:upd H4 l _=H5;obtain⟨s5,a0⟩:=my hl0 eH;clear eH hp E hl0;have ab:=s1.trans (Q.trans s5);have hD5:=hD.mono (Q.trans s5);walk_at"s";refine lN (fun σ' H'=>∃ (l:Addr) (f:List (Nat × Nat)),σ'=[some (.str (ck M)),some (.ref j),some (.ref dr),some (.ref x),some (.ref l),none]/\ah H5 H'/\H' l=some (.lst ((f.map (putL c)).map V.str))/\f.Perm d) ?_ ?_
 rotate_left
 ·intro R hR;walk_at"s";refine bJ (ab _ _ hdr) hdl hnn (by decide) (by decide) fun x4=>?_
  walk_at"s";refine bR (fun _=>?_) (fun _=>hR _ _ ⟨l,f,rfl,ah.refl _,a0,g⟩);refine⟨trivial,l,_,rfl,aB.of a0,fun l2 hl20=>?_⟩;refine hR _ _ ⟨l2,f.reverse,rfl,ah.new hl20 _,?_,(reverse_perm _).trans g⟩;rw[ag,<-P3,<-P3]
 clear a0 g s5 Q;rintro σ6 H6 ⟨l,f,rfl,s6,hl6,g⟩;have s06:=ab.trans s6;have hD6:=hD5.mono s6;have hKx:iC c cs f:=⟨(g.map _).nodup_iff.mpr hK.nd,fun p hp=>hK.lt p (g.mem_iff.mp hp)⟩;clear hD5 ab s6 hD;walk_at"i";refine LD (RL X.K ay aI H [some (.str (ck M)),some (.ref j),some (.ref dr),some (.ref x),some (.ref l)] l x hl c cs ws L f) (aB.of hl6) ⟨_,rfl,s06,hl6,hD6,D⟩ (fun k σ H' h=>by obtain⟨_,_,_,h,_⟩:=h;exact aB.of h) ?_ ?_
 ·rintro k v σ H7 hv ⟨y,rfl,s7,hl7,m,D7⟩;obtain⟨hk,rfl⟩:k<f.length/\v=.str (putL c (f.getD k (0,0))):=by
   by_cases hk:k<f.length
   ·refine⟨hk,?_⟩;rw[ey,ey,(GX hk).1] at hv;exact(ot hv).symm
   ·rw[j6 (by rw[di,di];omega)] at hv;cases hv
  obtain⟨Z,p2⟩:=hKx.lt _ (GX hk).2;have aa:=wo (z:=z0 cs) hk;generalize f.getD k (0,0)=p at Z p2 aa ⊢;have J:p.2<10 ^ 30:=T2 p2 (P.RZ _ (nK (by rw[P.lc];exact Z))).2
  obtain⟨D8,hB⟩:=D7.set Z p2;obtain⟨⟨_,_,hd,_⟩,_⟩:=id m;obtain⟨_,_,_,_,hHl,_⟩:=id m;obtain⟨_,_,hhl,_⟩:=hHl.ex;walk_at"s";refine v8 hd Mi ?_;refine AW (.put p.1 p.2) m D7 ⟨Z,J⟩ (fun l8 rows H8 _ _ o8 _ _ _ a3=>?_) (fun z=>?_)
  ·have a3:bc X.K ay aI H8 x hl c cs ws L (bC (f.take (k+1)) (z0 cs)):=by
    rw[aa];have e:ml cs (bC (f.take k) (z0 cs)) (.put p.1 p.2)=(bC (f.take k) (z0 cs)).set p.1 ((p.2:Nat):Int):=if_pos hB;rw[<-e];exact a3
   walk_at"s";exact⟨_,rfl,fun b u e=>o8 b u (fun z=>by rw[z,a] at e;cases e) (s7 _ _ e),o8 _ _ (cF hl7 hhl fun z=>nomatch z) hl7,a3,by rw[aa];exact D8⟩
  ·have z:(if cI (aD cs) ((bC (f.take k) (z0 cs)).set p.1 ((p.2:Nat):Int))=true then some [] else (none:Option (List Str)))=none:=z
   rw[if_pos hB] at z;cases z
 rintro σ H7 ⟨y,rfl,s7,_,m,D7⟩;rw[di,di,SZ,wg g hK.nd] at m D7;subst eL;walk_at"s";exact q x hl H7 s7 hx0 a m D7
theorem KU {H:Hp}{Q:VK}{l:Addr}{ns:List Str}{cs ws:List Nat}{M:List Mx}(P:g4 ns cs ws)(hM:cZ ns ws (fun i=>i<ns.length) M)(hMl:M.length<=16)(hl:H l=some (.lst ((M.map (eP ns cs)).map V.str)))
  (q:(∀ y∈M.map (gE ns cs),gA y)->(M.map (gE ns cs)).length<=100->cS ⟨[],[],[]⟩ (M.map (gE ns cs))=some ⟨ns,cs,ws⟩->Q (.str (ck (M.map (gE ns cs)))) H):rJoin K (.str (Str.ofString "\n")) [.ref l] H Q:=by
 have e:(Str.ofString "\n")=⟨#[10]⟩:=by decide +kernel
 have b:=hM.qS P;have f:M.map (eP ns cs)=(M.map (gE ns cs)).map k9:=by rw[kJ];rfl
 have a:(M.map (gE ns cs)).length<=100:=by rw[di];omega
 have j:=iZ b a;have d:=fK 1271 (M.map (eP ns cs)) fun y hy=>by
  obtain⟨x,hx,rfl⟩:=j9.mp hy;exact iY (hM.sZ P x hx)
 rw[di] at d;have h:M.length*1272<=16*1272:=FS _ hMl;have g:(1000000:Nat)<=sizeLine:=by decide
 have c:Str.join ⟨#[10]⟩ (M.map (eP ns cs))=ck (M.map (gE ns cs)):=by rw[f];rfl
 refine⟨_,l,M.map (eP ns cs),rfl,rfl,aB.of hl,?_,?_,?_⟩
 ·rw[e];show ((M.map (eP ns cs)).map fun z=>z.length+1).sum<=_
  omega
 ·rw[e,c];omega
 rw[e,c];exact q b a (hM.book P (fun i hi=>hi))
theorem wC {H:Hp}{x dx hl:Addr}{o':HO}(h:L2.upd (L2.upd H dx o) x o' hl=none):H hl=none:=by
 have h1:hl≠x:=fun e=>by rw[e,ag] at h;cases h
 rw[aq h1] at h;have a:hl≠dx:=fun e=>by rw[e,ag] at h;cases h
 rw[aq a] at h;exact h
theorem OT:DS (ai kA) ["script","texts","books","k","desks","hats","held","cell","drawn","who","names","counts","web","line","words","found","other","beside","ask"] ["script"] ["range","_law_house","_law_mixed_lines","sum","_law_draws","Desk","_law_ask","len","_law_line","_law_anew","list"]:=aN
theorem OU (B:Bn mg)(ER:ll K mg Hc er)(aZ:fi K mg "Hall" ay ["counts","groups","worn"])(bO:fi K mg "Desk" aI ["book","hall"]){f:Addr}{fd:FuncData}(FL:HA K "law" "law" kA f fd)(wN:Fn P w K mg base 4 "_law_house" ["cells","most","kinds"] (rp K))(bS:Fn P w K mg base 1 "_law_draws" ["cell","count"] il)(kC:Fn P w K mg base 1 "_law_mixed_lines" ["book","drawn"] (As K))(dc:Gs P w K mg base 8 aI "__init__" "self" "text" "" (oy K ay aI))(zd:Fn P w K mg base 1 "_law_line" ["drawn","names","counts"] we)(i5:Fn P w K mg base 8 "_law_ask" ["desk","line"] (oA K ay aI))(o7:Fn P w K mg base 10 "_law_anew" ["text","hats","drawn"] (wm K ay aI)):eK P w K mg base Bu 11 f fd ["script"] (zX K):=by
 refine FL.gq OT (fun vs H Q E h=>?_) ?_
 ·obtain⟨a,J,rfl,_⟩:=h;rfl
 walk_at"hI";obtain⟨a,xs,rfl,ha,hl,q⟩:=h;refine⟨_,(ae (bg S 1 (eY bL))
   (ae (bg S 2 (eY bL))
   (ae (eZ hxe hc (jY S 0 B.range (af aw)) (kg S 3) (ae (c8 (jW rr mo oo bw rfl (kv S 2) (af (cA S 1 wN hr (ak (i7 S hc hsc (jY S 0 B.range (af aw)) (N:=["j","script","k"]) (W:=["j"]) (G:=["sum"]) (fv:=[none,some 0,some 3]) (by decide +kernel) (fun cl C fp s H S2=>⟨(kg S2 0),bp,(c7 S2 0 (cX rfl rfl) B.sum boot_sum (af (LX (kv S2 1) (aR aU (kv S2 2) (kv S2 0)) aw rfl)))⟩)) (ak aw (af aw)))))))
   (aj (c8 (jW rr mo oo bw rfl (kv S 1) (af (jW IR Ur type_str_join (cR rfl) rfl bj (af (cA S 2 kC hr (ak (eC (kv S 2) (kv S 3)) (af (cA S 4 bS hr (ak (c7 S 3 (cX hc rfl) B.sum boot_sum (af (LX (kv S 0) (aR aU aw (kv S 3)) aw rfl))) (af aw))))))))))))))
   (ae (cG (aV aP (bG (c7 S 3 (cX hc rfl) B.sum boot_sum (af (kv S 0)))) aw (au _)) (ae (En (c9 (kv S 2)) (NO (kv S 2) aw set_list))
   (aj (En (c9 (kv S 1)) (NO (kv S 1) aw set_list)))) aA)
   (ae (bg S 4 (eY (ak (Ox S 5 bO dc md hr (af (c9 (kv S 1)))) (af (Ox S 5 bO dc md hr (af (c9 (kv S 1))))))))
   (ae (bg S 5 (eY (ak Ah (af Ah))))
   (ae (bg S 6 (eY bL))
   (ae (eZ hxe hc (cQ (pB (cP rfl) (kv S 0) bD (bE aw)) rfl) (kg S 7) (ae (bg S 8 (cA S 4 bS hr (ak (kv S 7) (af aw))))
   (ae (bg S 9 (bG (c9 (kv S 8))))
   (ae (En (eC (kv S 2) (kv S 9)) (Q8 hc (K:=X.K) (n:=3) rfl (aS (kg S 10) (aS (kg S 11) (aS (kg S 12) c6)))))
   (ae (bg S 13 bj)
   (ae (cG (aV zC (c7 S 7 (aG rfl) B.len ro (af (kv S 10))) aw (au _)) (aj (bg S 13 (cA S 8 zd hr (ak (kv S 8) (ak (kv S 10) (af (kv S 11))))))) aA)
   (ae (bg S 14 (jW IR Ux type_str_split eO rfl (kv S 13) (af bj)))
   (ae (bg S 15 (cA S 6 i5 hr (ak (eC (kv S 4) (kv S 9)) (af (kv S 13)))))
   (ae (cG (HC (IW (aV (xJ hu rfl) (iD (kv S 15)) (eY bL) (au _)) (zW (aV aP (c9 (kv S 14)) bj (au _))))) (aj (EO (u1 hu) (c9 (kv S 14)) (eC (kv S 5) (kv S 9)) (c9 (kv S 14)))) aA)
   (ae (cG (aV (r8 hu rfl) (kv S 15) (cA S 6 i5 hr (ak (cA S 9 o7 hr (ak (eC (kv S 1) (kv S 9)) (ak (eC (kv S 5) (kv S 9)) (af (kv S 8))))) (af (kv S 13)))) (au _)) (aj (aK HB)) aA)
   (ae (cG (aV (xJ hu rfl) (iD (kv S 15)) (eY bL) (au _)) (ae (cG (aV aP (bG (c9 (kv S 8))) aw (au _)) (aj (c8 (jW rr mo oo bw rfl (iD (kv S 15)) (af bj)))) aA)
   (aj (c8 (jW rr mo oo bw rfl (kv S 6) (af (qy (ak (iD (kv S 15)) (af (nu S 10 (xI rfl) B.list boot_list (af (iD (kv S 15)))))))))))) aA)
   (ae (bg S 16 (aR cq aw (kv S 9)))
   (aj (cG (aV aP (bG (c9 (kv S 8))) aw (au _)) (ae (bg S 17 (cA S 9 o7 hr (ak (eC (kv S 1) (kv S 16)) (ak (eC (kv S 5) (kv S 16)) (af (kv S 8))))))
   (aj (eZ hxe hc (cQ (aR (dE rfl) (eY (af bj)) (i7 S hc hsc (cQ (pB (cP rfl) (c9 (eC (kv S 2) (kv S 16))) bD (bE aw)) rfl) (N:=["name"]) (W:=["name"]) (G:=[]) (fv:=[none]) (by decide +kernel) (fun cl C fp s H S2=>⟨(kg S2 0),bp,(aR aY bj (kv S2 0))⟩))) rfl) (kg S 18) (aj (cG (aV (r8 hu rfl) (cA S 6 i5 hr (ak (eC (kv S 4) (kv S 16)) (af (kv S 18)))) (cA S 6 i5 hr (ak (kv S 17) (af (kv S 18)))) (au _)) (aj (aK HB)) aA))))) aA))))))))))))))
   (aj (aK (jV aP (c7 S 7 (aG rfl) B.len ro (af (i7 S hc hsc (cQ (kv S 6) rfl) (N:=["pair"]) (W:=["pair"]) (G:=[]) (fv:=[none]) (by decide +kernel) (fun cl C fp s H S2=>⟨(kg S2 0),(gp (aV (r8 hu rfl) (mK (cW rfl) (kv S2 0) aw (fun _ _=>rfl)) (mK (cW rfl) (kv S2 0) aw (fun _ _=>rfl)) (au _))),(kv S2 0)⟩)))) aw (au _)))))))))))),?_⟩
 walk_at"i";refine⟨by decide,fun tx htx0=>?_⟩
 generalize T:upd H tx _=H1;obtain⟨s1,htx⟩:=my htx0 T;clear T;walk_at"i";refine⟨by decide,fun Y hbo0=>?_⟩
 generalize T:upd H1 Y _=H2;obtain⟨s2,hbo⟩:=my hbo0 T;clear T;have hboN:H Y=none:=s1.free hbo0;have htb:tx≠Y:=az htx hbo0;walk_at"i";refine forR 2 (RM H a tx Y) rfl (by decide) ⟨_,[],rfl,s1.trans s2,s2 _ _ htx,hbo,rfl,(fun _ z=>nomatch z)⟩ ?_ ?_
 ·rintro k σ H3 hk ⟨y,S0,rfl,s3,D,I,hS,hB⟩;walk_at"i";refine⟨.inl ⟨rfl,_,aB.of I⟩,?_⟩;refine EM 3 rfl (by decide) (fun _ _=>True) ?_ ?_
  ·intro j H4 A hj hS4 hA;walk_at"s";refine⟨_,rfl,_,rfl,a,_,rfl,(s3.trans hS4).seq ha,by decide,fun R p hp hfit=>?_⟩
   rw[qU];exact⟨p,_,rfl,aB.of ag,hA _ _ (ah.new hp _) trivial⟩
  intro cl row H4 hcl0 s4 hcl hrow _;refine⟨cl,row,4,4,rfl,aB.of hcl,hrow,by decide,by decide,by decide,by decide,fun b J cs ws H5 s5 hb P hn4=>?_⟩
  have s35:=s4.trans s5;have hb5:fo [tx,Y] H5 b J cs ws:=hb.x fun x hx=>by
   rcases gz.mp hx with rfl | hx
   ·rw[s4 _ _ D];exact fun z=>nomatch z
   ·rw[ea.mp hx,s4 _ _ I];exact fun z=>nomatch z
  refine⟨Y,_,_,rfl,rfl,s35 _ _ I,by rw[di];exact bZ (by omega),?_⟩
  have hb6:=hb5.upd (x:=Y) (o:=.lst ((S0.map fun s=>V.ref s.b)++[V.ref b])) (by simp)
  have hB6:∀ s∈S0,ku [tx,Y] (upd H5 Y (.lst ((S0.map fun s=>V.ref s.b)++[V.ref b]))) s:=fun s hs=>((hB s hs).mono s35).upd (by simp)
  have s06:ah H (upd H5 Y (.lst ((S0.map fun s=>V.ref s.b)++[V.ref b]))):=(s3.trans s35).set hboN _;have htx6:upd H5 Y (.lst ((S0.map fun s=>V.ref s.b)++[V.ref b])) tx=some (.lst (S0.map fun s=>.str (ck s.M))):=by rw[aq htb];exact s35 _ _ D
  have hbo6:upd H5 Y (.lst ((S0.map fun s=>V.ref s.b)++[V.ref b])) Y=some (.lst ((S0.map fun s=>V.ref s.b)++[V.ref b])):=ag;generalize upd H5 Y (.lst ((S0.map fun s=>V.ref s.b)++[V.ref b]))=H6 at hb6 hB6 s06 htx6 hbo6 ⊢;clear s35 s4 s5 hcl hcl0 hrow hb hb5 hB D I s3;walk_at"s";refine⟨.inl ⟨rfl,_,aB.of htx6⟩,rfl,?_⟩;refine av (i:=((k:Nat):Int)) (aB.of hbo6) (ax (show ((S0.map fun s=>V.ref s.b)++[V.ref b])[k]?=some (.ref b) by rw[zk (by rw[di];omega),di,hS,Nat.sub_self];rfl)) ?_
  refine⟨_,rfl,_,rfl,a,_,rfl,s06.seq ha,by decide,fun R p hp hfit=>?_⟩
  rw[qU];generalize T:upd H6 p _=H7;obtain⟨s7,hp7⟩:=my hp T;clear T;refine⟨p,_,rfl,aB.of hp7,?_⟩;refine⟨_,26,rfl,by decide,fun dr dn H8 s8 _ hdr hdn hnn=>?_⟩
  refine⟨b,dr,J,cs,ws,dn,rfl,(hb6.mono (s7.trans s8)).at,P,hdr,hdn,hnn,fun l M H9 s9 hl9 hM hMl=>?_⟩;have s69:=(s7.trans s8).trans s9;refine KU P hM hMl hl9 fun hoks hlen hbook=>?_;refine⟨tx,_,_,rfl,rfl,s69 _ _ htx6,by rw[di];exact bZ (by omega),?_⟩
  refine⟨_,S0++[⟨b,M.map (gE J cs),J,cs,ws,0,0,0,[]⟩],rfl,(s06.trans s69).set htx0 _,by rw[ag,hO];rfl,by rw[aq (Ne.symm htb),s69 _ _ hbo6,hO];rfl,by rw[fz,hS];rfl,fun s hs=>?_⟩
  rcases kb.mp hs with hs | hs
  ·exact((hB6 s hs).mono s69).upd (by simp)
  ·rw[ea.mp hs];exact⟨(hb6.mono s69).upd (by simp),P,hoks,hlen,hbook⟩
 rintro σ H3 ⟨y,S0,rfl,s3,D,I,hS,hB⟩;obtain⟨s0,s1',rfl⟩:∃ p q,S0=[p,q]:=by
  match S0,hS with
  | [p,q],_=>exact⟨p,q,rfl⟩
 have ab:=hB s0 (by simp)
 have aF:=hB s1' (by simp)
 clear hB hS s1 s2 htx hbo hbo0;walk_at"s";refine lN (fun σ' H'=>∃ p q:Sd,σ'=some (.ref a)::some (.ref tx)::some (.ref Y)::y::List.replicate 15 none/\ah H H'/\H' tx=some (.lst [.str (ck p.M),.str (ck q.M)])/\H' Y=some (.lst [.ref p.b,.ref q.b])/\ku [tx,Y] H' p/\ku [tx,Y] H' q) ?_ ?_
 rotate_left
 ·intro R hR;walk_at"s";refine kT (s3.seq ha) ?_;walk_at"s";refine bR (fun _=>?_) (fun _=>hR _ _ ⟨s0,s1',rfl,s3,D,I,ab,aF⟩);walk_at"h";refine av (i:=((0:Nat):Int)) (aB.of I) (ax rfl) ?_;walk_at"s";refine⟨Y,_,1,1,rfl,rfl,I,rfl,?_⟩;walk_at"s";have hbo4:upd H3 Y (.lst [V.ref s0.b,V.ref s0.b]) Y=some (.lst [.ref s0.b,.ref s0.b]):=ag;have htx4:upd H3 Y (.lst [V.ref s0.b,V.ref s0.b]) tx=some (.lst [.str (ck s0.M),.str (ck s1'.M)]):=by rw[aq htb];exact D
  have hB4:=ab.upd (x:=Y) (o:=.lst [V.ref s0.b,V.ref s0.b]) (by simp)
  have s4:=s3.set hboN (.lst [V.ref s0.b,V.ref s0.b]);generalize upd H3 Y (.lst [V.ref s0.b,V.ref s0.b])=H4 at hbo4 htx4 hB4 s4 ⊢;refine av (i:=((0:Nat):Int)) (aB.of htx4) (ax rfl) ?_;walk_at"s";refine⟨tx,_,1,1,rfl,rfl,htx4,rfl,?_⟩;exact hR _ _ ⟨s0,s0,rfl,s4.set htx0 _,ag,by rw[aq (Ne.symm htb)];exact hbo4,hB4.upd (by simp),hB4.upd (by simp)⟩
 clear ab aF D I s3;rintro σ H3 ⟨p,q',rfl,s3,D,I,ab,aF⟩;walk_at"i";refine av (i:=((0:Nat):Int)) (aB.of D) (ax rfl) ?_;intro d0 dx0 hd0 hdx0 hne0;refine⟨d0,dx0,p.M,p.ns,p.cs,p.ws,rfl,ag,ab.CJ,ab.len,ab.book,ab.P,fun H4 l0 L0 o4 hl0 eL0 hD0 DK0=>⟨rfl,?_⟩⟩;have s4:=lO hd0 hdx0 hne0 o4;have hl00:=wC hl0;refine av (i:=((1:Nat):Int)) (aB.of (s4 _ _ D)) (ax rfl) ?_;intro d1 dx1 hd1 hdx1 hne1;refine⟨d1,dx1,q'.M,q'.ns,q'.cs,q'.ws,rfl,ag,aF.CJ,aF.len,aF.book,aF.P,fun H5 l1 L1 o5 hl1 eL1 hD1 DK1=>⟨rfl,by decide,fun ds hds0=>?_⟩⟩
 have s5:=lO hd1 hdx1 hne1 o5;have hl10:=wC hl1;subst eL0 eL1;generalize T:upd H5 ds _=H6;obtain⟨s6,hds⟩:=my hds0 T;clear T;have n1:d1≠l0:=fun e=>by obtain⟨_,_,_,h⟩:=hD0.My;rw[<-e,hd1] at h;cases h
 have n2:l1≠l0:=fun e=>by obtain⟨_,_,_,h⟩:=hD0.My;rw[<-e,hl10] at h;cases h
 have n3:d0≠l1:=fun e=>by obtain⟨⟨_,_,h,_⟩,_⟩:=hD0;rw[e,hl10] at h;cases h
 walk_at"i";intro h0 hh0 h1 hh1;refine⟨by decide,fun hs hhs0=>?_⟩
 have hh01:h0≠h1:=fun e=>by rw[<-e,ag] at hh1;cases hh1
 have t0:=ah.new hh0 (.dK []);have t1:=ah.new hh1 (.dK []);have t2:=ah.new hhs0 (.lst [V.ref h0,V.ref h1]);have hh0':=(t1.trans t2) _ _ (ag (H:=H6) (a:=h0) (o:=.dK []));have hh1':=t2 _ _ (ag (H:=L2.upd H6 h0 (.dK [])) (a:=h1) (o:=.dK []));have s7:=t0.trans (t1.trans t2);generalize T:upd (upd (upd H6 h0 (.dK [])) h1 (.dK [])) hs _=H7 at hh0' hh1' s7 t2;have hhs:H7 hs=some (.lst [.ref h0,.ref h1]):=by rw[<-T];exact ag
 clear T t0 t1 t2;walk_at"i";refine⟨by decide,fun he hhe0=>?_⟩
 generalize T:upd H7 he _=H8;obtain⟨s8,hhe⟩:=my hhe0 T;clear T;have s57:=s6.trans s7;have s37:=(s4.trans s5).trans s57;have hSt:dW X.K ay aI tx Y ds hs he [he] 0 (fun w=>if w=0 then {p with d:=d0,hl:=l0,ht:=h0,kv:=[]} else {q' with d:=d1,hl:=l1,ht:=h1,kv:=[]}) H8:=by
  have g:∀ x∈[he],H7 x=none:=fun x hx=>by rw[ea.mp hx];exact hhe0
  refine⟨(s37.trans s8) _ _ D,(s37.trans s8) _ _ I,(s7.trans s8) _ _ hds,s8 _ _ hhs,fun w hw=>?_,fun w v hw hv hne=>?_,?_,[],hhe,ef _,(fun _ z=>nomatch z)⟩
  ·match w,hw with
   | 0,_=>exact⟨⟨((ab.mono s37).more g).bk.mono s8,ab.P,ab.CJ,ab.len,ab.book⟩,hD0.mono ((s5.trans s57).trans s8),DK0,s8 _ _ hh0',⟨.nil,fun _ z=>nomatch z⟩⟩
   | 1,_=>exact⟨⟨((aF.mono s37).more g).bk.mono s8,aF.P,aF.CJ,aF.len,aF.book⟩,hD1.mono (s57.trans s8),DK1,s8 _ _ hh1',⟨.nil,fun _ z=>nomatch z⟩⟩
  ·match w,v,hw,hv,hne with
   | 0,1,_,_,_=>exact⟨n3,Ne.symm n2,hh01⟩
   | 1,0,_,_,_=>exact⟨n1,n2,Ne.symm hh01⟩
   | 0,0,_,_,h=>exact absurd rfl h
   | 1,1,_,_,h=>exact absurd rfl h
  ·intro x hx;rw[ea.mp hx];exact⟨Ne.symm (az (s37 _ _ D) hhe0),Ne.symm (az (s37 _ _ I) hhe0),Ne.symm (az (s7 _ _ hds) hhe0),Ne.symm (az hhs hhe0)⟩
 have s08:=s3.trans (s37.trans s8);clear s7 s57 s37 s8 ab aF hD0 hD1 DK0 DK1 hh0 hh1 hh0' hh1' hhs hhe hds hds0 D I s4 s5 s6 n1 n2 n3 hl0 hl1 hl00 hl10 hhs0 o4 o5;walk_at"i";refine tP 40 (s08.seq ha) fun sl H9 s9 hsl0 hsl=>?_;obtain⟨_,hhe,_⟩:=hSt.held;have hsle:sl≠he:=Ne.symm (az hhe hsl0);clear hhe hsl0;have hSt:=hSt.mono s9;rw[<-map_take] at hsl;walk_at"s";refine forL (G0 X.K ay aI H9 a tx Y ds hs he y) (aB.of hsl) ⟨_,_,_,_,_,_,_,_,_,_,_,_,_,rfl,fun x O e _=>e,hSt⟩ (fun k σ H' h=>by obtain⟨_,_,_,_,_,_,_,_,_,_,_,_,_,_,h,_⟩:=h;exact aB.of (h _ _ hsl hsle)) ?_ ?_
 ·rintro k σ H10 hk ⟨F,z0',z1',z2',z3',z4',z5',z6',z7',z8',z9',z10',z11',rfl,hk10,hT⟩;walk_at"i";refine⟨_,8,rfl,by decide,fun dr dn H11 s11 hdr0 hdr hdl hnn=>?_⟩
  obtain⟨_,hhe10,_⟩:=hT.held;have hdre:dr≠he:=Ne.symm (az hhe10 hdr0);clear hhe10 hdr0;walk_at"i";refine bJ hdr hdl hnn (by decide) (by decide) fun x5=>?_
  walk_at"s";have hw:x5 % 2<2:=mod_lt _ (by decide)
  rw[show ((x5:Int) % 2)=((x5 % 2:Nat):Int) from rfl]
  generalize x5 % 2=w at hw ⊢;have hT:=hT.mono s11;have hF:=hT.sd w hw;obtain⟨n1,n2,n3,hb,hn1,hn2,hn3⟩:=hF.b.bk.at;have P:=hF.b.P;walk_at"h";refine av (i:=((w:Nat):Int)) (aB.of hT.HI) (ax (gK (f:=fun w=>.ref (F w).b) hw)) ?_;refine⟨(F w).b,_,rfl,aB.of hb,rfl,?_⟩;refine⟨_,_,rfl,⟨_,_,rfl,⟨_,_,rfl,⟨rfl,?_⟩⟩⟩⟩;walk_at"i";refine lN (fun σ' H'=>∃ aa:AK,σ'=[some (.ref a),some (.ref tx),some (.ref Y),y,some (.ref ds),some (.ref hs),some (.ref he),some (.int ((xs.take 40).getD k 0)),some (.ref dr),some (.int ((w:Nat):Int)),some (.ref n1),some (.ref n2),some (.ref n3),some (.str (Str.join ⟨#[32]⟩ (dk (F w).ns aa))),z7',z8',z9',z10',z11']/\ah H11 H'/\iw (F w).ns aa/\∀ i c,aa=.put i c->c<=(F w).cs.getD i 0) ?_ ?_
  rotate_left
  ·intro R hR;walk_at"s";refine bq (.inl (aB.of hn1)) ?_;rw[di];walk_at"s";refine bR (fun c=>?_) (fun _=>hR _ _ ⟨.right,rfl,ah.refl _,trivial,fun _ _ z=>nomatch z⟩);exact⟨dr,n1,n2,(F w).ns,(F w).cs,(F w).ws,dn,rfl,hdr,hdl,hnn,hn1,hn2,P,fun z=>by rw[z] at c;exact absurd c (by decide),fun aa H12 s12 h1 h2=>hR _ _ ⟨aa,rfl,s12,h1,h2⟩⟩
  rintro σ12 H12 ⟨aa,rfl,s12,hao,hab⟩;have hT:=hT.mono s12;have hdr:=s12 _ _ hdr;clear hF hb hn1 hn2 hn3;have hF:=hT.sd w hw;walk_at"i";obtain⟨w1,w2,w3⟩:=lx P hao;have hsp:=fg 32 w1 fun x hx=>(w2 x hx).1;have hjl:=Kn P hao;have hbig:(1000:Nat)<=sizeLine:=by decide
  rw[bu];refine⟨rfl,GQ (by decide) (by omega) (by rw[hsp];omega) fun wd hwd0=>?_⟩
  rw[hsp];generalize T:upd H12 wd _=H13;obtain⟨s13,hwd⟩:=my hwd0 T;clear T hsp w1 w2;have hT:=hT.mono s13;have hdr:=s13 _ _ hdr;clear hF;have hF:=hT.sd w hw;walk_at"i";refine av (i:=((w:Nat):Int)) (aB.of hT.HL) (ax (gK (f:=fun w=>.ref (F w).d) hw)) ?_;obtain⟨_,hhe13,_⟩:=hT.held;obtain⟨Z,hZ⟩:∃ Z:List Str->Addr->L2.St,∀ J t,Z J t=[some (.ref a),some (.ref tx),some (.ref Y),y,some (.ref ds),some (.ref hs),some (.ref he),some (.int ((xs.take 40).getD k 0)),some (.ref dr),some (.int ((w:Nat):Int)),some (.ref n1),some (.ref n2),some (.ref n3),some (.str (Str.join ⟨#[32]⟩ (dk J aa))),some (.ref wd),some (.ref t),z9',z10',z11']:=⟨_,fun _ _=>rfl⟩;have rest:∀ (t l kl:Addr) (o:Option (List Str)) (H14:Hp),outF (F w).ns (F w).cs (F w).ws (F w).L (F w).hs aa=o->(∀ r,o=some r->∀ x∈r,eW x)->Off (F w).hl H13 H14->yK H14 t l kl o->(l=he∨H13 l=none)->(∀ r,o=some r->l≠he)->bc X.K ay aI H14 (F w).d (F w).hl (F w).ns (F w).cs (F w).ws (F w).L (ml (F w).cs (F w).hs aa)->zR (Z (F w).ns t) H14:=by
   intro t l kl o H14 ho hch o14 m hl0 hlh hD;have hTG:=hT.sub (G':=[he,l]) fun x hx=>by
    rcases gz.mp hx with rfl | hx
    ·exact .inl fO
    ·rw[ea.mp hx]
     rcases hl0 with rfl | e
     ·exact .inl fO
     ·exact .inr e
   obtain⟨C0,dx0',fs0,hin⟩:=hF.GZ;have kp14:∀ x O,H13 x=some (.lst O)->H14 x=some (.lst O):=fun x O e=>o14 _ _ (cF e hin fun z=>nomatch z) e;rw[hZ];walk_at"s";refine lN (fun σ' H'=>∃ U:Nat->Sd,σ'=Z (F w).ns t/\dW X.K ay aI tx Y ds hs he [he,l] k U H'/\(U w).ns=(F w).ns/\outF (U w).ns (U w).cs (U w).ws (U w).L (U w).hs aa=o/\yK H' t l kl o/\∀ x O,H13 x=some (.lst O)->H' x=some (.lst O)) ?_ ?_
   rotate_left
   ·intro R hR;walk_at"s";refine aQ (i:=1) (aH.of m.tp) rfl ?_;walk_at"s";refine⟨by decide,fun e1 he10=>?_⟩
    generalize T:upd H14 e1 _=H15;obtain⟨s15,he1⟩:=my he10 T;clear T;refine AZ (s15 _ _ m.kd) he1 ?_;have kp15:∀ x O,H13 x=some (.lst O)->H15 x=some (.lst O):=fun x O e=>s15 _ _ (kp14 x O e);have kG:ml (F w).cs (F w).hs aa=(F w).hs->R (Z (F w).ns t) H15:=fun e=>hR _ _ ⟨F,rfl,(hTG.ask hw o14 (by rw[e] at hD;exact hD)).mono s15,rfl,ho,m.of fun x u _ z=>s15 _ _ z,kp15⟩
    cases o with
    | none=>
     walk_at"s";exact hZ _ _ ▸ kG (wt ho)
    | some r=>
     walk_at"s";rw[if_pos (show (some r).isSome=true from rfl)]
     obtain⟨tl,etl⟩:=Kx (F w).ns aa;have hwd15:=kp15 _ _ hwd;refine av (i:=((0:Nat):Int)) (aB.of hwd15) (ax (show (((dk (F w).ns aa).map V.str)[0]?=some (.str (Sh aa))) by rw[etl];rfl)) ?_
     walk_at"s"
     by_cases c0:Sh aa=Str.ofString "put"
     ·obtain⟨i,c,rfl⟩:=OK c0;have hB:=Ky ho;have hi:i<(F w).ns.length:=hao.1;have hc:=Ha (by rw[P.lc];exact hi) hB
      rw[if_pos c0];refine av (i:=((2:Nat):Int)) (aB.of hwd15) (ax (show (((dk (F w).ns (.put i c)).map V.str)[2]?=some (.str (dP c))) from rfl)) ?_
      refine av (i:=((w:Nat):Int)) (aB.of (kp15 _ _ hT.Hu)) (ax (gK (f:=fun w=>.ref (F w).ht) hw)) ?_;refine av (i:=((1:Nat):Int)) (aB.of hwd15) (ax (show (((dk (F w).ns (.put i c)).map V.str)[1]?=some (.str ((F w).ns.getD i ba))) from rfl)) ?_
      have hd14:=o14 _ _ (cF hF.pN hin fun z=>nomatch z) hF.pN;have hd15:=s15 _ _ hd14;have h8:=P.nm.fD;have hk8:=hF.da.fD;refine⟨(F w).ht,_,rfl,pv.k (k:=Sum.inr ((F w).ns.getD i ba)) hd15 (by rw[kr];exact aC (by omega)),?_⟩
      rw[GY P.nm.nd hF.da hi];have eN:ml (F w).cs (F w).hs (.put i c)=(F w).hs.set i ((c:Nat):Int):=if_pos hB;rw[eN] at hD;have eS:bC (fm (F w).kv (i,c)) (z0 (F w).cs)=(F w).hs.set i ((c:Nat):Int):=wk hF.da.nd (by unfold z0;rw[Ut,P.lc];exact hi)
      have kd:=Kd.upd (o:=.dK (fM (F w).ns (fm (F w).kv (i,c)))) hd15;refine hR _ _ ⟨HF F w i c,(hZ _ _).symm,hTG.put hw (fun b u n e=>s15 _ _ (o14 b u n e)) (hD.mono s15) hi hc,by rw[yI],?_,m.of fun x u n z=>kd _ _ n (s15 _ _ z),fun x O e=>kd _ _ (fun _ z=>nomatch z) (kp15 x O e)⟩
      rw[yI];show outF (F w).ns (F w).cs (F w).ws (F w).L (bC (fm (F w).kv (i,c)) (z0 (F w).cs)) (.put i c)=_;rw[eS,Cp];exact ho
     ·rw[if_neg c0];exact hZ _ _ ▸ kG (G9 fun i c e=>c0 (by rw[e];rfl))
   clear hD m o14 kp14 hTG hwd;rintro σ15 H15 ⟨U,rfl,a0,ens,ho5,m,kp⟩;have hF5:=a0.sd w hw;rw[<-ens,hZ];have hao5:iw (U w).ns aa:=by rw[ens];exact hao
   walk_at"i";refine av (i:=((w:Nat):Int)) (aB.of a0.HJ) (ax (gK (f:=fun w=>.str (ck (U w).M)) hw)) ?_;refine av (i:=((w:Nat):Int)) (aB.of a0.Hu) (ax (gK (f:=fun w=>.ref (U w).ht) hw)) ?_;refine⟨(U w).ht,dr,(U w).M,(U w).ns,(U w).cs,(U w).ws,(U w).kv,dn,rfl,hF5.b.CJ,hF5.b.len,hF5.b.book,hF5.b.P,hF5.pN,hF5.da,kp _ _ hdr,hdl,hnn,fun d6 hl6 H16 s16 _ hl60 hD6 D6=>?_⟩;refine tV hD6 D6 hao5 fun t2 H17 o17 _ nZ _=>?_;have nZ:ji H17 t2 o:=by rw[<-ho5];exact nZ
   have s57:ah H15 H17:=fun b u e=>o17 b u (fun z=>by rw[z,hl60] at e;cases e) (s16 _ _ e)
   have m:=m.of fun x u _ e=>s57 x u e;refine G8 m.at nZ hch ?_;have a0:=a0.mono s57;have kp:∀ x O,H13 x=some (.lst O)->H17 x=some (.lst O):=fun x O e=>s57 _ _ (kp x O e);clear nZ s57 o17 hD6 D6 hl60 s16 hF5;walk_at"s";refine lN (fun σ' H'=>σ'=Z (U w).ns t/\dW X.K ay aI tx Y ds hs he [he] (k+1) U H'/\∀ x O,H13 x=some (.lst O)->x≠he->H' x=some (.lst O)) ?_ ?_
   rotate_left
   ·intro R hR;walk_at"s";refine aQ (i:=1) (aH.of m.tp) rfl ?_;walk_at"s";refine⟨by decide,fun e1 he10=>?_⟩
    generalize T:upd H17 e1 _=H18;obtain⟨s18,he1⟩:=my he10 T;clear T;refine AZ (s18 _ _ m.kd) he1 ?_;have a0:=a0.mono s18;have m:=m.of fun x u _ e=>s18 x u e;have kp:∀ x O,H13 x=some (.lst O)->H18 x=some (.lst O):=fun x O e=>s18 _ _ (kp x O e);clear he10 he1 s18
    cases o with
    | none=>
     walk_at"s";exact hR _ _ ⟨(hZ _ _).symm,(a0.sub fun x hx=>.inl (by rw[ea.mp hx];exact fO)).le (le_succ _),fun x O e _=>kp x O e⟩
    | some r=>
     walk_at"s";rw[if_pos (show (some r).isSome=true from rfl)]
     have hle:=hlh r rfl;have hch:=hch r rfl;have hl13:H13 l=none:=hl0.resolve_left hle;have hr16:=Kz hF.ok ho;refine lN (fun σ' H'=>∃ r':List Str,σ'=Z (U w).ns t/\dW X.K ay aI tx Y ds hs he [he,l] k U H'/\(∀ x∈r',eW x)/\H' t=some (.tup [.ref l,.ref kl])/\H' l=some (.lst (r'.map V.str))/\∀ x O,H13 x=some (.lst O)->H' x=some (.lst O)) ?_ ?_
     rotate_left
     ·intro R hR;walk_at"s";refine bJ (kp _ _ hdr) hdl hnn (by decide) (by decide) fun x6=>?_
      walk_at"s";refine bR (fun _=>?_) (fun _=>hR _ _ ⟨r,(hZ _ _).symm,a0,hch,m.tp,m.rw r rfl,kp⟩);refine aQ (i:=0) (aH.of m.tp) rfl ?_;have hl18:=m.rw r rfl;refine⟨.inl ⟨rfl,_,aB.of hl18⟩,l,_,_,rfl,rfl,hl18,by rw[di];exact aC (by omega),?_⟩
      refine hR _ _ ⟨r++[Str.ofString "rain"],(hZ _ _).symm,a0.cE (by simp) hl18 hle,fun x hx=>?_,by rw[aq (cF m.tp hl18 fun z=>nomatch z)];exact m.tp,by rw[ag,hO];rfl,fun x O e=>by rw[aq (az e hl13)];exact kp x O e⟩
      rcases kb.mp hx with hx | hx
      ·exact hch x hx
      ·rw[ea.mp hx];unfold eW;decide +kernel
     clear a0 m kp hch;rintro σ19 H19 ⟨r',rfl,hT9,hch,htp,hl19,kp⟩;rw[hZ];obtain⟨_,hu9,_⟩:=hT9.held;walk_at"s";refine⟨.inl ⟨rfl,_,aB.of hu9⟩,?_⟩;refine aQ (i:=0) (aH.of htp) rfl ?_;refine aQ (i:=0) (aH.of htp) rfl ?_;refine⟨l,_,rfl,.inl (aB.of hl19),fun c hc0=>?_⟩;generalize T:upd H19 c _=H20;obtain⟨s20,hc⟩:=my hc0 T;clear T;refine⟨by decide,fun p hp0=>?_⟩
     generalize T:upd H20 p _=H21;obtain⟨s21,hp⟩:=my hp0 T;clear T;have hT1:=hT9.mono (s20.trans s21);obtain⟨us,hu,hul,_⟩:=hT1.held;have hk40:k<40:=by rw[qN] at hk;omega
     refine⟨he,_,_,rfl,rfl,hu,aC (by omega),?_⟩
     refine hR _ _ ⟨(hZ _ _).symm,(hT1.sub fun x hx=>.inl (by rw[ea.mp hx];exact fO)).app fO hu hp ((s20.trans s21) _ _ hl19) (s21 _ _ hc) hch (fun x hx=>?_),fun x O e n=>by rw[aq n];exact(s20.trans s21) _ _ (kp x O e)⟩
     rw[ea.mp hx];exact⟨hle,Ne.symm (az hu9 hc0)⟩
   clear a0 m kp hch ho5 hlh hl0 ho hF;rintro σ18 H18 ⟨rfl,hT8,kp⟩;rw[hZ];walk_at"i";rw[show (1 - ((w:Nat):Int))=((1 - w:Nat):Int) by omega]
   have hv:1 - w<2:=by omega
   generalize 1 - w=v at hv ⊢;walk_at"s";have hdr8:=kp _ _ hdr hdre;have done:∀ H' (b0 b1 b2 b3 b4 b5 b6 b7 b8 b9 b10 b11:Option V),ah H18 H'->G0 X.K ay aI H9 a tx Y ds hs he y (k+1) [some (.ref a),some (.ref tx),some (.ref Y),y,some (.ref ds),some (.ref hs),some (.ref he),b0,b1,b2,b3,b4,b5,b6,b7,b8,b9,b10,b11] H':=fun H' b0 b1 b2 b3 b4 b5 b6 b7 b8 b9 b10 b11 s=>⟨U,_,_,_,_,_,_,_,_,_,_,_,_,rfl,fun x O e n=>s _ _ (kp x O (((s11.trans s12).trans s13) _ _ (hk10 x O e n)) n),hT8.mono s⟩;refine bJ hdr8 hdl hnn (by decide) (by decide) fun x7=>?_
   walk_at"s";refine bR (fun _=>?_) (fun _=>done H18 _ _ _ _ _ _ _ _ _ _ _ _ (ah.refl _));have hF8:=hT8.sd v hv;walk_at"i";refine av (i:=((v:Nat):Int)) (aB.of hT8.HJ) (ax (gK (f:=fun w=>.str (ck (U w).M)) hv)) ?_;refine av (i:=((v:Nat):Int)) (aB.of hT8.Hu) (ax (gK (f:=fun w=>.ref (U w).ht) hv)) ?_;refine⟨(U v).ht,dr,(U v).M,(U v).ns,(U v).cs,(U v).ws,(U v).kv,dn,rfl,hF8.b.CJ,hF8.b.len,hF8.b.book,hF8.b.P,hF8.pN,hF8.da,hdr8,hdl,hnn,fun d9 hl9 H20 s20 _ hl90 hD9 D9=>?_⟩;have hT0:=hT8.mono s20;have hF0:=hF8.mono s20;obtain⟨m1,m2,m3,hb,hm1,_,_⟩:=hF0.b.bk.at;have P8:=hF0.b.P;have eg:(Str.ofString "guess ").length=6:=by decide +kernel
   walk_at"s";refine⟨by decide,fun p1 hp10=>?_⟩
   generalize T:upd H20 p1 _=H21;obtain⟨s21,hp1⟩:=my hp10 T;clear T;refine av (i:=((v:Nat):Int)) (aB.of (s21 _ _ hT0.HI)) (ax (gK (f:=fun w=>.ref (U w).b) hv)) ?_;refine av (i:=((0:Nat):Int)) (aB.of (s21 _ _ hb)) (ax rfl) ?_;refine tP 2 (aB.of (s21 _ _ hm1)) fun p2 H22 s22 _ hp2=>?_;rw[<-map_take] at hp2;refine⟨p2,rfl,⟨_,aB.of hp2⟩,uB (cV (aB.of hp2)) (fun _=>true) (fun i=>.str (Str.join ⟨#[32]⟩ (dk (U v).ns (.du i)))) (by rw[di,qN];exact aC (by omega)) ?_ ?_⟩
   ·intro i H23 A B' hi hS hA _;rw[di,qN] at hi;have hi2:i<(U v).ns.length:=by omega
    have nl:=(dG (P8.nm.nm _ (getD_memS hi2))).2.2;rw[Hb hi2 (by omega)]
    walk_at"s";refine⟨_,_,rfl,rfl,by rw[eg];omega,?_⟩
    rw[ow];exact hA rfl _ (ah.refl _)
   intro ac H23 _ s23 hac;rw[bK,di] at hac;refine⟨p1,ac,_,_,rfl,rfl,aB.of ((s22.trans s23) _ _ hp1),aB.of hac,nA (by rw[di,kc,qN];show 1+_<=1000;omega),fun ul hul0=>?_⟩
   generalize T:upd H23 ul _=H24;obtain⟨s24,hul⟩:=my hul0 T;clear T;have hul:H24 ul=some (.lst (A0 (U v).ns)):=hul;have s04:=s21.trans (s22.trans (s23.trans s24));refine LD (RN H24 [some (.ref a),some (.ref tx),some (.ref Y),y,some (.ref ds),some (.ref hs),some (.ref he),some (.int ((xs.take 40).getD k 0)),some (.ref dr),some (.int ((w:Nat):Int)),some (.ref n1),some (.ref n2),some (.ref n3),some (.str (Str.join ⟨#[32]⟩ (dk (U w).ns aa))),some (.ref wd),some (.ref t),some (.int ((v:Nat):Int)),some (.ref d9)]) (aB.of hul) ⟨_,rfl,ah.refl _⟩ (fun k σ H' h=>by obtain⟨_,_,s⟩:=h;exact aB.of (s _ _ hul)) ?_ ?_
   ·rintro j u σ H25 hju ⟨z,rfl,s25⟩;obtain⟨a2,rfl,ha2,st2⟩:=Cq hju;have s05:=s04.trans s25;walk_at"s";refine av (i:=((v:Nat):Int)) (aB.of (s05 _ _ hT0.HL)) (ax (gK (f:=fun w=>.ref (U w).d) hv)) ?_;refine tV (hF0.wG.mono s05) hF0.ok ha2 fun t1 H26 _ s26 HE hc1=>?_;have s26:=s26 st2;refine tV (hD9.mono (s05.trans s26)) D9 ha2 fun t2 H27 _ s27 nZ _=>?_;have s27:=s27 st2;refine G8 (HE.mono s27) nZ hc1 ?_;walk_at"s";exact⟨_,rfl,s25.trans (s26.trans s27)⟩
   ·rintro σ H25 ⟨z,rfl,s25⟩;exact done H25 _ _ _ _ _ _ _ _ _ _ _ _ (s20.trans (s04.trans s25))
  refine⟨(F w).d,(F w).hl,(F w).ns,(F w).cs,(F w).ws,(F w).L,(F w).hs,aa,rfl,hF.wG,hF.ok,hao,fun t l kl rows H14 ho hch o14 hst hl0 ht hl14 hkl hD=>?_,fun hn t kl H14 s14 ht hkl=>?_⟩
  ·show zR _ _;rw[<-hZ];exact rest t l kl (some rows) H14 ho (fun r e=>by cases e;exact hch) o14 ⟨ht,hkl,fun r e=>by cases e;exact hl14⟩ (.inr hl0) (fun _ _=>Ne.symm (az hhe13 hl0)) hD
  ·show zR _ _;rw[<-hZ];exact rest t he kl none H14 hn (fun _ z=>nomatch z) (Off.oz s14) ⟨ht,hkl,fun _ z=>nomatch z⟩ (.inl rfl) (fun _ z=>nomatch z) (by rw[wt hn];exact hF.wG.mono s14)
 rintro σ H10 ⟨F,_,_,_,_,_,_,_,_,_,_,_,_,rfl,hk10,hT⟩;obtain⟨us,hu,hul,hh⟩:=hT.held;have hk40:((xs.take 40).map V.int).length<=40:=by rw[di,qN];omega
 rw[di] at hk40;walk_at"s";refine⟨he,rfl,⟨_,aB.of hu⟩,SQ (cV (aB.of hu)) (aC (by omega)) ?_ ?_⟩
 ·intro i H11 B' A hi hS hB;obtain⟨t,a1,b1,r,e,h1,h2,h3,hc,_⟩:=hh (us.getD i .br) (by rw[cc,cv hi];exact oD hi)
  rw[e];walk_at"s";refine aQ (i:=0) (aH.of (hS _ _ h1)) rfl ?_;refine aQ (i:=1) (aH.of (hS _ _ h1)) rfl ?_;refine Km (aB.of (hS _ _ h2)) (aB.of (hS _ _ h3)) hc hc ?_;rw[ek rfl];walk_at"s";exact hB
 intro acc H11 s11 hacc;refine bq (.inl (aB.of hacc)) ?_;walk_at"s";exact q H11
theorem all_mk {l:PySem.W.OpenLaw}{h:Heap}{fa f33 f57:Addr}(X:K.In h)(G:h.Ns mainGlobals mg)(hfa:mg "law"=some (.ref fa))
  {od33 an33 od57 an57:Option Addr} {sl33 sl57:Array (Option Value)} {oc33 kV33 dc33 pm33 cd33 ct33 oc57 kV57 dc57 pm57 cd57 ct57:Value}
  (d0:DQ K "greatest_divisor" dm)
  (d1:DQ K "share" tW)
  (d2:DQ K "sure" yL)
  (d3:DQ K "product" lD)
  (d4:DQ K "circle_guess" fq)
  (d5:DQ K "ring_guess" gL)
  (d6:DQ K "places" oF)
  (d7:DQ K "sees" yM)
  (d8:DQ K "is_circle" iE)
  (d9:DQ K "is_ring" lE)
  (d10:DQ K "first_ready" fN)
  (d11:DQ K "laid_out" ju)
  (d12:DQ K "sight_order" fP)
  (d13:DQ K "first_seen" gM)
  (d14:DQ K "sight_ring" gN)
  (d15:DQ K "rises" tX)
  (d16:DQ K "is_group" jv)
  (d17:DQ K "group_fault" fQ)
  (d18:DQ K "picked" oH)
  (d19:DQ K "group_sure" gO)
  (d20:DQ K "made_sure" iF)
  (d21:DQ K "group_guess" fR)
  (d22:DQ K "sights_from" fS)
  (d23:DQ K "lone_group" gP)
  (d24:DQ K "lone_choices" ft)
  (d25:DQ K "parts_of" jw)
  (d26:DQ K "best_choice" fT)
  (d27:DQ K "best_groups" fU)
  (d28:DQ K "are_hats" jx)
  (d29:DQ K "is_name" lF)
  (d30:DQ K "is_count" jy)
  (d31:DQ K "is_hat_line" fV)
  (d32:DQ K "is_sees_line" fu)
  {T33:Addr} {t33:Tok} {o33:Obj} {m33:Nat} (a33:nsIn K mainGlobals "read_line"=some (some (.ref f33))) (l33:K.lookup f33=some ⟨oc33,od33,.func (fnOf "read_line" "read_line" (bf cT) (aO cT) (ai cT) (.ref T33) kV33 dc33 pm33 an33 cd33 ct33),sl33⟩) (c33:codeIn K cd33 "read_line"=true) (k33:keepIn K (.ref f33)=true) (lt33:K.lookup T33=some o33) (ld33:o33.data=.seq #[.int 0 t33] m33)
  (d34:DQ K "add_hat" lG)
  (d35:DQ K "add_sight" iG)
  (d36:DQ K "rows_of" lH)
  (d37:DQ K "read_book" iH)
  (d38:DQ K "shown_book" gQ)
  (d39:DQ K "fits" yN)
  (d40:DQ K "is_ask" oI)
  (d41:DQ K "number_of" iI)
  (d42:DQ K "named" ky)
  (d43:DQ K "shown_share" fW)
  (d44:DQ K "shown_group" fX)
  (d45:DQ K "told_of" lI)
  (d46:DQ K "_law_draws" iJ)
  (d47:DQ K "_law_fresh" iK)
  (d48:DQ K "_law_names" iL)
  (d49:DQ K "_law_count" iM)
  (d50:DQ K "_law_mixed_lines" dH)
  (d51:DQ K "_law_sight" iN)
  (d52:DQ K "_law_hat_count" eD)
  (d53:DQ K "_law_house" iO)
  (d54:DQ K "_law_ask" lJ)
  (d55:DQ K "_law_line" jz)
  (d56:DQ K "_law_anew" jA)
  (a57:nsIn K mainGlobals "law"=some (some (.ref f57))) (l57:K.lookup f57=some ⟨oc57,od57,.func (fnOf "law" "law" (bf kA) (aO kA) (ai kA) .none kV57 dc57 pm57 an57 cd57 ct57),sl57⟩) (c57:codeIn K cd57 "law"=true) (k57:keepIn K (.ref f57)=true)
  (z0:nsIn K mainGlobals "range"=some none)
  (z1:nsIn K mainGlobals "len"=some none)
  (z2:nsIn K mainGlobals "sum"=some none)
  (z3:nsIn K mainGlobals "max"=some none)
  (z4:nsIn K mainGlobals "isinstance"=some none)
  (z5:nsIn K mainGlobals "int"=some none)
  (z6:nsIn K mainGlobals "bool"=some none)
  (z7:nsIn K mainGlobals "str"=some none)
  (z8:nsIn K mainGlobals "tuple"=some none)
  (z9:nsIn K mainGlobals "list"=some none)
  (z10:nsIn K mainGlobals "sorted"=some none)
  (z11:nsIn K mainGlobals "set"=some none)
  (z12:nsIn K mainGlobals "all"=some none)
  (z13:nsIn K mainGlobals "any"=some none)
  (z14:nsIn K mainGlobals "zip"=some none)
  (z15:nsIn K mainGlobals "enumerate"=some none)
  {u0:Tok} (q0:nsIn K mainGlobals "LETTERS"=some (some (.str "abcdefghijklmnopqrstuvwxyz" u0)))
  {u1:Tok} (q1:nsIn K mainGlobals "FIGURES"=some (some (.str "0123456789" u1)))
  {u2:Tok} (q2:nsIn K mainGlobals "LONGEST_NAME"=some (some (.int 12 u2)))
  {u3:Tok} (q3:nsIn K mainGlobals "LONGEST_COUNT"=some (some (.int 30 u3)))
  {u4:Tok} (q4:nsIn K mainGlobals "MOST_PEOPLE"=some (some (.int 8 u4)))
  {fe0 fe1 fe2 fe3 fe4 fe5 fe6 fe7 fe8:Addr} {ft0 ft1 ft2 ft3 ft4 ft5 ft6 ft7 ft8 fu0 fu1 fu2:Tok} {fep fn0 fn1 fn2 fn3 fn4 fn5 fn6 fn7 fn8:Nat} {fd0 fd1 fd2 fd3 fd4 fd5 fd6 fd7 fd8:Option Addr} {fs0 fs1 fs2 fs3 fs4 fs5 fs6 fs7 fs8:Array (Option Value)} (fa0:nsIn K mainGlobals "FORMS"=some (some (.ref aF))) (fhs:(aF == sysModules)=false)
  (fa1:K.lookup aF=some ⟨.type "dict",none,.dict #[⟨PyData.keyHash w.params "sure",.str "sure" ft0,.ref fe0⟩,⟨PyData.keyHash w.params "share",.str "share" ft1,.ref fe1⟩,⟨PyData.keyHash w.params "groups",.str "groups" ft2,.ref fe2⟩,⟨PyData.keyHash w.params "ring",.str "ring" ft3,.ref fe3⟩,⟨PyData.keyHash w.params "order",.str "order" ft4,.ref fe4⟩,⟨PyData.keyHash w.params "put",.str "put" ft5,.ref fe5⟩,⟨PyData.keyHash w.params "guess",.str "guess" ft6,.ref fe6⟩,⟨PyData.keyHash w.params "right",.str "right" ft7,.ref fe7⟩,⟨PyData.keyHash w.params "book",.str "book" ft8,.ref fe8⟩] fep,#[]⟩)
  (fl0:K.lookup fe0=some ⟨.type "tuple",fd0,.seq #[] fn0,fs0⟩) (fl1:K.lookup fe1=some ⟨.type "tuple",fd1,.seq #[] fn1,fs1⟩) (fl2:K.lookup fe2=some ⟨.type "tuple",fd2,.seq #[] fn2,fs2⟩) (fl3:K.lookup fe3=some ⟨.type "tuple",fd3,.seq #[] fn3,fs3⟩) (fl4:K.lookup fe4=some ⟨.type "tuple",fd4,.seq #[] fn4,fs4⟩) (fl5:K.lookup fe5=some ⟨.type "tuple",fd5,.seq #[.str "name" fu0,.str "colour" fu1] fn5,fs5⟩) (fl6:K.lookup fe6=some ⟨.type "tuple",fd6,.seq #[.str "name" fu2] fn6,fs6⟩) (fl7:K.lookup fe7=some ⟨.type "tuple",fd7,.seq #[] fn7,fs7⟩) (fl8:K.lookup fe8=some ⟨.type "tuple",fd8,.seq #[] fn8,fs8⟩)
  (caHall:nsIn K mainGlobals "Hall"=some (some (.ref ay))) (cokHall:AB K "Hall" ay ["counts","groups","worn"]=true)
  (caDesk:nsIn K mainGlobals "Desk"=some (some (.ref aI))) (cokDesk:AB K "Desk" aI ["book","hall"]=true)
  (md0:MQ K ay "__init__" "Hall.__init__" eE)
  (md1:MQ K ay "put_all" "Hall.put_all" fB)
  (md2:MQ K ay "put" "Hall.put" jB)
  (md3:MQ K ay "guess" "Hall.guess" gR)
  (md4:MQ K ay "right" "Hall.right" gS)
  {mT5:Addr} {mu5:Tok} {mO5:Obj} {mN5:Nat} {mf5:Addr} {md5 mn5:Option Addr} {ms5:Array (Option Value)} {mo5 mk5 me5 mp5 mc5 mt5:Value} (ma5:findIn K (.ref aI) "__init__"=some (some (.ref mf5))) (ml5:K.lookup mf5=some ⟨mo5,md5,.func (fnOf "__init__" "Desk.__init__" (bf bN) (aO bN) (ai bN) (.ref mT5) mk5 me5 mp5 mn5 mc5 mt5),ms5⟩) (mq5:codeIn K mc5 "Desk.__init__"=true) (mw5:keepIn K (.ref mf5)=true) (mi5:isFn K (.ref mf5)=true) (mlt5:K.lookup mT5=some mO5) (mld5:mO5.data=.seq #[.str "" mu5] mN5)
  (md6:MQ K aI "ask" "Desk.ask" jC)
  {er0:Addr} (ea0:nsIn K mainGlobals "HatError"=some (some (.ref er0)))
  {er1:Addr} (ea1:nsIn K mainGlobals "LineError"=some (some (.ref er1)))
  {er2:Addr} (ea2:nsIn K mainGlobals "NoAsk"=some (some (.ref er2)))
  {er3:Addr} (ea3:nsIn K mainGlobals "NoName"=some (some (.ref er3)))
  {er4:Addr} (ea4:nsIn K mainGlobals "NoHats"=some (some (.ref er4)))
  {er5:Addr} (ea5:nsIn K mainGlobals "NoGroups"=some (some (.ref er5)))
  (eok:LZ K Hc (fun x=>if x=("HatError":Str) then er0 else if x=("LineError":Str) then er1 else if x=("NoAsk":Str) then er2 else if x=("NoName":Str) then er3 else if x=("NoHats":Str) then er4 else if x=("NoGroups":Str) then er5 else 0)=true)
  : ∃ fd:FuncData,(∀ (s:Shared) (v:Value),BindsTo s fd ⟨[v],[]⟩ [("script",v)])/\∀ base:Heap,K.In base->base.Ns mainGlobals mg->eK l.prog w K mg base Bu 11 fa fd ["script"] (zX K):=by
 have e:=hfa.symm.trans (mg_of X G a57)
 cases e
 have jH:=d0.def X G;have K1:=d1.def X G;have Z:=d2.def X G;have CO:=d3.def X G;have o9:=d4.def X G;have uq:=d5.def X G;have Hw:=d6.def X G;have O1:=d7.def X G;have wO:=d8.def X G;have CP:=d9.def X G;have pY:=d10.def X G;have ze:=d11.def X G;have pZ:=d12.def X G;have ur:=d13.def X G;have R:=d14.def X G;have K2:=d15.def X G;have N:=d16.def X G;have p0:=d17.def X G;have Hx:=d18.def X G;have uw:=d19.def X G;have wQ:=d20.def X G;have p3:=d21.def X G;have p4:=d22.def X G;have ux:=d23.def X G;have T:=d24.def X G;have zg:=d25.def X G;have p5:=d26.def X G;have p6:=d27.def X G;have zh:=d28.def X G;have CQ:=d29.def X G;have zi:=d30.def X G;have p9:=d31.def X G;have pd:=d32.def X G;have wR:Fd K mg "read_line" cT 0:=JE X G a33 l33 c33 k33 lt33 ld33;have CS:=d34.def X G;have wU:=d35.def X G;have CT:=d36.def X G;have wV:=d37.def X G;have uy:=d38.def X G;have O2:=d39.def X G;have Hy:=d40.def X G;have wW:=d41.def X G;have C:=d42.def X G;have qa:=d43.def X G;have qb:=d44.def X G;have CU:=d45.def X G;have wX:=d46.def X G;have wY:=d47.def X G;have wZ:=d48.def X G;have w4:=d49.def X G;have kD:=d50.def X G;have w6:=d51.def X G;have mE:=d52.def X G;have w8:=d53.def X G;have CV:=d54.def X G;have zj:=d55.def X G;have Y:=d56.def X G;have B:Bn mg:=⟨KF X G z0,KF X G z1,KF X G z2,KF X G z3,KF X G z4,KF X G z5,KF X G z6,KF X G z7,KF X G z8,KF X G z9,KF X G z10,KF X G z11,KF X G z12,KF X G z13,KF X G z14,KF X G z15⟩;have a:=AD X G cokHall;have c:=AD X G cokDesk;have mF:=md0.def;have pe:=md1.def;have zl:=md2.def;have uz:=md3.def;have uA:=md4.def;have mG:vV K aI "__init__" "Desk.__init__" bN "":=Gr ma5 ml5 mq5 mw5 mi5 mlt5 mld5;have O:=md6.def;have b:=JX X G eok;have z:=Gq (P:=l.prog) (w:=w) X G fa0 fhs fa1 fl0 fl1 fl2 fl3 fl4 fl5 fl6 fl7 fl8;have p:Cs mg:=⟨⟨_,mg_of X G q0⟩,⟨_,mg_of X G q1⟩,⟨_,mg_of X G q2⟩,⟨_,mg_of X G q3⟩,⟨_,mg_of X G q4⟩⟩;refine⟨fnOf "law" "law" (bf kA) (aO kA) (ai kA) .none kV57 dc57 pm57 an57 cd57 ct57,fun s v=>.of_eq rfl,fun base _ _=>?_⟩;have FL:=xB (st:=kA) l57 c57 k57;have i:=Cr (P:=l.prog) (w:=w) (base:=base) B p CQ;have r:=yO (P:=l.prog) (w:=w) (base:=base) B p zi;have F3:=Hd B p9 i r;have F4:=Ct B pd i;have F5:=KA B wR F3 F4;have F6:=Cu (P:=l.prog) (w:=w) (base:=base) B p CS;have F7:=wu (P:=l.prog) (w:=w) (base:=base) B wU;have E:=KD (P:=l.prog) (w:=w) (base:=base) B CT;have F9:=KG B wV E F5 F6 F7;have W1:=Cv (P:=l.prog) (w:=w) (base:=base) B Hw;have I:=mS (P:=l.prog) (w:=w) (base:=base) O1;have y:=t9 (P:=l.prog) (w:=w) (base:=base) B wO;have g:=yP B CP I;have SB:=He B uy W1;have C1:=RO (P:=l.prog) (w:=w) (base:=base) jH;have J:=Hf K1 C1;have C3:=KH Z J;have u:=Cw (P:=l.prog) (w:=w) (base:=base) B Hx;have C5:=Hg uw u C3;have D:=KI B wQ C5;have S:=oJ (P:=l.prog) (w:=w) (base:=base) B pY;have F:=wx ze S;have W6:=pK B ur I;have t:=oK B R F W6;have q:=oM B pZ F;have U:=Cy (P:=l.prog) (w:=w) (base:=base) B p4;have Q:=pL B ux W1 y t U;have m:=mz B T Q D;have n:=wy B zg W1;have j:=oO B p5 n;have o:=oP B p6 m j;have G1:=Hi (P:=l.prog) (w:=w) (base:=base) B K2;have G2:=OO B N G1 y g;have G3:=CA B p0 G2;have G4:=RU (P:=l.prog) (w:=w) (base:=base) uq;have G5:=yQ (P:=l.prog) (w:=w) (base:=base) CO;have G6:=RV B o9 G5;have G7:=RW B p3 G4 u G6;have A1:=yR (P:=l.prog) (w:=w) (base:=base) B zh;have A2:=Hj B b a mF G3;have A3:=yS B b a pe A1;have A4:=KL B b a zl A3;have H:=CB B a uz G7;have A6:=CC B a uA H;have E1:=KN O2 i r;have E2:=Hk B z Hy E1;have E3:=OQ (P:=l.prog) (w:=w) (base:=base) B b wW;have E4:=CD (P:=l.prog) (w:=w) (base:=base) B C;have E5:=CF (P:=l.prog) (w:=w) (base:=base) B C;have E6:=KO qa J;have E7:=OR (P:=l.prog) (w:=w) (base:=base) B qb;have E8:=CG B CU D E6 E7 E4 t q SB E;have A:=Hl B b a c mG F9 o A2;have d:=OS B b a c z O E2 E3 A4 H A6 E5 E8;have f:=CH (P:=l.prog) (w:=w) (base:=base) B wX;have L2:=Hm (P:=l.prog) (w:=w) (base:=base) B wY;have L3:=Hq B wZ f L2;have M:=Hr B w4 f;have L5:=Hs (P:=l.prog) (w:=w) (base:=base) B kD;have L7:=yT (P:=l.prog) (w:=w) (base:=base) B w6;have L8:=KQ B mE M;have L9:=yU B w8 f L3 L8 L7;have M1:=KR B b a c CV d;have M2:=CI (P:=l.prog) (w:=w) (base:=base) B zj;have M3:=KS B b a c Y A d;exact OU B b a c FL L9 f L5 A M2 M1 M3
theorem walk {l:PySem.W.OpenLaw}{q:Program}{loose:List Str}{XP:(Str->Option Value)->Heap->Prop}{YP:World->Heap->Prop}{d:DefRec}{K:Params->Frag}(hn:l.most=some 63)(hdf:d.params.defaults=[])
  (hY:∀ (w:World) (h:Heap),YP w h->(K w.params).In h)
  (F:∀ (w:World) (mg:Str->Option Value) (fa:Addr) (h:Heap),(K w.params).In h->h.Ns mainGlobals mg->mg d.name=some (.ref fa)->
   ∃ fd:FuncData,(∀ (s:Shared) (u:Value),BindsTo s fd ⟨[u],[]⟩ [("script",u)])/\∀ base:Heap,(K w.params).In base->base.Ns mainGlobals mg->eK l.prog w (K w.params) mg base Bu 11 fa fd ["script"] (zX (K w.params))) :
  PySem.W.WalkO q loose XP YP l.row.toRowW d [] (fun f vs=>PySem.call f vs):=
 L2.IC (n:=63) (k:=11) (x:="script") (CX:=fun _=>Bu) (sp:=fun w=>zX (K w.params)) hn (by decide) hdf ⟨rfl,by decide,by decide⟩ hY F (fun _ _ a c e _ b=>⟨a,c,rfl,b,e,fun _=>rfl⟩) fun _ _ _ _ _ z=>z
end K80
local macro_rules | `(tactic| walk_at"q") => `(tactic| exact ⟨_, _, _, _, _, _, _, _, _, _, by k_is, by k_is, by k_is, by k_is⟩)
local macro_rules | `(tactic| walk_at"m") => `(tactic| exact ⟨_, _, _, _, _, _, _, _, _, _, by k_is, by k_is, by k_is, by k_is, by k_is⟩)
namespace PySem.W.Fast
open PySem PySem.W PyProof.Rows
def tw2685306414272506197:=True
def tw6533008966804824953:=True
def tw11801325620770784706:=True
def tw1265081360075385189:=True
def tw15105119068569883730:=True
def tw7431346691199638580:=True
def tw3587536976593137998:=True
def tw4395663138234319650:=True
def tw2317874532116189181:=True
def tw16227399664413538324:=True
def tw836195484476249421:=True
def tw8985241834463376507:=True
def tw2697343084398318202:=True
def tw7031198416232539833:=True
def tw982604728185306595:=True
def tw10583937060439405110:=True
def tw12644420472498385119:=True
def tw4839343381950435228:=True
def tw8556719269322875171:=True
def tw5705714669725999722:=True
def tw15642357337148329517:=True
def tw18157512170367698122:=True
def tw4837391675043573183:=True
def tw14456310913579706230:=True
def tw6502738784122543204:=True
def tw12545857007259592734:=True
def tw11773018590631057166:=True
def tw8676786023694730929:=True
def tw112983311425390748:=True
def tw14035493235725092964:=True
def tw17447737319294372728:=True
def tw1607280649877828705:=True
def tw9619460207301776732:=True
def tw1764700447385910989:=True
def tw13887470049851410585:=True
def tw9454207282786655257:=True
def tw3400875213616756762:=True
def tw1425696942110643597:=True
def tw1066734016178524838:=True
def tw12439382610505961939:=True
def tw2660815155777345455:=True
def tw7823681920075773934:=True
def tw17877178816577641902:=True
def tw14658111666772540048:=True
def tw5813022254688109433:=True
def tw11641770101720630797:=True
def tw2885494358440967297:=True
def tw1345080458467091962:=True
def tw18336041035159954441:=True
def tw10866010816806616793:=True
def tw13395922842456834553:=True
def tw8209151046111576036:=True
def tw1915219302544393961:=True
def tw8856336584205055749:=True
def tw2163651606192517899:=True
def tw4007272469527194195:=True
def tw4151280877221721055:=True
def tw14754634665511909032:=True
def tw12423674070948914761:=True
def tw5205750840501999294:=True
def tw13289351901969506375:=True
def tw13938331337748948187:=True
def tw8531060874499113897:=True
def tw3902754392860249676:=True
def tw17235573838107643945:=True
def tw4898686790491433045:=True
def tw2916846726147662568:=True
def tw16707845801993729075:=True
def tw4451111389387830350:=True
def tw1026736730896430216:=True
def tw7332738350007013546:=True
def tw15500697147266552601:=True
def tw10653330615459993234:=True
def tw391237200225965907:=True
def tw7910327904573171555:=True
def tw4688314650942611733:=True
def tw12533192858721940760:=True
def tw6644972323676396848:=True
def tw4583472174582447783:=True
def tw3644425756873386261:=True
def tw3433024061295865286:=True
def tw5666795236838613432:=True
def tw7772911456180496723:=True
def tw7196642968760189529:=True
def tw4745548253359623032:=True
def tw4175616774533157453:=True
def tw687751050126666546:=True
def tw1244336300342763563:=True
def tw7078427140189133924:=True
def tw11052412425552066321:=True
def tw8495750451212540719:=True
def tw4703347973170593491:=True
def tw1962838166138940676:=True
def tw4281088734842981388:=True
def tw10907867645986893144:=True
def tw8478400788510507052:=True
def tw13801745415867792198:=True
def tw15660618633509950529:=True
def tw5015308875997901707:=True
def tw12926174489561342460:=True
def tw3255657953638418996:=True
def tw17753052685174319198:=True
def tw4857861202781097272:=True
def tw3851873922152909010:=True
def tw8557705520857354411:=True
def tw13378353662930684073:=True
def tw15811992432956063061:=True
def tw16165733412845352322:=True
def tw8682481604797148936:=True
def tw13894632217659379530:=True
def tw17327366857558784724:=True
def tw16456744802714989063:=True
def tw10327833122005258257:=True
def tw17400796982572671082:=True
def tw357206982063783271:=True
def tw12800510257522764982:=True
def tw13810868620536376711:=True
def tw9619099986362909967:=True
def tw3927604960645704619:=True
def tw5911670288363726454:=True
def tw10615425754952388433:=True
def tw6524425689312502116:=True
def tw2107803363918965670:=True
def tw1286124545539480236:=True
def tw13193275649409866382:=True
def tw4344932502941341510:=True
def tw16991964403196186852:=True
def tw7796415765881630697:=True
def tw17493387323600766480:=True
def tw2795344608738987963:=True
def tw12052456877599634290:=True
def tw7163996637218722845:=True
def tw11309901704222560874:=True
def tw468592979471577931:=True
def tw2418341792560896122:=True
def tw5822559304595215786:=True
def tw14444270740296675231:=True
def tw15479066265756385285:=True
def tw11633729390945816525:=True
def tw18289566518125473599:=True
def tw6230908126633571904:=True
def tw10751708268856982599:=True
def tw2922829534641732837:=True
def tw14726553641177063174:=True
def tw8144615682731290816:=True
def tw5563273221974167120:=True
def tw12529286896278059104:=True
def tw17580450323409104139:=True
def tw10740242818886445383:=True
def tw8632328524811725211:=True
def tw15258291259834449985:=True
def tw16160902452123419461:=True
def tw8327690565648384716:=True
def tw14298377293945010990:=True
def tw10053294898936973961:=True
def tw1737782605260088854:=True
def tw5798182360351209386:=True
def tw9621437783386650852:=True
def tw11734821928802011179:=True
def tw7832017857681820116:=True
def tw9399350991795154858:=True
def tw2730816621624903663:=True
def tw16168334783042413855:=True
def tw9436551413510776486:=True
def tw17085555771119241480:=True
def tw5602790388323192572:=True
def tw17729269205124801823:=True
def tw17042848660727915566:=True
def tw1768051958429772112:=True
def tw13901433902415454501:=True
def tw4250954126236371642:=True
def tw15975371063063957875:=True
def tw3993064402350696506:=True
def tw15874005529153874535:=True
def tw14921737937561815856:=True
def tw5568571103785478412:=True
def tw392395349835336316:=True
def tw3493791015419112923:=True
def tw2866002142514501693:=True
def tw16679755305185081881:=True
def tw5149206131794189970:=True
def tw15024368187592823733:=True
def tw14430535349260646020:=True
def tw8546237722232227004:=True
def tw12973088033238231033:=True
def tw366728296865234401:=True
end PySem.W.Fast
set_option maxRecDepth 100000 in
set_option maxHeartbeats 0 in
open PySem PySem.W PyProof.Rows
theorem PySem.Challenge.cw_hatsight_k80_two_desks_holds : PySem.Challenge.rw_hatsight_k80_two_desks.Holds := by
 w_on;o_law;k_head;(case hw=>w_witness2)
 k_fill
 refine K80.walk (l:=PySem.Challenge.rw_hatsight_k80_two_desks) rfl rfl (fun w h Y=>kIn_of Y) ?F
 case F=>
  intro w mg fa h KX G hmg;refine' K80.all_mk KX G hmg (by walk_at"q") (by walk_at"q") (by walk_at"q") (by walk_at"q") (by walk_at"q") (by walk_at"q") (by walk_at"q") (by walk_at"q") (by walk_at"q") (by walk_at"q") (by walk_at"q") (by walk_at"q") (by walk_at"q") (by walk_at"q") (by walk_at"q") (by walk_at"q") (by walk_at"q") (by walk_at"q") (by walk_at"q") (by walk_at"q") (by walk_at"q") (by walk_at"q") (by walk_at"q") (by walk_at"q") (by walk_at"q") (by walk_at"q") (by walk_at"q") (by walk_at"q") (by walk_at"q") (by walk_at"q") (by walk_at"q") (by walk_at"q") (by walk_at"q") ?a33 ?l33 ?c33 ?k33 ?lt33 ?ld33 (by walk_at"q") (by walk_at"q") (by walk_at"q") (by walk_at"q") (by walk_at"q") (by walk_at"q") (by walk_at"q") (by walk_at"q") (by walk_at"q") (by walk_at"q") (by walk_at"q") (by walk_at"q") (by walk_at"q") (by walk_at"q") (by walk_at"q") (by walk_at"q") (by walk_at"q") (by walk_at"q") (by walk_at"q") (by walk_at"q") (by walk_at"q") (by walk_at"q") (by walk_at"q") ?a57 ?l57 ?c57 ?k57 ?z0 ?z1 ?z2 ?z3 ?z4 ?z5 ?z6 ?z7 ?z8 ?z9 ?z10 ?z11 ?z12 ?z13 ?z14 ?z15 ?q0 ?q1 ?q2 ?q3 ?q4 ?fa0 ?fhs ?fa1 ?fl0 ?fl1 ?fl2 ?fl3 ?fl4 ?fl5 ?fl6 ?fl7 ?fl8 ?caHall ?cokHall ?caDesk ?cokDesk ?md0 ?md1 ?md2 ?md3 ?md4 ?ma5 ?ml5 ?mq5 ?mw5 ?mi5 ?mlt5 ?mld5 ?md6 ?ea0 ?ea1 ?ea2 ?ea3 ?ea4 ?ea5 ?eok
  (case a33=>k_is);(case l33=>k_is);(case c33=>k_is);(case k33=>k_is)
  (case lt33=>k_is);(case ld33=>rfl)
  (case a57=>k_is);(case l57=>k_is);(case c57=>k_is);(case k57=>k_is)
  (case q0=>k_is)
  (case q1=>k_is)
  (case q2=>k_is)
  (case q3=>k_is)
  (case q4=>k_is)
  (case fa0=>k_is);(case fhs=>rfl);(case fa1=>k_is);(case fl0=>k_is);(case fl1=>k_is);(case fl2=>k_is);(case fl3=>k_is);(case fl4=>k_is);(case fl5=>k_is);(case fl6=>k_is);(case fl7=>k_is);(case fl8=>k_is)
  (case caHall=>k_is)
  (case caDesk=>k_is)
  (case md0=>walk_at"m")
  (case md1=>walk_at"m")
  (case md2=>walk_at"m")
  (case md3=>walk_at"m")
  (case md4=>walk_at"m")
  (case ma5=>k_is);(case ml5=>k_is);(case mq5=>k_is);(case mw5=>k_is);(case mi5=>k_is);(case mlt5=>k_is);(case mld5=>rfl)
  (case md6=>walk_at"m")
  (case cokHall=>kernel_rfl)
  (case cokDesk=>kernel_rfl)
  (case ea0=>k_is)
  (case ea1=>k_is)
  (case ea2=>k_is)
  (case ea3=>k_is)
  (case ea4=>k_is)
  (case ea5=>k_is)
  (case eok=>kernel_rfl)
  (case z0=>k_is)
  (case z1=>k_is)
  (case z2=>k_is)
  (case z3=>k_is)
  (case z4=>k_is)
  (case z5=>k_is)
  (case z6=>k_is)
  (case z7=>k_is)
  (case z8=>k_is)
  (case z9=>k_is)
  (case z10=>k_is)
  (case z11=>k_is)
  (case z12=>k_is)
  (case z13=>k_is)
  (case z14=>k_is)
  (case z15=>k_is)
