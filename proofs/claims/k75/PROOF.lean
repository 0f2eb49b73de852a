import PyProof.Rows.All
import Wide.All
import OpenK.AllK
import Wide.FinOn
import Lean
import PyProof.EqAt
import PyProof.EqKinds
import PyProof.TupleCall
import PySem.Challenge.RW_hatsight_k75_asks
set_option Elab.async false
set_option linter.all false
set_option maxRecDepth 100000
open List (all_cons any_cons append_nil cons_append cons_ne_nil drop_zero ext_getElem filterMap_cons filter_cons filter_nil filter_sublist find?_cons flatten_cons foldl_cons forIn_cons getD_eq_getElem?_getD getElem?_drop getElem_idxOf getElem_inj getElem_take idxOf_cons length_append length_cons length_drop length_erase length_filter_le length_map length_nil length_pos_of_mem length_range length_replicate length_set length_take lookup_cons map_cons map_drop map_nil map_take mem_cons mem_cons_of_mem mem_cons_self mem_of_mem_drop nil_append nodup_append nodup_nil nodup_range not_mem_nil pairwise_map range_zero reverse_perm set_cons_succ set_cons_zero sum_cons take_append_drop take_length take_of_length_le take_sublist take_succ take_zero)
open Nat (eq_of_testBit_eq le_of_ble_eq_true le_succ log2_lt lt_log2_self lt_succ_of_lt lt_succ_self mod_eq_of_lt mod_lt mod_self not_lt_zero testBit_and testBit_eq_decide_div_mod_eq testBit_or testBit_two_pow toDigits zero_le zero_testBit)
open PySem.Heap (ExtBut IsTuple SameBut get?_push_of_some get?_push_size lt_size)
open Option (getD_none isSome_map isSome_none isSome_some map_some)
open Array (all_toList getElem?_toList)
open Int (ediv_le_self ediv_nonneg emod_eq_of_lt emod_lt_of_pos emod_nonneg eq_ofNat_of_zero_le mul_ediv_add_emod natAbs_natCast natCast_add natCast_emod natCast_nonneg sub_emod toNat toNat_natCast)
open PySem.F (args_tuple_add_2 entry_tuple_add plainAttrs_list plainAttrs_str slot_list_index slot_str_join slot_str_split slot_tuple_add slot_tuple_index type_list_index type_str_join type_str_split)
open PySem.W (binds_K callWith_K callWith_K0 cellsFrom_some codeIn emptyDict findIn fnOf handedIn hasDictIn instObj isFn kIn_of keepIn kia_one kitOne kitx_dict kitx_list lookIn makesIn methodCall_KW methodObj mg_none_of mg_of mroIn nsIn plainGet plainGet_of plainOver takerIn typeIn)
open PySem.SeqAt (EqAt list_indexAt shaped)
set_option maxHeartbeats 4000000
open PySem.W (Frag)
namespace L2
open PySem PySem.Spec PyProof.Rows
theorem b5:type_of% @List.getD_eq_getElem?_getD:=@List.getD_eq_getElem?_getD
theorem b7:type_of% @List.length_map:=@List.length_map
theorem cc:type_of% @List.getElem?_eq_getElem:=@List.getElem?_eq_getElem
theorem dy:type_of% @PySem.wpAny_bind:=@PySem.wpAny_bind
theorem ea:type_of% @decide_eq_true:=@decide_eq_true
theorem ed:type_of% @Nat.le_refl:=@Nat.le_refl
theorem ek:type_of% @decide_eq_false:=@decide_eq_false
theorem ey:type_of% @PySem.Heap.get?_push_of_some:=@PySem.Heap.get?_push_of_some
theorem eG:type_of% @List.getElem?_map:=@List.getElem?_map
theorem eR:type_of% @List.mem_singleton:=@List.mem_singleton
theorem fz:type_of% @List.length_append:=@List.length_append
theorem fA:type_of% @List.mem_cons_of_mem:=@List.mem_cons_of_mem
theorem fO:type_of% @List.mem_cons_self:=@List.mem_cons_self
theorem gc:type_of% @PySem.wpAny_pure:=@PySem.wpAny_pure
theorem gd:type_of% @List.size_toArray:=@List.size_toArray
theorem gz:type_of% @Bool.and_eq_true:=@Bool.and_eq_true
theorem hO:type_of% @List.mem_of_getElem?:=@List.mem_of_getElem?
theorem hU:type_of% @List.map_append:=@List.map_append
theorem h5:type_of% @Bool.false_ne_true:=@Bool.false_ne_true
theorem h9:type_of% @List.mem_cons:=@List.mem_cons
theorem ih:type_of% @PySem.Heap.get?_push_size:=@PySem.Heap.get?_push_size
theorem j5:type_of% @Nat.le_trans:=@Nat.le_trans
theorem j6:type_of% @Nat.lt_of_lt_of_le:=@Nat.lt_of_lt_of_le
theorem j9:type_of% @List.length_range:=@List.length_range
theorem ka:type_of% @List.mem_range:=@List.mem_range
theorem kb:type_of% @List.mem_append:=@List.mem_append
theorem kc:type_of% @List.mem_map:=@List.mem_map
theorem kf:type_of% @List.all_eq_true:=@List.all_eq_true
theorem k0:type_of% @decide_eq_true_eq:=@decide_eq_true_eq
theorem ls:type_of% @List.map_map:=@List.map_map
theorem mo:type_of% @List.getElem?_eq_none:=@List.getElem?_eq_none
theorem mv:type_of% @Nat.ne_of_lt:=@Nat.ne_of_lt
theorem nc:type_of% @PySem.F.slot_list_append:=@PySem.F.slot_list_append
theorem nt:type_of% @List.getElem?_eq_some_iff:=@List.getElem?_eq_some_iff
theorem nF:type_of% @PySem.F.type_list_append:=@PySem.F.type_list_append
theorem ot:type_of% @List.length_cons:=@List.length_cons
theorem oD:type_of% @PySem.boot_len:=@PySem.boot_len
theorem pS:type_of% @List.map_cons:=@List.map_cons
theorem p0:type_of% @List.getElem_mem:=@List.getElem_mem
theorem qs:type_of% @List.mem_filter:=@List.mem_filter
theorem qE:type_of% @Bool.true_and:=@Bool.true_and
theorem qN:type_of% @PySem.F.plainAttrs_list:=@PySem.F.plainAttrs_list
theorem q5:type_of% @List.append_assoc:=@List.append_assoc
theorem q7:type_of% @Classical.byContradiction:=@Classical.byContradiction
theorem ri:type_of% @Nat.pow_le_pow_right:=@Nat.pow_le_pow_right
theorem ro:type_of% @Int.eq_ofNat_of_zero_le:=@Int.eq_ofNat_of_zero_le
theorem r4:type_of% @Nat.testBit_eq_decide_div_mod_eq:=@Nat.testBit_eq_decide_div_mod_eq
theorem sr:type_of% @Bool.false_and:=@Bool.false_and
theorem tx:type_of% @of_decide_eq_true:=@of_decide_eq_true
theorem tz:type_of% @Option.some.inj:=@Option.some.inj
theorem u5:type_of% @Int.toNat_natCast:=@Int.toNat_natCast
theorem vr:type_of% @List.length_drop:=@List.length_drop
theorem wh:type_of% @List.mem_append_right:=@List.mem_append_right
theorem xx:type_of% @List.length_take:=@List.length_take
theorem xH:type_of% @List.getElem?_range:=@List.getElem?_range
theorem AC:type_of% @PySem.F.plainAttrs_str:=@PySem.F.plainAttrs_str
theorem A2:type_of% @Nat.mul_le_mul_right:=@Nat.mul_le_mul_right
theorem A4:type_of% @Int.mul_le_mul_of_nonneg_right:=@Int.mul_le_mul_of_nonneg_right
theorem A5:type_of% @List.length_filter_le:=@List.length_filter_le
theorem A6:type_of% @List.nodup_cons:=@List.nodup_cons
theorem BN:type_of% @List.getElem?_append_right:=@List.getElem?_append_right
theorem C2:type_of% @List.getElem_of_mem:=@List.getElem_of_mem
theorem C4:type_of% @List.filterMap_cons:=@List.filterMap_cons
theorem C6:type_of% @PyProof.Rows.boot_tuple:=@PyProof.Rows.boot_tuple
theorem Da:type_of% @beq_eq_false_iff_ne:=@beq_eq_false_iff_ne
theorem Do:type_of% @List.length_pos_iff:=@List.length_pos_iff
theorem Fk:type_of% @List.length_eq_zero_iff:=@List.length_eq_zero_iff
theorem FB:type_of% @List.take_of_length_le:=@List.take_of_length_le
theorem FM:type_of% @List.getElem?_append_left:=@List.getElem?_append_left
theorem FS:type_of% @PySem.wpAny_mono:=@PySem.wpAny_mono
theorem F1:type_of% @PySem.F.called_set:=@PySem.F.called_set
theorem F2:type_of% @List.pairwise_cons:=@List.pairwise_cons
theorem F8:type_of% @Int.emod_lt_of_pos:=@Int.emod_lt_of_pos
theorem Gc:type_of% @List.range_succ:=@List.range_succ
theorem GE:type_of% @List.idxOf_lt_length_iff:=@List.idxOf_lt_length_iff
theorem GM:type_of% @PySem.wpAny_truthy_bool:=@PySem.wpAny_truthy_bool
theorem GT:type_of% @PyProof.Rows.callWith_type1:=@PyProof.Rows.callWith_type1
theorem IR:type_of% @PySem.Heap.size_push:=@PySem.Heap.size_push
theorem I1:type_of% @Nat.lt_of_le_of_lt:=@Nat.lt_of_le_of_lt
theorem KB:type_of% @Nat.testBit_two_pow:=@Nat.testBit_two_pow
theorem KE:type_of% @PySem.F.slot_str_join:=@PySem.F.slot_str_join
theorem KF:type_of% @PySem.mem_of_lookup:=@PySem.mem_of_lookup
theorem KM:type_of% @List.ext_getElem?:=@List.ext_getElem?
theorem L1:type_of% @List.filterMap_append:=@List.filterMap_append
theorem M2:type_of% @Nat.lt_irrefl:=@Nat.lt_irrefl
theorem On:type_of% @congrArg:=@congrArg
theorem Os:type_of% @PySem.F.type_str_join:=@PySem.F.type_str_join
theorem Pi:type_of% @Bool.or_eq_true:=@Bool.or_eq_true
theorem P3:type_of% @Nat.two_pow_pos:=@Nat.two_pow_pos
theorem Re:type_of% @PySem.wpAny_pyIter_tuple:=@PySem.wpAny_pyIter_tuple
theorem SC:type_of% @PySem.W.mg_none_of:=@PySem.W.mg_none_of
theorem SL:type_of% @Int.emod_nonneg:=@Int.emod_nonneg
theorem SZ:type_of% @Nat.not_lt_zero:=@Nat.not_lt_zero
theorem Ts:type_of% @PySem.wpAny_call_entry:=@PySem.wpAny_call_entry
theorem Tt:type_of% @PySem.wpAny_callSpecial?_slot:=@PySem.wpAny_callSpecial?_slot
theorem Tu:type_of% @List.idxOf_lt_length_of_mem:=@List.idxOf_lt_length_of_mem
theorem Tv:type_of% @List.all_map:=@List.all_map
theorem Tw:type_of% @List.nodup_iff_pairwise_ne:=@List.nodup_iff_pairwise_ne
theorem Tx:type_of% @List.take_length:=@List.take_length
theorem Tz:type_of% @List.sum_cons:=@List.sum_cons
theorem TB:type_of% @PySem.call_meets:=@PySem.call_meets
theorem TC:type_of% @List.filter_append:=@List.filter_append
theorem TF:type_of% @Nat.eq_of_testBit_eq:=@Nat.eq_of_testBit_eq
theorem TH:type_of% @Int.mul_ediv_cancel_left:=@Int.mul_ediv_cancel_left
theorem TJ:type_of% @List.lookup_cons:=@List.lookup_cons
theorem TL:type_of% @Int.natAbs_natCast:=@Int.natAbs_natCast
theorem TM:type_of% @Nat.pow_lt_pow_right:=@Nat.pow_lt_pow_right
theorem TN:type_of% @PySem.wpAny_pyIter_list:=@PySem.wpAny_pyIter_list
theorem TQ:type_of% @Bool.eq_iff_iff:=@Bool.eq_iff_iff
theorem TR:type_of% @List.replicate_succ:=@List.replicate_succ
theorem TU:type_of% @List.map_eq_nil_iff:=@List.map_eq_nil_iff
theorem TV:type_of% @Nat.lt_trans:=@Nat.lt_trans
theorem TX:type_of% @PySem.wpAny_holding:=@PySem.wpAny_holding
theorem TY:type_of% @Int.add_mul:=@Int.add_mul
theorem TZ:type_of% @List.take_append_drop:=@List.take_append_drop
theorem T4:type_of% @Int.add_mul_emod_self_left:=@Int.add_mul_emod_self_left
theorem T7:type_of% @PySem.wpAny_seqItems:=@PySem.wpAny_seqItems
theorem T9:type_of% @PySem.F.slot_str_split:=@PySem.F.slot_str_split
theorem Ua:type_of% @Nat.mod_two_eq_zero_or_one:=@Nat.mod_two_eq_zero_or_one
theorem Ub:type_of% @PySem.wpAny_passesOwn:=@PySem.wpAny_passesOwn
theorem Uc:type_of% @PySem.codeAny_builtin:=@PySem.codeAny_builtin
theorem Ud:type_of% @List.mem_append_left:=@List.mem_append_left
theorem Ue:type_of% @List.nodup_append:=@List.nodup_append
theorem Ug:type_of% @PySem.wpAny_field:=@PySem.wpAny_field
theorem Uh:type_of% @Nat.le_of_ble_eq_true:=@Nat.le_of_ble_eq_true
theorem Ui:type_of% @List.append_nil:=@List.append_nil
theorem Uj:type_of% @Nat.lt_succ_of_lt:=@Nat.lt_succ_of_lt
theorem Uk:type_of% @Int.emod_eq_of_lt:=@Int.emod_eq_of_lt
theorem Ul:type_of% @List.getElem_idxOf:=@List.getElem_idxOf
theorem Um:type_of% @List.cons.inj:=@List.cons.inj
theorem Uo:type_of% @List.nodup_range:=@List.nodup_range
theorem Up:type_of% @beq_self_eq_true:=@beq_self_eq_true
theorem Uq:type_of% @Bool.and_false:=@Bool.and_false
theorem Ur:type_of% @List.map_reverse:=@List.map_reverse
theorem Us:type_of% @Nat.ne_of_gt:=@Nat.ne_of_gt
theorem Ut:type_of% @PySem.codeAny_mono:=@PySem.codeAny_mono
theorem Uu:type_of% @Nat.zero_testBit:=@Nat.zero_testBit
theorem Uv:type_of% @List.map_drop:=@List.map_drop
theorem Uw:type_of% @Int.le_refl:=@Int.le_refl
theorem Ux:type_of% @Nat.lt_succ_self:=@Nat.lt_succ_self
theorem Uy:type_of% @Int.natCast_emod:=@Int.natCast_emod
theorem Uz:type_of% @Nat.mod_eq_of_lt:=@Nat.mod_eq_of_lt
abbrev Key:=Sum Int Str
def mE:Key->Value->Bool
 | .inl k,v=>Value.isInt k v
 | .inr x,v=>Value.isStrOf x v
def Sg (w:World):Key->Int
 | .inl k=>hashInt k
 | .inr x=>hashStr w x
theorem bL:∀ {k:Key} {v:Value},mE k v=true->(∃ i t,k=Sum.inl i/\v=Value.int i t)∨(∃ x t,k=Sum.inr x/\v=Value.str x t)
 | .inl i,v,h=>by
  obtain⟨t,e⟩:=Value.isInt_shape (k:=i) (v:=v) h;exact .inl ⟨i,t,rfl,e⟩
 | .inr x,v,h=>by
  obtain⟨t,e⟩:=Value.isStrOf_shape (x:=x) (v:=v) h;exact .inr ⟨x,t,rfl,e⟩
theorem BO (i:Int)(t:Tok):mE (.inl i) (.int i t)=true:=by simp[mE,Value.isInt]
theorem BP (x:Str)(t:Tok):mE (.inr x) (.str x t)=true:=by simp[mE,Value.isStrOf]
theorem MD (a b:Int):decide ((Sum.inl a:Key)=Sum.inl b)=(a == b):=by
 by_cases e:a=b
 ·subst e;simp
 ·have h:¬ (Sum.inl a:Key)=Sum.inl b:=fun q=>e (Sum.inl.inj q);rw[ek h];exact(Da.mpr e).symm
theorem ME (a b:Str):decide ((Sum.inr a:Key)=Sum.inr b)=decide (a=b):=by
 by_cases e:a=b
 ·subst e;simp
 ·have h:¬ (Sum.inr a:Key)=Sum.inr b:=fun q=>e (Sum.inr.inj q);rw[ek h,ek e]
theorem MF (a:Int)(b:Str):decide ((Sum.inl a:Key)=Sum.inr b)=false:=ek (fun q=>nomatch q)
theorem MG (a:Str)(b:Int):decide ((Sum.inr a:Key)=Sum.inl b)=false:=ek (fun q=>nomatch q)
def bT (prog:Program)(w:World):PySem.KeyKind prog w Key where
 is:=mE
 hash:=Sg w
 inj:=fun v a b f hb=>by
  rcases bL f with ⟨i,t,rfl,rfl⟩ | ⟨x,t,rfl,rfl⟩
  ·rcases bL hb with ⟨j,u,rfl,e⟩ | ⟨y,u,rfl,e⟩
   ·injection e with c _;rw[c]
   ·exact nomatch e
  ·rcases bL hb with ⟨j,u,rfl,e⟩ | ⟨y,u,rfl,e⟩
   ·exact nomatch e
   ·injection e with c _;rw[c]
 byValue:=fun k v h=>by
  rcases bL h with ⟨i,t,rfl,rfl⟩ | ⟨x,t,rfl,rfl⟩<;>rfl
 pyHash:=fun d h=>by
  rcases bL d with ⟨i,t,rfl,rfl⟩ | ⟨x,t,rfl,rfl⟩
  ·exact wpAny_pyHash_int h
  ·exact wpAny_pyHash_str h
 eqBool:=fun hu d h=>by
  rcases bL hu with ⟨i,t,rfl,rfl⟩ | ⟨x,t,rfl,rfl⟩
  ·rcases bL d with ⟨j,u,rfl,rfl⟩ | ⟨y,u,rfl,rfl⟩
   ·rw[MD] at h;exact wpAny_eqBool_int h
   ·rw[MF] at h;exact SeqAt.EqAt.int_str i t y u _ _ _ _ h
  ·rcases bL d with ⟨j,u,rfl,rfl⟩ | ⟨y,u,rfl,rfl⟩
   ·rw[MG] at h;exact SeqAt.EqAt.str_int x t j u _ _ _ _ h
   ·rw[ME] at h;exact wpAny_eqBool_str h
 «strs»:=fun k x t v h=>by
  rcases bL h with ⟨i,u,rfl,e⟩ | ⟨y,u,rfl,e⟩
  ·exact nomatch e
  ·injection e with c _
   subst c
   cases v<;>rfl
theorem vh (prog:Program)(w:World)(i:Int)(t:Tok):(bT prog w).is (.inl i) (.int i t)=true:=BO i t
theorem bM (prog:Program)(w:World)(x:Str)(t:Tok):(bT prog w).is (.inr x) (.str x t)=true:=BP x t
inductive V where
 | bx | bl (b:Bool) | int (i:Int) | str (x:Str) | DA (b:Array UInt8) | MB (b:UInt64) | ref (a:Addr) | ty (n:String)
 deriving DecidableEq
def RelV:V->Value->Prop
 | .bx,u=>u=Value.none
 | .bl b,u=>u=Value.bool b
 | .int i,u=>∃ t,u=Value.int i t
 | .str x,u=>∃ t,u=Value.str x t
 | .DA b,u=>∃ t,u=Value.bytes b t
 | .MB b,u=>∃ t,u=Value.float b t
 | .ref a,u=>u=Value.ref a
 | .ty n,u=>u=Value.type n
abbrev Vals:List V->List Value->Prop:=Paired RelV
theorem Vals.length {xs:List V}{us:List Value}(r:Vals xs us):xs.length=us.length:=Paired.length r
theorem Vals.get:∀ {xs:List V} {us:List Value} {i:Nat} {x:V},Vals xs us->xs[i]?=some x->∃ u,us[i]?=some u/\RelV x u
 | _,_,_,_,.nil,e=>by simp at e
 | _,_,0,_,.cons r _,e=>by simp at e;subst e;exact⟨_,rfl,r⟩
 | _,_,i+1,x,.cons _ t,e=>by
  obtain⟨u,h1,a⟩:=Vals.get (i:=i) (x:=x) t (by simpa using e)
  exact⟨u,by simpa using h1,a⟩
theorem Vals.set {x:V}{u:Value}(r:RelV x u):∀ {xs:List V} {us:List Value} (i:Nat),Vals xs us->Vals (xs.set i x) (us.set i u)
 | _,_,_,.nil=>.nil
 | _,_,0,.cons _ t=>.cons r t
 | _,_,i+1,.cons q t=>.cons q (Vals.set r i t)
theorem Vals.append:∀ {xs ys:List V} {us ws:List Value},Vals xs us->Vals ys ws->Vals (xs++ys) (us++ws)
 | _,_,_,_,.nil,s=>s
 | _,_,_,_,.cons r t,s=>.cons r (Vals.append t s)
theorem Vals.take:∀ {xs:List V} {us:List Value} (n:Nat),Vals xs us->Vals (xs.take n) (us.take n)
 | _,_,0,_=>.nil
 | _,_,_+1,.nil=>.nil
 | _,_,n+1,.cons r t=>.cons r (Vals.take n t)
theorem Vals.drop:∀ {xs:List V} {us:List Value} (n:Nat),Vals xs us->Vals (xs.drop n) (us.drop n)
 | _,_,0,r=>r
 | _,_,_+1,.nil=>.nil
 | _,_,n+1,.cons _ t=>Vals.drop n t
def iD:Option V->Option Value->Prop
 | some v,some u=>RelV v u
 | none,none=>True
 | _,_=>False
variable {κ:Type}
def KV:List (κ × V)->List (κ × Value)->Prop:=Paired fun (p:κ × V) (q:κ × Value)=>p.1=q.1/\RelV p.2 q.2
def kV:Key->V
 | .inl i=>.int i
 | .inr x=>.str x
inductive HO where
 | lst (xs:List V)
 | tup (xs:List V)
 | dK (kvs:List (Key × V)) | dT (kvs:List (List Key × V))
 | set (S:Int->Bool) (n:Nat)
 | ins (C dx:Addr) (fs:List (Str × V))
 | own (x:Addr)
 | xd (fs:List (Str × V))
 | met (f x:Addr)
 | Iz (lo hi:Int)
 | iW (o:Obj) (u:HO)
 | OU (ps:Array Value)
 | ext (φ:Heap->Prop)
abbrev Hp:=Addr->Option HO
def upd (H:Hp)(a:Addr)(o:HO):Hp:=fun b=>if b=a then some o else H b
variable {H:Hp}{a:Addr}{o:HO}
theorem ag:upd H a o a=some o:=by unfold upd;rw[if_pos rfl]
variable {b:Addr}
theorem aH (h:b≠a):upd H a o b=H b:=by unfold upd;rw[if_neg h]
variable {u:HO}
theorem IB:upd (upd H a o) a u=upd H a u:=by
 funext b;unfold upd;split<;>rfl
theorem ik (h:H a=some o)(h':H b=some u)(d:o≠u):a≠b:=by
 intro e;subst e;rw[h] at h';exact d (tz h')
theorem bI (h:H a=some o)(h':H b=none):a≠b:=by
 intro e;subst e;rw[h] at h';cases h'
section
variable (P:Program)(w:World)
def bA (H:Hp)(h:Heap)(a:Addr):HO->Prop
 | .lst c=>c.length<=sizeLine/\∃ (its:List Value) (n:Nat),Vals c its/\h.get? a=some {cls:=.type "list",data:=.seq its.toArray n}
 | .tup c=>c.length<=sizeLine/\∃ its:List Value,Vals c its/\IsTup h a its.toArray
 | .dK b=>b.length<=sizeLine/\(a == sysModules)=false/\∃ vs,KV b vs/\h.DictOf (bT P w) a vs
 | .dT b=>b.length<=sizeLine/\(a == sysModules)=false/\∃ c:List (List Key × Addr × Value),
   Paired (fun (p:List Key × V) (q:List Key × Addr × Value)=>p.1=q.1/\H q.2.1=some (.tup (p.1.map kV))/\RelV p.2 q.2.2) b c/\
   ∃ o es ep,h.get? a=some o/\o.ExactDict/\o.data=.dict es ep/\es.toList=c.map (entryOfKey (tupleKind (bT P w)))/\(c.map (·.1)).Nodup
 | .set S n=>h.SetOf (intKind P w) a S n
 | .ins C d fs=>H d=some (.own a)/\fs.length<=1000/\d≠a/\h.get? a=some (instObj C d)/\
   ∃ mA,h.Ns1 d mA/\(∀ f,iD (fs.lookup f) (mA f))/\PySem.Within mA (fs.map (·.1))
 | .own _=>∃ o,h.get? a=some o
 | .xd fs=>∃ mA,h.Ns1 a mA/\∀ f,iD (fs.lookup f) (mA f)
 | .Iz e hi=>∃ t u v,h.get? a=some {cls:=.type "range",data:=.fields #[.int e t,.int hi u,.int 1 v]}
 | .iW o u=>h.get? a=some o/\bA H h a u
 | .OU g=>h.get? a=some {cls:=.none,data:=.fields g}
 | .met f x=>h.get? a=some (methodObj (.ref f) (.ref x))
 | .ext φ=>φ h/\(∃ o,h.get? a=some o)/\∀ h1 h2:Heap,φ h1->(∀ o,h1.get? a=some o->h2.get? a=some o)->φ h2
def jQ (H:Hp)(h:Heap):Prop:=∀ a o,H a=some o->bA P w H h a o
end
variable {P:Program}{w:World}{h:Heap}
theorem bA.lt (x:bA P w H h a o):a<h.objs.size:=by
 cases o with
 | lst c=>obtain⟨_,_,_,_,e⟩:=x;exact lt_size e
 | tup c=>obtain⟨_,_,_,p⟩:=x;exact p.lt
 | dK b=>obtain⟨_,_,_,_,o,_,_,e,_⟩:=x;exact lt_size e
 | dT b=>obtain⟨_,_,_,_,o,_,_,e,_⟩:=x;exact lt_size e
 | set S n=>obtain⟨o,_,_,_,e,_⟩:=x;exact lt_size e
 | ins C d fs=>obtain⟨_,_,_,e,_⟩:=x;exact lt_size e
 | own y=>obtain⟨_,e⟩:=x;exact lt_size e
 | xd fs=>obtain⟨_,⟨_,_,_,e,_⟩,_⟩:=x;exact lt_size e
 | Iz i hi=>obtain⟨_,_,_,e⟩:=x;exact lt_size e
 | iW ob u=>obtain⟨e,_⟩:=x;exact lt_size e
 | OU g=>exact lt_size (show h.get? a=some _ from x)
 | met f y=>exact lt_size (show h.get? a=some _ from x)
 | ext φ=>obtain⟨_,⟨_,e⟩,_⟩:=x;exact lt_size e
theorem Paired.MH {α β:Type}{F G:α->β->Prop}:∀ {l₁:List α} {l₂:List β},Paired F l₁ l₂->(∀ a b,F a b->G a b)->Paired G l₁ l₂
 | _,_,.nil,_=>.nil
 | _,_,.cons r t,f=>.cons (f _ _ r) (Paired.MH t f)
variable {H':Hp}{h':Heap}
theorem bA.xQ (x:bA P w H h a o)(k:∀ b u,(b=a∨H b=some (.own a))->h.get? b=some u->h'.get? b=some u)
  (ho:∀ b,H b=some (.own a)->H' b=some (.own a)) (ht:∀ b xs,H b=some (.tup xs)->H' b=some (.tup xs)):bA P w H' h' a o:=by
 induction o with
 | lst xs=>obtain⟨z,j,n,r,e⟩:=x;exact⟨z,j,n,r,k _ _ (.inl rfl) e⟩
 | tup xs=>obtain⟨z,j,r,ob,e,c⟩:=x;exact⟨z,j,r,ob,k _ _ (.inl rfl) e,c⟩
 | dK l=>obtain⟨z,y,E,r,ob,g,i,e,c⟩:=x;exact⟨z,y,E,r,ob,g,i,k _ _ (.inl rfl) e,c⟩
 | dT l=>
  obtain⟨z,y,xs,r,ob,g,i,e,c⟩:=x;exact⟨z,y,xs,Paired.MH r fun p q z=>⟨z.1,ht _ _ z.2.1,z.2.2⟩,ob,g,i,k _ _ (.inl rfl) e,c⟩
 | set S n=>obtain⟨ob,g,i,t,e,c⟩:=x;exact⟨ob,g,i,t,k _ _ (.inl rfl) e,c⟩
 | ins C F fs=>
  obtain⟨d,z,ne,e,s,⟨m,g,i,e2,c⟩,r⟩:=x;exact⟨ho _ d,z,ne,k _ _ (.inl rfl) e,s,⟨m,g,i,k _ _ (.inr d) e2,c⟩,r⟩
 | own y=>obtain⟨ob,e⟩:=x;exact⟨ob,k _ _ (.inl rfl) e⟩
 | xd fs=>obtain⟨s,⟨m,g,i,e,c⟩,r⟩:=x;exact⟨s,⟨m,g,i,k _ _ (.inl rfl) e,c⟩,r⟩
 | Iz G hi=>obtain⟨t,u,v,e⟩:=x;exact⟨t,u,v,k _ _ (.inl rfl) e⟩
 | iW ob u D=>obtain⟨e,q⟩:=x;exact⟨k _ _ (.inl rfl) e,D q⟩
 | OU A=>
  have e:h.get? a=some {cls:=.none,data:=.fields A}:=x;show h'.get? a=some {cls:=.none,data:=.fields A};exact k a _ (.inl rfl) e
 | met f y=>
  have e:h.get? a=some (methodObj (.ref f) (.ref y)):=x;show h'.get? a=some (methodObj (.ref f) (.ref y));exact k a _ (.inl rfl) e
 | ext φ=>obtain⟨p,⟨o,e⟩,B⟩:=x;exact⟨B _ _ p fun o q=>k _ _ (.inl rfl) q,⟨o,k _ _ (.inl rfl) e⟩,B⟩
theorem jQ.lt (x:jQ P w H h)(e:H a=some o):a<h.objs.size:=(x a o e).lt
theorem jQ.fresh (x:jQ P w H h)(e:h.objs.size<=a):H a=none:=by
 cases q:H a with
 | none=>rfl
 | some u=>exact absurd (j6 (x.lt q) e) (M2 _)
theorem jQ.kept (x:jQ P w H h)(k:∀ b u,h.get? b=some u->h'.get? b=some u):jQ P w H h':=fun a o e=>
 (x a o e).xQ (fun b u _ q=>k b u q) (fun _ q=>q) fun _ _ q=>q
theorem jQ.laid (x:jQ P w H h)(k:∀ b u,h.get? b=some u->h'.get? b=some u)(hp:h.objs.size<=a)(new:bA P w (upd H a o) h' a o):jQ P w (upd H a o) h':=fun b u e=>by
 have hn:=x.fresh hp
 by_cases hb:b=a
 ·subst hb;rw[ag] at e;cases e;exact new
 ·rw[aH hb] at e;exact(x b u e).xQ (fun c v _ q=>k c v q) (fun c q=>by rw[aH (bI q hn)];exact q) fun c d q=>by rw[aH (bI q hn)];exact q
def Rd (H:Hp)(a:Addr)(u:HO):Prop:=H a=some u∨∃ o,H a=some (.iW o u)
theorem Rd.ok (r:Rd H a u)(x:jQ P w H h):bA P w H h a u:=by
 rcases r with r | ⟨o,r⟩
 ·exact x a u r
 ·obtain⟨_,q⟩:=x a _ r;exact q
def Pf:Option HO->Prop
 | some (.lst _)=>True
 | some (.dK _)=>True
 | some (.dT _)=>True
 | some (.set _ _)=>True
 | some (.ins _ _ _)=>True
 | some (.ext _)=>True
 | _=>False
variable {x e:Addr}{o':HO}
theorem jQ.write (ok:jQ P w H h)(mu:Pf (H x))(he:e=x∨H e=some (.own x))(k:∀ b u,b≠e->h.get? b=some u->h'.get? b=some u)(heo:∃ u,h'.get? e=some u)
  (new:bA P w (upd H x o') h' x o'):jQ P w (upd H x o') h':=fun b u q=>by
 have d:∀ c y,H c=some (.own y)->c≠x:=fun c y r z=>by subst z;rw[r] at mu;exact mu
 have f:∀ c g,H c=some (.tup g)->c≠x:=fun c g r z=>by subst z;rw[r] at mu;exact mu
 by_cases hb:b=x
 ·subst hb;rw[ag] at q;cases q;exact new
 ·rw[aH hb] at q
  by_cases a:b=e
  ·have i:H b=some (.own x):=by
    rcases he with z | z
    ·exact absurd (a.trans z) hb
    ·rw[a];exact z
   rw[q] at i;cases i
   obtain⟨v,j⟩:=heo;exact⟨v,by rw[a];exact j⟩
  ·refine(ok b u q).xQ (fun c v hc r=>k c v ?_ r) (fun c r=>by rw[aH (d c b r)];exact r) fun c g r=>by rw[aH (f c g r)];exact r
   rcases hc with rfl | hc
   ·exact a
   ·rintro rfl
    rcases he with z | z
    ·exact d c b hc z
    ·rw[hc] at z;cases z;exact hb rfl
structure Un (fs ex:List Addr)(H H':Hp)(h h':Heap):Prop where
 keep:∀ b o,h.get? b=some o->H b=none->b∉fs->b∉ex->h'.get? b=some o
 slot:∀ b o,h.get? b=some o->H b=none->b∈fs->b∉ex->∃ sl,h'.get? b=some {o with slots:=sl}
 free:∀ b o,h.get? b=some o->H b=none->b∉ex->H' b=none
 there:∀ b o,h.get? b=some o->b∉ex->∃ o',h'.get? b=some o'
 xh:∀ b xs,H b=some (.tup xs)->H' b=some (.tup xs)
 uQ:∀ b o u,H b=some (.iW o u)->H' b=some (.iW o u)
 xj:∀ b ps,H b=some (.OU ps)->∃ more,H' b=some (.OU (ps++more))
variable {fs ex:List Addr}{H1:Hp}{h1:Heap}
theorem Un.any (u:Un fs ex H H1 h h1){ob:Obj}(q:h.get? b=some ob)(n:H b=none)(hx:b∉ex):∃ sl,h1.get? b=some {ob with slots:=sl}:=by
 by_cases hb:b∈fs
 ·exact u.slot b ob q n hb hx
 ·exact⟨ob.slots,u.keep b ob q n hb hx⟩
theorem Un.kept (k:∀ b u,h.get? b=some u->h'.get? b=some u):Un fs ex H H h h':=
 ⟨fun b ob q _ _ _=>k b ob q,fun b ob q _ _ _=>⟨ob.slots,k b ob q⟩,fun _ _ _ n _=>n,fun b ob q _=>⟨ob,k b ob q⟩,fun _ _ q=>q,fun _ _ _ q=>q,fun _ a q=>⟨#[],by rw[q];simp⟩⟩
theorem Un.refl:Un fs ex H H h h:=Un.kept fun _ _ q=>q
theorem Un.laid (k:∀ b u,h.get? b=some u->h'.get? b=some u)(hp:h.objs.size<=a)(hn:H a=none):Un fs ex H (upd H a o) h h' where
 keep:=fun b u q _ _ _=>k b u q
 slot:=fun b u q _ _ _=>⟨u.slots,k b u q⟩
 free:=fun b u q n _=>by rw[aH (mv (j6 (lt_size q) hp))];exact n
 there:=fun b u q _=>⟨u,k b u q⟩
 xh:=fun b c q=>by rw[aH (bI q hn)];exact q
 uQ:=fun b u c q=>by rw[aH (bI q hn)];exact q
 xj:=fun b d q=>⟨#[],by rw[aH (bI q hn),q];simp⟩
theorem Un.write (mu:Pf (H x))(he:e=x∨H e=some (.own x))(k:∀ b u,b≠e->h.get? b=some u->h'.get? b=some u)(heo:∃ u,h'.get? e=some u):Un fs ex H (upd H x o) h h':=by
 have hx:∀ b,H b=none->b≠x:=fun b n z=>by subst z;rw[n] at mu;exact mu
 have hb:∀ b,H b=none->b≠e:=fun b n z=>by
  subst z
  rcases he with r | r
  ·exact hx b n r
  ·rw[n] at r;cases r
 have hm:∀ b u,H b=some u->¬ Pf (some u)->b≠x:=fun b u q d z=>by subst z;rw[q] at mu;exact d mu
 refine⟨fun b u q n _ _=>k b u (hb b n) q,fun b u q n _ _=>⟨u.slots,k b u (hb b n) q⟩,fun b u q n _=>by rw[aH (hx b n)];exact n,fun b u q _=>?_,
  fun b c q=>by rw[aH (hm b _ q fun z=>z)];exact q,fun b u c q=>by rw[aH (hm b _ q fun z=>z)];exact q,fun b f q=>⟨#[],by rw[aH (hm b _ q fun z=>z),q];simp⟩⟩
 by_cases a:b=e
 ·subst a;exact heo
 ·exact⟨u,k b u a q⟩
def R4 (h:Heap)(H:Hp):List Addr:=(List.range h.objs.size).filter fun a=>(H a).isSome
def sF (h:Heap)(H:Hp):Heap:=PySem.W.hideAll h (R4 h H)
theorem BQ (h:Heap)(H:Hp):(sF h H).objs.size=h.objs.size:=PySem.W.hideAll_size _ _
variable {o:Obj}
theorem DW (e:h.get? b=some o)(n:H b=none):(sF h H).get? b=some o:=
 PySem.W.hideAll_get _ e fun hm=>by
  have q:(H b).isSome=true:=(qs.mp hm).2;rw[n] at q;simp at q
theorem IC (e:(sF h H).get? b=some o):h.get? b=some o/\H b=none:=by
 have a:h.get? b=some o:=PySem.W.of_hideAll (R4 h H) e;refine⟨a,?_⟩
 cases q:H b with
 | none=>rfl
 | some x=>
  have hm:b∈R4 h H:=qs.mpr ⟨ka.mpr (lt_size a),by simp[q]⟩
  have z:(sF h H).get? b=none:=PySem.W.hideAll_none (R4 h H) hm;rw[z] at e;cases e
structure Mod (K:Frag)(mg:Str->Option Value)(base:Heap):Prop where
 Pd:K.In base
 glob:base.Ns mainGlobals mg
 blt:∃ mb,base.Ns builtinsNs mb/\∀ x:Str,x≠"__name__"->mb x=bootBuiltins x
 nolimit:base.NoLimit
structure Cx where
 prog:Program
 w:World
 K:Frag
 mg:Str->Option Value
 base:Heap
 A:Around
 N:List Str
 s₀:Shared
 H₀:Hp
 env:Env
 outer:List Env
 stack:List Env
 ex:List Addr
 fn:Str->Bool
 calm:Bool
 pn:List (Addr × Obj)
 xe:Value->Shared->Prop
def DM (l:List Env):List Addr:=l.filterMap (·.frame)
end L2
namespace L2
open PySem PySem.Spec PyProof.Rows
abbrev Cx.fs (X:Cx):List Addr:=DM X.outer
def R5 (sc:Scope)(x:Str):Prop:=sc.names.lookup x=some .local∨sc.names.lookup x=some .cell∨sc.names.lookup x=some .free
def Loc (sc:Scope)(x:Str):Prop:=sc.names.lookup x=some .local∨sc.names.lookup x=some .cell
def Look (env:Env)(h:Heap)(m:Str->Option Value)(x:Str)(u:Value):Prop:=
 (env.kindOf x=some .local/\m x=some u)∨((env.kindOf x=some .cell∨env.kindOf x=some .free)/\∃ c,env.cells.lookup x=some c/\h.IsCell c (some u))
structure Cx.Ok (X:Cx):Prop where
 mod:Mod X.K X.mg X.base
 kind:X.env.scope.kind=.function
 glob:X.env.globals=mainGlobals
 blt:X.env.builtins=builtinsNs
 above:X.s₀.heap.objs.size<=X.env.locals
 inj:∀ x y c,X.env.cells.lookup x=some c->X.env.cells.lookup y=some c->x=y
 has:∀ x,(X.env.kindOf x=some .cell∨X.env.kindOf x=some .free)->∃ c,X.env.cells.lookup x=some c
 R3:∀ x c,X.fn x=true->X.env.cells.lookup x=some c->X.s₀.heap.objs.size<=c
 hd:X.calm=true->X.A.handled=none
 frames:X.A.frames=some X.stack
 Sf:X.stack=X.outer∨(X.stack=X.env::X.outer/\X.env.frame=some X.env.locals)
 Se:∀ b∈X.ex,b≠X.env.locals/\∀ x c,X.env.cells.lookup x=some c->c≠b
 bs:∀ b o,X.base.get? b=some o->X.s₀.heap.get? b=some o/\X.H₀ b=none
 K8:X.base.objs.size<=X.s₀.heap.objs.size
 DB:∀ b o,X.base.get? b=some o->b∉X.ex
 Ij:∀ b∈X.ex,b∉X.fs
 nh:X.s₀.heap.FunFrames X.base X.outer
 OX:∀ b∈X.fs,X.H₀ b=none
structure Inv (X:Cx)(pins:List (Addr × Obj))(σ:List (Option V))(H:Hp)(s:Shared):Prop where
 ok:X.Ok
 os:s.os=X.s₀.os
 bare:AllBare s.gens
 base:Un X.fs X.ex X.H₀ H X.s₀.heap s.heap
 loc:∃ m,s.heap.Ns X.env.locals m/\∀ (i:Nat) (x:Str) (v:V),X.N[i]?=some x->σ[i]?=some (some v)->R5 X.env.scope x->∃ u,RelV v u/\Look X.env s.heap m x u
 cell:∀ x c,X.env.cells.lookup x=some c->∃ v,s.heap.IsCell c v
 free:H X.env.locals=none
 jO:∀ x c,X.env.cells.lookup x=some c->H c=none
 pin:∀ p∈X.pn++pins,s.heap.get? p.1=some p.2/\H p.1=none/\p.1≠X.env.locals/\p.1∉X.fs/\∀ v,p.2.data≠.cell v
 bh:jQ X.prog X.w H s.heap
 len:σ.length=X.N.length
variable {X:Cx}
theorem Cx.Ok.Sh (ok:X.Ok){b:Addr}{o:Obj}(e:X.base.get? b=some o):b∉X.fs:=fun hb=>by
 have:=(ok.nh.mem hb).1
 rw[e] at this;cases this
variable {pins:List (Addr × Obj)}{σ:List (Option V)}{H:Hp}{s:Shared}
theorem Inv.bs (I:Inv X pins σ H s):∀ b o,X.base.get? b=some o->s.heap.get? b=some o/\H b=none:=fun b o e=>
 ⟨I.base.keep b o (I.ok.bs b o e).1 (I.ok.bs b o e).2 (I.ok.Sh e) (I.ok.DB b o e),I.base.free b o (I.ok.bs b o e).1 (I.ok.bs b o e).2 (I.ok.DB b o e)⟩
theorem Inv.bk (I:Inv X pins σ H s):∀ b o,X.base.get? b=some o->s.heap.get? b=some o:=fun b o e=>(I.bs b o e).1
theorem Inv.mod (I:Inv X pins σ H s):Mod X.K X.mg X.base:=I.ok.mod
theorem Inv.ku (I:Inv X pins σ H s):X.K.In s.heap:=I.ok.mod.Pd.keeps I.bk
theorem Inv.lt (I:Inv X pins σ H s):X.env.locals<s.heap.objs.size:=let ⟨_,hn,_⟩:=I.loc;hn.lt
theorem Inv.sz (I:Inv X pins σ H s):X.s₀.heap.objs.size<=s.heap.objs.size:=j5 I.ok.above (Nat.le_of_lt I.lt)
theorem Inv.Si (I:Inv X pins σ H s){a:Addr}(h:s.heap.objs.size<=a):a∉X.fs:=fun hb=>by
 obtain⟨_,o,b,_⟩:=I.ok.nh.mem hb;exact absurd (j6 (lt_size b) (j5 I.sz h)) (M2 _)
theorem Inv.MI (I:Inv X pins σ H s):∀ x c,X.env.cells.lookup x=some c->c≠X.env.locals:=fun x c e z=>by
 obtain⟨v,o,d,f⟩:=I.cell x c e;obtain⟨m,⟨h,g,i,b,a,_⟩,_⟩:=I.loc;rw[z,b] at d;cases d;rw[a] at f;cases f
theorem Inv.nh (I:Inv X pins σ H s):s.heap.FunFrames X.base X.outer:=by
 have all:∀ (l:List Env),(∀ b∈DM l,b∈X.fs)->X.s₀.heap.FunFrames X.base l->s.heap.FunFrames X.base l:=by
  intro l
  induction l with
  | nil=>intro _ _;trivial
  | cons m r g=>
   intro d i;obtain⟨hk,⟨L,o,a,hn,h,f⟩,j⟩:=i;have c:L∈X.fs:=d L (by unfold DM;rw[C4,a];exact fO)
   obtain⟨n,e⟩:=I.base.slot L o h (I.ok.OX L c) c fun z=>I.ok.Ij L z c;exact⟨hk,⟨L,_,a,hn,e,f⟩,g (fun b hb=>d b (by unfold DM;rw[C4,a];exact fA _ hb)) j⟩
 exact all X.outer (fun _ hb=>hb) I.ok.nh
theorem Inv.stack (I:Inv X pins σ H s):s.heap.FunFrames X.base X.stack:=by
 rcases I.ok.Sf with e | ⟨e,a⟩
 ·rw[e];exact I.nh
 ·rw[e];obtain⟨m,hn,_⟩:=I.loc;refine .cons (by rw[I.ok.kind];decide) a hn ?_ I.nh
  exact Heap.get?_none_of_le (j5 I.ok.K8 I.ok.above)
theorem Inv.xR (I:Inv X pins σ H s):∀ b∈DM X.stack,b∈X.env.locals::X.fs:=fun b hb=>by
 rcases I.ok.Sf with e | ⟨e,a⟩
 ·rw[e] at hb;exact fA _ hb
 ·rw[e] at hb;unfold DM at hb;rw[C4,a] at hb;exact hb
theorem Inv.Am (I:Inv X pins σ H s):∀ b∈DM X.stack,H b=none:=fun b hb=>by
 rcases h9.mp (I.xR b hb) with e | hb
 ·rw[e];exact I.free
 ·obtain⟨_,o,a,_⟩:=I.ok.nh.mem hb;exact I.base.free b o a (I.ok.OX b hb) fun z=>I.ok.Ij b z hb
variable {H':Hp}{h':Heap}{g':Array GenState}{t':Nat}{d':Drawn}{ch:List Addr}
theorem Inv.step (I:Inv X pins σ H s)
  (hch:∀ b∈ch,(b∈X.ex∨X.s₀.heap.objs.size<=b)/\b≠X.env.locals/\(∀ x c,X.env.cells.lookup x=some c->c≠b)/\∀ p∈X.pn++pins,p.1≠b)
  (keep:∀ b o,b≠X.env.locals->b∉X.fs->b∉ch->s.heap.get? b=some o->H b=none->h'.get? b=some o)
  (slot:∀ b o,b≠X.env.locals->b∈X.fs->b∉ch->s.heap.get? b=some o->H b=none->∃ sl,h'.get? b=some {o with slots:=sl}) (free:∀ b o,b∉ch->s.heap.get? b=some o->H b=none->H' b=none)
  (there:∀ b o,b∉ch->s.heap.get? b=some o->∃ o',h'.get? b=some o')
  (xh:∀ b xs,H b=some (.tup xs)->H' b=some (.tup xs)) (uQ:∀ b o u,H b=some (.iW o u)->H' b=some (.iW o u)) (xj:∀ b ps,H b=some (.OU ps)->∃ more,H' b=some (.OU (ps++more)))
  (ns:∀ m,s.heap.Ns X.env.locals m->h'.Ns X.env.locals m) (bh:jQ X.prog X.w H' h') (hg:AllBare g') :
  Inv X pins σ H' {s with heap:=h',gens:=g',drawn:=d',toks:=t'}:=by
 have t:∀ b o,X.s₀.heap.get? b=some o->b≠X.env.locals:=fun b o e=>mv (j6 (lt_size e) I.ok.above);have h:∀ b o,X.s₀.heap.get? b=some o->b∉X.ex->b∉ch:=fun b o e hx hb=>by
  rcases(hch b hb).1 with z | z
  ·exact hx z
  ·exact absurd (j6 (lt_size e) z) (M2 _)
 have a:∀ x c,X.env.cells.lookup x=some c->∀ v,s.heap.IsCell c v->h'.IsCell c v:=fun x c e v ⟨o,j,A⟩=>by
  have f:c∉ch:=fun z=>(hch c z).2.2.1 x c e rfl
  by_cases hc:c∈X.fs
  ·obtain⟨sl,q⟩:=slot c o (I.MI x c e) hc f j (I.jO x c e);exact⟨_,q,A⟩
  ·exact⟨o,keep c o (I.MI x c e) hc f j (I.jO x c e),A⟩
 refine⟨I.ok,I.os,hg,⟨fun b o e n hb hx=>?_,fun b o e n hb hx=>?_,fun b o e n hx=>?_,fun b o e hx=>?_,fun b xs e=>xh b xs (I.base.xh b xs e),fun b o xs e=>uQ b o xs (I.base.uQ b o xs e),fun b ps e=>?_⟩,?_,fun x c e=>?_,?_,fun x c e=>?_,fun p B=>?_,bh,I.len⟩
 ·exact keep b o (t b o e) hb (h b o e hx) (I.base.keep b o e n hb hx) (I.base.free b o e n hx)
 ·obtain⟨sl,g⟩:=I.base.slot b o e n hb hx;obtain⟨y,e2⟩:=slot b _ (t b o e) hb (h b o e hx) g (I.base.free b o e n hx);exact⟨y,e2⟩
 ·obtain⟨o',g⟩:=I.base.there b o e hx;exact free b o' (h b o e hx) g (I.base.free b o e n hx)
 ·obtain⟨o',g⟩:=I.base.there b o e hx;exact there b o' (h b o e hx) g
 ·obtain⟨D,g⟩:=I.base.xj b ps e;obtain⟨E,e2⟩:=xj b _ g;exact⟨D++E,by rw[e2,Array.append_assoc]⟩
 ·obtain⟨m,hn,G⟩:=I.loc;refine⟨m,ns m hn,fun i x v g e2 F=>?_⟩;obtain⟨u,r,l⟩:=G i x v g e2 F;refine⟨u,r,?_⟩
  rcases l with l | ⟨k,c,e,z⟩
  ·exact .inl l
  ·exact .inr ⟨k,c,e,a x c e _ z⟩
 ·obtain⟨v,z⟩:=I.cell x c e;exact⟨v,a x c e v z⟩
 ·obtain⟨m,⟨o,_,_,j,_⟩,_⟩:=I.loc;exact free _ o (fun z=>(hch _ z).2.1 rfl) j I.free
 ·obtain⟨v,o,j,A⟩:=I.cell x c e;exact free c o (fun z=>(hch c z).2.2.1 x c e rfl) j (I.jO x c e)
 ·obtain⟨e,n,ne,C,d⟩:=I.pin p B;have f:p.1∉ch:=fun z=>(hch p.1 z).2.2.2 p B rfl;exact⟨keep p.1 p.2 ne C f e n,free p.1 p.2 f e n,ne,C,d⟩
theorem Inv.un (I:Inv X pins σ H s)(u:Un X.fs [] H H' s.heap h')(bh:jQ X.prog X.w H' h'):Inv X pins σ H' {s with heap:=h',toks:=t'}:=by
 obtain⟨m,⟨o,i,q,f,r⟩,_⟩:=id I.loc;obtain⟨j,h⟩:=u.any f I.free (by simp)
 exact I.step (g':=s.gens) (d':=s.drawn) (ch:=[]) (fun _ z=>nomatch z) (fun b o _ hb _ e n=>u.keep b o e n hb (by simp)) (fun b o _ hb _ e n=>u.slot b o e n hb (by simp)) (fun b o _ e n=>u.free b o e n (by simp)) (fun b o _ e=>u.there b o e (by simp)) u.xh u.uQ u.xj (fun p hm=>by
  obtain⟨l,c,d,a,g⟩:=hm;rw[f] at a;cases a
  exact⟨_,c,d,h,g⟩) bh I.bare
theorem Inv.call (I:Inv X pins σ H s)(u:Un (DM X.stack) ch H H' s.heap h')(bh:jQ X.prog X.w H' h')(hg:AllBare g')
  (hch:∀ b∈ch,(b∈X.ex∨X.s₀.heap.objs.size<=b)/\b≠X.env.locals/\(∀ x c,X.env.cells.lookup x=some c->c≠b)/\∀ p∈X.pn++pins,p.1≠b) :
  Inv X pins σ H' {s with heap:=h',gens:=g',drawn:=d',toks:=t'}:=by
 obtain⟨m,⟨o,j,v,h,r⟩,_⟩:=id I.loc;obtain⟨l,g⟩:=u.any h I.free fun z=>(hch _ z).2.1 rfl;exact I.step (ch:=ch) hch (fun b o g hb hc e n=>u.keep b o e n (fun z=>(h9.mp (I.xR b z)).elim g hb) hc) (fun b o _ _ hc e n=>u.any e n hc) (fun b o hc e n=>u.free b o e n hc) (fun b o hc e=>u.there b o e hc) u.xh u.uQ u.xj (fun t hm=>by
  obtain⟨q,d,f,a,i⟩:=hm;rw[h] at a;cases a
  exact⟨_,d,f,g,i⟩) bh hg
variable {it:Addr}
theorem Inv.turned (I:Inv X pins σ H s)(k:∀ b o,b≠it->s.heap.get? b=some o->h'.get? b=some o)(hn:H it=none)(hL:it≠X.env.locals)
  (h1:it∈X.ex∨X.s₀.heap.objs.size<=it) (h2:∀ x c,X.env.cells.lookup x=some c->c≠it) (h3:∀ p∈X.pn++pins,p.1≠it):Inv X pins σ H {s with heap:=h',toks:=t'}:=by
 have a:∀ b u,H b=some u->b≠it:=fun b u e z=>by rw[z,hn] at e;cases e
 refine I.step (g':=s.gens) (d':=s.drawn) (ch:=[it]) (fun b hb=>?_) (fun b o _ _ hc e _=>k b o (fun z=>hc (by simp[z])) e) (fun b o _ _ hc e _=>⟨o.slots,k b o (fun z=>hc (by simp[z])) e⟩) (fun _ _ _ _ n=>n)
  (fun b o hc e=>⟨o,k b o (fun z=>hc (by simp[z])) e⟩) (fun _ _ e=>e) (fun _ _ _ e=>e) (fun b h e=>⟨#[],by rw[e];simp⟩) (fun m hm=>?_) (fun b u e=>?_) I.bare
 ·have e:b=it:=by simpa using hb
  subst e;exact⟨h1,hL,h2,h3⟩
 ·obtain⟨o,d,g,f,r⟩:=hm;exact⟨o,d,g,k _ o (Ne.symm hL) f,r⟩
 ·refine(I.bh b u e).xQ (fun c v hc q=>k c v ?_ q) (fun _ q=>q) fun _ _ q=>q
  rcases hc with z | z
  ·rw[z];exact a b u e
  ·exact a c _ z
theorem Inv.tok (I:Inv X pins σ H s)(t:Nat):Inv X pins σ H {s with toks:=t}:=I.un (h':=s.heap) (t':=t) Un.refl I.bh
theorem Inv.kept {t':Nat}(I:Inv X pins σ H s)(k:∀ b u,s.heap.get? b=some u->h'.get? b=some u):Inv X pins σ H {s with heap:=h',toks:=t'}:=I.un (Un.kept k) (I.bh.kept k)
theorem Inv.laid {a:Addr}{o:HO}{t':Nat}(I:Inv X pins σ H s)(k:∀ b u,s.heap.get? b=some u->h'.get? b=some u)(hp:s.heap.objs.size<=a)(new:bA X.prog X.w (upd H a o) h' a o) :
  Inv X pins σ (upd H a o) {s with heap:=h',toks:=t'}:=I.un (Un.laid k hp (I.bh.fresh hp)) (I.bh.laid k hp new)
theorem Inv.write {x e:Addr}{o:HO}{t':Nat}(I:Inv X pins σ H s)(mu:Pf (H x))(he:e=x∨H e=some (.own x))(k:∀ b u,b≠e->s.heap.get? b=some u->h'.get? b=some u)(heo:∃ u,h'.get? e=some u)
  (new:bA X.prog X.w (upd H x o) h' x o):Inv X pins σ (upd H x o) {s with heap:=h',toks:=t'}:=I.un (Un.write mu he k heo) (I.bh.write mu he k heo new)
theorem Inv.An {pins':List (Addr × Obj)}(I:Inv X pins σ H s)(h:∀ p∈pins',s.heap.get? p.1=some p.2/\H p.1=none/\p.1≠X.env.locals/\p.1∉X.fs/\∀ v,p.2.data≠.cell v):Inv X pins' σ H s:=
 ⟨I.ok,I.os,I.bare,I.base,I.loc,I.cell,I.free,I.jO,fun p a=>(kb.mp a).elim (fun z=>I.pin p (Ud _ z)) (h p),I.bh,I.len⟩
variable {x:Str}{N:List Str}{i:Nat}
theorem vi (hN:N.Nodup){j:Nat}(a:N[i]?=some x)(b:N[j]?=some x):i=j:=by
 obtain⟨h1,c⟩:=nt.mp a;obtain⟨d,e2⟩:=nt.mp b;exact(getElem_inj hN).mp (c.trans e2.symm)
variable {u:Value}{M:Model}{A:Around}{E:Value->Shared->Prop}{v:V}{Q:Unit->Shared->Prop}
theorem qW (I:Inv X pins σ H s)(hN:X.N.Nodup)(hi:X.N[i]?=some x)(hx:Loc X.env.scope x)(r:RelV v u)
  (h:∀ s',Inv X pins (σ.set i (some v)) H s'->(∃ a,SameBut a s.heap s'.heap/\(a=X.env.locals∨X.env.cells.lookup x=some a))->Q () s') (hf:X.fn x=true∨X.env.scope.names.lookup x=some .local:=by first | exact .inl rfl | exact .inr rfl | assumption):wpAny M A (storeName X.env x u) Q E s:=by
 obtain⟨m,hn,hl⟩:=id I.loc;have J:(X.env.scope.kind == .class||(X.env.scope.kind == .module&&X.env.locals != X.env.globals))=false:=by rw[I.ok.kind];rfl
 have K:i<σ.length:=by rw[I.len];exact(nt.mp hi).1
 have MI:=I.MI;have l:∀ {a:Addr} {C:Heap},(∃ o,s.heap.get? a=some o/\H a=none)->SameBut a s.heap C->jQ X.prog X.w H C:=fun {a C} ha f b ob e=>by
  obtain⟨_,_,t⟩:=ha;refine(I.bh b ob e).xQ (fun c P hc q=>(f.2 c ?_).trans q) (fun _ q=>q) fun _ _ q=>q;rintro rfl
  rcases hc with rfl | hc
  ·rw[t] at e;cases e
  ·rw[t] at hc;cases hc
 rcases hx with hk | hk
 ·refine wpAny_storeName_local hk hn (fun C W f=>?_) J;obtain⟨oL,_,_,hoL,_⟩:=id hn;refine h _ ⟨I.ok,I.os,I.bare,⟨fun b o e n hb hx=>?_,fun b o e n hb hx=>?_,I.base.free,fun b o e hx=>?_,I.base.xh,I.base.uQ,I.base.xj⟩,⟨_,W,fun j y S g e2 U=>?_⟩,fun y c e=>?_,I.free,I.jO,fun p T=>?_,l ⟨oL,hoL,I.free⟩ f,by simpa using I.len⟩ ⟨_,f,.inl rfl⟩
  ·exact(f.2 b (mv (j6 (lt_size e) I.ok.above))).trans (I.base.keep b o e n hb hx)
  ·obtain⟨R,g⟩:=I.base.slot b o e n hb hx;exact⟨R,(f.2 b (mv (j6 (lt_size e) I.ok.above))).trans g⟩
  ·obtain⟨Z,g⟩:=I.base.there b o e hx;exact⟨Z,(f.2 b (mv (j6 (lt_size e) I.ok.above))).trans g⟩
  ·by_cases hj:j=i
   ·subst hj;rw[hi] at g;cases g
    rw[List.getElem?_set_self K] at e2
    cases e2
    exact⟨u,r,.inl ⟨hk,by simp⟩⟩
   ·rw[List.getElem?_set_ne (Ne.symm hj)] at e2;obtain⟨u',r',q⟩:=hl j y S g e2 U;refine⟨u',r',?_⟩
    rcases q with ⟨k,e⟩ | ⟨k,c,e,z⟩
    ·refine .inl ⟨k,?_⟩
     have:y≠x:=fun e=>hj (vi hN g (e ▸ hi))
     simp[this,e]
    ·exact .inr ⟨k,c,e,z.sameBut f (MI y c e)⟩
  ·obtain⟨P,z⟩:=I.cell y c e;exact⟨P,z.sameBut f (MI y c e)⟩
  ·obtain⟨e,n,ne,Y,d⟩:=I.pin p T;exact⟨(f.2 p.1 ne).trans e,n,ne,Y,d⟩
 ·have B:X.fn x=true:=by
   rcases hf with z | z
   ·exact z
   ·rw[z] at hk;cases hk
  obtain⟨c,hc⟩:=I.ok.has x (.inl hk);obtain⟨P,z⟩:=I.cell x c hc;refine wpAny_storeName_cell I.ok.kind hk hc z (fun C G f=>?_);obtain⟨oc,L,F⟩:=id z;refine h {s with heap:=C} ⟨I.ok,I.os,I.bare,⟨fun b o e n hb hx=>?_,fun b o e n hb hx=>?_,I.base.free,fun b o e hx=>?_,I.base.xh,I.base.uQ,I.base.xj⟩,⟨m,hn.sameBut f (Ne.symm (MI x c hc)),fun j y S g e2 U=>?_⟩,fun y O e=>?_,I.free,I.jO,fun p T=>?_,l ⟨oc,L,I.jO x c hc⟩ f,by simpa using I.len⟩ ⟨c,f,.inr hc⟩
  ·exact(f.2 b (mv (j6 (lt_size e) (I.ok.R3 x c B hc)))).trans (I.base.keep b o e n hb hx)
  ·obtain⟨R,g⟩:=I.base.slot b o e n hb hx;exact⟨R,(f.2 b (mv (j6 (lt_size e) (I.ok.R3 x c B hc)))).trans g⟩
  ·obtain⟨Z,g⟩:=I.base.there b o e hx;exact⟨Z,(f.2 b (mv (j6 (lt_size e) (I.ok.R3 x c B hc)))).trans g⟩
  ·by_cases hj:j=i
   ·subst hj;rw[hi] at g;cases g
    rw[List.getElem?_set_self K] at e2
    cases e2
    exact⟨u,r,.inr ⟨.inl hk,c,hc,G⟩⟩
   ·rw[List.getElem?_set_ne (Ne.symm hj)] at e2;obtain⟨u',r',q⟩:=hl j y S g e2 U;refine⟨u',r',?_⟩
    rcases q with q | ⟨k,O,e,z'⟩
    ·exact .inl q
    ·refine .inr ⟨k,O,e,z'.sameBut f ?_⟩;rintro rfl;exact hj (vi hN g (I.ok.inj _ _ _ e hc ▸ hi))
  ·by_cases D:O=c
   ·subst D;exact⟨_,G⟩
   ·obtain⟨w2,z2⟩:=I.cell y O e;exact⟨w2,z2.sameBut f D⟩
  ·obtain⟨e,n,ne,Y,d⟩:=I.pin p T;refine⟨(f.2 p.1 ?_).trans e,n,ne,Y,d⟩;intro q;rw[q,L] at e;have q':oc=p.2:=tz e;exact d P (by rw[<-q'];exact F)
theorem vj (I:Inv X pins σ H s)(hN:X.N.Nodup)(hi:X.N[i]?=some x)(hx:Loc X.env.scope x)(r:RelV v u)
  (h:∀ s',Inv X pins (σ.set i (some v)) H s'->Q () s') (hf:X.fn x=true∨X.env.scope.names.lookup x=some .local:=by first | exact .inl rfl | exact .inr rfl | assumption):wpAny M A (storeName X.env x u) Q E s:=
 qW I hN hi hx r (fun s' a _=>h s' a) hf
variable {s':Shared}
theorem Inv.Pg (I:Inv X pins σ H s)(ho:s'.os=s.os)(u:Un (DM X.stack) ch H H' s.heap s'.heap)(bh:jQ X.prog X.w H' s'.heap)(hg:AllBare s'.gens)
  (hch:∀ b∈ch,(b∈X.ex∨X.s₀.heap.objs.size<=b)/\b≠X.env.locals/\(∀ x c,X.env.cells.lookup x=some c->c≠b)/\∀ p∈X.pn++pins,p.1≠b):Inv X pins σ H' s':=by
 obtain⟨d,g',d',t',a⟩:=s';have e:a=s.os:=ho;subst e;exact I.call (g':=g') (t':=t') (d':=d') u bh hg hch
abbrev XK:=Value->Option Addr->Hp->Prop
abbrev St:=List (Option V)
abbrev VK:=V->Hp->Prop
abbrev TE:=St->Hp->VK->Prop
abbrev TT:=St->Hp->(Bool->Hp->Prop)->Prop
abbrev TA:=St->Hp->(List V->Hp->Prop)->Prop
structure Ends where
 nx:St->Hp->Prop
 rt:VK
 bk:St->Hp->Prop:=fun _ _=>False
 ct:St->Hp->Prop:=fun _ _=>False
abbrev TS:=Ends->St->Hp->Prop
def EP (X:Cx)(pins:List (Addr × Obj))(σ:St)(Q:VK)(u:Value)(s':Shared):Prop:=∃ v H',Inv X pins σ H' s'/\RelV v u/\Q v H'
def TP (X:Cx)(pins:List (Addr × Obj))(σ:St)(Q:Bool->Hp->Prop)(b:Bool)(s':Shared):Prop:=∃ H',Inv X pins σ H' s'/\Q b H'
def AP (X:Cx)(pins:List (Addr × Obj))(σ:St)(Q:List V->Hp->Prop)(us:List Value)(s':Shared):Prop:=∃ vs H',Inv X pins σ H' s'/\Vals vs us/\Q vs H'
def SP (X:Cx)(pins:List (Addr × Obj))(D:Ends)(f:Flow)(s':Shared):Prop:=
 match f with
 | .next=>∃ σ' H',Inv X pins σ' H' s'/\D.nx σ' H'
 | .brk=>∃ σ' H',Inv X pins σ' H' s'/\D.bk σ' H'
 | .cont=>∃ σ' H',Inv X pins σ' H' s'/\D.ct σ' H'
 | .ret u=>∃ v σ' H',Inv X pins σ' H' s'/\RelV v u/\D.rt v H'
def PE (X:Cx)(e:Expr)(t:TE):Prop:=
 ∀ (pins:List (Addr × Obj)) (s:Shared) (σ:St) (H:Hp) (Q:VK),Inv X pins σ H s->t σ H Q->wpAny (model X.prog X.w) X.A (eval e X.env) (EP X pins σ Q) X.xe s
def PT (X:Cx)(e:Expr)(t:TT):Prop:=
 ∀ (pins:List (Addr × Obj)) (s:Shared) (σ:St) (H:Hp) (Q:Bool->Hp->Prop),Inv X pins σ H s->t σ H Q->wpAny (model X.prog X.w) X.A (isTrue e X.env (eval e X.env)) (TP X pins σ Q) X.xe s
def PW (X:Cx)(e:Expr)(t:TT):Prop:=
 ∀ (whole:Sem Value) (pins:List (Addr × Obj)) (s:Shared) (σ:St) (H:Hp) (Q:Bool->Hp->Prop),Inv X pins σ H s->t σ H Q->wpAny (model X.prog X.w) X.A (isTrue e X.env whole) (TP X pins σ Q) X.xe s
variable {e:Expr}
theorem PW.pt {t:TT}(h:PW X e t):PT X e t:=h _
def PA (X:Cx)(es:List Expr)(t:TA):Prop:=
 ∀ (pos:Pos) (pins:List (Addr × Obj)) (s:Shared) (σ:St) (H:Hp) (Q:List V->Hp->Prop),Inv X pins σ H s->t σ H Q->wpAny (model X.prog X.w) X.A (spliced (backTo pos (starEach es X.env))) (AP X pins σ Q) X.xe s
def PS (X:Cx)(st:Stmt)(t:TS):Prop:=
 ∀ (pins:List (Addr × Obj)) (s:Shared) (σ:St) (H:Hp) (D:Ends),Inv X pins σ H s->t D σ H->wpAny (model X.prog X.w) X.A (exec st X.env) (SP X pins D) X.xe s
def xK (X:Cx)(st:List Stmt)(t:TS):Prop:=
 ∀ (pins:List (Addr × Obj)) (s:Shared) (σ:St) (H:Hp) (D:Ends),Inv X pins σ H s->t D σ H->wpAny (model X.prog X.w) X.A (execs st X.env) (SP X pins D) X.xe s
variable {α:Type}
theorem bW {t:Sem α}{Q Q':α->Shared->Prop}(h:wpAny M A t Q E s)(hQ:∀ a s,Q a s->Q' a s):wpAny M A t Q' E s:=FS h hQ fun _ _ x=>x
def sG (i:Nat):TE:=fun σ H Q=>∃ v,σ[i]?=some (some v)/\Q v H
def tC (v:V):TE:=fun _ H Q=>Q v H
theorem MJ {pos:Pos}(hN:X.N[i]?=some x)(hv:R5 X.env.scope x)(hd:(x == ("__debug__":Str))=false:=by decide)(hcd:(x == ("__classdict__":Str))=false:=by decide):PE X (.Name x pos) (sG i):=by
 intro d s σ H Q I h;obtain⟨v,e,h⟩:=h;obtain⟨m,hn,f⟩:=I.loc;obtain⟨u,r,l⟩:=f i x v hN e hv;have b:EP X d σ Q u s:=⟨v,H,I,r,h⟩
 rcases l with ⟨hk,hm⟩ | ⟨hk,c,hc,a⟩
 ·exact wpAny_Name (wpAny_loadName_local I.ok.kind hk hn hm b) hd
 ·rcases hk with hk | hk
  ·exact wpAny_Name (wpAny_loadName_cell I.ok.kind hk hc a b) hd
  ·exact wpAny_Name (wpAny_loadName_free I.ok.kind hk hc a b hcd) hd
theorem lx {i j pos}:PE X (.Constant (.int i) j pos) (tC (.int i)):=fun _ _ _ H _ I h=>wpAny_Constant_int ⟨.int i,H,I.tok _,⟨_,rfl⟩,h⟩
theorem Ph {b j pos}:PE X (.Constant (.bool b) j pos) (tC (.bl b)):=fun _ _ _ H _ I h=>Constant_bool ⟨.bl b,H,I,rfl,h⟩
theorem MK {j pos}:PE X (.Constant .none j pos) (tC .bx):=fun _ _ _ H _ I h=>Constant_none ⟨.bx,H,I,rfl,h⟩
theorem DX {x j pos}:PE X (.Constant (.str x) j pos) (tC (.str x)):=fun _ _ _ H _ I h=>Calls.Constant_str ⟨.str x,H,I.tok _,⟨_,rfl⟩,h⟩
def Gl (X:Cx)(x:Str):Prop:=X.env.kindOf x=some .globalImplicit
variable {Q:Value->Shared->Prop}
theorem nI {σ:St}{pos:Pos}(I:Inv X pins σ H s)(hg:Gl X x)(hm:X.mg x=some u)(h:Q u s)
  (hd:(x == ("__debug__":Str))=false:=by decide):wpAny (model X.prog X.w) X.A (eval (.Name x pos) X.env) Q E s:=
 Calls.Name_function_global I.ok.kind hg (Calls.loadGlobal_global (by rw[I.ok.glob];exact I.mod.glob.keeps I.bk) hm h) hd
theorem iE {σ:St}{pos:Pos}(I:Inv X pins σ H s)(hg:Gl X x)(hm:X.mg x=none)(hv:bootBuiltins x=some u)(h:Q u s)
  (hn:x≠"__name__":=by decide) (hd:(x == ("__debug__":Str))=false:=by decide):wpAny (model X.prog X.w) X.A (eval (.Name x pos) X.env) Q E s:=by
 obtain⟨mb,h1,a⟩:=I.mod.blt;exact Calls.Name_function_global I.ok.kind hg (Calls.loadGlobal_builtin (by rw[I.ok.glob];exact I.mod.glob.keeps I.bk) hm (by rw[I.ok.blt];exact h1.keeps I.bk) ((a x hn).trans hv) h) hd
theorem sH {pos:Pos}(hg:Gl X x)(hm:X.mg x=some u)(r:RelV v u)(hd:(x == ("__debug__":Str))=false:=by decide):PE X (.Name x pos) (tC v):=
 fun _ _ _ H _ I h=>nI I hg hm ⟨v,H,I,r,h⟩ hd
theorem ID {pos:Pos}(hg:Gl X x)(hm:X.mg x=none)(hv:bootBuiltins x=some u)(r:RelV v u)(hn:x≠"__name__":=by decide)(hd:(x == ("__debug__":Str))=false:=by decide):PE X (.Name x pos) (tC v):=
 fun _ _ _ H _ I h=>iE I hg hm hv ⟨v,H,I,r,h⟩ hn hd
def PC (X:Cx)(op:CmpOp)(a b:Expr)(t:TE):Prop:=
 ∀ (pins:List (Addr × Obj)) (s:Shared) (σ:St) (H:Hp) (Q:VK),Inv X pins σ H s->t σ H Q->
  wpAny (model X.prog X.w) X.A (eval a X.env) (fun v d=>wpAny (model X.prog X.w) X.A (eval b X.env) (fun u c=>wpAny (model X.prog X.w) X.A (compareOp op v u) (EP X pins σ Q) X.xe c) X.xe d) X.xe s
def tB (t:TE):TT:=fun σ H Q=>t σ H fun x H1=>∃ c,x=.bl c/\Q c H1
variable {a b:Expr}{pos:Pos}{t:TE}{op:CmpOp}
theorem ML (h:PC X op a b t)(h1:behindInMarks op b=false:=by first | exact nobehind _ (by decide) (by decide) | rfl):PE X (.Compare a [op] [b] pos) t:=fun c s σ H Q I d=>wpAny_Compare1 (h c s σ H Q I d) h1
theorem DY (h:PC X op a b t)(h1:behindInMarks op b=false:=by first | exact nobehind _ (by decide) (by decide) | rfl):PT X (.Compare a [op] [b] pos) (tB t):=by
 intro e s σ H Q I j;refine wpAny_isTrue_Compare1 (bW (h e s σ H _ I j) fun v n h1=>bW h1 fun u o i=>bW i fun c m ⟨x,H1,f,l,g⟩=>?_) h1;obtain⟨d,rfl,q⟩:=g
 cases l
 exact GM ⟨H1,f,q⟩
theorem MM (h:PE X e t)(he:∀ whole,isTrue e X.env whole=(do let v<-whole;standAt e.pos;holding [v] (truthy v)):=by intro _;rfl):PT X e (tB t):=by
 intro a s σ H Q I c;refine isTrue_plain (bW (h a s σ H _ I c) fun v i ⟨x,H1,b,f,g⟩=>?_) (he _);obtain⟨d,rfl,q⟩:=g
 cases f
 exact GM ⟨H1,b,q⟩
def MN (t u:TT):TT:=fun σ H Q=>t σ H fun c H1=>if c=true then u σ H1 Q else Q false H1
def Sj (t u:TT):TT:=fun σ H Q=>t σ H fun c H1=>if c=true then Q true H1 else u σ H1 Q
def MO (t:TT):TT:=fun σ H Q=>t σ H fun c H1=>Q (!c) H1
variable {tA:TT}
theorem IE (ha:PT X a tA):PW X (.BoolOp .And [a] pos) tA:=by
 intro d b s σ H Q I h;refine isTrue_and (bW (ha b s σ H Q I h) fun c f e=>?_)
 cases c with
 | true=>exact isTrue_and_nil e
 | false=>exact e
theorem MP (ha:PT X a tA):PW X (.BoolOp .Or [a] pos) tA:=by
 intro d b s σ H Q I h;refine isTrue_or (bW (ha b s σ H Q I h) fun c f e=>?_)
 cases c with
 | false=>exact isTrue_or_nil e
 | true=>exact e
variable {tB':TT}{rest:List Expr}
theorem MR (ha:PT X a tA)(hb:PW X (.BoolOp .And (b::rest) pos) tB'):PW X (.BoolOp .And (a::b::rest) pos) (MN tA tB'):=by
 intro g d s σ H Q I h;refine isTrue_and (bW (ha d s σ H _ I h) fun c i ⟨H1,e,f⟩=>?_)
 cases c with
 | true=>exact hb g d i σ H1 Q e f
 | false=>exact⟨H1,e,f⟩
theorem Pj (ha:PT X a tA)(hb:PW X (.BoolOp .Or (b::rest) pos) tB'):PW X (.BoolOp .Or (a::b::rest) pos) (Sj tA tB'):=by
 intro g d s σ H Q I h;refine isTrue_or (bW (ha d s σ H _ I h) fun c i ⟨H1,e,f⟩=>?_)
 cases c with
 | true=>exact⟨H1,e,f⟩
 | false=>exact hb g d i σ H1 Q e f
theorem MS (ha:PT X a tA):PT X (.UnaryOp .Not a pos) (MO tA):=by
 intro b s σ H Q I h;exact isTrue_not (ha b s σ H (fun c H1=>Q (!c) H1) I h)
def DZ (ta tb:TE):TE:=fun σ H Q=>ta σ H fun x H1=>∃ c,x=.bl c/\if c=true then tb σ H1 Q else Q (.bl false) H1
def MT (ta tb:TE):TE:=fun σ H Q=>ta σ H fun x H1=>∃ c,x=.bl c/\if c=true then Q (.bl true) H1 else tb σ H1 Q
theorem MU {op}(h:PE X a t):PE X (.BoolOp op [a] pos) t:=fun b s σ H Q I c=>BoolOp_one (h b s σ H Q I c)
variable {ta tb:TE}
theorem MV (ha:PE X a ta)(hb:PE X (.BoolOp .And (b::rest) pos) tb):PE X (.BoolOp .And (a::b::rest) pos) (DZ ta tb):=by
 intro d s σ H Q I h;refine BoolOp_and (bW (ha d s σ H _ I h) fun v i ⟨x,H1,f,g,e⟩=>?_);obtain⟨c,rfl,e⟩:=e
 cases g
 refine GM ?_
 cases c with
 | true=>exact hb d i σ H1 Q f e
 | false=>exact⟨.bl false,H1,f,rfl,e⟩
theorem Pk (ha:PE X a ta)(hb:PE X (.BoolOp .Or (b::rest) pos) tb):PE X (.BoolOp .Or (a::b::rest) pos) (MT ta tb):=by
 intro d s σ H Q I h;refine BoolOp_or (bW (ha d s σ H _ I h) fun v i ⟨x,H1,f,g,e⟩=>?_);obtain⟨c,rfl,e⟩:=e
 cases g
 refine GM ?_
 cases c with
 | false=>exact hb d i σ H1 Q f e
 | true=>exact⟨.bl true,H1,f,rfl,e⟩
def Sk (t:TT)(ta tb:TE):TE:=fun σ H Q=>t σ H fun c H1=>if c=true then ta σ H1 Q else tb σ H1 Q
variable {c:Expr}
theorem D0 (hc:PT X c tA)(ha:PE X a ta)(hb:PE X b tb):PE X (.IfExp c a b pos) (Sk tA ta tb):=by
 intro e s σ H Q I h;refine wpAny_IfExp (bW (hc e s σ H _ I h) fun d i ⟨H1,f,g⟩=>?_)
 cases d with
 | true=>exact ha e i σ H1 Q f g
 | false=>exact hb e i σ H1 Q f g
def aw (K:Frag)(H:Hp)(a:Addr)(xs:List V):Prop:=
 Rd H a (.lst xs)∨
  ∃ (o:Obj) (its:Array Value) (n:Nat),K.lookup a=some o/\o.cls=.type "list"/\o.dict=none/\o.data=.seq its n/\its.size<=sizeLine/\Vals xs its.toList
def aE (K:Frag)(H:Hp)(a:Addr)(xs:List V):Prop:=
 Rd H a (.tup xs)∨
  ∃ (o:Obj) (its:Array Value) (n:Nat),K.lookup a=some o/\o.cls=.type "tuple"/\o.data=.seq its n/\its.size<=sizeLine/\Vals xs its.toList
def Sl:Value->Option V
 | .none=>some .bx
 | .bool b=>some (.bl b)
 | .int i _=>some (.int i)
 | .str x _=>some (.str x)
 | .bytes b _=>some (.DA b)
 | .float b _=>some (.MB b)
 | .ref a=>some (.ref a)
 | .type n=>some (.ty n)
 | _=>none
theorem RelV.abs {x:V}(r:RelV x u):Sl u=some x:=by
 cases x with
 | bx=>cases r;rfl
 | bl _=>cases r;rfl
 | int _=>obtain⟨t,rfl⟩:=r;rfl
 | str _=>obtain⟨t,rfl⟩:=r;rfl
 | DA _=>obtain⟨t,rfl⟩:=r;rfl
 | MB _=>obtain⟨t,rfl⟩:=r;rfl
 | ref _=>cases r;rfl
 | ty _=>cases r;rfl
theorem RelV.inj {x y:V}{u:Value}(r:RelV x u)(q:RelV y u):x=y:=tz (r.abs.symm.trans q.abs)
theorem Vals.inj:∀ {xs ys:List V} {us:List Value},Vals xs us->Vals ys us->xs=ys
 | _,_,_,.nil,.nil=>rfl
 | _,_,_,.cons r t,.cons b a=>by rw[r.inj b,Vals.inj t a]
variable {a:Addr}{xs:List V}{K:Frag}
theorem aw.of (h:H a=some (.lst xs)):aw K H a xs:=.inl (.inl h)
theorem aE.of (h:H a=some (.tup xs)):aE K H a xs:=.inl (.inl h)
variable {σ:St}
theorem Inv.list (I:Inv X pins σ H s)(h:aw X.K H a xs):∃ its:List Value,Vals xs its/\PlainL s.heap a its.toArray/\xs.length<=sizeLine:=by
 rcases h with h | ⟨o,its,n,hk,hc,b,c,hz,r⟩
 ·obtain⟨z,its,n,r,e⟩:=h.ok I.bh;exact⟨its,r,⟨_,n,e,rfl,rfl,rfl⟩,z⟩
 ·refine⟨its.toList,r,⟨o,n,I.ku a o hk,hc,b,by simpa using c⟩,?_⟩
  have e:=r.length;simp only[Array.length_toList] at e
  omega
theorem Inv.tuple (I:Inv X pins σ H s)(h:aE X.K H a xs):∃ its:List Value,Vals xs its/\IsTup s.heap a its.toArray/\xs.length<=sizeLine:=by
 rcases h with h | ⟨o,its,n,hk,hc,b,hz,r⟩
 ·obtain⟨z,its,r,p⟩:=h.ok I.bh;exact⟨its,r,p,z⟩
 ·refine⟨its.toList,r,⟨o,I.ku a o hk,hc,n,by simpa using b⟩,?_⟩
  have e:=r.length;simp only[Array.length_toList] at e
  omega
variable {ys:List V}
theorem Inv.nZ (I:Inv X pins σ H s)(h:aw X.K H a xs)(h':aw X.K H a ys):xs=ys:=by
 obtain⟨c,r,⟨o,n,e,_,_,d⟩,_⟩:=I.list h;obtain⟨b,i,⟨m,l,f,_,_,g⟩,_⟩:=I.list h';rw[e] at f;cases f
 rw[d] at g
 injection g with j _
 have:c=b:=by simpa using On Array.toList j
 subst this;exact r.inj i
theorem Inv.jr (I:Inv X pins σ H s)(h:aE X.K H a xs)(h':aE X.K H a ys):xs=ys:=by
 obtain⟨c,r,⟨o,e,_,n,d⟩,_⟩:=I.tuple h;obtain⟨b,i,⟨m,f,_,l,g⟩,_⟩:=I.tuple h';rw[e] at f;cases f
 rw[d] at g
 injection g with j _
 have:c=b:=by simpa using On Array.toList j
 subst this;exact r.inj i
abbrev Cx.p6 (X:Cx)(E:Value->Shared->Prop):Cx:={X with xe:=E}
abbrev Cx.Ld (X:Cx):Cx:=X.p6 fun _ _=>False
theorem Cx.Ok.p6 {X:Cx}(ok:X.Ok)(E:Value->Shared->Prop):(X.p6 E).Ok:=
 ⟨ok.mod,ok.kind,ok.glob,ok.blt,ok.above,ok.inj,ok.has,ok.R3,ok.hd,ok.frames,ok.Sf,ok.Se,ok.bs,ok.K8,ok.DB,ok.Ij,ok.nh,ok.OX⟩
theorem Cx.Ok.iF (ok:(X.p6 E).Ok):X.Ok:=
 ⟨ok.mod,ok.kind,ok.glob,ok.blt,ok.above,ok.inj,ok.has,ok.R3,ok.hd,ok.frames,ok.Sf,ok.Se,ok.bs,ok.K8,ok.DB,ok.Ij,ok.nh,ok.OX⟩
theorem Inv.p6 (I:Inv X pins σ H s)(E:Value->Shared->Prop):Inv (X.p6 E) pins σ H s:=⟨I.ok.p6 E,I.os,I.bare,I.base,I.loc,I.cell,I.free,I.jO,I.pin,I.bh,I.len⟩
theorem Inv.iF (I:Inv (X.p6 E) pins σ H s):Inv X pins σ H s:=⟨I.ok.iF,I.os,I.bare,I.base,I.loc,I.cell,I.free,I.jO,I.pin,I.bh,I.len⟩
theorem SP.iF {D:Ends}{f:Flow}{s':Shared}(h:SP (X.p6 E) pins D f s'):SP X pins D f s':=by
 cases f with
 | next=>obtain⟨a,b,I,q⟩:=h;exact⟨a,b,I.iF,q⟩
 | brk=>obtain⟨a,b,I,q⟩:=h;exact⟨a,b,I.iF,q⟩
 | cont=>obtain⟨a,b,I,q⟩:=h;exact⟨a,b,I.iF,q⟩
 | ret u=>obtain⟨v,a,b,I,r,q⟩:=h;exact⟨v,a,b,I.iF,r,q⟩
theorem xK.Ld {st:List Stmt}{t:TS}(h:xK X.Ld st t):xK X st t:=fun a s σ H D I b=>
 FS (h a s σ H D (I.p6 _) b) (fun _ _ q=>q.iF) fun _ _ z=>False.elim z
def D1:TS:=fun D σ H=>D.nx σ H
def BR (t u:TS):TS:=fun D σ H=>t {D with nx:=u D} σ H
theorem IF:xK X [] D1:=fun _ _ σ H _ I h=>wpAny_execs_nil ⟨σ,H,I,h⟩
variable {st:Stmt}{rest:List Stmt}{t u:TS}
theorem D3 (h1:PS X st t)(h2:xK X rest u):xK X (st::rest) (BR t u):=by
 intro a s σ H D I h;refine wpAny_execs_cons (bW (h1 a s σ H {D with nx:=u D} I h) fun f e q=>?_)
 cases f with
 | next=>
  obtain⟨b,d,c,q⟩:=q;exact h2 a e b d D c q
 | ret v=>exact q
 | brk=>exact q
 | cont=>exact q
theorem IG (h1:PS X st t):xK X [st] t:=by
 intro a s σ H D I h;refine wpAny_execs_cons (bW (h1 a s σ H D I h) fun f b q=>?_)
 cases f with
 | next=>exact wpAny_execs_nil q
 | ret v=>exact q
 | brk=>exact q
 | cont=>exact q
theorem Inv.quiet {σ:St}(I:Inv X pins σ H s):interactive X.env=false:=by simp[interactive,I.ok.kind]
def D4 (te:TE):TS:=fun D σ H=>te σ H fun _ H1=>D.nx σ H1
variable {te:TE}
theorem IH (he:PE X e te)(hs:swapsWith e none pos.line X.env=pure false:=by rfl):PS X (.Expr e pos) (D4 te):=by
 intro a s σ H D I h;exact wpAny_Expr_any (bW (he a s σ H _ I h) fun v f ⟨x,H1,b,d,c⟩=>⟨σ,H1,b,c⟩) I.quiet hs
def MW (te:TE):TS:=fun D σ H=>te σ H D.rt
theorem MX (he:PE X e te):PS X (.Return (some e) pos) (MW te):=by
 intro a s σ H D I h;exact wpAny_Return_some (bW (he a s σ H _ I h) fun v f ⟨x,H1,b,c,d⟩=>⟨x,σ,H1,b,c,d⟩)
def MY (c:TT)(t u:TS):TS:=fun D σ H=>c σ H fun b H1=>if b=true then t D σ H1 else u D σ H1
variable {tc:TT}
theorem Pl {a b:List Stmt}(hc:PT X c tc)(ha:xK X a t)(hb:xK X b u):PS X (.If c a b pos) (MY tc t u):=by
 intro e s σ H D I h;refine wpAny_If (bW (hc e s σ H _ I h) fun d i ⟨H1,f,g⟩=>?_)
 cases d with
 | true=>exact ha e i σ H1 D f g
 | false=>exact hb e i σ H1 D f g
abbrev TG:=V->St->Hp->(St->Hp->Prop)->Prop
abbrev Ao:=List V->St->Hp->(St->Hp->Prop)->Prop
def PG (X:Cx)(target:Expr)(t:TG):Prop:=
 ∀ (pins:List (Addr × Obj)) (s:Shared) (σ:St) (H:Hp) (v:V) (u:Value) (Q:St->Hp->Prop),Inv X pins σ H s->RelV v u->t v σ H Q->
  wpAny (model X.prog X.w) X.A (assign target X.env u) (fun _ a=>∃ σ' H',Inv X pins σ' H' a/\Q σ' H') X.xe s
def O3 (X:Cx)(ts:List Expr)(t:Ao):Prop:=
 ∀ (pins:List (Addr × Obj)) (s:Shared) (σ:St) (H:Hp) (vs:List V) (us:List Value) (Q:St->Hp->Prop),Inv X pins σ H s->Vals vs us->t vs σ H Q->
  wpAny (model X.prog X.w) X.A (assignInOrder ((assignEach ts X.env).map (·.2)) us) (fun _ a=>∃ σ' H',Inv X pins σ' H' a/\Q σ' H') X.xe s
abbrev D5:=V->V->V->Hp->(Hp->Prop)->Prop
def MZ (X:Cx)(t:D5):Prop:=
 ∀ (pins:List (Addr × Obj)) (s:Shared) (σ:St) (H:Hp) (o i v:V) (ov iv u:Value) (Q:Hp->Prop),Inv X pins σ H s->RelV o ov->RelV i iv->RelV v u->t o i v H Q->
  wpAny (model X.prog X.w) X.A (setItem ov iv u) (fun _ a=>∃ H',Inv X pins σ H' a/\Q H') X.xe s
def bB (i:Nat):TG:=fun v σ H Q=>Q (σ.set i (some v)) H
theorem II (hN:X.N.Nodup)(hi:X.N[i]?=some x)(hx:Loc X.env.scope x)(hf:X.fn x=true∨X.env.scope.names.lookup x=some .local:=by first | exact .inl rfl | exact .inr rfl | assumption):PG X (.Name x pos) (bB i):=by
 intro a s σ H v u Q I r h;exact wpAny_assign_Name (vj I hN hi hx r (fun c b=>⟨_,H,b,h⟩) hf)
def ni:Ao:=fun a σ H Q=>a=[]/\Q σ H
def dc (t:TG)(u:Ao):Ao:=fun c σ H Q=>∃ v r,c=v::r/\t v σ H fun a b=>u r a b Q
theorem IJ:O3 X [] ni:=by
 intro a s σ H b c Q I r h;obtain⟨e,h⟩:=h;subst e
 cases r
 exact assignInOrder_nil ⟨σ,H,I,h⟩
variable {es:List Expr}
theorem D6 {t:TG}{u:Ao}(h1:PG X e t)(h2:O3 X es u)
  (hs:(assignEach (e::es) X.env).map (·.2)=assign e X.env::(assignEach es X.env).map (·.2):=by rfl):O3 X (e::es) (dc t u):=by
 intro a s σ H j l Q I r h;obtain⟨v,m,i,h⟩:=h;subst i
 cases r with
 | cons r b=>
  rw[hs];refine assignInOrder_cons (bW (h1 a s σ H _ _ _ I r h) fun _ g ⟨c,H1,d,f⟩=>?_);exact h2 a g c H1 _ _ Q d b f
def nj (K:Frag)(n:Nat)(t:Ao):TG:=fun v σ H Q=>∃ a xs,v=.ref a/\aE K H a xs/\xs.length=n/\t xs σ H Q
theorem M1 {k:Nat}{t:Ao}{n:Nat}(hc:X.calm=true)(h:O3 X es t)
  (hn:(assignEach es X.env).length=n:=by rfl) (hst:(assignEach es X.env).findIdx? (·.1)=none:=by rfl):PG X (.Tuple es k pos) (nj X.K n t):=by
 intro c s σ H v u Q I r d;obtain⟨a,p,l,hq,q,d⟩:=d;subst l
 cases r
 obtain⟨m,f,j,hz⟩:=I.tuple hq;refine assign_Tuple_tuple (I.ok.hd hc) j (by simp[hn,<-q,f.length]) hst fun g hx=>?_
 have i:Inv X c σ H {s with heap:=g}:=I.kept (t':=s.toks) fun b o e=>hx b o (mv (lt_size e)) e;exact h c _ σ H p _ Q i (by simpa using f) d
def M3 (to ti:TE)(t:D5):TG:=fun v σ H Q=>to σ H fun o H1=>ti σ H1 fun i b=>t o i v b fun a=>Q σ a
variable {to ti:TE}
theorem M4 {o i:Expr}{t:D5}(ho:PE X o to)(hi:PE X i ti)(hs:MZ X t)
  (ha:∀ v,assign (.Subscript o i pos) X.env v=(do
   let ov<-holding [v] (eval o X.env)
   let iv<-holding [v,ov] (eval i X.env)
   standAt pos
   holding [v,ov,iv] (setItem ov iv v)
   release [v,ov,iv] []):=by intro _;rfl):PG X (.Subscript o i pos) (M3 to ti t):=by
 intro a s σ H v u Q I r h;rw[ha];refine dy (TX (bW (ho a s σ H _ I h) fun ov j ⟨x,H1,b,p,f⟩=>?_));refine dy (TX (bW (hi a j σ H1 _ b f) fun iv n ⟨y,m,q,d,g⟩=>?_));refine dy (wpAny_standAt (dy (TX (bW (hs a n σ m x y v ov iv u _ q p d r g) fun _ w ⟨l,e,c⟩=>?_))));exact wpAny_release ⟨σ,l,e,c⟩
def sI (te:TE)(g:TG):TS:=fun D σ H=>te σ H fun x H1=>g x σ H1 D.nx
variable {tg:Expr}{g:TG}
theorem M5 (he:PE X e te)(hg:PG X tg g)(hs:swapsWithSole [tg] e pos.line X.env=pure false:=by rfl)(hw:swappedStores [tg] e X.env=pure none:=by rfl)
  (h1:(assignEach [tg] X.env).map (·.2)=[assign tg X.env]:=by rfl):PS X (.Assign [tg] e pos) (sI te g):=by
 intro a s σ H D I h;refine wpAny_Assign_stores (bW (he a s σ H _ I h) fun v f ⟨x,H1,b,c,d⟩=>?_) hs hw;rw[h1];exact bW (hg a f σ H1 x v _ b c d) fun _ i q=>q
variable {pos':Pos}
theorem M6 (hN:X.N.Nodup)(hi:X.N[i]?=some x)(hx:Loc X.env.scope x)(he:PE X e te)(hs:swapsWith e (some (.Name x pos')) pos.line X.env=pure false:=by rfl)(hf:X.fn x=true∨X.env.scope.names.lookup x=some .local:=by first | exact .inl rfl | exact .inr rfl | assumption) :
  PS X (.Assign [.Name x pos'] e pos) (sI te (bB i)):=by
 intro a s σ H D I h;refine wpAny_Assign_Name (bW (he a s σ H _ I h) fun v j ⟨y,H1,b,c,f⟩=>?_) hs;exact vj b hN hi hx c (fun g d=>⟨_,H1,d,f⟩) hf
def sL (c:TT)(tb:TS):TS:=fun D σ H=>∃ W:Nat->St->Hp->Prop,(∃ m,W m σ H)/\∀ m σ H,W m σ H->
 c σ H fun b H1=>if b=true then ∃ N:St->Hp->Prop,(∀ σ' H',N σ' H'->∃ m',m' < m/\W m' σ' H')/\tb {D with nx:=N,ct:=N,bk:=D.nx} σ H1 else D.nx σ H1
variable {tb:TS}{body:List Stmt}
theorem D8 (hp:PassesOwn (model X.prog X.w) X.A X.env X.xe)(hc:PT X c tc)(hb:xK X body tb):PS X (.While c body [] pos) (sL tc tb):=by
 intro a s σ H D I h;obtain⟨W,⟨E,z⟩,g⟩:=h;refine wpAny_While (codeAny_whileLoop (fun n x=>∃ σ' H',Inv X a σ' H' x/\W n σ' H') ?_ E ⟨σ,H,I,z⟩);rintro n B ⟨i,H1,y,C⟩;refine Ub hp (bW (hc a B i H1 _ y (g n i H1 C)) fun b F ⟨u,t,l⟩=>?_)
 cases b with
 | true=>
  obtain⟨N,r,l⟩:=l;rw[if_pos rfl];refine Ub hp (bW (hb a F i u _ t l) fun f G j=>?_)
  cases f with
  | next=>
   obtain⟨e,d,m,q⟩:=j;obtain⟨p,hm,o⟩:=r e d q;exact⟨p,hm,e,d,m,o⟩
  | cont=>
   obtain⟨e,d,m,q⟩:=j;obtain⟨p,hm,o⟩:=r e d q;exact⟨p,hm,e,d,m,o⟩
  | brk=>exact j
  | ret v=>exact j
 | false=>
  rw[if_neg h5];exact wpAny_execs_nil ⟨i,u,t,l⟩
structure It where
 go:Nat->Hp->Prop
 BM:Nat->Hp->V->Hp->Prop
 stop:Nat->Hp->Prop
def kx (X:Cx)(pins:List (Addr × Obj))(H:Hp)(b:Addr):Prop:=
 H b=none/\b≠X.env.locals/\b∉X.fs/\(b∈X.ex∨X.s₀.heap.objs.size<=b)/\(∀ x c,X.env.cells.lookup x=some c->c≠b)/\∀ p∈X.pn++pins,p.1≠b
theorem Inv.vk {σ:St}{b:Addr}(I:Inv X pins σ H s)(hb:s.heap.objs.size<=b)(hn:H' b=none):kx X pins H' b:=by
 refine⟨hn,Us (j6 I.lt hb),I.Si hb,.inr (j5 I.sz hb),fun x c e z=>?_,fun p a z=>?_⟩
 ·obtain⟨v,q⟩:=I.cell x c e;exact absurd (j6 q.lt (by rw[z];exact hb)) (M2 _)
 ·exact absurd (j6 (lt_size (I.pin p a).1) (by rw[z];exact hb)) (M2 _)
structure Turn (P:Program)(w:World)(K:Frag)(tg:Expr)(J:It)(fp:List Addr)(it:Addr)(tn:Nat->Heap->Prop):Prop where
 mem:it∈fp
 obj:∀ i h,tn i h->∀ b∈fp,∃ o,h.get? b=some o/\∀ v,o.data≠.cell v
 keep:∀ i h h',tn i h->(∀ b∈fp,∀ o,h.get? b=some o->h'.get? b=some o)->tn i h'
 item:∀ (X:Cx),X.prog=P->X.w=w->X.K=K->X.calm=true->∀ (i:Nat) (pins:List (Addr × Obj)) (s:Shared) (σ:St) (H:Hp) (E:Value->Shared->Prop),Inv X pins σ H s->(∀ b∈fp,kx X pins H b)->tn i s.heap->J.go i H->
  wpAny (model P w) X.A (pyNext (.ref it)) (fun r s1=>∃ u,r=some u/\
   wpAny (model P w) X.A (letOwnedTupleGo tg (.ref it) u) (fun _ s2=>∃ x H',Inv X pins σ H' s2/\RelV x u/\J.BM i H x H'/\tn (i+1) s2.heap/\∀ b∈fp,H' b=none) E s1) E s
 done:∀ (X:Cx),X.prog=P->X.w=w->X.K=K->X.calm=true->∀ (i:Nat) (pins:List (Addr × Obj)) (s:Shared) (σ:St) (H:Hp) (E:Value->Shared->Prop),Inv X pins σ H s->(∀ b∈fp,kx X pins H b)->tn i s.heap->J.stop i H->
  wpAny (model P w) X.A (pyNext (.ref it)) (fun r s1=>r=none/\Inv X pins σ H s1) E s
 self:∀ (A:Around) (i:Nat) (s:Shared) (Q:Value->Shared->Prop) (E:Value->Shared->Prop),tn i s.heap->Q (.ref it) s->wpAny (model P w) A (pyIter (.ref it)) Q E s
abbrev TI:=St->Hp->(It->Hp->Prop)->Prop
def S0 (X:Cx)(pins:List (Addr × Obj))(σ:St)(tg:Expr)(R:It->Hp->Prop)(itv:Value)(s2:Shared):Prop:=
 ∃ (it:Addr) (fp:List Addr) (tn:Nat->Heap->Prop) (J:It) (H':Hp),itv=.ref it/\Inv X pins σ H' s2/\Turn X.prog X.w X.K tg J fp it tn/\tn 0 s2.heap/\(∀ b∈fp,kx X pins H' b)/\R J H'
def PI (X:Cx)(tg iter:Expr)(wi:TI):Prop:=
 ∀ (pins:List (Addr × Obj)) (s:Shared) (σ:St) (H:Hp) (R:It->Hp->Prop),Inv X pins σ H s->wi σ H R->
  wpAny (model X.prog X.w) X.A (eval iter X.env) (fun v a=>wpAny (model X.prog X.w) X.A (pyIter v) (S0 X pins σ tg R) X.xe a) X.xe s
theorem D9 {u:Value}{o:Obj}{n:String}{vs:Array Value}{Q:Unit->Shared->Prop}(ho:s.heap.get? it=some o)(hc:o.cls=.type n)(hd:o.data=.fields vs)
  (hn:["enumerate","zip","dict_itemiterator","dict_reverseitemiterator","odict_iterator","itertools.zip_longest","itertools.pairwise"].contains n=false) (hQ:Q () s):wpAny M A (letOwnedTupleGo tg (.ref it) u) Q E s:=by
 unfold letOwnedTupleGo
 cases tg<;>first
  | exact gc hQ
  | (cases u<;>first
    | exact gc hQ
    | (refine dy (wpAny_load ho ?_);rw[hc,hd];show wpAny M A (if (["enumerate","zip","dict_itemiterator","dict_reverseitemiterator","odict_iterator","itertools.zip_longest","itertools.pairwise"].contains n&&vs[0]? == some (rawInt _))=true then _ else _) Q E s;rw[if_neg (by intro h;rw[hn,sr] at h;cases h)];exact gc hQ))
def Ip (K:Frag)(a:Addr):It:=
 ⟨fun i H=>∃ xs x,aw K H a xs/\xs[i]?=some x,fun i H x b=>b=H/\∀ xs,aw K H a xs->xs[i]?=some x,fun i H=>∃ xs,aw K H a xs/\xs.length<=i⟩
def BS (K:Frag)(a:Addr):It:=
 ⟨fun i H=>∃ xs x,aE K H a xs/\xs[i]?=some x,fun i H x b=>b=H/\∀ xs,aE K H a xs->xs[i]?=some x,fun i H=>∃ xs,aE K H a xs/\xs.length<=i⟩
def xS (lo:Int)(n:Nat):It:=⟨fun i _=>i<n,fun i H x a=>a=H/\x=.int (lo+i),fun i _=>n<=i⟩
theorem BU {P:Program}{w:World}(a it:Addr):Turn P w K tg (Ip K a) [it] it (fun i h=>h.IsListIter it a i) where
 mem:=by simp
 obj:=fun i h f b hb=>by
  have e:b=it:=by simpa using hb
  subst e;obtain⟨o,e,c,d⟩:=f;exact⟨o,e,fun v z=>by rw[d] at z;cases z⟩
 keep:=fun i h l f k=>f.at fun o e=>k it (by simp) o e
 item:=by
  intro X A G y hc i g s σ H E I m f q;subst A G y;obtain⟨L,x,hq,hx⟩:=q;obtain⟨C,F,p,hz⟩:=I.list hq;obtain⟨u,hu,N⟩:=F.get hx;obtain⟨r,t,Q,n,D,B⟩:=m it (by simp)
  refine wpAny_pyNext_list_item f p.isList (x:=u) (by simpa using hu) fun l j O=>?_
  have J:Inv X g σ H {s with heap:=l}:=I.turned (t':=s.toks) (fun b o hb e=>(O.2 b hb).trans e) r t n D B;obtain⟨o,e,c,d⟩:=id j;exact⟨u,rfl,D9 (s:={s with heap:=l}) e c d (by decide) ⟨x,H,J,N,⟨rfl,fun R hy=>by rw[I.nZ hy hq];exact hx⟩,j,fun b hb=>(m b hb).1⟩⟩
 done:=by
  intro X A G y hc i g s σ H E I m f q;subst A G y;obtain⟨L,hq,hx⟩:=q;obtain⟨C,F,p,hz⟩:=I.list hq;obtain⟨r,t,Q,n,D,B⟩:=m it (by simp)
  have S:=F.length;exact wpAny_pyNext_list_end (I.ok.hd hc) f p.isList (by simp;omega) fun l M=>⟨rfl,I.turned (t':=s.toks) (fun b o hb e=>M b o hb e) r t n D B⟩
 self:=fun _ _ _ _ _ f h=>wpAny_pyIter_listiter f h
theorem xT {P:Program}{w:World}(a it:Addr):Turn P w K tg (BS K a) [it] it (fun i h=>h.IsTupleIter it a i) where
 mem:=by simp
 obj:=fun i h f b hb=>by
  have e:b=it:=by simpa using hb
  subst e;obtain⟨o,e,c,d⟩:=f;exact⟨o,e,fun v z=>by rw[d] at z;cases z⟩
 keep:=fun i h m f k=>f.at fun o e=>k it (by simp) o e
 item:=by
  intro X B G A hc i g s σ H E I n f r;subst B G A;obtain⟨L,x,hq,hx⟩:=r;obtain⟨j,F,p,hz⟩:=I.tuple hq;obtain⟨u,hu,N⟩:=F.get hx;obtain⟨t,y,Q,q,D,C⟩:=n it (by simp)
  refine wpAny_pyNext_tuple_item f (show s.heap.IsTuple a j.toArray from p) (x:=u) (by simpa using hu) fun m l O=>?_
  have J:Inv X g σ H {s with heap:=m}:=I.turned (t':=s.toks) (fun b o hb e=>(O.2 b hb).trans e) t y q D C;obtain⟨o,e,c,d⟩:=id l;exact⟨u,rfl,D9 (s:={s with heap:=m}) e c d (by decide) ⟨x,H,J,N,⟨rfl,fun R hy=>by rw[I.jr hy hq];exact hx⟩,l,fun b hb=>(n b hb).1⟩⟩
 done:=by
  intro X B G A hc i g s σ H E I n f r;subst B G A;obtain⟨L,hq,hx⟩:=r;obtain⟨j,F,p,hz⟩:=I.tuple hq;obtain⟨t,y,Q,q,D,C⟩:=n it (by simp)
  have S:=F.length;exact wpAny_pyNext_tuple_end (I.ok.hd hc) f (show s.heap.IsTuple a j.toArray from p) (by simp;omega) fun m M=>⟨rfl,I.turned (t':=s.toks) (fun b o hb e=>M b o hb e) t y q D C⟩
 self:=fun _ _ _ _ _ f h=>wpAny_pyIter_tupleiter f h
theorem xU {P:Program}{w:World}(it:Addr)(lo:Int)(n:Nat):Turn P w K tg (xS lo n) [it] it (fun i h=>IsRangeIter h it (lo+(i:Nat)*1) ((n:Int) - (i:Nat)) 1) where
 mem:=by simp
 obj:=fun i h a b hb=>by
  have e:b=it:=by simpa using hb
  subst e;exact⟨_,a,fun v z=>by
   have G:Data.fields _=Data.cell v:=z
   cases G⟩
 keep:=fun i h f a k=>k it (by simp) _ a
 item:=by
  intro X r y q hc i c s σ H E I g a l;subst r y q;obtain⟨m,p,J,j,x,u⟩:=g it (by simp)
  have W:=Walks.range (prog:=X.prog) (w:=X.w) (I.ok.hd hc) it lo 1 n;refine W.item i s _ _ l a fun v f A C d D=>?_;obtain⟨t,rfl⟩:=C;have B:Inv X c σ H {s with heap:=f,toks:=A}:=I.turned (fun b o hb e=>D b o (by simpa using hb) e) m p j x u
  refine⟨_,rfl,D9 (s:={s with heap:=f,toks:=A}) (n:="range_iterator") d rfl rfl (by decide) ⟨.int (lo+i),H,B,⟨t,?_⟩,⟨rfl,rfl⟩,d,fun b hb=>(g b hb).1⟩⟩
  rw[Int.mul_one]
 done:=by
  intro X r y q hc i c s σ H E I g a l;subst r y q;obtain⟨m,p,J,j,x,u⟩:=g it (by simp)
  exact wpAny_pyNext_range_end (I.ok.hd hc) a (by have:n<=i:=l;omega) fun f F=>⟨rfl,I.turned (t':=s.toks) (fun b o hb e=>F b o hb e) m p j x u⟩
 self:=fun _ _ _ _ _ a h=>wpAny_pyIter_rangeiter a h
def Ap (K:Frag)(tl:TE):TI:=fun σ H R=>tl σ H fun x H1=>∃ a,x=.ref a/\(∃ xs,aw K H1 a xs)/\R (Ip K a) H1
def IK (K:Frag)(tl:TE):TI:=fun σ H R=>tl σ H fun x H1=>∃ a,x=.ref a/\(∃ xs,aE K H1 a xs)/\R (BS K a) H1
variable {l:Expr}{tl:TE}
theorem IL (hl:PE X l tl):PI X tg l (Ap X.K tl):=by
 intro c s σ H R I h;refine bW (hl c s σ H _ I h) fun v f ⟨x,H1,d,j,g⟩=>?_;obtain⟨a,e,⟨m,hq⟩,q⟩:=g;subst e
 cases j
 obtain⟨i,n,p,hz⟩:=d.list hq;refine TN p.isList ?_;refine⟨f.heap.objs.size,[f.heap.objs.size],_,_,H1,rfl,d.kept (t':=f.toks) fun b o e=>ey _ e,BU a _,⟨_,ih _ rfl,rfl,rfl⟩,fun b hb=>?_,q⟩;have e:b=f.heap.objs.size:=by simpa using hb
 subst e;exact d.vk (ed _) (d.bh.fresh (ed _))
theorem M7 (hl:PE X l tl):PI X tg l (IK X.K tl):=by
 intro d s σ H R I h;refine bW (hl d s σ H _ I h) fun v c ⟨x,H1,f,j,i⟩=>?_;obtain⟨a,e,⟨m,hq⟩,q⟩:=i;subst e
 cases j
 obtain⟨g,n,p,hz⟩:=f.tuple hq;refine Re (show c.heap.IsTuple a g.toArray from p) ?_
 refine⟨c.heap.objs.size,[c.heap.objs.size],_,_,H1,rfl,f.kept (t':=c.toks) fun b o e=>ey _ e,xT a _,⟨_,ih _ rfl,rfl,rfl⟩,fun b hb=>?_,q⟩;have e:b=c.heap.objs.size:=by simpa using hb
 subst e;exact f.vk (ed _) (f.bh.fresh (ed _))
variable {lo:Int}
theorem vm {σ:St}{R:It->Hp->Prop}{hi:Int}{t u v:Tok}{tk:Nat}(I:Inv X pins σ H s)(h1:-(2 ^ 62)<=lo)(h2:lo<2 ^ 62)(h3:-(2 ^ 62)<=hi)(h4:hi<2 ^ 62)
  (q:R (xS lo (hi - lo).toNat) H):wpAny (model X.prog X.w) X.A (pyIter (.ref s.heap.objs.size)) (S0 X pins σ tg R) E {s with heap:=s.heap.push {cls:=.type "range",data:=.fields #[.int lo t,.int hi u,.int 1 v]},toks:=tk}:=by
 refine wpAny_pyIter_range (IsRange.new ..) (small_one h1 h2 h3 h4) ?_;have a:Inv X pins σ H {s with heap:=s.heap.push {cls:=.type "range",data:=.fields #[.int lo t,.int hi u,.int 1 v]},toks:=tk}:=I.kept fun b o e=>ey _ e;refine⟨(s.heap.push {cls:=.type "range",data:=.fields #[.int lo t,.int hi u,.int 1 v]}).objs.size,[(s.heap.push {cls:=.type "range",data:=.fields #[.int lo t,.int hi u,.int 1 v]}).objs.size],_,_,H,rfl,
  a.kept (t':=tk) fun b o e=>ey _ e,xU _ lo (hi - lo).toNat,?_,fun b hb=>?_,q⟩
 ·have c:lo+((0:Nat):Int)*1=lo:=by simp
  have e2:(((hi - lo).toNat:Nat):Int) - ((0:Nat):Int)=Builtin.Range.rangeSize lo hi 1:=by rw[rangeSize_one];split<;>omega
  show IsRangeIter _ _ (lo+((0:Nat):Int)*1) ((((hi - lo).toNat:Nat):Int) - ((0:Nat):Int)) 1;rw[c,e2];exact ih _ rfl
 ·have e:b=(s.heap.push {cls:=.type "range",data:=.fields #[.int lo t,.int hi u,.int 1 v]}).objs.size:=by simpa using hb
  subst e;exact a.vk (ed _) (a.bh.fresh (ed _))
def Aq (ta:TA):TI:=fun σ H R=>ta σ H fun a H1=>∃ j:Int,a=[.int j]/\-(2 ^ 62)<=j/\j<2 ^ 62/\R (xS 0 j.toNat) H1
def Ar (ta:TA):TI:=fun σ H R=>ta σ H fun a H1=>∃ i j:Int,a=[.int i,.int j]/\(-(2 ^ 62)<=i/\i<2 ^ 62/\-(2 ^ 62)<=j/\j<2 ^ 62)/\R (xS i (j - i).toNat) H1
variable {a:Expr}{ta:TA}{p:Pos}
theorem BV {pos:Pos}(hg:Gl X "range")(hm:X.mg "range"=none)(ha:PA X [a] ta)(hs:starEach [a] X.env=[(false,eval a X.env)]:=by rfl):PI X tg (.Call (.Name "range" p) [a] [] pos) (Aq ta):=by
 intro b s σ H R I h;refine Call_ (iE I hg hm boot_range (GT (bW (ha pos b s σ H _ I h) fun n m ⟨l,H1,f,i,c⟩=>?_) hs rfl));obtain⟨j,e,c,g,q⟩:=c;subst e
 cases i with
 | cons r d=>
  cases d
  obtain⟨t,rfl⟩:=r;exact call_range_1 (vm f (by omega) (by omega) c g (by simpa using q))
theorem BW {pos:Pos}(hg:Gl X "range")(hm:X.mg "range"=none)(ha:PA X [a,b] ta)(hs:starEach [a,b] X.env=[(false,eval a X.env),(false,eval b X.env)]:=by rfl)(hs2:starEach [b] X.env=[(false,eval b X.env)]:=by rfl) :
  PI X tg (.Call (.Name "range" p) [a,b] [] pos) (Ar ta):=by
 intro c s σ H R I h;refine Call_ (iE I hg hm boot_range (GT (bW (ha pos c s σ H _ I h) fun x w ⟨v,H1,g,u,f⟩=>?_) (by rw[hs,hs2]) (by rw[hs2];rfl)))
 obtain⟨i,j,e,⟨f,n,m,l⟩,q⟩:=f;subst e
 cases u with
 | cons r d=>
  cases d with
  | cons o d=>
   cases d
   obtain⟨t,rfl⟩:=r;obtain⟨y,rfl⟩:=o;exact call_range_2 (vm g f n m l q)
def M8 (wi:TI)(g:TG)(tb:TS):TS:=fun D σ H=>wi σ H fun J H1=>∃ W:Nat->Nat->St->Hp->Prop,(∃ m,W 0 m σ H1)/\∀ i m σ H,W i m σ H->
 (J.stop i H/\D.nx σ H)∨(J.go i H/\∃ N:St->Hp->Prop,(∀ σ' H',N σ' H'->∃ m',m' < m/\W (i+1) m' σ' H')/\∀ x H',J.BM i H x H'->g x σ H' fun b a=>tb {D with nx:=N,ct:=N,bk:=D.nx} b a)
def oa (fp:List Addr)(h:Heap):List (Addr × Obj):=fp.filterMap fun b=>(h.get? b).map fun o=>(b,o)
variable {fp:List Addr}
theorem gP {h:Heap}{b:Addr}{o:Obj}(hb:b∈fp)(e:h.get? b=some o):(b,o)∈oa fp h:=List.mem_filterMap.mpr ⟨b,hb,by rw[e];rfl⟩
theorem BX {h:Heap}{p:Addr × Obj}(hp:p∈oa fp h):p.1∈fp/\h.get? p.1=some p.2:=by
 obtain⟨b,hb,e⟩:=List.mem_filterMap.mp hp
 cases q:h.get? b with
 | none=>rw[q] at e;cases e
 | some o=>
  rw[q] at e;have a:(b,o)=p:=tz e;subst a;exact⟨hb,q⟩
theorem Inv.pinned {σ:St}(I:Inv X pins σ H s)(hf:∀ b∈fp,kx X pins H b)(ho:∀ b∈fp,∃ o,s.heap.get? b=some o/\∀ v,o.data≠.cell v):Inv X (pins++oa fp s.heap) σ H s:=
 I.An fun p c=>(kb.mp c).elim (fun z=>I.pin p (wh _ z)) fun z=>by
  obtain⟨hb,e⟩:=BX z;obtain⟨f,g,h,_⟩:=hf p.1 hb;obtain⟨o,a,d⟩:=ho p.1 hb;rw[e] at a;cases a
  exact⟨e,f,g,h,d⟩
theorem Inv.ky {pl:List (Addr × Obj)}{σ:St}(I:Inv X (pins++pl) σ H s):Inv X pins σ H s:=I.An fun p a=>I.pin p (wh _ (Ud _ a))
variable {iter:Expr}
theorem M9 {wi:TI}{pos:Pos}(hp:PassesOwn (model X.prog X.w) X.A X.env X.xe)(hc:X.calm=true)(hi:PI X tg iter wi)(hg:PG X tg g)(hb:xK X body tb)
  (hs:∀ x,foldedSetIterable iter X.env x=pure x:=by intro _;rfl):PS X (.For tg iter body [] pos) (M8 wi g tb):=by
 intro a s σ H D I h;refine wpAny_For (bW (hi a s σ H _ I h) fun v s1 h1=>bW h1 fun itv s2 h2=>?_) hs;obtain⟨it,G,S,J,H2,e,I2,T,O,Y,W,⟨m0,w0⟩,B⟩:=h2;subst e;have q:∀ {H':Hp},(∀ b∈G,H' b=none)->∀ b∈G,kx X a H' b:=fun hn b hb=>⟨hn b hb,(Y b hb).2⟩;refine codeAny_forLoop_any (fun n Z=>∃ i σ' H',Inv X a σ' H' Z/\S i Z.heap/\(∀ b∈G,H' b=none)/\W i n σ' H') ?_ m0 ⟨0,σ,H2,I2,O,fun b hb=>(Y b hb).1,w0⟩;rintro n s3 ⟨i,z,L,I3,E,K,w3⟩
 rcases B i n z L w3 with ⟨C,qn⟩ | ⟨go,N,hN,step⟩
 ·refine Ub hp (bW (T.done X rfl rfl rfl hc i a s3 z L X.xe I3 (q K) E C) fun r s4 ⟨R,I4⟩=>?_);subst R;exact wpAny_execs_nil ⟨z,L,I4,qn⟩
 ·refine Ub hp (bW (T.item X rfl rfl rfl hc i a s3 z L X.xe I3 (q K) E go) fun r s4 ⟨u,R,h4⟩=>?_);subst R;refine Ub hp (bW h4 fun _ U ⟨x,H5,I5,r5,y5,y,M⟩=>?_);have Q:=I5.pinned (q M) (T.obj _ _ y);refine Ub hp (bW (hg _ U z H5 x u _ Q r5 (step x H5 y5)) fun _ s6 ⟨σ6,H6,I6,q6⟩=>?_);refine Ub hp (bW (hb _ s6 σ6 H6 _ I6 q6) fun f P t=>?_);have c:∀ {l:St} {j:Hp},Inv X (a++oa G U.heap) l j P->N l j->∃ m,m<n/\∃ i σ' H',Inv X a σ' H' P/\S i P.heap/\(∀ b∈G,H' b=none)/\W i m σ' H':=fun {l j} p F=>by
   obtain⟨m',hm,w7⟩:=hN l j F;refine⟨m',hm,i+1,l,j,p.ky,T.keep _ _ _ y fun b hb o e=>(p.pin (b,o) (wh _ (wh _ (gP hb e)))).1,fun b hb=>?_,w7⟩;obtain⟨o,e,d⟩:=T.obj _ _ y b hb;exact(p.pin (b,o) (wh _ (wh _ (gP hb e)))).2.1
  cases f with
  | next=>obtain⟨l,j,p,F⟩:=t;exact c p F
  | cont=>obtain⟨l,j,p,F⟩:=t;exact c p F
  | brk=>obtain⟨l,j,p,t⟩:=t;exact⟨l,j,p.ky,t⟩
  | ret v=>obtain⟨x7,l,j,p,r7,t⟩:=t;exact⟨x7,l,j,p.ky,r7,t⟩
variable {a:Addr}{D:Ends}
theorem vn {σ:St}(Pv:Nat->St->Hp->Prop)(h0:Pv 0 σ H)(hl:∀ i σ H,i<=xs.length->Pv i σ H->aw K H a xs)
  (hs:∀ i x σ H,xs[i]?=some x->Pv i σ H->g x σ H fun σ2 H2=>tb {D with nx:=Pv (i+1),ct:=Pv (i+1),bk:=D.nx} σ2 H2) (hd:∀ σ H,Pv xs.length σ H->D.nx σ H) :
  ∃ W:Nat->Nat->St->Hp->Prop,(∃ m,W 0 m σ H)/\∀ i m σ H,W i m σ H->
   ((Ip K a).stop i H/\D.nx σ H)∨((Ip K a).go i H/\∃ N:St->Hp->Prop,(∀ σ' H',N σ' H'->∃ m',m' < m/\W (i+1) m' σ' H')/\∀ x H',(Ip K a).BM i H x H'->g x σ H' fun σ2 H2=>tb {D with nx:=N,ct:=N,bk:=D.nx} σ2 H2):=by
 refine⟨fun i m σ H=>m=xs.length - i/\i<=xs.length/\Pv i σ H,⟨xs.length,by simp,zero_le _,h0⟩,?_⟩
 rintro i m σ H ⟨rfl,hi,p⟩;have q:=hl i σ H hi p
 by_cases b:i<xs.length
 ·refine .inr ⟨⟨xs,xs[i],q,by simp[b]⟩,Pv (i+1),fun σ' H' c=>⟨xs.length - (i+1),by omega,rfl,b,c⟩,fun x H' y=>?_⟩
  obtain⟨e,y⟩:=y;subst e;exact hs i x σ _ (y xs q) p
 ·have e:i=xs.length:=by omega
  subst e;exact .inl ⟨⟨xs,q,ed _⟩,hd σ H p⟩
theorem As {σ:St}(Pv:Nat->St->Hp->Prop)(h0:Pv 0 σ H)(hl:∀ i σ H,i<=xs.length->Pv i σ H->aE K H a xs)
  (hs:∀ i x σ H,xs[i]?=some x->Pv i σ H->g x σ H fun σ2 H2=>tb {D with nx:=Pv (i+1),ct:=Pv (i+1),bk:=D.nx} σ2 H2) (hd:∀ σ H,Pv xs.length σ H->D.nx σ H) :
  ∃ W:Nat->Nat->St->Hp->Prop,(∃ m,W 0 m σ H)/\∀ i m σ H,W i m σ H->
   ((BS K a).stop i H/\D.nx σ H)∨((BS K a).go i H/\∃ N:St->Hp->Prop,(∀ σ' H',N σ' H'->∃ m',m' < m/\W (i+1) m' σ' H')/\∀ x H',(BS K a).BM i H x H'->g x σ H' fun σ2 H2=>tb {D with nx:=N,ct:=N,bk:=D.nx} σ2 H2):=by
 refine⟨fun i m σ H=>m=xs.length - i/\i<=xs.length/\Pv i σ H,⟨xs.length,by simp,zero_le _,h0⟩,?_⟩
 rintro i m σ H ⟨rfl,hi,p⟩;have q:=hl i σ H hi p
 by_cases b:i<xs.length
 ·refine .inr ⟨⟨xs,xs[i],q,by simp[b]⟩,Pv (i+1),fun σ' H' c=>⟨xs.length - (i+1),by omega,rfl,b,c⟩,fun x H' y=>?_⟩
  obtain⟨e,y⟩:=y;subst e;exact hs i x σ _ (y xs q) p
 ·have e:i=xs.length:=by omega
  subst e;exact .inl ⟨⟨xs,q,ed _⟩,hd σ H p⟩
variable {n:Nat}
theorem qX {σ:St}(Pv:Nat->St->Hp->Prop)(h0:Pv 0 σ H)
  (hs:∀ i σ H,i<n->Pv i σ H->g (.int (lo+i)) σ H fun σ2 H2=>tb {D with nx:=Pv (i+1),ct:=Pv (i+1),bk:=D.nx} σ2 H2) (hd:∀ σ H,Pv n σ H->D.nx σ H) :
  ∃ W:Nat->Nat->St->Hp->Prop,(∃ m,W 0 m σ H)/\∀ i m σ H,W i m σ H->
   ((xS lo n).stop i H/\D.nx σ H)∨((xS lo n).go i H/\∃ N:St->Hp->Prop,(∀ σ' H',N σ' H'->∃ m',m' < m/\W (i+1) m' σ' H')/\∀ x H',(xS lo n).BM i H x H'->g x σ H' fun σ2 H2=>tb {D with nx:=N,ct:=N,bk:=D.nx} σ2 H2):=by
 refine⟨fun i m σ H=>m=n - i/\i<=n/\Pv i σ H,⟨n,by simp,zero_le _,h0⟩,?_⟩
 rintro i m σ H ⟨rfl,hi,p⟩
 by_cases a:i<n
 ·refine .inr ⟨a,Pv (i+1),fun σ' H' b=>⟨n - (i+1),by omega,rfl,a,b⟩,fun x H' y=>?_⟩
  obtain⟨e,y⟩:=y;subst e y;exact hs i σ _ a p
 ·have e:i=n:=by omega
  subst e;exact .inl ⟨ed _,hd σ H p⟩
abbrev R2:=V->V->Hp->VK->Prop
def eP (X:Cx)(f:Value->Value->Sem Value)(r:R2):Prop:=
 ∀ (pins:List (Addr × Obj)) (s:Shared) (σ:St) (H:Hp) (x y:V) (v u:Value) (Q:VK),Inv X pins σ H s->RelV x v->RelV y u->r x y H Q->
  wpAny (model X.prog X.w) X.A (f v u) (EP X pins σ Q) X.xe s
def Pm (X:Cx)(f:Value->Sem Value)(r:V->Hp->VK->Prop):Prop:=
 ∀ (pins:List (Addr × Obj)) (s:Shared) (σ:St) (H:Hp) (x:V) (v:Value) (Q:VK),Inv X pins σ H s->RelV x v->r x H Q->
  wpAny (model X.prog X.w) X.A (f v) (EP X pins σ Q) X.xe s
def bS (X:Cx)(f:Value)(r:List V->Hp->VK->Prop):Prop:=
 ∀ (pins:List (Addr × Obj)) (s:Shared) (σ:St) (H:Hp) (xs:List V) (us:List Value) (Q:VK),Inv X pins σ H s->Vals xs us->r xs H Q->
  wpAny (model X.prog X.w) X.A (call f us) (EP X pins σ Q) X.xe s
def xV (r:R2)(ta tb:TE):TE:=fun σ H Q=>ta σ H fun x H1=>tb σ H1 fun y a=>r x y a Q
def Sm (r:V->Hp->VK->Prop)(ta:TE):TE:=fun σ H Q=>ta σ H fun x H1=>r x H1 Q
def rI (C:Int->Int->Prop)(g:Int->Int->V):R2:=fun x y H Q=>∃ i j,x=.int i/\y=.int j/\C i j/\Q (g i j) H
def DO (g:Int->Int->V):R2:=fun x y H Q=>∃ i j,x=.int i/\y=.int j/\Q (g i j) H
def rU (g:Int->V):V->Hp->VK->Prop:=fun x H Q=>∃ i,x=.int i/\Q (g i) H
variable {a:Expr}{ta tb:TE}{f:Value->Value->Sem Value}
theorem Na (ha:PE X a ta)(hb:PE X b tb){σ:St}{R:V->V->Hp->Prop}(I:Inv X pins σ H s)
  (h:ta σ H fun x H1=>tb σ H1 fun y H2=>R x y H2) 
  (hf:∀ v u s2 x y H2,Inv X pins σ H2 s2->RelV x v->RelV y u->R x y H2->wpAny (model X.prog X.w) X.A (f v u) Q X.xe s2) :
  wpAny (model X.prog X.w) X.A (eval a X.env) (fun v s₁=>wpAny (model X.prog X.w) X.A (eval b X.env) (fun u s₂=>wpAny (model X.prog X.w) X.A (f v u) Q X.xe s₂) X.xe s₁) X.xe s:=by
 refine bW (ha pins s σ H _ I h) fun v l ⟨x,H1,c,d,i⟩=>?_;refine bW (hb pins l σ H1 _ c i) fun u s2 ⟨y,H2,g,e,j⟩=>?_;exact hf v u s2 x y H2 g d e j
theorem vo {op:Operator}{r:R2}(ho:eP X (binaryOp op) r)(ha:PE X a ta)(hb:PE X b tb):PE X (.BinOp a op b pos) (xV r ta tb):=by
 intro c s σ H Q I h;exact wpAny_BinOp (Na ha hb I h fun v u f x y d i e g q=>ho c f σ d x y v u Q i e g q)
theorem Pn {op:UnaryOp}{r:V->Hp->VK->Prop}(ho:Pm X (unaryOp op) r)(ha:PE X a ta):PE X (.UnaryOp op a pos) (Sm r ta):=by
 intro b s σ H Q I h;exact UnaryOp_ (bW (ha b s σ H _ I h) fun v f ⟨x,H1,c,d,e⟩=>ho b f σ H1 x v Q c d e)
variable {g:Int->Int->Int}
theorem Nb {C:Int->Int->Prop} 
  (rule:∀ (i j:Int) (t u:Tok) (s:Shared) (Q:Value->Shared->Prop) (E:Value->Shared->Prop),C i j->Q (.int (g i j) s.toks) {s with toks:=s.toks+1}->wpAny (model X.prog X.w) X.A (f (.int i t) (.int j u)) Q E s) :
  eP X f (rI C fun i j=>.int (g i j)):=by
 intro a s σ H x y v u Q I d b h;obtain⟨i,j,rfl,rfl,hc,q⟩:=h;obtain⟨t,rfl⟩:=d;obtain⟨c,rfl⟩:=b;exact rule i j t c s _ _ hc ⟨.int (g i j),H,I.tok _,⟨_,rfl⟩,q⟩
theorem IM 
  (rule:∀ (i j:Int) (t u:Tok) (s:Shared) (Q:Value->Shared->Prop) (E:Value->Shared->Prop),Q (.int (g i j) s.toks) {s with toks:=s.toks+1}->wpAny (model X.prog X.w) X.A (f (.int i t) (.int j u)) Q E s) :
  eP X f (DO fun i j=>.int (g i j)):=by
 intro a s σ H x y v u Q I d b h;obtain⟨i,j,rfl,rfl,q⟩:=h;obtain⟨t,rfl⟩:=d;obtain⟨c,rfl⟩:=b;exact rule i j t c s _ _ ⟨.int (g i j),H,I.tok _,⟨_,rfl⟩,q⟩
theorem IP {g:Int->Int->Bool}
  (rule:∀ (i j:Int) (t u:Tok) (s:Shared) (Q:Value->Shared->Prop) (E:Value->Shared->Prop),Q (.bool (g i j)) s->wpAny (model X.prog X.w) X.A (f (.int i t) (.int j u)) Q E s) :
  eP X f (DO fun i j=>.bl (g i j)):=by
 intro a s σ H x y v u Q I d b h;obtain⟨i,j,rfl,rfl,q⟩:=h;obtain⟨t,rfl⟩:=d;obtain⟨c,rfl⟩:=b;exact rule i j t c s _ _ ⟨.bl (g i j),H,I,rfl,q⟩
def Nc (i j:Int):Prop:=0<j/\j<1073741824
def ly (i j:Int):Prop:=0<=j/\j<=1000000/\i.natAbs<2 ^ 64
theorem xW (k:Nat):(0:Int)<=2 ^ k:=by
 rw[two_pow_cast];exact natCast_nonneg _
theorem aZ:eP X (binaryOp .Add) (DO fun i j=>.int (i+j)):=IM fun _ _ _ _ _ _ _ q=>add_int q
theorem cJ:eP X (binaryOp .Sub) (DO fun i j=>.int (i - j)):=IM fun _ _ _ _ _ _ _ q=>sub_int q
theorem IQ:eP X (binaryOp .FloorDiv) (rI Nc fun i j=>.int (i / j)):=Nb fun i j _ _ _ _ _ hc q=>by
 have h1:(0:Int)<j:=hc.1;have a:j<1073741824:=hc.2;exact floordiv_int (by omega) (by rw[Int.fdiv_eq_ediv_of_nonneg i (by omega)];exact q) (.inl (PyProof.noPylong_small (by omega)))
theorem cR:eP X (binaryOp .Mod) (rI (fun _ j=>0<j) fun i j=>.int (i % j)):=Nb fun i j _ _ _ _ _ hc q=>by
 have h1:(0:Int)<j:=hc;exact mod_int' (by omega) (by rw[Int.fmod_eq_emod_of_nonneg i (by omega)];exact q)
theorem jR:eP X (binaryOp .Pow) (rI ly fun i j=>.int (i ^ j.toNat)):=Nb fun _ _ _ _ _ _ _ hc q=>pow_int_small hc.1 hc.2.1 hc.2.2 q
theorem cS:eP X (binaryOp .LShift) (rI ly fun i j=>.int (i*2 ^ j.toNat)):=Nb fun _ _ _ _ _ _ _ hc q=>lshift_int_small hc.1 hc.2.1 hc.2.2 q
theorem xX:eP X (binaryOp .RShift) (rI (fun _ j=>0<=j) fun i j=>.int (i / 2 ^ j.toNat)):=Nb fun i j _ _ _ _ _ hc q=>
 rshift_int hc (by rw[Int.fdiv_eq_ediv_of_nonneg i (xW _)];exact q)
theorem dU:eP X (binaryOp .BitAnd) (DO fun i j=>.int (Builtin.bitAnd i j)):=IM fun _ _ _ _ _ _ _ q=>and_int q
theorem vp:eP X (binaryOp .BitOr) (DO fun i j=>.int (Builtin.bitOr i j)):=IM fun _ _ _ _ _ _ _ q=>or_int q
theorem S1 {f:Value->Sem Value}{g:Int->Int}
  (rule:∀ (i:Int) (t:Tok) (s:Shared) (Q:Value->Shared->Prop) (E:Value->Shared->Prop),Q (.int (g i) s.toks) {s with toks:=s.toks+1}->wpAny (model X.prog X.w) X.A (f (.int i t)) Q E s) :
  Pm X f (rU fun i=>.int (g i)):=by
 intro a s σ H x v Q I b h;obtain⟨i,rfl,q⟩:=h;obtain⟨t,rfl⟩:=b;exact rule i t s _ _ ⟨.int (g i),H,I.tok _,⟨_,rfl⟩,q⟩
theorem lA:Pm X (unaryOp .USub) (rU fun i=>.int (-i)):=S1 fun _ _ _ _ _ q=>neg_int q
theorem Nd:Pm X (unaryOp .Invert) (rU fun i=>.int (Builtin.bitNot i)):=S1 fun _ _ _ _ _ q=>invert_int q
def BY:V->V->Bool
 | .bx,.bx=>true | .bx,.int _=>true | .int _,.bx=>true | .bx,.bl _=>true | .bl _,.bx=>true | .bx,.str _=>true | .str _,.bx=>true
 | .int _,.int _=>true | .bl _,.bl _=>true | .str _,.str _=>true | .DA _,.DA _=>true
 | .int _,.str _=>true | .str _,.int _=>true | .bl _,.str _=>true | .str _,.bl _=>true
 | _,_=>false
def Po:R2:=fun x y H Q=>BY x y=true/\Q (.bl (decide (x=y))) H
def Pp:R2:=fun x y H Q=>BY x y=true/\Q (.bl (!decide (x=y))) H
theorem Au {i j:Int}:decide (V.int i=V.int j)=(i == j):=by
 rw[TQ]
 simp
theorem Ea {i j:Bool}:decide (V.bl i=V.bl j)=(i == j):=by
 rw[TQ]
 simp
theorem Av {i j:Str}:decide (V.str i=V.str j)=(i == j):=by
 rw[TQ]
 simp
theorem Aw {i j:Array UInt8}:decide (V.DA i=V.DA j)=(i.toList == j.toList):=by
 rw[TQ]
 cases i
 cases j
 simp
theorem br {σ:St}{Q:VK}{k k':Bool}(I:Inv X pins σ H s)(q:Q (.bl k) H)(e:k=k'):EP X pins σ Q (.bool k') s:=by
 subst e;exact⟨.bl k,H,I,rfl,q⟩
theorem aW:eP X (compareOp .Eq) Po:=by
 intro e s σ H x y v u Q I d a h;obtain⟨c,q⟩:=h
 cases x with
 | bx=>
  cases d
  cases y with
  | bx=>cases a;exact PySem.EqNone.eq_none_none (br I q (by simp))
  | bl j=>cases a;exact PySem.EqNone.eq_none_bool (br I q (by simp))
  | int j=>obtain⟨b,rfl⟩:=a;exact PySem.EqNone.eq_none_int (br I q (by simp))
  | str j=>obtain⟨b,rfl⟩:=a;exact PySem.EqNone.eq_none_str (br I q (by simp))
  | _=>exact absurd (show false=true from c) h5
 | bl i=>
  cases d
  cases y with
  | bx=>cases a;exact PySem.EqNone.eq_bool_none (br I q (by simp))
  | bl j=>cases a;exact eq_bool (br I q Ea)
  | str j=>obtain⟨b,rfl⟩:=a;exact PySem.EqMixed.eq_bool_str (br I q (by simp))
  | _=>exact absurd (show false=true from c) h5
 | int i=>
  obtain⟨t,rfl⟩:=d
  cases y with
  | bx=>cases a;exact PySem.EqNone.eq_int_none (br I q (by simp))
  | int j=>obtain⟨b,rfl⟩:=a;exact eq_int (br I q Au)
  | str j=>obtain⟨b,rfl⟩:=a;exact PySem.EqMixed.eq_int_str (br I q (by simp))
  | _=>exact absurd (show false=true from c) h5
 | str i=>
  obtain⟨t,rfl⟩:=d
  cases y with
  | bx=>cases a;exact PySem.EqNone.eq_str_none (br I q (by simp))
  | bl j=>cases a;exact PySem.EqMixed.eq_str_bool (br I q (by simp))
  | int j=>obtain⟨b,rfl⟩:=a;exact PySem.EqMixed.eq_str_int (br I q (by simp))
  | str j=>obtain⟨b,rfl⟩:=a;exact eq_str (br I q Av)
  | _=>exact absurd (show false=true from c) h5
 | DA i=>
  obtain⟨t,rfl⟩:=d
  cases y with
  | DA j=>obtain⟨b,rfl⟩:=a;exact PySem.W.eq_bytes (br I q Aw)
  | _=>exact absurd (show false=true from c) h5
 | _=>cases y<;>exact absurd (show false=true from c) h5
theorem kA:eP X (compareOp .NotEq) Pp:=by
 intro e s σ H x y v u Q I d a h;obtain⟨c,q⟩:=h
 cases x with
 | bx=>
  cases d
  cases y with
  | bx=>cases a;exact PySem.EqNone.ne_none_none (br I q (by simp))
  | bl j=>cases a;exact PySem.EqNone.ne_none_bool (br I q (by simp))
  | int j=>obtain⟨b,rfl⟩:=a;exact PySem.EqNone.ne_none_int (br I q (by simp))
  | str j=>obtain⟨b,rfl⟩:=a;exact PySem.EqNone.ne_none_str (br I q (by simp))
  | _=>exact absurd (show false=true from c) h5
 | bl i=>
  cases d
  cases y with
  | bx=>cases a;exact PySem.EqNone.ne_bool_none (br I q (by simp))
  | bl j=>cases a;exact ne_bool (br I q (On not Ea))
  | str j=>obtain⟨b,rfl⟩:=a;exact PySem.EqMixed.ne_bool_str (br I q (by simp))
  | _=>exact absurd (show false=true from c) h5
 | int i=>
  obtain⟨t,rfl⟩:=d
  cases y with
  | bx=>cases a;exact PySem.EqNone.ne_int_none (br I q (by simp))
  | int j=>obtain⟨b,rfl⟩:=a;exact ne_int (br I q (On not Au))
  | str j=>obtain⟨b,rfl⟩:=a;exact PySem.EqMixed.ne_int_str (br I q (by simp))
  | _=>exact absurd (show false=true from c) h5
 | str i=>
  obtain⟨t,rfl⟩:=d
  cases y with
  | bx=>cases a;exact PySem.EqNone.ne_str_none (br I q (by simp))
  | bl j=>cases a;exact PySem.EqMixed.ne_str_bool (br I q (by simp))
  | int j=>obtain⟨b,rfl⟩:=a;exact PySem.EqMixed.ne_str_int (br I q (by simp))
  | str j=>obtain⟨b,rfl⟩:=a;exact ne_str (br I q (On not Av))
  | _=>exact absurd (show false=true from c) h5
 | DA i=>
  obtain⟨t,rfl⟩:=d
  cases y with
  | DA j=>obtain⟨b,rfl⟩:=a;exact PySem.W.ne_bytes (br I q (On not Aw))
  | _=>exact absurd (show false=true from c) h5
 | _=>cases y<;>exact absurd (show false=true from c) h5
theorem gG:eP X (compareOp .Lt) (DO fun i j=>.bl (decide (i<j))):=IP fun _ _ _ _ _ _ _ q=>lt_int q
theorem og:eP X (compareOp .LtE) (DO fun i j=>.bl (decide (i<=j))):=IP fun _ _ _ _ _ _ _ q=>le_int q
theorem qY:eP X (compareOp .Gt) (DO fun i j=>.bl (decide (j<i))):=IP fun _ _ _ _ _ _ _ q=>gt_int q
theorem Le:eP X (compareOp .GtE) (DO fun i j=>.bl (decide (j<=i))):=IP fun _ _ _ _ _ _ _ q=>ge_int q
theorem qZ:eP X (compareOp .In) (fun x y H Q=>∃ i j,x=.str i/\y=.str j/\Q (.bl (!(Builtin.Str.occurrences j i 0 j.length 1).isEmpty)) H):=by
 intro a s σ H x y v u Q I c b h;obtain⟨i,j,rfl,rfl,q⟩:=h;obtain⟨t,rfl⟩:=c;obtain⟨d,rfl⟩:=b;exact in_str (br I q rfl)
theorem Nf:eP X (compareOp .Is) (fun x y H Q=>y=.bx/\Q (.bl (decide (x=.bx))) H):=by
 intro b s σ H x y v u Q I a c h;obtain⟨rfl,q⟩:=h
 cases c
 refine is_none_gen (br I q ?_)
 cases x<;>first
  | (cases a;rfl)
  | (obtain⟨t,rfl⟩:=a;rfl)
theorem IS:eP X (compareOp .IsNot) (fun x y H Q=>y=.bx/\Q (.bl (!decide (x=.bx))) H):=by
 intro b s σ H x y v u Q I a c h;obtain⟨rfl,q⟩:=h
 cases c
 refine isnot_none_gen (br I q ?_)
 cases x<;>first
  | (cases a;rfl)
  | (obtain⟨t,rfl⟩:=a;rfl)
theorem au (b:Expr)(h:op≠.In:=by decide)(h2:op≠.NotIn:=by decide):behindInMarks op b=false:=by
 have a:(op == CmpOp.In)=false:=by cases op<;>first | rfl | exact absurd rfl h
 have e2:(op == CmpOp.NotIn)=false:=by cases op<;>first | rfl | exact absurd rfl h2
 cases b<;>simp[behindInMarks,a,e2]
variable {r:R2}
theorem IT (ho:eP X (compareOp op) r)(ha:PE X a ta)(hb:PE X b tb)(hm:behindInMarks op b=false):PE X (.Compare a [op] [b] pos) (xV r ta tb):=by
 intro c s σ H Q I h;exact wpAny_Compare1 (Na ha hb I h fun v u f x y d i e g q=>ho c f σ d x y v u Q i e g q) hm
def vq (t:TE):TT:=fun σ H Q=>t σ H fun x a=>∃ k,x=.bl k/\Q k a
theorem IU (ho:eP X (compareOp op) r)(ha:PE X a ta)(hb:PE X b tb)(hm:behindInMarks op b=false):PT X (.Compare a [op] [b] pos) (vq (xV r ta tb)):=by
 intro d s σ H Q I h;refine wpAny_isTrue_Compare1 (bW (ha d s σ H _ I h) fun v n ⟨x,H1,f,t,l⟩=>bW (hb d n σ H1 _ f l) fun u q ⟨y,p,A,i,m⟩=>
  bW (ho d q σ p x y v u _ A t i m) fun c B ⟨z,o,j,w,k,e,g⟩=>?_) hm
 subst e
 cases w
 exact GM ⟨o,j,g⟩
def oh (r r':R2)(ta tb tc:TE):TE:=fun σ H Q=>ta σ H fun x H1=>tb σ H1 fun y b=>r x y b fun z a=>∃ k,z=.bl k/\
 (if k=true then tc σ a fun c d=>r' y c d Q else Q (.bl false) a)
variable {tc:TE}{op':CmpOp}{r':R2}
theorem Eb (ho:eP X (compareOp op) r)(ho':eP X (compareOp op') r')(ha:PE X a ta)(hb:PE X b tb)(hc:PE X c tc)
  (hm:lastMarks [op,op'] [b,c]=false:=by with_unfolding_all rfl):PE X (.Compare a [op,op'] [b,c] pos) (oh r r' ta tb tc):=by
 intro f s σ H Q I h;refine Compare_chain (bW (ha f s σ H _ I h) fun v p ⟨x,H1,m,t,D⟩=>chain_link (bW (hb f p σ H1 _ m D) fun u K ⟨y,G,C,g,E⟩=>
  bW (ho f K σ G x y v u _ C t g E) fun d o ⟨z,j,i,w,k,e,l⟩=>?_)) hm
 subst e
 cases w
 refine GM ?_
 cases k with
 | false=>exact ite_ff ⟨.bl false,j,i,rfl,l⟩
 | true=>exact ite_tt (chain_last (bW (hc f o σ j _ i l) fun q B ⟨J,F,A,L,n⟩=>ho' f B σ F y J u q Q A g L n))
theorem Ec (ho:eP X (compareOp op) r)(ho':eP X (compareOp op') r')(ha:PE X a ta)(hb:PE X b tb)(hc:PE X c tc)
  (hm:lastMarks [op,op'] [b,c]=false:=by with_unfolding_all rfl):PT X (.Compare a [op,op'] [b,c] pos) (vq (oh r r' ta tb tc)):=by
 intro f s σ H Q I h;refine isTrue_chain (bW (ha f s σ H _ I h) fun v q ⟨x,H1,n,w,F⟩=>test_link (bW (hb f q σ H1 _ n F) fun u P ⟨y,L,D,g,J⟩=>
  bW (ho f P σ L x y v u _ D w g J) fun d p ⟨z,j,i,A,k,e,l⟩=>?_)) hm
 subst e
 cases A
 refine GM ?_
 cases k with
 | false=>
  obtain⟨U,m,E⟩:=l
  cases m
  exact ite_ff ⟨j,i,E⟩
 | true=>
  refine ite_tt (test_last (bW (hc f p σ j _ i l) fun t C ⟨N,K,B,S,o⟩=>bW (ho' f C σ K y N u t _ B g S o) fun Y Z ⟨T,R,G,O,W,e2,M⟩=>?_));subst e2
  cases O
  exact GM ⟨R,G,M⟩
theorem lB:(sizeLine:Nat)<2 ^ 63:=by rw[sizeLine_eq];decide
theorem aU:eP X (binaryOp .Add) (fun x y H Q=>∃ i j,x=.str i/\y=.str j/\i.length+j.length<=sizeLine/\Q (.str (i++j)) H):=by
 intro a s σ H x y v u Q I d b h;obtain⟨i,j,rfl,rfl,hz,q⟩:=h;obtain⟨t,rfl⟩:=d;obtain⟨c,rfl⟩:=b;exact add_str (fun c e=>⟨.str (i++j),H,I.tok _,⟨_,rfl⟩,q⟩) hz
variable {x:V}{us:List Value}
theorem vals1 (r:Vals [x] us):∃ u,us=[u]/\RelV x u:=by
 cases r with
 | cons a b=>cases b;exact⟨_,rfl,a⟩
variable {y:V}
theorem vals2 (r:Vals [x,y] us):∃ u w',us=[u,w']/\RelV x u/\RelV y w':=by
 cases r with
 | cons a b=>
  cases b with
  | cons c d=>cases d;exact⟨_,_,rfl,a,c⟩
theorem BZ (hc:X.calm=true):bS X (.builtin "max") (fun xs H Q=>∃ i j,xs=[.int i,.int j]/\Q (.int (if j>i then j else i)) H):=by
 intro a s σ H xs c Q I r h;obtain⟨i,j,rfl,q⟩:=h;obtain⟨u,e,rfl,⟨t,rfl⟩,⟨d,rfl⟩⟩:=vals2 r;refine max_two_ints (I.ok.hd hc) fun b f k=>⟨_,H,I.kept k,?_,q⟩
 by_cases hj:j>i
 ·rw[if_pos hj,if_pos hj];exact⟨_,rfl⟩
 ·rw[if_neg hj,if_neg hj];exact⟨_,rfl⟩
theorem rf:bS X (.type "int") (fun xs H Q=>(∃ i,xs=[.int i]/\Q (.int i) H)∨∃ k,xs=[.bl k]/\Q (.int (if k then 1 else 0)) H):=by
 intro a s σ H xs c Q I r h
 rcases h with ⟨i,rfl,q⟩ | ⟨k,rfl,q⟩
 ·obtain⟨u,rfl,t,rfl⟩:=vals1 r;exact call_int_int ⟨.int i,H,I,⟨_,rfl⟩,q⟩
 ·obtain⟨u,rfl,b⟩:=vals1 r
  cases b
  exact call_int_bool ⟨.int (if k then 1 else 0),H,I.tok _,⟨_,rfl⟩,q⟩
theorem bK:bS X (.type "str") (fun xs H Q=>∃ i,xs=[.int i]/\i.natAbs.log2<1920/\Q (.str (toString i)) H):=by
 intro a s σ H xs b Q I r h;obtain⟨i,rfl,hz,q⟩:=h;obtain⟨u,rfl,t,rfl⟩:=vals1 r;exact PySem.P.str_of_int hz ⟨.str _,H,I.tok _,⟨_,rfl⟩,q⟩
structure xY (h:Heap)(x dx C:Addr)(mA:Str->Option Value):Prop where
 obj:h.get? x=some (instObj C dx)
 ns:h.Ns1 dx mA
 ne:dx≠x
variable {dx:Addr}{mA:Str->Option Value}
theorem B0 {h:Heap}(n:h.Ns1 dx mA):∃ od,h.get? dx=some od/\∀ name,lookIn name od=some (mA name):=by
 obtain⟨o,c,i,f,g,hk,_,hm⟩:=n;refine⟨o,f,fun name=>?_⟩;have e:=hm name;unfold nsFind findBy at e;rw[<-Array.find?_toList] at e;unfold lookIn;rw[g]
 dsimp only
 split
 ·rename_i y q
  rw[q] at e;exact On some e
 ·rename_i q
  rw[q] at e;have a:c.toList.any (·.refKey)=false:=by
   rw[List.any_eq_false];intro y hy;obtain⟨z,t,b⟩:=hk y (Array.mem_toList_iff.mp hy)
   simp[DictEntry.refKey,b]
  have d:¬ c.toList.any (·.refKey)=true:=by rw[a];exact h5
  rw[if_neg d];exact On some e
variable {x C:Addr}
theorem xY.look {h:Heap}(I:xY h x dx C mA):∃ od,PySem.W.InstAt h x (instObj C dx) C (some od)/\∀ name,lookIn name od=some (mA name):=
 let ⟨od,ho,hl⟩:=B0 I.ns
 ⟨od,⟨I.obj,rfl,rfl,ho⟩,hl⟩
variable {prog:Program}{w:World}{name:Str}{v:Value}
theorem get_map {expr:Bool}(X:K.In s.heap)(I:xY s.heap x dx C mA)(hg:plainGet K C name=true)(hh:hasDictIn K C=true)
  (ha:findIn K (.ref C) name=some none) (hv:mA name=some v) (hv':handedIn v=true) (h:Q v {s with toks:=s.toks+1}) :
  wpAny (model prog w) A (getAttr (.ref x) name expr) Q E s:=by
 obtain⟨b,J,a⟩:=I.look;exact PySem.W.get_value X J (plainGet_of hg).1 (PySem.W.findObj_own hh ha rfl (by rw[a,hv])) hv' h
variable {f:Addr}{pl:Sem Bool}
theorem Ed {Q:Value × List Value->Shared->Prop}(X:K.In s.heap)(I:xY s.heap x dx C mA)(hg:plainGet K C name=true)
  (hf:findIn K (.ref C) name=some (some (.ref f))) (ht:isFn K (.ref f)=true) (hv:mA name=none) (h:Q (.ref f,[.ref x]) s) :
  wpAny (model prog w) A (getMethod (.ref x) name pl) Q E s:=by
 obtain⟨b,J,a⟩:=I.look;exact PySem.W.method_fn X J (plainGet_of hg).1 (plainGet_of hg).2 hf (beq_iff_eq.mp ht) (by show (lookIn name b).map (·.isSome)=some false;rw[a,hv];rfl) h
theorem IV {ns:List Str}{Q:Unit->Shared->Prop}(X:K.In s.heap)(I:xY s.heap x dx C mA)
  (hs:findIn K (.ref C) "__setattr__"=some (some (.builtin "object.__setattr__"))) (hp:plainOver K C=true) (ht:takerIn K C name=some none) (hh:hasDictIn K C=true)
  (hw:PySem.Within mA ns) (hsz:ns.length<=sizeLine)
  (h:∀ h',xY h' x dx C (fun y=>if y=name then some v else mA y)->SameBut dx s.heap h'->Q () {s with heap:=h',toks:=s.toks+2}) :
  wpAny (model prog w) A (setAttr (.ref x) name v) Q E s:=by
 obtain⟨o,J,m⟩:=I.look;refine PySem.W.set_plain X J hs (PySem.W.osa_open (s:={s with toks:=s.toks+1}) (r:=none) X J hp ht fun b=>?_);obtain⟨n,hc,e⟩:=PySem.W.any_some hh;have hx:s.heap.get? x=some ⟨.ref C,some dx,.plain,#[]⟩:=I.obj;refine dy (gc (dy (dy (wpAny_loadPart hx (dy (PySem.W.Looks.here (s:={s with toks:=s.toks+1}) (PySem.W.looks_clsIn X hc) ?_))))));rw[e];refine gc (a:=some dx) (dy (gc (dy ?_)));refine wpAny_nsSet1 (s:={s with toks:=s.toks+1}) I.ns fun h' c d=>?_;obtain⟨p,j,l,f,i,g⟩:=c.count (PySem.Within.cons name v hw);refine dy (wpAny_lookBehind f (by rw[i];exact pastItsLine_dict (j5 g (by rw[ot];omega))) ?_)
 exact gc (h _ ⟨(d.2 _ (Ne.symm I.ne)).trans I.obj,c,I.ne⟩ d)
variable {R:Result->Shared->Prop}{kw:List (Str × Value)}
theorem Ee {vs:List Value}(X:K.In s.heap)(hm:makesIn K C=true)
  (hi:findIn K (.ref C) "__init__"=some (some (.ref f))) (hf:typeIn K (.ref f)=some (.type "function"))
  (h:codeAny (model prog w) (A.under (.builtin "type.__call__" ⟨.ref C::vs,kw⟩)) (.call (.ref f) ⟨.ref (s.heap.objs.size+1)::vs,kw⟩) (PySem.W.InitBack (s.heap.objs.size+1) R)
   {s with heap:=(s.heap.push emptyDict).push (instObj C s.heap.objs.size)}) :
  codeAny (model prog w) A (.call (.ref C) ⟨vs,kw⟩) R s:=by
 obtain⟨hh,g,d,t,b⟩:=s;exact PySem.W.make_core (PySem.W.makes_of X hm) (PySem.W.looks_findIn X hi) (fun a=>PySem.W.bind_fn X a hf) (.inl rfl) h
def dQ (f:Str)(v:V):List (Str × V)->List (Str × V)
 | []=>[(f,v)]
 | (g,x)::r=>if g=f then (g,v)::r else (g,x)::dQ f v r
theorem mF (f g:Str)(v:V):∀ fs:List (Str × V),(dQ f v fs).lookup g=if g=f then some v else fs.lookup g
 | []=>by
  show List.lookup g [(f,v)]=_
  by_cases h:g=f
  ·have hb:(g == f)=true:=beq_iff_eq.mpr h;simp only[List.lookup,hb,if_pos h]
  ·have hb:(g == f)=false:=Da.mpr h;simp only[List.lookup,hb,if_neg h]
 | (k,x)::r=>by
  have a:=mF f g v r;rw[show dQ f v ((k,x)::r)=(if k=f then (k,v)::r else (k,x)::dQ f v r) from rfl]
  by_cases hk:k=f
  ·rw[if_pos hk]
   by_cases h:g=k
   ·have hb:(g == k)=true:=beq_iff_eq.mpr h;simp only[List.lookup,hb,if_pos (h.trans hk)]
   ·have hb:(g == k)=false:=Da.mpr h;simp only[List.lookup,hb,if_neg (fun e:g=f=>h (e.trans hk.symm))]
  ·rw[if_neg hk]
   by_cases h:g=k
   ·have hb:(g == k)=true:=beq_iff_eq.mpr h;simp only[List.lookup,hb,if_neg (fun e:g=f=>hk (h.symm.trans e))]
   ·have hb:(g == k)=false:=Da.mpr h;simp only[List.lookup,hb];exact a
theorem lC (f:Str)(v:V):∀ fs:List (Str × V),f∈(dQ f v fs).map (·.1)/\∀ g,g∈fs.map (·.1)->g∈(dQ f v fs).map (·.1)
 | []=>⟨by simp[dQ],fun g h=>by simp at h⟩
 | (k,x)::r=>by
  obtain⟨a,b⟩:=lC f v r;rw[show dQ f v ((k,x)::r)=(if k=f then (k,v)::r else (k,x)::dQ f v r) from rfl]
  by_cases hk:k=f
  ·rw[if_pos hk];subst hk;exact⟨by simp,fun g h=>by simpa using h⟩
  ·rw[if_neg hk];refine⟨?_,fun g h=>?_⟩
   ·rw[pS];exact fA _ a
   ·rw[pS] at h ⊢
    rcases h9.mp h with e | e
    ·exact h9.mpr (.inl e)
    ·exact fA _ (b g e)
theorem mG (f:Str)(v:V):∀ fs:List (Str × V),(dQ f v fs).length<=fs.length+1
 | []=>by simp[dQ]
 | (k,x)::r=>by
  have a:=mG f v r;rw[show dQ f v ((k,x)::r)=(if k=f then (k,v)::r else (k,x)::dQ f v r) from rfl]
  by_cases hk:k=f
  ·rw[if_pos hk,ot,ot];omega
  ·rw[if_neg hk,ot,ot];omega
variable {o:Option Value}{v:V}
theorem iD.some_of (r:iD (some v) o):∃ u,o=some u/\RelV v u:=by
 cases o with
 | none=>exact(show False from r).elim
 | some u=>exact⟨u,rfl,r⟩
theorem iD.none_of (r:iD none o):o=none:=by
 cases o with
 | none=>rfl
 | some u=>exact(show False from r).elim
variable {u:Value}
theorem B1 (r:RelV v u):handedIn u=true:=by
 cases v with
 | bx=>cases (show u=Value.none from r);rfl
 | bl b=>cases (show u=Value.bool b from r);rfl
 | int i=>obtain⟨t,e⟩:=(show ∃ t,u=Value.int i t from r);cases e;rfl
 | str x=>obtain⟨t,e⟩:=(show ∃ t,u=Value.str x t from r);cases e;rfl
 | DA b=>obtain⟨t,e⟩:=(show ∃ t,u=Value.bytes b t from r);cases e;rfl
 | MB b=>obtain⟨t,e⟩:=(show ∃ t,u=Value.float b t from r);cases e;rfl
 | ref a=>cases (show u=Value.ref a from r);rfl
 | ty n=>cases (show u=Value.type n from r);rfl
variable {P:Program}{h:Heap}{a:Addr}{fs:List (Str × V)}
theorem nJ (bh:jQ P w H h)(e:H a=some (.ins C dx fs)):∃ mA,xY h a dx C mA/\(∀ f,iD (fs.lookup f) (mA f))/\PySem.Within mA (fs.map (·.1))/\fs.length<=1000/\H dx=some (.own a):=by
 obtain⟨d,z,ne,ob,mA,n,r,q⟩:=(show bA P w H h a (.ins C dx fs) from bh a _ e)
 exact⟨mA,⟨ob,n,ne⟩,r,q,z,d⟩
structure IW (K:Frag)(C:Addr):Prop where
 pg:plainGet K C Str.empty=true
 hd:hasDictIn K C=true
 po:plainOver K C=true
 sa:findIn K (.ref C) "__setattr__"=some (some (.builtin "object.__setattr__"))
theorem IW.get (c:IW K C)(f:Str):plainGet K C f=true:=c.pg
def oi (K:Frag)(C:Addr)(f:Str):Prop:=findIn K (.ref C) f=some none
variable {f:Str}
theorem oi.Pq (n:oi K C f):takerIn K C f=some none:=by
 unfold takerIn;rw[show findIn K (.ref C) f=some none from n]
 rfl
structure Meth (K:Frag)(C:Addr)(m:Str)(f:Addr):Prop where
 at_:findIn K (.ref C) m=some (some (.ref f))
 fn:isFn K (.ref f)=true
 kp:keepIn K (.ref f)=true
variable {b:Bool}
theorem xZ (I:Inv X pins σ H s)(e:H a=some (.ins C dx fs))(c:IW X.K C)(n:oi X.K C f)(l:fs.lookup f=some v)
  (h:∀ u s',Inv X pins σ H s'->RelV v u->Q u s'):wpAny (model X.prog X.w) A (getAttr (.ref a) f b) Q E s:=by
 obtain⟨g,O,r,_,_,_⟩:=nJ I.bh e;obtain⟨u,hu,d⟩:=iD.some_of (v:=v) (o:=g f) (by rw[<-l];exact r f)
 exact get_map I.ku O (c.get f) c.hd n hu (B1 d) (h u _ (I.tok _) d)
variable {m:Str}
theorem om {g:Addr}{Q:Value × List Value->Shared->Prop}(I:Inv X pins σ H s)(e:H a=some (.ins C dx fs))(c:IW X.K C)(k:Meth X.K C m g)(l:fs.lookup m=none)
  (h:Q (.ref g,[.ref a]) s):wpAny (model X.prog X.w) A (getMethod (.ref a) m pl) Q E s:=by
 obtain⟨b,O,r,_,_,_⟩:=nJ I.bh e;have hn:b m=none:=iD.none_of (by rw[<-l];exact r m)
 exact Ed I.ku O (c.get m) k.at_ k.fn hn h
theorem x9 {Q:Unit->Shared->Prop}(I:Inv X pins σ H s)(e:H a=some (.ins C dx fs))(c:IW X.K C)(n:oi X.K C f)(hl:fs.length<1000)(ry:RelV y u)
  (h:∀ s',Inv X pins σ (upd H a (.ins C dx (dQ f y fs))) s'->Q () s'):wpAny (model X.prog X.w) A (setAttr (.ref a) f u) Q E s:=by
 obtain⟨j,O,r,l,_,m⟩:=nJ I.bh e;have hz:(fs.map (·.1)).length<=sizeLine:=by rw[b7,sizeLine_eq];omega
 refine IV I.ku O c.sa c.po n.Pq c.hd l hz fun p d t=>h _ ?_;have i:∃ o,p.get? dx=some o:=let ⟨o,_,_,e',_⟩:=d.ns;⟨o,e'⟩;refine I.write (x:=a) (e:=dx) (by rw[e];exact True.intro) (.inr m) (fun b q hb z=>(t.2 b hb).trans z) i ?_
 refine⟨by rw[aH O.ne];exact m,?_,O.ne,d.obj,_,d.ns,fun g=>?_,fun g v=>?_⟩
 ·have:=mG f y fs;omega
 ·show iD ((dQ f y fs).lookup g) (if g=f then some u else j g)
  rw[mF]
  by_cases q:g=f
  ·rw[if_pos q,if_pos q];exact ry
  ·rw[if_neg q,if_neg q];exact r g
 ·by_cases q:g=f
  ·rw[q];exact(lC f y fs).1
  ·refine(lC f y fs).2 g (l g fun z=>v ?_);show (if g=f then some u else j g)=none
   rw[if_neg q];exact z
theorem Inv.made (I:Inv X pins σ H s):Inv X pins σ (upd (upd H s.heap.objs.size (.own (s.heap.objs.size+1))) (s.heap.objs.size+1) (.ins C s.heap.objs.size []))
  {s with heap:=(s.heap.push emptyDict).push (instObj C s.heap.objs.size)}:=by
 have c:(s.heap.push emptyDict).get? s.heap.objs.size=some emptyDict:=ih s.heap rfl;have e2:((s.heap.push emptyDict).push (instObj C s.heap.objs.size)).get? (s.heap.objs.size+1)=some (instObj C s.heap.objs.size):=by
  have:=ih (s.heap.push emptyDict) (o:=instObj C s.heap.objs.size) rfl
  rwa [IR] at this
 have d:(s.heap.push emptyDict).Ns s.heap.objs.size (fun _=>none):=⟨emptyDict,#[],_,c,rfl,(fun e he=>absurd he (by simp)),fun _=>rfl⟩
 have f:=I.laid (a:=s.heap.objs.size) (o:=.own (s.heap.objs.size+1)) (h':=s.heap.push emptyDict) (t':=s.toks) (fun b u q=>ey _ q) (ed _) ⟨_,c⟩;refine f.laid (a:=s.heap.objs.size+1) (o:=.ins C s.heap.objs.size []) (t':=s.toks) (fun b u q=>ey _ q) (Nat.le_of_eq (IR _ _)) ?_;have ne:s.heap.objs.size≠s.heap.objs.size+1:=mv (Ux _);refine⟨by rw[aH ne,ag],zero_le _,ne,e2,fun _=>none,(Heap.Ns1.of_empty d).at fun o q=>ey _ q,fun _=>True.intro,fun y hy=>absurd rfl hy⟩
variable {env:Env}
theorem IZ {pos:Pos}(hb:attributeBase e f env (eval e env)=eval e env)
  (h:wpAny (model prog w) A (eval e env) (fun o s₁=>wpAny (model prog w) A (getAttr o f true) Q E s₁) E s):wpAny (model prog w) A (eval (.Attribute e f pos) env) Q E s:=
 Attribute_any_ h (by rw[arm_eval_Attribute,hb])
end L2
namespace L2
open PySem PySem.Spec PyProof.Rows
variable {H:Hp}
inductive lD (K:Frag)(H:Hp):V->Value->Prop where
 | bx:lD K H .bx (.type "NoneType")
 | bl (x:Bool):lD K H (.bl x) (.type "bool")
 | int (i:Int):lD K H (.int i) (.type "int")
 | str (x:Str):lD K H (.str x) (.type "str")
 | MB (x:UInt64):lD K H (.MB x) (.type "float")
 | lst {a:Addr} {xs:List V} (e:H a=some (.lst xs)):lD K H (.ref a) (.type "list")
 | iW {a:Addr} {o:Obj} {xs:List V} (e:H a=some (.iW o (.lst xs))):lD K H (.ref a) (.type "list")
 | tup {a:Addr} {xs:List V} (e:H a=some (.tup xs)):lD K H (.ref a) (.type "tuple")
 | dK {a:Addr} {kvs:List (Key × V)} (e:H a=some (.dK kvs)):lD K H (.ref a) (.type "dict")
 | dT {a:Addr} {kvs:List (List Key × V)} (e:H a=some (.dT kvs)):lD K H (.ref a) (.type "dict")
 | ins {a C dx:Addr} {fs:List (Str × V)} (e:H a=some (.ins C dx fs)) (cl:IW K C) (ha:findIn K (.ref C) "__class__"=some (some (.builtin "object.__class__")))
   (hn:PySem.W.specialIn K (.builtin "object.__class__") "__get__"=some (some (.builtin "getset_descriptor.__get__"))) (htk:PySem.W.takesIn K (.builtin "object.__class__")=some true)
   (hm:mroIn K C (.type "object")=some true):lD K H (.ref a) (.ref C)
variable {X:Cx}{pins:List (Addr × Obj)}{s:Shared}{A:Around}{E Q:Value->Shared->Prop}{c:Value}{b:Bool}{σ:St}
theorem B2 {x:V}{u t:Value}(I:Inv X pins σ H s)(rx:RelV x u)(ty:lD X.K H x t)(e:kitOne X.K t c=some b)(h:∀ tk,Q (.bool b) {s with toks:=tk}) :
  wpAny (model X.prog X.w) A (call (.builtin "isinstance") [u,c]) Q E s:=by
 cases ty with
 | bx=>cases (show u=Value.none from rx);exact kia_one PySem.W.kitx_none I.ku True.intro e (fun z=>nomatch z) h
 | bl y=>cases (show u=Value.bool y from rx);exact kia_one PySem.W.kitx_bool I.ku True.intro e (fun z=>nomatch z) h
 | int i=>obtain⟨t,q⟩:=(show ∃ t,u=Value.int i t from rx);cases q;exact kia_one PySem.W.kitx_int I.ku True.intro e (fun z=>nomatch z) h
 | str y=>obtain⟨t,q⟩:=(show ∃ t,u=Value.str y t from rx);cases q;exact kia_one PySem.W.kitx_str I.ku True.intro e (fun z=>nomatch z) h
 | MB y=>obtain⟨t,q⟩:=(show ∃ t,u=Value.float y t from rx);cases q;exact kia_one PySem.W.kitx_float I.ku True.intro e (fun z=>nomatch z) h
 | @lst a g d=>
  cases (show u=Value.ref a from rx)
  obtain⟨_,_,n,_,h1⟩:=(show bA X.prog X.w H s.heap a (.lst g) from I.bh a _ d)
  exact kia_one kitx_list I.ku ⟨_,h1,rfl⟩ e (fun z=>nomatch z) h
 | @iW a ob g d=>
  cases (show u=Value.ref a from rx)
  obtain⟨_,_,_,n,_,h1⟩:=(show bA X.prog X.w H s.heap a (.iW ob (.lst g)) from I.bh a _ d)
  exact kia_one kitx_list I.ku ⟨_,h1,rfl⟩ e (fun z=>nomatch z) h
 | @tup a g d=>
  cases (show u=Value.ref a from rx)
  obtain⟨_,_,_,p⟩:=(show bA X.prog X.w H s.heap a (.tup g) from I.bh a _ d)
  obtain⟨o,h1,j,_⟩:=p;exact kia_one PySem.W.kitx_tuple I.ku ⟨o,h1,j⟩ e (fun z=>nomatch z) h
 | @dK a f d=>
  cases (show u=Value.ref a from rx)
  obtain⟨_,_,G,_,p⟩:=(show bA X.prog X.w H s.heap a (.dK f) from I.bh a _ d)
  obtain⟨o,r,B,h1,j,_⟩:=p;exact kia_one kitx_dict I.ku ⟨o,h1,j.1⟩ e (fun z=>nomatch z) h
 | @dT a f d=>
  cases (show u=Value.ref a from rx)
  obtain⟨_,_,g,_,o,r,B,h1,j,_⟩:=(show bA X.prog X.w H s.heap a (.dT f) from I.bh a _ d)
  exact kia_one kitx_dict I.ku ⟨o,h1,j.1⟩ e (fun z=>nomatch z) h
 | @ins a C F fs d m v hn l hm=>
  cases (show u=Value.ref a from rx)
  obtain⟨L,O,_⟩:=nJ I.bh d;obtain⟨D,J,_⟩:=O.look;exact kia_one (PySem.W.kitx_own (m.get _) m.hd v hn l hm) I.ku J e (fun z=>nomatch z) h
structure cB (k:Nat)(A:Around):Prop where
 hd:A.handled=none
 dp:A.depth+3*k+5<recursionLimit
 un:A.units+16*k+200<cLine
variable {j:Nat}
theorem cB.mono {k:Nat}(r:cB k A)(h:j<=k):cB j A:=⟨r.hd,by have:=r.dp;omega,by have:=r.un;omega⟩
theorem cB.deeper {k:Nat}{A:Around}(r:cB (k+1) A)(env:Env):cB k (A.deeper env):=
 ⟨r.hd,by have:=r.dp;show A.depth+1+3*k+5<_;omega,by have:=r.un;show A.units+3+16*k+200<_;omega⟩
theorem ya {C:Addr}{us:List Value}{kw:List (Str × Value)}:(A.under (.builtin "type.__call__" ⟨.ref C::us,kw⟩)).depth=A.depth+1:=by
 first | rfl | simp[Around.under,Code.weight,Code.isCreation,Code.isGuard,Code.isCaller,Code.frames,Code.isFrame,guardIds]
theorem yb {C:Addr}{us:List Value}{kw:List (Str × Value)}:(A.under (.builtin "type.__call__" ⟨.ref C::us,kw⟩)).units=A.units+1:=by
 first | rfl | simp[Around.under,Code.cUnits,Code.frames,Code.isFrame]
theorem cB.make {k:Nat}(r:cB (k+1) A)(C:Addr)(us:List Value)(kw:List (Str × Value)):cB k (A.under (.builtin "type.__call__" ⟨.ref C::us,kw⟩)):=
 ⟨r.hd,by have:=r.dp;rw[ya];omega,by have:=r.un;rw[yb];omega⟩
theorem cB.depth {k:Nat}{A:Around}(r:cB k A):A.depth<recursionLimit:=by have:=r.dp;omega
theorem cB.units {k:Nat}{A:Around}(r:cB k A):A.units+64<cLine:=by have:=r.un;omega
def sM:TA:=fun _ H Q=>Q [] H
def Ax (ta:TE)(tr:TA):TA:=fun σ H Q=>ta σ H fun x H1=>tr σ H1 fun b a=>Q (x::b) a
theorem Ng:PA X [] sM:=fun _ _ _ _ H Q I h=>Calls.spliced_nil ⟨[],H,I,.nil,h⟩
variable {e:Expr}{es:List Expr}{te:TE}{t:TA}{pos:Pos}
theorem I0 (ha:PE X e te)(hr:PA X es t)(hs:starEach (e::es) X.env=(false,eval e X.env)::starEach es X.env:=by rfl):PA X (e::es) (Ax te t):=by
 intro pos a s σ H Q I h;rw[hs];show wpAny _ _ (spliced ((false,eval e X.env)::backTo pos (starEach es X.env))) _ _ s;refine Calls.spliced_cons (bW (ha a s σ H _ I h) fun u g ⟨x,H1,b,l,d⟩=>?_);exact bW (hr pos a g σ H1 _ b d) fun n o ⟨j,i,m,c,f⟩=>⟨x::j,i,m,.cons l c,f⟩
def Ja (t:TA):TE:=fun σ H Q=>t σ H fun a H1=>a.length<=sizeLine/\∀ p,H1 p=none->Q (.ref p) (upd H1 p (.tup a))
def Jb (t:TA):TE:=fun σ H Q=>t σ H fun a H1=>a.length<=sizeLine/\∀ p,H1 p=none->Q (.ref p) (upd H1 p (.lst a))
theorem Nh {x1}(h:PA X es t):PE X (.Tuple es x1 pos) (Ja t):=by
 intro a s σ H Q I hq;refine wpAny_Tuple_spliced (bW (h pos a s σ H _ I hq) fun f c ⟨i,H1,d,r,z,q⟩=>⟨by rw[<-r.length];exact z,?_⟩)
 have g:H1 c.heap.objs.size=none:=d.bh.fresh (ed _);refine⟨.ref c.heap.objs.size,upd H1 c.heap.objs.size (.tup i),d.laid (t':=c.toks) (fun b u e=>ey _ e) (ed _) ?_,rfl,q _ g⟩;exact⟨z,f,r,⟨_,ih _ rfl,rfl,_,rfl⟩⟩
theorem Ni (h:PA X es t):PE X (.List es pos) (Jb t):=by
 intro a s σ H Q I hq;refine wpAny_List_spliced (bW (h pos a s σ H _ I hq) fun f c ⟨i,H1,d,r,z,q⟩=>⟨by rw[<-r.length];exact z,?_⟩)
 have g:H1 c.heap.objs.size=none:=d.bh.fresh (ed _);refine⟨.ref c.heap.objs.size,upd H1 c.heap.objs.size (.lst i),d.laid (t':=c.toks) (fun b u e=>ey _ e) (ed _) ?_,rfl,q _ g⟩;exact⟨z,f,0,r,ih _ rfl⟩
abbrev Sp:=List V->Hp->VK->XK->Prop
abbrev DP:=List Env->Hp->Shared->XK->Value->Shared->Prop
structure yc (P:Program)(w:World)(K:Frag)(mg:Str->Option Value)(base:Heap)(A:Around)(outer:List Env)(s:Shared)(H:Hp):Prop where
 frames:A.frames=some outer
 mod:Mod K mg base
 bs:∀ b o,base.get? b=some o->s.heap.get? b=some o/\H b=none
 K8:base.objs.size<=s.heap.objs.size
 nh:s.heap.FunFrames base outer
 OX:∀ b∈DM outer,H b=none
 bh:jQ P w H s.heap
 bare:AllBare s.gens
def CE (outer:List Env)(P:Program)(w:World)(H:Hp)(s:Shared)(Q:VK)(u:Value)(s':Shared):Prop:=
 ∃ v H',s'.os=s.os/\AllBare s'.gens/\Un (DM outer) [] H H' s.heap s'.heap/\jQ P w H' s'.heap/\RelV v u/\Q v H'
def CR (CX:DP)(outer:List Env)(P:Program)(w:World)(H:Hp)(s:Shared)(Q:VK)(E:XK)(r:Result)(s':Shared):Prop:=
 match r with
 | .ok (.ret u)=>CE outer P w H s Q u s'
 | .ok _=>False
 | .error e=>CX outer H s E e s'
structure ft (P:Program)(w:World)(K:Frag)(mg:Str->Option Value)(base:Heap)(CX:DP)(k:Nat)(f:Addr)(fd:FuncData)(ps:List Str)(sp:Sp):Prop where
 len:∀ vs H Q E,sp vs H Q E->vs.length=ps.length
 run:∀ (A:Around) (outer:List Env) (s:Shared) (H:Hp) (args:Args) (us:List Value) (vs:List V) (Q:VK) (E:XK),cB k A->yc P w K mg base A outer s H->BindsTo s fd args (ps.zip us)->Vals vs us->sp vs H Q E->
  codeAny (model P w) A (.call (.ref f) args) (CR CX outer P w H s Q E) s
variable {mg:Str->Option Value}{base:Heap}{outer:List Env}
theorem yc.make {P:Program}{w:World}{K:Frag}(e:yc P w K mg base A outer s H)(C:Addr)(us:List Value)(kw:List (Str × Value)) :
  yc P w K mg base (A.under (.builtin "type.__call__" ⟨.ref C::us,kw⟩)) outer s H:=⟨by first | exact e.frames | (simpa [Around.under,Code.envs,Code.isFrame,pushEnvs] using e.frames),e.mod,e.bs,e.K8,e.nh,e.OX,e.bh,e.bare⟩
theorem Inv.Pr (I:Inv X pins σ H s):yc X.prog X.w X.K X.mg X.base X.A X.stack s H:=
 ⟨I.ok.frames,I.ok.mod,I.bs,j5 I.ok.K8 I.sz,I.stack,I.Am,I.bh,I.bare⟩
variable {s':Shared}{Q:VK}
theorem Inv.after {u:Value}(I:Inv X pins σ H s)(h:CE X.stack X.prog X.w H s Q u s'):EP X pins σ Q u s':=by
 obtain⟨v,i,e,a,un,f,r,q⟩:=h;obtain⟨hh,g,d,t,c⟩:=s';obtain rfl:c=s.os:=e;exact⟨v,i,I.call (h':=hh) (g':=g) (d':=d) (t':=t) (ch:=[]) un f a (fun b z=>absurd z (by simp)),r,q⟩
def rh (sp:Sp)(mZ:List V)(E:XK)(t:TA):TE:=fun σ H Q=>t σ H fun a H1=>sp (a++mZ) H1 Q E
def rj (C:Addr)(m:Str)(sp:Sp)(mZ:List V)(E:XK)(ta:TE)(t:TA):TE:=fun σ H Q=>ta σ H fun x H1=>∃ a dx fs,x=.ref a/\H1 a=some (.ins C dx fs)/\fs.lookup m=none/\
 t σ H1 fun c b=>sp (x::(c++mZ)) b Q E
def mH (C:Addr)(sp:Sp)(mZ:List V)(E:XK)(t:TA):TE:=fun σ H Q=>t σ H fun b H1=>∀ x dx,H1 x=none->H1 dx=none->dx≠x->
 sp (.ref x::(b++mZ)) (upd (upd H1 dx (.own x)) x (.ins C dx [])) (fun v a=>v=.bx/\Q (.ref x) a) E
def Binds (K:Frag)(fd:FuncData)(ps:List Str)(ds:List Value):Prop:=
 ∀ (s:Shared) (us:List Value),K.In s.heap->(us++ds).length=ps.length->BindsTo s fd ⟨us,[]⟩ (ps.zip (us++ds))
variable {fd:FuncData}{ps:List Str}
theorem Binds.all {K:Frag}(h:∀ us:List Value,us.length=ps.length->bindArgs fd ⟨us,[]⟩=pure (ps.zip us)):Binds K fd ps []:=fun s us _ a=>by
 rw[Ui] at a ⊢;exact .of_eq (h us a)
def Passes (CX:DP)(X:Cx)(E:XK):Prop:=∀ (pins:List (Addr × Obj)) (σ:St) (H:Hp) (s:Shared) (e:Value) (s':Shared),Inv X pins σ H s->CX X.stack H s E e s'->X.xe e s'
variable {CX:DP}{k:Nat}{f:Addr}{sp:Sp}{mZ vs:List V}{ds:List Value}{E:XK}
theorem yd {σ:St}{us:List Value}(F:ft X.prog X.w X.K X.mg X.base CX k f fd ps sp)(hr:cB k X.A)(hb:Binds X.K fd ps ds)(hd:Vals mZ ds)(hx:Passes CX X E)
  (I:Inv X pins σ H s) (r:Vals vs us) (h:sp (vs++mZ) H Q E):wpAny (model X.prog X.w) X.A (call (.ref f) us) (EP X pins σ Q) X.xe s:=by
 have a:Vals (vs++mZ) (us++ds):=r.append hd;have c:(us++ds).length=ps.length:=by rw[<-a.length];exact F.len _ _ _ _ h
 refine wpAny_call (Ut (F.run X.A X.stack s H ⟨us,[]⟩ (us++ds) (vs++mZ) Q E hr I.Pr (hb s us I.ku c) a h) fun r b hq=>?_)
 cases r with
 | error e=>exact hx pins σ H s e b I hq
 | ok d=>
  cases d with
  | ret u=>exact I.after hq
  | next=>exact False.elim hq
  | brk=>exact False.elim hq
  | cont=>exact False.elim hq
variable {x:Str}{p:Pos}
theorem Ay (F:ft X.prog X.w X.K X.mg X.base CX k f fd ps sp)(hr:cB k X.A)(hg:Gl X x)(hm:X.mg x=some (.ref f))(hk:keepIn X.K (.ref f)=true)(hb:Binds X.K fd ps ds)(hd:Vals mZ ds)(hx:Passes CX X E)
  (ha:PA X (e::es) t) (hdb:(x == ("__debug__":Str))=false:=by decide) (he:starEach (e::es) X.env=(false,eval e X.env)::starEach es X.env:=by rfl) (hpl:(backTo pos (starEach es X.env)).any (·.1)=false:=by rfl) :
  PE X (.Call (.Name x p) (e::es) [] pos) (rh sp mZ E t):=by
 intro a s σ H Q I h;refine wpAny_Call_Name_kw (nI I hg hm ?_ hdb);refine callWith_K (h₀:=X.base) I.ok.mod.Pd hk (bW (ha pos a s σ H _ I h) fun g d ⟨c,H1,b,r,q⟩=>⟨b.ku,?_⟩) he hpl;exact yd F hr hb hd hx b r q
variable {C:Addr}{m:Str}{apos:Pos}{o:Expr}{ta:TE}
theorem Jc {pl:Sem Bool}(he:PE X o ta)(c:IW X.K C)(hm:Meth X.K C m f)(F:ft X.prog X.w X.K X.mg X.base CX k f fd ps sp)(hr:cB k X.A)(hb:Binds X.K fd ps ds)(hd:Vals mZ ds)(hx:Passes CX X E)(ha:PA X (e::es) t)
  (hst:starEach (e::es) X.env=(false,eval e X.env)::starEach es X.env:=by rfl) (hpl:(backTo pos (starEach es X.env)).any (·.1)=false:=by rfl)
  (ht:eval (.Call (.Attribute o m apos) (e::es) [] pos) X.env=(do
   let ov<-eval o X.env
   standAt apos.atName
   let (f,first)<-holding [ov] (getMethod ov m pl)
   callWith pos f first (backTo pos (starEach (e::es) X.env)) (backToKw pos (keywordEach [] X.env))):=by rfl) :
  PE X (.Call (.Attribute o m apos) (e::es) [] pos) (rj C m sp mZ E ta t):=by
 intro b s σ H Q I h;refine methodCall_KW (pl:=pl) (bW (he b s σ H _ I h) fun u j ⟨x,H1,d,p,a,y,fs,v,n,l,q⟩=>?_) ht;subst v;obtain rfl:u=Value.ref a:=p;refine om d n c hm l ?_;refine callWith_K (first:=[.ref a]) (h₀:=X.base) I.ok.mod.Pd hm.kp (bW (ha pos b j σ H1 _ d q) fun us B ⟨vs,z,g,r,i⟩=>⟨g.ku,?_⟩) hst hpl
 exact yd (us:=.ref a::us) (vs:=.ref a::vs) F hr hb hd hx g (.cons rfl r) i
theorem Ef {pl:Sem Bool}(he:PE X o ta)(c:IW X.K C)(hm:Meth X.K C m f)(F:ft X.prog X.w X.K X.mg X.base CX k f fd ps sp)(hr:cB k X.A)(hb:Binds X.K fd ps ds)(hd:Vals mZ ds)(hx:Passes CX X E)
  (ht:eval (.Call (.Attribute o m apos) [] [] pos) X.env=(do
   let ov<-eval o X.env
   standAt apos.atName
   let (f,first)<-holding [ov] (getMethod ov m pl)
   callWith pos f first (backTo pos (starEach [] X.env)) (backToKw pos (keywordEach [] X.env))):=by rfl) :
  PE X (.Call (.Attribute o m apos) [] [] pos) (rj C m sp mZ E ta sM):=by
 intro b s σ H Q I h;refine methodCall_KW (pl:=pl) (bW (he b s σ H _ I h) fun u n ⟨x,H1,d,g,a,j,fs,i,e,l,q⟩=>?_) ht;subst i;obtain rfl:u=Value.ref a:=g;refine om d e c hm l ?_;exact callWith_K0 (first:=[.ref a]) d.ku hm.kp (yd (us:=[.ref a]) (vs:=[.ref a]) F hr hb hd hx d (.cons rfl .nil) q)
structure Mk (K:Frag)(C f:Addr):Prop where
 makes:makesIn K C=true
 init:findIn K (.ref C) "__init__"=some (some (.ref f))
 fn:isFn K (.ref f)=true
 kp:keepIn K (.ref C)=true
theorem vt {σ:St}{us:List Value}(M:Mk X.K C f)(F:ft X.prog X.w X.K X.mg X.base CX k f fd ps sp)(hr:cB (k+1) X.A)(hb:Binds X.K fd ps ds)(hd:Vals mZ ds)
  (hx:Passes CX X E) (I:Inv X pins σ H s) (r:Vals vs us)
  (h:∀ x dx,H x=none->H dx=none->dx≠x->sp (.ref x::(vs++mZ)) (upd (upd H dx (.own x)) x (.ins C dx [])) (fun v H2=>v=.bx/\Q (.ref x) H2) E) :
  wpAny (model X.prog X.w) X.A (call (.ref C) us) (EP X pins σ Q) X.xe s:=by
 have hq:=h (s.heap.objs.size+1) s.heap.objs.size (I.bh.fresh (le_succ _)) (I.bh.fresh (ed _)) (mv (Ux _));have b:=Inv.made (C:=C) I;have c:Vals (V.ref (s.heap.objs.size+1)::(vs++mZ)) (Value.ref (s.heap.objs.size+1)::(us++ds)):=.cons rfl (r.append hd);have o:(Value.ref (s.heap.objs.size+1)::us++ds).length=ps.length:=by
  have e:=c.length;rw[F.len _ _ _ _ hq] at e;exact e.symm
 refine wpAny_call (Ee (f:=f) I.ku M.makes M.init (beq_iff_eq.mp M.fn) (Ut (F.run _ X.stack _ _ ⟨Value.ref (s.heap.objs.size+1)::us,[]⟩ (Value.ref (s.heap.objs.size+1)::(us++ds)) _ _ E (hr.make C us [])
  (b.Pr.make C us []) (hb _ (Value.ref (s.heap.objs.size+1)::us) b.ku o) c hq) fun r d a=>?_))
 cases r with
 | error e=>exact hx pins σ _ _ e d b a
 | ok l=>
  cases l with
  | ret u=>
   obtain⟨v,j,i,n,m,g⟩:=b.after a;subst m;exact⟨n,⟨V.ref (s.heap.objs.size+1),j,i,rfl,g⟩⟩
  | next=>exact False.elim a
  | brk=>exact False.elim a
  | cont=>exact False.elim a
theorem Az (M:Mk X.K C f)(F:ft X.prog X.w X.K X.mg X.base CX k f fd ps sp)(hr:cB (k+1) X.A)(hg:Gl X x)(hm:X.mg x=some (.ref C))(hb:Binds X.K fd ps ds)(hd:Vals mZ ds)(hx:Passes CX X E)
  (ha:PA X (e::es) t) (hdb:(x == ("__debug__":Str))=false:=by decide) (he:starEach (e::es) X.env=(false,eval e X.env)::starEach es X.env:=by rfl) (hpl:(backTo pos (starEach es X.env)).any (·.1)=false:=by rfl) :
  PE X (.Call (.Name x p) (e::es) [] pos) (mH C sp mZ E t):=by
 intro a s σ H Q I h;refine wpAny_Call_Name_kw (nI I hg hm ?_ hdb);refine callWith_K (h₀:=X.base) I.ok.mod.Pd M.kp (bW (ha pos a s σ H _ I h) fun g d ⟨c,H1,b,r,q⟩=>⟨b.ku,?_⟩) he hpl;exact vt M F hr hb hd hx b r q
theorem Eg (M:Mk X.K C f)(F:ft X.prog X.w X.K X.mg X.base CX k f fd ps sp)(hr:cB (k+1) X.A)(hg:Gl X x)(hm:X.mg x=some (.ref C))(hb:Binds X.K fd ps ds)(hd:Vals mZ ds)(hx:Passes CX X E)
  (hdb:(x == ("__debug__":Str))=false:=by decide):PE X (.Call (.Name x p) [] [] pos) (mH C sp mZ E sM):=by
 intro a s σ H Q I h;refine wpAny_Call_Name_kw (nI I hg hm ?_ hdb);exact callWith_K0 I.ku M.kp (vt (us:=[]) M F hr hb hd hx I .nil h)
variable {ks:List Str}
structure Nj (K:Frag)(fd:FuncData)(ps ks:List Str)(g:List Value->List Value->List Value)(gV:List V->List V->List V):Prop where
 to:∀ (s:Shared) (us ws:List Value),K.In s.heap->(g us ws).length=ps.length->BindsTo s fd ⟨us,ks.zip ws⟩ (ps.zip (g us ws))
 rel:∀ {vs:List V} {us:List Value} {zs:List V} {ws:List Value},Vals vs us->Vals zs ws->Vals (gV vs zs) (g us ws)
structure kB (N P:List Str)(sc:Scope):Prop where
 kind:sc.kind=.function
 co:sc.isCoroutine=false
 gen:sc.isGenerator=false
 nd:N.Nodup
 pre:N.take P.length=P
 par:∀ x∈P,sc.names.lookup x=some .local∨sc.names.lookup x=some .cell
 OV:∀ y∈sc.names,y.2≠.free
theorem rk {kindOf:Str->Option NameKind}{x:Str}:∀ {binds:List (Str × Value)} {m:Str->Option Value},(∀ v,(x,v)∉binds)->bindL kindOf binds m x=m x
 | [],_,_=>rfl
 | (n,v)::r,m,h=>by
  unfold bindL;rw[rk fun w a=>h w (fA _ a)]
  split
  ·have:x≠n:=by rintro rfl;exact h v fO
   simp[this]
  ·rfl
theorem rn {kindOf:Str->Option NameKind}{x:Str}:∀ {binds:List (Str × Value)} {m:Str->Option Value},(∀ v,(x,v)∉binds)->bindC kindOf binds m x=m x
 | [],_,_=>rfl
 | (n,v)::r,m,h=>by
  unfold bindC;rw[rn fun w a=>h w (fA _ a)]
  split
  ·rfl
  ·have:x≠n:=by rintro rfl;exact h v fO
   simp[this]
theorem rq {kindOf:Str->Option NameKind}{x:Str}{v:Value}:∀ {P:List Str} {vs:List Value} {i:Nat} {m:Str->Option Value},P.Nodup->P[i]?=some x->vs[i]?=some v->kindOf x=some .local->
  bindL kindOf (P.zip vs) m x=some v
 | [],_,_,_,_,h,_,_=>by simp at h
 | _::_,[],_,_,_,_,h,_=>by simp at h
 | p::P,w::vs,0,m,b,h1,a,hk=>by
  simp at h1 a;subst h1;subst a
  show bindL kindOf ((p,w)::P.zip vs) m p=_;unfold bindL;rw[rk fun v c=>(A6.mp b).1 (List.of_mem_zip c).1,if_pos hk]
  simp
 | p::P,w::vs,i+1,m,b,h1,a,hk=>by
  show bindL kindOf ((p,w)::P.zip vs) m x=_;unfold bindL;exact rq (i:=i) (A6.mp b).2 (by simpa using h1) (by simpa using a) hk
theorem rz {kindOf:Str->Option NameKind}{x:Str}{v:Value}:∀ {P:List Str} {vs:List Value} {i:Nat} {m:Str->Option Value},P.Nodup->P[i]?=some x->vs[i]?=some v->kindOf x≠some .local->
  bindC kindOf (P.zip vs) m x=some v
 | [],_,_,_,_,h,_,_=>by simp at h
 | _::_,[],_,_,_,_,h,_=>by simp at h
 | p::P,w::vs,0,m,b,h1,a,hk=>by
  simp at h1 a;subst h1;subst a
  show bindC kindOf ((p,w)::P.zip vs) m p=_;unfold bindC;rw[rn fun v c=>(A6.mp b).1 (List.of_mem_zip c).1,if_neg hk]
  simp
 | p::P,w::vs,i+1,m,b,h1,a,hk=>by
  show bindC kindOf ((p,w)::P.zip vs) m x=_;unfold bindC;exact rz (i:=i) (A6.mp b).2 (by simpa using h1) (by simpa using a) hk
def start (N:List Str)(vs:List V):St:=vs.map some++List.replicate (N.length - vs.length) none
def vw (CX:DP)(P:Program)(w:World)(K:Frag)(mg:Str->Option Value)(base:Heap)(N:List Str)(qual:Str)(scope:Scope)(f:Addr)(cd:Value)(A:Around)(outer:List Env)(s:Shared)(H:Hp)(E:XK):Cx where
 prog:=P
 w:=w
 K:=K
 mg:=mg
 base:=base
 A:=A.deeper (envOfC qual scope s.heap.objs.size f cd)
 N:=N
 s₀:=s
 H₀:=H
 env:=envOfC qual scope s.heap.objs.size f cd
 outer:=outer
 stack:=envOfC qual scope s.heap.objs.size f cd::outer
 ex:=[]
 calm:=true
 fn:=fun _=>true
 pn:=[]
 xe:=fun e b=>wpAny (model P w) (A.deeper (envOfC qual scope s.heap.objs.size f cd)) (leaving (envOfC qual scope s.heap.objs.size f cd) e) (fun _ a=>CX outer H s E e a) (fun c a=>CX outer H s E c a) b
variable {sc:Scope}
theorem vx {n:Nat}(h:sc.names.lookup x=some .cell):∃ c,(cellsFrom n sc.names []).lookup x=some c:=by
 have q:=cellsFrom_some sc.names n [] (.inl h);exact Option.isSome_iff_exists.mp q
variable {qual:Str}{scope:Scope}
theorem B3 {P:Program}{w:World}{K:Frag}{N:List Str}{cd:Value}{s1:Shared}{us:List Value} 
  (S:kB N ps scope) (hd:A.handled=none) (e0:yc P w K mg base A outer s H) (hl:vs.length=ps.length) (r:Vals vs us)
  (x:InCallC s s.heap.objs.size (bindL (envOfC qual scope s.heap.objs.size f cd).kindOf (ps.zip us) fun _=>none) (cellsFrom (s.heap.objs.size+1) scope.names []) (bindC (envOfC qual scope s.heap.objs.size f cd).kindOf (ps.zip us) fun _=>none) s1) :
  Inv (vw CX P w K mg base N qual scope f cd A outer s H E) [] (start N vs) H s1:=by
 have m:ps.length<=N.length:=by have:=On List.length S.pre;rw[xx] at this;omega
 obtain⟨h1,B,rfl,hk⟩:=x.done;have g:∀ b:Addr,b∉(vw CX P w K mg base N qual scope f cd A outer s H E).ex:=fun b z=>absurd (show b∈([]:List Addr) from z) (by simp)
 refine⟨⟨e0.mod,S.kind,rfl,rfl,ed _,fun y z c h1 d=>?_,fun y hy=>?_,fun y c _ h=>?_,fun _=>hd,Around.frames_deeper e0.frames,.inr ⟨rfl,rfl⟩,fun b z=>absurd z (g b),e0.bs,e0.K8,fun b _ _=>g b,fun b z=>absurd z (g b),e0.nh,e0.OX⟩,
  rfl,e0.bare,Un.kept hk,⟨_,x.toInCall.ns,fun i y v h1 d C=>?_⟩,fun y c h=>⟨_,x.cell y c h⟩,e0.bh.fresh (ed _),fun y c h=>?_,fun p j=>absurd (show p∈([]:List (Addr × Obj)) from j) (by simp),e0.bh.kept hk,?_⟩
 ·exact name_of_addr x.apart (KF h1) (KF d)
 ·have hy:scope.names.lookup y=some .cell∨scope.names.lookup y=some .free:=hy
  rcases hy with hy | hy
  ·exact vx hy
  ·exact absurd rfl (S.OV _ (KF hy))
 ·exact Nat.le_of_lt (x.above y c (KF h))
 ·have hi:i<vs.length:=by
   unfold start at d
   by_cases hi:i<vs.length
   ·exact hi
   ·rw[BN (by simpa using hi)] at d
    rw[List.getElem?_replicate] at d
    split at d<;>cases d
  have t:vs[i]?=some v:=by
   unfold start at d;rw[FM (by simpa using hi),eG] at d
   cases e:vs[i]? with
   | none=>rw[e] at d;cases d
   | some a=>rw[e] at d;cases d;rfl
  obtain⟨u,hu,o⟩:=r.get t;have j:ps[i]?=some y:=by
   rw[<-S.pre,List.getElem?_take_of_lt (by omega)];exact h1
  have l:ps.Nodup:=by rw[<-S.pre];exact S.nd.sublist (take_sublist _ _)
  refine⟨u,o,?_⟩
  rcases S.par y (hO j) with k | k
  ·exact .inl ⟨k,rq l j hu k⟩
  ·obtain⟨c,e⟩:=vx (n:=s.heap.objs.size+1) k;refine .inr ⟨.inl k,c,e,?_⟩;have q:=x.cell y c e;rw[rz l j hu (by show scope.names.lookup y≠_;rw[k];decide)] at q
   exact q
 ·exact e0.bh.fresh (Nat.le_of_lt (x.above y c (KF h)))
 ·unfold start;show _=N.length;rw[fz,b7,length_replicate]
  omega
variable {doc pm cU oc:Value}{an od:Option Addr}{osl:Array (Option Value)}
theorem Eh {P:Program}{w:World}{K:Frag}{k:Nat}{name:Str}{params:Arguments}{body:List Stmt}{dV kV ct:Value} 
  {N:List Str} (lk:K.lookup f=some ⟨oc,od,.func (fnOf name qual params body scope dV kV doc pm an cU ct),osl⟩) (hcd:codeIn K cU qual=true) (S:kB N ps scope)
  (len:∀ vs H Q E,sp vs H Q E->vs.length=ps.length)
  (eY:∀ (A:Around) (outer:List Env) (s:Shared) (H:Hp) (vs:List V) (Q:VK) (E:XK),cB k (A.deeper (envOfC qual scope s.heap.objs.size f cU))->sp vs H Q E->
   ∃ t,xK (vw CX P w K mg base N qual scope f cU A outer s H E) body t/\t {nx:=fun _ H'=>Q .bx H',rt:=Q} (start N vs) H) :
  ft P w K mg base CX (k+1) f (fnOf name qual params body scope dV kV doc pm an cU ct) ps sp:=by
 refine⟨len,fun A outer s H B G vs Q E p g hb r h=>?_⟩;have M:=len _ _ _ _ h;have C:K.In s.heap:=g.mod.Pd.keeps fun b o e=>(g.bs b o e).1;have m:s.heap.NoLimit:=g.mod.nolimit.keeps fun b o e=>(g.bs b o e).1;have a:∀ y∈ps.zip G,scope.names.lookup y.1=some .local∨(scope.names.lookup y.1=some .cell/\((cellsFrom (s.heap.objs.size+1) scope.names []).lookup y.1).isSome=true):=fun ⟨n,v⟩ hy=>by
  rcases S.par n (List.of_mem_zip hy).1 with q | q
  ·exact .inl q
  ·exact .inr ⟨q,cellsFrom_some _ _ _ (.inl q)⟩
 refine codeAny_call_function p.depth (C _ _ lk) rfl S.co S.gen rfl (PySem.W.codeRec_of C hcd) (hb _ _ _ _ ?_);refine wpAny_newFunctionEnv_cells S.kind a fun F he z x=>?_;subst he;refine⟨m.keeps x.toInCall.keep,codeAny_func ?_⟩;obtain⟨t,L,hq⟩:=eY A outer s H vs Q E (p.deeper _) h;have I:Inv (vw CX P w K mg base N qual scope f cU A outer s H E) [] (start N vs) H z:=B3 S p.hd g M r x;refine FS (L [] z (start N vs) H _ I hq) (fun D j c=>?_) fun e j c=>c;have d:∀ {i:St} {H':Hp} {v:V} {u:Value},Inv (vw CX P w K mg base N qual scope f cU A outer s H E) [] i H' j->RelV v u->Q v H'->CE outer P w H s Q u j:=
  fun {i H' v u} J l q=>⟨v,H',J.os,J.bare,J.base,J.bh,l,q⟩
 cases D with
 | ret u=>
  obtain⟨v,i,H',J,l,q⟩:=c;exact d J l q
 | next=>
  obtain⟨i,H',J,q⟩:=c;exact d (v:=V.bx) (u:=Value.none) J rfl q
 | brk=>
  obtain⟨_,_,_,q⟩:=c;exact False.elim q
 | cont=>
  obtain⟨_,_,_,q⟩:=c;exact False.elim q
def Nk (r:List V->Hp->VK->Prop)(t:TA):TE:=fun σ H Q=>t σ H fun a H1=>r a H1 Q
variable {id:String}{r:List V->Hp->VK->Prop}
theorem Ei (hc:bS X (.builtin id) r)(hg:Gl X x)(hm:X.mg x=none)(hv:bootBuiltins x=some (.builtin id))(ha:PA X (e::es) t)(hn:x≠"__name__":=by decide)(hdb:(x == ("__debug__":Str))=false:=by decide)
  (he:starEach (e::es) X.env=(false,eval e X.env)::starEach es X.env:=by rfl) (hpl:(backTo pos (starEach es X.env)).any (·.1)=false:=by rfl):PE X (.Call (.Name x p) (e::es) [] pos) (Nk r t):=by
 intro a s σ H Q I h;refine wpAny_Call_Name_kw (iE I hg hm hv ?_ hn hdb);exact PyProof.Rows.callWith_builtin1 (bW (ha pos a s σ H _ I h) fun i g ⟨c,H1,b,d,f⟩=>hc a g σ H1 c i Q b d f) he hpl
variable {T:String}
theorem B4 (hc:bS X (.type T) r)(hg:Gl X x)(hm:X.mg x=none)(hv:bootBuiltins x=some (.type T))(ha:PA X (e::es) t)(hn:x≠"__name__":=by decide)(hdb:(x == ("__debug__":Str))=false:=by decide)
  (he:starEach (e::es) X.env=(false,eval e X.env)::starEach es X.env:=by rfl) (hpl:(backTo pos (starEach es X.env)).any (·.1)=false:=by rfl):PE X (.Call (.Name x p) (e::es) [] pos) (Nk r t):=by
 intro a s σ H Q I h;refine wpAny_Call_Name_kw (iE I hg hm hv ?_ hn hdb);exact GT (bW (ha pos a s σ H _ I h) fun i g ⟨c,H1,b,d,f⟩=>hc a g σ H1 c i Q b d f) he hpl
end L2
namespace HT
open PySem PyProof.Rows PySem.SeqAt
open PySem.AutoSeq1 (wpAny_loadPart')
variable {prog:Program}{w:World}{A:Around}{E:Value->Shared->Prop}{s:Shared}{t:Addr}{vs:List Value}
theorem Jd {b:Addr}{ws:List Value}{Q:Value->Shared->Prop}(ht:IsTup s.heap t vs.toArray)(hb:IsTup s.heap b ws.toArray)(hv:vs≠[])
  (h1:ws=[]->Q (.ref t) s) (h2:ws≠[]->Q (.ref s.heap.objs.size) {s with heap:=s.heap.push {cls:=.type "tuple",data:=.seq (vs++ws).toArray}})
  (hsz:vs.length+ws.length<=sizeLine):wpAny (model prog w) A (binaryOp .Add (.ref t) (.ref b)) Q E s:=by
 obtain⟨⟨cls,m,data,o⟩,h,hc,n,q⟩:=id ht;obtain⟨⟨l,c,j,f⟩,a,g,p,d⟩:=id hb
 simp only at hc q g d
 subst hc q g d;have e:vs.toArray++ws.toArray=(vs++ws).toArray:=by simp
 by_cases i:ws=[]
 ·exact concat_meets ⟨_,h,rfl⟩ ⟨_,a,rfl⟩ noFill_tuple_add seq_tuple_add slot_tuple_add entry_tuple_add (args_tuple_add_2 _ _)
   (tuple_addW1 t b vs.toArray ws.toArray n p m c o f (by simpa using hv) (by simp[i])) ⟨h,a,h1 i⟩
 ·refine concat_meets ⟨_,h,rfl⟩ ⟨_,a,rfl⟩ noFill_tuple_add seq_tuple_add slot_tuple_add entry_tuple_add (args_tuple_add_2 _ _)
   (tuple_addW2 t b vs.toArray ws.toArray n p m c o f (by simpa using hv) (by simpa using i) (by rw[List.size_toArray,List.size_toArray];exact hsz)) ⟨h,a,?_⟩
  rw[e];exact h2 i
def eU (n d:Nat):Option Int->Nat
 | none=>d
 | some v=>if v<0 then (v+(n:Int)).toNat else min v.toNat n
theorem kC (n d:Nat):eU n d none=d:=rfl
theorem js (n d k:Nat):eU n d (some (k:Int))=min k n:=by
 show (if (k:Int)<0 then ((k:Int)+(n:Int)).toNat else min (k:Int).toNat n)=min k n
 rw[if_neg (by omega),toNat_natCast]
theorem Nl (n d:Nat)(hd:d<=n)(o:Option Int):eU n d o<=n:=by
 cases o with
 | none=>exact hd
 | some v=>
  show (if v<0 then (v+(n:Int)).toNat else min v.toNat n)<=n
  by_cases a:v<0
  ·rw[if_pos a];omega
  ·rw[if_neg a];exact Nat.min_le_right _ _
theorem AA (v:Int)(n d:Nat):(if v<0 then max (v+(n:Int)) 0 else min v (n:Int))=((eU n d (some v):Nat):Int):=by
 show (if v<0 then max (v+(n:Int)) 0 else min v (n:Int))=(((if v<0 then (v+(n:Int)).toNat else min v.toNat n):Nat):Int)
 by_cases a:v<0
 ·simp only[if_pos a];omega
 ·simp only[if_neg a];omega
theorem ye (lo hi:Option Int)(n:Nat):Builtin.Slice.sliceAdjust lo hi 1 (n:Int)=(((eU n 0 lo:Nat):Int),((eU n n hi:Nat):Int)):=by
 have h1:¬ ((1:Int)<0):=by omega
 unfold Builtin.Slice.sliceAdjust;simp only[h1,if_false];refine Prod.ext ?_ ?_
 ·cases lo with
  | none=>rfl
  | some v=>exact AA v n 0
 ·cases hi with
  | none=>rfl
  | some v=>exact AA v n n
theorem yf (i j:Nat):Builtin.Slice.slicePlaces (i:Int) (j:Int) 1=j - i:=by
 unfold Builtin.Slice.slicePlaces;have h1:(1:Int)>0:=by omega
 simp only[h1,if_true,Int.ediv_one]
 split<;>omega
variable {v:Value}
theorem oo {o:Option Int}{Q:Option Int->Shared->Prop}(p:IsPart v o)(h:Q o s):wpAny (model prog w) A (Builtin.Slice.slicePartIndex v) Q E s:=by
 cases p with
 | none=>exact slicePart_none h
 | int i t=>exact slicePart_int h
variable {lo:Option Int}{sl:Addr}{vl vu:Value}
theorem lE {hi:Option Int}{n:Nat}{Q:Int × Int × Nat->Shared->Prop}(hs:s.heap.IsSliceOf sl vl vu .none)(pl:IsPart vl lo)(pu:IsPart vu hi)
  (h:Q (((eU n 0 lo:Nat):Int),1,eU n n hi - eU n 0 lo) s):wpAny (model prog w) A (Builtin.Slice.sliceApplied (.ref sl) (pure (n:Int))) Q E s:=by
 obtain⟨d,a,c,b⟩:=id hs;unfold Builtin.Slice.sliceApplied Builtin.Slice.sliceFields;refine wpAny_bind (wpAny_bind (wpAny_field a b (x:=vl) rfl (wpAny_bind (wpAny_field a b (x:=vu) rfl (wpAny_bind (wpAny_field a b (x:=.none) rfl (wpAny_pure ?_)))))));refine wpAny_bind (slicePart_none ?_);show wpAny _ _ (if ((1:Int) == 0)=true then _ else _) _ _ s
 rw[if_neg (by decide)]
 refine wpAny_bind (oo pl (wpAny_bind (oo pu (wpAny_bind (wpAny_pure ?_)))));show wpAny _ _ (match Builtin.Slice.sliceAdjust lo hi 1 (n:Int) with | (lo,hi)=>pure (lo,(1:Int),Builtin.Slice.slicePlaces lo hi 1)) _ _ s
 rw[ye lo hi n];show wpAny _ _ (pure (((eU n 0 lo:Nat):Int),(1:Int),Builtin.Slice.slicePlaces ((eU n 0 lo:Nat):Int) ((eU n n hi:Nat):Int) 1)) _ _ s;rw[yf];exact wpAny_pure h
theorem Ej (xs:Array Value)(i k:Nat):((List.range k).filterMap fun (m:Nat)=>xs[((i:Int)+(m:Int)*1).toNat]?).toArray=((xs.toList.drop i).take k).toArray:=by
 have e:(fun (m:Nat)=>xs[((i:Int)+(m:Int)*1).toNat]?)=fun m=>xs[i+m]?:=by
  funext m
  have:((i:Int)+(m:Int)*1).toNat=i+m:=by omega
  rw[this]
 rw[e]
 have:=pick_run xs i k
 rw[List.filterMap_map] at this;have e2:((fun x=>xs[x]?) ∘ fun x=>i+x)=fun m=>xs[i+m]?:=rfl;rw[e2] at this;rw[this]
variable {Q:Value->Shared->Prop}{items:Array Value}
theorem kD {hi:Option Int}(ht:IsTup s.heap t items)(hs:s.heap.IsSliceOf sl vl vu .none)(pl:IsPart vl lo)(pu:IsPart vu hi)
  (hw:¬ (eU items.size 0 lo=0/\eU items.size items.size hi=items.size))
  (h:Q (.ref s.heap.objs.size) {s with heap:=s.heap.push {cls:=.type "tuple",data:=.seq ((items.toList.drop (eU items.size 0 lo)).take (eU items.size items.size hi - eU items.size 0 lo)).toArray}})
  (hsz:items.size<=sizeLine):wpAny (model prog w) A (getItem (.ref t) (.ref sl)) Q E s:=by
 have a:sizeOk (.seq ((items.toList.drop (eU items.size 0 lo)).take (eU items.size items.size hi - eU items.size 0 lo)).toArray):=by
  show ((items.toList.drop (eU items.size 0 lo)).take (eU items.size items.size hi - eU items.size 0 lo)).toArray.size<=sizeLine;rw[List.size_toArray,length_take,length_drop,Array.length_toList]
  omega
 have hj:eU items.size items.size hi<=items.size:=Nl _ _ (Nat.le_refl _) hi;obtain⟨f,e,b,g⟩:=id hs;have c:s.TypeIs (.ref sl) "slice":=⟨f,e,b⟩;unfold getItem
 try with_reducible refine wpAny_holding ?_
 first | refine wpAny_bind (wpAny_pure ?_) | skip
 refine wpAny_bind (wpAny_sequenceKey ht.typeIs (by decide) ?_)
 refine wpAny_bind (wpAny_callSpecial?_slot (name:=Str.ofString "__getitem__") ht.typeIs PyProof.Rows.slot_tuple_getitem
  (wpAny_call_entry PyProof.Rows.slot_tuple_getitem ht.typeIs entry_tuple_getitem ?_ (args_tuple_getitem _ _)))
 show wpAny _ _ (Builtin.Tuple.tupleItemsOf (.ref t) >>= _) _ _ s;refine wpAny_bind (tupleItemsOf_ ht ?_);refine wpAny_bind (wpAny_typeOf c ?_);rw[if_pos (by decide)]
 refine wpAny_bind (lE hs pl pu ?_);have d:¬ ((((eU items.size 0 lo:Nat):Int) == 0&&(1:Int) == 1&&(eU items.size items.size hi - eU items.size 0 lo) == items.size)=true):=by
  intro q;rw[Bool.and_eq_true,Bool.and_eq_true] at q;have i:((eU items.size 0 lo:Nat):Int)=0:=eq_of_beq q.1.1;have j:eU items.size items.size hi - eU items.size 0 lo=items.size:=eq_of_beq q.2;exact hw ⟨by omega,by omega⟩
 show wpAny _ _ (if (((eU items.size 0 lo:Nat):Int) == 0&&(1:Int) == 1&&(eU items.size items.size hi - eU items.size 0 lo) == items.size)=true then _ else _) _ _ s
 rw[if_neg d,Ej]
 first
  | exact wpAny_bind (m:=Builtin.Tuple.tupleExact _) (wpAny_newObj_type (wpAny_pure ⟨_,rfl,wpAny_pure h⟩) a)
  | exact wpAny_bind (m:=Builtin.Tuple.tupleExact _) (wpAny_newObj_type (wpAny_bind (wpAny_pure (wpAny_pure ⟨_,rfl,wpAny_pure h⟩))) a)
  | exact wpAny_bind (wpAny_bind (m:=Builtin.Tuple.tupleExact _) (wpAny_newObj_type (wpAny_pure (wpAny_pure ⟨_,rfl,wpAny_pure h⟩)) a))
  | exact wpAny_bind (wpAny_bind (m:=Builtin.Tuple.tupleExact _) (wpAny_newObj_type (wpAny_pure ⟨_,rfl,wpAny_pure h⟩) a))
end HT
namespace L2
open PySem PySem.Spec PyProof.Rows
abbrev TO:=St->Hp->(Option Int->Hp->Prop)->Prop
def PO (X:Cx)(e:Option Expr)(t:TO):Prop:=
 ∀ (pins:List (Addr × Obj)) (s:Shared) (σ:St) (H:Hp) (Q:Option Int->Hp->Prop),Inv X pins σ H s->t σ H Q->
  wpAny (model X.prog X.w) X.A (evalPart e X.env) (fun u a=>∃ o H',Inv X pins σ H' a/\IsPart u o/\Q o H') X.xe s
def sN:TO:=fun _ H Q=>Q none H
def Ek (t:TE):TO:=fun σ H Q=>t σ H fun x H1=>∃ i,x=.int i/\Q (some i) H1
variable {ns:List Int}
theorem intsAre_of:∀ {us:List Value},Vals (ns.map V.int) us->IntsAre us ns:=by
 induction ns with
 | nil=>intro us r;rw[map_nil] at r;cases r;exact .nil
 | cons n ns a=>
  intro us r;rw[pS] at r
  cases r with
  | cons b c=>
   obtain⟨t,e⟩:=b;subst e;exact .cons n t (a c)
variable {X:Cx}
theorem Je:PO X none sN:=by
 intro a s σ H Q I h;rw[evalPart_none];exact gc ⟨none,H,I,.none,h⟩
variable {e:Expr}{te:TE}
theorem Jf (h:PE X e te):PO X (some e) (Ek te):=by
 intro a s σ H Q I d;rw[evalPart_some];refine bW (h a s σ H _ I d) fun u g ⟨x,H1,b,f,c⟩=>?_;obtain⟨i,rfl,q⟩:=c;obtain⟨t,rfl⟩:=f;exact⟨some i,H1,b,.int i t,q⟩
variable {lo hi:Option Expr}
def Nm (X:Cx)(r:V->Option Int->Option Int->Hp->VK->Prop):Prop:=
 ∀ (pins:List (Addr × Obj)) (s:Shared) (σ:St) (H:Hp) (x:V) (v vl vu:Value) (lo hi:Option Int) (sl:Addr) (Q:VK),Inv X pins σ H s->RelV x v->s.heap.IsSliceOf sl vl vu .none->IsPart vl lo->IsPart vu hi->r x lo hi H Q->
  ∃ T id,typeLookup (.type T) "__getitem__"=pure (some (.builtin id))/\s.TypeIs v T/\wpAny (model X.prog X.w) X.A (getItem v (.ref sl)) (EP X pins σ Q) X.xe s
def Sn (r:V->Option Int->Option Int->Hp->VK->Prop)(te:TE)(tl th:TO):TE:=fun σ H Q=>te σ H fun x H1=>tl σ H1 fun l b=>th σ b fun u a=>r x l u a Q
variable {pos p2:Pos}{tl:TO}{th:TO}
theorem El {r:V->Option Int->Option Int->Hp->VK->Prop}(hr:Nm X r)(he:PE X e te)(hl:PO X lo tl)(hu:PO X hi th):PE X (.Subscript e (.Slice lo hi none p2) pos) (Sn r te tl th):=by
 intro a s σ H Q I h;refine Subscript_ (bW (he a s σ H _ I h) fun v t ⟨x,H1,i,E,n⟩=>?_);refine wpAny_Slice (bW (hl a t σ H1 _ i n) fun d D ⟨l,B,J,C,o⟩=>bW (hu a D σ B _ J o) fun f c ⟨u,g,m,p,j⟩=>?_);rw[evalPart_none];refine gc ?_;have G:Inv X a σ g {c with heap:=c.heap.push {cls:=.type "slice",data:=.fields #[d,f,.none]}}:=m.kept (t':=c.toks) fun b ob q=>ey _ q;obtain⟨T,id,z,y,F⟩:=hr a {c with heap:=c.heap.push {cls:=.type "slice",data:=.fields #[d,f,.none]}} σ g x v d f l u c.heap.objs.size Q G E (Heap.IsSliceOf.new ..) C p j;show wpAny (model X.prog X.w) X.A (subscriptTail e (.Slice lo hi none p2) v (.ref c.heap.objs.size)) (EP X a σ Q) X.xe {c with heap:=c.heap.push {cls:=.type "slice",data:=.fields #[d,f,.none]}};exact tail_any (ops:=[.ref c.heap.objs.size,v]) y z F (by with_unfolding_all rfl)
def kE (xs:List V)(lo hi:Option Int):List V:=(xs.drop (HT.eU xs.length 0 lo)).take (HT.eU xs.length xs.length hi - HT.eU xs.length 0 lo)
theorem mI (xs:List V)(lo hi:Option Int):(kE xs lo hi).length<=xs.length:=by
 unfold kE;rw[xx,vr]
 omega
def Jg (K:Frag):V->Option Int->Option Int->Hp->VK->Prop:=fun x b hi H Q=>∃ a xs,x=.ref a/\aE K H a xs/\
 ¬ (HT.eU xs.length 0 b=0/\HT.eU xs.length xs.length hi=xs.length)/\∀ p,H p=none->Q (.ref p) (upd H p (.tup (kE xs b hi)))
theorem Nn:Nm X (Jg X.K):=by
 intro i s σ H x v u w e hi t Q I m p l j h;obtain⟨a,d,rfl,hx,n,q⟩:=h
 cases m
 obtain⟨f,r,g,hz⟩:=I.tuple hx;have c:f.toArray.size=d.length:=by rw[gd];exact r.length.symm
 refine⟨"tuple",_,PyProof.Rows.slot_tuple_getitem.lookup,g.typeIs,?_⟩;refine HT.kD g p l j (by rw[c];exact n) ?_ (by rw[c];exact hz)
 rw[c];refine⟨.ref s.heap.objs.size,_,I.laid (t':=s.toks) (o:=.tup (kE d e hi)) (fun b ob q=>ey _ q) (ed _) ?_,rfl,q _ (I.bh.fresh (ed _))⟩;exact⟨j5 (mI d e hi) hz,_,(r.drop (HT.eU d.length 0 e)).take (HT.eU d.length d.length hi - HT.eU d.length 0 e),IsTup.new _ _⟩
def Pt (K:Frag):R2:=fun x y H Q=>∃ a b xs ys,x=.ref a/\y=.ref b/\aE K H a xs/\aE K H b ys/\xs≠[]/\xs.length+ys.length<=sizeLine/\
 (ys=[]->Q (.ref a) H)/\(ys≠[]->∀ p,H p=none->Q (.ref p) (upd H p (.tup (xs++ys))))
theorem Vals.sO {xs:List V}{us:List Value}(r:Vals xs us):us=[]↔xs=[]:=by
 cases r with
 | nil=>simp
 | cons _ _=>simp
theorem Jh:eP X (binaryOp .Add) (Pt X.K):=by
 intro e s σ H x y v u Q I m i h;obtain⟨a,b,r,g,rfl,rfl,t,hb,hx,hz,j,l⟩:=h
 cases m
 cases i
 obtain⟨n,d,A,_⟩:=I.tuple t;obtain⟨f,c,p,_⟩:=I.tuple hb;refine HT.Jd A p (fun z=>hx (d.sO.mp z)) (fun z=>⟨.ref a,H,I,rfl,j (c.sO.mp z)⟩) (fun z=>?_) (by rw[<-d.length,<-c.length];exact hz)
 refine⟨.ref s.heap.objs.size,_,I.laid (t':=s.toks) (o:=.tup (r++g)) (fun b ob q=>ey _ q) (ed _) ?_,rfl,l (fun w=>z (c.sO.mpr w)) _ (I.bh.fresh (ed _))⟩;exact⟨by rw[fz];exact hz,_,d.append c,IsTup.new _ _⟩
def Em (n:Nat)(i:Int):Option Nat:=if 0<=i then (if i<n then some i.toNat else none) else if -(n:Int)<=i then some (i+n).toNat else none
def yg {α:Type}(xs:List α)(i:Int):Option α:=(Em xs.length i).bind fun j=>xs[j]?
variable {i:Int}
theorem AB {n:Nat}{j:Nat}(h:Em n i=some j):seqIndex? i n=some j/\j<n/\-(n:Int)<=i/\i<n:=by
 unfold Em at h
 by_cases a:0<=i
 ·rw[if_pos a] at h
  by_cases h1:i<n
  ·rw[if_pos h1] at h;have e:i.toNat=j:=tz h;exact⟨by rw[seqIndex_of a h1,e],by omega,by omega,h1⟩
  ·rw[if_neg h1] at h;cases h
 ·rw[if_neg a] at h
  by_cases h1:-(n:Int)<=i
  ·rw[if_pos h1] at h;have e:(i+n).toNat=j:=tz h;exact⟨by rw[seqIndex_neg (by omega) h1,e],by omega,h1,by omega⟩
  ·rw[if_neg h1] at h;cases h
theorem sP {α:Type}{xs:List α}{v:α}(h:yg xs i=some v):∃ j,seqIndex? i xs.length=some j/\xs[j]?=some v/\j<xs.length/\-(xs.length:Int)<=i/\i<xs.length:=by
 unfold yg at h
 cases e:Em xs.length i with
 | none=>rw[e] at h;cases h
 | some j=>
  rw[e] at h;obtain⟨h1,b,c,a⟩:=AB e;exact⟨j,h1,h,b,c,a⟩
theorem jt {α:Type}{xs:List α}{j:Nat}{v:α}(h:xs[j]?=some v):yg xs (j:Int)=some v:=by
 have hj:j<xs.length:=(nt.mp h).1;have e:Em xs.length (j:Int)=some j:=by
  unfold Em;rw[if_pos (by omega),if_pos (by omega)];simp
 unfold yg;rw[e];exact h
theorem En {α:Type}(xs:List α)(v:α):yg (xs++[v]) (-1)=some v:=by
 have a:(xs++[v]).length=xs.length+1:=by simp
 have e:Em (xs++[v]).length (-1)=some xs.length:=by
  unfold Em;rw[a,if_neg (by decide),if_pos (by omega)]
  congr 1
  omega
 unfold yg;rw[e];show (xs++[v])[xs.length]?=some v
 simp
def AD (b:Expr):Prop:=∀ o i,subscripted b false o i=operate [o,i] (getItem o i)
def Np (X:Cx)(r:R2):Prop:=
 ∀ (value slice:Expr) (pins:List (Addr × Obj)) (s:Shared) (σ:St) (H:Hp) (x y:V) (v u:Value) (Q:VK),Inv X pins σ H s->RelV x v->RelV y u->r x y H Q->
  subscripted slice false v u=operate [v,u] (getItem v u)->wpAny (model X.prog X.w) X.A (subscriptTail value slice v u) (EP X pins σ Q) X.xe s
def xM (X:Cx)(id:String)(r:V->List V->Hp->VK->Prop):Prop:=
 ∀ (pins:List (Addr × Obj)) (s:Shared) (σ:St) (H:Hp) (x:V) (xs:List V) (v:Value) (us:List Value) (Q:VK),Inv X pins σ H s->RelV x v->Vals xs us->r x xs H Q->
  wpAny (model X.prog X.w) X.A (call (.builtin id) (v::us)) (EP X pins σ Q) X.xe s
variable {a b:Expr}{ta tb:TE}
theorem Pu {r:R2}(hr:Np X r)(ha:PE X a ta)(hb:PE X b tb)(hs:AD b):PE X (.Subscript a b pos) (xV r ta tb):=by
 intro c s σ H Q I h;exact Subscript_ (Na ha hb I h fun v u f x y d i e g q=>hr a b c f σ d x y v u Q i e g q (hs _ _))
def B5 (K:Frag):R2:=fun x y H Q=>∃ p xs i v,x=.ref p/\y=.int i/\aw K H p xs/\yg xs i=some v/\Q v H
def Ji (K:Frag):R2:=fun x y H Q=>∃ p xs i v,x=.ref p/\y=.int i/\aE K H p xs/\yg xs i=some v/\Q v H
def So:R2:=fun x y H Q=>∃ z i c,x=.str z/\y=.int i/\z.length<=sizeLine/\yg z.cps.toList i=some c/\Q (.str ⟨#[c]⟩) H
theorem Jj:Np X (B5 X.K):=by
 intro e c a s σ H x y v u Q I B A h n;obtain⟨p,G,i,z,rfl,rfl,hq,he,q⟩:=h
 cases B
 obtain⟨t,rfl⟩:=A;obtain⟨g,r,f,hz⟩:=I.list hq;obtain⟨j,h1,C,J,D,E⟩:=sP he;obtain⟨w,l,d⟩:=r.get C;have F:=r.length;have hn:=lB;have b:EP X a σ Q w s:=⟨z,H,I,d,q⟩
 by_cases m:0<=i
 ·have hj:i.toNat=j:=by
   rw[seqIndex_of m E] at h1;exact tz h1
  exact item_listR f.isList m (by omega) (by rw[hj];simpa using l) b n
 ·have hj:(i+(g.toArray.size:Int)).toNat=j:=by
   rw[seqIndex_neg (by omega) D] at h1
   rw[gd,<-F];exact tz h1
  exact subscriptTail_builtinR (x:=w) f.isList.typeIs slot_list_getitem.lookup
   (wpAny_getItem_list_neg (Q:=fun r o=>r=w/\EP X a σ Q r o) f.isList (by omega) (by rw[gd]<;>omega) (by omega) (by rw[hj];simpa using l) ⟨rfl,b⟩) n
theorem Nq:Np X (Ji X.K):=by
 intro e b a s σ H x y v u Q I m l h C;obtain⟨p,D,i,z,rfl,rfl,hq,he,q⟩:=h
 cases m
 obtain⟨t,rfl⟩:=l;obtain⟨A,r,f,hz⟩:=I.tuple hq;obtain⟨j,h1,o,G,E,F⟩:=sP he;obtain⟨w,n,d⟩:=r.get o;have B:=r.length;have hn:=lB;have c:EP X a σ Q w s:=⟨z,H,I,d,q⟩;exact subscriptTail_builtinR (x:=w) f.typeIs slot_tuple_getitem.lookup
  (getItem_tuple (j:=j) (Q:=fun r g=>r=w/\EP X a σ Q r g) f (by omega) (by omega) (by rw[gd,<-B];exact h1) (by simpa using n) ⟨rfl,c⟩) C
theorem yh:Np X So:=by
 intro b a d s σ H x y v u Q I l e h p;obtain⟨z,i,c,rfl,rfl,hz,he,q⟩:=h;obtain⟨t,rfl⟩:=l;obtain⟨r,rfl⟩:=e;obtain⟨j,h1,n,w,g,m⟩:=sP he;have o:z.cps.toList.length=z.length:=by simp[Str.length]
 rw[o] at h1 g m;have hn:=lB;exact tail_any (typeIs_str s z t) slot_str_getitem.lookup (getItem_str (c:=c) (by
  have f:decide (i < -(2 ^ 63:Int))=false:=ek (by omega)
  have e2:decide (i ≥ 2 ^ 63)=false:=ek (by omega)
  rw[f,e2,Bool.or_false]) (by rw[h1];simpa using n) ⟨.str ⟨#[c]⟩,H,I.tok _,⟨_,rfl⟩,q⟩) p
theorem yi (its:List Value)(n j:Nat)(u:Value):Obj.mapSeq (·.setIfInBounds j u) {cls:=.type "list",data:=.seq its.toArray n}={cls:=.type "list",data:=.seq (its.set j u).toArray n}:=by
 simp[Obj.mapSeq]
theorem Inv.lst {pins:List (Addr × Obj)}{σ:St}{H:Hp}{s:Shared}{p:Addr}{xs:List V}(I:Inv X pins σ H s)(h:H p=some (.lst xs)) :
  ∃ (its:List Value) (n:Nat),Vals xs its/\s.heap.get? p=some {cls:=.type "list",data:=.seq its.toArray n}/\xs.length<=sizeLine:=by
 obtain⟨z,its,n,r,e⟩:=I.bh p _ h;exact⟨its,n,r,e,z⟩
variable {its its':List Value}
theorem Inv.Nr {pins:List (Addr × Obj)}{σ:St}{H:Hp}{s:Shared}{p:Addr}{xs ys:List V}{n n':Nat}{f:Obj->Obj}(I:Inv X pins σ H s)(h:H p=some (.lst xs))
  (ho:s.heap.get? p=some {cls:=.type "list",data:=.seq its.toArray n}) (hf:f {cls:=.type "list",data:=.seq its.toArray n}={cls:=.type "list",data:=.seq its'.toArray n'}) (r:Vals ys its') (hz:ys.length<=sizeLine) (t:Nat) :
  Inv X pins σ (upd H p (.lst ys)) {s with heap:=s.heap.update p f,toks:=t}:=by
 have e:(s.heap.update p f).get? p=some {cls:=.type "list",data:=.seq its'.toArray n'}:=by
  rw[Heap.get?_update_self f ho (by rw[hf]<;>rfl),hf]
 refine I.write (x:=p) (e:=p) (by rw[h];trivial) (.inl rfl) (fun b u hb q=>(Heap.get?_update_other _ _ (Ne.symm hb)).trans q) ⟨_,e⟩ ?_
 exact⟨hz,its',n',r,e⟩
def Pw:V->V->V->Hp->(Hp->Prop)->Prop:=fun o i v H Q=>∃ p xs k j,o=.ref p/\i=.int k/\H p=some (.lst xs)/\Em xs.length k=some j/\Q (upd H p (.lst (xs.set j v)))
theorem set_list:MZ X Pw:=by
 intro b s σ H o i v C B u Q I x y z h;obtain⟨p,w,k,j,rfl,rfl,f,hj,q⟩:=h
 cases x
 obtain⟨t,rfl⟩:=y;obtain⟨a,n,r,c,hz⟩:=I.lst f;obtain⟨h1,A,m,l⟩:=AB hj;have d:=r.length;have hn:=lB;have e:Inv X b σ (upd H p (.lst (w.set j v))) {s with heap:=s.heap.update p (Obj.mapSeq (·.setIfInBounds j u))}:=
  I.Nr f c (yi a n j u) (r.set z j) (by rw[length_set];exact hz) s.toks
 by_cases g:0<=k
 ·have hk:k.toNat=j:=by
   rw[seqIndex_of g l] at h1;exact tz h1
  exact PySem.W.ki_setAt c g (by omega) (by rw[gd,<-d];exact l) (by rw[hk];exact⟨_,e,q⟩)
 ·have hk:(k+(a.toArray.size:Int)).toNat=j:=by
   rw[seqIndex_neg (by omega) m] at h1
   rw[gd,<-d];exact tz h1
  exact PySem.W.ki_setBack c (by omega) (by rw[gd,<-d];exact m) (by omega) (by rw[hk];exact⟨_,e,q⟩)
theorem sQ (lo hi:Option Int)(n:Nat):(sliceBounds lo hi none n).1=((HT.eU n 0 lo:Nat):Int)/\(sliceBounds lo hi none n).2.1=((HT.eU n n hi:Nat):Int)/\(sliceBounds lo hi none n).2.2=1:=by
 refine⟨?_,?_,rfl⟩
 ·cases lo with
  | none=>simp[sliceBounds,HT.eU]
  | some i=>
   simp only[sliceBounds,HT.eU,getD_none,show (1:Int)>0 by decide,if_true]
   by_cases h:i<0
   ·simp only[h,if_true]<;>omega
   ·simp only[h,if_false]<;>omega
 ·cases hi with
  | none=>simp[sliceBounds,HT.eU]
  | some i=>
   simp only[sliceBounds,HT.eU,getD_none,show (1:Int)>0 by decide,if_true]
   by_cases h:i<0
   ·simp only[h,if_true]<;>omega
   ·simp only[h,if_false]<;>omega
theorem p9 (its:List Value)(lo hi:Option Int):slicePick its.toArray lo hi none=((its.drop (HT.eU its.length 0 lo)).take (HT.eU its.length its.length hi - HT.eU its.length 0 lo)).toArray:=by
 obtain⟨h1,a,b⟩:=sQ lo hi its.toArray.size;unfold slicePick;rw[h1,a,b];simp only[sliceRange_one,pick_run,List.size_toArray]<;>rfl
def Eo (K:Frag):V->Option Int->Option Int->Hp->VK->Prop:=fun x b hi H Q=>∃ a xs,x=.ref a/\aw K H a xs/\∀ p,H p=none->Q (.ref p) (upd H p (.lst (kE xs b hi)))
theorem Jk:Nm X (Eo X.K):=by
 intro g s σ H x v t u e hi p Q I l n j i h;obtain⟨a,c,rfl,hx,q⟩:=h
 cases l
 obtain⟨m,r,f,hz⟩:=I.list hx;have d:=r.length;refine⟨"list",_,slot_list_getitem.lookup,f.isList.typeIs,?_⟩;refine wpAny_getItem_list_slice f.isList n j i .none (by simp) ?_ (by rw[gd]<;>omega)
 rw[p9,<-d];refine⟨.ref s.heap.objs.size,_,I.laid (t':=s.toks) (o:=.lst (kE c e hi)) (fun b ob q=>ey _ q) (ed _) ?_,rfl,q _ (I.bh.fresh (ed _))⟩;exact⟨j5 (mI c e hi) hz,_,0,(r.drop (HT.eU c.length 0 e)).take (HT.eU c.length c.length hi - HT.eU c.length 0 e),ih _ rfl⟩
def mJ:V->Bool
 | .bx=>true
 | .bl _=>true
 | .int _=>true
 | .str _=>true
 | _=>false
def DR:V->V->Bool
 | .bx,.bx=>true
 | .bl a,.bl b=>a == b
 | .bl a,.int b=>(if a then 1 else 0) == b
 | .int a,.bl b=>a == (if b then 1 else 0)
 | .int a,.int b=>a == b
 | .str a,.str b=>a == b
 | _,_=>false
variable {x:V}
theorem Nt {A:Around}{s:Shared}{y:V}{u v:Value}(ry:RelV y u)(rx:RelV x v)(fy:mJ y=true)(fx:mJ x=true):EqAt A s u v (DR y x):=by
 cases y with
 | bx=>
  cases ry
  cases x with
  | bx=>cases rx;exact SeqAt.EqAt.same _
  | bl b=>cases rx;exact SeqAt.EqAt.none_bool b
  | int b=>obtain⟨t,rfl⟩:=rx;exact SeqAt.EqAt.none_int b t
  | str b=>obtain⟨t,rfl⟩:=rx;exact SeqAt.EqAt.none_str b t
  | _=>exact absurd (show false=true from fx) h5
 | bl a=>
  cases ry
  cases x with
  | bx=>cases rx;exact SeqAt.EqAt.bool_none a
  | bl b=>cases rx;exact SeqAt.EqAt.bool_bool a b
  | int b=>obtain⟨t,rfl⟩:=rx;exact SeqAt.EqAt.bool_int a b t
  | str b=>obtain⟨t,rfl⟩:=rx;exact SeqAt.EqAt.bool_str a b t
  | _=>exact absurd (show false=true from fx) h5
 | int a=>
  obtain⟨c,rfl⟩:=ry
  cases x with
  | bx=>cases rx;exact SeqAt.EqAt.int_none a c
  | bl b=>cases rx;exact SeqAt.EqAt.int_bool a c b
  | int b=>obtain⟨t,rfl⟩:=rx;exact SeqAt.EqAt.int_int a c b t
  | str b=>obtain⟨t,rfl⟩:=rx;exact SeqAt.EqAt.int_str a c b t
  | _=>exact absurd (show false=true from fx) h5
 | str a=>
  obtain⟨c,rfl⟩:=ry
  cases x with
  | bx=>cases rx;exact SeqAt.EqAt.str_none a c
  | bl b=>cases rx;exact SeqAt.EqAt.str_bool a c b
  | int b=>obtain⟨t,rfl⟩:=rx;exact SeqAt.EqAt.str_int a c b t
  | str b=>obtain⟨t,rfl⟩:=rx;exact SeqAt.EqAt.str_str a c b t
  | _=>exact absurd (show false=true from fx) h5
 | _=>exact absurd (show false=true from fy) h5
def yj (x:V)(u:Value):Bool:=match u with
 | .none=>DR .bx x
 | .bool b=>DR (.bl b) x
 | .int i _=>DR (.int i) x
 | .str z _=>DR (.str z) x
 | _=>false
theorem Ep {y:V}{u:Value}(r:RelV y u)(f:mJ y=true):yj x u=DR y x:=by
 cases y with
 | bx=>cases r;rfl
 | bl b=>cases r;rfl
 | int i=>obtain⟨t,rfl⟩:=r;rfl
 | str z=>obtain⟨t,rfl⟩:=r;rfl
 | _=>exact absurd (show false=true from f) h5
theorem kF {x:V}:∀ {xs:List V} {us:List Value},Vals xs us->xs.all mJ=true->us.any (yj x)=xs.any fun y=>DR y x
 | _,_,.nil,_=>rfl
 | y::xs,u::us,.cons r t,f=>by
  rw[all_cons,gz] at f;rw[any_cons,any_cons,Ep r f.1,kF t f.2]
theorem iG {A:Around}{s:Shared}{x:V}{v:Value}(rx:RelV x v)(fx:mJ x=true):∀ {xs:List V} {us:List Value},Vals xs us->xs.all mJ=true->∀ u∈us,EqAt A s u v (yj x u)
 | _,_,.nil,_=>fun u hu=>by cases hu
 | y::xs,u::us,.cons r t,f=>fun a hu=>by
  rw[all_cons,gz] at f
  rcases h9.mp hu with rfl | hu
  ·rw[Ep r f.1];exact Nt r rx f.1 fx
  ·exact iG rx fx t f.2 a hu
def Lf (x:V)(xs:List V):Bool:=xs.any fun y=>DR y x
def O4 (K:Frag)(neg:Bool):R2:=fun x y H Q=>∃ p xs,y=.ref p/\(aw K H p xs∨aE K H p xs)/\mJ x=true/\xs.all mJ=true/\Q (.bl (if neg then !Lf x xs else Lf x xs)) H
theorem B6:eP X (compareOp .In) (O4 X.K false):=by
 intro f s σ H x y v u Q I d g h;obtain⟨p,i,rfl,hq,e,fs,q⟩:=h
 cases g
 rcases hq with hq | hq
 ·obtain⟨a,r,b,hz⟩:=I.list hq;refine SeqAt.in_listAt (yj x) b.isList (fun w c=>iG d e r fs w (by simpa using c)) ⟨.bl _,H,I,rfl,?_⟩
  rw[show a.toArray.any (yj x)=a.any (yj x) by simp,kF r fs]
  exact q
 ·obtain⟨a,r,b,hz⟩:=I.tuple hq;refine SeqAt.in_tupleAt (yj x) b (fun w c=>iG d e r fs w (by simpa using c)) ⟨.bl _,H,I,rfl,?_⟩
  rw[show a.toArray.any (yj x)=a.any (yj x) by simp,kF r fs]
  exact q
theorem sR:eP X (compareOp .NotIn) (O4 X.K true):=by
 intro f s σ H x y v u Q I d g h;obtain⟨p,i,rfl,hq,e,fs,q⟩:=h
 cases g
 rcases hq with hq | hq
 ·obtain⟨a,r,b,hz⟩:=I.list hq;refine SeqAt.notIn_listAt (yj x) b.isList (fun w c=>iG d e r fs w (by simpa using c)) ⟨.bl _,H,I,rfl,?_⟩
  rw[show a.toArray.any (yj x)=a.any (yj x) by simp,kF r fs]
  exact q
 ·obtain⟨a,r,b,hz⟩:=I.tuple hq;refine SeqAt.notIn_tupleAt (yj x) b (fun w c=>iG d e r fs w (by simpa using c)) ⟨.bl _,H,I,rfl,?_⟩
  rw[show a.toArray.any (yj x)=a.any (yj x) by simp,kF r fs]
  exact q
theorem sS:bS X (.builtin "len") (fun xs H Q=>∃ p ys,xs=[.ref p]/\(aw X.K H p ys∨aE X.K H p ys)/\Q (.int ys.length) H):=by
 intro e s σ H xs g Q I r h;obtain⟨p,ys,rfl,hq,q⟩:=h;obtain⟨u,rfl,f⟩:=vals1 r
 cases f
 have hn:=lB
 rcases hq with hq | hq
 ·obtain⟨d,c,b,hz⟩:=I.list hq;have a:=c.length;exact Calls.call_len_list b.isList (by simp only[List.size_toArray]<;>omega) ⟨.int ys.length,H,I.tok _,⟨s.toks+1,by rw[gd,a]⟩,q⟩
 ·obtain⟨d,c,b,hz⟩:=I.tuple hq;have a:=c.length;exact len_tuple b (by simp only[List.size_toArray]<;>omega) ⟨.int ys.length,H,I.tok _,⟨s.toks+1,by rw[gd,a]⟩,q⟩
theorem gQ:bS X (.builtin "len") (fun xs H Q=>∃ z,xs=[.str z]/\z.length<=sizeLine/\Q (.int z.length) H):=by
 intro a s σ H xs b Q I r h;obtain⟨z,rfl,hz,q⟩:=h;obtain⟨u,rfl,t,rfl⟩:=vals1 r;have hn:=lB;exact len_str (by omega) ⟨.int z.length,H,I.tok _,⟨_,rfl⟩,q⟩
theorem qa:bS X (.type "tuple") (fun xs H Q=>∃ p ys,xs=[.ref p]/\((aw X.K H p ys/\∀ l,H l=none->Q (.ref l) (upd H l (.tup ys)))∨(aE X.K H p ys/\Q (.ref p) H))):=by
 intro a s σ H xs v Q I r h;obtain⟨p,ys,rfl,h⟩:=h;obtain⟨u,rfl,n⟩:=vals1 r
 cases n
 rcases h with ⟨hq,q⟩ | ⟨hq,q⟩
 ·obtain⟨c,g,f,hz⟩:=I.list hq;have j:=g.length;refine call_tuple_list f.isList (fun d m=>?_) (by simp only[List.size_toArray]<;>omega)
  have i:Inv X a σ H {s with heap:=d}:=I.kept (t':=s.toks) m;have t:Inv X a σ (upd H d.objs.size (.tup ys)) {s with heap:=d.push {cls:=.type "tuple",data:=.seq c.toArray}}:=
   i.laid (t':=s.toks) (fun b o e=>ey _ e) (ed _) (show bA X.prog X.w _ _ _ (.tup ys) from ⟨hz,c,g,IsTup.new _ _⟩)
  exact⟨.ref d.objs.size,_,t,rfl,q _ (i.bh.fresh (ed _))⟩
 ·obtain⟨c,g,f,hz⟩:=I.tuple hq;exact call_tuple_same f ⟨.ref p,H,I,rfl,q⟩
def Px (K:Frag)(T:String)(x:V)(H:Hp):Prop:=match x with
 | .str _=>T="str"
 | .int _=>T="int"
 | .ref p=>(T="list"/\∃ xs,aw K H p xs)∨(T="tuple"/\∃ o,K.lookup p=some o/\o.cls=.type "tuple"/\o.dict=none)∨
   (T="dict"/\((∃ kvs,H p=some (.dK kvs))∨∃ kvs,H p=some (.dT kvs)))∨(T="set"/\∃ S n,H p=some (.set S n))
 | _=>False
theorem Er {pins:List (Addr × Obj)}{σ:St}{H:Hp}{s:Shared}{T:String}{v:Value}(I:Inv X pins σ H s)(r:RelV x v)(ty:Px X.K T x H) :
  s.TypeIs v T/\∀ a,v=.ref a->∃ ob,s.heap.get? a=some ob/\ob.dict=none:=by
 cases x with
 | str z=>
  obtain⟨t,rfl⟩:=r
  cases (show T="str" from ty)
  exact⟨typeIs_str s z t,fun _ e=>nomatch e⟩
 | int i=>
  obtain⟨t,rfl⟩:=r
  cases (show T="int" from ty)
  exact⟨typeIs_int s i t,fun _ e=>nomatch e⟩
 | ref p=>
  cases r
  rcases ty with ⟨rfl,j,hq⟩ | ⟨rfl,o,hk,hc,f⟩ | ⟨rfl,hk⟩ | ⟨rfl,S,n,hk⟩
  ·obtain⟨h,_,g,_⟩:=I.list hq;refine⟨g.isList.typeIs,fun a e=>?_⟩
   cases e
   obtain⟨o,n,e,c,f,_⟩:=g;exact⟨o,e,f⟩
  ·refine⟨⟨o,I.ku p o hk,hc⟩,fun a e=>?_⟩
   cases e
   exact⟨o,I.ku _ o hk,f⟩
  ·have z:∃ o,s.heap.get? p=some o/\o.ExactDict:=by
    rcases hk with ⟨d,hk⟩ | ⟨d,hk⟩
    ·obtain⟨_,_,_,_,o,_,_,e,b,_⟩:=I.bh p _ hk;exact⟨o,e,b⟩
    ·obtain⟨_,_,_,_,o,_,_,e,b,_⟩:=I.bh p _ hk;exact⟨o,e,b⟩
   obtain⟨o,e,b⟩:=z;refine⟨⟨o,e,b.1⟩,fun a e2=>?_⟩
   cases e2
   exact⟨o,e,b.2.1⟩
  ·obtain⟨o,_,_,_,e,b,_⟩:=I.bh p _ hk;refine⟨⟨o,e,b.1⟩,fun a e2=>?_⟩
   cases e2
   exact⟨o,e,b.2.1⟩
 | _=>exact False.elim ty
def Jl (K:Frag)(T:String)(r:V->List V->Hp->VK->Prop)(to:TE):TE:=fun σ H Q=>to σ H fun x H1=>Px K T x H1/\r x [] H1 Q
def Py (K:Frag)(T:String)(r:V->List V->Hp->VK->Prop)(to:TE)(t:TA):TE:=fun σ H Q=>to σ H fun x H1=>Px K T x H1/\t σ H1 fun b a=>r x b a Q
variable {o:Expr}{to:TE}{name:Str}{apos c9:Pos}{T id:String}{r:V->List V->Hp->VK->Prop}
theorem Nu (pa:PlainAttrs T)(slot:Slot T name id)(hty:typeOf (.builtin id)=pure (.type "method_descriptor"))(hm:xM X id r)(ho:PE X o to)
  (eZ:attributeBase o name X.env (eval o X.env)=eval o X.env:=by rfl) (e9:(apos.endLine == c9.line)=true:=by rfl):PE X (.Call (.Attribute o name apos) [] [] c9) (Jl X.K T r to):=by
 intro a s σ H Q I h;refine wpAny_Call_method0_late eZ e9 (bW (ho a s σ H _ I h) fun v f ⟨x,H1,b,c,ty,e⟩=>?_);obtain⟨h1,d⟩:=Er b c ty;exact⟨T,id,pa,slot,hty,h1,d,Calls.callWith_builtin rfl (PySem.evalArgs_none (hm a f σ H1 x [] v [] Q b c .nil e))⟩
variable {es:List Expr}{t:TA}
theorem Pz (pa:PlainAttrs T)(slot:Slot T name id)(hty:typeOf (.builtin id)=pure (.type "method_descriptor"))(hm:xM X id r)(ho:PE X o to)(ha:PA X (e::es) t)
  (eZ:attributeBase o name X.env (eval o X.env)=eval o X.env:=by rfl)
  (hfew:((backTo c9 (starEach (e::es) X.env)).all (fun x=>!x.1)&&(backToKw c9 (keywordEach [] X.env)).all (fun x=>x.1.isSome)
   &&decide ((e::es).length+([]:List Keyword).length+(if ([]:List Keyword).isEmpty then 0 else 1)<30))=true:=by rfl)
  (e9:(apos.endLine == c9.line)=true:=by rfl) (hs:starEach (e::es) X.env=(false,eval e X.env)::starEach es X.env:=by rfl) (hplain:(backTo c9 (starEach es X.env)).any (·.1)=false:=by rfl) :
  PE X (.Call (.Attribute o name apos) (e::es) [] c9) (Py X.K T r to t):=by
 intro a s σ H Q I h;refine wpAny_Call_method_late eZ hfew e9 rfl (bW (ho a s σ H _ I h) fun v l ⟨x,H1,b,c,ty,i⟩=>?_);obtain⟨h1,p⟩:=Er b c ty;refine⟨T,id,pa,slot,hty,h1,p,?_⟩;have d:=ha c9 a l σ H1 _ b i;rw[hs] at d ⊢;refine Calls.callWith_builtin (by show (false||(backTo c9 (starEach es X.env)).any (·.1))=false;rw[hplain]<;>rfl) (Calls.evalArgs_plain ?_)
 exact bW d fun m q ⟨f,n,u,g,j⟩=>hm a q σ n x f v m Q u c g j
def S3 (X:Cx)(id:String)(r:V->List V->Hp->VK->Prop):Prop:=
 ∀ (pins:List (Addr × Obj)) (s:Shared) (σ:St) (H:Hp) (x:V) (xs:List V) (v:Value) (us:List Value) (Q:VK),Inv X pins σ H s->RelV x v->Vals xs us->r x xs H Q->
  wpAny (model X.prog X.w) X.A (call (.builtin id) (v::us)) (EP X pins σ Q) X.xe s
theorem Vals.one:∀ {x:V} {us:List Value},Vals [x] us->∃ u,us=[u]/\RelV x u
 | _,_,.cons r .nil=>⟨_,rfl,r⟩
theorem Vals.two {y:V}{us:List Value}(h:Vals [x,y] us):∃ u v,us=[u,v]/\RelV x u/\RelV y v:=by
 cases h with
 | cons r h=>
  obtain⟨v,rfl,q⟩:=Vals.one h;exact⟨_,_,rfl,r,q⟩
theorem Vals.rep {xs:List V}{us:List Value}(h:Vals xs us):∀ k:Nat,Vals (List.replicate k xs).flatten (List.replicate k us).flatten
 | 0=>.nil
 | k+1=>by
  rw[TR,TR,flatten_cons,flatten_cons];exact Vals.append h (Vals.rep h k)
theorem foldl_rep (its:List Value):∀ (k:Nat) (acc:List Value),
  List.foldl (fun x1 x2=>x1++x2) acc.toArray (List.replicate k its.toArray)=(acc++(List.replicate k its).flatten).toArray
 | 0,acc=>by simp
 | k+1,acc=>by
  have e:acc.toArray++its.toArray=(acc++its).toArray:=by simp
  have e2:(acc++its)++(List.replicate k its).flatten=acc++(List.replicate (k+1) its).flatten:=by
   rw[TR,flatten_cons,q5]
  rw[<-e2,<-foldl_rep its k (acc++its),<-e,TR,foldl_cons]
variable {pins:List (Addr × Obj)}{H:Hp}{s:Shared}{l:Addr}{xs ys:List V}{σ:St}
theorem Inv.PD {n:Nat}{f:Array Value->Array Value}{t':Nat}(I:Inv X pins σ H s)(hH:H l=some (.lst xs))
  (e:s.heap.get? l=some {cls:=.type "list",data:=.seq its.toArray n}) (hf:f its.toArray=its'.toArray) (hv:Vals ys its') (hz:ys.length<=sizeLine) :
  Inv X pins σ (upd H l (.lst ys)) {s with heap:=s.heap.update l (Obj.mapSeq f),toks:=t'}:=by
 have q:=PySem.IsL.update e f;rw[hf] at q;refine I.write (x:=l) (e:=l) (by rw[hH];exact trivial) (.inl rfl) (fun a u hb hu=>(Heap.get?_update_other s.heap (Obj.mapSeq f) (Ne.symm hb)).trans hu) ⟨_,q⟩ ?_
 exact⟨hz,its',_,hv,q⟩
theorem Inv.Nv {t':Nat}(I:Inv X pins σ H s)(hv:Vals ys its)(hz:ys.length<=sizeLine) :
  Inv X pins σ (upd H s.heap.objs.size (.lst ys)) {s with heap:=s.heap.push {cls:=.type "list",data:=.seq its.toArray},toks:=t'}:=
 I.laid (fun _ _ q=>ey _ q) (ed _) ⟨hz,its,0,hv,ih _ rfl⟩
theorem Inv.fresh (I:Inv X pins σ H s):H s.heap.objs.size=none:=I.bh.fresh (ed _)
theorem Inv.Nw (I:Inv X pins σ H s)(hH:H l=some (.lst xs)):xs.length<=sizeLine/\∃ (its:List Value) (n:Nat),Vals xs its/\xs.length=its.length/\s.heap.get? l=some {cls:=.type "list",data:=.seq its.toArray n}:=by
 obtain⟨z,its,n,r,e⟩:=I.bh l _ hH;exact⟨z,its,n,r,r.length,e⟩
theorem Es {n:Nat}(h:n<=sizeLine):Builtin.List.listTooLong n=false:=by
 unfold Builtin.List.listTooLong;exact ek (by omega)
def Jm:V->List V->Hp->VK->Prop:=fun x a H Q=>∃ l xs y,x=.ref l/\a=[y]/\H l=some (.lst xs)/\xs.length<sizeLine/\Q .bx (upd H l (.lst (xs++[y])))
theorem bE:S3 X "list.append" Jm:=by
 intro c s σ H x i v j Q I f g h;obtain⟨l,m,y,rfl,rfl,b,hz,q⟩:=h
 cases f
 obtain⟨u,rfl,d⟩:=g.one;obtain⟨z,a,n,r,o,e⟩:=I.Nw b;refine TB nc ⟨_,e,rfl⟩ F.entry_list_append (F.args_list_append_2 _ _) (PySem.list_append l a.toArray n u (by rw[gd];omega)) ⟨e,?_⟩
 refine⟨.bx,_,I.PD (its':=a++[u]) b e (by simp) (r.append (.cons d .nil)) ?_,rfl,q⟩
 rw[fz,List.length_singleton]
 omega
def Sq:R2:=fun x y H Q=>∃ l k xs,x=.ref l/\y=.int k/\H l=some (.lst xs)/\-(2 ^ 63)<=k/\k<2 ^ 63/\xs.length*k.toNat<=sizeLine/\
 ∀ p,H p=none->Q (.ref p) (upd H p (.lst (List.replicate k.toNat xs).flatten))
theorem len_rep {α:Type}(xs:List α)(k:Nat):(List.replicate k xs).flatten.length=k*xs.length:=by
 induction k with
 | zero=>simp
 | succ k a=>rw[TR,flatten_cons,fz,a,Nat.succ_mul,Nat.add_comm]
theorem Nx:eP X (binaryOp .Mult) Sq:=by
 intro p s σ H x y v u Q I C B h;obtain⟨l,k,J,rfl,rfl,A,h1,D,hz,q⟩:=h
 cases C
 obtain⟨t,rfl⟩:=B;obtain⟨z,b,n,r,G,e⟩:=I.Nw A;have f:b.toArray.size*k.toNat<=sizeLine:=by rw[gd,<-G];exact hz
 have d:¬ b.toArray.size*k.toNat>(2 ^ 63 - 1) / 8:=by
  have:(sizeLine:Nat)<=(2 ^ 63 - 1) / 8:=by decide
  omega
 have g:¬ (!Builtin.List.listFitsIndex k)=true:=by
  rw[fitsIndex_both h1 D];exact h5
 have c:¬ Builtin.List.listTooLong (b.toArray.size*k.toNat)=true:=by
  rw[Es f];exact h5
 have i:List.foldl (fun o j=>o++j) #[] (List.replicate (if b.toArray.isEmpty=true then 0 else k.toNat) b.toArray)=(List.replicate k.toNat b).flatten.toArray:=by
  have E:∀ m:Nat,List.foldl (fun o j=>o++j) #[] (List.replicate m b.toArray)=(List.replicate m b).flatten.toArray:=fun m=>by
   have:=foldl_rep b m []
   rw[nil_append] at this;exact this
  rw[E]
  cases b with
  | nil=>simp
  | cons a K=>rw[if_neg (by simp)]
 refine wpAny_binaryOp_repeat_ref (T:="list") (U:="int") (by decide) ⟨_,e,rfl⟩ (fun w=>typeIs_int w k t) noFill_list_mul F.fills_int_mul F.slot_int_rmul repeat_list F.slot_int_index.lookup
  (TB F.slot_int_rmul (typeIs_int s k t) F.entry_int_rmul (F.args_int_rmul_2 _ _) (int___rmul___int_list k t l b.toArray n)
   ⟨e,rfl,⟨_,e,rfl⟩,TB F.slot_list_mul ⟨_,e,rfl⟩ F.entry_list_mul (F.args_list_mul_2 _ _) (AutoListH.list___mul___list_int_3 l b.toArray n k t g d c) ⟨e,?_⟩⟩)
 rw[i];exact⟨.ref _,_,I.Nv (t':=s.toks) (r.rep k.toNat) (by rw[len_rep,Nat.mul_comm];exact hz),rfl,q _ I.fresh⟩
end L2
namespace Att
open PySem PySem.W PySem.Calls PyProof.Rows
variable {P:Params}
theorem nk {h:Heap}:∀ (ns:List Int) (vs:List Value),WellAll P h vs (ns.map WData.int)->IntsAre vs ns:=by
 intro ns
 induction ns with
 | nil=>
  intro vs w;rw[map_nil] at w
  cases w
  exact .nil
 | cons n ns c=>
  intro vs w;rw[map_cons] at w
  cases w with
  | cons a b=>
   cases a
   exact .cons _ _ (c _ b)
variable {l:OpenLaw}
theorem B7 {n:Nat}(hn:l.most=some n){h:Heap}{args:List WData}{vals:List Value}
  (hpre:l.row.toRowW.claim.pre args=true) (hwl:WellAll P h vals args) :
  ∃ a vs ns,vals=[Value.ref a]/\args=[WData.list (ns.map WData.int)]/\h.get? a=some {cls:=.type "list",data:=.seq vs.toArray}/\IntsAre vs ns/\ns.length<=n:=by
 have f:WShape.hasAll [] args [.list .int]=true:=(pre_splitW hpre).1;have hc:l.pre.holds [] {args:=args}=true:=(pre_splitW hpre).2;obtain⟨d,r,rfl,h1,s⟩:=hasAllW_cons f;obtain rfl:=hasAllW_nil s;obtain⟨t,rfl,o⟩:=hasW_list h1;obtain⟨ns,rfl⟩:=items_int o;have b:ns.length<=n:=by
  unfold OpenLaw.pre at hc;have c:(WTm.not (.lt (.lit (.int (n:Int))) (.len (.arg 0)))).holds [] {args:=[.list (ns.map .int)]}=true:=by
   have c:=(holds_andW hc).1;rw[hn] at c;exact c
  have e:=condW_of c (w_not (w_lt w_lit (w_len_list (w_arg rfl))));rw[length_map] at e;refine Nat.le_of_not_lt fun q=>?_;have j:(n:Int)<((ns.length:Nat):Int):=by omega
  first
   | (rw[decide_eq_true j] at e;exact absurd e (by decide))
   | (simp at e;omega)
 cases hwl with
 | cons g i=>
  cases i
  cases g with
  | list p m=>exact⟨_,_,ns,rfl,rfl,p,nk ns _ m,b⟩
theorem B8 (l:OpenLaw)(args:List WData):l.row.toRowW.claim.post args (.bool true) args=true:=
 postW_of (r:=l.row.toRowW) (X:=(true == true))
  (show WShape.has [] (.bool true) .bool=true by first | rfl | decide | simp[WShape.has,WShape.arms,WShape.armsAll])
  (show (WTm.eq .res (.lit (.bool true))).value [] {args:=args,res:=some (.bool true),after:=args}=some (.bool (true == true)) from w_eq_bool (w_res rfl) w_lit) rfl
variable {q:Program}{loose:List Str}{XP:(Str->Option Value)->Heap->Prop}{YP:World->Heap->Prop}{d:DefRec}
theorem vy {n:Nat} 
  (hn:l.most=some n) (hdf:d.params.defaults=[])
  (call:∀ (w:World) (s₀ s₁:Shared) (mg mb:Str->Option Value) (fa:Addr) (o:Obj) (pm cd doc:Value) (a:Addr) (vs:List Value) (ns:List Int),
   Ground q loose [] XP w s₀ mg mb s₁.heap->YP w s₁.heap->
   s₁.heap.get? fa=some o->o.data=.func (docDef d.name d.params d.body d.scope pm cd doc)->s₁.heap.CodeRec cd d.name->mg d.name=some (.ref fa)->
   s₁.heap.get? a=some {cls:=.type "list",data:=.seq vs.toArray}->IntsAre vs ns->ns.length<=n->s₁.gens=#[]->
   codeAny (model l.prog w) callerA (.call (.ref fa) ⟨[.ref a],[]⟩) (fun r s'=>r=.ok (.ret (.bool true))/\OldK s₁.heap s'.heap/\s'.os=s₁.os/\AllBare s'.gens) s₁) :
  WalkO q loose XP YP l.row.toRowW d [] (fun f vs=>PySem.call f vs):=by
 intro w s₀ s₁ mg mb G Y fa o pm cd doc B kV v A h p i y s m E g t z j u;obtain rfl:B=.none:=Dflts.none p hdf;obtain rfl:kV=.none:=Dflts.noKw p;obtain⟨a,vs,ns,rfl,rfl,c,b,e⟩:=B7 hn g j;refine enter_call (codeAny_mono (call w s₀ s₁ mg mb fa o pm cd doc a vs ns G Y v (fd_plain A) h i c b e y) fun r s' hq=>?_);obtain⟨rfl,x,D,C⟩:=hq;exact⟨.inl ⟨.bool true,.bool true,[],rfl,fun _=>rfl,.bool true,B8 l _,fun _=>⟨List.Pairwise.nil,fun _ hm=>(nomatch hm)⟩⟩,x,D,C⟩
end Att
namespace L2
open PySem PySem.Spec PyProof.Rows
theorem lF:∀ {vs:List Value} {ns:List Int},IntsAre vs ns->Vals (ns.map V.int) vs
 | _,_,.nil=>.nil
 | _,_,.cons n t h=>.cons ⟨t,rfl⟩ (lF h)
def Ny (H:Hp):Prop:=∀ b,H b=none∨∃ o xs,H b=some (.iW o (.lst xs))
variable {a fa:Addr}{P:Program}{x:Str}
theorem Et {w:World}{K:Frag}{mg mb:Str->Option Value}{CX:DP}{k:Nat}{fd:FuncData}{sp:Sp}{s₁:Shared}{vs:List Value}{ns:List Int}
  (KX:K.In s₁.heap) (hns:s₁.heap.Ns mainGlobals mg) (hb:s₁.heap.Ns builtinsNs mb) (hbb:∀ x:Str,x≠"__name__"->mb x=bootBuiltins x) (hlim:s₁.heap.NoLimit) (hg:s₁.gens=#[])
  (ha:s₁.heap.get? a=some {cls:=.type "list",data:=.seq vs.toArray}) (hi:IntsAre vs ns) (hl:ns.length<=sizeLine) (hr:cB k callerA)
  (F:∀ base:Heap,K.In base->base.Ns mainGlobals mg->ft P w K mg base CX k fa fd [x] sp) (hbind:∀ (s:Shared) (u:Value),BindsTo s fd ⟨[u],[]⟩ [(x,u)])
  (hsp:∀ H:Hp,Ny H->aw K H a (ns.map V.int)->sp [.ref a] H (fun v _=>v=.bl true) fun _ _ _=>False)
  (hCX:∀ H e s',CX [] H s₁ (fun _ _ _=>False) e s'->False) :
  codeAny (model P w) callerA (.call (.ref fa) ⟨[.ref a],[]⟩) (fun r s'=>r=.ok (.ret (.bool true))/\OldK s₁.heap s'.heap/\s'.os=s₁.os/\AllBare s'.gens) s₁:=by
 have J:=lF hi;have l:=hi.length;have g:∀ H:Hp,Ny H->aw K H a (ns.map V.int)->jQ P w H s₁.heap->(∀ b,H b≠none->b=a)->(H a≠none->K.lookup a=none)->
   codeAny (model P w) callerA (.call (.ref fa) ⟨[.ref a],[]⟩) (fun r s'=>r=.ok (.ret (.bool true))/\OldK s₁.heap s'.heap/\s'.os=s₁.os/\AllBare s'.gens) s₁:=by
  intro H G Q D I T;have c:∀ {b:Addr} {o:Obj},s₁.heap.get? b=some o->H b=none->(sF s₁.heap H).get? b=some o:=fun e n=>DW e n;have C:∀ {b:Addr} {o:Obj} {i:Array DictEntry} {A:Nat},s₁.heap.get? b=some o->o.data=.dict i A->H b=none:=fun {b o i A} e d=>by
   cases q:H b with
   | none=>rfl
   | some u=>
    have B:b=a:=I b (by rw[q];simp)
    subst B;rw[ha] at e;cases e
    have N:Data.seq vs.toArray _=Data.dict i A:=d
    cases N
  have f:∀ {b:Addr} {m:Str->Option Value},s₁.heap.Ns b m->(sF s₁.heap H).Ns b m:=fun {b m} ⟨o,i,A,e,d,r⟩=>⟨o,i,A,c e (C e d),d,r⟩;have t:K.In (sF s₁.heap H):=fun b o e=>c (KX b o e) (by
   cases q:H b with
   | none=>rfl
   | some u=>
    have B:b=a:=I b (by rw[q];simp)
    subst B;rw[T (by rw[q];simp)] at e;cases e)
  have O:Mod K mg (sF s₁.heap H):=⟨t,f hns,⟨mb,f hb,hbb⟩,let ⟨mc,h1,h2⟩:=hlim;⟨mc,f h1,h2⟩⟩;have S:yc P w K mg (sF s₁.heap H) callerA [] s₁ H:=⟨rfl,O,fun b o e=>IC e,Nat.le_of_eq (BQ _ _),trivial,fun b hb=>absurd (show b∈([]:List Addr) from hb) (by simp),D,.of_eq hg⟩
  refine Ut ((F _ t (f hns)).run callerA [] s₁ H ⟨[.ref a],[]⟩ [.ref a] [.ref a] _ _ hr S (hbind s₁ (.ref a)) (.cons rfl .nil) (hsp H G Q)) fun r s' h=>?_
  cases r with
  | error e=>exact(hCX H e s' h).elim
  | ok L=>
   cases L with
   | next=>exact False.elim h
   | brk=>exact False.elim h
   | cont=>exact False.elim h
   | ret u=>
    obtain⟨v,X,os,j,un,p,U,q⟩:=h;have R:v=.bl true:=q;subst R;obtain rfl:u=Value.bool true:=U;refine⟨rfl,OldK.of_keep fun b o e=>?_,os,j⟩
    cases q:H b with
    | none=>exact un.keep b o e q (by intro z;exact absurd (show b∈([]:List Addr) from z) (by simp)) (by simp)
    | some u=>
     rcases G b with z | ⟨ob,W,z⟩
     ·rw[q] at z;cases z
     ·have M:=un.uQ b ob _ z;obtain⟨E,_⟩:=D b _ z;obtain⟨e2,_⟩:=p b _ M;rw[e] at E;cases E
      exact e2
 cases hk:K.lookup a with
 | some o=>
  have e:=KX a o hk;rw[ha] at e
  cases e
  refine g (fun _=>none) (fun _=>.inl rfl) (.inr ⟨_,vs.toArray,_,hk,rfl,rfl,rfl,by rw[gd,l];exact hl,by simpa using J⟩) (fun b u z=>by have y:(none:Option HO)=some u:=z;cases y) (fun b z=>absurd rfl z) fun z=>absurd rfl z
 | none=>
  refine g (fun b=>if b=a then some (.iW {cls:=.type "list",data:=.seq vs.toArray} (.lst (ns.map V.int))) else none) (fun b=>?_) (.inl (.inr ⟨{cls:=.type "list",data:=.seq vs.toArray},if_pos rfl⟩)) (fun b u z=>?_) (fun b z=>?_) fun _=>hk
  ·by_cases hb:b=a
   ·exact .inr ⟨_,_,if_pos hb⟩
   ·exact .inl (if_neg hb)
  ·by_cases hb:b=a
   ·have y:=(if_pos hb).symm.trans z
    cases y
    subst hb;exact⟨ha,by rw[b7];exact hl,vs,_,J,ha⟩
   ·have y:=(if_neg hb).symm.trans z
    cases y
  ·by_cases hb:b=a
   ·exact hb
   ·exact absurd (if_neg hb) z
theorem Jn {l:PySem.W.OpenLaw}{n k:Nat}{q:Program}{loose:List Str}{XP:(Str->Option Value)->Heap->Prop}{YP:World->Heap->Prop}{d:DefRec}{K:Params->Frag}{CX:World->DP}{sp:World->Sp} 
  (hn:l.most=some n) (hn2:n<=sizeLine) (hdf:d.params.defaults=[]) (hr:cB k callerA)
  (hY:∀ (w:World) (h:Heap),YP w h->(K w.params).In h)
  (F:∀ (w:World) (mg:Str->Option Value) (fa:Addr) (h:Heap),(K w.params).In h->h.Ns mainGlobals mg->mg d.name=some (.ref fa)->
   ∃ fd:FuncData,(∀ (s:Shared) (u:Value),BindsTo s fd ⟨[u],[]⟩ [(x,u)])/\
    ∀ base:Heap,(K w.params).In base->base.Ns mainGlobals mg->ft l.prog w (K w.params) mg base (CX w) k fa fd [x] (sp w))
  (hsp:∀ (w:World) (H:Hp) (a:Addr) (ns:List Int),ns.length<=n->Ny H->aw (K w.params) H a (ns.map V.int)->sp w [.ref a] H (fun v _=>v=.bl true) fun _ _ _=>False)
  (hCX:∀ (w:World) (H:Hp) (s:Shared) (e:Value) (s':Shared),CX w [] H s (fun _ _ _=>False) e s'->False) :
  PySem.W.WalkO q loose XP YP l.row.toRowW d [] (fun f vs=>PySem.call f vs):=by
 refine Att.vy hn hdf fun w E y mg mb fa o J L A a vs ns G Y I D r m j i c B=>?_;have p:=hY w _ Y;obtain⟨fd,hb,t⟩:=F w mg fa _ p G.T.g m;exact Et p G.T.g G.T.b G.T.builtins G.T.nolimit B j i (j5 c hn2) hr t hb (fun H z C=>hsp w H a ns c z C) fun H e s'=>hCX w H y e s'
def bw (s:Stmt):Arguments:=match s with
 | .FunctionDef _ a _ _ _ _ _ _ _ _=>a
 | _=>{posonlyargs:=[],args:=[],vararg:=none,kwonlyargs:=[],kw_defaults:=[],kwarg:=none,defaults:=[]}
def aY (s:Stmt):List Stmt:=match s with
 | .FunctionDef _ _ b _ _ _ _ _ _ _=>b
 | _=>[]
def aj (s:Stmt):Scope:=match s with
 | .FunctionDef _ _ _ _ _ _ sc _ _ _=>sc
 | _=>{kind:=.function,names:=[],isGenerator:=false,isCoroutine:=false}
abbrev B9:DP:=fun _ _ _ _ _ _=>False
abbrev E0:XK:=fun _ _ _=>False
theorem Lg {X:Cx}:Passes B9 X E0:=fun _ _ _ _ _ _ _ h=>h.elim
structure Iq (K:Frag)(x qual:Str)(st:Stmt)(f:Addr)(fd:FuncData):Prop where
 ex:∃ (oc:Value) (od:Option Addr) (kV doc pm:Value) (an:Option Addr) (cU ct:Value) (osl:Array (Option Value)),
  fd=fnOf x qual (bw st) (aY st) (aj st) .none kV doc pm an cU ct/\K.lookup f=some ⟨oc,od,.func fd,osl⟩/\codeIn K cU qual=true
 kp:keepIn K (.ref f)=true
variable {w:World}{K:Frag}{mg:Str->Option Value}{base:Heap}
theorem Iq.ok {qual:Str}{st:Stmt}{f:Addr}{fd:FuncData}{N ps:List Str}{k:Nat}{sp:Sp}(F:Iq K x qual st f fd)(S:kB N ps (aj st))(len:∀ vs H Q E,sp vs H Q E->vs.length=ps.length)
  (eY:∀ (cU:Value) (A:Around) (outer:List Env) (s:Shared) (H:Hp) (vs:List V) (Q:VK) (E:XK),cB k (A.deeper (envOfC qual (aj st) s.heap.objs.size f cU))->sp vs H Q E->
   ∃ t,xK (vw B9 P w K mg base N qual (aj st) f cU A outer s H E).Ld (aY st) t/\t {nx:=fun _ H'=>Q .bx H',rt:=Q} (start N vs) H):ft P w K mg base B9 (k+1) f fd ps sp:=by
 obtain⟨i,j,kV,e,l,m,cU,ct,d,rfl,c,a⟩:=F.ex;refine Eh c a S len fun A outer s H vs Q E g b=>?_;obtain⟨t,h,q⟩:=eY cU A outer s H vs Q E g b;exact⟨t,h.Ld,q⟩
theorem Iq.binds {qual:Str}{st:Stmt}{f:Addr}{fd:FuncData}{ps:List Str}(F:Iq K x qual st f fd)
  (h:∀ (kV doc pm:Value) (an:Option Addr) (cU ct:Value) (us:List Value),us.length=ps.length->bindArgs (fnOf x qual (bw st) (aY st) (aj st) .none kV doc pm an cU ct) ⟨us,[]⟩=pure (ps.zip us)):Binds K fd ps []:=by
 obtain⟨e,c,kV,doc,pm,an,cU,ct,a,rfl,d,b⟩:=F.ex;exact .all (h kV doc pm an cU ct)
theorem yk {qual:Str}{st:Stmt}{f:Addr}{oc:Value}{od an:Option Addr}{osl:Array (Option Value)}{kV doc pm cU ct:Value}(l:K.lookup f=some ⟨oc,od,.func (fnOf x qual (bw st) (aY st) (aj st) .none kV doc pm an cU ct),osl⟩)
  (c:codeIn K cU qual=true) (k:keepIn K (.ref f)=true):Iq K x qual st f (fnOf x qual (bw st) (aY st) (aj st) .none kV doc pm an cU ct):=⟨⟨oc,od,kV,doc,pm,an,cU,ct,osl,rfl,l,c⟩,k⟩
theorem az {n:Nat}(h:n<=1000):n<sizeLine:=I1 h (by decide)
variable {B:Prop}
theorem bU {c A:Prop}[Decidable c](h1:c->A)(h2:¬ c->B):if c then A else B:=by
 by_cases h:c
 ·rw[if_pos h];exact h1 h
 ·rw[if_neg h];exact h2 h
def ah (H H':Hp):Prop:=∀ b o,H b=some o->H' b=some o
theorem ah.refl (H:Hp):ah H H:=fun _ _ h=>h
variable {H2:Hp}
theorem ah.trans {H H1:Hp}(a:ah H H1)(b:ah H1 H2):ah H H2:=fun c o h=>b c o (a c o h)
theorem ah.free {H H':Hp}(e:ah H H'){l:Addr}(h:H' l=Option.none):H l=Option.none:=by
 cases q:H l with
 | none=>rfl
 | some o=>
  rw[e l o q] at h
  cases h
theorem ah.seq {H H':Hp}{xs:List V}(e:ah H H')(h:aw K H a xs):aw K H' a xs:=by
 rcases h with (h | ⟨o,h⟩) | h
 ·exact .inl (.inl (e _ _ h))
 ·exact .inl (.inr ⟨o,e _ _ h⟩)
 ·exact .inr h
variable {κ:Type}[DecidableEq κ]
def cY (kvs:List (κ × V))(k:κ):Option V:=(kvs.find? fun kv=>decide (kv.1=k)).map (·.2)
def putK (kvs:List (κ × V))(k:κ)(v:V):List (κ × V):=
 if (kvs.any fun kv=>decide (kv.1=k))=true then kvs.map (fun kv=>if kv.1=k then (kv.1,v) else kv) else kvs++[(k,v)]
theorem Eu {k:κ}:cY ([]:List (κ × V)) k=none:=rfl
theorem cL {p:κ × V}{r:List (κ × V)}{k:κ}(e:p.1=k):cY (p::r) k=some p.2:=by simp[cY,find?_cons,e]
theorem cM {p:κ × V}{r:List (κ × V)}{k:κ}(e:¬ p.1=k):cY (p::r) k=cY r k:=by simp[cY,find?_cons,e]
theorem iH (k:κ):∀ kvs:List (κ × V),(kvs.any fun kv=>decide (kv.1=k))=(cY kvs k).isSome
 | []=>rfl
 | p::r=>by
  rw[any_cons]
  by_cases e:p.1=k
  ·simp only[cL e,decide_eq_true e,Bool.true_or,isSome_some]
  ·rw[cM e,ek e,Bool.false_or];exact iH k r
theorem vz (k j:κ)(y:V):∀ kvs:List (κ × V),cY (kvs.map fun kv=>if kv.1=k then (kv.1,y) else kv) j=(cY kvs j).map fun x=>if j=k then y else x
 | []=>rfl
 | p::r=>by
  have a:=vz k j y r;rw[pS]
  by_cases h:p.1=k
  ·rw[if_pos h]
   by_cases e:p.1=j
   ·rw[cL (p:=(p.1,y)) e,cL e,map_some,if_pos (e.symm.trans h)]
   ·rw[cM (p:=(p.1,y)) e,cM e,a]
  ·rw[if_neg h]
   by_cases e:p.1=j
   ·rw[cL (p:=p) e,cL e,map_some,if_neg (fun z=>h (e.trans z))]
   ·rw[cM (p:=p) e,cM e,a]
theorem rA (k j:κ)(y:V):∀ kvs:List (κ × V),cY kvs k=none->cY (kvs++[(k,y)]) j=if j=k then some y else cY kvs j
 | [],_=>by
  by_cases e:k=j
  ·rw[if_pos e.symm];exact cL (p:=(k,y)) e
  ·rw[if_neg (fun z=>e z.symm)];exact cM (p:=(k,y)) e
 | p::r,hn=>by
  rw[cons_append];have hk:¬ p.1=k:=fun z=>by rw[cL z] at hn;cases hn
  rw[cM hk] at hn;have a:=rA k j y r hn
  by_cases e:p.1=j
  ·rw[cL e,cL e,if_neg (fun z=>hk (e.trans z))]
  ·rw[cM e,cM e,a]
theorem Ew (kvs:List (κ × V))(k j:κ)(y:V):cY (putK kvs k y) j=if j=k then some y else cY kvs j:=by
 unfold putK
 by_cases a:(kvs.any fun kv=>decide (kv.1=k))=true
 ·rw[if_pos a,vz];rw[iH] at a
  by_cases e:j=k
  ·obtain⟨x,hx⟩:=Option.isSome_iff_exists.mp a;rw[if_pos e,e,hx,map_some,if_pos rfl]
  ·rw[if_neg e]
   cases cY kvs j with
   | none=>rfl
   | some x=>rw[map_some,if_neg e]
 ·rw[if_neg a];refine rA k j y kvs ?_;rw[iH] at a
  cases q:cY kvs k with
  | none=>rfl
  | some x=>rw[q] at a;exact(a rfl).elim
theorem mK (kvs:List (κ × V))(k:κ)(v:V):(putK kvs k v).length<=kvs.length+1:=by
 unfold putK
 split
 ·rw[b7];omega
 ·rw[fz,ot,length_nil];omega
theorem Ex {kvs:List (κ × V)}{k:κ}(v:V)(h:cY kvs k=none):putK kvs k v=kvs++[(k,v)]:=by
 unfold putK;rw[iH,h];exact if_neg (by decide)
variable {o:Option V}
theorem iD.ju {u:Option Value}(r:iD o u):o.isSome=u.isSome:=by
 cases o with
 | none=>cases u with
  | none=>rfl
  | some _=>exact(show False from r).elim
 | some _=>cases u with
  | none=>exact(show False from r).elim
  | some _=>rfl
theorem KV.val {kvs:List (κ × V)}{vs:List (κ × Value)}(r:KV kvs vs)(k:κ):iD (cY kvs k) (valueAt vs k):=by
 unfold KV at r
 induction r with
 | nil=>exact True.intro
 | @cons p q g c h t d=>
  obtain⟨h1,f⟩:=h
  by_cases e:p.1=k
  ·have a:q.1=k:=h1.symm.trans e;have b:valueAt (q::c) k=some q.2:=by simp[valueAt,find?_cons,a]
   rw[cL e,b];exact f
  ·have a:¬ q.1=k:=fun z=>e (h1.trans z);have b:valueAt (q::c) k=valueAt c k:=by simp[valueAt,find?_cons,a]
   rw[cM e,b];exact d
theorem KV.any {kvs:List (κ × V)}{vs:List (κ × Value)}(r:KV kvs vs)(k:κ):(kvs.any fun kv=>decide (kv.1=k))=vs.any fun kv=>decide (kv.1=k):=by
 unfold KV at r
 induction r with
 | nil=>rfl
 | cons h t a=>rw[any_cons,any_cons,a,h.1]
theorem KV.Nz {kvs:List (κ × V)}{vs:List (κ × Value)}(r:KV kvs vs)(k:κ){y:V}{u:Value}(ry:RelV y u) :
  KV (kvs.map fun kv=>if kv.1=k then (kv.1,y) else kv) (vs.map fun kv=>if kv.1=k then (kv.1,u) else kv):=by
 unfold KV at r ⊢
 induction r with
 | nil=>exact .nil
 | @cons p q c d h t a=>
  rw[pS,pS];refine .cons ?_ a;obtain⟨h1,b⟩:=h
  by_cases e:p.1=k
  ·rw[if_pos e,if_pos (h1.symm.trans e)];exact⟨h1,ry⟩
  ·rw[if_neg e,if_neg (fun z=>e (h1.trans z))];exact⟨h1,b⟩
theorem KV.put {kvs:List (κ × V)}{vs:List (κ × Value)}(r:KV kvs vs)(k:κ){y:V}{u:Value}(ry:RelV y u):KV (putK kvs k y) (stored vs k u):=by
 unfold putK stored;rw[r.any k]
 by_cases e:(vs.any fun kv=>decide (kv.1=k))=true
 ·rw[if_pos e,if_pos e];exact r.Nz k ry
 ·rw[if_neg e,if_neg e];exact Paired.snoc r ⟨rfl,ry⟩
theorem KV.keys {kvs:List (κ × V)}{vs:List (κ × Value)}(r:KV kvs vs):kvs.map (·.1)=vs.map (·.1):=by
 unfold KV at r
 induction r with
 | nil=>rfl
 | cons h t a=>rw[pS,pS,a,h.1]
theorem KV.length {kvs:List (κ × V)}{vs:List (κ × Value)}(r:KV kvs vs):kvs.length=vs.length:=Paired.length r
theorem rC {k:Key}{u:Value}(r:RelV (kV k) u):(bT P w).is k u=true:=by
 cases k with
 | inl i=>obtain⟨t,e⟩:=(show ∃ t,u=Value.int i t from r);subst e;exact vh P w i t
 | inr x=>obtain⟨t,e⟩:=(show ∃ t,u=Value.str x t from r);subst e;exact bM P w x t
theorem rD {P:Program}{w:World}:∀ {ks:List Key} {us:List Value},Vals (ks.map kV) us->ItemsAre (bT P w) ks us
 | [],_,r=>by rw[map_nil] at r;cases r;exact .nil
 | k::ks,_,r=>by
  rw[pS] at r
  cases r with
  | cons h t=>exact .cons (rC h) (rD t)
abbrev KT (H:Hp):List (List Key × V)->List (List Key × Addr × Value)->Prop:=Paired fun p q=>p.1=q.1/\H q.2.1=some (.tup (p.1.map kV))/\RelV p.2 q.2.2
variable {xs:List (List Key × Addr × Value)}{kvs:List (List Key × V)}
theorem KT.val {H:Hp}(r:KT H kvs xs)(k:List Key):iD (cY kvs k) ((atKey xs k).map (·.2)):=by
 induction r with
 | nil=>exact True.intro
 | @cons p q g c h t d=>
  obtain⟨h1,_,f⟩:=h
  by_cases e:p.1=k
  ·have a:q.1=k:=h1.symm.trans e;have b:atKey (q::c) k=some q.2:=by simp[atKey,find?_cons,a]
   rw[cL e,b];exact f
  ·have a:¬ q.1=k:=fun z=>e (h1.trans z);have b:atKey (q::c) k=atKey c k:=by simp[atKey,find?_cons,a]
   rw[cM e,b];exact d
theorem KT.Nz {H:Hp}(r:KT H kvs xs)(k:List Key){y:V}{u:Value}(ry:RelV y u) :
  KT H (kvs.map fun kv=>if kv.1=k then (kv.1,y) else kv) (xs.map (putAt k u)):=by
 induction r with
 | nil=>exact .nil
 | @cons p q d f h t b=>
  rw[pS,pS];refine .cons ?_ b;obtain⟨h1,a,c⟩:=h;unfold putAt
  by_cases e:p.1=k
  ·rw[if_pos e,if_pos (h1.symm.trans e)];exact⟨h1,a,ry⟩
  ·rw[if_neg e,if_neg (fun z=>e (h1.trans z))];exact⟨h1,a,c⟩
theorem KT.put {H:Hp}(r:KT H kvs xs)(k:List Key){b:Addr}{y:V}{u:Value}(hb:H b=some (.tup (k.map kV)))(ry:RelV y u) :
  KT H (putK kvs k y) (storedH xs k b u):=by
 have e:(kvs.any fun kv=>decide (kv.1=k))=(atKey xs k).isSome:=by
  rw[iH,(r.val k).ju,isSome_map]
 unfold putK storedH;rw[e]
 by_cases q:(atKey xs k).isSome=true
 ·rw[if_pos q,if_pos q];exact r.Nz k ry
 ·rw[if_neg q,if_neg q];exact Paired.snoc r ⟨rfl,hb,ry⟩
theorem KT.keeps {H H':Hp}(r:KT H kvs xs)(ht:∀ b ys,H b=some (.tup ys)->H' b=some (.tup ys)):KT H' kvs xs:=
 Paired.MH r fun _ _ z=>⟨z.1,ht _ _ z.2.1,z.2.2⟩
variable {H:Hp}{h:Heap}
theorem Lh {u:HO}(ok:jQ P w H h)(e:Rd H a u):bA P w H h a u:=e.ok ok
variable {kvs:List (Key × V)}
theorem vA (ok:jQ P w H h)(e:Rd H a (.dK kvs)):kvs.length<=sizeLine/\(a == sysModules)=false/\∃ vs,KV kvs vs/\h.DictOf (bT P w) a vs:=
 show bA P w H h a (.dK kvs) from Lh ok e
theorem Li (ok:jQ P w H h)(e:H a=some (.dK kvs)):kvs.length<=sizeLine/\(a == sysModules)=false/\∃ vs,KV kvs vs/\h.DictOf (bT P w) a vs:=vA ok (.inl e)
theorem sT {ks:List Key}(ok:jQ P w H h)(e:H a=some (.tup (ks.map kV))):(tupleKind (bT P w)).is h ks a:=by
 obtain⟨_,b,r,o,h1,c,n,d⟩:=(show bA P w H h a (.tup (ks.map kV)) from ok a _ e)
 exact⟨o,b.toArray,n,h1,c,d,by simpa using rD r⟩
variable {kvs:List (List Key × V)}
theorem AE (ok:jQ P w H h)(e:Rd H a (.dT kvs)):kvs.length<=sizeLine/\(a == sysModules)=false/\
  ∃ xs,KT H kvs xs/\h.DictOfH (tupleKind (bT P w)) a xs:=by
 obtain⟨z,y,xs,r,o,b,d,h1,i,j,f,g⟩:=(show bA P w H h a (.dT kvs) from Lh ok e)
 refine⟨z,y,xs,r,o,b,d,h1,i,j,f,fun x hx=>?_,g⟩;have all:∀ {l:List (List Key × V)} {m:List (List Key × Addr × Value)},KT H l m->∀ x∈m,(tupleKind (bT P w)).is h x.1 x.2.1:=by
  intro l m q
  induction q with
  | nil=>intro x hx;exact nomatch hx
  | @cons p q n s hq t c=>
   intro x hx
   rcases h9.mp hx with e | hx
   ·subst e;exact sT ok (by rw[<-hq.1];exact hq.2.1)
   ·exact c x hx
 exact all r x hx
theorem PF (ok:jQ P w H h)(e:H a=some (.dT kvs)):kvs.length<=sizeLine/\(a == sysModules)=false/\
  ∃ xs,KT H kvs xs/\h.DictOfH (tupleKind (bT P w)) a xs:=AE ok (.inl e)
def jS (H:Hp)(a:Addr)(y:V)(r:Option V):Prop:=
 (∃ kvs k,Rd H a (.dK kvs)/\y=kV k/\r=cY kvs k)∨∃ kvs k b,Rd H a (.dT kvs)/\y=.ref b/\H b=some (.tup (k.map kV))/\r=cY kvs k
def sV (H:Hp)(a:Addr)(y v:V)(H':Hp):Prop:=
 (∃ kvs k,H a=some (.dK kvs)/\y=kV k/\kvs.length<sizeLine/\H'=upd H a (.dK (putK kvs k v)))∨
 ∃ kvs k b,H a=some (.dT kvs)/\y=.ref b/\H b=some (.tup (k.map kV))/\kvs.length<sizeLine/\H'=upd H a (.dT (putK kvs k v))
theorem jS.k {H:Hp}{a:Addr}{kvs:List (Key × V)}{k:Key}(e:H a=some (.dK kvs)):jS H a (kV k) (cY kvs k):=.inl ⟨kvs,k,.inl e,rfl,rfl⟩
theorem sV.k {H:Hp}{a:Addr}{kvs:List (Key × V)}{k:Key}{v:V}(e:H a=some (.dK kvs))(hl:kvs.length<sizeLine):sV H a (kV k) v (upd H a (.dK (putK kvs k v))):=.inl ⟨kvs,k,e,rfl,hl,rfl⟩
variable {X:Cx}{pins:List (Addr × Obj)}{s:Shared}{σ:St}
theorem Inv.big (I:Inv X pins σ H s):sysModules<s.heap.objs.size:=by
 have h:mainGlobals<s.heap.objs.size:=(I.mod.glob.keeps I.bk).lt;exact TV (by decide) h
variable {y v:V}{u:Value}{A:Around}{E:Value->Shared->Prop}
theorem Cc {Q:Value->Shared->Prop}(hu:A.units+1<cLine)(I:Inv X pins σ H s)(g:jS H a y (some v))(ry:RelV y u)(h:∀ w' s',Inv X pins σ H s'->RelV v w'->Q w' s') :
  wpAny (model X.prog X.w) A (getItem (.ref a) u) Q E s:=by
 rcases g with ⟨j,k,e,i,l⟩ | ⟨j,k,b,e,i,q,l⟩
 ·subst i;obtain⟨z,t,r,c,m⟩:=vA I.bh e;obtain⟨w',n,d⟩:=iD.some_of (v:=v) (o:=valueAt r k) (by rw[l];exact c.val k)
  exact wpAny_getItem_of (rC ry) m.mapOf n (h w' _ (I.tok _) d)
 ·subst i
  cases (show u=Value.ref b from ry)
  obtain⟨z,t,B,c,m⟩:=AE I.bh e;obtain⟨w',n,d⟩:=iD.some_of (v:=v) (o:=(atKey B k).map (·.2)) (by rw[l];exact c.val k)
  obtain⟨p,x,f⟩:=Option.map_eq_some_iff.mp n;refine wpAny_getItem_heap (tupleKind_room_in1 hu) (sT I.bh q) m x ?_;rw[f];exact h w' _ (I.tok _) d
theorem Sr {Q:Value->Shared->Prop}(hu:A.units+1<cLine)(I:Inv X pins σ H s)(g:jS H a y o)(ry:RelV y u)(h:∀ s',Inv X pins σ H s'->Q (.bool o.isSome) s') :
  wpAny (model X.prog X.w) A (compareOp .In u (.ref a)) Q E s:=by
 rcases g with ⟨f,k,e,d,l⟩ | ⟨f,k,b,e,d,m,l⟩
 ·subst d;obtain⟨z,j,n,c,i⟩:=vA I.bh e;refine wpAny_in_of (rC ry) j i.mapOf ?_;rw[<-(c.val k).ju,<-l];exact h _ (I.tok _)
 ·subst d
  cases (show u=Value.ref b from ry)
  obtain⟨z,j,p,c,i⟩:=AE I.bh e;refine wpAny_in_heap (tupleKind_room_in1 hu) (sT I.bh m) j i ?_;have q:=(c.val k).ju;rw[isSome_map] at q;rw[<-q,<-l];exact h _ (I.tok _)
theorem AF {h':Heap}{t':Nat}{ob:HO}(I:Inv X pins σ H s)(mu:Pf (H a))(hs:SameBut a s.heap h')(he:∃ q,h'.get? a=some q)(new:bA X.prog X.w (upd H a ob) h' a ob) :
  Inv X pins σ (upd H a ob) {s with heap:=h',toks:=t'}:=
 I.write (x:=a) (e:=a) mu (.inl rfl) (fun b q hb z=>(hs.2 b hb).trans z) he new
variable {kvs:List (Key × V)}
theorem NA {H':Hp}{h':Heap}{vs:List (Key × Value)}(z:kvs.length<=sizeLine)(hd:(a == sysModules)=false)(rel:KV kvs vs)(dd:h'.DictOf (bT P w) a vs) :
  bA P w H' h' a (.dK kvs):=⟨z,hd,vs,rel,dd⟩
variable {r:Value}
theorem Cd {H':Hp}{Q:Unit->Shared->Prop}(hu:A.units+1<cLine)(I:Inv X pins σ H s)(g:sV H a y v H')(ry:RelV y u)(rv:RelV v r)(h:∀ s',Inv X pins σ H' s'->Q () s') :
  wpAny (model X.prog X.w) A (setItem (.ref a) u r) Q E s:=by
 rcases g with ⟨f,k,e,j,l,o⟩ | ⟨f,k,b,e,j,B,l,o⟩
 ·subst j o;obtain⟨z,n,F,d,m⟩:=Li I.bh e;have hz:F.length<=sizeLine:=by rw[<-d.length];exact z
  have p:(putK f k v).length<=sizeLine:=by have:=mK f k v;omega
  refine wpAny_setItem_pairs (hsz:=hz) (rC ry) m fun x i t=>h _ ?_;have he:∃ q,x.get? a=some q:=let ⟨q,_,_,hq,_⟩:=i;⟨q,hq⟩;exact AF I (by rw[e];exact True.intro) t he (NA p n (d.put k rv) i)
 ·subst j o
  cases (show u=Value.ref b from ry)
  obtain⟨z,n,M,d,m⟩:=PF I.bh e;have hz:M.length<=sizeLine:=by rw[<-Paired.length d];exact z
  have p:(putK f k v).length<=sizeLine:=by have:=mK f k v;omega
  refine wpAny_setItem_heap (hsz:=hz) (tupleKind_room_in1 hu) (sT I.bh B) m fun x i t=>h _ ?_;obtain⟨q,D,N,hq,L,K,G,_,J⟩:=i;refine AF I (by rw[e];exact True.intro) t ⟨q,hq⟩ ⟨p,n,_,(d.put k B rv).keeps fun c O C=>?_,q,D,N,hq,L,K,G,J⟩
  rw[aH (ik C e (fun z=>nomatch z))];exact C
theorem PH {Q:Value->Shared->Prop}(I:Inv X pins σ H s)(e:Rd H a (.dK kvs))(h:∀ t s',Inv X pins σ H s'->Q (.int kvs.length t) s'):wpAny (model X.prog X.w) A (call (.builtin "len") [.ref a]) Q E s:=by
 obtain⟨z,c,f,b,d⟩:=vA I.bh e;refine call_len_dict c d (by rw[<-b.length];rw[sizeLine_eq] at z;omega) ?_
 rw[<-b.length];exact h _ _ (I.tok _)
def Jo (i:Expr):Prop:=∀ ov iv,subscripted i false ov iv=operate [ov,iv] (getItem ov iv)
variable {value:Expr}
theorem AG {prog:Program}{env:Env}{slice:Expr}{pos:Pos}{T id:String}{Q:Value->Shared->Prop}
  (hl:typeLookup (.type T) "__getitem__"=pure (some (.builtin id))) (hs:Jo slice)
  (h:wpAny (model prog w) A (eval value env) (fun o s₁=>wpAny (model prog w) A (eval slice env) (fun i s₂=>s₂.TypeIs o T/\wpAny (model prog w) A (getItem o i) Q E s₂) E s₁) E s) :
  wpAny (model prog w) A (eval (.Subscript value slice pos) env) Q E s:=by
 refine Subscript_ (FS h (fun o s₁ f=>FS f (fun i s₂ b=>?_) fun _ _ x=>x) fun _ _ x=>x);obtain⟨d,b⟩:=b;unfold subscriptTail;refine dy ?_;rw[getitemInPython_of_ne d.not_modules];refine dy (wpAny_specialOf d hl ?_);have a:wpAny (model prog w) A (subscripted slice false o i) (fun r c=>wpAny (model prog w) A (letTemporaryGo value o r >>= fun _=>pure r) Q E c) E s₂:=by
  rw[hs o i];exact wpAny_operating (FS b (fun r c e=>dy (wpAny_letTemporaryGo (gc e))) fun _ _ x=>x)
 first
  | exact gc (dy a)
  | exact dy (gc (dy a))
  | exact dy a
theorem vB {σ:St}(I:Inv X pins σ H s)(g:jS H a y o):s.TypeIs (.ref a) "dict":=by
 rcases g with ⟨c,k,e,_,_⟩ | ⟨c,k,b,e,_,_,_⟩
 ·obtain⟨_,_,f,_,d⟩:=vA I.bh e;exact d.typeIs
 ·obtain⟨_,_,h,_,d⟩:=AE I.bh e;exact d.typeIs
def Ey (td ty:TE):TE:=fun σ H Q=>td σ H fun x H1=>ty σ H1 fun y b=>∃ a v,x=.ref a/\jS b a y (some v)/\Q v b
def Jp (ty td:TE):TE:=fun σ H Q=>ty σ H fun y H1=>td σ H1 fun x b=>∃ a o,x=.ref a/\jS b a y o/\Q (.bl o.isSome) b
def Ez (td ty tv:TE):TS:=fun D σ H=>tv σ H fun v H1=>td σ H1 fun x c=>ty σ c fun y b=>∃ a H4,x=.ref a/\sV b a y v H4/\D.nx σ H4
variable {o i:Expr}{pos:Pos}{td ty:TE}
theorem Jq (hu:X.A.units+1<cLine)(ho:PE X o td)(hi:PE X i ty)(hs:Jo i):PE X (.Subscript o i pos) (Ey td ty):=by
 intro b s σ H Q I h;refine AG PySem.F.slot_dict_getitem.lookup hs (bW (ho b s σ H _ I h) fun u n ⟨x,H1,e,q,j⟩=>bW (hi b n σ H1 _ e j) fun B z ⟨y,p,d,l,a,v,r,g,m⟩=>?_);subst r;obtain rfl:u=Value.ref a:=q;exact⟨vB d g,Cc hu d g l fun w t f c=>⟨v,p,f,c,m⟩⟩
theorem EA (hu:X.A.units+1<cLine)(hi:PE X i ty)(ho:PE X o td):PC X .In i o (Jp ty td):=by
 intro b s σ H Q I h;refine bW (hi b s σ H _ I h) fun w l ⟨y,H1,c,e,f⟩=>bW (ho b l σ H1 _ c f) fun u v ⟨x,m,r,n,a,q,p,g,j⟩=>?_;subst p;obtain rfl:u=Value.ref a:=n;exact Sr hu r g e fun t d=>⟨.bl q.isSome,m,d,rfl,j⟩
variable {pos':Pos}{tv:TE}
theorem Jr (hu:X.A.units+1<cLine)(ho:PE X o td)(hi:PE X i ty)(hv:PE X value tv)(hs:swapsWith value (some (.Subscript o i pos')) pos.line X.env=pure false) :
  PS X (.Assign [.Subscript o i pos'] value pos) (Ez td ty tv):=by
 intro b s σ H D I h;refine wpAny_Assign_Subscript (bW (hv b s σ H _ I h) fun r m ⟨v,H1,c,t,f⟩=>bW (ho b m σ H1 _ c f) fun u w ⟨x,p,C,q,l⟩=>bW (hi b w σ p _ C l) fun G E ⟨y,F,e,j,a,n,z,g,d⟩=>?_) hs;subst z;obtain rfl:u=Value.ref a:=q;exact Cd hu e g j t fun J B=>⟨σ,n,B,d⟩
theorem EB (h:Heap)(hb:sysModules<h.objs.size):bA P w H (h.push {cls:=.type "dict",data:=.dict #[]}) h.objs.size (.dK []):=
 ⟨zero_le _,Da.mpr (Ne.symm (mv hb)),[],.nil,Heap.DictOf.new h⟩
def yl:TE:=fun _ H Q=>∀ p,H p=none->Q (.ref p) (upd H p (.dK []))
theorem EC:PE X (.Dict [] [] pos) yl:=fun b s σ H Q I h=>
 wpAny_Dict_empty ⟨.ref s.heap.objs.size,_,I.laid (a:=s.heap.objs.size) (o:=.dK []) (t':=s.toks) (fun _ _ q=>ey _ q) (ed _) (EB s.heap I.big),rfl,h _ (I.bh.fresh (ed _))⟩
def rl (scope osc:Scope):Scope:=
 {scope with names:=scope.names.map fun (n,k)=>if (k == .free&&osc.kind == .function&&osc.names.lookup n == some .cell) then (n,.cell) else (n,k)}
def fU (env:Env):List (Str × NameKind)->List (Str × Addr)->List (Str × Addr)
 | [],a=>a
 | (n,k)::r,a=>if (k == NameKind.free)=true then fU env r ((n,(env.cells.lookup n).getD 0)::a) else fU env r a
theorem jJ {env:Env}:∀ (names:List (Str × NameKind)) (cs:List (Str × Addr)),(∀ x∈names,x.2=.free->∃ c,env.cells.lookup x.1=some c)->
  (forIn names cs fun (x:Str × NameKind) (r:List (Str × Addr))=>if (x.2 == NameKind.free)=true then (do let y<-cellOf env x.1;pure (ForInStep.yield ((x.1,y)::r))) else (pure (ForInStep.yield r):Sem _))=(pure (fU env names cs):Sem _)
 | [],cs,_=>rfl
 | (n,k)::r,cs,h=>by
  have d:=fun b=>jJ (env:=env) r b fun x hx=>h x (fA _ hx);rw[forIn_cons]
  by_cases hk:(k == NameKind.free)=true
  ·obtain⟨c,hc⟩:=h (n,k) fO (by simpa using hk)
   have a:env.cells.lookup n=some c:=hc;have e:cellOf env n=(pure c:Sem Addr):=by unfold cellOf;rw[a]
   simp only[hk,if_true,e,pure_bind];rw[d];have e2:fU env ((n,k)::r) cs=fU env r ((n,c)::cs):=by
    show (if (k == NameKind.free)=true then fU env r ((n,(env.cells.lookup n).getD 0)::cs) else fU env r cs)=_
    rw[if_pos hk,a]<;>rfl
   rw[e2]
  ·simp only[hk,if_false,pure_bind];show (forIn r cs _:Sem _)=_;rw[d];have e2:fU env ((n,k)::r) cs=fU env r cs:=by
    show (if (k == NameKind.free)=true then fU env r ((n,(env.cells.lookup n).getD 0)::cs) else fU env r cs)=_
    rw[if_neg hk]
   rw[e2]
theorem qb {scope:Scope}{env:Env}(h:∀ x∈scope.names,x.2=.free->∃ c,env.cells.lookup x.1=some c):closureFor scope env=pure (fU env scope.names []):=by
 have q:=jJ scope.names [] h;show ((forIn scope.names ([]:List (Str × Addr)) fun (x:Str × NameKind) (r:List (Str × Addr))=>if (x.2 == NameKind.free)=true then (do let y<-cellOf env x.1;pure (ForInStep.yield ((x.1,y)::r))) else (pure (ForInStep.yield r):Sem _)) >>= fun a=>pure a)=_
 rw[q,pure_bind]
theorem oq {env:Env}:∀ (names:List (Str × NameKind)) (cs:List (Str × Addr)),(∀ x∈names,x.2=.free->∃ c,env.cells.lookup x.1=some c)->(∀ x c,cs.lookup x=some c->env.cells.lookup x=some c)->
  ∀ x c,(fU env names cs).lookup x=some c->env.cells.lookup x=some c
 | [],_,_,h,x,c,e=>h x c e
 | (n,k)::r,cs,b,h,x,c,e=>by
  have f:∀ x∈r,x.2=.free->∃ c,env.cells.lookup x.1=some c:=fun x hx=>b x (fA _ hx);unfold fU at e
  by_cases hk:(k == NameKind.free)=true
  ·rw[if_pos hk] at e;obtain⟨g,hc⟩:=b (n,k) fO (by simpa using hk)
   have a:env.cells.lookup n=some g:=hc;refine oq r _ f (fun y d q=>?_) x c e;rw[TJ] at q
   cases hy:y == n with
   | true=>
    rw[hy] at q
    have:y=n:=by simpa using hy
    subst this;rw[a] at q
    cases q
    exact a
   | false=>rw[hy] at q;exact h y d q
  ·rw[if_neg hk] at e;exact oq r cs f h x c e
theorem lG {env:Env}:∀ (names:List (Str × NameKind)) (cs:List (Str × Addr)) (x:Str),(∃ c,cs.lookup x=some c)->∃ c,(fU env names cs).lookup x=some c
 | [],_,_,h=>h
 | (n,k)::r,cs,x,h=>by
  unfold fU
  split
  ·refine lG r _ x ?_;rw[TJ]
   cases hy:x == n with
   | true=>exact⟨_,rfl⟩
   | false=>exact h
  ·exact lG r cs x h
theorem kG {env:Env}:∀ (names:List (Str × NameKind)) (cs:List (Str × Addr)) (x:Str),(x,NameKind.free)∈names->∃ c,(fU env names cs).lookup x=some c
 | [],_,_,h=>(nomatch h)
 | (n,k)::r,cs,x,h=>by
  unfold fU
  rcases h9.mp h with e | h
  ·cases e
   rw[if_pos (by rfl)]
   exact lG r _ _ ⟨_,by rw[TJ,Up]⟩
  ·split
   ·exact kG r _ x h
   ·exact kG r cs x h
structure O5 (osc:Scope)(oN N:List Str)(scope:Scope)(fv:List (Option Nat)):Prop where
 kind:scope.kind=.function
 Tg:osc.kind=.function
 zY:∀ y∈scope.names,y.2≠.cell
 loc:∀ y∈scope.names,y.2=.local->scope.names.lookup y.1=some .local
 Tf:∀ y∈scope.names,y.2=.free->osc.names.lookup y.1=some .cell
 own:∀ y∈(rl scope osc).names,y.2≠.free
 len:fv.length=N.length
 up:∀ (i j:Nat),i<20->fv[i]?=some (some j)->oN[j]?=N[i]?/\∀ x,N[i]?=some x->(rl scope osc).names.lookup x=some .cell/\osc.names.lookup x=some .cell
 eD:N.length<20
def ym (fv:List (Option Nat))(σ:St):St:=fv.map fun o=>match o with
 | none=>none
 | some j=>(σ[j]?).join
def kH (X:Cx)(N:List Str)(scope:Scope)(cl:List (Str × Addr))(C:Addr)(fp:List Addr)(s:Shared)(H:Hp):Cx where
 prog:=X.prog
 w:=X.w
 K:=X.K
 mg:=X.mg
 base:=X.base
 A:=X.A
 N:=N
 s₀:=s
 H₀:=H
 env:=compEnvC scope cl C X.env
 outer:=X.stack
 stack:=X.stack
 ex:=fp
 fn:=fun _=>false
 calm:=true
 pn:=[]
 xe:=fun _ _=>False
def Lj (Y:Cx)(ifs:List Expr)(t:TT):Prop:=
 ∀ (pins:List (Addr × Obj)) (s:Shared) (σ:St) (H:Hp) (Q:Bool->Hp->Prop),Inv Y pins σ H s->t σ H Q->
  wpAny (model Y.prog Y.w) Y.A (forIn ifs true fun c r=>if r=true then do let ok<-isTrue c Y.env (eval c Y.env);pure (ForInStep.yield ok) else pure (ForInStep.yield r)) (TP Y pins σ Q) Y.xe s
def il:TT:=fun _ H Q=>Q true H
variable {Y:Cx}
theorem Js:Lj Y [] il:=fun _ _ _ H _ I h=>wpAny_tests_nil ⟨H,I,h⟩
theorem Jt {c:Expr}{t:TT}(h:PT Y c t):Lj Y [c] t:=fun a s σ H Q I b=>wpAny_tests_one (h a s σ H Q I b)
def sW (g:TG)(tc:TT)(te:TE)(τ0:St)(Q:VK):It->Hp->Prop:=fun J H1=>∀ acc,H1 acc=none->
 ∃ W:Nat->Nat->St->Hp->Prop,(∃ m,W 0 m τ0 (upd H1 acc (.lst [])))/\∀ i m τ H,W i m τ H->
  (J.stop i H/\Q (.ref acc) H)∨(J.go i H/\∃ N:St->Hp->Prop,(∀ τ' H',N τ' H'->∃ m',m' < m/\W (i+1) m' τ' H')/\
   ∀ x H',J.BM i H x H'->g x τ H' fun a e=>tc a e fun b c=>if b=true then te a c fun v d=>∃ ys,d acc=some (.lst ys)/\ys.length<sizeLine/\N a (upd d acc (.lst (ys++[v]))) else N a c)
variable {prog:Program}{R:Result->Shared->Prop}{elt target:Expr}{ifs:List Expr}
theorem iI {iter:Expr}{scope:Scope}{pos:Pos}{it acc:Value}{env:Env}(I:Nat->Shared->Prop)
  (turn:∀ n s,I n s->wpAny (model prog w) A (pyNext it) (fun r s₁=>match r with
   | none=>R (.ok .next) s₁
   | some v=>wpAny (model prog w) A (letOwnedTupleGo target it v) (fun _ s₁'=>wpAny (model prog w) A (assign target env v) (fun _ s₂=>
     wpAny (model prog w) A (forIn ifs true fun c r=>if r=true then do let ok<-isTrue c env (eval c env);pure (ForInStep.yield ok) else pure (ForInStep.yield r)) (fun ok s₃=>
      if ok=true then wpAny (model prog w) A (eval elt env) (fun x s₄=>
       wpAny (model prog w) A (call (.builtin "list.append") [acc,x]) (fun _ s₅=>∃ m,m<n/\I m s₅) (fun _ _=>False) s₄) (fun _ _=>False) s₃
      else ∃ m,m<n/\I m s₃) (fun _ _=>False) s₂) (fun _ _=>False) s₁') (fun _ _=>False) s₁) (fun _ _=>False) s)
  (n:Nat) (h:I n s) :
  codeAny (model prog w) A (.compLoop (.ListComp elt [⟨target,iter,ifs,0⟩] scope pos) 0 it acc env) R s:=by
 refine codeAny_loop rfl I (fun n s i=>?_) n h;show wpAny _ A ((compTurn (.ListComp elt [⟨target,iter,ifs,0⟩] scope pos) 0 it acc env).onRaise (fun x=>do noteFrame x env;theTreesLotGoes x)) _ _ s
 refine wpAny_noted ?_;rw[compTurn_list];refine dy (wpAny_standAt (dy (FS (turn n s i) (fun r s₁ e=>?_) fun _ _ a=>a.elim)))
 cases r with
 | none=>exact gc e
 | some v=>
  refine dy (FS e (fun _ s₁' b=>?_) fun _ _ a=>a.elim);refine dy (FS b (fun _ s₂ f=>dy (FS f (fun ok s₃ d=>?_) fun _ _ a=>a.elim)) fun _ _ a=>a.elim)
  cases ok with
  | false=>exact gc ⟨rfl,d⟩
  | true=>
   exact dy (dy (FS d (fun x s₄ g=>dy (FS g (fun _ s₅ j=>gc (gc ⟨rfl,j⟩)) fun _ _ a=>a.elim)) fun _ _ a=>a.elim))
theorem vC {σ:St}{j:Nat}(h:(σ[j]?).join=some v):σ[j]?=some (some v):=by
 cases e:σ[j]? with
 | none=>rw[e] at h;cases h
 | some o=>rw[e] at h;exact On some h
variable {scope:Scope}{N:List Str}{fv:List (Option Nat)}
theorem Ju {σ:St}{s4:Shared}{fp:List Addr}{C:Addr}{m:Str->Option Value}(hc:X.calm=true)(S:O5 X.env.scope X.N N scope fv)(I:Inv X pins σ H s)(hC:s.heap.objs.size<=C)
  (hf:∀ b∈fp,b<s.heap.objs.size/\kx X pins H b) (hk:∀ b o,s.heap.get? b=some o->s4.heap.get? b=some o) (hn:s4.heap.Ns C m) (hos:s4.os=s.os) (hg:s4.gens=s.gens) :
  Inv (kH X N scope (fU X.env scope.names []) C fp s H) [] (ym fv σ) H s4:=by
 have A:∀ x∈scope.names,x.2=.free->∃ c,X.env.cells.lookup x.1=some c:=fun x hx e=>I.ok.has x.1 (.inl (S.Tf x hx e));have g:=oq scope.names [] A (fun _ _ e=>nomatch e);have T:=I.sz;have fresh:∀ a,s.heap.objs.size<=a->H a=none:=fun a ha=>I.bh.fresh ha;refine⟨⟨I.ok.mod,S.kind,I.ok.glob,I.ok.blt,hC,fun x y c K e2=>I.ok.inj x y c (g x c K) (g y c e2),fun x hx=>?_,fun x c z _=>(nomatch z),fun _=>I.ok.hd hc,I.ok.frames,.inl rfl,fun b hb=>⟨?_,fun x c e=>(hf b hb).2.2.2.2.2.1 x c (g x c e)⟩,
   I.bs,j5 I.ok.K8 T,fun b o e hb=>?_,fun b hb z=>?_,I.stack,I.Am⟩,
  hos,?_,Un.kept hk,⟨m,hn,fun i x v K e2 e3=>?_⟩,fun x c e=>?_,fresh C hC,fun x c e=>I.jO x c (g x c e),fun p Y=>absurd (show p∈([]:List (Addr × Obj)) from Y) (by simp),I.bh.kept hk,?_⟩
 ·have U:(rl scope X.env.scope).names.lookup x=some .cell∨(rl scope X.env.scope).names.lookup x=some .free:=hx
  rcases U with e | e
  ·have hm:=KF e;obtain⟨⟨n,k⟩,h,M⟩:=kc.mp hm;have f:(if (k == NameKind.free&&X.env.scope.kind == .function&&X.env.scope.names.lookup n == some .cell)=true then (n,NameKind.cell) else (n,k))=(x,NameKind.cell):=M
   by_cases d:(k == NameKind.free&&X.env.scope.kind == .function&&X.env.scope.names.lookup n == some .cell)=true
   ·rw[if_pos d] at f;have O:n=x:=On Prod.fst f;have w:k=NameKind.free:=by
     rw[gz,gz] at d
     simpa using d.1.1
    subst O w;exact kG scope.names [] n h
   ·rw[if_neg d] at f;have w:k=NameKind.cell:=On Prod.snd f;exact absurd w (S.zY _ h)
  ·exact absurd rfl (S.own _ (KF e))
 ·exact mv (j6 (hf b hb).1 hC)
 ·rcases(hf b hb).2.2.2.2.1 with z | z
  ·exact I.ok.DB b o e z
  ·exact absurd (j6 (lt_size e) (j5 I.ok.K8 z)) (M2 _)
 ·rcases h9.mp (I.xR b z) with q | q
  ·exact(hf b hb).2.2.1 q
  ·exact(hf b hb).2.2.2.1 q
 ·show AllBare s4.gens;rw[hg];exact I.bare
 ·have W:i<fv.length:=by
   have:=(nt.mp e2).1
   unfold ym at this
   rwa [b7] at this
  have G:i<20:=by have:=S.eD;have:=S.len;omega
  unfold ym at e2;rw[eG] at e2
  cases Q:fv[i]? with
  | none=>rw[Q] at e2;cases e2
  | some o=>
   rw[Q] at e2
   cases o with
   | none=>cases e2
   | some j=>
    have P:(σ[j]?).join=some v:=tz e2;have hσ:=vC P;obtain⟨O,hx⟩:=S.up i j G Q;obtain⟨E,F⟩:=hx x K;obtain⟨mX,hnX,hl⟩:=I.loc;obtain⟨u,r,l⟩:=hl j x v (O.trans K) hσ (.inr (.inl F));refine⟨u,r,?_⟩
    rcases l with ⟨k,_⟩ | ⟨k,c,Z,cl⟩
    ·have t:X.env.scope.names.lookup x=some .local:=k;rw[F] at t
     cases t
    ·obtain⟨J,B,L⟩:=cl;have hm:(x,NameKind.free)∈scope.names:=by
      have hm:=KF E;obtain⟨⟨n,t⟩,h,M⟩:=kc.mp hm;have f:(if (t == NameKind.free&&X.env.scope.kind == .function&&X.env.scope.names.lookup n == some .cell)=true then (n,NameKind.cell) else (n,t))=(x,NameKind.cell):=M
      by_cases d:(t == NameKind.free&&X.env.scope.kind == .function&&X.env.scope.names.lookup n == some .cell)=true
      ·rw[if_pos d] at f;have R:n=x:=On Prod.fst f;have w:t=NameKind.free:=by
        rw[gz,gz] at d
        simpa using d.1.1
       subst R w;exact h
      ·rw[if_neg d] at f;have w:t=NameKind.cell:=On Prod.snd f;exact absurd w (S.zY _ h)
     obtain⟨c',D⟩:=kG (env:=X.env) scope.names [] x hm
     have:=g x c' D
     rw[Z] at this
     cases this
     exact .inr ⟨.inl E,c,D,J,hk c J B,L⟩
 ·obtain⟨v,J,B,L⟩:=I.cell x c (g x c e);exact⟨v,J,hk c J B,L⟩
 ·show (ym fv σ).length=N.length;unfold ym;rw[b7];exact S.len
variable {iter:Expr}{g:TG}{tc:TT}{te:TE}{Q:VK}{wi:TI}
theorem rE (hc:X.calm=true)(hi:PI X target iter wi)(S:O5 X.env.scope X.N N scope fv)
  (hB:∀ cl C fp s H,PG (kH X N scope cl C fp s H) target g/\Lj (kH X N scope cl C fp s H) ifs tc/\PE (kH X N scope cl C fp s H) elt te)
  {σ:St} (I:Inv X pins σ H s) {use:Option (Value->Sem Unit)} {Post:Value->Shared->Prop} {p2:Pos}
  (h:wi σ H (sW g tc te (ym fv σ) Q))
  (hPost:∀ (acc C:Addr) (s':Shared) (H':Hp) (m:Str->Option Value),Inv X pins σ H' s'->s'.heap.Ns C m->kx X pins H' C->Q (.ref acc) H'->compPost (model X.prog X.w) X.A X.xe use Post (.ref acc) C (.ok .next) s')
  (hs:∀ x,foldedSetIterable iter X.env x=pure x) :
  wpAny (model X.prog X.w) X.A (comprehension (.ListComp elt [⟨target,iter,ifs,0⟩] scope pos) scope X.env p2 (newList []) false (eval iter X.env) use) Post X.xe s:=by
 have D:∀ x∈scope.names,x.2=.free->∃ c,X.env.cells.lookup x.1=some c:=fun x hx e=>I.ok.has x.1 (.inl (S.Tf x hx e));refine wpAny_comprehension_free (use:=use) rfl hs (qb D) S.kind S.loc (bW (hi pins s σ H _ I h) fun xv s1 h1=>bW h1 fun itv a h2=>?_);obtain⟨it,fp,tn,J,M,e,I2,T,F,f2,rd⟩:=h2;subst e;have O:M a.heap.objs.size=none:=I2.fresh;obtain⟨W,⟨m0,w0⟩,Z⟩:=rd a.heap.objs.size O;refine wpAny_newObj_type (wpAny_newFunctionEnv S.zY (by intro y hy;simp at hy) (fun h₁ l j=>?_) S.kind)
 dsimp only at l j ⊢
 have IA:Inv X pins σ (upd M a.heap.objs.size (.lst [])) {a with heap:=a.heap.push {cls:=.type "list",data:=.seq ([]:List Value).toArray}}:=I2.Nv (t':=a.toks) .nil (zero_le _);generalize P:a.heap.push {cls:=.type "list",dict:=none,data:=.seq ([]:List Value).toArray}=hA at l j IA ⊢;have aF:hA.objs.size=a.heap.objs.size+1:=by rw[<-P,IR]
 have aK:∀ b o,a.heap.get? b=some o->hA.get? b=some o:=fun b o e=>by rw[<-P];exact ey _ e
 have E:∀ b o,hA.get? b=some o->h₁.get? b=some o:=fun b o e=>j.extBut b o (mv (lt_size e)) (ey _ e);have U:∀ b∈fp,b<a.heap.objs.size:=fun b hb=>by
  obtain⟨o,e,_⟩:=T.obj 0 _ F b hb;exact lt_size e
 have K:∀ b∈fp,b<hA.objs.size/\kx X pins (upd M a.heap.objs.size (.lst [])) b:=fun b hb=>⟨by rw[aF];exact Uj (U b hb),by rw[aH (mv (U b hb))];exact(f2 b hb).1,(f2 b hb).2⟩
 let sA:Shared:={a with heap:=hA}
 let Y:Cx:=kH X N scope (fU X.env scope.names []) hA.objs.size fp sA (upd M a.heap.objs.size (.lst []))
 obtain⟨hG,hIf,hE⟩:=hB (fU X.env scope.names []) hA.objs.size fp sA (upd M a.heap.objs.size (.lst []));have B:∀ s4:Shared,s4={a with heap:=h₁,toks:=a.toks+([]:List (Str × Value)).length}->
   codeAny (model X.prog X.w) X.A (.compLoop (.ListComp elt [⟨target,iter,ifs,0⟩] scope pos) 0 (.ref it) (.ref a.heap.objs.size) (compEnvC scope (fU X.env scope.names []) hA.objs.size X.env))
    (compPost (model X.prog X.w) X.A X.xe use Post (.ref a.heap.objs.size) hA.objs.size) s4:=by
  rintro s4 rfl;have IY:Inv Y [] (ym fv σ) (upd M a.heap.objs.size (.lst [])) {a with heap:=h₁,toks:=a.toks+([]:List (Str × Value)).length}:=
   Ju hc S IA (ed _) K E l rfl rfl
  have t:∀ {H':Hp},(∀ b∈fp,H' b=none)->∀ b∈fp,kx Y [] H' b:=fun hn b hb=>
   ⟨hn b hb,(IY.ok.Se b hb).1,IY.ok.Ij b hb,.inl hb,(IY.ok.Se b hb).2,fun p hp=>absurd (show p∈([]:List (Addr × Obj)) from hp) (by simp)⟩
  refine iI (fun n s'=>∃ i τ H',Inv Y [] τ H' s'/\tn i s'.heap/\(∀ b∈fp,H' b=none)/\W i n τ H') ?_ m0
   ⟨0,ym fv σ,_,IY,T.keep _ _ _ F fun b hb o e=>E b o (aK b o e),fun b hb=>(K b hb).2.1,w0⟩
  rintro n s5 ⟨i,τ,H5,I5,av,R,w5⟩
  rcases Z i n τ H5 w5 with ⟨ab,q⟩ | ⟨go,NN,hN,step⟩
  ·refine FS (T.done Y rfl rfl rfl rfl i [] s5 τ H5 (fun _ _=>False) I5 (t R) av ab) (fun r s6 ⟨hr,L⟩=>?_) fun _ _ z=>z;subst hr;obtain⟨m6,hn6,_⟩:=id L.loc;have IX:Inv X pins σ H5 s6:=IA.Pg L.os L.base L.bh L.bare fun b hb=>⟨(K b hb).2.2.2.2.1,(K b hb).2.2.1,(K b hb).2.2.2.2.2.1,(K b hb).2.2.2.2.2.2⟩;exact hPost _ _ _ _ m6 IX hn6 (IA.vk (ed _) L.free) q
  ·refine FS (T.item Y rfl rfl rfl rfl i [] s5 τ H5 (fun _ _=>False) I5 (t R) av go) (fun r s6 ⟨u,hr,h6⟩=>?_) fun _ _ z=>z;subst hr;refine FS h6 (fun _ s7 ⟨x,H7,I7,r7,y7,G,fr7⟩=>?_) fun _ _ z=>z;have I7':=I7.pinned (t fr7) (T.obj _ _ G);refine FS (hG _ s7 τ H7 x u _ I7' r7 (step x H7 y7)) (fun _ s8 ⟨τ8,H8,I8,q8⟩=>?_) fun _ _ z=>z;refine FS (hIf _ s8 τ8 H8 _ I8 q8) (fun b s9 ⟨H9,I9,q9⟩=>?_) fun _ _ z=>z;have f:∀ {τ':St} {H':Hp} {s':Shared},Inv Y ([]++oa fp s7.heap) τ' H' s'->NN τ' H'->∃ m,m<n/\∃ i τ H',Inv Y [] τ H' s'/\tn i s'.heap/\(∀ b∈fp,H' b=none)/\W i m τ H':=fun {τ' H' s'} I' n'=>by
    obtain⟨m',hm,w'⟩:=hN τ' H' n';refine⟨m',hm,i+1,τ',H',I'.ky,T.keep _ _ _ G fun b hb o e=>(I'.pin (b,o) (wh _ (wh _ (gP hb e)))).1,fun b hb=>?_,w'⟩;obtain⟨o,e,d⟩:=T.obj _ _ G b hb;exact(I'.pin (b,o) (wh _ (wh _ (gP hb e)))).2.1
   cases b with
   | false=>exact f I9 q9
   | true=>
    show wpAny _ _ _ _ _ _;refine FS (hE _ s9 τ8 H9 _ I9 q9) (fun v s10 ⟨y,H10,I10,r10,ys,hy,hz,q10⟩=>?_) fun _ _ z=>z;refine FS (bE (X:=Y) _ s10 τ8 H10 (.ref a.heap.objs.size) [y] (.ref a.heap.objs.size) [v] (fun _ H'=>NN τ8 H') I10 rfl (.cons r10 .nil) ⟨_,ys,y,rfl,rfl,hy,hz,q10⟩) (fun _ s11 ⟨_,H11,I11,_,q11⟩=>?_) fun _ _ z=>z;exact f I11 q11
 have st1:tn 0 h₁:=T.keep _ _ _ F fun b hb o e=>E b o (aK b o e);exact codeAny_compStart_list (B _ rfl) (T.self _ 0 _ _ _ st1 (B _ rfl))
def NB (wi:TI)(g:TG)(tc:TT)(te:TE)(fv:List (Option Nat)):TE:=fun σ H Q=>wi σ H (sW g tc te (ym fv σ) Q)
theorem PJ (hc:X.calm=true)(hi:PI X target iter wi)(S:O5 X.env.scope X.N N scope fv)
  (hB:∀ cl C fp s H,PG (kH X N scope cl C fp s H) target g/\Lj (kH X N scope cl C fp s H) ifs tc/\PE (kH X N scope cl C fp s H) elt te)
  (hs:∀ x,foldedSetIterable iter X.env x=pure x:=by intro _;rfl):PE X (.ListComp elt [⟨target,iter,ifs,0⟩] scope pos) (NB wi g tc te fv):=by
 intro c s σ H Q I h;rw[eval_ListComp];refine rE hc hi S hB I (use:=none) h (fun a C d l m j hn n q=>⟨m,hn,fun v r=>?_⟩) hs;obtain⟨f,i,w,t,u,p⟩:=n;exact⟨.ref a,l,j.turned (t':=d.toks) (fun b o hb e=>r.extBut b o hb e) f i t u p,rfl,q⟩
variable {px spos:Pos}
theorem PK {i:Nat}(hN:X.N.Nodup)(hi':X.N[i]?=some x)(hx:X.env.scope.names.lookup x=some .local)(hc:X.calm=true)(hi:PI X target iter wi)(S:O5 X.env.scope X.N N scope fv)
  (hB:∀ cl C fp s H,PG (kH X N scope cl C fp s H) target g/\Lj (kH X N scope cl C fp s H) ifs tc/\PE (kH X N scope cl C fp s H) elt te)
  (hsw:swapsWith (.ListComp elt [⟨target,iter,ifs,0⟩] scope pos) (some (.Name x px)) spos.line X.env=pure true)
  (hs:∀ x,foldedSetIterable iter X.env x=pure x:=by intro _;rfl):PS X (.Assign [.Name x px] (.ListComp elt [⟨target,iter,ifs,0⟩] scope pos) spos) (sI (NB wi g tc te fv) (bB i)):=by
 intro d s σ H D I h;rw[exec_Assign_Name_used _ _ _ _ hsw];refine dy (wpAny_standAt (dy ?_));show wpAny _ _ (do let _<-comprehension (.ListComp elt [⟨target,iter,ifs,0⟩] scope pos) scope X.env _ (newList []) false (eval iter X.env) (some (assign (.Name x px) X.env))) _ _ s
 refine dy (FS (rE hc hi S hB I (use:=some (assign (.Name x px) X.env)) (Post:=fun _ f=>SP X d D .next f) h (fun c C f u m t hn v q=>?_) hs) (fun _ f hq=>gc (gc hq)) fun _ _ e=>e);show wpAny _ _ (assign (.Name x px) X.env (.ref c)) _ _ _;refine wpAny_assign_Name (qW t hN hi' (.inl hx) (show RelV (.ref c) _ from rfl) (fun B F ⟨a,j,E⟩=>?_) (.inr hx))
 obtain⟨r,n,J,A,p,w⟩:=v;have l:C≠a:=by
  rcases E with z | z
  ·rw[z];exact n
  ·exact fun e=>p x a z e.symm
 refine⟨m,hn.sameBut j l,fun G y=>?_⟩;exact⟨_,u,F.turned (t':=B.toks) (fun b o hb e=>y.extBut b o hb e) r n A p w,q⟩
def Bt (k:Nat)(i:Int):Prop:=i.natAbs<2 ^ k
variable {i:Int}{m:Nat}
theorem Bt.mono {k:Nat}(h:Bt k i)(hk:k<=m):Bt m i:=j6 h (ri (by decide) hk)
variable {a b:Nat}{j:Int}
theorem Bt.mul (h:Bt a i)(h':Bt b j):Bt (a+b) (i*j):=by
 unfold Bt at *;rw[Int.natAbs_mul,Nat.pow_add];exact Nat.mul_lt_mul'' h h'
theorem Bt.of_le (h:Bt a i)(h0:0<=j)(h1:j<=i):Bt a j:=by
 unfold Bt at *
 omega
theorem Bt.ok (h:Bt a i)(h':Bt b j)(hs:a+b<=100000):IntMulOk i j:=
 PySem.IntMulOk.of_le (PySem.intBits_le_iff.mpr h) (PySem.intBits_le_iff.mpr h') (by omega)
theorem Bt.log (h:Bt a i)(h0:0<i)(ha:a<=9000):i.natAbs.log2<9000:=
 j6 ((log2_lt (by omega)).mpr h) ha
theorem sX (h1:-(2 ^ 64)<i)(h2:i<2 ^ 64):IntMulOk i j:=.of_left (intBits_le_64 h1 h2)
theorem kJ (h1:-(2 ^ 64)<j)(h2:j<2 ^ 64):IntMulOk i j:=.of_right (intBits_le_64 h1 h2)
theorem dW:eP X (binaryOp .Mult) (rI IntMulOk fun i j=>.int (i*j)):=Nb fun _ _ _ _ _ _ _ hc q=>mul_int q hc
theorem dj:eP X (binaryOp .FloorDiv) (rI (fun _ j=>0<j/\j.natAbs.log2<9000) fun i j=>.int (i / j)):=Nb fun i j _ _ _ _ _ hc q=>by
 have h1:(0:Int)<j:=hc.1;exact floordiv_int (by omega) (by rw[Int.fdiv_eq_ediv_of_nonneg i (by omega)];exact q) (.inl (PyProof.noPylong_of_log2 hc.2))
def tI (f:Int->V)(ta:TE):TE:=fun σ H Q=>ta σ H fun x H1=>∃ i,x=.int i/\Q (f i) H1
variable {a e:Expr}{ta:TE}{k:Nat}{n:Int}
theorem Jv (ha:PE X a ta)(h:0<n/\n<1073741824:=by decide):PE X (.BinOp a .FloorDiv (.Constant (.int n) k pos') pos) (tI (fun i=>.int (i / n)) ta):=by
 intro b s σ H Q I hq;refine vo IQ ha lx b s σ H Q I ?_;refine(show ∀ t:TE,PE X a t->_ from fun _ _=>?_) ta ha
 exact(show xV (rI Nc fun i j=>.int (i / j)) ta (tC (.int n)) σ H Q from by
  unfold xV tC rI;unfold tI at hq
  have:(fun x H1=>∃ i,x=V.int i/\Q (.int (i / n)) H1)=(fun x H1=>∃ i j,x=V.int i/\V.int n=V.int j/\Nc i j/\Q (.int (i / j)) H1):=by
   funext x H1
   apply propext
   constructor
   ·rintro⟨i,e,q⟩;exact⟨i,n,e,rfl,h,q⟩
   ·rintro⟨i,j,e,c,_,q⟩;cases c;exact⟨i,e,q⟩
  rw[this] at hq;exact hq)
theorem Jw (ha:PE X a ta)(h:0<n:=by decide):PE X (.BinOp a .Mod (.Constant (.int n) k pos') pos) (tI (fun i=>.int (i % n)) ta):=by
 intro b s σ H Q I hq;refine vo cR ha lx b s σ H Q I ?_;unfold xV tC rI;unfold tI at hq
 have:(fun x H1=>∃ i,x=V.int i/\Q (.int (i % n)) H1)=(fun x H1=>∃ i j,x=V.int i/\V.int n=V.int j/\0<j/\Q (.int (i % j)) H1):=by
  funext x H1
  apply propext
  constructor
  ·rintro⟨i,e,q⟩;exact⟨i,n,e,rfl,h,q⟩
  ·rintro⟨i,j,e,c,_,q⟩;cases c;exact⟨i,e,q⟩
 rw[this] at hq;exact hq
theorem Jx (ha:PE X a ta)(h:-(2 ^ 64)<n/\n<2 ^ 64:=by decide):PE X (.BinOp a .Mult (.Constant (.int n) k pos') pos) (tI (fun i=>.int (i*n)) ta):=by
 intro b s σ H Q I hq;refine vo dW ha lx b s σ H Q I ?_;unfold xV tC rI;unfold tI at hq
 have:(fun x H1=>∃ i,x=V.int i/\Q (.int (i*n)) H1)=(fun x H1=>∃ i j,x=V.int i/\V.int n=V.int j/\IntMulOk i j/\Q (.int (i*j)) H1):=by
  funext x H1
  apply propext
  constructor
  ·rintro⟨i,e,q⟩;exact⟨i,n,e,rfl,kJ h.1 h.2,q⟩
  ·rintro⟨i,j,e,c,_,q⟩;cases c;exact⟨i,e,q⟩
 rw[this] at hq;exact hq
theorem Jy (ha:PE X a ta)(h:-(2 ^ 64)<n/\n<2 ^ 64:=by decide):PE X (.BinOp (.Constant (.int n) k pos') .Mult a pos) (tI (fun i=>.int (n*i)) ta):=by
 intro b s σ H Q I hq;refine vo dW lx ha b s σ H Q I ?_;unfold xV tC rI;unfold tI at hq
 have:(fun x H1=>∃ i,x=V.int i/\Q (.int (n*i)) H1)=(fun x H1=>∃ i j,V.int n=V.int i/\x=V.int j/\IntMulOk i j/\Q (.int (i*j)) H1):=by
  funext x H1
  apply propext
  constructor
  ·rintro⟨i,e,q⟩;exact⟨n,i,rfl,e,sX h.1 h.2,q⟩
  ·rintro⟨i,j,c,e,_,q⟩;cases c;exact⟨j,e,q⟩
 rw[this] at hq;exact hq
theorem ED (hc:X.calm=true):bS X (.builtin "sum") (fun xs H Q=>∃ (p:Addr) (ns:List Int),xs=[.ref p]/\aw X.K H p (ns.map V.int)/\Q (.int ns.sum) H):=by
 intro d s σ H xs l Q I r h;obtain⟨p,ns,rfl,hq,q⟩:=h;obtain⟨u,rfl,i⟩:=vals1 r
 cases i
 obtain⟨a,g,f,hz⟩:=I.list hq;have hi:=intsAre_of g;obtain⟨m,hn,_⟩:=I.loc;have b:s.heap.IsList p a.toArray:=f.isList;obtain⟨xs,c⟩:=hi.allInts.items;rw[c] at b;refine PySem.sum_intListG (I.ok.hd hc) b fun j n e hk=>⟨.int ns.sum,H,I.kept hk,⟨e,?_⟩,q⟩;have e2:(numsOf a.toArray.toList)=ns:=by rw[show a.toArray.toList=a from rfl,hi.numsOf]
 rw[c,nums_intItems] at e2;rw[preSum_eq,FB (by simp),<-e2]
def tyName:V->Hp->Option String
 | .bx,_=>some "NoneType"
 | .bl _,_=>some "bool"
 | .int _,_=>some "int"
 | .str _,_=>some "str"
 | .ref a,H=>match H a with
  | some (.lst _)=>some "list"
  | some (.tup _)=>some "tuple"
  | some (.dK _)=>some "dict"
  | _=>none
 | _,_=>none
variable {b:Expr}{n:String}
theorem Ce {x:V}(h:tyName x H=some n):lD K H x (.type n):=by
 cases x with
 | bx=>cases h;exact .bx
 | bl b=>cases h;exact .bl b
 | int i=>cases h;exact .int i
 | str y=>cases h;exact .str y
 | ref a=>
  unfold tyName at h
  cases e:H a with
  | none=>simp[e] at h
  | some o=>
   cases o<;>simp[e] at h
   ·subst h;exact .lst e
   ·subst h;exact .tup e
   ·subst h;exact .dK e
 | DA _=>cases h
 | MB _=>cases h
 | ty _=>cases h
def Jz (n T:String):Option Bool:=kitOne [] (.type n) (.type T)
theorem JA {T:String}:kitOne K (.type n) (.type T)=Jz n T:=rfl
theorem EE:bS X (.builtin "isinstance") (fun xs H Q=>∃ x T n b,xs=[x,.ty T]/\tyName x H=some n/\Jz n T=some b/\Q (.bl b) H):=by
 intro a s σ H xs f Q I r h;obtain⟨x,T,n,b,rfl,hn,hb,q⟩:=h;obtain⟨u,v,rfl,c,d⟩:=r.two
 cases (show v=Value.type T from d)
 exact B2 I c (Ce hn) (JA.trans hb) fun e=>⟨.bl b,H,I.tok e,rfl,q⟩
end L2
namespace L2
open PySem PySem.Spec PyProof.Rows
mutual
inductive Dt (K:Frag)(H:Hp):V->PyData->Prop where
 | bx:Dt K H .bx .none
 | bl (b):Dt K H (.bl b) (.bool b)
 | int (i):Dt K H (.int i) (.int i)
 | str (x):Dt K H (.str x) (.str x)
 | lst {a xs ds}:aw K H a xs->dE K H xs ds->Dt K H (.ref a) (.list ds)
 | tup {a xs ds}:aE K H a xs->dE K H xs ds->Dt K H (.ref a) (.tuple ds)
inductive dE (K:Frag)(H:Hp):List V->List PyData->Prop where
 | nil:dE K H [] []
 | cons {x xs d ds}:Dt K H x d->dE K H xs ds->dE K H (x::xs) (d::ds)
end
variable {X:Cx}
mutual
theorem Dt.reads {pins:List (Addr × Obj)}{σ:St}{H:Hp}{s:Shared}(I:Inv X pins σ H s):∀ {x:V} {d:PyData} {u:Value},Dt X.K H x d->RelV x u->∃ as,Reads s.heap u d as
 | _,_,_,.bx,r=>by cases r;exact⟨_,.none⟩
 | _,_,_,.bl b,r=>by cases r;exact⟨_,.bool b⟩
 | _,_,_,.int i,r=>by obtain⟨t,rfl⟩:=r;exact⟨_,.int i t⟩
 | _,_,_,.str x,r=>by obtain⟨t,rfl⟩:=r;exact⟨_,.str x t⟩
 | _,_,_,.lst h j,r=>by
  cases r
  obtain⟨c,a,⟨o,n,e,g,l,f⟩,_⟩:=I.list h;obtain⟨as,q⟩:=dE.reads I j a;exact⟨_,.list e g f (by simpa using q)⟩
 | _,_,_,.tup h j,r=>by
  cases r
  obtain⟨c,a,⟨o,e,g,n,f⟩,_⟩:=I.tuple h;obtain⟨as,q⟩:=dE.reads I j a;exact⟨_,.tuple e g f (by simpa using q)⟩
theorem dE.reads {pins:List (Addr × Obj)}{σ:St}{H:Hp}{s:Shared}(I:Inv X pins σ H s):∀ {xs:List V} {ds:List PyData} {us:List Value},dE X.K H xs ds->Vals xs us->∃ as,ReadsAll s.heap us ds as
 | _,_,_,.nil,r=>by cases r;exact⟨_,.nil⟩
 | _,_,_,.cons h c,r=>by
  cases r with
  | cons r b=>
   obtain⟨as,q⟩:=Dt.reads I h r;obtain⟨bs,a⟩:=dE.reads I c b;exact⟨_,.cons q a⟩
end
theorem NC (hu:X.A.units+64<cLine):eP X (compareOp .Eq) (fun x y H Q=>∃ d d',Dt X.K H x d/\Dt X.K H y d'/\shaped d=true/\shaped d'=true/\Q (.bl (PyData.eqv d d')) H):=by
 intro a s σ H x y v u Q I f c h;obtain⟨d,d',h1,g,e,i,q⟩:=h;obtain⟨l,j⟩:=h1.reads I f;obtain⟨bs,b⟩:=g.reads I c;exact eq_dataH j b e i hu ⟨.bl _,H,I,rfl,q⟩
theorem ND (hu:X.A.units+64<cLine):eP X (compareOp .NotEq) (fun x y H Q=>∃ d d',Dt X.K H x d/\Dt X.K H y d'/\shaped d=true/\shaped d'=true/\Q (.bl (!PyData.eqv d d')) H):=by
 intro a s σ H x y v u Q I f c h;obtain⟨d,d',h1,g,e,i,q⟩:=h;obtain⟨l,j⟩:=h1.reads I f;obtain⟨bs,b⟩:=g.reads I c;exact ne_dataH j b e i hu ⟨.bl _,H,I,rfl,q⟩
theorem dE.ints {K:Frag}{H:Hp}:∀ ns:List Int,dE K H (ns.map V.int) (ns.map PyData.int)
 | []=>.nil
 | n::r=>.cons (.int n) (dE.ints r)
theorem iJ:∀ ns ms:List Int,PyData.eqvAll (ns.map PyData.int) (ms.map PyData.int)=decide (ns=ms)
 | [],[]=>by simp[PyData.eqvAll]
 | [],_::_=>by simp[PyData.eqvAll]
 | _::_,[]=>by simp[PyData.eqvAll]
 | n::r,m::q=>by
  simp only[map_cons,PyData.eqvAll,PyData.eqv,iJ r q]
  by_cases h:n=m<;>simp[h]
theorem fu (ns:List Int):shaped (.list (ns.map .int))=true:=PySem.W.shaped_ints ns
theorem JB:eP X (binaryOp .Add) (fun x y H Q=>∃ l b xs zs,x=.ref l/\y=.ref b/\aw X.K H l xs/\aw X.K H b zs/\xs.length+zs.length<=sizeLine/\∀ p,H p=none->Q (.ref p) (upd H p (.lst (xs++zs)))):=by
 intro B s σ H x y v u Q I N G h;obtain⟨l,b,xs,zs,rfl,rfl,E,C,hz,q⟩:=h
 cases N
 cases G
 obtain⟨c,r,⟨⟨M,P,w,D⟩,n,e,A,t,z⟩,_⟩:=I.list E;obtain⟨a,m,⟨⟨o,J,i,j⟩,O,e2,d,f,g⟩,_⟩:=I.list C
 simp only at A t z d f g
 subst A t z d f g;refine concat_meets ⟨_,e,rfl⟩ ⟨_,e2,rfl⟩ noFill_list_add seq_list_add PySem.F.slot_list_add PySem.F.entry_list_add (PySem.F.args_list_add_2 _ _) (list_addW l b c.toArray a.toArray n O none none D j (by rw[gd,gd,<-r.length,<-m.length];exact hz)) ⟨e,e2,?_⟩
 have L:c.toArray++a.toArray=(c++a).toArray:=by simp
 rw[L];exact⟨.ref _,_,I.Nv (t':=s.toks) (r.append m) (by rw[fz];exact hz),rfl,q _ I.fresh⟩
structure Def (K:Frag)(mg:Str->Option Value)(x:Str)(st:Stmt):Prop where
 ex:∃ f fd,Iq K x x st f fd/\mg x=some (.ref f)
structure Fn (P:Program)(w:World)(K:Frag)(mg:Str->Option Value)(base:Heap)(k:Nat)(x:Str)(ps:List Str)(sp:Sp):Prop where
 ex:∃ f fd,ft P w K mg base B9 k f fd ps sp/\mg x=some (.ref f)/\keepIn K (.ref f)=true/\Binds K fd ps []
variable {P:Program}{w:World}{K:Frag}{mg:Str->Option Value}{base:Heap}{k:Nat}{x:Str}{N ps:List Str}{sp:Sp}{st:Stmt}
theorem Def.fn (D:Def K mg x st)(S:kB N ps (aj st))
  (hb:∀ (kV doc pm:Value) (an:Option Addr) (cU ct:Value) (us:List Value),us.length=ps.length->bindArgs (fnOf x x (bw st) (aY st) (aj st) .none kV doc pm an cU ct) ⟨us,[]⟩=pure (ps.zip us))
  (len:∀ vs H Q E,sp vs H Q E->vs.length=ps.length)
  (eY:∀ (f:Addr) (cU:Value) (A:Around) (outer:List Env) (s:Shared) (H:Hp) (vs:List V) (Q:VK) (E:XK),cB k (A.deeper (envOfC x (aj st) s.heap.objs.size f cU))->sp vs H Q E->
   ∃ t,xK (vw B9 P w K mg base N x (aj st) f cU A outer s H E).Ld (aY st) t/\t {nx:=fun _ H'=>Q .bx H',rt:=Q} (start N vs) H):Fn P w K mg base (k+1) x ps sp:=by
 obtain⟨f,a,F,m⟩:=D.ex;exact⟨f,a,F.ok S len fun cU A outer s H vs Q E=>eY f cU A outer s H vs Q E,m,F.kp,F.binds hb⟩
variable {m:Nat}{p pos:Pos}{e:Expr}{es:List Expr}{t:TA}
theorem PL (F:Fn X.prog X.w X.K X.mg X.base k x ps sp)(hr:cB m X.A)(hg:Gl X x)(ha:PA X (e::es) t)(hk:k<=m:=by decide)
  (hdb:(x == ("__debug__":Str))=false:=by decide) (he:starEach (e::es) X.env=(false,eval e X.env)::starEach es X.env:=by rfl) (hpl:(backTo pos (starEach es X.env)).any (·.1)=false:=by rfl) :
  PE X (.Call (.Name x p) (e::es) [] pos) (rh sp [] E0 t):=by
 obtain⟨f,b,F,hm,a,hb⟩:=F.ex;exact Ay F (hr.mono hk) hg hm a hb .nil Lg ha hdb he hpl
theorem NF {h:Heap}{f:Addr}{oc:Value}{od an:Option Addr}{osl:Array (Option Value)}{kV doc pm cU ct:Value}(X:K.In h)(G:h.Ns mainGlobals mg)
  (a:nsIn K mainGlobals x=some (some (.ref f))) (l:K.lookup f=some ⟨oc,od,.func (fnOf x x (bw st) (aY st) (aj st) .none kV doc pm an cU ct),osl⟩)
  (c:codeIn K cU x=true) (k:keepIn K (.ref f)=true):Def K mg x st:=⟨f,_,yk l c k,mg_of X G a⟩
theorem NG {T:String}{pos:Pos}(hg:Gl X x)(hm:X.mg x=none)(hv:bootBuiltins x=some (.type T))(hn:x≠"__name__":=by decide)(hd:(x == ("__debug__":Str))=false:=by decide):PE X (.Name x pos) (tC (.ty T)):=
 ID hg hm hv rfl hn hd
variable {H:Hp}{Q:VK}{σ:St}
theorem PM {i:Nat}{v:V}(h:σ[i]?=some (some v)):sG i σ H Q=Q v H:=by
 unfold sG;rw[h];simp
theorem Ss {v:V}:tC v σ H Q=Q v H:=rfl
theorem NH {r:R2}{ta tb:TE}:xV r ta tb σ H Q=ta σ H fun x H1=>tb σ H1 fun y H2=>r x y H2 Q:=rfl
theorem PN {r:V->Hp->VK->Prop}{ta:TE}:Sm r ta σ H Q=ta σ H fun x H1=>r x H1 Q:=rfl
variable {g:Int->Int->V}
theorem Lk {i j:Int}:DO g (.int i) (.int j) H Q=Q (g i j) H:=by unfold DO;simp
theorem PQ {C:Int->Int->Prop}{i j:Int}:rI C g (.int i) (.int j) H Q=(C i j/\Q (g i j) H):=by unfold rI;simp
theorem PR {g:Int->V}{i:Int}:rU g (.int i) H Q=Q (g i) H:=by unfold rU;simp
def rT (f:Int->V):V->Hp->VK->Prop:=fun x H Q=>∃ i,x=.int i/\Q (f i) H
variable {f:Int->V}
theorem PU {ta:TE}:tI f ta σ H Q=ta σ H fun x H1=>rT f x H1 Q:=rfl
theorem PV {i:Int}:rT f (.int i) H Q=Q (f i) H:=by unfold rT;simp
theorem AH {i j:Int}:Po (.int i) (.int j) H Q=Q (.bl (decide (i=j))) H:=by unfold Po;simp[BY]
theorem Ll {i j:Int}:Pp (.int i) (.int j) H Q=Q (.bl (!decide (i=j))) H:=by unfold Pp;simp[BY]
variable {i j:Str}
theorem rF:Po (.str i) (.str j) H Q=Q (.bl (decide (i=j))) H:=by unfold Po;simp[BY]
theorem Lm:Pp (.str i) (.str j) H Q=Q (.bl (!decide (i=j))) H:=by unfold Pp;simp[BY]
def rB (x:V)(H:Hp)(Q:Bool->Hp->Prop):Prop:=∃ k,x=.bl k/\Q k H
variable {Q:Bool->Hp->Prop}
theorem vD {b:Bool} :rB (.bl b) H Q=Q b H:=by unfold rB;simp
variable {t:TE}
theorem EF:vq t σ H Q=t σ H fun x H'=>rB x H' Q:=rfl
theorem PX:tB t σ H Q=t σ H fun x H'=>rB x H' Q:=rfl
variable {t:TT}
theorem EG:MO t σ H Q=t σ H fun c H1=>Q (!c) H1:=rfl
variable {u:TT}
theorem EH:MN t u σ H Q=t σ H fun c H1=>if c=true then u σ H1 Q else Q false H1:=rfl
theorem Lo:Sj t u σ H Q=t σ H fun c H1=>if c=true then Q true H1 else u σ H1 Q:=rfl
variable {Q:VK}{u t:TE}
theorem EI:DZ t u σ H Q=t σ H fun x H1=>rB x H1 fun c H2=>if c=true then u σ H2 Q else Q (.bl false) H2:=rfl
theorem Lp:MT t u σ H Q=t σ H fun x H1=>rB x H1 fun c H2=>if c=true then Q (.bl true) H2 else u σ H2 Q:=rfl
theorem AI {r r':R2}{ta tb tc:TE}:oh r r' ta tb tc σ H Q=ta σ H fun x H1=>tb σ H1 fun y H2=>r x y H2 fun z H3=>rB z H3 fun k H4=>if k=true then tc σ H4 fun w' H5=>r' y w' H5 Q else Q (.bl false) H4:=rfl
theorem Lq {t:TT}{ta tb:TE}:Sk t ta tb σ H Q=t σ H fun c H1=>if c=true then ta σ H1 Q else tb σ H1 Q:=rfl
variable {Q:List V->Hp->Prop}
theorem Lr:sM σ H Q=Q [] H:=rfl
theorem EJ {ta:TE}{tr:TA} :Ax ta tr σ H Q=ta σ H fun x H1=>tr σ H1 fun xs H2=>Q (x::xs) H2:=rfl
variable {Q:VK}{E:XK}{t:TA}
theorem EK {mZ:List V} :rh sp mZ E t σ H Q=t σ H fun vs H1=>sp (vs++mZ) H1 Q E:=rfl
theorem PY {r:List V->Hp->VK->Prop} :Nk r t σ H Q=t σ H fun vs H1=>r vs H1 Q:=rfl
theorem Ls:Ja t σ H Q=t σ H fun xs H1=>xs.length<=sizeLine/\∀ p,H1 p=none->Q (.ref p) (upd H1 p (.tup xs)):=rfl
theorem Lu:Jb t σ H Q=t σ H fun xs H1=>xs.length<=sizeLine/\∀ p,H1 p=none->Q (.ref p) (upd H1 p (.lst xs)):=rfl
variable {r:V->List V->Hp->VK->Prop}
theorem PZ {T:String}{to:TE} :Py K T r to t σ H Q=to σ H fun x H1=>Px K T x H1/\t σ H1 fun vs H2=>r x vs H2 Q:=rfl
theorem Lv {T:String}{to:TE}:Jl K T r to σ H Q=to σ H fun x H1=>Px K T x H1/\r x [] H1 Q:=rfl
theorem P0 {r:V->Option Int->Option Int->Hp->VK->Prop}{te:TE}{tl th:TO}:Sn r te tl th σ H Q=te σ H fun x H1=>tl σ H1 fun l H2=>th σ H2 fun h H3=>r x l h H3 Q:=rfl
variable {Q:Option Int->Hp->Prop}
theorem vE:sN σ H Q=Q none H:=rfl
def rP (x:V)(H:Hp)(Q:Option Int->Hp->Prop):Prop:=∃ i,x=.int i/\Q (some i) H
theorem EL {t:TE} :Ek t σ H Q=t σ H fun x H1=>rP x H1 Q:=rfl
theorem P1 {i:Int} :rP (.int i) H Q=Q (some i) H:=by unfold rP;simp
variable {Q:VK}{g:TG}
theorem P2 {wi:TI}{tc:TT}{te:TE}{fv:List (Option Nat)}:NB wi g tc te fv σ H Q=wi σ H (sW g tc te (ym fv σ) Q):=rfl
theorem gR {Q:Bool->Hp->Prop}:il σ H Q=Q true H:=rfl
variable {D:Ends}
theorem EM:D1 D σ H=D.nx σ H:=rfl
variable {u t:TS}
theorem P4:BR t u D σ H=t {D with nx:=u D} σ H:=rfl
theorem EN {te:TE}:D4 te D σ H=te σ H fun _ H1=>D.nx σ H1:=rfl
theorem Lw {te:TE}:MW te D σ H=te σ H D.rt:=rfl
variable {c:TT}
theorem Lx:MY c t u D σ H=c σ H fun b H1=>if b=true then t D σ H1 else u D σ H1:=rfl
theorem Ly {te:TE} :sI te g D σ H=te σ H fun x H1=>g x σ H1 D.nx:=rfl
variable {i:Nat}
theorem sY {v:V}{σ:St}{Q:St->Hp->Prop}:bB i v σ H Q=Q (σ.set i (some v)) H:=rfl
theorem Lz {to ti:TE}{t:D5}{v:V}{σ:St}{Q:St->Hp->Prop}:M3 to ti t v σ H Q=to σ H fun o H1=>ti σ H1 fun i H2=>t o i v H2 fun H3=>Q σ H3:=rfl
variable {tl:TE}{R:It->Hp->Prop}
theorem AJ {σ:St} :Ap K tl σ H R=tl σ H fun x H1=>∃ a,x=.ref a/\(∃ xs,aw K H1 a xs)/\R (Ip K a) H1:=rfl
theorem EO {σ:St} :IK K tl σ H R=tl σ H fun x H1=>∃ a,x=.ref a/\(∃ xs,aE K H1 a xs)/\R (BS K a) H1:=rfl
theorem AL {ta:TA}{σ:St} :Aq ta σ H R=ta σ H fun vs H1=>∃ j:Int,vs=[.int j]/\-(2 ^ 62)<=j/\j<2 ^ 62/\R (xS 0 j.toNat) H1:=rfl
def qc (g:TG)(tb:TS)(D:Ends)(σ:St):It->Hp->Prop:=fun J H1=>∃ W:Nat->Nat->St->Hp->Prop,(∃ m,W 0 m σ H1)/\∀ i m σ H,W i m σ H->
 (J.stop i H/\D.nx σ H)∨(J.go i H/\∃ N:St->Hp->Prop,(∀ σ' H',N σ' H'->∃ m',m' < m/\W (i+1) m' σ' H')/\∀ x H',J.BM i H x H'->g x σ H' fun a b=>tb {D with nx:=N,ct:=N,bk:=D.nx} a b)
variable {tb:TS}
theorem LA {wi:TI}{σ:St} :M8 wi g tb D σ H=wi σ H (qc g tb D σ):=rfl
variable {p:Addr}
theorem ah.new (h:H p=none)(o:HO):ah H (upd H p o):=fun b u q=>by rw[aH (bI q h)];exact q
variable {a:Addr}{xs:List V}
theorem ah.aL {H':Hp}(e:ah H H')(h:aE K H a xs):aE K H' a xs:=by
 rcases h with (h | ⟨o,h⟩) | h
 ·exact .inl (.inl (e _ _ h))
 ·exact .inl (.inr ⟨o,e _ _ h⟩)
 ·exact .inr h
theorem ah.set {H':Hp}(e:ah H H')(h:H p=none)(o:HO):ah H (upd H' p o):=fun b u q=>by rw[aH (bI q h)];exact e b u q
structure yn (J:It)(H1:Hp)(n:Nat)(item:Nat->V):Prop where
 go:∀ i H,ah H1 H->i<n->J.go i H
 stop:∀ i H,ah H1 H->n<=i->J.stop i H
 BM:∀ i H x H',ah H1 H->i<n->J.BM i H x H'->H'=H/\x=item i
theorem gH {H1:Hp}(h:aE K H1 a xs):yn (BS K a) H1 xs.length fun i=>xs.getD i .bx where
 go:=fun i H e hi=>⟨xs,xs[i],e.aL h,by simp[hi]⟩
 stop:=fun i H e hi=>⟨xs,e.aL h,hi⟩
 BM:=fun i H x c e hi y=>by
  obtain⟨b,y⟩:=y
  have:=y xs (e.aL h)
  refine⟨b,?_⟩;show x=xs.getD i .bx;rw[b5,this];rfl
theorem bP {H1:Hp}(h:aw K H1 a xs):yn (Ip K a) H1 xs.length fun i=>xs.getD i .bx where
 go:=fun i H e hi=>⟨xs,xs[i],e.seq h,by simp[hi]⟩
 stop:=fun i H e hi=>⟨xs,e.seq h,hi⟩
 BM:=fun i H x c e hi y=>by
  obtain⟨b,y⟩:=y
  have:=y xs (e.seq h)
  refine⟨b,?_⟩;show x=xs.getD i .bx;rw[b5,this];rfl
variable {n:Nat}
theorem jT {H1:Hp}{lo:Int} :yn (xS lo n) H1 n fun i=>.int (lo+i) where
 go:=fun i H e hi=>hi
 stop:=fun i H e hi=>hi
 BM:=fun i H x a e hi y=>y
def R6 (T:Nat->St->Prop)(F:Nat->List V)(H1:Hp)(acc:Addr)(i:Nat):St->Hp->Prop:=fun b a=>T (i+1) b/\ah H1 a/\a acc=some (.lst (F (i+1)))
variable {acc:Addr}
theorem NI {T:Nat->St->Prop}{F:Nat->List V}{H1 H4:Hp}{τ:St}{v:V}(hn:H1 acc=none)(h:H4 acc=some (.lst (F i)))(hs:ah H1 H4)(hz:(F i).length<sizeLine)(hF:F (i+1)=F i++[v])(hT:T (i+1) τ) :
  ∃ ys,H4 acc=some (.lst ys)/\ys.length<sizeLine/\R6 T F H1 acc i τ (upd H4 acc (.lst (ys++[v]))):=
 ⟨F i,h,hz,hT,hs.set hn _,by rw[ag,hF]⟩
variable {J:It}{item:Nat->V}
theorem NJ {tc:TT}{te:TE}{τ0:St}{H1:Hp}(ok:yn J H1 n item)(F:Nat->List V)(T:Nat->St->Prop)
  (h0:F 0=[]) (hT:T 0 τ0)
  (step:∀ i τ H acc,i<n->T i τ->H1 acc=none->ah H1 H->H acc=some (.lst (F i))->g (item i) τ H fun τ2 H2=>tc τ2 H2 fun b H3=>
   if b=true then te τ2 H3 fun v H4=>∃ ys,H4 acc=some (.lst ys)/\ys.length<sizeLine/\R6 T F H1 acc i τ2 (upd H4 acc (.lst (ys++[v]))) else R6 T F H1 acc i τ2 H3)
  (fin:∀ acc H,H1 acc=none->ah H1 H->H acc=some (.lst (F n))->Q (.ref acc) H):sW g tc te τ0 Q J H1:=by
 intro acc d;refine⟨fun i m τ H=>m=n - i/\i<=n/\T i τ/\ah H1 H/\H acc=some (.lst (F i)),⟨n,by simp,zero_le _,hT,ah.new d _,by rw[ag,h0]⟩,?_⟩
 rintro i m τ H ⟨rfl,hi,l,h,o⟩
 by_cases f:i<n
 ·refine .inr ⟨ok.go i H h f,R6 T F H1 acc i,fun p j ⟨a,b,c⟩=>⟨n - (i+1),by omega,rfl,f,a,b,c⟩,fun x j y=>?_⟩
  obtain⟨rfl,rfl⟩:=ok.BM i H x j h f y;exact step i τ j acc f l d h o
 ·have e:i=n:=by omega
  subst e;exact .inl ⟨ok.stop i H h (ed _),fin acc H d h o⟩
theorem JC {σ:St}(Pv:St->Hp->Prop)(μ:St->Nat)(h0:Pv σ H)
  (hs:∀ σ H,Pv σ H->c σ H fun b H1=>if b=true then ∃ N:St->Hp->Prop,(∀ σ' H',N σ' H'->∃ m',m' < μ σ/\m'=μ σ'/\Pv σ' H')/\tb {D with nx:=N,ct:=N,bk:=D.nx} σ H1 else D.nx σ H1):sL c tb D σ H:=
 ⟨fun m σ H=>m=μ σ/\Pv σ H,⟨_,rfl,h0⟩,fun m σ H ⟨e,p⟩=>by subst e;exact hs σ H p⟩
theorem JD {Pv:St->Hp->Prop}{μ:St->Nat}{σ:St}{R:(St->Hp->Prop)->Prop}(h:R fun σ' H'=>Pv σ' H'/\μ σ' < μ σ) :
  ∃ N:St->Hp->Prop,(∀ σ' H',N σ' H'->∃ m',m' < μ σ/\m'=μ σ'/\Pv σ' H')/\R N:=⟨_,fun _ _ ⟨p,l⟩=>⟨_,l,rfl,p⟩,h⟩
theorem yo {v:V}{σ:St} :sG 0 (some v::σ) H Q=Q v H:=PM rfl
theorem ER {o:Option V}{σ:St} :sG (i+1) (o::σ) H Q=sG i σ H Q:=rfl
def NK (osc:Scope)(oN N:List Str)(scope:Scope)(fv:List (Option Nat)):Bool:=
 decide (scope.kind=.function)&&decide (osc.kind=.function)&&scope.names.all (fun y=>decide (y.2≠.cell))&&scope.names.all (fun y=>decide (y.2=.local->scope.names.lookup y.1=some .local))&&
 scope.names.all (fun y=>decide (y.2=.free->osc.names.lookup y.1=some .cell))&&(rl scope osc).names.all (fun y=>decide (y.2≠.free))&&decide (fv.length=N.length)&&decide (N.length<20)&&
 (List.range N.length).all (fun i=>match fv[i]? with
  | some (some j)=>decide (oN[j]?=N[i]?)&&(match N[i]? with | some x=>decide ((rl scope osc).names.lookup x=some .cell)&&decide (osc.names.lookup x=some .cell) | none=>false)
  | _=>true)
variable {osc:Scope}{oN:List Str}
theorem NL {scope:Scope}{fv:List (Option Nat)}(h1:X.env.scope=osc)(h2:X.N=oN)(h:NK osc oN N scope fv=true):O5 X.env.scope X.N N scope fv:=by
 rw[h1,h2];unfold NK at h;simp only[Bool.and_eq_true,List.all_eq_true,decide_eq_true_eq] at h;obtain⟨⟨⟨⟨⟨⟨⟨⟨g,o⟩,n⟩,f⟩,m⟩,c⟩,a⟩,d⟩,l⟩:=h;refine⟨g,o,n,f,m,c,a,fun i j _ e=>?_,d⟩;have hi:i<N.length:=by rw[<-a];exact(nt.mp e).1
 have q:=l i (ka.mpr hi);rw[e] at q;simp only[Bool.and_eq_true,decide_eq_true_eq] at q;refine⟨q.1,fun x hx=>?_⟩;have b:=q.2;rw[hx] at b
 simpa using b
def Ir (e:Expr):Bool:=match e with
 | .Starred _ _=>false
 | _=>true
theorem bf {env:Env}(h:Ir e=true):starEach (e::es) env=(false,eval e env)::starEach es env:=by
 cases e<;>first | rfl | cases h
theorem dk {pos:Pos}{env:Env}:∀ {es:List Expr},es.all Ir=true->(backTo pos (starEach es env)).any (·.1)=false
 | [],_=>rfl
 | e::es,h=>by
  rw[all_cons,gz] at h;rw[bf h.1];show (false||(backTo pos (starEach es env)).any (·.1))=false;rw[dk h.2];rfl
theorem lH {pos:Pos}{env:Env}:∀ {es:List Expr},es.all Ir=true->(backTo pos (starEach es env)).all (fun x=>!x.1)=true
 | [],_=>rfl
 | e::es,h=>by
  rw[all_cons,gz] at h;rw[bf h.1];show (true&&(backTo pos (starEach es env)).all (fun x=>!x.1))=true;rw[lH h.2];rfl
structure PB (X:Cx)(es:List Expr)(t:TA):Prop where
 pa:PA X es t
 ns:es.all Ir=true
theorem yp:PB X [] sM:=⟨Ng,rfl⟩
variable {te:TE}{t:TA}
theorem sZ (ha:PE X e te)(hr:PB X es t)(hn:Ir e=true:=by rfl):PB X (e::es) (Ax te t):=
 ⟨I0 ha hr.pa (bf hn),by rw[all_cons,hn,hr.ns];rfl⟩
theorem PB.he (h:PB X (e::es) t):Ir e=true:=by have:=h.ns;rw[all_cons,gz] at this;exact this.1
theorem PB.ES (h:PB X (e::es) t):es.all Ir=true:=by have:=h.ns;rw[all_cons,gz] at this;exact this.2
theorem P5 {x1}(h:PB X es t):PE X (.Tuple es x1 pos) (Ja t):=Nh h.pa
theorem P6 (h:PB X es t):PE X (.List es pos) (Jb t):=Ni h.pa
structure Sc (X:Cx)(N W G:List Str):Prop where
 eN:X.N=N
 nd:N.Nodup
 SX:∀ x∈N,R5 X.env.scope x/\(x == ("__debug__":Str))=false/\(x == ("__classdict__":Str))=false
 Te:∀ x∈W,Loc X.env.scope x/\(X.fn x=true∨X.env.scope.names.lookup x=some .local)
 gl:∀ x∈G,Gl X x/\(x == ("__debug__":Str))=false/\x≠"__name__"
def ET (sc:Scope)(x:Str):Bool:=(sc.names.lookup x == some .local||sc.names.lookup x == some .cell||sc.names.lookup x == some .free)&&!(x == ("__debug__":Str))&&!(x == ("__classdict__":Str))
theorem AM {sc:Scope}(h:ET sc x=true):R5 sc x/\(x == ("__debug__":Str))=false/\(x == ("__classdict__":Str))=false:=by
 unfold ET at h;simp only[Bool.and_eq_true,Bool.or_eq_true,beq_iff_eq,Bool.not_eq_true'] at h;obtain⟨⟨h1,a⟩,b⟩:=h;refine⟨?_,a,b⟩
 rcases h1 with (h1 | h1) | h1
 ·exact .inl h1
 ·exact .inr (.inl h1)
 ·exact .inr (.inr h1)
def P7 (sc:Scope)(x:Str):Bool:=sc.names.lookup x == some .globalImplicit&&!(x == ("__debug__":Str))&&!(x == ("__name__":Str))
theorem EU {sc:Scope}(h:P7 sc x=true):sc.names.lookup x=some .globalImplicit/\(x == ("__debug__":Str))=false/\x≠"__name__":=by
 unfold P7 at h;simp only[Bool.and_eq_true,beq_iff_eq,Bool.not_eq_true',beq_eq_false_iff_ne] at h;exact⟨h.1.1,by simpa using h.1.2,h.2⟩
def S4 (sc:Scope)(N ps G:List Str):Bool:=
 decide (sc.kind=.function)&&!sc.isCoroutine&&!sc.isGenerator&&decide N.Nodup&&decide (N.take ps.length=ps)&&ps.all (fun x=>sc.names.lookup x == some .local||sc.names.lookup x == some .cell)&&
 sc.names.all (fun y=>decide (y.2≠.free))&&N.all (ET sc)&&N.all (fun x=>sc.names.lookup x == some .local||sc.names.lookup x == some .cell)&&G.all (P7 sc)
structure DS (sc:Scope)(N ps G:List Str):Prop where
 fs:kB N ps sc
 SX:∀ x∈N,ET sc x=true
 loc:∀ x∈N,Loc sc x
 gl:∀ x∈G,P7 sc x=true
variable {G:List Str}
theorem aO {sc:Scope}(h:S4 sc N ps G=true):DS sc N ps G:=by
 unfold S4 at h;simp only[Bool.and_eq_true,Bool.not_eq_true',List.all_eq_true,decide_eq_true_eq,Bool.or_eq_true,beq_iff_eq] at h;obtain⟨⟨⟨⟨⟨⟨⟨⟨⟨e,l⟩,j⟩,d⟩,g⟩,b⟩,i⟩,c⟩,f⟩,a⟩:=h;exact⟨⟨e,l,j,d,g,b,i⟩,c,f,a⟩
variable {f:Addr}
theorem DS.cx {sc:Scope}{q:Str}{cU:Value}{A:Around}{outer:List Env}{s:Shared}(D:DS sc N ps G):Sc (vw B9 P w K mg base N q sc f cU A outer s H E).Ld N N G:=
 ⟨rfl,D.fs.nd,fun x hx=>AM (D.SX x hx),fun x hx=>⟨D.loc x hx,.inl rfl⟩,fun x hx=>EU (D.gl x hx)⟩
theorem Def.go (D:Def K mg x st)(S:DS (aj st) N ps G)
  (hb:∀ (kV doc pm:Value) (an:Option Addr) (cU ct:Value) (us:List Value),us.length=ps.length->bindArgs (fnOf x x (bw st) (aY st) (aj st) .none kV doc pm an cU ct) ⟨us,[]⟩=pure (ps.zip us))
  (len:∀ vs H Q E,sp vs H Q E->vs.length=ps.length)
  (eY:∀ (X:Cx),Sc X N N G->X.prog=P->X.w=w->X.K=K->X.mg=mg->X.base=base->X.calm=true->X.env.scope=aj st->X.xe=(fun _ _=>False)->cB k X.A->X.A.units+64<cLine->
   ∀ (H:Hp) (vs:List V) (Q:VK) (E:XK),sp vs H Q E->∃ t,xK X (aY st) t/\t {nx:=fun _ H'=>Q .bx H',rt:=Q} (L2.start N vs) H):Fn P w K mg base (k+1) x ps sp:=by
 refine D.fn S.fs hb len fun f cU A a s H vs Q E b h=>?_;exact eY _ S.cx rfl rfl rfl rfl rfl rfl rfl rfl b b.units H vs Q E h
variable {W:List Str}
theorem vv (S:Sc X N W G)(i:Nat){pos:Pos}(h:N[i]?=some x:=by rfl):PE X (.Name x pos) (sG i):=
 have q:=S.SX x (hO h)
 MJ (by rw[S.eN];exact h) q.1 q.2.1 q.2.2
theorem sv (S:Sc X N W G)(i:Nat){pos pos':Pos}(he:PE X e te)(h:N[i]?=some x:=by rfl)(hw:W[i]?=some x:=by rfl)(hs:swapsWith e (some (.Name x pos')) pos.line X.env=pure false:=by rfl) :
  PS X (.Assign [.Name x pos'] e pos) (sI te (bB i)):=
 have q:=S.Te x (hO hw)
 M6 (by rw[S.eN];exact S.nd) (by rw[S.eN];exact h) q.1 he hs q.2
theorem gv (S:Sc X N W G)(i:Nat){pos:Pos}(h:N[i]?=some x:=by rfl)(hw:W[i]?=some x:=by rfl):PG X (.Name x pos) (bB i):=
 have q:=S.Te x (hO hw)
 II (by rw[S.eN];exact S.nd) (by rw[S.eN];exact h) q.1 q.2
variable {p:Pos}
theorem ff (S:Sc X N W G)(g:Nat)(F:Fn X.prog X.w X.K X.mg X.base k x ps sp)(hr:cB m X.A)(ha:PB X (e::es) t)(hk:k<=m:=by decide)(hg:G[g]?=some x:=by rfl):PE X (.Call (.Name x p) (e::es) [] pos) (rh sp [] E0 t):=
 have q:=S.gl x (hO hg)
 PL F hr q.1 ha.pa hk q.2.1 (bf ha.he) (dk ha.ES)
variable {id:String}{r:List V->Hp->VK->Prop}
theorem cb (S:Sc X N W G)(g:Nat)(hc:bS X (.builtin id) r)(hm:X.mg x=none)(hv:bootBuiltins x=some (.builtin id))(ha:PB X (e::es) t)(hg:G[g]?=some x:=by rfl):PE X (.Call (.Name x p) (e::es) [] pos) (Nk r t):=
 have q:=S.gl x (hO hg)
 Ei hc q.1 hm hv ha.pa q.2.2 q.2.1 (bf ha.he) (dk ha.ES)
variable {T:String}
theorem ct (S:Sc X N W G)(g:Nat)(hc:bS X (.type T) r)(hm:X.mg x=none)(hv:bootBuiltins x=some (.type T))(ha:PB X (e::es) t)(hg:G[g]?=some x:=by rfl):PE X (.Call (.Name x p) (e::es) [] pos) (Nk r t):=
 have q:=S.gl x (hO hg)
 B4 hc q.1 hm hv ha.pa q.2.2 q.2.1 (bf ha.he) (dk ha.ES)
theorem Th (S:Sc X N W G)(g:Nat)(hm:X.mg x=none)(hv:bootBuiltins x=some (.type T))(hg:G[g]?=some x:=by rfl):PE X (.Name x pos) (tC (.ty T)):=
 have q:=S.gl x (hO hg)
 NG q.1 hm hv q.2.2 q.2.1
theorem Ti (S:Sc X N W G)(g:Nat){tg:Expr}(hm:X.mg "range"=none)(ha:PB X [e] t)(hg:G[g]?=some "range":=by rfl):PI X tg (.Call (.Name "range" p) [e] [] pos) (Aq t):=
 BV (S.gl _ (hO hg)).1 hm ha.pa (bf ha.he)
variable {a:Expr}
theorem Tj (S:Sc X N W G)(g:Nat){tg:Expr}(hm:X.mg "range"=none)(ha:PB X [e,a] t)(hg:G[g]?=some "range":=by rfl):PI X tg (.Call (.Name "range" p) [e,a] [] pos) (Ar t):=
 have b:Ir a=true:=by have:=ha.ES;rw[all_cons,gz] at this;exact this.1
 BW (S.gl _ (hO hg)).1 hm ha.pa (by rw[bf ha.he,bf b];rfl) (bf b)
variable {o:Expr}{to:TE}{name:Str}{apos c9:Pos}{rm:V->List V->Hp->VK->Prop}
theorem mb (pa:PlainAttrs T)(slot:Slot T name id)(hty:typeOf (.builtin id)=pure (.type "method_descriptor"))(hm:xM X id rm)(ho:PE X o to)(ha:PB X (e::es) t)
  (eZ:attributeBase o name X.env (eval o X.env)=eval o X.env:=by rfl) (hlen:decide ((e::es).length<30)=true:=by rfl)
  (e9:(apos.endLine == c9.line)=true:=by rfl):PE X (.Call (.Attribute o name apos) (e::es) [] c9) (Py X.K T rm to t):=
 Pz pa slot hty hm ho ha.pa eZ (by rw[lH ha.ns];exact hlen) e9 (bf ha.he) (dk ha.ES)
def LB (osc:Scope)(oN N W G:List Str)(scope:Scope)(fv:List (Option Nat)):Bool:=
 NK osc oN N scope fv&&decide N.Nodup&&N.all (ET (rl scope osc))&&W.all (fun x=>(rl scope osc).names.lookup x == some .local)&&G.all (P7 (rl scope osc))
variable {scope:Scope}{fv:List (Option Nat)}
theorem AN {cl:List (Str × Addr)}{C:Addr}{fp:List Addr}{s:Shared}(h1:X.env.scope=osc)(h:LB osc oN N W G scope fv=true):Sc (kH X N scope cl C fp s H) N W G:=by
 unfold LB at h;simp only[Bool.and_eq_true,List.all_eq_true,decide_eq_true_eq,beq_iff_eq] at h;obtain⟨⟨⟨⟨_,c⟩,b⟩,a⟩,d⟩:=h;have e:(kH X N scope cl C fp s H).env.scope=rl scope osc:=by rw[<-h1];rfl
 exact⟨rfl,c,fun x hx=>by rw[e];exact AM (b x hx),fun x hx=>by rw[e];exact⟨.inl (a x hx),.inr (a x hx)⟩,fun x hx=>by unfold Gl Env.kindOf;rw[e];exact EU (d x hx)⟩
variable {oW oG:List Str}
theorem AO (S:Sc X oN oW oG)(h1:X.env.scope=osc)(h:LB osc oN N W G scope fv=true):O5 X.env.scope X.N N scope fv:=by
 unfold LB at h;simp only[Bool.and_eq_true] at h;exact NL h1 S.eN h.1.1.1.1
variable {elt target iter:Expr}{ifs:List Expr}{tc:TT}{wi:TI}
theorem Tn (S:Sc X oN oW oG)(hc:X.calm=true)(h1:X.env.scope=osc)(hi:PI X target iter wi)(h:LB osc oN N W G scope fv=true)
  (hB:∀ cl C fp s H,Sc (kH X N scope cl C fp s H) N W G->PG (kH X N scope cl C fp s H) target g/\Lj (kH X N scope cl C fp s H) ifs tc/\PE (kH X N scope cl C fp s H) elt te)
  (hs:∀ x,foldedSetIterable iter X.env x=pure x:=by intro _;rfl):PE X (.ListComp elt [⟨target,iter,ifs,0⟩] scope pos) (NB wi g tc te fv):=
 PJ hc hi (AO S h1 h) (fun cl C fp s H=>hB cl C fp s H (AN h1 h)) hs
theorem To {px spos:Pos}(S:Sc X oN oW oG)(hc:X.calm=true)(h1:X.env.scope=osc)(hi:PI X target iter wi)(h:LB osc oN N W G scope fv=true)
  (hB:∀ cl C fp s H,Sc (kH X N scope cl C fp s H) N W G->PG (kH X N scope cl C fp s H) target g/\Lj (kH X N scope cl C fp s H) ifs tc/\PE (kH X N scope cl C fp s H) elt te)
  (hx:X.env.scope.names.lookup x=some .local)
  (hsw:swapsWith (.ListComp elt [⟨target,iter,ifs,0⟩] scope pos) (some (.Name x px)) spos.line X.env=pure true) (hi':oN[i]?=some x:=by rfl)
  (hs:∀ x,foldedSetIterable iter X.env x=pure x:=by intro _;rfl):PS X (.Assign [.Name x px] (.ListComp elt [⟨target,iter,ifs,0⟩] scope pos) spos) (sI (NB wi g tc te fv) (bB i)):=
 PK (by rw[S.eN];exact S.nd) (by rw[S.eN];exact hi') hx hc hi (AO S h1 h) (fun cl C fp s H=>hB cl C fp s H (AN h1 h)) hsw hs
theorem EV (h:X.xe=fun _ _=>False):PassesOwn (model X.prog X.w) X.A X.env X.xe:=by rw[h];exact PassesOwn.never
theorem ak (h:X.K=K):Np X (B5 K):=by subst h;exact Jj
theorem aI (h:X.K=K):Np X (Ji K):=by subst h;exact Nq
theorem cN (h:X.K=K):Nm X (Eo K):=by subst h;exact Jk
theorem jv (h:X.K=K):Nm X (Jg K):=by subst h;exact Nn
theorem EW (h:X.K=K):eP X (compareOp .In) (O4 K false):=by subst h;exact B6
theorem eE (h:X.K=K):eP X (compareOp .NotIn) (O4 K true):=by subst h;exact sR
def P8 (K:Frag):List V->Hp->VK->Prop:=fun a H Q=>∃ p ys,a=[.ref p]/\(aw K H p ys∨aE K H p ys)/\Q (.int ys.length) H
theorem ay (h:X.K=K):bS X (.builtin "len") (P8 K):=by subst h;exact sS
def P9 (K:Frag):List V->Hp->VK->Prop:=fun a H Q=>∃ (p:Addr) (ns:List Int),a=[.ref p]/\aw K H p (ns.map V.int)/\Q (.int ns.sum) H
theorem dF (hc:X.calm=true)(h:X.K=K):bS X (.builtin "sum") (P9 K):=by subst h;exact ED hc
variable {l:Expr}
def yq (K:Frag):List V->Hp->VK->Prop:=fun a H Q=>∃ p ys,a=[.ref p]/\((aw K H p ys/\∀ l,H l=none->Q (.ref l) (upd H l (.tup ys)))∨(aE K H p ys/\Q (.ref p) H))
theorem bu (h:X.K=K):bS X (.type "tuple") (yq K):=by subst h;exact qa
def Qa (K:Frag):R2:=fun x y H Q=>∃ d d',Dt K H x d/\Dt K H y d'/\shaped d=true/\shaped d'=true/\Q (.bl (PyData.eqv d d')) H
def Qb (K:Frag):R2:=fun x y H Q=>∃ d d',Dt K H x d/\Dt K H y d'/\shaped d=true/\shaped d'=true/\Q (.bl (!PyData.eqv d d')) H
theorem iK (hu:X.A.units+64<cLine)(h:X.K=K):eP X (compareOp .Eq) (Qa K):=by subst h;exact NC hu
theorem iL (hu:X.A.units+64<cLine)(h:X.K=K):eP X (compareOp .NotEq) (Qb K):=by subst h;exact ND hu
def LC (K:Frag):R2:=fun x y H Q=>∃ l b xs zs,x=.ref l/\y=.ref b/\aw K H l xs/\aw K H b zs/\xs.length+zs.length<=sizeLine/\∀ p,H p=none->Q (.ref p) (upd H p (.lst (xs++zs)))
theorem cZ (h:X.K=K):eP X (binaryOp .Add) (LC K):=by subst h;exact JB
def Qc:List V->Hp->VK->Prop:=fun a H Q=>∃ x T n b,a=[x,.ty T]/\tyName x H=some n/\Jz n T=some b/\Q (.bl b) H
theorem rG:bS X (.builtin "isinstance") Qc:=EE
def Qd:List V->Hp->VK->Prop:=fun a H Q=>∃ i j,a=[.int i,.int j]/\Q (.int (if j>i then j else i)) H
theorem Cf (hc:X.calm=true):bS X (.builtin "max") Qd:=BZ hc
variable {i:Int}
theorem LD {j:Int} :Qd [.int i,.int j] H Q=Q (.int (if j>i then j else i)) H:=propext ⟨fun ⟨a,b,e,q⟩=>by cases e;exact q,fun q=>⟨i,j,rfl,q⟩⟩
variable {tg:Expr}
theorem EX (hl:PE X l tl)(h:X.K=K):PI X tg l (Ap K tl):=by subst h;exact IL hl
theorem JE (hl:PE X l tl)(h:X.K=K):PI X tg l (IK K tl):=by subst h;exact M7 hl
theorem Tp (pa:PlainAttrs T)(slot:Slot T name id)(hty:typeOf (.builtin id)=pure (.type "method_descriptor"))(hm:xM X id rm)(h:X.K=K)(ho:PE X o to)(ha:PB X (e::es) t)
  (eZ:attributeBase o name X.env (eval o X.env)=eval o X.env:=by rfl) (hlen:decide ((e::es).length<30)=true:=by rfl)
  (e9:(apos.endLine == c9.line)=true:=by rfl):PE X (.Call (.Attribute o name apos) (e::es) [] c9) (Py K T rm to t):=by subst h;exact mb pa slot hty hm ho ha eZ hlen e9
theorem Su (pa:PlainAttrs T)(slot:Slot T name id)(hty:typeOf (.builtin id)=pure (.type "method_descriptor"))(hm:xM X id rm)(h:X.K=K)(ho:PE X o to)
  (eZ:attributeBase o name X.env (eval o X.env)=eval o X.env:=by rfl)
  (e9:(apos.endLine == c9.line)=true:=by rfl):PE X (.Call (.Attribute o name apos) [] [] c9) (Jl K T rm to):=by subst h;exact Nu pa slot hty hm ho eZ e9
def EY (K:Frag):R2:=fun x y H Q=>∃ a b xs ys,x=.ref a/\y=.ref b/\aE K H a xs/\aE K H b ys/\xs.length+ys.length<=sizeLine/\∀ p H',ah H H'->aE K H' p (xs++ys)->Q (.ref p) H'
theorem iM (h:X.K=K):eP X (binaryOp .Add) (EY K):=by
 subst h;intro g s σ H x y v u Q I r o h;obtain⟨a,b,t,E,rfl,rfl,m,hb,hz,q⟩:=h
 by_cases hx:t=[]
 ·subst hx
  cases r
  cases o
  obtain⟨N,L,⟨⟨J,C,z,D⟩,e,B,n,A⟩,_⟩:=I.tuple m;obtain⟨d,O,⟨⟨w,j,i,l⟩,e2,c,M,f⟩,_⟩:=I.tuple hb
  simp only at B A c f
  subst B A c f
  cases L
  refine concat_meets ⟨_,e,rfl⟩ ⟨_,e2,rfl⟩ noFill_tuple_add seq_tuple_add slot_tuple_add entry_tuple_add (args_tuple_add_2 _ _) (tuple_addW0 a b _ d.toArray n M C j D l rfl) ⟨e,e2,?_⟩;exact⟨.ref b,H,I,rfl,q b H (ah.refl _) hb⟩
 ·exact Jh g s σ H _ _ v u Q I r o ⟨a,b,t,E,rfl,rfl,m,hb,hx,hz,fun e=>q a H (ah.refl _) (by rw[e,Ui];exact m),fun _ p G=>q p _ (ah.new G _) (aE.of ag)⟩
def Qe (sc:Scope):Env:={scope:=sc,locals:=0,globals:=0,cells:=[],qual:="",func:=none,code:=.none,frame:=none,builtins:=0}
theorem dX (v:Expr)(t:Option Expr)(l:Nat)(env:Env):swapsWith v t l env=swapsWith v t l (Qe env.scope):=rfl
def AQ:List Expr->Option (List Int)
 | []=>some []
 | .Constant (.int i) _ _::r=>(AQ r).map (i::·)
 | _=>none
def EZ (ns:List Int):TA:=fun _ H Q=>Q (ns.map V.int) H
theorem AR {X:Cx}:∀ {es:List Expr} {ns:List Int},AQ es=some ns->PB X es (EZ ns)
 | [],ns,h=>by cases h;exact yp
 | e::es,ns,h=>by
  unfold AQ at h
  split at h
  ·rename_i h1;cases h1
  ·rename_i i k p r h1
   cases h1
   obtain⟨b,a,rfl⟩:=Option.map_eq_some_iff.mp h;exact sZ lx (AR a)
  ·cases h
def AS:List Expr->Option (List Str)
 | []=>some []
 | .Constant (.str i) _ _::r=>(AS r).map (i::·)
 | _=>none
def Fb (ns:List Str):TA:=fun _ H Q=>Q (ns.map V.str) H
theorem AU {X:Cx}:∀ {es:List Expr} {ns:List Str},AS es=some ns->PB X es (Fb ns)
 | [],ns,h=>by cases h;exact yp
 | e::es,ns,h=>by
  unfold AS at h
  split at h
  ·rename_i h1;cases h1
  ·rename_i i k p r h1
   cases h1
   obtain⟨b,a,rfl⟩:=Option.map_eq_some_iff.mp h;exact sZ DX (AU a)
  ·cases h
variable {Q:List V->Hp->Prop}
theorem Fc {ns:List Int}{σ:St} :EZ ns σ H Q=Q (ns.map V.int) H:=rfl
theorem Fd {ns:List Str}{σ:St} :Fb ns σ H Q=Q (ns.map V.str) H:=rfl
structure QE (X:Cx)(e:Expr)(t:TE):Prop where
 h:PE X e t
structure QT (X:Cx)(e:Expr)(t:TT):Prop where
 h:PT X e t
structure QW (X:Cx)(e:Expr)(t:TT):Prop where
 h:PW X e t
structure QB (X:Cx)(es:List Expr)(t:TA):Prop where
 h:PB X es t
structure QS (X:Cx)(st:Stmt)(t:TS):Prop where
 h:PS X st t
structure Cg (X:Cx)(st:List Stmt)(t:TS):Prop where
 h:xK X st t
structure QG (X:Cx)(e:Expr)(t:TG):Prop where
 h:PG X e t
structure Qf (X:Cx)(e:List Expr)(t:Ao):Prop where
 h:O3 X e t
structure QI (X:Cx)(tg iter:Expr)(wi:TI):Prop where
 h:PI X tg iter wi
structure R7 (X:Cx)(ifs:List Expr)(t:TT):Prop where
 h:Lj X ifs t
structure QO (X:Cx)(e:Option Expr)(t:TO):Prop where
 h:PO X e t
theorem kv (S:Sc X N W G)(i:Nat)(h:N[i]?=some x:=by rfl):QE X (.Name x pos) (sG i):=⟨vv S i h⟩
variable {j:Nat}
theorem aq:QE X (.Constant (.int i) j pos) (tC (.int i)):=⟨lx⟩
theorem vF {i:Bool} :QE X (.Constant (.bool i) j pos) (tC (.bl i)):=⟨Ph⟩
theorem lI:QE X (.Constant .none j pos) (tC .bx):=⟨MK⟩
theorem ba {i:Str} :QE X (.Constant (.str i) j pos) (tC (.str i)):=⟨DX⟩
variable {b:Expr}{ta tb:TE}
theorem aS {op:Operator}{r:R2}(ho:eP X (binaryOp op) r)(ha:QE X a ta)(hb:QE X b tb):QE X (.BinOp a op b pos) (xV r ta tb):=⟨vo ho ha.h hb.h⟩
variable {pos':Pos}{n:Int}
theorem rH (ha:QE X a ta)(h:0<n/\n<1073741824:=by decide):QE X (.BinOp a .FloorDiv (.Constant (.int n) k pos') pos) (tI (fun i=>.int (i / n)) ta):=⟨Jv ha.h h⟩
theorem bX (ha:QE X a ta)(h:0<n:=by decide):QE X (.BinOp a .Mod (.Constant (.int n) k pos') pos) (tI (fun i=>.int (i % n)) ta):=⟨Jw ha.h h⟩
theorem Fe (ha:QE X a ta)(h:-(2 ^ 64)<n/\n<2 ^ 64:=by decide):QE X (.BinOp a .Mult (.Constant (.int n) k pos') pos) (tI (fun i=>.int (i*n)) ta):=⟨Jx ha.h h⟩
theorem Ff (ha:QE X a ta)(h:-(2 ^ 64)<n/\n<2 ^ 64:=by decide):QE X (.BinOp (.Constant (.int n) k pos') .Mult a pos) (tI (fun i=>.int (n*i)) ta):=⟨Jy ha.h h⟩
theorem NM {op:UnaryOp}{r:V->Hp->VK->Prop}(ho:Pm X (unaryOp op) r)(ha:QE X a ta):QE X (.UnaryOp op a pos) (Sm r ta):=⟨Pn ho ha.h⟩
variable {r:R2}
theorem fB {op:CmpOp}(ho:eP X (compareOp op) r)(ha:QE X a ta)(hb:QE X b tb)(hm:behindInMarks op b=false):QE X (.Compare a [op] [b] pos) (xV r ta tb):=⟨IT ho ha.h hb.h hm⟩
variable {c:Expr}{tc:TE}
theorem Fg {op op':CmpOp}{r':R2}(ho:eP X (compareOp op) r)(ho':eP X (compareOp op') r')(ha:QE X a ta)(hb:QE X b tb)(hc:QE X c tc)
  (hm:lastMarks [op,op'] [b,c]=false:=by with_unfolding_all rfl):QE X (.Compare a [op,op'] [b,c] pos) (oh r r' ta tb tc):=⟨Eb ho ho' ha.h hb.h hc.h hm⟩
theorem lJ {op}(h:QE X a ta):QE X (.BoolOp op [a] pos) ta:=⟨MU h.h⟩
variable {rest:List Expr}
theorem kK (ha:QE X a ta)(hb:QE X (.BoolOp .And (b::rest) pos) tb):QE X (.BoolOp .And (a::b::rest) pos) (DZ ta tb):=⟨MV ha.h hb.h⟩
theorem Sv (ha:QE X a ta)(hb:QE X (.BoolOp .Or (b::rest) pos) tb):QE X (.BoolOp .Or (a::b::rest) pos) (MT ta tb):=⟨Pk ha.h hb.h⟩
variable {tA:TT}
theorem Sw (hc:QT X c tA)(ha:QE X a ta)(hb:QE X b tb):QE X (.IfExp c a b pos) (Sk tA ta tb):=⟨D0 hc.h ha.h hb.h⟩
theorem ae:QB X [] sM:=⟨yp⟩
theorem aa (ha:QE X e te)(hr:QB X es t)(hn:Ir e=true:=by rfl):QB X (e::es) (Ax te t):=⟨sZ ha.h hr.h hn⟩
theorem tf {ns:List Int}(h:AQ es=some ns):QB X es (EZ ns):=⟨AR h⟩
theorem AV {ns:List Str}(h:AS es=some ns):QB X es (Fb ns):=⟨AU h⟩
theorem rJ {x1}(h:QB X es t):QE X (.Tuple es x1 pos) (Ja t):=⟨P5 h.h⟩
theorem eQ (h:QB X es t):QE X (.List es pos) (Jb t):=⟨P6 h.h⟩
theorem bc (hr:Np X r)(ha:QE X a ta)(hb:QE X b tb)(hs:AD b):QE X (.Subscript a b pos) (xV r ta tb):=⟨Pu hr ha.h hb.h hs⟩
theorem bC:QO X none sN:=⟨Je⟩
theorem bD (h:QE X e te):QO X (some e) (Ek te):=⟨Jf h.h⟩
theorem ou {lo hi:Option Expr}{tl th:TO}{p2:Pos}{r:V->Option Int->Option Int->Hp->VK->Prop}(hr:Nm X r)(he:QE X e te)(hl:QO X lo tl)(hu:QO X hi th):QE X (.Subscript e (.Slice lo hi none p2) pos) (Sn r te tl th):=⟨El hr he.h hl.h hu.h⟩
theorem bZ (S:Sc X N W G)(g:Nat)(F:Fn X.prog X.w X.K X.mg X.base k x ps sp)(hr:cB m X.A)(ha:QB X (e::es) t)(hk:k<=m:=by decide)(hg:G[g]?=some x:=by rfl):QE X (.Call (.Name x p) (e::es) [] pos) (rh sp [] E0 t):=⟨ff S g F hr ha.h hk hg⟩
variable {r:List V->Hp->VK->Prop}
theorem cV (S:Sc X N W G)(g:Nat)(hc:bS X (.builtin id) r)(hm:X.mg x=none)(hv:bootBuiltins x=some (.builtin id))(ha:QB X (e::es) t)(hg:G[g]?=some x:=by rfl):QE X (.Call (.Name x p) (e::es) [] pos) (Nk r t):=⟨cb S g hc hm hv ha.h hg⟩
theorem fW (S:Sc X N W G)(g:Nat)(hc:bS X (.type T) r)(hm:X.mg x=none)(hv:bootBuiltins x=some (.type T))(ha:QB X (e::es) t)(hg:G[g]?=some x:=by rfl):QE X (.Call (.Name x p) (e::es) [] pos) (Nk r t):=⟨ct S g hc hm hv ha.h hg⟩
theorem S5 (S:Sc X N W G)(g:Nat)(hm:X.mg x=none)(hv:bootBuiltins x=some (.type T))(hg:G[g]?=some x:=by rfl):QE X (.Name x pos) (tC (.ty T)):=⟨Th S g hm hv hg⟩
theorem ir (pa:PlainAttrs T)(slot:Slot T name id)(hty:typeOf (.builtin id)=pure (.type "method_descriptor"))(hm:xM X id rm)(h:X.K=K)(ho:QE X o to)(ha:QB X (e::es) t)
  (eZ:attributeBase o name X.env (eval o X.env)=eval o X.env:=by rfl) (hlen:decide ((e::es).length<30)=true:=by rfl)
  (e9:(apos.endLine == c9.line)=true:=by rfl):QE X (.Call (.Attribute o name apos) (e::es) [] c9) (Py K T rm to t):=⟨Tp pa slot hty hm h ho.h ha.h eZ hlen e9⟩
theorem Sx (pa:PlainAttrs T)(slot:Slot T name id)(hty:typeOf (.builtin id)=pure (.type "method_descriptor"))(hm:xM X id rm)(h:X.K=K)(ho:QE X o to)
  (eZ:attributeBase o name X.env (eval o X.env)=eval o X.env:=by rfl)
  (e9:(apos.endLine == c9.line)=true:=by rfl):QE X (.Call (.Attribute o name apos) [] [] c9) (Jl K T rm to):=⟨Su pa slot hty hm h ho.h eZ e9⟩
variable {r:R2}
theorem aQ {op:CmpOp}(ho:eP X (compareOp op) r)(ha:QE X a ta)(hb:QE X b tb)(hm:behindInMarks op b=false):QT X (.Compare a [op] [b] pos) (vq (xV r ta tb)):=⟨IU ho ha.h hb.h hm⟩
theorem yr {op op':CmpOp}{r':R2}(ho:eP X (compareOp op) r)(ho':eP X (compareOp op') r')(ha:QE X a ta)(hb:QE X b tb)(hc:QE X c tc)
  (hm:lastMarks [op,op'] [b,c]=false:=by with_unfolding_all rfl):QT X (.Compare a [op,op'] [b,c] pos) (vq (oh r r' ta tb tc)):=⟨Ec ho ho' ha.h hb.h hc.h hm⟩
theorem Fh (ha:QT X a tA):QW X (.BoolOp .And [a] pos) tA:=⟨IE ha.h⟩
theorem nq (ha:QT X a tA):QW X (.BoolOp .Or [a] pos) tA:=⟨MP ha.h⟩
variable {tB':TT}
theorem NO (ha:QT X a tA)(hb:QW X (.BoolOp .And (b::rest) pos) tB'):QW X (.BoolOp .And (a::b::rest) pos) (MN tA tB'):=⟨MR ha.h hb.h⟩
theorem yt (ha:QT X a tA)(hb:QW X (.BoolOp .Or (b::rest) pos) tB'):QW X (.BoolOp .Or (a::b::rest) pos) (Sj tA tB'):=⟨Pj ha.h hb.h⟩
theorem yu (h:QW X a tA):QT X a tA:=⟨h.h.pt⟩
theorem iN (ha:QT X a tA):QT X (.UnaryOp .Not a pos) (MO tA):=⟨MS ha.h⟩
variable {v:TS}
theorem iu (h:QE X e te)(he:∀ whole,isTrue e X.env whole=(do let v<-whole;standAt e.pos;holding [v] (truthy v)):=by intro _;rfl):QT X e (tB te):=⟨MM h.h he⟩
theorem kg (S:Sc X N W G)(i:Nat)(h:N[i]?=some x:=by rfl)(hw:W[i]?=some x:=by rfl):QG X (.Name x pos) (bB i):=⟨gv S i h hw⟩
theorem cC:Qf X [] ni:=⟨IJ⟩
variable {tgs:Ao}
theorem aN (h1:QG X e g)(h2:Qf X es tgs)(hs:(assignEach (e::es) X.env).map (·.2)=assign e X.env::(assignEach es X.env).map (·.2):=by rfl):Qf X (e::es) (dc g tgs):=⟨D6 h1.h h2.h hs⟩
variable {n kk:Nat}
theorem jU (hc:X.calm=true)(hK:X.K=K)(h:Qf X es tgs)(hn:(assignEach es X.env).length=n:=by rfl)(hst:(assignEach es X.env).findIdx? (·.1)=none:=by rfl):QG X (.Tuple es kk pos) (nj K n tgs):=⟨by subst hK;exact M1 hc h.h hn hst⟩
theorem Sy {ti:TE}{i:Expr}{tS:D5}(ho:QE X o to)(hi:QE X i ti)(hs:MZ X tS)
  (ha:∀ v,assign (.Subscript o i pos) X.env v=(do
   let ov<-holding [v] (eval o X.env)
   let iv<-holding [v,ov] (eval i X.env)
   standAt pos
   holding [v,ov,iv] (setItem ov iv v)
   release [v,ov,iv] []):=by intro _;rfl):QG X (.Subscript o i pos) (M3 to ti tS):=⟨M4 ho.h hi.h hs ha⟩
theorem jE (S:Sc X N W G)(g:Nat)(hm:X.mg "range"=none)(ha:QB X [e] t)(hg:G[g]?=some "range":=by rfl):QI X tg (.Call (.Name "range" p) [e] [] pos) (Aq t):=⟨Ti S g hm ha.h hg⟩
theorem Qg (S:Sc X N W G)(g:Nat)(hm:X.mg "range"=none)(ha:QB X [e,a] t)(hg:G[g]?=some "range":=by rfl):QI X tg (.Call (.Name "range" p) [e,a] [] pos) (Ar t):=⟨Tj S g hm ha.h hg⟩
theorem cw (hl:QE X e te)(h:X.K=K):QI X tg e (Ap K te):=⟨EX hl.h h⟩
theorem dY (hl:QE X e te)(h:X.K=K):QI X tg e (IK K te):=⟨JE hl.h h⟩
theorem bo:R7 X [] il:=⟨Js⟩
theorem fe (h:QT X e tA):R7 X [e] tA:=⟨Jt h.h⟩
theorem bp (S:Sc X N W G)(i:Nat)(he:QE X e te)(h:N[i]?=some x:=by rfl)(hw:W[i]?=some x:=by rfl)(hs:swapsWith e (some (.Name x pos')) pos.line X.env=pure false:=by rfl) :
  QS X (.Assign [.Name x pos'] e pos) (sI te (bB i)):=⟨sv S i he.h h hw hs⟩
theorem yv (he:QE X e te)(hg:QG X tg g)(hs:swapsWithSole [tg] e pos.line X.env=pure false:=by rfl)(hw:swappedStores [tg] e X.env=pure none:=by rfl)
  (h1:(assignEach [tg] X.env).map (·.2)=[assign tg X.env]:=by rfl):QS X (.Assign [tg] e pos) (sI te g):=⟨M5 he.h hg.h hs hw h1⟩
theorem aJ (he:QE X e te):QS X (.Return (some e) pos) (MW te):=⟨MX he.h⟩
theorem dm (he:QE X e te)(hs:swapsWith e none pos.line X.env=pure false:=by rfl):QS X (.Expr e pos) (D4 te):=⟨IH he.h hs⟩
theorem cA {l l':List Stmt}(hc:QT X c tA)(ha:Cg X l u)(hb:Cg X l' v):QS X (.If c l l' pos) (MY tA u v):=⟨Pl hc.h ha.h hb.h⟩
variable {sts:List Stmt}
theorem yw (hxe:X.xe=fun _ _=>False)(hc:QT X c tA)(hb:Cg X sts u):QS X (.While c sts [] pos) (sL tA u):=⟨D8 (EV hxe) hc.h hb.h⟩
theorem fC (hxe:X.xe=fun _ _=>False)(hc:X.calm=true)(hi:QI X tg iter wi)(hg:QG X tg g)(hb:Cg X sts u)(hs:∀ x,foldedSetIterable iter X.env x=pure x:=by intro _;rfl):QS X (.For tg iter sts [] pos) (M8 wi g u):=⟨M9 (EV hxe) hc hi.h hg.h hb.h hs⟩
theorem ax:Cg X [] D1:=⟨IF⟩
theorem af (h1:QS X st u)(h2:Cg X sts v):Cg X (st::sts) (BR u v):=⟨D3 h1.h h2.h⟩
theorem ai (h1:QS X st u):Cg X [st] u:=⟨IG h1.h⟩
theorem iC (S:Sc X oN oW oG)(hc:X.calm=true)(h1:X.env.scope=osc)(hi:QI X target iter wi)(h:LB osc oN N W G scope fv=true)
  (hB:∀ cl C fp s H,Sc (kH X N scope cl C fp s H) N W G->QG (kH X N scope cl C fp s H) target g/\R7 (kH X N scope cl C fp s H) ifs tA/\QE (kH X N scope cl C fp s H) elt te)
  (hs:∀ x,foldedSetIterable iter X.env x=pure x:=by intro _;rfl):QE X (.ListComp elt [⟨target,iter,ifs,0⟩] scope pos) (NB wi g tA te fv):=
 ⟨Tn S hc h1 hi.h h (fun cl C fp s H a=>⟨(hB cl C fp s H a).1.h,(hB cl C fp s H a).2.1.h,(hB cl C fp s H a).2.2.h⟩) hs⟩
variable {i:Nat}
theorem Fi {px spos:Pos}(S:Sc X oN oW oG)(hc:X.calm=true)(h1:X.env.scope=osc)(hi:QI X target iter wi)(h:LB osc oN N W G scope fv=true)
  (hB:∀ cl C fp s H,Sc (kH X N scope cl C fp s H) N W G->QG (kH X N scope cl C fp s H) target g/\R7 (kH X N scope cl C fp s H) ifs tA/\QE (kH X N scope cl C fp s H) elt te)
  (hx:X.env.scope.names.lookup x=some .local)
  (hsw:swapsWith (.ListComp elt [⟨target,iter,ifs,0⟩] scope pos) (some (.Name x px)) spos.line X.env=pure true) (hi':oN[i]?=some x:=by rfl)
  (hs:∀ x,foldedSetIterable iter X.env x=pure x:=by intro _;rfl):QS X (.Assign [.Name x px] (.ListComp elt [⟨target,iter,ifs,0⟩] scope pos) spos) (sI (NB wi g tA te fv) (bB i)):=
 ⟨To S hc h1 hi.h h (fun cl C fp s H a=>⟨(hB cl C fp s H a).1.h,(hB cl C fp s H a).2.1.h,(hB cl C fp s H a).2.2.h⟩) hx hsw hi' hs⟩
theorem Def.gq (D:Def K mg x st)(S:DS (aj st) N ps G)
  (hb:∀ (kV doc pm:Value) (an:Option Addr) (cU ct:Value) (us:List Value),us.length=ps.length->bindArgs (fnOf x x (bw st) (aY st) (aj st) .none kV doc pm an cU ct) ⟨us,[]⟩=pure (ps.zip us))
  (len:∀ vs H Q E,sp vs H Q E->vs.length=ps.length)
  (eY:∀ (X:Cx),Sc X N N G->X.prog=P->X.w=w->X.K=K->X.mg=mg->X.base=base->X.calm=true->X.env.scope=aj st->X.xe=(fun _ _=>False)->cB k X.A->X.A.units+64<cLine->
   ∀ (H:Hp) (vs:List V) (Q:VK) (E:XK),sp vs H Q E->∃ t,Cg X (aY st) t/\t {nx:=fun _ H'=>Q .bx H',rt:=Q} (L2.start N vs) H):Fn P w K mg base (k+1) x ps sp:=
 D.go S hb len fun X a b c d e f g h i j l H vs Q E q=>by
  obtain⟨t,z,y⟩:=eY X a b c d e f g h i j l H vs Q E q;exact⟨t,z.h,y⟩
def pr:List Int->Int
 | []=>1
 | c::r=>c*pr r
theorem tj (xs:List Int)(c:Int):pr (xs++[c])=pr xs*c:=by
 induction xs with
 | nil=>simp[pr]
 | cons a r b=>rw[cons_append,pr,b,pr,Int.mul_assoc]
def cj (W:Int)(cs:List Int):Int:=(cs.map (W / ·)).sum
theorem sum_append (xs ys:List Int):(xs++ys).sum=xs.sum+ys.sum:=by
 induction xs with
 | nil=>simp
 | cons a r b=>rw[cons_append,Tz,b,Tz,Int.add_assoc]
theorem rK (W:Int)(xs:List Int)(c:Int):cj W (xs++[c])=cj W xs+W / c:=by
 unfold cj;rw[hU,sum_append];simp
theorem ow {c:Int}:∀ {cs:List Int},c∈cs->c∣pr cs
 | a::r,h=>by
  rcases h9.mp h with rfl | h
  ·exact⟨pr r,rfl⟩
  ·obtain⟨d,e⟩:=ow h;exact⟨a*d,by rw[pr,e,<-Int.mul_assoc,<-Int.mul_assoc,Int.mul_comm a c]⟩
theorem f6:∀ {cs:List Int},(∀ c∈cs,1<=c)->1<=pr cs
 | [],_=>by decide
 | a::r,h=>by
  have h1:=h a (fO ..);have b:=f6 (cs:=r) fun c hc=>h c (fA _ hc)
  have:=Int.mul_le_mul h1 b (by decide) (by omega)
  rw[pr];omega
theorem vG {W d:Int}:∀ {cs:List Int},(∀ c∈cs,c∣W)->cj (W*d) cs=cj W cs*d
 | [],_=>by simp[cj]
 | a::r,h=>by
  have b:=vG (W:=W) (d:=d) (cs:=r) fun c hc=>h c (fA _ hc);unfold cj at b ⊢;rw[pS,pS,Tz,Tz,b,TY,Int.mul_comm W d,Int.mul_ediv_assoc d (h a (fO ..)),Int.mul_comm d]
theorem iO {W:Int}(hW:0<=W):∀ {cs:List Int},(∀ c∈cs,1<=c)->0<=cj W cs
 | [],_=>by simp[cj]
 | a::r,h=>by
  have b:=iO hW (cs:=r) fun c hc=>h c (fA _ hc);have h1:=h a (fO ..)
  have:0<=W / a:=ediv_nonneg hW (by omega)
  unfold cj at b ⊢;rw[pS,Tz];omega
variable {c:Int}
theorem Ci {xs:List Int}(hc:1<=c):cj (pr (xs++[c])) (xs++[c])=cj (pr xs) xs*c+pr xs:=by
 rw[rK,tj,vG fun c hc=>ow hc,Int.mul_ediv_cancel _ (by omega)]
theorem AW {W:Int}(hW:0<=W):∀ {cs:List Int},(∀ c∈cs,1<=c)->cj W cs<=cs.length*W
 | [],_=>by simp[cj]
 | a::r,h=>by
  have b:=AW hW (cs:=r) fun c hc=>h c (fA _ hc);have h1:=h a (fO ..);have d:W / a<=W:=ediv_le_self _ hW;unfold cj at b ⊢;rw[pS,Tz,ot,Int.natCast_succ,TY];omega
theorem Fj (m n:Nat):Nat.gcd n (m % n)=Nat.gcd m n:=by
 rw[Nat.gcd_comm m n,Nat.gcd_rec n m,Nat.gcd_comm]
variable {a b g:Int}
theorem JF (hg:0<g)(h1:g∣a)(h2:g∣b):(a / g) / (b / g)=a / b:=by
 obtain⟨x,rfl⟩:=h1;obtain⟨y,rfl⟩:=h2;rw[TH _ (by omega),TH _ (by omega),Int.mul_ediv_mul_of_pos _ _ hg]
theorem JG (hg:0<g)(hb:0<b)(h2:g∣b):1<=b / g:=by
 obtain⟨y,rfl⟩:=h2;rw[TH _ (by omega)]
 have:=Int.pos_of_mul_pos_right hb (by omega)
 omega
def de (W c start seen:Int):Int:=((start - seen) % W+W / c - 1) / (W / c) % c
variable {W seen:Int}
theorem Fo {start:Int}(hc:1<=c):0<=de W c start seen:=SL _ (by omega)
theorem Fp {start:Int}(hc:1<=c):de W c start seen<c:=F8 _ (by omega)
variable {x:Int}
theorem R8 {y:Int}(ha:1<=a)(h1:x*a<y*a+a)(h2:y*a<x*a+a):x=y:=by
 rcases Int.lt_trichotomy x y with h | h | h
 ·have:(x+1)*a<=y*a:=A4 (by omega) (by omega)
  rw[TY] at this;omega
 ·exact h
 ·have:(y+1)*a<=x*a:=A4 (by omega) (by omega)
  rw[TY] at this;omega
theorem Cj {start h:Int}(hW:1<=W)(hc:1<=c)(hd:c∣W)(h0:0<=h)(h1:h<c) :
  de W c start seen=h↔(h*(W / c)+seen - start) % W<W / c:=by
 obtain⟨a,rfl⟩:=hd;have g:1<=a:=by
  have:=Int.pos_of_mul_pos_right (show 0<c*a by omega) (by omega)
  omega
 unfold de;rw[TH _ (by omega)]
 have n:=SL (start - seen) (show c*a≠0 by omega)
 have i:=F8 (start - seen) (show 0<c*a by omega)
 have hm:(h*a+seen - start) % (c*a)=(h*a - (start - seen) % (c*a)) % (c*a):=by
  rw[show h*a+seen - start=h*a - (start - seen) by omega]
  rw[sub_emod,sub_emod (h*a) ((start - seen) % (c*a)),Int.emod_emod_of_dvd (start - seen) (Int.dvd_refl (c*a))]
 rw[hm];generalize (start - seen) % (c*a)=L at n i ⊢;have l:=mul_ediv_add_emod (L+a - 1) a;have s:=SL (L+a - 1) (show a≠0 by omega)
 have p:=F8 (L+a - 1) (show 0<a by omega)
 have f:0<=(L+a - 1) / a:=ediv_nonneg (by omega) (by omega)
 generalize (L+a - 1) / a=q at l f ⊢;generalize (L+a - 1) % a=r at l s p;rw[Int.mul_comm a q] at l;have t:q<=c:=by
  rcases Int.lt_or_le c q with hh | hh
  ·have:(c+1)*a<=q*a:=A4 (by omega) (by omega)
   rw[TY] at this;omega
  ·exact hh
 have u:1*a<=c*a:=A4 hc (by omega)
 have v:h*a+a<=c*a:=by
  have:(h+1)*a<=c*a:=A4 (by omega) (by omega)
  rw[TY] at this;omega
 have o:0<=h*a:=Int.mul_nonneg h0 (by omega)
 by_cases j:q=c
 ·subst j;rw[Int.emod_self]
  constructor
  ·rintro rfl
   have:(0*a - L) % (q*a)=q*a - L:=by
    rw[show 0*a - L=(q*a - L)+(q*a)*(-1) by rw[Int.zero_mul];omega,T4]
    exact Uk (by omega) (by omega)
   rw[this];omega
  ·intro b
   rcases Int.lt_or_le (h*a) L with hh | hh
   ·have:(h*a - L) % (q*a)=h*a - L+q*a:=by
     have z:h*a - L=(h*a - L+q*a)+(q*a)*(-1):=by omega
     have d:=T4 (h*a - L+q*a) (q*a) (-1);rw[<-z] at d;rw[d];exact Uk (by omega) (by omega)
    rw[this] at b;have e:h+q=q:=R8 g (x:=h+q) (y:=q) (by rw[TY];omega) (by rw[TY];omega)
    omega
   ·rw[Uk (by omega) (by omega)] at b
    have e:h=q:=R8 g (by omega) (by omega)
    omega
 ·have m:q % c=q:=Uk f (by omega)
  rw[m]
  constructor
  ·rintro rfl;rw[Uk (by omega) (by omega)];omega
  ·intro b
   rcases Int.lt_or_le (h*a) L with hh | hh
   ·have:(h*a - L) % (c*a)=h*a - L+c*a:=by
     have z:h*a - L=(h*a - L+c*a)+(c*a)*(-1):=by omega
     have d:=T4 (h*a - L+c*a) (c*a) (-1);rw[<-z] at d;rw[d];exact Uk (by omega) (by omega)
    rw[this] at b;have e:h+c=q:=R8 g (x:=h+c) (y:=q) (by rw[TY];omega) (by rw[TY];omega)
    omega
   ·rw[Uk (by omega) (by omega)] at b
    exact R8 g (by omega) (by omega)
theorem NP {t:Int}(hW:1<=W)(ha0:0<=a)(haW:a<=W):(x+a - t+W - 1) / W=(x - t+W - 1) / W+(if (t - x) % W<a then 1 else 0):=by
 have b:=mul_ediv_add_emod (x - t+W - 1) W;have c:=SL (x - t+W - 1) (show W≠0 by omega)
 have d:=F8 (x - t+W - 1) (show 0<W by omega)
 generalize (x - t+W - 1) / W=q at b ⊢;generalize (x - t+W - 1) % W=r at b c d;have e:(t - x) % W=W - 1 - r:=by
  rw[show t - x=(W - 1 - r)+W*(-q) by rw[Int.mul_neg];omega,T4]
  exact Uk (by omega) (by omega)
 rw[e,show x+a - t+W - 1=(r+a)+W*q by omega,Int.add_mul_ediv_left _ _ (by omega)]
 split
 ·have:(r+a) / W=1:=by
   rw[show r+a=(r+a - W)+W*1 by omega,Int.add_mul_ediv_left _ _ (by omega),Int.ediv_eq_zero_of_lt (by omega) (by omega)];rfl
  omega
 ·rw[Int.ediv_eq_zero_of_lt (by omega) (by omega)];omega
def dZ (W:Int)(cs hs:List Int):Int:=((List.range cs.length).map fun j=>hs.getD j 0*(W / cs.getD j 0)).sum
def others (n i:Nat):List Nat:=(List.range n).filter fun j=>decide (¬ j=i)
def seenOf (W:Int)(cs hs:List Int)(i:Nat):Int:=((others cs.length i).map fun j=>hs.getD j 0*(W / cs.getD j 0)).sum
def cg (cs hs:List Int)(i:Nat):Int:=de (pr cs) (cs.getD i 0) (cj (pr cs) (cs.take i)) (seenOf (pr cs) cs hs i)
theorem rL (f:Nat->Int)(i:Nat):∀ n,((List.range n).map f).sum=(((List.range n).filter fun j=>decide (¬ j=i)).map f).sum+(if i<n then f i else 0)
 | 0=>by simp
 | n+1=>by
  rw[Gc,hU,sum_append,rL f i n,TC,hU,sum_append]
  by_cases h:n=i
  ·subst h
   simp
  ·by_cases b:i<n
   ·have a:i<n+1:=by omega
    simp[h,b,a];omega
   ·have a:¬ i<n+1:=by omega
    simp[h,b,a]
variable {cs hs:List Int}
theorem qd (hi:i<cs.length):dZ W cs hs=seenOf W cs hs i+hs.getD i 0*(W / cs.getD i 0):=by
 unfold dZ seenOf others;rw[rL _ i,if_pos hi]
structure JH (cs hs:List Int):Prop where
 pos:∀ c∈cs,1<=c
 len:hs.length=cs.length
 lo:∀ i,i<cs.length->0<=hs.getD i 0
 hi:∀ i,i<cs.length->hs.getD i 0<cs.getD i 0
theorem getD_mem (hi:i<cs.length):cs.getD i 0∈cs:=by
 rw[b5,cc hi];exact p0 hi
theorem Qh (h:∀ c∈cs,1<=c)(hi:i<cs.length):0<=cg cs hs i:=Fo (h _ (getD_mem hi))
theorem Qi (h:∀ c∈cs,1<=c)(hi:i<cs.length):cg cs hs i<cs.getD i 0:=Fp (h _ (getD_mem hi))
theorem Fq (h:JH cs hs)(hi:i<cs.length) :
  cg cs hs i=hs.getD i 0↔(dZ (pr cs) cs hs - cj (pr cs) (cs.take i)) % pr cs<pr cs / cs.getD i 0:=by
 have hc:=h.pos _ (getD_mem hi);unfold cg;rw[Cj (f6 h.pos) hc (ow (getD_mem hi)) (h.lo i hi) (h.hi i hi),qd hi,Int.add_comm (seenOf _ _ _ _)]
theorem take_snoc {α:Type}(d:α){xs:List α}(h:n<xs.length):xs.take (n+1)=xs.take n++[xs.getD n d]:=by
 rw[take_succ,cc h,b5,cc h];rfl
theorem yy (h:∀ c∈cs,1<=c)(hi:i<cs.length):pr cs / cs.getD i 0<=pr cs/\1<=pr cs / cs.getD i 0:=by
 have a:=f6 h;have hc:=h _ (getD_mem hi);refine⟨ediv_le_self _ (by omega),?_⟩
 obtain⟨d,e⟩:=ow (getD_mem hi);rw[e,TH _ (by omega)]
 have:=Int.pos_of_mul_pos_right (show 0<cs.getD i 0*d by omega) (by omega)
 omega
def dq (cs hs:List Int)(n:Nat):List Nat:=(List.range n).filter fun i=>decide (cg cs hs i=hs.getD i 0)
theorem kL {cs hs:List Int}(h:JH cs hs):∀ n,n<=cs.length->
  ((dq cs hs n).length:Int)=(cj (pr cs) (cs.take n) - dZ (pr cs) cs hs % pr cs+pr cs - 1) / pr cs
 | 0,_=>by
  have a:=f6 h.pos;have h1:=SL (dZ (pr cs) cs hs) (show pr cs≠0 by omega)
  have e:=F8 (dZ (pr cs) cs hs) (show 0<pr cs by omega)
  have:cj (pr cs) (cs.take 0)=0:=by simp[cj]
  rw[this,Int.ediv_eq_zero_of_lt (by omega) (by omega)]
  simp[dq]
 | n+1,hn=>by
  have c:=kL h n (by omega)
  have a:=f6 h.pos;have d:=yy h.pos (i:=n) (by omega)
  have b:=Fq h (i:=n) (by omega)
  have hm:(dZ (pr cs) cs hs % pr cs - cj (pr cs) (cs.take n)) % pr cs=(dZ (pr cs) cs hs - cj (pr cs) (cs.take n)) % pr cs:=by
   rw[sub_emod,Int.emod_emod_of_dvd _ (Int.dvd_refl _),<-sub_emod]
  rw[take_snoc 0 (by omega),rK,NP a (by omega) d.1,<-c,hm]
  unfold dq;rw[Gc,TC,fz]
  by_cases hc:cg cs hs n=hs.getD n 0
  ·rw[if_pos (b.mp hc)];simp only[filter_cons,hc,decide_true,if_true,filter_nil,length_cons,length_nil]
   omega
  ·rw[if_neg (fun z=>hc (b.mpr z))];simp only[filter_cons,hc,decide_false,filter_nil]
   simp
theorem yz (h:JH cs hs) :
  (cj (pr cs) cs - cj (pr cs) cs % pr cs<=((dq cs hs cs.length).length:Int)*pr cs)/\(((dq cs hs cs.length).length:Int) - 1)*pr cs<cj (pr cs) cs:=by
 have e:=kL h cs.length (ed _);have b:=f6 h.pos;rw[Tx] at e;have h1:=SL (dZ (pr cs) cs hs) (show pr cs≠0 by omega)
 have a:=F8 (dZ (pr cs) cs hs) (show 0<pr cs by omega)
 generalize dZ (pr cs) cs hs % pr cs=t at e h1 a;generalize ((dq cs hs cs.length).length:Int)=R at e ⊢;generalize cj (pr cs) cs=O at e ⊢;generalize pr cs=W at e b h1 a ⊢;subst e;have f:=mul_ediv_add_emod O W;have l:=SL O (show W≠0 by omega)
 have j:=F8 O (show 0<W by omega)
 have m:=mul_ediv_add_emod (O - t+W - 1) W;have g:=SL (O - t+W - 1) (show W≠0 by omega)
 have d:=F8 (O - t+W - 1) (show 0<W by omega)
 have c:O / W<=(O - t+W - 1) / W:=Int.ediv_le_ediv (by omega) (by omega)
 have i:W*(O / W)<=W*((O - t+W - 1) / W):=Int.mul_le_mul_of_nonneg_left c (by omega)
 rw[Int.sub_mul,Int.mul_comm _ W]
 omega
variable {A:Prop}
theorem yA {B:Prop}[Decidable (true=true)]:(if true=true then A else B)=A:=if_pos rfl
theorem kM {B:Prop}[Decidable True]:(if True then A else B)=A:=if_pos trivial
theorem LF {B:Prop}[Decidable False]:(if False then A else B)=B:=if_neg id
theorem Qj [i:Decidable True]:@decide True i=true:=by cases i with
 | isTrue _=>rfl
 | isFalse h=>exact absurd trivial h
theorem LG {σ:St}:ym [] σ=[]:=rfl
theorem LH {σ:St}:ym (none::fv) σ=none::ym fv σ:=rfl
def JI (σ:St)(i:Nat):Option V:=(σ[i]?).join
theorem LI {σ:St}:ym (some i::fv) σ=JI σ i::ym fv σ:=rfl
variable {o:Option V}
theorem Qk {σ:St}:JI (o::σ) 0=o:=rfl
theorem Ql {σ:St}:JI (o::σ) (i+1)=JI σ i:=rfl
variable {Q:VK}
theorem Fs {x:V}{n:String}{b:Bool}(hn:tyName x H=some n)(hb:Jz n T=some b)(q:Q (.bl b) H):Qc [x,.ty T] H Q:=⟨x,T,n,b,rfl,hn,hb,q⟩
variable {p:Addr}
theorem NQ (h:H p=some (.lst xs)):tyName (.ref p) H=some "list":=by unfold tyName;simp only[h]
theorem aV {ys:List V}(h:aw K H p ys∨aE K H p ys)(q:Q (.int ys.length) H):P8 K [.ref p] H Q:=⟨p,ys,rfl,h,q⟩
theorem ox {ns:List Int}(h:aw K H p (ns.map V.int))(q:Q (.int ns.sum) H):P9 K [.ref p] H Q:=⟨p,ns,rfl,h,q⟩
variable {i:Int}
theorem iP {α:Type}{xs:List α}{k:Nat}(e:i=(k:Int))(d:α)(h1:k<xs.length):yg xs i=some (xs.getD k d):=by
 subst e;rw[jt (cc h1),b5,cc h1];rfl
theorem getD_ints {ns:List Int}{k:Nat}(h:k<ns.length):(ns.map V.int).getD k .bx=.int (ns.getD k 0):=by
 rw[b5,eG,cc h,b5,cc h];rfl
theorem cW {ns:List Int}{k:Nat}(h:aw K H p (ns.map V.int))(e:i=(k:Int))(h1:k<ns.length)(q:Q (.int (ns.getD k 0)) H):B5 K (.ref p) (.int i) H Q:=
 ⟨p,_,i,_,rfl,rfl,h,iP e .bx (by rw[b7];exact h1),by rw[getD_ints h1];exact q⟩
theorem dw {ns:List Int}{k:Nat}(h:aE K H p (ns.map V.int))(e:i=(k:Int))(h1:k<ns.length)(q:Q (.int (ns.getD k 0)) H):Ji K (.ref p) (.int i) H Q:=
 ⟨p,_,i,_,rfl,rfl,h,iP e .bx (by rw[b7];exact h1),by rw[getD_ints h1];exact q⟩
variable {a:Addr}{ns:List Int}{g:TG}{tb:TS}
theorem Ft (I:Nat->St->Hp->Prop)(h:aE K H a (ns.map V.int))(h0:I 0 σ H)(hl:∀ i σ H,I i σ H->aE K H a (ns.map V.int))
  (step:∀ i σ H,i<ns.length->I i σ H->g (.int (ns.getD i 0)) σ H fun σ2 H2=>tb {D with nx:=I (i+1),ct:=I (i+1),bk:=D.nx} σ2 H2)
  (fin:∀ σ H,I ns.length σ H->D.nx σ H):∃ b,V.ref a=.ref b/\(∃ xs,aE K H b xs)/\qc g tb D σ (BS K b) H:=by
 refine⟨a,rfl,⟨_,h⟩,As (xs:=ns.map V.int) I h0 (fun i σ H _ p=>hl i σ H p) (fun i x σ H e p=>?_) fun σ H p=>fin σ H (by rw[b7] at p;exact p)⟩
 have hi:i<ns.length:=by have:=(nt.mp e).1;rw[b7] at this;exact this
 have e2:x=.int (ns.getD i 0):=by
  rw[<-getD_ints hi,b5,e];rfl
 rw[e2];exact step i σ H hi p
theorem forL (I:Nat->St->Hp->Prop)(h:aw K H a (ns.map V.int))(h0:I 0 σ H)(hl:∀ i σ H,I i σ H->aw K H a (ns.map V.int))
  (step:∀ i σ H,i<ns.length->I i σ H->g (.int (ns.getD i 0)) σ H fun σ2 H2=>tb {D with nx:=I (i+1),ct:=I (i+1),bk:=D.nx} σ2 H2)
  (fin:∀ σ H,I ns.length σ H->D.nx σ H):∃ b,V.ref a=.ref b/\(∃ xs,aw K H b xs)/\qc g tb D σ (Ip K b) H:=by
 refine⟨a,rfl,⟨_,h⟩,vn (xs:=ns.map V.int) I h0 (fun i σ H _ p=>hl i σ H p) (fun i x σ H e p=>?_) fun σ H p=>fin σ H (by rw[b7] at p;exact p)⟩
 have hi:i<ns.length:=by have:=(nt.mp e).1;rw[b7] at this;exact this
 have e2:x=.int (ns.getD i 0):=by
  rw[<-getD_ints hi,b5,e];rfl
 rw[e2];exact step i σ H hi p
variable {j:Int}
theorem forR (n:Nat)(I:Nat->St->Hp->Prop)(e:j=(n:Int))(hn:n<=1000000)(h0:I 0 σ H)
  (step:∀ i σ H,i<n->I i σ H->g (.int (i:Int)) σ H fun σ2 H2=>tb {D with nx:=I (i+1),ct:=I (i+1),bk:=D.nx} σ2 H2)
  (fin:∀ σ H,I n σ H->D.nx σ H):∃ k:Int,[V.int j]=[.int k]/\-(2 ^ 62)<=k/\k<2 ^ 62/\qc g tb D σ (xS 0 k.toNat) H:=by
 subst e;refine⟨_,rfl,by omega,by omega,qX (n:=((n:Nat):Int).toNat) I h0 (fun i σ H hi p=>?_) fun σ H p=>fin σ H (by rw[u5] at p;exact p)⟩
 rw[u5] at hi
 have:=step i σ H hi p
 rw[<-Int.zero_add ((i:Nat):Int)] at this;exact this
variable {tc:TT}
theorem p5 {rest:St}{H1:Hp}(ok:yn J H1 n item)(keep:Nat->Bool)(val:Nat->V)(hn:n<sizeLine)
  (step:∀ i H (A:V->Hp->Prop) (B:Hp->Prop),i<n->ah H1 H->(keep i=true->∀ H',ah H H'->A (val i) H')->(keep i=false->∀ H',ah H H'->B H')->
   tc (some (item i)::rest) H fun b H3=>if b=true then te (some (item i)::rest) H3 A else B H3)
  (fin:∀ acc H,H1 acc=none->ah H1 H->H acc=some (.lst (((List.range n).filter keep).map val))->Q (.ref acc) H):sW (bB 0) tc te (none::rest) Q J H1:=by
 have d:∀ i,i<n->(((List.range i).filter keep).map val).length<sizeLine:=fun i hi=>by
  have:=A5 keep (List.range i)
  rw[j9] at this;rw[b7];omega
 refine NJ ok (fun i=>((List.range i).filter keep).map val) (fun _ τ=>∃ y,τ=y::rest) rfl ⟨_,rfl⟩ ?_ fin;rintro i τ H acc hi ⟨y,rfl⟩ c e f;show tc (some (item i)::rest) H _;refine step i H _ _ hi e (fun hk H' a=>?_) fun hk H' a=>?_
 ·refine NI c (a _ _ f) (e.trans a) (d i hi) ?_ ⟨_,rfl⟩
  simp[List.range_succ,List.filter_append,List.map_append,hk]
 ·refine⟨⟨_,rfl⟩,e.trans a,?_⟩;rw[a _ _ f]
  simp[List.range_succ,List.filter_append,List.map_append,hk]
theorem R9 {rest:St}{H1:Hp}(keep:Nat->Bool)(val:Nat->Int)(h:aE K H1 a (ns.map V.int))(hn:ns.length<sizeLine)
  (step:∀ i H (A:V->Hp->Prop) (B:Hp->Prop),i<ns.length->ah H1 H->(keep i=true->∀ H',ah H H'->A (.int (val i)) H')->(keep i=false->∀ H',ah H H'->B H')->
   tc (some (.int (ns.getD i 0))::rest) H fun b H3=>if b=true then te (some (.int (ns.getD i 0))::rest) H3 A else B H3)
  (fin:∀ acc H,H1 acc=none->ah H1 H->H acc=some (.lst ((((List.range ns.length).filter keep).map val).map V.int))->Q (.ref acc) H) :
  ∃ b,V.ref a=.ref b/\(∃ xs,aE K H1 b xs)/\sW (bB 0) tc te (none::rest) Q (BS K b) H1:=by
 refine⟨a,rfl,⟨_,h⟩,p5 (gH h) keep (fun i=>.int (val i)) (by rw[b7];exact hn) (fun i H A B hi g f c=>?_) fun acc H h1 e d=>fin acc H h1 e (by rw[d,ls,b7];rfl)⟩
 rw[b7] at hi;rw[getD_ints hi];exact step i H A B hi g f c
theorem Sz {rest:St}{H1:Hp}(keep:Nat->Bool)(val:Nat->Int)(h:aw K H1 a (ns.map V.int))(hn:ns.length<sizeLine)
  (step:∀ i H (A:V->Hp->Prop) (B:Hp->Prop),i<ns.length->ah H1 H->(keep i=true->∀ H',ah H H'->A (.int (val i)) H')->(keep i=false->∀ H',ah H H'->B H')->
   tc (some (.int (ns.getD i 0))::rest) H fun b H3=>if b=true then te (some (.int (ns.getD i 0))::rest) H3 A else B H3)
  (fin:∀ acc H,H1 acc=none->ah H1 H->H acc=some (.lst ((((List.range ns.length).filter keep).map val).map V.int))->Q (.ref acc) H) :
  ∃ b,V.ref a=.ref b/\(∃ xs,aw K H1 b xs)/\sW (bB 0) tc te (none::rest) Q (Ip K b) H1:=by
 refine⟨a,rfl,⟨_,h⟩,p5 (bP h) keep (fun i=>.int (val i)) (by rw[b7];exact hn) (fun i H A B hi g f c=>?_) fun acc H h1 e d=>fin acc H h1 e (by rw[d,ls,b7];rfl)⟩
 rw[b7] at hi;rw[getD_ints hi];exact step i H A B hi g f c
theorem Qm {rest:St}{H1:Hp}(n:Nat)(keep:Nat->Bool)(val:Nat->Int)(e:j=(n:Int))(hn:n<=1000000)
  (step:∀ i H (A:V->Hp->Prop) (B:Hp->Prop),i<n->ah H1 H->(keep i=true->∀ H',ah H H'->A (.int (val i)) H')->(keep i=false->∀ H',ah H H'->B H')->
   tc (some (.int (i:Int))::rest) H fun b H3=>if b=true then te (some (.int (i:Int))::rest) H3 A else B H3)
  (fin:∀ acc H,H1 acc=none->ah H1 H->H acc=some (.lst ((((List.range n).filter keep).map val).map V.int))->Q (.ref acc) H) :
  ∃ k:Int,[V.int j]=[.int k]/\-(2 ^ 62)<=k/\k<2 ^ 62/\sW (bB 0) tc te (none::rest) Q (xS 0 k.toNat) H1:=by
 subst e;refine⟨_,rfl,by omega,by omega,?_⟩
 rw[u5];refine p5 jT keep (fun i=>.int (val i)) (I1 hn (by decide)) (fun i H A B hi g f a=>?_) fun acc H h1 d c=>fin acc H h1 d (by rw[c,ls];rfl)
 rw[Int.zero_add];exact step i H A B hi g f a
theorem bH (n:Nat):(List.range n).filter (fun _=>true)=List.range n:=by simp
variable {β:Type}
theorem map_getD (ns:List Int)(f:Int->β):(List.range ns.length).map (fun i=>f (ns.getD i 0))=ns.map f:=by
 apply ext_getElem
 ·simp
 ·intro i h1 a
  simp at h1
  simp[h1]
theorem Bt.pr {k:Nat}:∀ {cs:List Int},(∀ c∈cs,Bt k c)->Bt (cs.length*k+1) (L2.pr cs)
 | [],_=>by unfold Bt;simp[L2.pr]
 | c::r,h=>by
  have h1:=h c (fO ..);have b:=Bt.pr (k:=k) (cs:=r) fun d a=>h d (fA _ a)
  have:=h1.mul b
  rw[L2.pr];exact this.mono (by rw[ot,Nat.succ_mul];omega)
theorem Iq.gq {k:Nat}{x:Str}{fd:FuncData}(F:Iq K x x st f fd)(S:DS (aj st) N ps G)
  (len:∀ vs H Q E,sp vs H Q E->vs.length=ps.length)
  (eY:∀ (X:Cx),Sc X N N G->X.prog=P->X.w=w->X.K=K->X.mg=mg->X.base=base->X.calm=true->X.env.scope=aj st->X.xe=(fun _ _=>False)->cB k X.A->X.A.units+64<cLine->
   ∀ (H:Hp) (vs:List V) (Q:VK) (E:XK),sp vs H Q E->∃ t,Cg X (aY st) t/\t {nx:=fun _ H'=>Q .bx H',rt:=Q} (L2.start N vs) H):ft P w K mg base B9 (k+1) f fd ps sp:=
 F.ok S.fs len fun c A a s H vs Q E b h=>by
  obtain⟨t,z,y⟩:=eY _ S.cx rfl rfl rfl rfl rfl rfl rfl rfl b b.units H vs Q E h;exact⟨t,z.h,y⟩
theorem Fu {k:Nat}(h:k<=xs.length):kE xs none (some (k:Int))=xs.take k:=by
 unfold kE;rw[HT.kC,HT.js,drop_zero,Nat.sub_zero,Nat.min_eq_left h]
theorem Fv {k:Nat}(h:k<=xs.length):kE xs (some (k:Int)) none=xs.drop k:=by
 unfold kE;rw[HT.kC,HT.js,Nat.min_eq_left h,FB];rw[vr];exact ed _
theorem dG {k:Nat}:kE xs (some (k:Int)) none=xs.drop k:=by
 by_cases h:k<=xs.length
 ·exact Fv h
 ·unfold kE;rw[HT.kC,HT.js,Nat.min_eq_right (by omega),List.drop_eq_nil_of_le (ed _),List.drop_eq_nil_of_le (by omega),List.take_nil]
theorem lK {k:Nat}:kE xs none (some (k:Int))=xs.take k:=by
 by_cases h:k<=xs.length
 ·exact Fu h
 ·unfold kE;rw[HT.kC,HT.js,drop_zero,Nat.sub_zero,Nat.min_eq_right (by omega),FB (ed _),FB (by omega)]
theorem tm (k:Nat)(h:aE K H a (ns.map V.int))(e:i=(k:Int))(hk:k<ns.length)(q:∀ p,H p=none->Q (.ref p) (upd H p (.tup ((ns.take k).map V.int)))):Jg K (.ref a) none (some i) H Q:=by
 subst e;refine⟨a,_,rfl,h,?_,fun p b=>?_⟩
 ·rw[b7,HT.js];omega
 ·rw[lK,<-map_take];exact q p b
theorem tp (k:Nat)(h:aE K H a (ns.map V.int))(e:i=((k+1:Nat):Int))(hk:k<ns.length)(q:∀ p,H p=none->Q (.ref p) (upd H p (.tup ((ns.drop (k+1)).map V.int)))):Jg K (.ref a) (some i) none H Q:=by
 subst e;refine⟨a,_,rfl,h,?_,fun p b=>?_⟩
 ·rw[b7,HT.js];omega
 ·rw[dG,<-Uv];exact q p b
theorem JJ (k:Nat)(h:aw K H a (ns.map V.int))(e:i=(k:Int))(q:∀ p,H p=none->Q (.ref p) (upd H p (.lst ((ns.drop k).map V.int)))):Eo K (.ref a) (some i) none H Q:=by
 subst e;refine⟨a,_,rfl,h,fun p b=>?_⟩;rw[dG,<-Uv];exact q p b
variable {b:Addr}{ms:List Int}
theorem tq (h:aw K H a (ns.map V.int))(h':aw K H b (ms.map V.int))(hz:ns.length+ms.length<=sizeLine)(q:∀ p,H p=none->Q (.ref p) (upd H p (.lst ((ns++ms).map V.int)))):LC K (.ref a) (.ref b) H Q:=
 ⟨a,b,_,_,rfl,rfl,h,h',by rw[b7,b7];exact hz,fun p c=>by rw[<-hU];exact q p c⟩
theorem tw (h:aE K H a (ns.map V.int))(h':aE K H b (ms.map V.int))(hz:ns.length+ms.length<=sizeLine)(q:∀ p H',ah H H'->aE K H' p ((ns++ms).map V.int)->Q (.ref p) H'):EY K (.ref a) (.ref b) H Q:=
 ⟨a,b,_,_,rfl,rfl,h,h',by rw[b7,b7];exact hz,fun p H' d c=>by rw[<-hU] at c;exact q p H' d c⟩
theorem bN (h:n<=100):n<=sizeLine:=j5 h (by decide)
variable {v:V}
theorem bj (h:aE K H p xs)(e:yg xs i=some v)(q:Q v H):Ji K (.ref p) (.int i) H Q:=⟨p,_,i,_,rfl,rfl,h,e,q⟩
structure Cn (c:Int):Prop where
 lo:1<=c
 hi:c<=1000000000000000000000000000000
def LJ:Sp:=fun a H Q _=>∃ m n:Nat,a=[.int m,.int n]/\Q (.int (Nat.gcd m n)) H
def Qn (H0:Hp)(g:Nat)(r:St)(σ:St)(H:Hp):Prop:=H=H0/\∃ (m n:Nat) (y:St),σ=some (.int m)::some (.int n)::y/\y.length=r.length/\Nat.gcd m n=g
def S6 (σ:St):Nat:=match σ with
 | _::some (.int n)::_=>n.toNat
 | _=>0
theorem SA {α:Type}{y:List α}(h:y.length=1):∃ a,y=[a]:=by
 match y,h with
 | [a],_=>exact⟨a,rfl⟩
theorem SD (m n:Nat):(m:Int) % (n:Int)=((m % n:Nat):Int):=(Uy m n).symm
structure ck (cs:List Int):Prop where
 cn:∀ c∈cs,Cn c
 len:cs.length<=8
end L2
namespace L2
open PySem PySem.Spec PyProof.Rows
theorem ck.pos {cs:List Int}(h:ck cs):∀ c∈cs,1<=c:=fun c hc=>(h.cn c hc).lo
theorem ck.take {cs:List Int}(h:ck cs)(i:Nat):ck (cs.take i):=⟨fun c hc=>h.cn c (List.mem_of_mem_take hc),by rw[xx];have:=h.len;omega⟩
theorem Cn.bt {c:Int}(h:Cn c):Bt 100 c:=by
 unfold Bt;have h1:=h.lo;have a:=h.hi
 have:(2:Nat) ^ 100=1267650600228229401496703205376:=by decide
 omega
theorem ck.Ck {cs:List Int}(h:ck cs):Bt 801 (pr cs):=(Bt.pr fun c hc=>(h.cn c hc).bt).mono (by have:=h.len;omega)
theorem ck.jK {cs:List Int}(h:ck cs):1<=pr cs:=f6 h.pos
theorem ck.Qo {cs:List Int}(h:ck cs):0<=cj (pr cs) cs:=iO (by have:=h.jK;omega) h.pos
theorem ck.Qp {cs:List Int}(h:ck cs):Bt 805 (cj (pr cs) cs):=by
 have h1:=AW (W:=pr cs) (by have:=h.jK;omega) h.pos
 have b:(cs.length:Int)*pr cs<=8*pr cs:=A4 (by have:=h.len;omega) (by have:=h.jK;omega)
 have a:Bt (4+801) (8*pr cs):=Bt.mul (by unfold Bt;decide) h.Ck
 exact a.of_le h.Qo (by omega)
theorem ck.get {cs:List Int}(h:ck cs){i:Nat}(hi:i<cs.length):Cn (cs.getD i 0):=h.cn _ (L2.getD_mem hi)
def gC (cs:List Int):Nat:=Nat.gcd (cj (pr cs) cs).toNat (pr cs).toNat
theorem yB {cs:List Int}(h:ck cs):0<gC cs:=Nat.gcd_pos_of_pos_right _ (by have:=h.jK;omega)
theorem toN {i:Int}(h:0<=i):((i.toNat:Nat):Int)=i:=Int.toNat_of_nonneg h
theorem Qq {cs:List Int}(h:ck cs):(gC cs:Int)∣cj (pr cs) cs:=by
 have:=Int.natCast_dvd_natCast.mpr (Nat.gcd_dvd_left (cj (pr cs) cs).toNat (pr cs).toNat)
 rw[toN h.Qo] at this;exact this
theorem Fw {cs:List Int}(h:ck cs):(gC cs:Int)∣pr cs:=by
 have:=Int.natCast_dvd_natCast.mpr (Nat.gcd_dvd_right (cj (pr cs) cs).toNat (pr cs).toNat)
 rw[toN (show 0<=pr cs by have:=h.jK;omega)] at this
 exact this
def O6 (cs:List Int):Int:=cj (pr cs) cs / gC cs
def LK (cs:List Int):Int:=pr cs / gC cs
theorem tD {cs:List Int}(h:ck cs):0<=O6 cs:=ediv_nonneg h.Qo (by omega)
theorem lL {cs:List Int}(h:ck cs):1<=LK cs:=JG (by have:=yB h;omega) (by have:=h.jK;omega) (Fw h)
theorem Fx {cs:List Int}(h:ck cs):Bt 805 (O6 cs):=h.Qp.of_le (tD h) (ediv_le_self _ h.Qo)
theorem yC {cs:List Int}(h:ck cs):Bt 801 (LK cs):=h.Ck.of_le (by have:=lL h;omega) (ediv_le_self _ (by have:=h.jK;omega))
theorem Qr {cs:List Int}(h:ck cs):Bt 801 (gC cs):=h.Ck.of_le (by omega) (Int.le_of_dvd (by have:=h.jK;omega) (Fw h))
theorem NR {cs:List Int}(h:ck cs):O6 cs / LK cs=cj (pr cs) cs / pr cs:=JF (by have:=yB h;omega) (Qq h) (Fw h)
def nK (K:Frag):Sp:=fun a H Q _=>∃ (p:Addr) (cs:List Int),a=[.ref p]/\aE K H p (cs.map V.int)/\ck cs/\∀ (q:Addr) (H':Hp),ah H H'->H' q=some (.tup [.int (O6 cs),.int (LK cs)])->Q (.ref q) H'
def SE (H0:Hp)(p:Addr)(cs:List Int)(i:Nat)(σ:St)(H:Hp):Prop:=H=H0/\∃ y,σ=[some (.ref p),some (.int (cj (pr (cs.take i)) (cs.take i))),some (.int (pr (cs.take i))),y,none]
def Fy (K:Frag):Sp:=fun a H Q _=>∃ (p:Addr) (cs:List Int),a=[.ref p]/\aE K H p (cs.map V.int)/\ck cs/\∀ (H':Hp),ah H H'->Q (.int (cj (pr cs) cs / pr cs)) H'
theorem NS {i j:Int}(h:i=j):(!decide (i=j))=false:=by rw[ea h];rfl
def AX (K:Frag):Sp:=fun b H Q _=>∃ (a:Addr) (ns:List Int),b=[.ref a]/\aw K H a (ns.map V.int)/\ns.length<=63/\∀ H',Q (.bl true) H'
def Fz (K:Frag):Sp:=fun a H Q _=>∃ (p:Addr) (cs:List Int),a=[.ref p]/\aE K H p (cs.map V.int)/\ck cs/\Q (.int (pr cs)) H
def Qs (H0:Hp)(p:Addr)(cs:List Int)(i:Nat)(σ:St)(H:Hp):Prop:=H=H0/\∃ y,σ=[some (.ref p),some (.int (pr (cs.take i))),y]
structure Qt (cs hs:List Int):Prop where
 len:hs.length=cs.length
 bt:∀ j,j<cs.length->Bt 100 (hs.getD j 0)
def Qu (K:Frag):Sp:=fun a H Q _=>∃ (p h:Addr) (cs hs:List Int) (i:Nat),a=[.ref p,.ref h,.int i]/\aE K H p (cs.map V.int)/\aE K H h (hs.map V.int)/\ck cs/\Qt cs hs/\i<cs.length/\∀ H',ah H H'->Q (.int (cg cs hs i)) H'
variable {i:Nat}
theorem NT {cs:List Int}(hcs:ck cs)(hi:i<cs.length):(0:Int)<cs.getD i 0/\(cs.getD i 0).natAbs.log2<9000:=by
 have h1:=hcs.get hi;exact⟨by have:=h1.lo;omega,h1.bt.log (by have:=h1.lo;omega) (by decide)⟩
theorem LL {cs:List Int}(hcs:ck cs)(hi:i<cs.length):Bt 801 (pr cs / cs.getD i 0):=by
 have h:=yy hcs.pos hi;exact hcs.Ck.of_le (by omega) h.1
variable {j:Nat}
theorem NU:(!decide ((j:Int)=(i:Int)))=decide (¬ j=i):=by
 by_cases h:j=i
 ·subst h;simp
 ·have a:¬ (j:Int)=(i:Int):=by omega
  rw[ek a,ea h];rfl
def putAt (hs:List Int)(i:Nat)(o:Int):List Int:=hs.take i++[o]++hs.drop (i+1)
variable {h:List Int}
theorem tE {x:Int}(hj:j<h.length):(h++[x]).getD j 0=h.getD j 0:=by
 rw[b5,FM hj,<-b5]
theorem tF {x:Int}:(h++[x]).getD h.length 0=x:=by
 rw[b5,BN (ed _),Nat.sub_self];rfl
def HN (cs h:List Int)(n:Nat):Prop:=h.length=n/\∀ i,i<n->0<=h.getD i 0/\h.getD i 0<cs.getD i 0
theorem yD {n:Nat}(h:n<=1000):n<=sizeLine:=Nat.le_of_lt (az h)
variable {o:HO}
theorem aE.cK {K:Frag}{H:Hp}{r acc:Addr}{xs ys:List V}(h:aE K H r xs)(ha:H acc=some (.lst ys)):aE K (upd H acc o) r xs:=by
 rcases h with (h | ⟨u,h⟩) | h
 ·exact .inl (.inl (by rw[aH (ik h ha (by intro z;cases z))];exact h))
 ·exact .inl (.inr ⟨u,by rw[aH (ik h ha (by intro z;cases z))];exact h⟩)
 ·exact .inr h
theorem JK {n k:Nat}(h:k<n):Em n (k:Int)=some k:=by
 unfold Em;rw[if_pos (by omega),if_pos (by omega),u5]
theorem vH (ns ms:List Int):PyData.eqv (.list (ns.map PyData.int)) (.list (ms.map PyData.int))=decide (ns=ms):=by
 simp only[PyData.eqv,iJ]
theorem dH {L:List Nat}{k:Nat}(h:k<L.length):L.getD k 0∈L:=by
 rw[b5,cc h];exact p0 h
def fg (ws:List Nat)(i j:Nat):Bool:=(ws.getD i 0).testBit j
structure iQ (ws:List Nat):Prop where
 lt:∀ i,i<ws.length->ws.getD i 0<2 ^ ws.length
 self:∀ i,i<ws.length->fg ws i i=false
variable {ws:List Nat}
theorem iQ.inside (h:iQ ws)(hi:i<ws.length)(s:fg ws i j=true):j<ws.length:=by
 by_cases c:j<ws.length
 ·exact c
 ·unfold fg at s
  have:=Nat.testBit_lt_two_pow (x:=ws.getD i 0) (i:=j) (j6 (h.lt i hi) (ri (by decide) (by omega)))
  rw[this] at s;cases s
def ready (ws:List Nat)(laid i:Nat):Bool:=!laid.testBit i&&decide (ws.getD i 0||| laid=laid)
def bQ (ws:List Nat)(laid:Nat):Option Nat:=(List.range ws.length).find? (ready ws laid)
variable {b:Nat}
theorem NV {a:Nat}:a||| b=b↔∀ j,a.testBit j=true->b.testBit j=true:=by
 constructor
 ·intro h j hj;rw[<-h,testBit_or,hj];rfl
 ·intro h
  apply TF
  intro j;rw[testBit_or]
  cases e:a.testBit j with
  | false=>rfl
  | true=>rw[h j e];rfl
theorem iR {m:Nat}:(m||| 2 ^ i).testBit j=(m.testBit j||decide (i=j)):=by
 rw[testBit_or,KB]
def f7 (ws:List Nat):Nat->List Nat->Nat->List Nat
 | 0,order,_=>order
 | f+1,order,laid=>match bQ ws laid with
  | none=>order
  | some i=>f7 ws f (order++[i]) (laid||| 2 ^ i)
def laidOut (ws:List Nat):List Nat:=f7 ws (ws.length+1) [] 0
structure Laid (ws order:List Nat)(laid:Nat):Prop where
 bits:∀ j,laid.testBit j=true↔j∈order
 nd:order.Nodup
 lt:∀ i∈order,i<ws.length
 ok:∀ k,k<order.length->∀ j,fg ws (order.getD k 0) j=true->j∈order.take k
theorem Laid.nil (ws:List Nat):Laid ws [] 0:=⟨by simp,nodup_nil,by simp,by simp⟩
theorem lM {laid:Nat}:ready ws laid i=true↔laid.testBit i=false/\∀ j,fg ws i j=true->laid.testBit j=true:=by
 unfold ready fg;rw[gz,Bool.not_eq_true',k0,NV]
theorem ip {laid:Nat}(h:bQ ws laid=some i):i<ws.length/\laid.testBit i=false/\∀ j,fg ws i j=true->laid.testBit j=true:=by
 have h1:=List.find?_some h;have a:=List.mem_of_find?_eq_some h;exact⟨ka.mp a,lM.mp h1⟩
variable {h:List Nat}{x d:Nat}
theorem eS (hj:j<h.length):(h++[x]).getD j d=h.getD j d:=by
 rw[b5,FM hj,<-b5]
theorem f9:(h++[x]).getD h.length d=x:=by
 rw[b5,BN (ed _),Nat.sub_self];rfl
variable {order:List Nat}
theorem Laid.put {laid:Nat}(h:Laid ws order laid)(hf:bQ ws laid=some i):Laid ws (order++[i]) (laid||| 2 ^ i):=by
 obtain⟨h1,f,g⟩:=ip hf;have d:i∉order:=fun z=>by rw[(h.bits i).mpr z] at f;cases f
 refine⟨fun j=>?_,?_,?_,?_⟩
 ·rw[iR,Pi,h.bits,kb,eR,k0]
  constructor
  ·rintro(a | a)
   ·exact .inl a
   ·exact .inr a.symm
  ·rintro(a | a)
   ·exact .inl a
   ·exact .inr a.symm
 ·rw[Ue];refine⟨h.nd,by simp,?_⟩
  intro a l b hb e;rw[eR] at hb;subst hb;subst e;exact d l
 ·intro j hj
  rcases kb.mp hj with hj | hj
  ·exact h.lt j hj
  ·rw[eR.mp hj];exact h1
 ·intro k hk j hj;rw[fz] at hk
  by_cases e:k=order.length
  ·subst e;rw[f9] at hj;rw[List.take_append_of_le_length (ed _),Tx];exact(h.bits j).mp (g j hj)
  ·have c:k<order.length:=by simp at hk;omega
   rw[eS c] at hj;rw[List.take_append_of_le_length (by omega)]
   exact h.ok k c j hj
theorem cE:∀ {n:Nat} {order:List Nat},order.Nodup->(∀ i∈order,i<n)->order.length<=n
 | 0,[],_,_=>ed _
 | 0,a::r,_,h=>absurd (h a (fO ..)) (SZ a)
 | n+1,order,b,h=>by
  have h1:(order.erase n).Nodup:=b.erase n;have d:=cE (n:=n) h1 fun i hi=>by
   have:=(b.mem_erase_iff).mp hi
   have:=h i this.2
   omega
  have c:=length_erase (a:=n) (l:=order)
  split at c<;>omega
theorem jw:∀ {xs ys:List Nat},xs.Nodup->(∀ i∈xs,i∈ys)->xs.length<=ys.length
 | [],_,_,_=>zero_le _
 | a::r,ys,d,h=>by
  have b:=A6.mp d;have h1:=jw (xs:=r) (ys:=ys.erase a) b.2 fun i hi=>by
   have:i≠a:=fun z=>b.1 (z ▸ hi)
   exact(List.mem_erase_of_ne this).mpr (h i (fA _ hi))
  have c:=length_erase (a:=a) (l:=ys);rw[if_pos (h a (fO ..))] at c
  have:0<ys.length:=length_pos_of_mem (h a (fO ..))
  rw[ot];omega
theorem oy {ws:List Nat}:∀ (f:Nat) (order:List Nat) (laid:Nat),Laid ws order laid->ws.length<f+order.length->∃ l,Laid ws (f7 ws f order laid) l/\bQ ws l=none
 | 0,order,l,h,a=>by
  have:=cE h.nd h.lt
  omega
 | f+1,order,laid,h,a=>by
  unfold f7
  cases e:bQ ws laid with
  | none=>exact⟨_,h,e⟩
  | some i=>exact oy f _ _ (h.put e) (by rw[fz];simp;omega)
variable {f:Nat}
theorem vI {laid:Nat}(e:bQ ws laid=some i):f7 ws (f+1) order laid=f7 ws f (order++[i]) (laid||| 2 ^ i):=by
 rw[f7,e]
theorem vJ {laid:Nat}(e:bQ ws laid=none):f7 ws f order laid=order:=by
 cases f with
 | zero=>rfl
 | succ f=>rw[f7,e]
theorem ee (ws:List Nat):∃ l,Laid ws (laidOut ws) l/\bQ ws l=none:=oy _ _ _ (Laid.nil ws) (by simp)
theorem Cm (hw:iQ ws)(hi:i<ws.length)(hn:i∉laidOut ws):∃ j,j<ws.length/\fg ws i j=true/\j∉laidOut ws:=by
 obtain⟨l,h,e⟩:=ee ws;have h1:ready ws l i=false:=by
  have:=List.find?_eq_none.mp e i (ka.mpr hi)
  simpa using this
 have b:l.testBit i=false:=by
  cases q:l.testBit i with
  | false=>rfl
  | true=>exact absurd ((h.bits i).mp q) hn
 have d:¬ ∀ j,fg ws i j=true->l.testBit j=true:=fun z=>by
  have:=lM.mpr ⟨b,z⟩
  rw[this] at h1;cases h1
 have a:∃ j,fg ws i j=true/\¬ l.testBit j=true:=by
  apply q7
  intro q
  apply d
  intro j hj
  apply q7
  intro r;exact q ⟨j,hj,r⟩
 obtain⟨j,hj,c⟩:=a;exact⟨j,hw.inside hi hj,hj,fun z=>c ((h.bits j).mpr z)⟩
theorem vK:(laidOut ws).length<ws.length↔∃ i,i<ws.length/\i∉laidOut ws:=by
 obtain⟨l,h,e⟩:=ee ws
 constructor
 ·intro a
  apply q7
  intro q
  have:∀ i,i<ws.length->i∈laidOut ws:=fun i hi=>q7 fun z=>q ⟨i,hi,z⟩
  have h1:=jw (Uo (n:=ws.length)) fun i hi=>this i (ka.mp hi);rw[j9] at h1
  omega
 ·rintro⟨i,hi,hn⟩;have h1:(i::laidOut ws).Nodup:=A6.mpr ⟨hn,h.nd⟩;have b:=cE h1 fun j hj=>by
   rcases h9.mp hj with rfl | hj
   ·exact hi
   ·exact h.lt j hj
  rw[ot] at b
  omega
structure Ring (ws r:List Nat):Prop where
 two:2<=r.length
 nd:r.Nodup
 lt:∀ i∈r,i<ws.length
 next:∀ k,k+1<r.length->fg ws (r.getD k 0) (r.getD (k+1) 0)=true
 last:fg ws (r.getD (r.length - 1) 0) (r.getD 0 0)=true
structure Path (ws left path:List Nat)(i:Nat):Prop where
 nd:path.Nodup
 sub:∀ j∈path,j∈left
 here:i∈left
 next:∀ k,k+1<path.length->fg ws (path.getD k 0) (path.getD (k+1) 0)=true
 last:path≠[]->fg ws (path.getD (path.length - 1) 0) i=true
variable {left:List Nat}
theorem Path.nil (h:i∈left):Path ws left [] i:=⟨nodup_nil,by simp,h,by simp,by simp⟩
variable {path:List Nat}
theorem Path.put (h:Path ws left path i)(hn:i∉path)(hj:j∈left)(hs:fg ws i j=true):Path ws left (path++[i]) j:=by
 refine⟨?_,?_,hj,?_,?_⟩
 ·rw[Ue];refine⟨h.nd,by simp,?_⟩
  intro a c b hb e;rw[eR] at hb;subst hb;subst e;exact hn c
 ·intro k hk
  rcases kb.mp hk with hk | hk
  ·exact h.sub k hk
  ·rw[eR.mp hk];exact h.here
 ·intro k hk;rw[fz] at hk
  simp at hk
  by_cases e:k+1=path.length
  ·rw[e,f9,eS (by omega)]
   have:=h.last (fun z=>by subst z;simp at e)
   rw[<-e] at this
   simpa using this
  ·rw[eS (by omega),eS (by omega)]
   exact h.next k (by omega)
 ·intro _;rw[fz];show fg ws ((path++[i]).getD (path.length+1 - 1) 0) j=true;rw[Nat.add_sub_cancel,f9];exact hs
variable {l:List Nat}
theorem gS {n k:Nat}:(l.drop n).getD k d=l.getD (n+k) d:=by
 rw[b5,getElem?_drop,<-b5]
theorem Path.ring (hw:iQ ws)(hl:∀ j∈left,j<ws.length)(h:Path ws left path i)(hi:i∈path):Ring ws (path.drop (path.idxOf i)):=by
 have d:=Tu hi;have b:path.getD (path.idxOf i) 0=i:=by
  rw[b5,cc d];exact Ul d
 have a:=h.last (List.ne_nil_of_mem hi);generalize path.idxOf i=n at d b;have c:(path.drop n).length=path.length - n:=vr;refine⟨?_,h.nd.sublist (List.drop_sublist _ _),fun j hj=>hl j (h.sub j (mem_of_mem_drop hj)),fun k hk=>?_,?_⟩
 ·rw[c]
  apply q7
  intro q;have e:path.length - 1=n:=by omega
  rw[e,b] at a;rw[hw.self i (hl i h.here)] at a
  cases a
 ·rw[gS,gS];rw[c] at hk;exact h.next (n+k) (by omega)
 ·rw[gS,gS,c,Nat.add_zero,b,show n+(path.length - n - 1)=path.length - 1 by omega]
  exact a
theorem JL (m n:Nat):Builtin.bitAnd (m:Int) (n:Int)=((m&&& n:Nat):Int):=by
 have h1:decide (0<=(m:Int))=true:=ea (by omega)
 have a:decide (0<=(n:Int))=true:=ea (by omega)
 unfold Builtin.bitAnd;rw[h1,a];simp only[toNat_natCast]
theorem JM (m n:Nat):Builtin.bitAnd (Builtin.bitNot (m:Int)) (Builtin.bitNot (n:Int))=Builtin.bitNot ((m||| n:Nat):Int):=by
 have h1:decide (0<=Builtin.bitNot (m:Int))=false:=ek (by unfold Builtin.bitNot;omega)
 have a:decide (0<=Builtin.bitNot (n:Int))=false:=ek (by unfold Builtin.bitNot;omega)
 have e:∀ k:Nat,(Builtin.bitNot (Builtin.bitNot (k:Int))).toNat=k:=fun k=>by unfold Builtin.bitNot;omega
 unfold Builtin.bitAnd;rw[h1,a];simp only[e]
theorem SF (m n:Nat):Builtin.bitOr (m:Int) (n:Int)=((m||| n:Nat):Int):=by
 unfold Builtin.bitOr;rw[JM];unfold Builtin.bitNot
 omega
theorem tG (m n:Nat):Builtin.bitAnd (m:Int) (Builtin.bitNot (n:Int))=((m - (m&&& n):Nat):Int):=by
 have h1:decide (0<=(m:Int))=true:=ea (by omega)
 have a:decide (0<=Builtin.bitNot (n:Int))=false:=ek (by unfold Builtin.bitNot;omega)
 have e:(Builtin.bitNot (Builtin.bitNot (n:Int))).toNat=n:=by unfold Builtin.bitNot;omega
 unfold Builtin.bitAnd;rw[h1,a];simp only[e,toNat_natCast]
 have:=Nat.and_le_left (n:=m) (m:=n)
 omega
def JN (K:Frag):V->List V->Hp->VK->Prop:=fun x a H Q=>∃ (l:Addr) (ns:List Int) (k:Int),x=.ref l/\a=[.int k]/\aw K H l (ns.map V.int)/\k∈ns/\Q (.int (ns.idxOf k:Nat)) H
variable {X:Cx}
theorem Co {K:Frag}(hK:X.K=K):xM X "list.index" (JN K):=by
 subst hK;intro A s σ H x N v O Q I E L h;obtain⟨l,e,k,rfl,rfl,M,hk,q⟩:=h
 cases E
 obtain⟨u,rfl,G⟩:=L.one;obtain⟨t,rfl⟩:=G;obtain⟨g,r,J,hz⟩:=I.list M;have hi:=intsAre_of r;obtain⟨⟨D,B,o,C⟩,i,w,n,m⟩:=id J.isList
 simp only at w m
 subst w m;have d:=hi.length;have c:e.idxOf k<e.length:=GE.mpr hk;rw[b7] at hz;have p:sizeLine<2 ^ 62:=by decide
 refine TB slot_list_index ⟨_,i,rfl⟩ PySem.F.entry_list_index (PySem.F.args_list_index_2 _ _) (list_indexAt l g.toArray n B C (.int k t) (isInt k) (e.idxOf k) (by rw[gd,d];exact c) (by omega) ?a ?b) ⟨i,fun y hy=>(eq_isInt k t hi y (by simpa using hy)).at _ _,?_⟩
 case a=>
  have z:=isInt_at k hi (e.idxOf k) (by rw[d];exact c) c
  rw[Ul c,Up] at z;exact z
 case b=>
  intro j hj f;have z:=isInt_at k hi j (by simpa using hj) (by omega)
  rw[ne_of_lt_idxOf f] at z;exact z
 exact⟨.int _,H,I.tok _,⟨_,rfl⟩,q⟩
def yE:List V->Hp->VK->Prop:=fun a H Q=>∃ (p:Addr) (n:Nat),a=[.ref p]/\H p=some (.Iz 0 n)/\n<=1000000/\∀ l,H l=none->Q (.ref l) (upd H l (.lst (((List.range n).map fun i=>((i:Nat):Int)).map V.int)))
def JO:List V->Hp->VK->Prop:=fun a H Q=>∃ n:Nat,a=[.int n]/\n<=1000000/\∀ l,H l=none->Q (.ref l) (upd H l (.Iz 0 n))
theorem gT:bS X (.type "range") JO:=by
 intro a s σ H f d Q I r h;obtain⟨n,rfl,hn,q⟩:=h;obtain⟨u,rfl,c⟩:=vals1 r;obtain⟨t,rfl⟩:=c;refine call_range_1 ?_;exact⟨.ref _,_,I.laid (fun b o e=>ey _ e) (ed _) (show bA X.prog X.w _ _ _ (.Iz 0 n) from ⟨_,_,_,ih _ rfl⟩),rfl,q _ I.fresh⟩
theorem yF {n:Nat}{acc:Array Value}(h:ItemsOf (fun i v=>∃ t,v=Value.int ((0:Int)+i*1) t) acc n):Vals (((List.range n).map fun i=>((i:Nat):Int)).map V.int) acc.toList:=by
 obtain⟨h1,d⟩:=h;have b:∀ (l:List Value) (k:Nat),(∀ i v,l[i]?=some v->∃ t,v=Value.int (((k+i:Nat):Int)) t)->Vals ((List.range' k l.length).map fun i=>V.int ((i:Nat):Int)) l:=by
  intro l
  induction l with
  | nil=>intro k _;exact .nil
  | cons a r c=>
   intro k h;rw[ot,List.range'_succ,pS];refine .cons ?_ (c (k+1) fun i v e=>?_)
   ·obtain⟨t,e⟩:=h 0 a rfl;exact⟨t,by rw[e,Nat.add_zero]⟩
   ·obtain⟨t,e⟩:=h (i+1) v (by simpa using e)
    exact⟨t,by rw[e,show k+(i+1)=k+1+i by omega]⟩
 have z:=b acc.toList 0 fun i v e=>by
  obtain⟨t,q⟩:=d i v (by rw[<-getElem?_toList];exact e)
  exact⟨t,by rw[q];congr 1;omega⟩
 rw[ls];rw[Array.length_toList,h1] at z;rw[List.range_eq_range'];exact z
theorem eI (hc:X.calm=true):bS X (.type "list") yE:=by
 intro c s σ H v t Q I r h;obtain⟨p,n,rfl,i,hn,q⟩:=h;obtain⟨u,rfl,j⟩:=vals1 r
 cases j
 obtain⟨o,y,m,f⟩:=I.bh p _ i;refine PySem.call_list_range (n:=n) (I.ok.hd hc) f (small_one (by omega) (by omega) (by omega) (by omega)) (by rw[rangeSize_one];split<;>omega) (by omega) fun d x b l g e a=>?_
 refine⟨.ref _,_,I.laid g (ed _) (show bA X.prog X.w _ d _ (.lst _) from ⟨?_,b.toList,l,yF a,by simpa using e⟩),rfl,q _ I.fresh⟩
 rw[b7,b7,j9];exact j5 hn (by decide)
variable {A:Around}{E:Value->Shared->Prop}
theorem FA {prog:Program}{w:World}{s:Shared}{p:Addr}{vs:List Value}{Q:List Value->Shared->Prop}(hp:IsTup s.heap p vs.toArray)(hz:vs.length<=sizeLine)
  (h:Q vs {s with heap:=(s.heap.push (seqObj "list" #[] 0)).update s.heap.objs.size (Obj.mapSeq (·++vs.toArray))}):wpAny (model prog w) A (collect (.ref p)) Q E s:=by
 obtain⟨o,f,c,n,e⟩:=id hp;unfold collect;refine dy (wpAny_runValue (Uc entry_proto_collect' ?_));refine dy (m:=newList []) (wpAny_newList (gc ⟨Code.quiet_builtin _ (by decide +kernel),Uc entry_list_iadd' ?_⟩))
 show wpAny (model prog w) _ (Builtin.List.listExtendWith (.ref s.heap.objs.size) (.ref p) (.ref s.heap.objs.size)) _ _ {s with heap:=s.heap.push (seqObj "list" #[] 0)};unfold Builtin.List.listExtendWith;have b:=ey (seqObj "list" #[] 0) f;refine dy (wpAny_typeOf (T:="tuple") ⟨o,b,c⟩ ?_);rw[if_pos (by simp)]
 refine dy (listItems_at b e (dy (listItems_at (xs:=#[]) (n:=0) (ih _ rfl) rfl ?_)));rw[if_neg (by simp)]
 refine dy (listUpdate_at (xs:=#[]) (n:=0) (ih _ rfl) rfl (gc ?_) (zero_le _) (by simp;omega))
 refine dy (wpAny_load (get?_update_seq (ih _ rfl) _) ?_);refine(show ∀ a:List Value,a=vs->wpAny (model prog w) A (pure a) Q E _ from fun a d=>by subst d;exact gc h) _ (by simp)
variable {Q:Value->Shared->Prop}
theorem yG {prog:Program}{w:World}{s:Shared}{p:Addr}{vs:List Value}{ns:List Int}(hp:IsTup s.heap p vs.toArray)(hI:IntsAre vs ns)(h6:vs.length<64)
  (h:∀ (out:Array Value) (ms:List Int),IntsAre out.toList ms->ms.Perm ns->ms.Pairwise (·<=·)->Q (.ref (s.heap.objs.size+1)) {s with heap:=sortedAll s.heap vs out}) :
  wpAny (model prog w) A (call (.builtin "sorted") [.ref p]) Q E s:=by
 have a:((s.heap.push (seqObj "list" #[] 0)).update s.heap.objs.size (Obj.mapSeq (·++vs.toArray))).objs.size=s.heap.objs.size+1:=by rw[Heap.size_update,size_push']
 refine Calls.call_function_entry (kind_sorted) plain_sorted entry_sorted (args_sorted1 _) ?_;unfold Builtin.«sorted»;refine dy (m:=checkCount "sorted" 1 1 _) (gc (dy (FA hp (j5 (Nat.le_of_lt h6) (by decide)) (dy (wpAny_newList ?_)))))
 have b:=ih ((s.heap.push (seqObj "list" #[] 0)).update s.heap.objs.size (Obj.mapSeq (·++vs.toArray))) (o:=seqObj "list" vs.toArray 0) rfl;rw[a] at b
 dsimp only
 rw[a];exact dy (TX (Ts slot_list_sort ⟨_,b,rfl⟩ entry_list_sort (list_sort_tree b hI h6 fun out ms e d c=>⟨_,rfl,gc ⟨_,rfl,h out ms e d c⟩⟩) (args_list_sort _)))
def JP (K:Frag):List V->Hp->VK->Prop:=fun a H Q=>∃ (p:Addr) (ns:List Int),a=[.ref p]/\(aw K H p (ns.map V.int)∨aE K H p (ns.map V.int))/\ns.length<64/\∀ (l:Addr) (ms:List Int),H l=none->ms.Perm ns->ms.Pairwise (·<=·)->Q (.ref l) (upd H l (.lst (ms.map V.int)))
theorem tH {K:Frag}(hK:X.K=K):bS X (.builtin "sorted") (JP K):=by
 subst hK;intro i s σ H B A Q I r h;obtain⟨p,m,rfl,hq,t,q⟩:=h;obtain⟨u,rfl,y⟩:=vals1 r
 cases y
 have f:∀ (a:List Value),IntsAre a m->∀ (c:Array Value) (d:List Int),IntsAre c.toList d->d.Perm m->d.Pairwise (·<=·)->EP X i σ Q (.ref (s.heap.objs.size+1)) {s with heap:=sortedAll s.heap a c}:=by
  intro a hi c d v n x;obtain⟨e,he⟩:=sortedAll_at s.heap a c;have g:=n.length_eq;refine⟨.ref _,_,I.laid (t':=s.toks) (fun b o z=>sortedAll_old z) (le_succ _) (show bA X.prog X.w _ _ _ (.lst (d.map V.int)) from ⟨?_,c.toList,e,lF v,he⟩),rfl,q _ d (I.bh.fresh (le_succ _)) n x⟩
  rw[b7,g];exact bN (by omega)
 rcases hq with hq | hq
 ·obtain⟨a,l,j,hz⟩:=I.list hq;have hi:=intsAre_of l;exact sorted_ints j.isList hi (by rw[hi.length];exact t) (f a hi)
 ·obtain⟨a,l,j,hz⟩:=I.tuple hq;have hi:=intsAre_of l;exact yG j hi (by rw[hi.length];exact t) (f a hi)
abbrev iw (led:Bool):Obj:={cls:=.type "set",dict:=none,data:=.set #[] 0 (.fresh 0 0 led)}
def jF (ns:List Int)(n:Nat):List Int:=firstMet (fun i=>ns.getD i 0) n
variable {prog:Program}{w:World}{s:Shared}{vs:Array Value}
theorem tJ {p:Addr}{ns:List Int}(hA:A.handled=none)(hp:s.heap.IsTuple p vs)(hi:IntsAre vs.toList ns)(hb:vs.size+1<scanBound)
  (h:∀ (h1:Heap) (k:Nat),h1.SetOf (intKind prog w) s.heap.objs.size (fun j=>(jF ns vs.size).any (· == j)) (jF ns vs.size).length->(∀ b o,b<s.heap.objs.size->s.heap.get? b=some o->h1.get? b=some o)->Q (.ref s.heap.objs.size) {s with heap:=h1,toks:=k}) :
  wpAny (model prog w) A (call (.type "set") [.ref p]) Q E s:=by
 obtain⟨c0,t0,m0⟩:=F1.mro;have m1:=F1.made;have m2:=F1.sub;have m3:=F1.notType;have m4:=F1.canCreate;have m5:=F.typeCall_set_1 (.ref p);refine wpAny_call (codeAny_of_tree (show wpAny _ _ (callAny (.type "set") _) _ _ _ from gc ⟨Code.quiet_builtin _ (by decide +kernel),Uc F.entry_type_call ?_⟩))
 rw[Around.under_plain (weight_type_call_type "set" [.ref p] []) rfl]
 repeat (any_goals (first | assumption | wp_step))
 refine Ut (code_set_new_1 (.ref p) (E:=E) (Q₁:=fun o u=>∃ a:Bool,o=.ref s.heap.objs.size/\u={s with heap:=s.heap.push (iw a)}) fun a=>⟨a,rfl,rfl⟩) fun r u n=>?_
 cases r with
 | error e=>exact n
 | ok N=>
  cases N with
  | ret obj=>
   obtain⟨a,rfl,rfl⟩:=n;have I:(s.heap.push (iw a)).get? s.heap.objs.size=some (iw a):=ih _ rfl;have k2:Shared.TypeIs {s with heap:=s.heap.push (iw a)} (.ref s.heap.objs.size) "set":=⟨_,I,rfl⟩;have k3:=F1.init.lookup;have k4:=F1.init.bind (.ref s.heap.objs.size)
   repeat (any_goals (first | assumption | wp_step))
   refine Ut (codeAny_call_builtin (R:=wants (fun r G=>r=.none/\∃ h1 k,G={s with heap:=h1,toks:=k}/\h1.SetOf (intKind prog w) s.heap.objs.size (fun j=>(jF ns vs.size).any (· == j)) (jF ns vs.size).length/\
     (∀ b o,b<s.heap.objs.size->s.heap.get? b=some o->h1.get? b=some o)) E) F1.init.plain F.entry_set_init (check_set_init_1 k2 ?_)) fun L G l=>?_
   ·obtain⟨U,B,H,P,C⟩:=hp;obtain⟨u1,u2,u3,u4⟩:=U
    simp only at H C
    subst H;subst C;have O:=ey (iw a) B;have z1:=F.sub_tuple_set;have z2:=F.sub_tuple_frozenset;have z3:(Value.type "tuple" == Value.type "dict")=false:=by decide
    have D:(s.heap.push (iw a)).IsTuple p vs:=⟨_,O,rfl,P,rfl⟩;unfold Builtin.«set.__init__» noKeywords Builtin.Frozenset.updateFrom;generalize f:pyIter=PI
    wp_walk
    subst f;refine Re D (dy (wpAny_runValue ?_));have z:p<s.heap.objs.size:=lt_size B;have W:A.in1.in1.in1.handled=none:=by simp[hA]
    have m:(s.heap.push (iw a)).objs.size=s.heap.objs.size+1:=IR ..;have Z:p≠(s.heap.push (iw a)).objs.size:=by rw[m];exact mv (Uj z)
    have S:s.heap.objs.size∉[(s.heap.push (iw a)).objs.size,p]:=by
     rw[m];simp only[mem_cons,not_mem_nil,or_false,not_or];exact⟨mv (Ux _),Us z⟩
    have X:∀ (i:Nat) (v:Value),vs[i]?=some v->∃ t,v=.int ((fun i=>ns.getD i 0) i) t:=fun i v K=>IntsAre.int_at hi i v (by rw[getElem?_toList];exact K)
    refine codeAny_set_update_loopS ((Walks.tuple W _ p Z vs).toS) s.heap.objs.size S (fun i=>ns.getD i 0) X hb (vs.size - 0) 0 _ (by omega) (zero_le _) ⟨⟨_,ih _ rfl,rfl,rfl⟩,(D.push _)⟩ ?x ?y
    case x=>
     exact SetOf_congr ((setObjOf_fresh (knd:=intKind prog w) a).setOf (ey _ I) (by unfold scanBound;omega)) (fun _=>rfl) rfl
    case y=>
     intro J hm c;obtain⟨h1,M,T,d,g⟩:=J;obtain rfl:M=s.gens:=hm.gens;obtain rfl:T=s.drawn:=hm.drawn;obtain rfl:g=s.os:=hm.os;show wpAny _ _ _ _ _ _;refine gc (show wpAny _ _ (ret Value.none) _ _ _ from gc ⟨rfl,h1,d,rfl,c,fun b o hb e=>?_⟩)
     refine hm.heap b o ?_ (ey _ (ey _ e));rw[m];simp only[mem_cons,not_mem_nil,or_false,not_or];exact⟨mv hb,mv (Uj hb)⟩
   ·cases L with
    | error e=>exact l
    | ok Y=>
     cases Y with
     | ret r=>
      obtain⟨rfl,h1,k,rfl,c,q⟩:=l
      repeat (any_goals (first | assumption | wp_step))
      exact h _ _ c q
     | _=>exact l.elim
  | _=>exact n.elim
def unlike (ns:List Int):Nat:=(jF ns ns.length).length
def NW (K:Frag):List V->Hp->VK->Prop:=fun a H Q=>∃ (p:Addr) (ns:List Int),a=[.ref p]/\(aw K H p (ns.map V.int)∨aE K H p (ns.map V.int))/\ns.length<1000/\∀ l,H l=none->Q (.ref l) (upd H l (.set (fun j=>(jF ns ns.length).any (· == j)) (unlike ns)))
theorem Cp {K:Frag}(hc:X.calm=true)(hK:X.K=K):bS X (.type "set") (NW K):=by
 subst hK;intro g s σ H x v Q I r h;obtain⟨p,ns,rfl,hq,y,q⟩:=h;obtain⟨u,rfl,t⟩:=vals1 r
 cases t
 have n:(1001:Nat)<scanBound:=by decide
 have f:∀ (h1:Heap) (k:Nat),h1.SetOf (intKind X.prog X.w) s.heap.objs.size (fun j=>(jF ns ns.length).any (· == j)) (jF ns ns.length).length->(∀ b o,b<s.heap.objs.size->s.heap.get? b=some o->h1.get? b=some o)->EP X g σ Q (.ref s.heap.objs.size) {s with heap:=h1,toks:=k}:=fun h1 k c d=>
  ⟨.ref _,_,I.laid (fun b o e=>d b o (lt_size e) e) (ed _) (show bA X.prog X.w _ h1 _ (.set _ _) from c),rfl,q _ I.fresh⟩
 rcases hq with hq | hq
 ·obtain⟨a,l,i,hz⟩:=I.list hq;have hi:=intsAre_of l;have m:=hi.length;refine call_set_list (items:=a.toArray) (ns:=ns) (I.ok.hd hc) i.isList (by simpa using hi) (by rw[gd];omega) fun h1 k c d=>?_
  rw[show a.toArray.size=ns.length by rw[gd];exact m] at c
  exact f h1 k c d
 ·obtain⟨a,l,i,hz⟩:=I.tuple hq;have hi:=intsAre_of l;have m:=hi.length;refine tJ (vs:=a.toArray) (ns:=ns) (I.ok.hd hc) (show s.heap.IsTuple p a.toArray from i) (by simpa using hi) (by rw[gd];omega) fun h1 k c d=>?_
  rw[show a.toArray.size=ns.length by rw[gd];exact m] at c
  exact f h1 k c d
theorem Inv.JQ {pins:List (Addr × Obj)}{σ:St}{H:Hp}{h':Heap}{t':Nat}{ch:List Addr}(I:Inv X pins σ H s)(k:∀ b o,b∉ch->s.heap.get? b=some o->h'.get? b=some o)(hf:∀ b∈ch,kx X pins H b):Inv X pins σ H {s with heap:=h',toks:=t'}:=by
 have a:∀ b u,H b=some u->b∉ch:=fun b u e z=>by rw[(hf b z).1] at e;cases e
 refine I.step (g':=s.gens) (d':=s.drawn) (ch:=ch) (fun b hb=>⟨(hf b hb).2.2.2.1,(hf b hb).2.1,(hf b hb).2.2.2.2.1,(hf b hb).2.2.2.2.2⟩) (fun b o _ _ hc e _=>k b o hc e) (fun b o _ _ hc e _=>⟨o.slots,k b o hc e⟩) (fun _ _ _ _ n=>n)
  (fun b o hc e=>⟨o,k b o hc e⟩) (fun _ _ e=>e) (fun _ _ _ e=>e) (fun b h e=>⟨#[],by rw[e];simp⟩) (fun m hm=>?_) (fun b u e=>?_) I.bare
 ·obtain⟨o,d,g,f,r⟩:=hm;exact⟨o,d,g,k _ o (fun z=>(hf _ z).2.1 rfl) f,r⟩
 ·refine(I.bh b u e).xQ (fun c v hc q=>k c v ?_ q) (fun _ q=>q) fun _ _ q=>q
  rcases hc with z | z
  ·rw[z];exact a b u e
  ·exact a c _ z
theorem oz {it p:Addr}{x:Value}(h1:s.heap.IsTupleIter it p i)(h2:s.heap.IsTuple p vs)(hx:vs[i]?=some x)
  (q:∀ h',h'.IsTupleIter it p (i+1)->SameBut it s.heap h'->Q x {s with heap:=h'}):wpAny (model prog w) A (Builtin.SmallTypes.nextOf (.ref it)) Q E s:=by
 obtain⟨o,b,e,a⟩:=id h1;obtain⟨g,d,_,f,c⟩:=h2;unfold Builtin.SmallTypes.nextOf;refine dy (Tt (name:=Str.ofString "__next__") h1.typeIs F.slot_tuple_iterator_next (Ts F.slot_tuple_iterator_next h1.typeIs F.entry_tuple_iterator_next ?_ (F.args_tuple_iterator_next_1 _)));refine dy (m:=field (.ref it) 0) (Ug b a (x:=.ref p) rfl ?_);rw[if_neg (id h5:¬ ((Value.ref p == Value.none)=true))];refine dy (m:=field (.ref it) 1) (Ug b a (x:=.int i 0) rfl (dy (m:=seqItems? (.ref p)) (T7 d c ?_)));simp only[toNat_natCast,hx];refine dy (wpAny_setField b a (by simp) (gc ⟨x,rfl,gc (q _ ⟨_,Heap.get?_update_self _ b (Obj.isFreed_of_fields (Obj.data_mapFields a _)),(Obj.cls_mapFields ..).trans e,?_⟩ (Heap.SameBut.update ..))⟩))
 rw[Obj.data_mapFields a]
 simp[rawInt]
theorem fD {it p:Addr}(hA:A.handled=none)(h1:s.heap.IsTupleIter it p i)(h2:s.heap.IsTuple p vs)(hx:vs[i]?=none)
  (q:∀ h' e,ExtBut it s.heap h'->(∃ o,h'.get? e=some o/\o.cls=.type "StopIteration")->E (.ref e) {s with heap:=h'}):wpAny (model prog w) A (Builtin.SmallTypes.nextOf (.ref it)) Q E s:=by
 obtain⟨o,b,j,c⟩:=id h1;obtain⟨h,f,_,g,d⟩:=h2;unfold Builtin.SmallTypes.nextOf;refine dy (Tt (name:=Str.ofString "__next__") h1.typeIs F.slot_tuple_iterator_next (Ts F.slot_tuple_iterator_next h1.typeIs F.entry_tuple_iterator_next ?_ (F.args_tuple_iterator_next_1 _)));refine dy (m:=field (.ref it) 0) (Ug b c (x:=.ref p) rfl ?_);rw[if_neg (id h5:¬ ((Value.ref p == Value.none)=true))];refine dy (m:=field (.ref it) 1) (Ug b c (x:=.int i 0) rfl (dy (m:=seqItems? (.ref p)) (T7 f d ?_)));simp only[toNat_natCast,hx];refine dy (wpAny_rule (dy (wpAny_setField b c (by simp) (dy (m:=newExc (.type "StopIteration") []) ?_))))
 simp only[newExc,newTuple];refine dy (wpAny_newObj_type (dy (m:=firstArgMember _ _) (wpAny_of_eq (a:=Value.none) (by first | rfl | (simp only[firstArgMember];rfl)) (wpAny_newObj_type ?_ (by size_fits)))) (by size_fits))
 simp only[raiseNew];refine dy (wpAny_handled ?_)
 first | rw[show A.in1.handled=none from hA] | rw[hA]
 exact dy (gc (wpAny_throw (q _ _ (((Heap.SameBut.update ..).extBut.push _).push _) ⟨_,ih _ rfl,rfl⟩)))
theorem NX (hA:A.handled=none)(it p:Addr)(hne:p≠it)(vs:Array Value):Draws prog w A it [it,p] vs.size (fun i v=>vs[i]?=some v) (fun i h=>h.IsTupleIter it p i/\h.IsTuple p vs) where
 live:=fun _ _ c=>⟨_,c.1.choose_spec.1⟩
 frame:=fun _ _ _ c hk=>⟨c.1.at fun o e=>hk it (by simp) o e,c.2.at fun o e=>hk p (by simp) o e⟩
 item:=fun i s Q E hi c f=>oz c.1 c.2 (x:=vs[i]) (by simp[hi]) fun d a b=>f _ d s.toks (by simp[hi]) ⟨a,c.2.extBut b.extBut hne⟩ b
 done:=fun s Q E c g=>fD hA c.1 c.2 (by simp) g
theorem Cq (p:Addr)(vs:Array Value)(n:Nat)(Pe:Option Addr)(sl:Array (Option Value)) :
  Meets (Builtin.«enumerate.__new__» ⟨[.type "enumerate",.ref p],[]⟩) (fun _ R s=>s.heap.get? p=some {cls:=.type "tuple",dict:=Pe,data:=.seq vs n,slots:=sl}/\
   R (.ok (.ret (.ref (s.heap.push {cls:=.type "tuple_iterator",data:=.fields #[.ref p,.int 0 0]}).objs.size)))
    {s with heap:=(s.heap.push {cls:=.type "tuple_iterator",data:=.fields #[.ref p,.int 0 0]}).push {cls:=.type "enumerate",data:=.fields #[.none,.bool false,.ref s.heap.objs.size,rawInt 0,.none,.none]}}):=
 .of_wp fun b w A R s h=>by
  obtain⟨f,g,d,j,i⟩:=s;obtain⟨a,h⟩:=h;have z:=sub_enumerate;have e:IsTuple (Shared.heap ⟨f,g,d,j,i⟩) p vs:=⟨_,a,rfl,n,rfl⟩
  wp_walk using PySem.AutoSeq1.wpAny_loadPart' a
  refine wpAny_stack_any fun l=>gc ?_
  split
  ·rename_i c _ _ _ _ _
   cases (c == Value.type "enumerate")<;>(wp_walk using PySem.AutoSeq1.wpAny_loadPart' a,Re e;exact⟨_,rfl,h⟩)
  ·wp_walk using PySem.AutoSeq1.wpAny_loadPart' a,Re e
   exact⟨_,rfl,h⟩
theorem yH {p:Addr}(hT:s.heap.IsTuple p vs)
  (q:∀ h',IsEnum h' (s.heap.objs.size+1) s.heap.objs.size 0 .none->h'.IsTupleIter s.heap.objs.size p 0->(∀ b o,s.heap.get? b=some o->h'.get? b=some o)->Q (.ref (s.heap.objs.size+1)) {s with heap:=h'}) :
  wpAny (model prog w) A (call (.type "enumerate") [.ref p]) Q E s:=by
 obtain⟨⟨c,f,dt,e⟩,d,g,n,h⟩:=hT;obtain rfl:c=.type "tuple":=g;obtain rfl:dt=.seq vs n:=h;have hz:(s.heap.push {cls:=.type "tuple_iterator",data:=.fields #[.ref p,.int 0 0]}).objs.size=s.heap.objs.size+1:=IR ..;have a:=ih (s.heap.push {cls:=.type "tuple_iterator",data:=.fields #[.ref p,.int 0 0]}) (o:={cls:=.type "enumerate",data:=.fields #[.none,.bool false,.ref s.heap.objs.size,rawInt 0,.none,.none]}) rfl;refine callType_new F.called_enumerate (by decide) (F.typeCall_enumerate_1 _) (F.newCall_enumerate_1 _) (fun obj=>F.args_object_init_2 obj _) F.entry_enumerate_new (Cq p vs n f e) ⟨d,?_⟩
 rw[hz] at a;show _/\_;rw[hz];exact⟨⟨_,a,rfl⟩,q _ a ⟨_,ey _ (ih _ rfl),rfl,rfl⟩ fun b o x=>ey _ (ey _ x)⟩
theorem Inv.lN {pins:List (Addr × Obj)}{σ:St}{H:Hp}{h':Heap}{t':Nat}{ch:List Addr}{a:Addr}(I:Inv X pins σ H s)(k:∀ b u,b∉ch->s.heap.get? b=some u->h'.get? b=some u)(hf:∀ b∈ch,kx X pins H b)
  (ha:s.heap.objs.size<=a) (new:bA X.prog X.w (upd H a o) h' a o):Inv X pins σ (upd H a o) {s with heap:=h',toks:=t'}:=by
 have f:∀ b u,H b=some u->b∉ch:=fun b u e z=>by rw[(hf b z).1] at e;cases e
 have hn:H a=none:=I.bh.fresh ha;have d:∀ b u,H b=some u->upd H a o b=some u:=fun b u e=>by rw[aH (bI e hn)];exact e
 refine I.step (g':=s.gens) (d':=s.drawn) (ch:=ch) (fun b hb=>⟨(hf b hb).2.2.2.1,(hf b hb).2.1,(hf b hb).2.2.2.2.1,(hf b hb).2.2.2.2.2⟩) (fun b u _ _ hc e _=>k b u hc e) (fun b u _ _ hc e _=>⟨u.slots,k b u hc e⟩) (fun b u _ e n=>?_)
  (fun b u hc e=>⟨u,k b u hc e⟩) (fun b i e=>d b _ e) (fun b v u e=>d b _ e) (fun b l e=>⟨#[],by rw[d b _ e];simp⟩) (fun m hm=>?_) (fun b u e=>?_) I.bare
 ·rw[aH (mv (j6 (lt_size e) ha))];exact n
 ·obtain⟨v,g,j,h,r⟩:=hm;exact⟨v,g,j,k _ v (fun z=>(hf _ z).2.1 rfl) h,r⟩
 ·by_cases hb:b=a
  ·subst hb;rw[ag] at e
   cases e
   exact new
  ·rw[aH hb] at e;refine(I.bh b u e).xQ (fun c v hc q=>k c v ?_ q) (fun c q=>d c _ q) fun c i q=>d c _ q
   rcases hc with z | z
   ·rw[z];exact f b u e
   ·exact f c _ z
def O7 (K:Frag)(a:Addr):It:=
 ⟨fun i H=>∃ xs x,aE K H a xs/\xs[i]?=some x,fun i H x b=>∃ p v,H p=none/\x=.ref p/\b=upd H p (.tup [.int i,v])/\∀ xs,aE K H a xs->xs[i]?=some v,fun i H=>∃ xs,aE K H a xs/\xs.length<=i⟩
variable {elts:List Expr}{x1:Nat}
theorem Cr {P:Program}{K:Frag}{pos:Pos}(a e it:Addr)(hei:e≠it):Turn P w K (.Tuple elts x1 pos) (O7 K a) [e,it] e (fun i h=>(∃ old,IsEnum h e it i old)/\h.IsTupleIter it a i) where
 mem:=by simp
 obj:=fun i h g b hb=>by
  obtain⟨⟨old,he⟩,o,eo,c,d⟩:=g
  rcases h9.mp hb with rfl | hb
  ·exact⟨_,he,fun v z=>by cases z⟩
  ·have:b=it:=by simpa using hb
   subst this;exact⟨o,eo,fun v z=>by rw[d] at z;cases z⟩
 keep:=fun i h h' g k=>by
  obtain⟨⟨old,he⟩,g⟩:=g;exact⟨⟨old,k e (by simp) _ he⟩,g.at fun o q=>k it (by simp) o q⟩
 item:=by
  intro X N Q M hc i C s σ H E I D g J;subst N Q M;obtain⟨xs,x,hq,hx⟩:=J;obtain⟨f,O,p,hz⟩:=I.tuple hq;obtain⟨u,hu,ru⟩:=O.get hx;obtain⟨⟨old,he⟩,si⟩:=g;have r:a≠it:=fun z=>by
   subst z;obtain⟨Y,l,y,_⟩:=p;obtain⟨o2,n,t,_⟩:=si;rw[l] at n;cases n
   rw[y] at t;exact absurd t (by decide)
  have G:a≠e:=fun z=>by
   subst z;obtain⟨Y,l,y,_⟩:=p;have he:s.heap.get? a=some _:=he;rw[l] at he;cases he
   exact absurd (show Value.type "enumerate"=Value.type "tuple" from y) (by decide)
  have R:i<f.toArray.size:=by
   rw[gd];exact(nt.mp hu).1
  refine wpAny_pyNext_enum_itemD (NX (by simpa using I.ok.hd hc) it a r f.toArray) he ⟨si,show s.heap.IsTuple a f.toArray from p⟩ R hei (by simp only[mem_cons,not_mem_nil,or_false,not_or];exact⟨hei,Ne.symm G⟩) fun v h1 tk hv ho L ht hsz hk=>?_
  refine⟨_,rfl,wpAny_letOwnedTupleGo_enum ho fun h2 W j=>?_⟩;have B:e<s.heap.objs.size:=lt_size he;have ev:v=u:=by
   have A:f[i]?=some v:=by simpa using hv
   rw[hu] at A;cases A;rfl
  subst ev;refine⟨.ref s.heap.objs.size,upd H s.heap.objs.size (.tup [.int i,x]),I.lN (ch:=[e,it]) (fun b o hb q=>?_) D (ed _) (show bA X.prog X.w _ h2 _ (.tup _) from ⟨by show 2<=sizeLine;decide,[.int i tk,v],.cons ⟨_,rfl⟩ (.cons ru .nil),?_⟩),rfl,⟨_,x,I.fresh,rfl,rfl,fun ys hy=>by rw[I.jr hy hq];exact hx⟩,⟨⟨v,?_⟩,?_⟩,fun b hb=>?_⟩
  ·simp only[mem_cons,not_mem_nil,or_false,not_or] at hb;exact(j.2 b hb.1).trans (hk b o hb.1 hb.2 q)
  ·exact⟨_,(j.2 _ (Us B)).trans ht,rfl,_,rfl⟩
  ·have:=W
   rw[show ((i:Int)+1)=((i+1:Nat):Int) by omega] at this
   exact this
  ·exact L.1.at fun o q=>(j.2 it (Ne.symm hei)).trans q
  ·rw[aH (fun z=>?_)]
   ·exact(D b hb).1
   ·obtain⟨_,S,_⟩:=si
    rcases h9.mp hb with rfl | hb
    ·exact absurd z (mv B)
    ·have:b=it:=by simpa using hb
     subst this;exact absurd z (mv (lt_size S))
 done:=by
  intro X N Q M hc i C s σ H E I D g J;subst N Q M;obtain⟨xs,hq,hx⟩:=J;obtain⟨f,O,p,hz⟩:=I.tuple hq;obtain⟨⟨old,he⟩,si⟩:=g;have r:a≠it:=fun z=>by
   subst z;obtain⟨Y,l,y,_⟩:=p;obtain⟨o2,n,t,_⟩:=si;rw[l] at n;cases n
   rw[y] at t;exact absurd t (by decide)
  have hl:=O.length;have Z:s.TypeIs (.ref e) "enumerate":=⟨_,he,rfl⟩;unfold pyNext;refine dy (wpAny_attempt (Tt (name:=Str.ofString "__next__") Z F.slot_enumerate_next (Ts F.slot_enumerate_next Z F.entry_enumerate_next ?_ (F.args_enumerate_next_1 _))));refine dy (m:=field (.ref e) 2) (Ug he rfl (x:=.ref it) rfl (dy (fD (by simpa using I.ok.hd hc) si (show s.heap.IsTuple a f.toArray from p) (by simp;omega) fun h' x eb U=>?_)))
  obtain⟨o,q,c⟩:=U;refine dy (wpAny_isInstance (T:="StopIteration") (b:=true) ⟨o,q,c⟩ isSubtype_stop ?_);obtain⟨f0,f1,f2,f3,f4,f5⟩:=D it (by simp)
  exact gc ⟨rfl,I.turned (t':=s.toks) (fun b o hb z=>eb b o hb z) f0 f1 f3 f4 f5⟩
 self:=fun _ _ _ _ _ g h=>by
  obtain⟨⟨old,he⟩,_⟩:=g;exact wpAny_pyIter_enum he h
def NY (K:Frag)(ta:TA):TI:=fun σ H R=>ta σ H fun b H1=>∃ a,b=[.ref a]/\(∃ xs,aE K H1 a xs)/\R (O7 K a) H1
variable {N W G:List Str}{K:Frag}{e:Expr}{t:TA}{p pos tpos:Pos}
theorem NZ (S:Sc X N W G)(g:Nat)(hm:X.mg "enumerate"=none)(hK:X.K=K)(ha:PB X [e] t)(hg:G[g]?=some "enumerate":=by rfl):PI X (.Tuple elts x1 tpos) (.Call (.Name "enumerate" p) [e] [] pos) (NY K t):=by
 subst hK;intro d s σ H R I h;have q:=S.gl _ (hO hg);refine Call_ (iE I q.1 hm boot_enumerate (GT (bW (ha.pa pos d s σ H _ I h) fun A c ⟨z,H1,i,w,n⟩=>?_) (bf ha.he) rfl));obtain⟨a,rfl,⟨B,hq⟩,q⟩:=n;obtain⟨u,rfl,r⟩:=vals1 w
 cases r
 obtain⟨l,C,o,hz⟩:=i.tuple hq;refine yH (show c.heap.IsTuple a l.toArray from o) fun y m x v=>?_
 have j:c.heap.objs.size+1≠c.heap.objs.size:=Nat.succ_ne_self _;refine wpAny_pyIter_enum m ?_;refine⟨c.heap.objs.size+1,[c.heap.objs.size+1,c.heap.objs.size],_,_,H1,rfl,i.kept (t':=c.toks) v,Cr a _ _ j,⟨⟨_,m⟩,x⟩,fun b hb=>?_,q⟩;have f:c.heap.objs.size<=b:=by
  rcases h9.mp hb with rfl | hb
  ·exact le_succ _
  ·have:b=c.heap.objs.size:=by simpa using hb
   rw[this];exact ed _
 exact i.vk f (i.bh.fresh f)
theorem FC (S:Sc X N W G)(g:Nat)(hm:X.mg "enumerate"=none)(hK:X.K=K)(ha:QB X [e] t)(hg:G[g]?=some "enumerate":=by rfl):QI X (.Tuple elts x1 tpos) (.Call (.Name "enumerate" p) [e] [] pos) (NY K t):=⟨NZ S g hm hK ha.h hg⟩
variable {ta:TA}
theorem FD {σ:St}{H:Hp}{R:It->Hp->Prop}:NY K ta σ H R=ta σ H fun vs H1=>∃ a,vs=[.ref a]/\(∃ xs,aE K H1 a xs)/\R (O7 K a) H1:=rfl
theorem Qv {a:Addr}{ns:List Int}{tb:TS}{D:Ends}{σ:St}{H:Hp}(I:Nat->St->Hp->Prop)(h:aE K H a (ns.map V.int))(h0:I 0 σ H)(hl:∀ i σ H,I i σ H->aE K H a (ns.map V.int))
  (step:∀ k σ H H2,k<ns.length->I k σ H->ah H H2->tb {D with nx:=I (k+1),ct:=I (k+1),bk:=D.nx} ((σ.set i (some (.int k))).set j (some (.int (ns.getD k 0)))) H2)
  (fin:∀ σ H,I ns.length σ H->D.nx σ H):∃ b,[V.ref a]=[.ref b]/\(∃ xs,aE K H b xs)/\qc (nj K 2 (dc (bB i) (dc (bB j) ni))) tb D σ (O7 K b) H:=by
 refine⟨a,rfl,⟨_,h⟩,fun k m σ H=>m=ns.length - k/\k<=ns.length/\I k σ H,⟨ns.length,by simp,zero_le _,h0⟩,?_⟩
 rintro k m σ H ⟨rfl,hk,p⟩;have q:=hl k σ H p
 by_cases c:k<ns.length
 ·have hx:(ns.map V.int)[k]?=some (.int (ns.getD k 0)):=by
   rw[eG,cc c,b5,cc c];rfl
  refine .inr ⟨⟨_,_,q,hx⟩,I (k+1),fun l g f=>⟨ns.length - (k+1),by omega,rfl,c,f⟩,fun x g y=>?_⟩
  obtain⟨t,v,hn,rfl,rfl,d⟩:=y
  have:=d _ q
  rw[hx] at this;cases this
  refine⟨t,[.int k,.int (ns.getD k 0)],rfl,aE.of ag,rfl,?_⟩;exact⟨_,_,rfl,_,_,rfl,rfl,step k σ H _ c p (ah.new hn _)⟩
 ·have e:k=ns.length:=by omega
  subst e;exact .inl ⟨⟨_,q,by rw[b7];exact ed _⟩,fin σ H p⟩
def FE:R2:=fun x y H Q=>y=.bx/\Q (.bl (decide (x=.bx))) H
def mL:R2:=fun x y H Q=>y=.bx/\Q (.bl (!decide (x=.bx))) H
theorem nL:eP X (compareOp .Is) FE:=Nf
theorem oA:eP X (compareOp .IsNot) mL:=IS
variable {H:Hp}{Q:VK}
theorem FF:FE .bx .bx H Q=Q (.bl true) H:=by unfold FE;simp
theorem FG {a:Addr}:FE (.ref a) .bx H Q=Q (.bl false) H:=by unfold FE;simp
theorem FH:mL .bx .bx H Q=Q (.bl false) H:=by unfold mL;simp
theorem FI {i:Int}:mL (.int i) .bx H Q=Q (.bl true) H:=by unfold mL;simp
def JR:List V->Hp->VK->Prop:=fun a H Q=>∃ p S n,a=[.ref p]/\H p=some (.set S n)/\Q (.int n) H
theorem vL:bS X (.builtin "len") JR:=by
 intro b s σ H m l Q I r h;obtain⟨p,S,n,rfl,e,q⟩:=h;obtain⟨u,rfl,g⟩:=vals1 r
 cases g
 obtain⟨o,j,v,t,c,i,d,_,_,hb,f,hn⟩:=I.bh p _ e;have a:scanBound<2 ^ 62:=by decide
 refine PySem.call_len_set c i d f (by omega) ⟨.int n,H,I.tok _,⟨_,by rw[hn]⟩,q⟩
theorem Qw {k:Nat}:(1:Int)*2 ^ ((k:Nat):Int).toNat=((2 ^ k:Nat):Int):=by rw[u5,Int.one_mul,Int.natCast_pow];rfl
theorem Qx {m k:Nat}:((m:Nat):Int) / 2 ^ ((k:Nat):Int).toNat=((m / 2 ^ k:Nat):Int):=by rw[u5,Int.natCast_ediv,Int.natCast_pow];rfl
theorem eB {k:Nat}(h:k<=1000):ly 1 (k:Int):=⟨by omega,by omega,by decide⟩
theorem Qy {m k:Nat}:decide (((m / 2 ^ k:Nat):Int) % 2=1)=m.testBit k:=by
 rw[r4]
 congr 1
 apply propext
 omega
theorem Qz {m k:Nat}:decide (((m / 2 ^ k:Nat):Int) % 2=0)=!m.testBit k:=by
 rw[r4]
 by_cases h:m / 2 ^ k % 2=1
 ·rw[ea h,ek (by omega)];rfl
 ·rw[ek h,ea (by omega)];rfl
theorem LM {a:Nat}:decide (((a||| b:Nat):Int)=(b:Int))=decide (a||| b=b):=by
 congr 1
 apply propext
 omega
def aA (ws:List Nat):List Int:=ws.map fun m=>((m:Nat):Int)
theorem ao (ws:List Nat):(aA ws).length=ws.length:=b7 _
theorem aT (ws:List Nat)(i:Nat):(aA ws).getD i 0=((ws.getD i 0:Nat):Int):=by
 unfold aA;rw[b5,eG,b5]
 cases ws[i]?<;>rfl
theorem eK (a b:List Nat):aA (a++b)=aA a++aA b:=hU
theorem FJ (a:List Nat)(n:Nat):(aA a).take n=aA (a.take n):=List.map_take.symm
theorem vM (a:List Nat)(n:Nat):(aA a).drop n=aA (a.drop n):=Uv.symm
variable {a:List Nat}
theorem nM {k:Nat}:(k:Int)∈aA a↔k∈a:=by
 unfold aA;rw[kc]
 constructor
 ·rintro⟨m,h,e⟩
  rwa [show k=m by omega]
 ·exact fun h=>⟨k,h,rfl⟩
theorem JS {b:List Nat}:aA a=aA b↔a=b:=by
 constructor
 ·intro h
  apply KM
  intro i
  have:=On (fun l=>l[i]?) h
  unfold aA at this;simp only[List.getElem?_map] at this
  cases p:a[i]?<;>cases q:b[i]?<;>rw[p,q] at this<;>simp at this
  ·rename_i u v
   rw[show u=v by omega]
 ·rintro rfl;rfl
theorem AY {k:Nat}:(aA a).idxOf (k:Int)=a.idxOf k:=by
 unfold aA
 induction a with
 | nil=>rfl
 | cons m r c=>
  rw[pS,idxOf_cons,idxOf_cons,c]
  by_cases e:m=k
  ·have b:((m:Int) == (k:Int))=true:=by rw[e];exact Up _
   have e2:(m == k)=true:=by rw[e];exact Up _
   rw[b,e2]
  ·have b:((m:Int) == (k:Int))=false:=Da.mpr (by omega)
   have e2:(m == k)=false:=Da.mpr e;rw[b,e2]
theorem FK (k:Int)(ns:List Int):Lf (.int k) (ns.map V.int)=decide (k∈ns):=by
 induction ns with
 | nil=>simp[Lf]
 | cons a r b=>
  unfold Lf at b ⊢;rw[pS,any_cons,b]
  by_cases e:a=k
  ·subst e;simp[DR]
  ·have:¬ k=a:=fun z=>e z.symm
   simp[DR,e,this]
variable {neg:Bool}
theorem AZ {p:Addr}{k:Nat}(h:aw K H p ((aA a).map V.int)∨aE K H p ((aA a).map V.int))(q:Q (.bl (if neg then !decide (k∈a) else decide (k∈a))) H):O4 K neg (.int k) (.ref p) H Q:=by
 refine⟨p,_,rfl,h,rfl,?_,?_⟩
 ·rw[Tv];exact kf.mpr fun _ _=>rfl
 ·rw[FK,show decide ((k:Int)∈aA a)=decide (k∈a) by congr 1;exact propext nM]
  exact q
theorem A0 {c:TT}{tb:TS}{D:Ends}{σ:St}(P:Nat->St->Hp->Prop)(m0:Nat)(h0:P m0 σ H)
  (hs:∀ m σ H,P m σ H->c σ H fun b H1=>if b=true then ∃ N:St->Hp->Prop,(∀ σ' H',N σ' H'->∃ m',m' < m/\P m' σ' H')/\tb {D with nx:=N,ct:=N,bk:=D.nx} σ H1 else D.nx σ H1):sL c tb D σ H:=⟨P,⟨m0,h0⟩,hs⟩
theorem A7 {P:Nat->St->Hp->Prop}{m:Nat}{R:(St->Hp->Prop)->Prop}(h:R fun σ' H'=>∃ m',m' < m/\P m' σ' H'):∃ N:St->Hp->Prop,(∀ σ' H',N σ' H'->∃ m',m' < m/\P m' σ' H')/\R N:=⟨_,fun _ _ h=>h,h⟩
variable {p:Nat->Bool}
theorem find_some {n k:Nat}(h:∀ j,j<k->p j=false)(hk:p k=true)(hn:k<n):(List.range n).find? p=some k:=by
 rw[List.find?_eq_some_iff_getElem];refine⟨hk,k,by rw[j9];exact hn,by simp,fun j hj=>?_⟩
 simp[h j hj]
theorem find_none {n:Nat}(h:∀ j,j<n->p j=false):(List.range n).find? p=none:=by
 rw[List.find?_eq_none];intro j hj;rw[h j (ka.mp hj)];exact h5
theorem oB {ns:List Int}:∀ n,n<=ns.length->ns.Nodup->jF ns n=ns.take n
 | 0,_,_=>by unfold jF;rw[firstMet_zero,take_zero]
 | n+1,hn,b=>by
  have a:=oB n (by omega) b
  unfold jF at a ⊢;rw[firstMet_succ,a,take_snoc 0 (by omega)]
  unfold step_dedup;rw[if_neg];intro z;obtain⟨y,hy,e⟩:=List.any_eq_true.mp z;have e:y=ns.getD n 0:=by simpa using e
  subst e;have h1:=b.sublist (take_sublist (n+1) _);rw[take_snoc 0 (by omega),Ue] at h1
  exact h1.2.2 _ hy _ (eR.mpr rfl) rfl
theorem Ct {ns:List Int}(h:ns.Nodup):unlike ns=ns.length:=by
 unfold unlike;rw[oB _ (ed _) h,Tx]
theorem vN {ns:List Int}:∀ n,n<=ns.length->(jF ns n).Nodup/\∀ x,x∈jF ns n↔x∈ns.take n
 | 0,_=>by unfold jF;rw[firstMet_zero,take_zero];exact⟨nodup_nil,fun _=>Iff.rfl⟩
 | n+1,hn=>by
  obtain⟨f,d⟩:=vN (ns:=ns) n (by omega)
  unfold jF at f d ⊢;rw[firstMet_succ,take_snoc 0 (by omega)]
  unfold step_dedup
  by_cases c:((firstMet (fun i=>ns.getD i 0) n).any fun x=>x == ns.getD n 0)=true
  ·rw[if_pos c];obtain⟨y,hy,e⟩:=List.any_eq_true.mp c;have e:y=ns.getD n 0:=by simpa using e
   refine⟨f,fun x=>?_⟩;rw[kb,eR,d]
   constructor
   ·exact .inl
   ·rintro(z | z)
    ·exact z
    ·rw[z,<-e];exact(d y).mp hy
  ·rw[if_neg c];refine⟨?_,fun x=>by rw[kb,kb,d]⟩
   rw[Ue];refine⟨f,by simp,fun a g b hb e=>c ?_⟩
   rw[eR] at hb;subst hb;subst e;exact List.any_eq_true.mpr ⟨_,g,by simp⟩
def yI (K:Frag):Sp:=fun a H Q _=>∃ (w:Addr) (ws:List Nat) (i j:Nat),a=[.ref w,.int i,.int j]/\aE K H w ((aA ws).map V.int)/\i<ws.length/\Q (.bl (fg ws i j)) H
def N0 (K:Frag):Sp:=fun a H Q _=>∃ (w:Addr) (ws:List Nat) (laid:Nat),a=[.ref w,.int laid]/\aE K H w ((aA ws).map V.int)/\ws.length<=8/\∀ H',ah H H'->(bQ ws laid=none->Q .bx H')/\∀ i:Nat,bQ ws laid=some i->Q (.int i) H'
def LN (H0:Hp)(w:Addr)(ws:List Nat)(laid k:Nat)(σ:St)(H:Hp):Prop:=ah H0 H/\(∀ j,j<k->ready ws laid j=false)/\∃ y1 y2:Option V,σ=[some (.ref w),some (.int laid),y1,y2]
def N1 (K:Frag):Sp:=fun a H Q _=>∃ (w:Addr) (ws:List Nat),a=[.ref w]/\aE K H w ((aA ws).map V.int)/\ws.length<=8/\∀ (l:Addr) (H':Hp),ah H H'->H l=none->H' l=some (.lst ((aA (laidOut ws)).map V.int))->Q (.ref l) H'
def LO (ws:List Nat)(laid:Nat):V:=match bQ ws laid with
 | none=>.bx
 | some i=>.int i
def QA (H0:Hp)(w l:Addr)(ws:List Nat)(f:Nat)(σ:St)(H:Hp):Prop:=∃ (order:List Nat) (laid:Nat),σ=[some (.ref w),some (.ref l),some (.int laid),some (LO ws laid)]/\ah H0 H/\H l=some (.lst ((aA order).map V.int))/\Laid ws order laid/\f7 ws f order laid=laidOut ws/\ws.length<f+order.length
def QC (K:Frag):Sp:=fun a H Q _=>∃ (w:Addr) (ws:List Nat),a=[.ref w]/\aE K H w ((aA ws).map V.int)/\ws.length<=8/\∀ (H':Hp),ah H H'->((laidOut ws).length<ws.length->Q .bx H')/\(¬ (laidOut ws).length<ws.length->∀ p,H' p=some (.tup ((aA (laidOut ws)).map V.int))->Q (.ref p) H')
def QD (K:Frag):Sp:=fun a H Q _=>∃ (w l:Addr) (ws left:List Nat) (i:Nat),a=[.ref w,.int i,.ref l]/\aE K H w ((aA ws).map V.int)/\aw K H l ((aA left).map V.int)/\i<ws.length/\left.length<=8/\(∃ j∈left,fg ws i j=true)/\∀ (H':Hp) (j:Nat),ah H H'->j∈left->fg ws i j=true->Q (.int j) H'
def cT (ws:List Nat):List Nat:=(List.range ws.length).filter fun i=>!decide (i∈laidOut ws)
theorem iS:i∈cT ws↔i<ws.length/\i∉laidOut ws:=by
 unfold cT;rw[qs,ka]
 simp
theorem vO:cT ws=[]↔¬ (laidOut ws).length<ws.length:=by
 rw[vK]
 constructor
 ·rintro h ⟨i,h1,b⟩
  have:i∈cT ws:=iS.mpr ⟨h1,b⟩
  rw[h] at this;cases this
 ·intro h
  cases e:cT ws with
  | nil=>rfl
  | cons a r=>
   have:a∈cT ws:=by rw[e];exact fO ..
   exact absurd ⟨a,iS.mp this⟩ h
theorem FN (ws:List Nat):(cT ws).length<=ws.length:=by
 have:=A5 (fun i=>!decide (i∈laidOut ws)) (List.range ws.length)
 rw[j9] at this;exact this
def QF (K:Frag)(H0:Hp)(w o lf pa:Addr)(ws:List Nat)(m:Nat)(σ:St)(H:Hp):Prop:=∃ (path:List Nat) (i:Nat),σ=[some (.ref w),some (.ref o),some (.ref lf),some (.ref pa),some (.int i)]/\ah H0 H/\aw K H lf ((aA (cT ws)).map V.int)/\H pa=some (.lst ((aA path).map V.int))/\Path ws (cT ws) path i/\m=ws.length - path.length
theorem oC:∀ m n:Nat,m+n=(m||| n)+(m&&& n):=by
 intro m
 induction m using Nat.strongRecOn with
 | _ m e=>
  intro n
  by_cases f:m=0
  ·subst f;simp
  have c:=e (m / 2) (by omega) (n / 2)
  rw[<-Nat.and_div_two,<-Nat.or_div_two] at c;have a:=Nat.and_mod_two_pow (a:=m) (b:=n) (n:=1);have b:=Nat.or_mod_two_pow (a:=m) (b:=n) (n:=1);have d:m % 2 ^ 1+n % 2 ^ 1=(m % 2 ^ 1||| n % 2 ^ 1)+(m % 2 ^ 1&&& n % 2 ^ 1):=by
   have hm:m % 2 ^ 1=0∨m % 2 ^ 1=1:=by omega
   have hn:n % 2 ^ 1=0∨n % 2 ^ 1=1:=by omega
   rcases hm with hm | hm<;>rcases hn with hn | hn<;>rw[hm,hn]<;>decide
  rw[<-a,<-b] at d
  omega
variable {a:Nat}
theorem A8 {k:Nat}(h:a.testBit k=false):a+2 ^ k=a||| 2 ^ k:=by
 have z:a&&& 2 ^ k=0:=by
  apply TF
  intro j;rw[testBit_and,KB,Uu]
  by_cases e:k=j
  ·subst e;rw[h];rfl
  ·rw[ek e,Uq]
 have:=oC a (2 ^ k)
 omega
theorem iT (m n j:Nat):(m - (m&&& n)).testBit j=(m.testBit j&&!n.testBit j):=by
 have h:m ^^^ (m&&& n)=m - (m&&& n):=by
  have o:∀ a b:Nat,(a ^^^ b)+(a&&& b)=a||| b:=by
   intro a
   induction a using Nat.strongRecOn with
   | _ m l=>
    intro n
    by_cases g:m=0
    ·subst g;simp
    have e:=l (m / 2) (by omega) (n / 2)
    rw[<-Nat.and_div_two,<-Nat.or_div_two,<-Nat.xor_div_two] at e;have a:=Nat.and_mod_two_pow (a:=m) (b:=n) (n:=1);have b:=Nat.or_mod_two_pow (a:=m) (b:=n) (n:=1);have c:=Nat.xor_mod_two_pow (a:=m) (b:=n) (n:=1);have d:(m % 2 ^ 1 ^^^ n % 2 ^ 1)+(m % 2 ^ 1&&& n % 2 ^ 1)=(m % 2 ^ 1||| n % 2 ^ 1):=by
     have hm:m % 2 ^ 1=0∨m % 2 ^ 1=1:=by omega
     have hn:n % 2 ^ 1=0∨n % 2 ^ 1=1:=by omega
     rcases hm with hm | hm<;>rcases hn with hn | hn<;>rw[hm,hn]<;>decide
    rw[<-a,<-b,<-c] at d
    omega
  have e2:=o m (m&&& n);have f:m&&& (m&&& n)=m&&& n:=by rw[<-Nat.and_assoc,Nat.and_self]
  have i:m||| (m&&& n)=m:=by
   apply TF
   intro j;rw[testBit_or,testBit_and]
   cases m.testBit j<;>rfl
  rw[f,i] at e2
  omega
 rw[<-h,Nat.testBit_xor,testBit_and]
 cases m.testBit j<;>cases n.testBit j<;>rfl
theorem sub_zero {m:Nat}(h:∀ j,m.testBit j=true->a.testBit j=true):m - (m&&& a)=0:=by
 apply TF
 intro j;rw[iT,Uu]
 cases e:m.testBit j with
 | false=>rfl
 | true=>rw[h j e];rfl
theorem yJ {m n:Nat}(h:∀ j,n<=j->m.testBit j=false):m<2 ^ n:=by
 apply Nat.lt_pow_two_of_testBit
 exact fun j hj=>h j hj
theorem gU {m n:Nat}(h:m<2 ^ n)(hj:n<=j):m.testBit j=false:=Nat.testBit_lt_two_pow (j6 h (ri (by decide) hj))
theorem yK {n:Nat}(h:order.Perm (List.range n)):order.Nodup/\order.length=n/\∀ i,i∈order↔i<n:=by
 refine⟨h.nodup_iff.mpr Uo,by rw[h.length_eq,j9],fun i=>by rw[h.mem_iff,ka]⟩
theorem JT {n:Nat}(hd:order.Nodup)(hl:order.length=n)(hm:∀ i∈order,i<n):order.Perm (List.range n):=by
 have d:∀ (c b:List Nat),c.Nodup->b.Nodup->(∀ i∈c,i∈b)->c.length=b.length->c.Perm b:=by
  intro c
  induction c with
  | nil=>intro b _ _ _ e;rw[length_nil] at e;rw[Fk.mp e.symm]
  | cons a r j=>
   intro b h1 m h l;have f:=h a (fO ..);have g:=A6.mp h1
   have:=j (b.erase a) g.2 (m.erase a) (fun i hi=>by
    have:i≠a:=fun z=>g.1 (z ▸ hi)
    exact(List.mem_erase_of_ne this).mpr (h i (fA _ hi))) (by
    rw[length_erase,if_pos f];rw[ot] at l;omega)
   exact(List.Perm.cons a this).trans (List.perm_cons_erase f).symm
 exact d _ _ hd Uo (fun i hi=>ka.mpr (hm i hi)) (by rw[hl,j9])
theorem JU (l:List Nat):(aA l).sum=((l.sum:Nat):Int):=by
 unfold aA
 induction l with
 | nil=>rfl
 | cons a r b=>rw[pS,Tz,b,Tz,natCast_add]
theorem QH {m:Nat}:((m:Nat):Int) / ((2 ^ j:Nat):Int)=((m / 2 ^ j:Nat):Int):=(Int.natCast_ediv _ _).symm
def QK (H0:Hp)(wb p:Addr)(order:List Nat)(k:Nat)(σ:St)(H:Hp):Prop:=H=H0/\∃ (a:Nat) (y:Option V),σ=[some (.ref wb),some (.ref p),some (.int a),y]/\∀ j,a.testBit j=true↔j∈order.take k
theorem tK {ms:List Int}{n:Nat}(h:ms.Perm (aA order))(hs:ms.Pairwise (·<=·))(hP:order.Perm (List.range n)):ms=aA (List.range n):=by
 refine PySem.W.ksm_same (h.trans (List.Perm.map _ hP)) hs ?_;unfold aA;rw[pairwise_map];exact List.pairwise_lt_range.imp fun h=>by omega
def ahead (n k:Nat):Nat:=if k=0 then n - 1 else k - 1
theorem Ring.ahead {ws r:List Nat}(h:Ring ws r){k:Nat}(hk:k<r.length):fg ws (r.getD (ahead r.length k) 0) (r.getD k 0)=true:=by
 unfold L2.ahead
 by_cases c:k=0
 ·subst c;rw[if_pos rfl];exact h.last
 ·rw[if_neg c]
  have:=h.next (k - 1) (by omega)
  rw[show k - 1+1=k by omega] at this
  exact this
variable {r:List Nat}
theorem rM (h:r.Nodup):(aA r).Nodup:=by
 unfold aA;rw[Tw,pairwise_map];exact(Tw.mp h).imp fun h=>by omega
abbrev LP (p:Addr):Obj:={cls:=.type "tuple_iterator",data:=.fields #[.ref p,.int 0 0]}
abbrev DT (a b:Value):Obj:={cls:=.type "tuple",data:=.seq #[a,b]}
theorem gW {h:Heap}{a b:Addr}{o u:Obj}{n m:String}(ha:h.get? a=some o)(hn:o.cls=.type n)(hb:h.get? b=some u)(hm:u.cls=.type m)(hc:n≠m):a≠b:=fun z=>by
 subst z;rw[ha] at hb;cases hb
 rw[hn] at hm;exact hc (by injection hm)
def QL (K:Frag):List V->Hp->VK->Prop:=fun a H Q=>∃ (p:Addr) (bs:List Bool),a=[.ref p]/\aw K H p (bs.map V.bl)/\Q (.bl (bs.all id)) H
theorem tL:∀ {bs:List Bool} {its:List Value},Vals (bs.map V.bl) its->its=bs.map Value.bool
 | [],_,.nil=>rfl
 | b::r,_,.cons h t=>by rw[tL t,show _=Value.bool b from h];rfl
theorem cQ (hc:X.calm=true)(hK:X.K=K):bS X (.builtin "all") (QL K):=by
 subst hK;intro j s σ H A D Q I r h;obtain⟨p,bs,rfl,hq,q⟩:=h;obtain⟨u,rfl,t⟩:=vals1 r
 cases t
 obtain⟨a,x,f,hz⟩:=I.list hq;have g:=tL x;have n:p<s.heap.objs.size:=by obtain⟨o,e,_⟩:=f.isList;exact lt_size e
 refine PySem.call_all_walk (TN f.isList ?_);refine⟨s.heap.objs.size,_,_,_,_,_,fun i=>bs.getD i false,rfl,Walks.list (by simpa using I.ok.hd hc) s.heap.objs.size p (mv n) a.toArray,⟨⟨_,ih _ rfl,rfl,rfl⟩,f.isList.push _⟩,?_,fun B E hk=>?_⟩
 ·intro i v l w C c d;have c:a[i]?=some v:=by simpa using c
  rw[g,eG] at c
  cases e:bs[i]? with
  | none=>rw[e] at c;cases c
  | some b=>
   rw[e] at c
   cases c
   have d:w (bs.getD i false) l:=d;rw[b5,e] at d;exact GM d
 ·have y:a.toArray.size=bs.length:=by rw[gd,g,b7]
  have m:(List.range a.toArray.size).all (fun i=>bs.getD i false)=bs.all id:=by
   rw[y]
   apply TQ.mpr
   simp only[List.all_eq_true,List.mem_range,id_eq]
   constructor
   ·intro h b hb;obtain⟨k,hk,e⟩:=C2 hb
    have:=h k hk
    rw[b5,cc hk] at this;rw[<-e];exact this
   ·intro h k hk;rw[b5,cc hk];exact h _ (p0 hk)
  rw[m];refine⟨.bl _,H,I.kept fun b o e=>hk b o ?_ (ey _ e),rfl,q⟩
  have:=lt_size e
  intro z
  have:b=s.heap.objs.size:=by simpa using z
  subst this;exact M2 _ (lt_size e)
def JV:V->List V->Hp->VK->Prop:=fun x a H Q=>∃ m:Nat,x=.int m/\a=[]/\∀ n:Nat,m<2 ^ n->(∀ k,m<2 ^ k->n<=k)->Q (.int n) H
theorem Cu:xM X "int.bit_length" JV:=by
 intro b s σ H x e v f Q I c d h;obtain⟨m,rfl,rfl,q⟩:=h;obtain⟨t,rfl⟩:=c
 cases d
 refine call_int_bit_length ⟨.int (Builtin.Int.intBits (m:Int):Nat),H,I.tok _,⟨_,rfl⟩,?_⟩;unfold Builtin.Int.intBits
 by_cases a:m=0
 ·subst a;exact q 0 (by decide) fun k _=>zero_le k
 ·have h1:((m:Int) == 0)=false:=Da.mpr (by omega)
  rw[h1];simp only[Bool.false_eq_true,if_false,natAbs_natCast];refine q _ (lt_log2_self) fun k hk=>?_
  have:=(log2_lt a).mpr hk
  omega
def aG (m:Nat):List Nat:=(List.range (m.log2+1)).filter m.testBit
theorem iU {p:Nat->Bool}:∀ (d n:Nat),(∀ j,n<=j->p j=false)->(List.range (n+d)).filter p=(List.range n).filter p
 | 0,n,_=>rfl
 | d+1,n,h=>by
  rw[<-Nat.add_assoc,Gc,TC,iU d n h]
  simp[h (n+d) (by omega)]
theorem rN {m n:Nat}(h:m<2 ^ n):(List.range n).filter m.testBit=aG m:=by
 unfold aG;have a:m<2 ^ (m.log2+1):=lt_log2_self
 rcases Nat.le_total n (m.log2+1) with c | c
 ·have:=iU (p:=m.testBit) (m.log2+1 - n) n fun j hj=>gU h hj
  rw[show n+(m.log2+1 - n)=m.log2+1 by omega] at this
  exact this.symm
 ·have:=iU (p:=m.testBit) (n - (m.log2+1)) (m.log2+1) fun j hj=>gU a hj
  rw[show m.log2+1+(n - (m.log2+1))=n by omega] at this
  exact this
def mask (l:List Nat):Nat:=(l.map fun j=>2 ^ j).sum
theorem cO:∀ {l:List Nat},l.Nodup->∀ j,(mask l).testBit j=decide (j∈l)
 | [],_,j=>by simp[mask]
 | a::r,h,j=>by
  have b:=A6.mp h;have c:=cO b.2;have d:(mask r).testBit a=false:=by rw[c];simp[b.1]
  show (2 ^ a+mask r).testBit j=_;rw[Nat.add_comm,A8 d,iR,c]
  by_cases e:a=j
  ·subst e;simp
  ·have:¬ j=a:=fun z=>e z.symm
   simp[e,this]
theorem A9 {n:Nat}(h:l.Nodup)(hl:∀ i∈l,i<n):mask l<2 ^ n:=yJ fun j hj=>by
 rw[cO h,ek];exact fun z=>absurd (hl j z) (by omega)
theorem mM:∀ {a b:List Nat},a.Pairwise (· < ·)->b.Pairwise (· < ·)->(∀ x,x∈a↔x∈b)->a=b
 | [],[],_,_,_=>rfl
 | [],y::_,_,_,h=>by have:=(h y).mpr (fO ..);cases this
 | x::_,[],_,_,h=>by have:=(h x).mp (fO ..);cases this
 | x::r,y::q,f,hb,h=>by
  have c:=F2.mp f;have d:=F2.mp hb;have e:x=y:=by
   rcases h9.mp ((h x).mp (fO ..)) with e | e
   ·exact e
   ·rcases h9.mp ((h y).mpr (fO ..)) with e2 | e2
    ·exact e2.symm
    ·have:=d.1 x e
     have:=c.1 y e2
     omega
  subst e;rw[mM c.2 d.2 fun z=>?_]
  constructor
  ·intro hz
   rcases h9.mp ((h z).mp (fA _ hz)) with e | e
   ·subst e;exact absurd (c.1 z hz) (by omega)
   ·exact e
  ·intro hz
   rcases h9.mp ((h z).mpr (fA _ hz)) with e | e
   ·subst e;exact absurd (d.1 z hz) (by omega)
   ·exact e
theorem Cv (h:l.Pairwise (· < ·)):aG (mask l)=l:=by
 have a:l.Nodup:=h.imp fun h=>by omega
 refine mM (List.pairwise_lt_range.sublist filter_sublist) h fun x=>?_;have b:mask l<2 ^ ((mask l).log2+1):=lt_log2_self;unfold aG;rw[qs,ka,cO a,k0]
 constructor
 ·exact fun z=>z.2
 ·intro hx;refine⟨?_,hx⟩
  apply q7
  intro q
  have:=gU b (j:=x) (by omega)
  rw[cO a,ea hx] at this
  cases this
def cp (ws l:List Nat):Bool:=l.all fun i=>l.all fun j=>decide (j=i)||fg ws i j
theorem tM:a&&& b=b↔∀ j,b.testBit j=true->a.testBit j=true:=by
 constructor
 ·intro h j hj
  have:(a&&& b).testBit j=true:=by rw[h];exact hj
  rw[testBit_and,gz] at this;exact this.1
 ·intro h
  apply TF
  intro j;rw[testBit_and]
  cases e:b.testBit j with
  | false=>rw[Uq]
  | true=>rw[h j e];rfl
theorem oE (h:l.Nodup)(hi:i∈l):∀ j,(mask l - 2 ^ i).testBit j=decide (j∈l/\j≠i):=by
 intro j;have e:mask l&&& 2 ^ i=2 ^ i:=tM.mpr fun j hj=>by
  rw[KB,k0] at hj;subst hj;rw[cO h,ea hi]
 have:=iT (mask l) (2 ^ i) j
 rw[e] at this;rw[this,cO h,KB]
 by_cases c:j∈l<;>by_cases a:i=j
 ·subst a;simp
 ·have:¬ j=i:=fun z=>a z.symm
  simp[c,a,this]
 ·simp[c]
 ·simp[c]
theorem vP (hi:i∈l):2 ^ i<=mask l:=by
 unfold mask
 induction l with
 | nil=>cases hi
 | cons a r b=>
  rw[pS,Tz]
  rcases h9.mp hi with rfl | h
  ·omega
  ·exact j5 (b h) (Nat.le_add_left _ _)
theorem yL (h:l.Nodup)(hi:i∈l):decide (ws.getD i 0&&& (mask l - 2 ^ i)=mask l - 2 ^ i)=l.all fun j=>decide (j=i)||fg ws i j:=by
 apply TQ.mpr
 rw[k0,tM,kf]
 constructor
 ·intro z j hj
  by_cases e:j=i
  ·rw[ea e];rfl
  ·have:=z j (by rw[oE h hi,ea ⟨hj,e⟩])
   unfold fg;rw[this,Bool.or_true]
 ·intro z j hj;rw[oE h hi,k0] at hj
  have:=z j hj.1
  rw[ek hj.2,Bool.false_or] at this;exact this
def kN:Sp:=fun a H Q _=>∃ m:Nat,a=[.int m]/\m<2 ^ 64/\∀ (l:Addr) (H':Hp),ah H H'->H l=none->H' l=some (.lst ((aA (aG m)).map V.int))->Q (.ref l) H'
def N2 (K:Frag):Sp:=fun a H Q _=>∃ (w p:Addr) (ws l:List Nat),a=[.ref w,.ref p]/\aE K H w ((aA ws).map V.int)/\aE K H p ((aA l).map V.int)/\ws.length<=8/\l.Nodup/\(∀ i∈l,i<ws.length)/\∀ H',ah H H'->Q (.bl (cp ws l)) H'
def QM (H0:Hp)(w p:Addr)(ws l:List Nat)(k:Nat)(σ:St)(H:Hp):Prop:=H=H0/\(∀ j,j<k->(l.all fun x=>decide (x=l.getD j 0)||fg ws (l.getD j 0) x)=true)/\∃ y1 y2:Option V,σ=[some (.ref w),some (.ref p),some (.int (mask l:Nat)),y1,y2]
theorem Ba (l:List Nat):((List.range (aA l).length).map fun j=>((2 ^ l.getD j 0:Nat):Int)).sum=((mask l:Nat):Int):=by
 have e:(List.range (aA l).length).map (fun j=>((2 ^ l.getD j 0:Nat):Int))=aA (l.map fun j=>2 ^ j):=by
  unfold aA
  apply KM
  intro i;rw[b7,eG,eG,eG]
  by_cases h:i<l.length
  ·rw[xH h,cc h];show some (((2 ^ l.getD i 0:Nat):Int))=some (((2 ^ l[i]:Nat):Int));rw[b5,cc h];rfl
  ·rw[mo (by rw[j9];omega),mo (by omega)];rfl
 rw[e,JU];rfl
theorem JW (h:2 ^ i<=a):(a:Int) - ((2 ^ i:Nat):Int)=((a - 2 ^ i:Nat):Int):=by omega
theorem QN:(((a:Nat):Int)=((b:Nat):Int))=(a=b):=propext ⟨fun h=>by omega,fun h=>by rw[h]⟩
def gJ (ws r:List Nat):Bool:=decide (2<=r.length)&&(decide r.Nodup&&(List.range r.length).all fun k=>fg ws (r.getD (ahead r.length k) 0) (r.getD k 0))
def qf (r:List Nat):List Nat:=r.drop 1++r.take 1
theorem FO (h:1<=r.length):(qf r).length=r.length:=by unfold qf;rw[fz,vr,xx];omega
theorem oF {k:Nat}(hk:k<r.length):(qf r).getD k 0=r.getD (if k+1<r.length then k+1 else 0) 0:=by
 unfold qf;rw[b5,b5]
 by_cases c:k+1<r.length
 ·rw[if_pos c,FM (by rw[vr];omega),getElem?_drop,Nat.add_comm]
 ·rw[if_neg c,BN (by rw[vr];omega),vr,show k - (r.length - 1)=0 by omega,List.getElem?_take_of_lt (by decide)]
theorem Cw:((List.range r.length).map fun k=>fg ws (r.getD k 0) ((qf r).getD k 0)).all id=(List.range r.length).all fun k=>fg ws (r.getD (ahead r.length k) 0) (r.getD k 0):=by
 apply TQ.mpr
 rw[Tv];simp only[List.all_eq_true,List.mem_range,Function.comp,id_eq]
 constructor
 ·intro h k hk;unfold ahead
  by_cases c:k=0
  ·subst c;rw[if_pos rfl]
   have:=h (r.length - 1) (by omega)
   rw[oF (by omega),if_neg (by omega)] at this
   exact this
  ·rw[if_neg c]
   have:=h (k - 1) (by omega)
   rw[oF (by omega),if_pos (by omega),show k - 1+1=k by omega] at this
   exact this
 ·intro h k hk;rw[oF hk]
  by_cases c:k+1<r.length
  ·rw[if_pos c]
   have:=h (k+1) c
   unfold ahead at this;rw[if_neg (by omega),Nat.add_sub_cancel] at this
   exact this
  ·rw[if_neg c]
   have:=h 0 (by omega)
   unfold ahead at this;rw[if_pos rfl,show r.length - 1=k by omega] at this
   exact this
theorem qg:(aA r).Nodup↔r.Nodup:=by
 constructor
 ·intro h;unfold aA at h;rw[Tw,pairwise_map] at h;rw[Tw];exact h.imp fun h=>by omega
 ·exact rM
theorem rO:∀ {ns:List Int},¬ ns.Nodup->∃ x∈ns,x∈ns.erase x
 | [],h=>absurd nodup_nil h
 | a::r,h=>by
  by_cases c:a∈r
  ·exact⟨a,fO ..,by rw[List.erase_cons_head];exact c⟩
  ·have e:¬ r.Nodup:=fun z=>h (A6.mpr ⟨c,z⟩);obtain⟨x,h1,d⟩:=rO e;refine⟨x,fA _ h1,?_⟩;have b:a≠x:=fun z=>c (z ▸ h1);rw[List.erase_cons_tail (by simpa using b)]
   exact fA _ d
theorem oH:∀ {xs ys:List Int},xs.Nodup->(∀ i∈xs,i∈ys)->xs.length<=ys.length
 | [],_,_,_=>zero_le _
 | a::r,ys,d,h=>by
  have b:=A6.mp d;have h1:=oH (xs:=r) (ys:=ys.erase a) b.2 fun i hi=>by
   have:i≠a:=fun z=>b.1 (z ▸ hi)
   exact(List.mem_erase_of_ne this).mpr (h i (fA _ hi))
  have c:=length_erase (a:=a) (l:=ys);rw[if_pos (h a (fO ..))] at c
  have:0<ys.length:=length_pos_of_mem (h a (fO ..))
  rw[ot];omega
theorem Cy {ns:List Int}(h:¬ ns.Nodup):unlike ns<ns.length:=by
 obtain⟨x,h1,c⟩:=rO h;obtain⟨f,d⟩:=vN (ns:=ns) ns.length (ed _);have g:=oH (ys:=ns.erase x) f fun i hi=>by
  have hi:=(d i).mp hi;rw[Tx] at hi
  by_cases e:i=x
  ·rw[e];exact c
  ·exact(List.mem_erase_of_ne e).mpr hi
 have b:=length_erase (a:=x) (l:=ns);rw[if_pos h1] at b
 have:0<ns.length:=length_pos_of_mem h1
 unfold unlike
 omega
def N3 (K:Frag):Sp:=fun a H Q _=>∃ (w p:Addr) (ws r:List Nat),a=[.ref w,.ref p]/\aE K H w ((aA ws).map V.int)/\aE K H p ((aA r).map V.int)/\ws.length<=8/\r.length<=90/\(∀ i∈r,i<ws.length)/\∀ H',ah H H'->Q (.bl (gJ ws r)) H'
def Off (wb:Addr)(H H':Hp):Prop:=∀ b o,b≠wb->H b=some o->H' b=some o
variable {wb:Addr}
theorem Off.trans {H1 H2:Hp}(a:Off wb H H1)(b:Off wb H1 H2):Off wb H H2:=fun c o n h=>b c o n (a c o n h)
theorem ah.vQ {H':Hp}(s:ah H H'):Off wb H H':=fun b o _ h=>s b o h
theorem Off.upd {wb:Addr}{H:Hp}{o:HO}:Off wb H (L2.upd H wb o):=fun b u n h=>by rw[aH n];exact h
variable {p:Addr}
theorem aC {xs:List V}{i:Int}{v:V}(h:aw K H p xs)(e:yg xs i=some v)(q:Q v H):B5 K (.ref p) (.int i) H Q:=⟨p,_,i,_,rfl,rfl,h,e,q⟩
theorem Bb {ds:List PyData}:PyData.eqv (.list ds) (.list [])=decide (ds=[]):=by
 cases ds with
 | nil=>rfl
 | cons a r=>simp[PyData.eqv,PyData.eqvAll]
theorem lcAny {j:Int}{te:TE}{rest:St}{H1:Hp}(n:Nat)(e:j=(n:Int))(hn:n<=1000000)(Ok:Nat->Prop)
  (step:∀ i H (A:V->Hp->Prop),i<n->ah H1 H->(∀ (x:Nat) H',ah H H'->Ok x->A (.int (x:Int)) H')->te (some (.int (i:Int))::rest) H A)
  (fin:∀ acc (row:List Nat) H,H1 acc=none->ah H1 H->H acc=some (.lst ((aA row).map V.int))->row.length=n->(∀ x∈row,Ok x)->Q (.ref acc) H) :
  ∃ k:Int,[V.int j]=[.int k]/\-(2 ^ 62)<=k/\k<2 ^ 62/\sW (bB 0) il te (none::rest) Q (xS 0 k.toNat) H1:=by
 subst e;refine⟨_,rfl,by omega,by omega,?_⟩
 rw[u5];intro acc d;refine⟨fun i m τ H=>m=n - i/\i<=n/\(∃ y,τ=y::rest)/\ah H1 H/\∃ row:List Nat,H acc=some (.lst ((aA row).map V.int))/\row.length=i/\∀ x∈row,Ok x,⟨n,by simp,zero_le _,⟨_,rfl⟩,ah.new d _,[],ag,rfl,(fun _ h=>nomatch h)⟩,?_⟩
 rintro i m τ H ⟨rfl,hi,⟨y,rfl⟩,l,row,r,o,q⟩
 by_cases f:i<n
 ·refine .inr ⟨f,fun s H'=>(∃ y,s=y::rest)/\ah H1 H'/\∃ row:List Nat,H' acc=some (.lst ((aA row).map V.int))/\row.length=i+1/\∀ x∈row,Ok x,fun s H' ⟨a,b,c⟩=>⟨n - (i+1),by omega,rfl,f,a,b,c⟩,fun x H' y=>?_⟩
  obtain⟨rfl,rfl⟩:=y;rw[Int.zero_add];simp only[sY,gR,set_cons_zero,yA,kM];refine step i H' _ f l fun x t g hx=>?_;have p:=g _ _ r;refine⟨_,p,?_,⟨_,rfl⟩,(l.trans g).set d _,row++[x],?_,by rw[fz,o];rfl,fun z hz=>?_⟩
  ·rw[b7,ao,o];exact j6 (j6 f hn) (by decide)
  ·rw[ag,eK,hU];rfl
  ·rcases kb.mp hz with z1 | z1
   ·exact q z z1
   ·rw[eR.mp z1];exact hx
 ·have e:i=n:=by omega
  subst e;exact .inl ⟨ed _,fin acc row H d l r o q⟩
def tN (ws:List Nat):Prop:=∃ r:Nat->Nat,∀ i j,i<ws.length->fg ws i j=true->r j<r i
def full (ws:List Nat):Prop:=¬ (laidOut ws).length<ws.length
theorem vR {k:Nat}(hd:l.Nodup)(h:x∈l.take k):l.idxOf x<k:=by
 obtain⟨i,hi,e⟩:=C2 h;rw[xx] at hi;rw[getElem_take] at e;rw[<-e,hd.idxOf_getElem i (by omega)]
 omega
theorem vS (h:full ws):tN ws:=by
 obtain⟨l,b,_⟩:=ee ws;have all:∀ i,i<ws.length->i∈laidOut ws:=fun i hi=>q7 fun z=>h (vK.mpr ⟨i,hi,z⟩);refine⟨fun x=>(laidOut ws).idxOf x,fun i j hi c=>?_⟩;have hm:=all i hi;have a:=Tu hm;have e:(laidOut ws).getD ((laidOut ws).idxOf i) 0=i:=by
  rw[b5,cc a];exact Ul a
 have:=b.ok _ a j (by rw[e];exact c)
 exact vR b.nd this
variable {a:Addr}
theorem LQ {xs:List V}{g:TG}{tb:TS}{D:Ends}{σ:St}(I:Nat->St->Hp->Prop)(h:aw K H a xs)(h0:I 0 σ H)(hl:∀ i σ H,I i σ H->aw K H a xs)
  (step:∀ i x σ H,xs[i]?=some x->I i σ H->g x σ H fun σ2 H2=>tb {D with nx:=I (i+1),ct:=I (i+1),bk:=D.nx} σ2 H2)
  (fin:∀ σ H,I xs.length σ H->D.nx σ H):∃ b,V.ref a=.ref b/\(∃ xs,aw K H b xs)/\qc g tb D σ (Ip K b) H:=
 ⟨a,rfl,⟨_,h⟩,vn (xs:=xs) I h0 (fun i σ H _ p=>hl i σ H p) step fin⟩
theorem FP (h:Ring ws r):gJ ws r=true:=by
 unfold gJ;rw[ea h.two,ea h.nd,qE,qE,kf];exact fun k hk=>Ring.ahead h (ka.mp hk)
def rat (g:Nat->List Int->Int)(n:Nat)(h:List Int):Nat:=((List.range n).filter fun i=>decide (g i h=h.getD i 0)).length
theorem Cz {ms:List Int}{k:Nat}{v:Int}:(ms.set j v).getD k 0=if j=k/\j<ms.length then v else ms.getD k 0:=by
 rw[b5,List.getElem?_set,b5]
 by_cases e:j=k
 ·by_cases h:j<ms.length
  ·rw[if_pos e,if_pos h,if_pos ⟨e,h⟩];rfl
  ·rw[if_pos e,if_neg h,if_neg (fun z=>h z.2),mo (by omega)]
 ·rw[if_neg e,if_neg (fun z=>e z.1)]
theorem HN.set {cs ms:List Int}{n j:Nat}{v:Int}(h:HN cs ms n)(h0:0<=v)(h1:v<cs.getD j 0):HN cs (ms.set j v) n:=by
 refine⟨by rw[length_set,h.1],fun i hi=>?_⟩
 rw[Cz]
 by_cases e:j=i/\j<ms.length
 ·rw[if_pos e,<-e.1];exact⟨h0,h1⟩
 ·rw[if_neg e];exact h.2 i hi
theorem FQ {j:Int}{te:TE}{rest:St}{H1:Hp}(n:Nat)(e:j=(n:Int))(hn:n<=1000000)(Ok:Nat->Int->Prop)
  (step:∀ i H (A:V->Hp->Prop),i<n->ah H1 H->(∀ (x:Int) H',ah H H'->Ok i x->A (.int x) H')->te (some (.int (i:Int))::rest) H A)
  (fin:∀ acc (row:List Int) H,H1 acc=none->ah H1 H->H acc=some (.lst (row.map V.int))->row.length=n->(∀ i,i<n->Ok i (row.getD i 0))->Q (.ref acc) H) :
  ∃ k:Int,[V.int j]=[.int k]/\-(2 ^ 62)<=k/\k<2 ^ 62/\sW (bB 0) il te (none::rest) Q (xS 0 k.toNat) H1:=by
 subst e;refine⟨_,rfl,by omega,by omega,?_⟩
 rw[u5];intro acc d;refine⟨fun i m τ H=>m=n - i/\i<=n/\(∃ y,τ=y::rest)/\ah H1 H/\∃ row:List Int,H acc=some (.lst (row.map V.int))/\row.length=i/\∀ k,k<i->Ok k (row.getD k 0),⟨n,by simp,zero_le _,⟨_,rfl⟩,ah.new d _,[],ag,rfl,fun k hk=>absurd hk (SZ k)⟩,?_⟩
 rintro i m τ H ⟨rfl,hi,⟨y,rfl⟩,l,row,q,h,p⟩
 by_cases f:i<n
 ·refine .inr ⟨f,fun r H'=>(∃ y,r=y::rest)/\ah H1 H'/\∃ row:List Int,H' acc=some (.lst (row.map V.int))/\row.length=i+1/\∀ k,k<i+1->Ok k (row.getD k 0),fun r H' ⟨a,b,c⟩=>⟨n - (i+1),by omega,rfl,f,a,b,c⟩,fun x H' y=>?_⟩
  obtain⟨rfl,rfl⟩:=y;rw[Int.zero_add];simp only[sY,gR,set_cons_zero,yA,kM];refine step i H' _ f l fun x s g hx=>?_;have o:=g _ _ q;refine⟨_,o,?_,⟨_,rfl⟩,(l.trans g).set d _,row++[x],?_,by rw[fz,h];rfl,fun k hk=>?_⟩
  ·rw[b7,h];exact j6 (j6 f hn) (by decide)
  ·rw[ag,hU];rfl
  ·by_cases e:k=i
   ·subst e;rw[<-h,tF,h];exact hx
   ·rw[tE (by omega)];exact p k (by omega)
 ·have e:i=n:=by omega
  subst e;exact .inl ⟨ed _,fin acc row H d l q h p⟩
variable {us:List V}
theorem aB {v:V}(h:us[i]?=some v):yg us (i:Int)=some v:=by
 have a:=(nt.mp h).1
 have:=iP (xs:=us) (i:=(i:Int)) (k:=i) rfl .bx a
 rw[this,b5,h];rfl
def SG (K:Frag):List V->Hp->VK->Prop:=fun a H Q=>∃ (p:Addr) (bs:List Bool),a=[.ref p]/\aw K H p (bs.map V.bl)/\Q (.bl (bs.any id)) H
def QP (K:Frag):List V->Hp->VK->Prop:=fun a H Q=>∃ (p:Addr) (ns:List Int),a=[.ref p]/\(aw K H p (ns.map V.int)∨aE K H p (ns.map V.int))/\ns≠[]/\∀ m∈ns,(∀ n∈ns,n<=m)->Q (.int m) H
theorem oI:∀ {ns:List Int} {its:List Value} {i:Nat} {v:Value},Vals (ns.map V.int) its->its[i]?=some v->∃ t,v=.int (ns.getD i 0) t/\i<ns.length
 | [],_,i,v,.nil,h=>by simp at h
 | n::r,_,0,v,.cons h _,e=>by
  obtain⟨t,h⟩:=h
  simp at e
  exact⟨t,by rw[<-e,h];rfl,by simp⟩
 | n::r,_,i+1,v,.cons _ t,e=>by
  obtain⟨a,h1,b⟩:=oI t (i:=i) (v:=v) (by simpa using e)
  exact⟨a,by rw[h1];simp,by simp;exact b⟩
theorem vT:∀ {xs:List V} {its:List Value},Vals xs its->Vals xs.reverse its.reverse
 | [],_,.nil=>.nil
 | _::_,_,.cons h t=>by rw[List.reverse_cons,List.reverse_cons];exact(vT t).append (.cons h .nil)
theorem CA (hc:X.calm=true)(hK:X.K=K):bS X (.builtin "any") (SG K):=by
 subst hK;intro j s σ H A D Q I r h;obtain⟨p,bs,rfl,hq,q⟩:=h;obtain⟨u,rfl,t⟩:=vals1 r
 cases t
 obtain⟨a,x,f,hz⟩:=I.list hq;have g:=tL x;have n:p<s.heap.objs.size:=by obtain⟨o,e,_⟩:=f.isList;exact lt_size e
 refine PySem.call_any_walk (TN f.isList ?_);refine⟨s.heap.objs.size,_,_,_,_,_,fun i=>bs.getD i false,rfl,Walks.list (by simpa using I.ok.hd hc) s.heap.objs.size p (mv n) a.toArray,⟨⟨_,ih _ rfl,rfl,rfl⟩,f.isList.push _⟩,?_,fun B E hk=>?_⟩
 ·intro i v l w C c d;have c:a[i]?=some v:=by simpa using c
  rw[g,eG] at c
  cases e:bs[i]? with
  | none=>rw[e] at c;cases c
  | some b=>
   rw[e] at c
   cases c
   have d:w (bs.getD i false) l:=d;rw[b5,e] at d;exact GM d
 ·have y:a.toArray.size=bs.length:=by rw[gd,g,b7]
  have m:(List.range a.toArray.size).any (fun i=>bs.getD i false)=bs.any id:=by
   rw[y]
   apply TQ.mpr
   simp only[List.any_eq_true,List.mem_range,id_eq]
   constructor
   ·rintro⟨k,hk,h⟩;rw[b5,cc hk] at h;exact⟨_,p0 hk,h⟩
   ·rintro⟨b,hb,h⟩;obtain⟨k,hk,e⟩:=C2 hb;refine⟨k,hk,?_⟩;rw[b5,cc hk];show bs[k]=true;rw[e];exact h
  rw[m];refine⟨.bl _,H,I.kept fun b o e=>hk b o ?_ (ey _ e),rfl,q⟩;intro z
  have:b=s.heap.objs.size:=by simpa using z
  subst this;exact M2 _ (lt_size e)
theorem CB {pins:List (Addr × Obj)}{σ:St}{ns:List Int}(hc:X.calm=true)(I:Inv X pins σ H s)(hq:aw X.K H p (ns.map V.int)∨aE X.K H p (ns.map V.int)){R:Value->Shared->Prop}
  (h:∀ (J:Addr) (fp wr:List Addr) (Pv:Nat->Value->Prop) (St:Nat->Heap->Prop) (s2:Shared),Walks X.prog X.w X.A.in1 J fp wr ns.length Pv St->St 0 s2.heap->(∀ b∈fp,b<s2.heap.objs.size)->(∀ i v,Pv i v->∃ t,v=.int (ns.getD i 0) t)->
   (∀ h' tk,(∀ b o,b∉wr->s2.heap.get? b=some o->h'.get? b=some o)->Inv X pins σ H {s2 with heap:=h',toks:=tk})->R (.ref J) s2):wpAny (model X.prog X.w) X.A.in1 (pyIter (.ref p)) R E s:=by
 have kept:∀ {o:Obj} {h':Heap} {tk:Nat},(∀ b u,b∉[s.heap.objs.size]->(s.heap.push o).get? b=some u->h'.get? b=some u)->Inv X pins σ H {s with heap:=h',toks:=tk}:=fun hk=>I.kept fun b u e=>hk b u (fun z=>by
  have:b=s.heap.objs.size:=by simpa using z
  subst this;exact M2 _ (lt_size e)) (ey _ e)
 rcases hq with hq | hq
 ·obtain⟨a,f,d,hz⟩:=I.list hq;have j:a.toArray.size=ns.length:=by rw[gd,<-f.length,b7]
  have c:p<s.heap.objs.size:=by obtain⟨o,e,_⟩:=d.isList;exact lt_size e
  refine TN d.isList ?_;have W:=Walks.list (prog:=X.prog) (w:=X.w) (A:=X.A.in1) (by simpa using I.ok.hd hc) s.heap.objs.size p (mv c) a.toArray
  rw[j] at W;refine h _ _ _ _ _ _ W ⟨⟨_,ih _ rfl,rfl,rfl⟩,d.isList.push _⟩ (fun b hb=>?_) (fun i v g=>?_) fun h' tk hk=>kept hk
  ·show b<(s.heap.push _).objs.size;rw[IR]
   rcases h9.mp hb with rfl | hb
   ·exact Ux _
   ·have:b=p:=by simpa using hb
    rw[this];exact Uj c
  ·obtain⟨t,e,_⟩:=oI f (by simpa using g)
   exact⟨t,e⟩
 ·obtain⟨a,f,d,hz⟩:=I.tuple hq;have pt:s.heap.IsTuple p a.toArray:=d;have j:a.toArray.size=ns.length:=by rw[gd,<-f.length,b7]
  have c:p<s.heap.objs.size:=by obtain⟨o,e,_⟩:=pt;exact lt_size e
  refine Re pt ?_;have W:=Walks.tuple (prog:=X.prog) (w:=X.w) (A:=X.A.in1) (by simpa using I.ok.hd hc) s.heap.objs.size p (mv c) a.toArray
  rw[j] at W;refine h _ _ _ _ _ _ W ⟨⟨_,ih _ rfl,rfl,rfl⟩,pt.at fun o e=>ey _ e⟩ (fun b hb=>?_) (fun i v g=>?_) fun h' tk hk=>kept hk
  ·show b<(s.heap.push _).objs.size;rw[IR]
   rcases h9.mp hb with rfl | hb
   ·exact Ux _
   ·have:b=p:=by simpa using hb
    rw[this];exact Uj c
  ·obtain⟨t,e,_⟩:=oI f (by simpa using g)
   exact⟨t,e⟩
theorem yM (hc:X.calm=true)(hK:X.K=K):bS X (.builtin "max") (QP K):=by
 subst hK;intro l s σ H D E Q I r h;obtain⟨p,c,rfl,hq,f,q⟩:=h;obtain⟨u,rfl,o⟩:=vals1 r
 cases o
 have hn:0<c.length:=Do.mpr f;refine PySem.call_max_walk (CB hc I hq fun J w m Pv St F W A d a b=>?_);refine⟨J,w,m,_,Pv,St,_,rfl,W,A,d,hn,CmpOf.ints_gt (fun i=>c.getD i 0) a,fun v x B z hk=>?_⟩;obtain⟨t,rfl⟩:=a _ _ z;obtain⟨C,y⟩:=argBest_gt (fun i=>c.getD i 0) (c.length - 1);refine⟨.int _,H,b x B hk,⟨t,rfl⟩,q _ (L2.getD_mem (by omega)) fun n g=>?_⟩
 obtain⟨k,j,e⟩:=C2 g
 have:=y k (by omega)
 rw[b5,cc j] at this;rw[<-e];exact this
def LR:TS:=fun _ _ _=>False
theorem iV {st:Stmt}:QS X st LR:=⟨fun _ _ _ _ _ _ h=>h.elim⟩
theorem FR {D:Ends}{σ:St} :LR D σ H=False:=rfl
def QQ (K:Frag):V->Hp->VK->Prop:=fun x H Q=>∃ a xs,x=.ref a/\aw K H a xs/\∀ p,H p=none->Q (.ref p) (upd H p (.lst xs.reverse))
def SH (K:Frag)(te ts:TE):TE:=fun σ H Q=>te σ H fun x H1=>ts σ H1 fun y a=>y=.int (-1)/\QQ K x a Q
variable {st:Expr}{te ts:TE}{p2:Pos}{ops:Value->Value->List Value}
theorem N4 (he:PE X e te)(hs:PE X st ts)(hsub:∀ o i,subscripted (.Slice none none (some st) p2) false o i=operate (ops o i) (getItem o i)):PE X (.Subscript e (.Slice none none (some st) p2) pos) (SH X.K te ts):=by
 intro c s σ H Q I h;refine Subscript_ (bW (he c s σ H _ I h) fun v z ⟨x,H1,m,D,u⟩=>?_);refine wpAny_Slice ?_;rw[evalPart_none];refine gc (gc ?_);rw[evalPart_some];refine bW (hs c z σ H1 _ m u) fun F d ⟨y,B,p,E,n⟩=>?_;obtain⟨rfl,a,C,rfl,hx,q⟩:=n
 cases D
 obtain⟨t,rfl⟩:=E;have g:Inv X c σ B {d with heap:=d.heap.push {cls:=.type "slice",data:=.fields #[.none,.none,.int (-1) t]}}:=p.kept (t':=d.toks) fun b ob q=>ey _ q;obtain⟨f,r,j,hz⟩:=g.list hx;have l:=r.length;show wpAny (model X.prog X.w) X.A (subscriptTail e (.Slice none none (some st) p2) (.ref a) (.ref d.heap.objs.size)) (EP X c σ Q) X.xe {d with heap:=d.heap.push {cls:=.type "slice",data:=.fields #[.none,.none,.int (-1) t]}};refine tail_any (T:="list") (ops:=ops (.ref a) (.ref d.heap.objs.size)) j.isList.typeIs slot_list_getitem.lookup ?_ (hsub _ _);refine wpAny_getItem_list_slice j.isList (Heap.IsSliceOf.new ..) .none .none (.int (-1) t) (by simp) ?_ (by rw[gd]<;>omega)
 rw[PySem.W.krv_pick];refine⟨.ref _,_,g.laid (t':=d.toks) (o:=.lst C.reverse) (fun b ob q=>ey _ q) (ed _) ?_,rfl,q _ (g.bh.fresh (ed _))⟩;exact⟨by rw[List.length_reverse];exact hz,f.reverse,0,vT r,ih _ rfl⟩
theorem N5 (he:QE X e te)(hs:QE X st ts)(h:X.K=K)(hsub:∀ o i,subscripted (.Slice none none (some st) p2) false o i=operate (ops o i) (getItem o i):=by intro _ _;with_unfolding_all rfl):QE X (.Subscript e (.Slice none none (some st) p2) pos) (SH K te ts):=⟨by subst h;exact N4 he.h hs.h hsub⟩
theorem QR {σ:St} :SH K te ts σ H Q=te σ H fun x H1=>ts σ H1 fun y H2=>y=.int (-1)/\QQ K x H2 Q:=rfl
def rg (n i:Nat)(s:Int):Int:=if i=n - 1 then s else 1 - s
theorem yN {n:Nat}(hn:2<=n){h:Nat->Int}(hb:∀ i,i<n->h i=0∨h i=1):∃ i,i<n/\rg n i (h ((i+1) % n))=h i:=by
 refine q7 fun z=>?_;have a:∀ i,i<n->rg n i (h ((i+1) % n))≠h i:=fun i hi e=>z ⟨i,hi,e⟩;have all:∀ i,i<n->h i=h 0:=by
  intro i
  induction i with
  | zero=>intro _;rfl
  | succ i b=>
   intro hi;have h1:=a i (by omega)
   unfold rg at h1;rw[if_neg (by omega),Uz hi] at h1
   have:=b (by omega)
   have d:=hb i (by omega)
   have c:=hb (i+1) hi
   omega
 have h1:=a (n - 1) (by omega)
 unfold rg at h1;rw[if_pos rfl,show n - 1+1=n by omega,mod_self,all (n - 1) (by omega)] at h1
 exact h1 rfl
def QU:Sp:=fun a H Q _=>∃ (n i:Nat) (s:Int),a=[.int n,.int i,.int s]/\1<=n/\Q (.int (rg n i s)) H
theorem QV {ns:List Int}{tc:TT}{rest:St}{H1:Hp}(keep:Nat->Bool)(val:Nat->Int)(h:aE K H1 a (ns.map V.int))(hn:ns.length<sizeLine)
  (step:∀ i H (A:V->Hp->Prop) (B:Hp->Prop),i<ns.length->ah H1 H->(keep i=true->∀ H',ah H H'->A (.int (val i)) H')->(keep i=false->∀ H',ah H H'->B H')->
   tc (some (.int (i:Int))::some (.int (ns.getD i 0))::rest) H fun b H3=>if b=true then te (some (.int (i:Int))::some (.int (ns.getD i 0))::rest) H3 A else B H3)
  (fin:∀ acc H,H1 acc=none->ah H1 H->H acc=some (.lst ((((List.range ns.length).filter keep).map val).map V.int))->Q (.ref acc) H) :
  ∃ b,[V.ref a]=[.ref b]/\(∃ xs,aE K H1 b xs)/\sW (nj K 2 (dc (bB 0) (dc (bB 1) ni))) tc te (none::none::rest) Q (O7 K b) H1:=by
 refine⟨a,rfl,⟨_,h⟩,fun acc c=>?_⟩;refine⟨fun i m τ H=>m=ns.length - i/\i<=ns.length/\(∃ y z,τ=y::z::rest)/\ah H1 H/\H acc=some (.lst ((((List.range i).filter keep).map val).map V.int)),⟨ns.length,by simp,zero_le _,⟨_,_,rfl⟩,ah.new c _,ag⟩,?_⟩
 rintro i m τ H ⟨rfl,hi,⟨y,z,rfl⟩,g,p⟩;have n:=g.aL h
 by_cases f:i<ns.length
 ·have hx:(ns.map V.int)[i]?=some (.int (ns.getD i 0)):=by
   rw[eG,cc f,b5,cc f];rfl
  refine .inr ⟨⟨_,_,n,hx⟩,fun r H'=>(∃ y z,r=y::z::rest)/\ah H1 H'/\H' acc=some (.lst ((((List.range (i+1)).filter keep).map val).map V.int)),fun r H' ⟨u,v,w⟩=>⟨ns.length - (i+1),by omega,rfl,f,u,v,w⟩,fun x H' y=>?_⟩
  obtain⟨t,v,l,rfl,rfl,s⟩:=y
  have:=s _ n
  rw[hx] at this;cases this
  have j:=ah.new l (.tup [.int (i:Int),.int (ns.getD i 0)]);refine⟨t,_,rfl,aE.of ag,rfl,_,_,rfl,_,_,rfl,rfl,?_⟩;simp only[set_cons_zero,set_cons_succ];have q:(((List.range i).filter keep).map val).length<=i:=by
   have:=A5 keep (List.range i)
   rw[j9] at this;rw[b7];exact this
  refine step i _ _ _ f (g.trans j) (fun hk C d=>?_) fun hk C d=>?_
  ·have o:=d _ _ (j _ _ p);refine⟨_,o,?_,⟨_,_,rfl⟩,((g.trans j).trans d).set c _,?_⟩
   ·rw[b7];omega
   ·rw[ag,Gc,TC,hU,hU]
    simp[hk]
  ·refine⟨⟨_,_,rfl⟩,(g.trans j).trans d,?_⟩;rw[d _ _ (j _ _ p),Gc,TC,hU,hU]
   simp[hk]
 ·have e:i=ns.length:=by omega
  subst e;exact .inl ⟨⟨_,n,by rw[b7];exact ed _⟩,fin acc H c g p⟩
def kd (b:Bool):Str:=if b then "ring" else "circle"
theorem tO (b:Bool):decide (kd b="ring")=b:=by cases b<;>decide
def GL (K:Frag)(H:Hp):List V->List (Bool × List Nat)->Prop
 | [],[]=>True
 | v::a,g::L=>(∃ r p,v=.ref r/\aE K H r [.str (kd g.1),.ref p]/\aE K H p ((aA g.2).map V.int))/\GL K H a L
 | _,_=>False
variable {H':Hp}
theorem GL.mono (s:ah H H'):∀ {vs:List V} {L:List (Bool × List Nat)},GL K H vs L->GL K H' vs L
 | [],[],h=>h
 | _::_,_::_,⟨⟨r,p,e,h,a⟩,t⟩=>⟨⟨r,p,e,s.aL h,s.aL a⟩,GL.mono s t⟩
 | [],_::_,h=>h.elim
 | _::_,[],h=>h.elim
theorem GL.length:∀ {vs:List V} {L:List (Bool × List Nat)},GL K H vs L->vs.length=L.length
 | [],[],_=>rfl
 | _::_,_::_,⟨_,t⟩=>by rw[ot,ot,GL.length t]
 | [],_::_,h=>h.elim
 | _::_,[],h=>h.elim
theorem GL.get:∀ {vs:List V} {L:List (Bool × List Nat)} {i:Nat} {v:V},GL K H vs L->vs[i]?=some v->∃ g r p,L[i]?=some g/\v=.ref r/\aE K H r [.str (kd g.1),.ref p]/\aE K H p ((aA g.2).map V.int)
 | [],[],i,v,_,e=>by simp at e
 | _::_,g::_,0,v,⟨⟨r,p,e,h,c⟩,_⟩,e2=>by simp at e2;subst e2;exact⟨g,r,p,rfl,e,h,c⟩
 | _::_,_::_,i+1,v,⟨_,t⟩,e2=>by
  obtain⟨g,r,p,a,b⟩:=GL.get (i:=i) (v:=v) t (by simpa using e2)
  exact⟨g,r,p,by simpa using a,b⟩
 | [],_::_,_,_,h,_=>h.elim
 | _::_,[],_,_,h,_=>h.elim
variable {L:List (Bool × List Nat)}
theorem Tq {rest:St}{H1:Hp}(val:(Bool × List Nat)->Int)(h:aE K H1 a us)(hg:GL K H1 us L)(hn:L.length<sizeLine)
  (step:∀ (i:Nat) g p H (A:V->Hp->Prop),L[i]?=some g->ah H1 H->aE K H p ((aA g.2).map V.int)->(∀ H',ah H H'->A (.int (val g)) H')->te (some (.str (kd g.1))::some (.ref p)::rest) H A)
  (fin:∀ acc H,H1 acc=none->ah H1 H->H acc=some (.lst ((L.map val).map V.int))->Q (.ref acc) H) :
  ∃ b,V.ref a=.ref b/\(∃ xs,aE K H1 b xs)/\sW (nj K 2 (dc (bB 0) (dc (bB 1) ni))) il te (none::none::rest) Q (BS K b) H1:=by
 have F:=hg.length;refine⟨a,rfl,⟨_,h⟩,fun acc c=>?_⟩;refine⟨fun i m τ H=>m=L.length - i/\i<=L.length/\(∃ y z,τ=y::z::rest)/\ah H1 H/\H acc=some (.lst (((L.take i).map val).map V.int)),⟨L.length,by simp,zero_le _,⟨_,_,rfl⟩,ah.new c _,ag⟩,?_⟩
 rintro i m τ H ⟨rfl,hi,⟨y,z,rfl⟩,f,s⟩;have o:=f.aL h
 by_cases l:i<L.length
 ·have hx:us[i]?=some (us[i]'(by omega)):=cc _
  refine .inr ⟨⟨_,_,o,hx⟩,fun t H'=>(∃ y z,t=y::z::rest)/\ah H1 H'/\H' acc=some (.lst (((L.take (i+1)).map val).map V.int)),fun t H' ⟨u,v,w⟩=>⟨L.length - (i+1),by omega,rfl,l,u,v,w⟩,fun x H' y=>?_⟩
  obtain⟨rfl,B⟩:=y;have n:=B _ o;obtain⟨g,r,p,d,rfl,D,C⟩:=(hg.mono f).get n;refine⟨r,_,rfl,D,rfl,_,_,rfl,_,_,rfl,rfl,?_⟩;simp only[gR,yA,kM,set_cons_zero,set_cons_succ];refine step i g p _ _ d f C fun E j=>?_;have q:=j _ _ s;refine⟨_,q,?_,⟨_,_,rfl⟩,(f.trans j).set c _,?_⟩
  ·rw[b7,b7,xx];omega
  ·rw[ag]
   have:L.take (i+1)=L.take i++[g]:=by rw[take_succ,d];rfl
   rw[this,hU,hU];rfl
 ·have e:i=L.length:=by omega
  subst e;refine .inl ⟨⟨_,o,by omega⟩,fin acc H c f ?_⟩
  rw[s,Tx]
def pk (cs:List Int)(l:List Nat):List Int:=l.map fun i=>cs.getD i 0
def oJ (cs:List Int)(g:Bool × List Nat):Int:=if g.1 then 1 else cj (pr (pk cs g.2)) (pk cs g.2) / pr (pk cs g.2)
structure FU (n:Nat)(g:Bool × List Nat):Prop where
 lt:∀ i∈g.2,i<n
 len:g.2.length<=8
variable {g:Bool × List Nat}
theorem LS {cs:List Int}(h:ck cs)(hg:FU cs.length g):ck (pk cs g.2):=by
 refine⟨fun c hc=>?_,by unfold pk;rw[b7];exact hg.len⟩
 obtain⟨i,hi,e⟩:=kc.mp hc;rw[<-e];exact h.get (hg.lt i hi)
theorem tP {cs:List Int} :(pk cs l).length=l.length:=by unfold pk;rw[b7]
theorem N6 {cs:List Int}{k:Nat}(h:k<l.length):(pk cs l).getD k 0=cs.getD (l.getD k 0) 0:=by
 unfold pk;rw[b5,eG,cc h,b5 (l:=l),cc h];rfl
def oK (K:Frag):Sp:=fun a H Q _=>∃ (c p:Addr) (cs:List Int) (l:List Nat),a=[.ref c,.ref p]/\aE K H c (cs.map V.int)/\aE K H p ((aA l).map V.int)/\(∀ i∈l,i<cs.length)/\l.length<=8/\∀ (t:Addr) (H':Hp),ah H H'->H' t=some (.tup ((pk cs l).map V.int))->Q (.ref t) H'
def Bc (K:Frag):Sp:=fun a H Q _=>∃ (c p:Addr) (cs:List Int) (g:Bool × List Nat),a=[.ref c,.str (kd g.1),.ref p]/\aE K H c (cs.map V.int)/\aE K H p ((aA g.2).map V.int)/\ck cs/\FU cs.length g/\∀ (H':Hp),ah H H'->Q (.int (oJ cs g)) H'
def tQ (K:Frag):Sp:=fun a H Q _=>∃ (c g:Addr) (cs:List Int) (us:List V) (L:List (Bool × List Nat)),a=[.ref c,.ref g]/\aE K H c (cs.map V.int)/\aE K H g us/\GL K H us L/\ck cs/\(∀ g∈L,FU cs.length g)/\L.length<=100/\∀ (H':Hp),ah H H'->Q (.int (L.map (oJ cs)).sum) H'
def fT (cs:List Int)(l:List Nat):List Int:=l.map fun i=>cs.getD i 0
theorem gX {cs:List Int} :(fT cs l).length=l.length:=by unfold fT;rw[b7]
theorem kP {cs:List Int}{k:Nat}(h:k<l.length):(fT cs l).getD k 0=cs.getD (l.getD k 0) 0:=by
 unfold fT;rw[b5,eG,cc h,b5 (l:=l),cc h];rfl
def FV (cs hs:List Int)(g:Bool × List Nat)(i:Nat):Int:=if g.1 then rg g.2.length (g.2.idxOf i) (hs.getD (g.2.getD ((g.2.idxOf i+1) % g.2.length) 0) 0) else cg (fT cs g.2) (fT hs g.2) (g.2.idxOf i)
def qh (cs:List Int)(L:List (Bool × List Nat))(hs:List Int)(i:Nat):Int:=match L.find? (fun g=>decide (i∈g.2)) with
 | none=>0
 | some g=>FV cs hs g i
structure O8 (cs:List Int)(ws:List Nat)(g:Bool × List Nat):Prop where
 lt:∀ x∈g.2,x<cs.length
 nd:g.2.Nodup
 ring:g.1=true->2<=g.2.length/\(∀ x∈g.2,cs.getD x 0=2)/\∀ k,k<g.2.length->fg ws (g.2.getD k 0) (g.2.getD ((k+1) % g.2.length) 0)=true
 g9:g.1=false->∀ x∈g.2,∀ y∈g.2,x≠y->fg ws x y=true
structure yO (cs:List Int)(ws:List Nat)(L:List (Bool × List Nat)):Prop where
 each:∀ g∈L,O8 cs ws g
 qC:L.Pairwise fun g h=>∀ x∈g.2,x∉h.2
theorem iy {k:Nat}(h:k<l.length):l.getD k 0∈l:=by
 rw[b5,cc h];exact p0 h
theorem N7 {k:Nat}(hd:l.Nodup)(h:k<l.length):l.idxOf (l.getD k 0)=k:=by
 rw[b5,cc h];exact hd.idxOf_getElem k h
theorem getIdx (h:x∈l):l.getD (l.idxOf x) 0=x:=by
 have a:=Tu h;rw[b5,cc a];exact Ul a
theorem yP (h:L.find? (fun g=>decide (i∈g.2))=some g):g∈L/\i∈g.2:=⟨List.mem_of_find?_eq_some h,by have:=List.find?_some h;exact tx this⟩
theorem JX {cs hs:List Int}(hp:∀ c∈cs,1<=c)(hn:HN cs hs cs.length)(h:O8 cs ws g)(hi:i∈g.2):0<=FV cs hs g i/\FV cs hs g i<cs.getD i 0:=by
 have d:=Tu hi;unfold FV
 cases hb:g.1 with
 | true=>
  obtain⟨n,hc,_⟩:=h.ring hb;have f:=iy (l:=g.2) (k:=(g.2.idxOf i+1) % g.2.length) (mod_lt _ (by omega))
  have m:=hn.2 _ (h.lt _ f);rw[hc _ f] at m;rw[hc i hi];simp only[if_true];unfold rg
  split<;>omega
 | false=>
  simp only[Bool.false_eq_true,if_false];have a:∀ c∈fT cs g.2,1<=c:=fun c hc=>by
   obtain⟨x,hx,e⟩:=kc.mp hc;rw[<-e];exact hp _ (getD_mem (h.lt x hx))
  have j:g.2.idxOf i<(fT cs g.2).length:=by rw[gX];exact d
  have b:=Qi (hs:=fT hs g.2) a j;rw[kP d,getIdx hi] at b;exact⟨Qh a j,b⟩
theorem JY {cs hs:List Int}(hp:∀ c∈cs,1<=c)(hn:HN cs hs cs.length)(h:yO cs ws L)(hi:i<cs.length):0<=qh cs L hs i/\qh cs L hs i<cs.getD i 0:=by
 unfold qh
 cases a:L.find? (fun g=>decide (i∈g.2)) with
 | none=>have:=hp _ (getD_mem hi);exact⟨by show (0:Int)<=0;decide,by show (0:Int)<_;omega⟩
 | some g=>
  obtain⟨h1,b⟩:=yP a;exact JX hp hn (h.each g h1) b
def jx (cs:List Int)(g:Bool × List Nat):Int:=if g.1 then 1 else cj (pr (fT cs g.2)) (fT cs g.2) / pr (fT cs g.2)
def vU (cs hs:List Int)(g:Bool × List Nat):List Nat:=g.2.filter fun x=>decide (FV cs hs g x=hs.getD x 0)
theorem yQ (hd:l.Nodup)(p:Nat->Nat->Bool):(l.filter fun x=>p (l.idxOf x) x).length=((List.range l.length).filter fun k=>p k (l.getD k 0)).length:=by
 have e:l=(List.range l.length).map fun k=>l.getD k 0:=by
  apply ext_getElem
  ·simp
  ·intro i h1 a;simp[h1]
 have:=List.filter_map (f:=fun k=>l.getD k 0) (p:=fun x=>p (l.idxOf x) x) (l:=List.range l.length)
 rw[<-e] at this;rw[this,b7]
 congr 1
 apply List.filter_congr
 intro k hk;show p (l.idxOf (l.getD k 0)) (l.getD k 0)=_;rw[N7 hd (ka.mp hk)]
theorem JZ {cs hs:List Int}(hp:∀ c∈cs,1<=c)(hn:HN cs hs cs.length)(h:O8 cs ws g):jx cs g<=((vU cs hs g).length:Int):=by
 unfold jx vU
 cases hb:g.1 with
 | true=>
  simp only[if_true];obtain⟨f,hc,_⟩:=h.ring hb;obtain⟨k,hk,e⟩:=yN f (h:=fun k=>hs.getD (g.2.getD k 0) 0) fun k hk=>by
   have b:=hn.2 _ (h.lt _ (iy hk));rw[hc _ (iy hk)] at b
   omega
  have hm:g.2.getD k 0∈g.2.filter fun x=>decide (FV cs hs g x=hs.getD x 0):=by
   rw[qs];refine⟨iy hk,ea ?_⟩;unfold FV;rw[hb,if_pos rfl,N7 h.nd hk];exact e
  have:=length_pos_of_mem hm
  omega
 | false=>
  simp only[Bool.false_eq_true,if_false];have a:∀ c∈fT cs g.2,1<=c:=fun c hc=>by
   obtain⟨x,hx,e⟩:=kc.mp hc;rw[<-e];exact hp _ (getD_mem (h.lt x hx))
  have i:JH (fT cs g.2) (fT hs g.2):=by
   refine⟨a,by rw[gX,gX],fun k hk=>?_,fun k hk=>?_⟩
   ·rw[gX] at hk;rw[kP hk];exact(hn.2 _ (h.lt _ (iy hk))).1
   ·rw[gX] at hk;rw[kP hk,kP hk];exact(hn.2 _ (h.lt _ (iy hk))).2
  have m:=(yz i).1;have j:=f6 a;have e:(g.2.filter fun x=>decide (FV cs hs g x=hs.getD x 0)).length=(dq (fT cs g.2) (fT hs g.2) (fT cs g.2).length).length:=by
   have:=yQ h.nd fun k x=>decide (cg (fT cs g.2) (fT hs g.2) k=hs.getD x 0)
   unfold dq;rw[gX];have d:(g.2.filter fun x=>decide (FV cs hs g x=hs.getD x 0))=g.2.filter fun x=>decide (cg (fT cs g.2) (fT hs g.2) (g.2.idxOf x)=hs.getD x 0):=by
    apply List.filter_congr
    intro x _;unfold FV;rw[hb]
    rfl
   rw[d,this]
   congr 1
   apply List.filter_congr
   intro k hk;rw[kP (ka.mp hk)]
  rw[e]
  have:pr (fT cs g.2)*(cj (pr (fT cs g.2)) (fT cs g.2) / pr (fT cs g.2))<=pr (fT cs g.2)*((dq (fT cs g.2) (fT hs g.2) (fT cs g.2).length).length:Int):=by
   have l:=mul_ediv_add_emod (cj (pr (fT cs g.2)) (fT cs g.2)) (pr (fT cs g.2));rw[Int.mul_comm (pr (fT cs g.2)) ((dq (fT cs g.2) (fT hs g.2) (fT cs g.2).length).length:Int)];omega
  exact Int.le_of_mul_le_mul_left this (by omega)
theorem rQ {cs:List Int}{ws:List Nat}:∀ {L:List (Bool × List Nat)},(L.Pairwise fun g h=>∀ x∈g.2,x∉h.2)->∀ {g:Bool × List Nat} {x:Nat},g∈L->x∈g.2->L.find? (fun g=>decide (x∈g.2))=some g
 | [],_,_,_,h,_=>nomatch h
 | a::L,b,g,x,c,hx=>by
  rw[F2] at b
  rcases h9.mp c with z | z
  ·subst z;rw[find?_cons,ea hx]
  ·have:x∉a.2:=fun w=>b.1 g z x w hx
   rw[find?_cons,ek this];exact rQ (cs:=cs) (ws:=ws) b.2 z hx
theorem vV {cs hs:List Int}(hp:∀ c∈cs,1<=c)(hn:HN cs hs cs.length)(h:yO cs ws L):(L.map (jx cs)).sum<=((rat (fun i h=>qh cs L h i) cs.length hs:Nat):Int):=by
 have h1:∀ M:List (Bool × List Nat),(∀ g∈M,g∈L)->(M.map (jx cs)).sum<=((M.flatMap (vU cs hs)).length:Int):=by
  intro M f
  induction M with
  | nil=>simp
  | cons a r m=>
   rw[pS,Tz,List.flatMap_cons,fz,natCast_add]
   have:=JZ hp hn (h.each a (f a (fO ..)))
   have:=m fun g b=>f g (fA _ b)
   omega
 have q:=h1 L fun g b=>b;have p:(L.flatMap (vU cs hs)).length<=rat (fun i h=>qh cs L h i) cs.length hs:=by
  unfold rat;refine jw ?_ fun x hx=>?_
  ·have j:∀ M:List (Bool × List Nat),(∀ g∈M,g∈L)->(M.Pairwise fun g h=>∀ x∈g.2,x∉h.2)->(M.flatMap (vU cs hs)).Nodup:=by
    intro M f l
    induction M with
    | nil=>exact nodup_nil
    | cons a r m=>
     rw[F2] at l;rw[List.flatMap_cons,Ue];refine⟨(h.each a (f a (fO ..))).nd.sublist filter_sublist,m (fun g b=>f g (fA _ b)) l.2,fun x hx y hy e=>?_⟩;subst e;obtain⟨g,b,d⟩:=List.mem_flatMap.mp hy;exact l.1 g b x (qs.mp hx).1 (qs.mp d).1
   exact j L (fun g b=>b) h.qC
  ·obtain⟨g,b,d⟩:=List.mem_flatMap.mp hx;obtain⟨n,o⟩:=qs.mp d;rw[qs,ka];refine⟨(h.each g b).lt x n,?_⟩;rw[k0];show qh cs L hs x=_;unfold qh;rw[rQ (cs:=cs) (ws:=ws) h.qC b n];exact tx o
 omega
theorem mN:∀ {vs:List Value} {ns:List Int},IntsAre vs ns->∀ i,i<ns.length->∃ u,vs[i]?=some (.int (ns.getD i 0) u)
 | _,_,.nil,i,h=>absurd h (SZ i)
 | _,_,.cons n t _,0,_=>⟨t,rfl⟩
 | _,_,.cons n t r,i+1,h=>by
  obtain⟨u,e⟩:=mN r i (by simpa using h)
  exact⟨u,by simpa using e⟩
theorem lO {vs:List Value}{ns:List Int}{k:Int}{t:Tok}{Q:Value->Shared->Prop}(hp:s.heap.IsTuple p vs.toArray)(hi:IntsAre vs ns)(hk:k∈ns)(q:∀ tk,Q (.int (ns.idxOf k:Nat) tk) {s with toks:=s.toks+1}) :
  wpAny (model prog w) A (call (.builtin "tuple.index") [.ref p,.int k t]) Q E s:=by
 obtain⟨o,l,B,n,r⟩:=id hp;refine Ts slot_tuple_index hp.typeIs F.entry_tuple_index ?_ (F.args_tuple_index_2 _ _);unfold Builtin.«tuple.index»;refine dy (wpAny_of_eq (a:=(Value.ref p,[Value.int k t])) rfl ?_)
 dsimp only
 have h:=hi.length;have b:ns.idxOf k<ns.length:=GE.mpr hk;have dS:=mN hi;unfold Builtin.Tuple.tupleItemsOf;refine dy (dy (T7 l r (gc (dy (gc (dy (gc (dy ?_))))))));rw[Std.Legacy.Range.forIn_eq_forIn_range'];have c:∀ (m i:Nat) (R:Option Fin × Unit->Shared->Prop),i+m=vs.length->i<=ns.idxOf k->R (some (.done (.ret (.int (ns.idxOf k:Nat) s.toks))),()) {s with toks:=s.toks+1}->
   wpAny (model prog w) A.in1 (forIn (List.range' i m) ((none,()):Option Fin × Unit) fun (i:Nat) __s=>
    match vs.toArray[i]? with
    | some y=>do
     let __do_lift<-eqBool y (Value.int k t)
     if __do_lift=true then do
       let __do_lift<-retInt ((i:Nat):Int)
       pure (ForInStep.done (some __do_lift,()))
      else pure (ForInStep.yield (none,()))
    | x=>pure (ForInStep.yield (none,()))) R E s:=by
  intro m
  induction m with
  | zero=>intro i R h1 z _;omega
  | succ m v=>
   intro i R h1 z j;obtain⟨u,hu⟩:=dS i (by omega)
   rw[List.range'_succ,forIn_cons];have d:vs.toArray[i]?=some (.int (ns.getD i 0) u):=by simpa using hu
   simp only[d];refine dy (dy (wpAny_eqBool_int ?_))
   by_cases e:i=ns.idxOf k
   ·have f:(ns.getD i 0 == k)=true:=by
     rw[e,b5,cc b];show (ns[ns.idxOf k] == k)=true;rw[Ul b,Up]
    rw[f,if_pos rfl];unfold retInt;refine dy (dy (wpAny_mkInt (gc (gc (gc ?_)))));rw[e];exact j
   ·have f:(ns.getD i 0 == k)=false:=by
     rw[b5,cc (by omega)]
     exact ne_of_lt_idxOf (show i<ns.idxOf k by omega) (by omega)
    rw[f,if_neg (by decide)]
    exact gc (v (i+1) R (by omega) (by omega) j)
 have g:(([: min vs.toArray.size vs.toArray.size]:Std.Legacy.Range)).size=vs.length:=by simp[Std.Legacy.Range.size]
 rw[g];exact c vs.length 0 _ (by omega) (zero_le _) (gc ⟨_,rfl,q _⟩)
def J0 (K:Frag):V->List V->Hp->VK->Prop:=fun x a H Q=>∃ (l:Addr) (ns:List Int) (k:Int),x=.ref l/\a=[.int k]/\aE K H l (ns.map V.int)/\k∈ns/\Q (.int (ns.idxOf k:Nat)) H
theorem yR (hK:X.K=K):xM X "tuple.index" (J0 K):=by
 subst hK;intro a s σ H x j v m Q I e f h;obtain⟨l,i,k,rfl,rfl,g,hk,q⟩:=h
 cases e
 obtain⟨u,rfl,c⟩:=f.one;obtain⟨t,rfl⟩:=c;obtain⟨b,r,d,hz⟩:=I.tuple g;exact lO (show s.heap.IsTuple l b.toArray from d) (intsAre_of r) hk (Q:=EP X a σ Q) fun n=>⟨.int _,H,I.tok _,⟨_,rfl⟩,q⟩
def QX (K:Frag)(H0:Hp)(c g h:Addr)(L:List (Bool × List Nat))(i:Nat)(k:Nat)(σ:St)(H:Hp):Prop:=ah H0 H/\(∀ t,t<k->∀ x,L[t]?=some x->i∉x.2)/\∃ y1 y2 y3:Option V,σ=[some (.ref c),some (.ref g),some (.ref h),some (.int (i:Int)),y1,y2,y3]
theorem yS (h:∀ t,t<L.length->∀ x,L[t]?=some x->i∉x.2):L.find? (fun g=>decide (i∈g.2))=none:=by
 rw[List.find?_eq_none];intro g b;obtain⟨t,a,e⟩:=C2 b;rw[k0];exact h t a g (by rw[cc a,e])
theorem yT {k:Nat}(h:∀ t,t<k->∀ x,L[t]?=some x->i∉x.2)(hk:L[k]?=some g)(hi:i∈g.2):L.find? (fun g=>decide (i∈g.2))=some g:=by
 induction L generalizing k with
 | nil=>simp at hk
 | cons a r b=>
  cases k with
  | zero=>
   simp at hk
   subst hk;rw[find?_cons,ea hi]
  | succ k=>
   have c:=h 0 (Nat.succ_pos k) a rfl;rw[find?_cons,ek c];exact b (k:=k) (fun t d x hx=>h (t+1) (by omega) x (by simpa using hx)) (by simpa using hk)
theorem J1 {cs hs:List Int}(hcs:ck cs)(hn:HN cs hs cs.length)(hl:∀ x∈l,x<cs.length):Qt (pk cs l) (pk hs l):=by
 refine⟨by rw[tP,tP],fun j hj=>?_⟩
 rw[tP] at hj;rw[N6 hj];have hx:=hl _ (dH hj);have a:=hn.2 _ hx;exact(hcs.get hx).bt.of_le a.1 (by omega)
def vW (K:Frag)(H:Hp)(p:Addr):Prop:=(∃ o,K.lookup p=some o/\o.cls=.type "tuple"/\o.dict=none)∨∃ o u,H p=some (.iW o u)/\o.cls=.type "tuple"/\o.dict=none
theorem vW.mono (s:ah H H'):vW K H p->vW K H' p
 | .inl h=>.inl h
 | .inr ⟨o,u,h,c⟩=>.inr ⟨o,u,s _ _ h,c⟩
theorem vW.cK {acc:Addr}{ys:List V}(ha:H acc=some (.lst ys)):vW K H p->vW K (upd H acc o) p
 | .inl h=>.inl h
 | .inr ⟨ob,u,h,c⟩=>.inr ⟨ob,u,by rw[aH (ik h ha fun z=>nomatch z)];exact h,c⟩
theorem N8 {pins:List (Addr × Obj)}{σ:St}(I:Inv X pins σ H s)(ty:vW X.K H p):s.TypeIs (.ref p) "tuple"/\∀ a,Value.ref p=.ref a->∃ ob,s.heap.get? a=some ob/\ob.dict=none:=by
 rcases ty with ⟨o,hk,hc,b⟩ | ⟨o,u,hk,hc,b⟩
 ·refine⟨⟨o,I.ku p o hk,hc⟩,fun a e=>?_⟩
  cases e
  exact⟨o,I.ku _ o hk,b⟩
 ·obtain⟨c,_⟩:=I.bh p _ hk;refine⟨⟨o,c,hc⟩,fun a e=>?_⟩
  cases e
  exact⟨o,c,b⟩
def N9 (K:Frag)(r:V->List V->Hp->VK->Prop)(to:TE)(t:TA):TE:=fun σ H Q=>to σ H fun x H1=>(∃ p,x=.ref p/\vW K H1 p)/\t σ H1 fun b a=>r x b a Q
variable {r:V->List V->Hp->VK->Prop}
theorem LU {to:TE}{σ:St} :N9 K r to t σ H Q=to σ H fun x H1=>(∃ p,x=.ref p/\vW K H1 p)/\t σ H1 fun xs H2=>r x xs H2 Q:=rfl
variable {o:Expr}{es:List Expr}{to:TE}{name:Str}{apos c9:Pos}{id:String}
theorem Oa (pa:PlainAttrs "tuple")(slot:Slot "tuple" name id)(hty:typeOf (.builtin id)=pure (.type "method_descriptor"))(hm:xM X id r)(ho:PE X o to)(ha:PA X (e::es) t)
  (eZ:attributeBase o name X.env (eval o X.env)=eval o X.env:=by rfl)
  (hfew:((backTo c9 (starEach (e::es) X.env)).all (fun x=>!x.1)&&(backToKw c9 (keywordEach [] X.env)).all (fun x=>x.1.isSome)
   &&decide ((e::es).length+([]:List Keyword).length+(if ([]:List Keyword).isEmpty then 0 else 1)<30))=true:=by rfl)
  (e9:(apos.endLine == c9.line)=true:=by rfl) (hs:starEach (e::es) X.env=(false,eval e X.env)::starEach es X.env:=by rfl) (hplain:(backTo c9 (starEach es X.env)).any (·.1)=false:=by rfl) :
  PE X (.Call (.Attribute o name apos) (e::es) [] c9) (N9 X.K r to t):=by
 intro a s σ H Q I h;refine wpAny_Call_method_late eZ hfew e9 rfl (bW (ho a s σ H _ I h) fun v j ⟨x,H1,b,u,⟨p,y,ty⟩,g⟩=>?_);subst y
 cases u
 obtain⟨h1,n⟩:=N8 b ty;refine⟨"tuple",id,pa,slot,hty,h1,n,?_⟩;have c:=ha c9 a j σ H1 _ b g;rw[hs] at c ⊢;refine Calls.callWith_builtin (by show (false||(backTo c9 (starEach es X.env)).any (·.1))=false;rw[hplain]<;>rfl) (Calls.evalArgs_plain ?_)
 exact bW c fun l q ⟨d,m,w,f,i⟩=>hm a q σ m (.ref p) d (.ref p) l Q w rfl f i
theorem S7 (pa:PlainAttrs "tuple")(slot:Slot "tuple" name id)(hty:typeOf (.builtin id)=pure (.type "method_descriptor"))(hm:xM X id r)(h:X.K=K)(ho:QE X o to)(ha:QB X (e::es) t)
  (eZ:attributeBase o name X.env (eval o X.env)=eval o X.env:=by rfl) (hlen:decide ((e::es).length<30)=true:=by rfl)
  (e9:(apos.endLine == c9.line)=true:=by rfl):QE X (.Call (.Attribute o name apos) (e::es) [] c9) (N9 K r to t):=by
 subst h;exact⟨Oa pa slot hty hm ho.h ha.h.pa eZ (by rw[lH ha.h.ns];exact hlen) e9 (bf ha.h.he) (dk ha.h.ES)⟩
def QY (K:Frag):List V->Hp->VK->Prop:=fun a H Q=>∃ p ys,a=[.ref p]/\aw K H p ys/\∀ l o,H l=none->o.cls=.type "tuple"->o.dict=none->Q (.ref l) (upd H l (.iW o (.tup ys)))
theorem gY (hK:X.K=K):bS X (.type "tuple") (QY K):=by
 subst hK;intro a s σ H x v Q I r h;obtain⟨p,g,rfl,hq,q⟩:=h;obtain⟨u,rfl,n⟩:=vals1 r
 cases n
 obtain⟨c,i,m,hz⟩:=I.list hq;have j:=i.length;refine call_tuple_list m.isList (fun d l=>?_) (by simp only[List.size_toArray]<;>omega)
 have f:Inv X a σ H {s with heap:=d}:=I.kept (t':=s.toks) l;have t:Inv X a σ (upd H d.objs.size (.iW {cls:=.type "tuple",data:=.seq c.toArray} (.tup g))) {s with heap:=d.push {cls:=.type "tuple",data:=.seq c.toArray}}:=
  f.laid (t':=s.toks) (fun b o e=>ey _ e) (ed _) (show bA X.prog X.w _ _ _ (.iW _ (.tup g)) from ⟨ih _ rfl,hz,c,i,IsTup.new _ _⟩)
 exact⟨.ref d.objs.size,_,t,rfl,q _ _ (f.bh.fresh (ed _)) rfl rfl⟩
theorem aE.iW {K:Frag}{H:Hp}{a:Addr}{o:Obj}{xs:List V}(h:H a=some (.iW o (.tup xs))):aE K H a xs:=.inl (.inr ⟨o,h⟩)
def GF (K:Frag)(H:Hp):List V->List (Bool × List Nat)->Prop
 | [],[]=>True
 | v::a,g::L=>(∃ r p,v=.ref r/\aE K H r [.str (kd g.1),.ref p]/\aE K H p ((aA g.2).map V.int)/\vW K H p)/\GF K H a L
 | _,_=>False
theorem GF.gl:∀ {vs:List V} {L:List (Bool × List Nat)},GF K H vs L->GL K H vs L
 | [],[],h=>h
 | _::_,_::_,⟨⟨r,p,e,h,a,_⟩,t⟩=>⟨⟨r,p,e,h,a⟩,GF.gl t⟩
 | [],_::_,h=>h.elim
 | _::_,[],h=>h.elim
theorem GF.mono (s:ah H H'):∀ {vs:List V} {L:List (Bool × List Nat)},GF K H vs L->GF K H' vs L
 | [],[],h=>h
 | _::_,_::_,⟨⟨r,p,e,h,a,b⟩,t⟩=>⟨⟨r,p,e,s.aL h,s.aL a,b.mono s⟩,GF.mono s t⟩
 | [],_::_,h=>h.elim
 | _::_,[],h=>h.elim
theorem GF.cK {acc:Addr}{ys:List V}{o:HO}(ha:H acc=some (.lst ys)):∀ {vs:List V} {L:List (Bool × List Nat)},GF K H vs L->GF K (upd H acc o) vs L
 | [],[],h=>h
 | _::_,_::_,⟨⟨r,p,e,h,a,b⟩,t⟩=>⟨⟨r,p,e,h.cK ha,a.cK ha,b.cK ha⟩,GF.cK ha t⟩
 | [],_::_,h=>h.elim
 | _::_,[],h=>h.elim
theorem GF.append:∀ {vs ws:List V} {L M:List (Bool × List Nat)},GF K H vs L->GF K H ws M->GF K H (vs++ws) (L++M)
 | [],_,[],_,_,h=>h
 | _::_,_,_::_,_,⟨a,t⟩,h=>⟨a,GF.append t h⟩
 | [],_,_::_,_,h,_=>h.elim
 | _::_,_,[],_,h,_=>h.elim
theorem GF.length {vs:List V}{L:List (Bool × List Nat)}(h:GF K H vs L):vs.length=L.length:=h.gl.length
theorem GF.get:∀ {vs:List V} {L:List (Bool × List Nat)} {i:Nat} {v:V},GF K H vs L->vs[i]?=some v->∃ g r p,L[i]?=some g/\v=.ref r/\aE K H r [.str (kd g.1),.ref p]/\aE K H p ((aA g.2).map V.int)/\vW K H p
 | [],[],i,v,_,e=>by simp at e
 | _::_,g::_,0,v,⟨⟨r,p,e,h,c⟩,_⟩,e2=>by simp at e2;subst e2;exact⟨g,r,p,rfl,e,h,c⟩
 | _::_,_::_,i+1,v,⟨_,t⟩,e2=>by
  obtain⟨g,r,p,a,b⟩:=GF.get (i:=i) (v:=v) t (by simpa using e2)
  exact⟨g,r,p,by simpa using a,b⟩
 | [],_::_,_,_,h,_=>h.elim
 | _::_,[],_,_,h,_=>h.elim
theorem Ob {i0 j0:Nat}{tb:TS}{D:Ends}{σ:St}(I:Nat->St->Hp->Prop)(h:aE K H a us)(hL:GF K H us L)(h0:I 0 σ H)(hl:∀ i σ H,I i σ H->aE K H a us/\GF K H us L)
  (step:∀ (i:Nat) g p σ H,L[i]?=some g->aE K H p ((aA g.2).map V.int)->vW K H p->I i σ H->tb {D with nx:=I (i+1),ct:=I (i+1),bk:=D.nx} ((σ.set i0 (some (.str (kd g.1)))).set j0 (some (.ref p))) H)
  (fin:∀ σ H,I L.length σ H->D.nx σ H):∃ b,V.ref a=.ref b/\(∃ xs,aE K H b xs)/\qc (nj K 2 (dc (bB i0) (dc (bB j0) ni))) tb D σ (BS K b) H:=by
 refine⟨a,rfl,⟨_,h⟩,As (xs:=us) I h0 (fun i σ H _ p=>(hl i σ H p).1) (fun i x σ H e p=>?_) fun σ H p=>fin σ H (by rw[hL.length] at p;exact p)⟩
 obtain⟨g,r,f,c,rfl,j,d,l⟩:=(hl i σ H p).2.get e;exact⟨r,_,rfl,j,rfl,_,_,rfl,_,_,rfl,rfl,step i g f σ H c d l p⟩
def QZ (K:Frag):Sp:=fun a H Q _=>∃ (c g h:Addr) (cs hs:List Int) (ws:List Nat) (us:List V) (L:List (Bool × List Nat)) (i:Nat),a=[.ref c,.ref g,.ref h,.int i]/\aE K H c (cs.map V.int)/\aE K H g us/\GF K H us L/\aE K H h (hs.map V.int)/\ck cs/\HN cs hs cs.length/\yO cs ws L/\i<cs.length/\∀ (H':Hp),ah H H'->Q (.int (qh cs L hs i)) H'
theorem LV:QE X (.Dict [] [] pos) yl:=⟨EC⟩
variable {i:Expr}{td ty:TE}
theorem Q0 (hu:X.A.units+1<cLine)(hi:QE X i ty)(ho:QE X o td)(hm:behindInMarks .In o=false):QE X (.Compare i [.In] [o] pos) (Jp ty td):=⟨ML (EA hu hi.h ho.h) hm⟩
variable {value:Expr}{pos':Pos}{tv:TE}
theorem LW (hu:X.A.units+1<cLine)(hv:QE X value tv)(ho:QE X o td)(hi:QE X i ty)(hs:swapsWith value (some (.Subscript o i pos')) pos.line X.env=pure false:=by rfl):QS X (.Assign [.Subscript o i pos'] value pos) (Ez td ty tv):=⟨Jr hu ho.h hi.h hv.h hs⟩
variable {σ:St}
theorem FW:yl σ H Q=∀ p,H p=none->Q (.ref p) (upd H p (.dK [])):=rfl
theorem LX:Jp ty td σ H Q=ty σ H fun y H1=>td σ H1 fun x H2=>∃ a o,x=.ref a/\jS H2 a y o/\Q (.bl o.isSome) H2:=rfl
variable {D:Ends}
theorem FX:Ez td ty tv D σ H=tv σ H fun v H1=>td σ H1 fun x H2=>ty σ H2 fun y H3=>∃ a H4,x=.ref a/\sV H3 a y v H4/\D.nx σ H4:=rfl
theorem u1 (hu:X.A.units+64<cLine):X.A.units+1<cLine:=by omega
def FY (H:Hp)(d:Addr)(ns:List Int):Prop:=∃ kvs:List (Key × V),H d=some (.dK kvs)/\kvs.length<=ns.length/\∀ k:Int,(cY kvs (Sum.inl k)).isSome=decide (k∈ns)
variable {d:Addr}
theorem FY.nil (h:H d=some (.dK [])):FY H d []:=⟨[],h,ed _,fun k=>by rw[Eu];rfl⟩
theorem FY.same {ns:List Int}(s:ah H H'):FY H d ns->FY H' d ns
 | ⟨a,h,l,v⟩=>⟨a,s _ _ h,l,v⟩
theorem Oc {ns:List Int}{k:Int}(h:FY H d ns)(q:Q (.bl (decide (k∈ns))) H):∃ a o,V.ref d=.ref a/\jS H a (.int k) o/\Q (.bl o.isSome) H:=by
 obtain⟨b,e,_,v⟩:=h;exact⟨d,_,rfl,jS.k (k:=Sum.inl k) e,by rw[v];exact q⟩
theorem FZ (kvs:List (Key × V))(k:Key)(y:V):(putK kvs k y).length<=kvs.length+1:=by
 unfold putK
 split
 ·rw[b7];omega
 ·rw[fz];exact ed _
theorem J4 {ns:List Int}{k:Int}{y:V}{Q:Hp->Prop}(h:FY H d ns)(hl:ns.length<sizeLine)(q:∀ o,FY (upd H d o) d (ns++[k])->Q (upd H d o)):∃ a H4,V.ref d=.ref a/\sV H a (.int k) y H4/\Q H4:=by
 obtain⟨b,e,l,v⟩:=h;refine⟨d,_,rfl,sV.k (k:=Sum.inl k) e (I1 l hl),q _ ⟨_,ag,?_,fun j=>?_⟩⟩
 ·rw[fz];exact j5 (FZ _ _ _) (Nat.succ_le_succ l)
 ·rw[Ew]
  by_cases c:j=k
  ·subst c;rw[if_pos rfl]
   simp
  ·rw[if_neg (fun z=>c (Sum.inl.inj z)),v]
   congr 1
   simp[c]
theorem Q1 {i:Nat}{tb:TS}{σ:St}(I:Nat->St->Hp->Prop)(h:aE K H a us)(h0:I 0 σ H)(hl:∀ i σ H,I i σ H->aE K H a us)
  (step:∀ k v σ H H2,us[k]?=some v->I k σ H->ah H H2->tb {D with nx:=I (k+1),ct:=I (k+1),bk:=D.nx} ((σ.set i (some (.int k))).set j (some v)) H2)
  (fin:∀ σ H,I us.length σ H->D.nx σ H):∃ b,[V.ref a]=[.ref b]/\(∃ xs,aE K H b xs)/\qc (nj K 2 (dc (bB i) (dc (bB j) ni))) tb D σ (O7 K b) H:=by
 refine⟨a,rfl,⟨_,h⟩,fun k m σ H=>m=us.length - k/\k<=us.length/\I k σ H,⟨us.length,by simp,zero_le _,h0⟩,?_⟩
 rintro k m σ H ⟨rfl,hk,p⟩;have q:=hl k σ H p
 by_cases c:k<us.length
 ·obtain⟨v,hx⟩:∃ v,us[k]?=some v:=⟨_,cc c⟩;refine .inr ⟨⟨_,_,q,hx⟩,I (k+1),fun l g f=>⟨us.length - (k+1),by omega,rfl,c,f⟩,fun x g y=>?_⟩
  obtain⟨t,n,hn,rfl,rfl,d⟩:=y
  have:=d _ q
  rw[hx] at this;cases this
  refine⟨t,[.int k,v],rfl,aE.of ag,rfl,?_⟩;exact⟨_,_,rfl,_,_,rfl,rfl,step k v σ H _ hx p (ah.new hn _)⟩
 ·have e:k=us.length:=by omega
  subst e;exact .inl ⟨⟨_,q,ed _⟩,fin σ H p⟩
def oM (l:List Nat):Bool:=(List.range (l.length - 1)).all fun k=>decide (l.getD k 0<l.getD (k+1) 0)
theorem vX (h:oM l=true):l.Nodup:=by
 have b:∀ k,k+1<l.length->l.getD k 0<l.getD (k+1) 0:=fun k hk=>by
  have:=kf.mp h k (ka.mpr (by omega))
  simpa using this
 have lt:∀ d i,i+d+1<l.length->l.getD i 0<l.getD (i+d+1) 0:=by
  intro d
  induction d with
  | zero=>intro i hi;exact b i hi
  | succ d c=>intro i hi;exact TV (c i (by omega)) (b (i+d+1) (by omega))
 rw[Tw,List.pairwise_iff_getElem];intro i j hi hj f e
 have:=lt (j - i - 1) i (by omega)
 rw[show i+(j - i - 1)+1=j by omega,b5,b5,cc hi,cc hj] at this
 exact M2 _ (by have a:l[i]<l[j]:=this;rw[e] at a;exact a)
def nats (ns:List Int):List Nat:=ns.map toNat
def Iu (n:Nat)(ns:List Int):Bool:=ns.all fun i=>decide (0<=i)&&decide (i<(n:Int))
theorem J5 {n:Nat}{ns:List Int}(h:Iu n ns=true):ns=aA (nats ns)/\∀ x∈nats ns,x<n:=by
 have hb:∀ i∈ns,0<=i/\i<(n:Int):=fun i hi=>by
  have:=kf.mp h i hi
  simpa using this
 refine⟨?_,fun x hx=>?_⟩
 ·unfold aA nats;rw[ls]
  apply ext_getElem
  ·simp
  ·intro i h1 a
   have:=hb _ (p0 h1)
   simp
   omega
 ·obtain⟨i,hi,rfl⟩:=kc.mp hx
  have:=hb i hi
  omega
def CC (cs:List Int)(ws:List Nat)(b:Bool)(l:List Nat):Bool:=if b then gJ ws l&&l.all (fun x=>decide (cs.getD x 0=2)) else oM l&&cp ws l
def DU (cs:List Int)(ws:List Nat)(g:Bool × List Int):Bool:=decide (1<=g.2.length)&&(Iu cs.length g.2&&CC cs ws g.1 (nats g.2))
def CD (cs:List Int)(ws:List Nat):List Int->Nat->List (Bool × List Int)->Option Nat
 | _,_,[]=>none
 | gone,k,g::r=>if (DU cs ws g&&!(g.2.any fun i=>decide (i∈gone)))=true then CD cs ws (gone++g.2) (k+1) r else some k
def oV:Option Nat->V
 | none=>.bx
 | some k=>.int (k:Int)
def GI (K:Frag)(H:Hp):List V->List (Bool × List Int)->Prop
 | [],[]=>True
 | v::a,g::L=>(∃ r p,v=.ref r/\aE K H r [.str (kd g.1),.ref p]/\aE K H p (g.2.map V.int))/\GI K H a L
 | _,_=>False
theorem GI.length:∀ {vs:List V} {L:List (Bool × List Int)},GI K H vs L->vs.length=L.length
 | [],[],_=>rfl
 | _::_,_::_,⟨_,t⟩=>by rw[ot,ot,GI.length t]
 | [],_::_,h=>h.elim
 | _::_,[],h=>h.elim
theorem GI.get:∀ {vs:List V} {L:List (Bool × List Int)} {i:Nat} {v:V},GI K H vs L->vs[i]?=some v->∃ g r p,L[i]?=some g/\v=.ref r/\aE K H r [.str (kd g.1),.ref p]/\aE K H p (g.2.map V.int)
 | [],[],i,v,_,e=>by simp at e
 | _::_,g::_,0,v,⟨⟨r,p,e,h,c⟩,_⟩,e2=>by simp at e2;subst e2;exact⟨g,r,p,rfl,e,h,c⟩
 | _::_,_::_,i+1,v,⟨_,t⟩,e2=>by
  obtain⟨g,r,p,a,b⟩:=GI.get (i:=i) (v:=v) t (by simpa using e2)
  exact⟨g,r,p,by simpa using a,b⟩
 | [],_::_,_,_,h,_=>h.elim
 | _::_,[],_,_,h,_=>h.elim
def Bd (K:Frag):Sp:=fun a H Q _=>∃ (p:Addr) (l:List Nat),a=[.ref p]/\aE K H p ((aA l).map V.int)/\1<=l.length/\l.length<=90/\∀ H',ah H H'->Q (.bl (oM l)) H'
def LY (K:Frag):Sp:=fun a H Q _=>∃ (c w p:Addr) (cs:List Int) (ws:List Nat) (g:Bool × List Int),a=[.ref c,.ref w,.str (kd g.1),.ref p]/\aE K H c (cs.map V.int)/\aE K H w ((aA ws).map V.int)/\aE K H p (g.2.map V.int)/\ws.length=cs.length/\cs.length<=8/\g.2.length<=90/\∀ H',ah H H'->Q (.bl (DU cs ws g)) H'
def oO (K:Frag):Sp:=fun a H Q _=>∃ (c w g:Addr) (cs:List Int) (ws:List Nat) (us:List V) (L:List (Bool × List Int)),a=[.ref c,.ref w,.ref g]/\aE K H c (cs.map V.int)/\aE K H w ((aA ws).map V.int)/\aE K H g us/\GI K H us L/\ws.length=cs.length/\cs.length<=8/\(∀ g∈L,g.2.length<=30)/\L.length<=30/\∀ H',ah H H'->Q (oV (CD cs ws [] 0 L)) H'
theorem F0 (l:List Nat):nats (aA l)=l:=by
 unfold nats aA;rw[ls]
 conv=>rhs;rw[<-List.map_id l]
 apply List.map_congr_left
 intro x _;exact u5 x
theorem mO (L:List Nat):(List.range L.length).map (fun k=>L.getD k 0)=L:=by
 apply KM
 intro k
 by_cases hk:k<L.length
 ·rw[eG,xH hk,cc hk];show some (L.getD k 0)=_;rw[b5,cc hk];rfl
 ·rw[mo (by rw[b7,j9];omega),mo (by omega)]
theorem Be {σ:St}{R:It->Hp->Prop}:Ar t σ H R=t σ H fun vs H1=>∃ i j:Int,vs=[.int i,.int j]/\(-(2 ^ 62)<=i/\i<2 ^ 62/\-(2 ^ 62)<=j/\j<2 ^ 62)/\R (xS i (j - i).toNat) H1:=rfl
theorem LZ {i j:Int}{lo n:Nat}{g:TG}{tb:TS}{σ:St}(I:Nat->St->Hp->Prop)(ei:i=(lo:Int))(ej:j=((lo+n:Nat):Int))(hn:lo+n<=1000000)(h0:I 0 σ H)
  (step:∀ k σ H,k<n->I k σ H->g (.int ((lo+k:Nat):Int)) σ H fun σ2 H2=>tb {D with nx:=I (k+1),ct:=I (k+1),bk:=D.nx} σ2 H2)
  (fin:∀ σ H,I n σ H->D.nx σ H):∃ i' j':Int,[V.int i,V.int j]=[.int i',.int j']/\(-(2 ^ 62)<=i'/\i' < 2 ^ 62/\-(2 ^ 62)<=j'/\j' < 2 ^ 62)/\qc g tb D σ (xS i' (j' - i').toNat) H:=by
 subst ei ej;refine⟨_,_,rfl,⟨by omega,by omega,by omega,by omega⟩,?_⟩
 rw[show (((lo+n:Nat):Int) - (lo:Int)).toNat=n by omega]
 refine qX (n:=n) I h0 (fun k σ H hk p=>?_) fun σ H p=>fin σ H p;rw[show (lo:Int)+(k:Nat)=((lo+k:Nat):Int) by omega]
 exact step k σ H hk p
variable {z:Str}
theorem rR {m:Made}{pins:List (Addr × Obj)}{σ:St}(I:Inv X pins σ H s)(hm:(∃ t,m=.val (.str z t))∨m=.str z)(hz:z.length<=sizeLine)(q:Q (.str z) H):m.post (EP X pins σ Q) s:=by
 rcases hm with ⟨t,rfl⟩ | rfl
 ·exact⟨.str z,H,I,⟨_,rfl⟩,q⟩
 ·exact⟨hz,.str z,H,I.tok _,⟨_,rfl⟩,q⟩
def SI:V->Option Int->Option Int->Hp->VK->Prop:=fun x l u H Q=>∃ z,x=.str z/\(StrLaws.sliceText z l u).length<=sizeLine/\Q (.str (StrLaws.sliceText z l u)) H
theorem oP:Nm X SI:=by
 intro d s σ H x v r y b hi n Q I i m g f h;obtain⟨z,rfl,hz,q⟩:=h;obtain⟨t,rfl⟩:=i;refine⟨"str",_,slot_str_getitem.lookup,typeIs_str s z t,?_⟩;have a:∀ {w:Value} {o:Option Int},IsPart w o->∃ p:Option (Int × Tok),w=partValue p/\p.map (·.1)=o:=fun {w o} h=>by
  cases h with
  | none=>exact⟨none,rfl,rfl⟩
  | int=>exact⟨some (_,_),rfl,rfl⟩
 obtain⟨l,rfl,j⟩:=a g;obtain⟨u,rfl,hu⟩:=a f;refine wpAny_getItem_str_slice (st:=none) m rfl ?_;refine rR I ?_ hz q;have e:sliceMade z t l u none=if ((Builtin.Str.strSliceIndices b hi 1 z.length).length == z.length)=true then Made.val (Value.str z t) else Made.str ⟨((Builtin.Str.strSliceIndices b hi 1 z.length).filterMap (fun x=>z.cps[x]?)).toArray⟩:=by
  unfold sliceMade slicePicked;rw[j,hu]
  rfl
 have e2:StrLaws.sliceText z b hi=if ((Builtin.Str.strSliceIndices b hi 1 z.length).length == z.length)=true then z else ⟨((Builtin.Str.strSliceIndices b hi 1 z.length).filterMap (fun x=>z.cps[x]?)).toArray⟩:=by
  unfold StrLaws.sliceText
  rfl
 rw[e,e2]
 by_cases c:((Builtin.Str.strSliceIndices b hi 1 z.length).length == z.length)=true
 ·rw[if_pos c,if_pos c];exact .inl ⟨t,rfl⟩
 ·rw[if_neg c,if_neg c];exact .inr rfl
def Q2 (z:Str):It:=⟨fun i _=>i<z.cps.size,fun i H x a=>a=H/\∃ c,z.cps[i]?=some c/\x=.str ⟨#[c]⟩,fun i _=>z.cps.size<=i⟩
def Od (te:TE):TI:=fun σ H R=>te σ H fun x H1=>∃ z,x=.str z/\R (Q2 z) H1
theorem rS {P:Program}(hA:A.handled=none)(I:Addr)(x:Str)(t:Tok):Walks P w A I [I] [I] x.cps.size (SignAt x) fun i h=>h.IsStrIter I (strIterType x) x t i:=by
 unfold strIterType
 split
 ·exact Walks.strAscii hA I x t
 ·exact Walks.strWide hA I x t
variable {x:Str}{Q:Value->Shared->Prop}{t:Tok}
theorem Ga {P:Program}{it:Addr}{i:Nat}(st:s.heap.IsStrIter it (strIterType x) x t i)(h:Q (.ref it) s):wpAny (model P w) A (pyIter (.ref it)) Q E s:=by
 unfold strIterType at st
 split at st
 ·exact wpAny_pyIter_striter_ascii st h
 ·exact wpAny_pyIter_striter_wide st h
theorem Gb {P:Program}{tg:Expr}(z:Str)(t:Tok)(it:Addr):Turn P w K tg (Q2 z) [it] it (fun i h=>i<=z.cps.size/\h.IsStrIter it (strIterType z) z t i) where
 mem:=by simp
 obj:=fun i h f b hb=>by
  have e:b=it:=by simpa using hb
  subst e;obtain⟨_,o,e,c,d⟩:=f;exact⟨o,e,fun v z=>by rw[d] at z;cases z⟩
 keep:=fun i h l f k=>by
  obtain⟨a,o,e,c,d⟩:=f;exact⟨a,o,k it (by simp) o e,c,d⟩
 item:=by
  intro X y G x hc i g s σ H E I n f m;subst y G x;obtain⟨q,r,N,p,F,D⟩:=n it (by simp)
  refine(rS (I.ok.hd hc) it z t).item i s _ E m f.2 fun v l j M J B=>?_;obtain⟨c,u,C,rfl⟩:=M;have L:Inv X g σ H {s with heap:=l,toks:=j}:=I.turned (t':=j) (fun b o hb e=>B b o (by simpa using hb) e) q r p F D
  have go:∀ {Q:Unit->Shared->Prop},Q () {s with heap:=l,toks:=j}->wpAny (model X.prog X.w) X.A (letOwnedTupleGo tg (.ref it) (.str ⟨#[c]⟩ u)) Q E {s with heap:=l,toks:=j}:=fun hq=>by
   unfold letOwnedTupleGo
   cases tg<;>exact gc hq
  exact⟨_,rfl,go ⟨.str ⟨#[c]⟩,H,L,⟨_,rfl⟩,⟨rfl,c,C,rfl⟩,⟨m,J⟩,fun b hb=>(n b hb).1⟩⟩
 done:=by
  intro X y G x hc i g s σ H E I n f m;subst y G x;obtain⟨q,r,N,p,F,D⟩:=n it (by simp)
  have e:i=z.cps.size:=Nat.le_antisymm f.1 m;subst e;exact(rS (I.ok.hd hc) it z t).done s _ E f.2 fun l j B=>⟨rfl,I.turned (t':=j) (fun b o hb e=>B b o (by simpa using hb) e) q r p F D⟩
 self:=fun A i s Q E f h=>Ga f.2 h
variable {tg:Expr}
theorem J6 (he:PE X e te):PI X tg e (Od te):=by
 intro a s σ H R I h;refine bW (he a s σ H _ I h) fun v c ⟨x,H1,d,g,f⟩=>?_;obtain⟨z,rfl,q⟩:=f;obtain⟨t,rfl⟩:=g;refine wpAny_pyIter_strU ?_;refine⟨c.heap.objs.size,[c.heap.objs.size],_,_,H1,rfl,d.kept (t':=c.toks) fun b o e=>ey _ e,Gb z t _,⟨zero_le _,_,ih _ rfl,rfl,rfl⟩,fun b hb=>?_,q⟩;have e:b=c.heap.objs.size:=by simpa using hb
 subst e;exact d.vk (ed _) (d.bh.fresh (ed _))
theorem L0 (he:QE X e te)(hK:X.K=K):QI X tg e (Od te):=⟨J6 he.h⟩
theorem Gd {σ:St}{R:It->Hp->Prop}:Od te σ H R=te σ H fun x H1=>∃ z,x=.str z/\R (Q2 z) H1:=rfl
theorem Ge {H1:Hp}:yn (Q2 z) H1 z.cps.size fun i=>.str ⟨#[(z.cps[i]?).getD 0]⟩ where
 go:=fun i H _ hi=>hi
 stop:=fun i H _ hi=>hi
 BM:=fun i H x a _ _ y=>by
  obtain⟨rfl,c,e,rfl⟩:=y;exact⟨rfl,by rw[e];rfl⟩
def Oe:V->List V->Hp->VK->Prop:=fun x a H Q=>∃ z y,x=.str z/\a=[.str y]/\y.length≠0/\z.length+2<=sizeLine/\(Txt.split z y).length<=sizeLine/\∀ l,H l=none->Q (.ref l) (upd H l (.lst ((Txt.split z y).map V.str)))
theorem rV:∀ (k:Nat) (l:List Str),Vals (l.map V.str) (strsFrom k l)
 | _,[]=>.nil
 | k,x::r=>.cons ⟨_,rfl⟩ (rV _ r)
theorem eh:xM X "str.split" Oe:=by
 intro f s σ H x p v r Q I m n h;obtain⟨z,y,rfl,rfl,hy,hz,l,q⟩:=h;obtain⟨t,rfl⟩:=m;obtain⟨u,rfl,t',rfl⟩:=vals1 n;have d:(y.length == 0)=false:=by simpa using hy
 have one:Txt.split z y=[z]->EP X f σ Q (.ref s.heap.objs.size) {s with heap:=s.heap.push {cls:=.type "list",data:=.seq #[.str z t]}}:=fun e=>by
  rw[e] at q;exact⟨.ref _,_,I.laid (t':=s.toks) (fun b o i=>ey _ i) (ed _) (show bA X.prog X.w _ _ _ (.lst [V.str z]) from ⟨by show 1<=sizeLine;decide,[.str z t],0,.cons (show RelV (.str z) _ from ⟨t,rfl⟩) .nil,ih _ rfl⟩),rfl,q _ (I.bh.fresh (ed _))⟩
 by_cases a:(decide (z.length<y.length)||decide (Builtin.Str.strKind z<Builtin.Str.strKind y))=true
 ·refine TB T9 (typeIs_str s z t) F.entry_str_split (F.args_str_split_2 _ _) (meets_str_split_cannot_occur z y t t' a) ?_;exact one (by unfold Txt.split;rw[if_pos a])
 ·have c:(decide (z.length<y.length)||decide (Builtin.Str.strKind z<Builtin.Str.strKind y))=false:=by simpa using a
  by_cases g:(Builtin.Str.occurrences z y 0 z.length (z.length+1)).isEmpty=true
  ·refine TB T9 (typeIs_str s z t) F.entry_str_split (F.args_str_split_2 _ _) (meets_str_split_not_found z y t t' c d g) ?_;exact one (by unfold Txt.split;rw[if_neg a,if_pos g])
  ·have j:(Builtin.Str.occurrences z y 0 z.length (z.length+1)).isEmpty=false:=by simpa using g
   have e:Txt.split z y=Builtin.Str.partsBetween z (Builtin.Str.occurrences z y 0 z.length (z.length+1)) y.length:=by unfold Txt.split;rw[if_neg a,if_neg g]
   refine TB T9 (typeIs_str s z t) F.entry_str_split (F.args_str_split_2 _ _) (meets_str_split_sep z y t t' c d j (by omega) (by rw[<-e];exact l)) ?_
   rw[<-e];exact⟨.ref _,_,I.laid (fun b o i=>ey _ i) (ed _) (show bA X.prog X.w _ _ _ (.lst _) from ⟨by rw[b7];exact l,_,0,rV _ _,ih _ rfl⟩),rfl,q _ (I.bh.fresh (ed _))⟩
def rJoin (K:Frag):V->List V->Hp->VK->Prop:=fun x a H Q=>∃ y p l,x=.str y/\a=[.ref p]/\aw K H p (l.map V.str)/\(l.map fun z=>z.length+y.length).sum<=sizeLine/\(y.join l).length<=sizeLine/\Q (.str (y.join l)) H
theorem lP:∀ {l:List Str} {us:List Value},Vals (l.map V.str) us->∃ m:List (Str × Tok),us=strValues m/\m.map (·.1)=l
 | [],_,.nil=>⟨[],rfl,rfl⟩
 | x::r,_,.cons ⟨t,rfl⟩ h=>by
  obtain⟨m,rfl,e⟩:=lP h;exact⟨(x,t)::m,rfl,by rw[pS,e]⟩
theorem rW (k:Nat):∀ (l:List Str) (a:Nat),l.foldl (fun x1 x2=>x1+x2.length+k) a=a+(l.map fun z=>z.length+k).sum
 | [],a=>by simp
 | x::r,a=>by rw[foldl_cons,rW k r,pS,Tz];omega
theorem bF (hK:X.K=K):xM X "str.join" (rJoin K):=by
 subst hK;intro e s σ H x A v B Q I n w h;obtain⟨y,p,l,rfl,rfl,g,hz,hj,q⟩:=h;obtain⟨t,rfl⟩:=n;obtain⟨u,rfl,f⟩:=vals1 w
 cases f
 obtain⟨o,r,i,j⟩:=I.list g;obtain⟨m,rfl,d⟩:=lP r;refine TB KE (typeIs_str s y t) F.entry_str_join (F.args_str_join_2 _ _) (meets_str_join_list y t p m ?_) ⟨i.isList,?_⟩
 ·rw[d,<-Array.foldl_toList,rW,Nat.zero_add,show l.toArray.toList=l from rfl]
  unfold Builtin.Str.tooLong;exact ek (by omega)
 ·refine rR I (z:=y.join l) ?_ hj q;unfold joinMade
  match m,d with
  | [],d=>exact .inr (by
    show Made.str (Builtin.Str.glued y [])=_;rw[StrLaws.glued_eq_join,<-d];rfl)
  | [a],d=>exact .inl ⟨a.2,by rw[<-d];rfl⟩
  | a::b::c,d=>exact .inr (by
    show Made.str (Builtin.Str.glued y ((a::b::c).map (·.1)))=_;rw[StrLaws.glued_eq_join,<-d])
def Q3:List V->Hp->VK->Prop:=fun a H Q=>∃ x n,a=[.str x]/\intText? x=some n/\x.length<=640/\Q (.int n) H
theorem kQ:bS X (.type "int") Q3:=by
 intro a s σ H c b Q I r h;obtain⟨x,n,rfl,hx,hz,q⟩:=h;obtain⟨u,rfl,t,rfl⟩:=vals1 r;exact PySem.W.KIN.call_text hx hz ⟨.int n,H,I.tok _,⟨_,rfl⟩,q⟩
def qi (val:Nat->Str):Nat->Nat->(Str->Bool)->Nat->(Str->Bool) × Nat
 | 0,_,F,m=>(F,m)
 | k+1,i,F,m=>qi val k (i+1) (fun x=>F x||decide (x=val i)) (if F (val i)=true then m else m+1)
variable {R:Result->Shared->Prop}{I:Addr}{fp wr:List Addr}{G:Array GenState->Array GenState->Prop}{n:Nat}{P:Nat->Value->Prop}{St:Nat->Shared->Prop}
theorem tR (Wk:WalksS prog w A.in1 I fp wr G n P St)(S:Addr)(hS:S∉fp)(val:Nat->Str)(hv:∀ i v,P i v->∃ t,v=.str (val i) t)(hn:n+1<scanBound) :
  ∀ (k i:Nat) (s:Shared) (Fm:Str->Bool) (m:Nat),n - i=k->i<=n->m<=i->St i s->s.heap.SetOf (PySem.strKind prog w) S Fm m->
   (∀ s',Moved (S::wr) G s s'->s'.heap.SetOf (PySem.strKind prog w) S (qi val k i Fm m).1 (qi val k i Fm m).2->R (.ok (.ret .none)) s')->
   codeAny (model prog w) A (.builtin "set.update.loop" ⟨[.ref S,.ref I],[]⟩) R s:=by
 intro k
 induction k with
 | zero=>
  intro i s Fm m hk hi hm B D h;have e:i=n:=by omega
  subst e;refine Uc F.entry_set_update_loop ?_;rw[Around.under_plainId F.plain_set_update_loop _];show wpAny _ A.in1 (pyNext (.ref I) >>= _) _ _ s;refine dy (Wk.done s _ _ B fun s' J=>?_);refine gc ?_;refine h s' (J.mono fun b hb=>fA _ hb) ?_;obtain⟨o,f,E,t,l,r⟩:=D;exact⟨o,f,E,t,J.heap S o (fun z=>hS (Wk.sub S z)) l,r⟩
 | succ k L=>
  intro i s Fm m hk hi hm B D h;refine Uc F.entry_set_update_loop ?_;rw[Around.under_plainId F.plain_set_update_loop _];show wpAny _ A.in1 (pyNext (.ref I) >>= _) _ _ s;refine dy (Wk.item i s _ _ (by omega) B fun v a M y c=>?_)
  obtain⟨t,rfl⟩:=hv i v M;have u:a.heap.SetOf (PySem.strKind prog w) S Fm m:=by
   obtain⟨o,f,E,t,l,r⟩:=D;exact⟨o,f,E,t,c.heap S o (fun z=>hS (Wk.sub S z)) l,r⟩
  have d:(PySem.strKind prog w).is (val i) (.str (val i) t)=true:=by
   show Value.isStrOf (val i) (.str (val i) t)=true
   simp[Value.isStrOf]
  show wpAny _ A.in1 (holding [.str (val i) t] (setAdd S (.str (val i) t)) >>= _) _ _ a;refine dy ?_;show wpAny _ A.in1 (setAdd S (.str (val i) t)) _ _ a;unfold setAdd;show wpAny _ A.in1 (pyHash (.str (val i) t) >>= fun x=>setAddHashed S (.str (val i) t) x) _ _ a;refine dy ((PySem.strKind prog w).pyHash d ?_);refine wpAny_setAddHashed_of (knd:=PySem.strKind prog w) (s:={a with toks:=a.toks+1}) d rfl u (by omega) fun H K p=>?_
  refine gc ⟨plainId_quiet F.plain_set_update_loop _,?_⟩;have q:Moved (S::wr) G a {a with heap:=H,toks:=a.toks+1}:=⟨fun b o hb e=>(K.2 b (fun z=>hb (by rw[z];exact fO))).trans e,Wk.grefl _,rfl,rfl,le_succ _⟩
  have C:=Wk.frame (i+1) a H (a.toks+1) y (le_succ _) fun b hb o e=>(K.2 b (fun z=>hS (by rw[<-z];exact hb))).trans e
  refine L (i+1) _ _ _ (by omega) (by omega) (by split<;>omega) C p fun s' j g=>?_
  exact h s' (Moved.trans Wk.gtrans (Moved.trans Wk.gtrans (c.mono fun b hb=>fA _ hb) q) j) g
theorem qj (val:Nat->Str)(hA:A.handled=none)(hp:s.heap.IsList p vs)(vl:∀ (i:Nat) (v:Value),vs[i]?=some v->∃ t,v=.str (val i) t)(hb:vs.size+1<scanBound)
  (h:∀ (h1:Heap) (k:Nat),h1.SetOf (PySem.strKind prog w) s.heap.objs.size (qi val vs.size 0 (fun _=>false) 0).1 (qi val vs.size 0 (fun _=>false) 0).2->(∀ b o,b<s.heap.objs.size->s.heap.get? b=some o->h1.get? b=some o)->Q (.ref s.heap.objs.size) {s with heap:=h1,toks:=k}) :
  wpAny (model prog w) A (call (.type "set") [.ref p]) Q E s:=by
 obtain⟨c0,t0,m0⟩:=F1.mro;have m1:=F1.made;have m2:=F1.sub;have Y:=F1.notType;have m4:=F1.canCreate;have m5:=F.typeCall_set_1 (.ref p);refine wpAny_call (codeAny_of_tree (show wpAny _ _ (callAny (.type "set") _) _ _ _ from gc ⟨Code.quiet_builtin _ (by decide +kernel),Uc F.entry_type_call ?_⟩))
 rw[Around.under_plain (weight_type_call_type "set" [.ref p] []) rfl]
 repeat (any_goals (first | assumption | wp_step))
 refine Ut (code_set_new_1 (.ref p) (E:=E) (Q₁:=fun o q=>∃ a:Bool,o=.ref s.heap.objs.size/\q={s with heap:=s.heap.push (iw a)}) fun a=>⟨a,rfl,rfl⟩) fun r q n=>?_
 cases r with
 | error e=>exact n
 | ok L=>
  cases L with
  | ret obj=>
   obtain⟨a,rfl,rfl⟩:=n;have H:(s.heap.push (iw a)).get? s.heap.objs.size=some (iw a):=ih _ rfl;have X:Shared.TypeIs {s with heap:=s.heap.push (iw a)} (.ref s.heap.objs.size) "set":=⟨_,H,rfl⟩;have k3:=F1.init.lookup;have Z:=F1.init.bind (.ref s.heap.objs.size)
   repeat (any_goals (first | assumption | wp_step))
   refine Ut (codeAny_call_builtin (R:=wants (fun r D=>r=.none/\∃ h1 k,D={s with heap:=h1,toks:=k}/\h1.SetOf (PySem.strKind prog w) s.heap.objs.size (qi val vs.size 0 (fun _=>false) 0).1 (qi val vs.size 0 (fun _=>false) 0).2/\
     (∀ b o,b<s.heap.objs.size->s.heap.get? b=some o->h1.get? b=some o)) E) F1.init.plain F.entry_set_init (check_set_init_1 X ?_)) fun J D j=>?_
   ·obtain⟨S,z,G,N,B⟩:=hp;obtain⟨u1,u2,u3,u4⟩:=S
    simp only at G B
    subst G;subst B;have M:=ey (iw a) z;have z1:=F.sub_list_set;have z2:=F.sub_list_frozenset;have z3:(Value.type "list" == Value.type "dict")=false:=by decide
    have C:(s.heap.push (iw a)).IsList p vs:=⟨_,M,rfl,N,rfl⟩;unfold Builtin.«set.__init__» noKeywords Builtin.Frozenset.updateFrom;generalize f:pyIter=PI
    wp_walk
    subst f;refine TN C (dy (wpAny_runValue ?_));have u:p<s.heap.objs.size:=lt_size z;have T:A.in1.in1.in1.handled=none:=by simp[hA]
    have l:(s.heap.push (iw a)).objs.size=s.heap.objs.size+1:=IR ..;have W:p≠(s.heap.push (iw a)).objs.size:=by rw[l];exact mv (Uj u)
    have O:s.heap.objs.size∉[(s.heap.push (iw a)).objs.size,p]:=by
     rw[l];simp only[mem_cons,not_mem_nil,or_false,not_or];exact⟨mv (Ux _),Us u⟩
    refine tR ((Walks.list T _ p W vs).toS) s.heap.objs.size O val vl hb (vs.size - 0) 0 _ (fun _=>false) 0 (by omega) (zero_le _) (ed _) ⟨⟨_,ih _ rfl,rfl,rfl⟩,(C.push _)⟩ ?x ?y
    case x=>
     exact SetOf_congr ((setObjOf_fresh (knd:=PySem.strKind prog w) a).setOf (ey _ H) (by unfold scanBound;omega)) (fun _=>rfl) rfl
    case y=>
     intro I hm c;obtain⟨h1,K,P,d,g⟩:=I;obtain rfl:K=s.gens:=hm.gens;obtain rfl:P=s.drawn:=hm.drawn;obtain rfl:g=s.os:=hm.os;show wpAny _ _ _ _ _ _;refine gc (show wpAny _ _ (ret Value.none) _ _ _ from gc ⟨rfl,h1,d,rfl,c,fun b o hb e=>?_⟩)
     refine hm.heap b o ?_ (ey _ (ey _ e));rw[l];simp only[mem_cons,not_mem_nil,or_false,not_or];exact⟨mv hb,mv (Uj hb)⟩
   ·cases J with
    | error e=>exact j
    | ok U=>
     cases U with
     | ret r=>
      obtain⟨rfl,h1,k,rfl,c,m⟩:=j
      repeat (any_goals (first | assumption | wp_step))
      exact h _ _ c m
     | _=>exact j.elim
  | _=>exact n.elim
def vY (P:Program)(w:World)(a:Addr)(n:Nat):HO:=.ext fun h=>∃ Fm,h.SetOf (PySem.strKind P w) a Fm n
def tT (l:List Str):Nat:=(qi (fun i=>l.getD i ⟨#[]⟩) l.length 0 (fun _=>false) 0).2
theorem CF (l:List Str):∀ (k i:Nat) (Fm:Str->Bool) (m:Nat),l.length - i=k->i<=l.length->(∀ x,Fm x=true↔x∈l.take i)->m<=i->(m=i↔(l.take i).Nodup)->(qi (fun i=>l.getD i ⟨#[]⟩) k i Fm m).2<=l.length/\((qi (fun i=>l.getD i ⟨#[]⟩) k i Fm m).2=l.length↔l.Nodup):=by
 intro k
 induction k with
 | zero=>
  intro i Fm m hk hi f hm hn;have e:i=l.length:=by omega
  subst e;rw[Tx] at hn;exact⟨hm,hn⟩
 | succ k j=>
  intro i Fm m hk hi f hm hn;have d:i<l.length:=by omega
  have g:l.take (i+1)=l.take i++[l.getD i ⟨#[]⟩]:=by rw[take_succ,cc d,b5,cc d];rfl
  refine j (i+1) _ _ (by omega) (by omega) (fun x=>?_) ?_ ?_
  ·rw[g,kb,eR,Pi,f x,k0]
  ·split<;>omega
  ·rw[g,Ue]
   by_cases c:Fm (l.getD i ⟨#[]⟩)=true
   ·rw[if_pos c]
    constructor
    ·intro e;omega
    ·intro h;exact absurd rfl (h.2.2 _ ((f _).mp c) _ (eR.mpr rfl))
   ·rw[if_neg c]
    constructor
    ·intro e;refine⟨hn.mp (by omega),by simp,fun a n b hb=>?_⟩
     rw[eR.mp hb];intro z;exact c ((f _).mpr (by rw[<-z];exact n))
    ·intro h
     have:=hn.mpr h.1
     omega
theorem J7 (l:List Str):tT l<=l.length/\(tT l=l.length↔l.Nodup):=
 CF l l.length 0 (fun _=>false) 0 (by omega) (zero_le _) (fun x=>by simp) (ed _) (by simp)
def J8 (K:Frag):List V->Hp->VK->Prop:=fun b H Q=>∃ p l,b=[.ref p]/\aw K H p (l.map V.str)/\l.length<1000/\∀ (P:Program) (w:World) a,H a=none->Q (.ref a) (upd H a (vY P w a (tT l)))
theorem tU (hc:X.calm=true)(hK:X.K=K):bS X (.type "set") (J8 K):=by
 subst hK;intro A s σ H M N Q I r h;obtain⟨p,l,rfl,hq,O,q⟩:=h;obtain⟨u,rfl,B⟩:=vals1 r
 cases B
 obtain⟨G,F,E,hz⟩:=I.list hq;obtain⟨m,rfl,z⟩:=lP F;have f:m.length=l.length:=by rw[<-z,b7]
 have d:(strValues m).toArray.size=l.length:=by rw[gd];unfold strValues;rw[b7,f]
 have y:(1001:Nat)<scanBound:=by decide
 refine qj (vs:=(strValues m).toArray) (fun i=>l.getD i ⟨#[]⟩) (I.ok.hd hc) E.isList (fun i v c=>?_) (by rw[d];omega) fun h1 k j D=>?_
 ·rw[List.getElem?_toArray] at c;unfold strValues at c;rw[eG] at c
  cases e:m[i]? with
  | none=>rw[e] at c;cases c
  | some a=>
   rw[e] at c
   cases c
   refine⟨a.2,?_⟩;rw[<-z,b5,eG,e];rfl
 ·rw[d] at j;refine⟨.ref _,_,I.laid (fun b o e=>D b o (lt_size e) e) (ed _) (show bA X.prog X.w _ h1 _ (vY X.prog X.w _ (tT l)) from ⟨⟨_,j⟩,?_,fun h1 L ⟨C,J⟩ k=>?_⟩),rfl,q X.prog X.w _ I.fresh⟩
  ·obtain⟨o,n,x,t,g,_⟩:=j;exact⟨o,g⟩
  ·obtain⟨o,n,x,t,g,r⟩:=J;exact⟨C,o,n,x,t,k o g,r⟩
def Of:List V->Hp->VK->Prop:=fun a H Q=>∃ p n P w,a=[.ref p]/\H p=some (vY P w p n)/\Q (.int n) H
theorem yU:bS X (.builtin "len") Of:=by
 intro b s σ H v m Q I r h;obtain⟨p,n,P,w,rfl,e,q⟩:=h;obtain⟨u,rfl,g⟩:=vals1 r
 cases g
 obtain⟨⟨l,o,j,x,t,c,i,d,_,_,hb,f,hn⟩,_,_⟩:=I.bh p _ e;have a:scanBound<2 ^ 62:=by decide
 refine PySem.call_len_set c i d f (by omega) ⟨.int n,H,I.tok _,⟨_,by rw[hn]⟩,q⟩
variable {G:List Str}
theorem Q4 (S:Sc X N W G)(g:Nat)(h:∃ t,X.mg x=some (.str z t))(hg:G[g]?=some x:=by rfl):QE X (.Name x pos) (tC (.str z)):=by
 obtain⟨t,h⟩:=h;have q:=S.gl _ (hO hg);exact⟨sH q.1 h ⟨t,rfl⟩ q.2.1⟩
theorem Og (S:Sc X N W G)(g:Nat){z:Int}(h:∃ t,X.mg x=some (.int z t))(hg:G[g]?=some x:=by rfl):QE X (.Name x pos) (tC (.int z)):=by
 obtain⟨t,h⟩:=h;have q:=S.gl _ (hO hg);exact⟨sH q.1 h ⟨t,rfl⟩ q.2.1⟩
structure Q5 (K:Frag)(x qual:Str)(st:Stmt)(f:Addr)(fd:FuncData)(d:List Value):Prop where
 ex:∃ (oc:Value) (od:Option Addr) (T:Addr) (kV doc pm:Value) (an:Option Addr) (cU ct:Value) (osl:Array (Option Value)) (o:Obj) (n:Nat),
  fd=fnOf x qual (bw st) (aY st) (aj st) (.ref T) kV doc pm an cU ct/\K.lookup f=some ⟨oc,od,.func fd,osl⟩/\codeIn K cU qual=true/\K.lookup T=some o/\o.data=.seq d.toArray n
 kp:keepIn K (.ref f)=true
structure Gf (K:Frag)(mg:Str->Option Value)(x:Str)(st:Stmt)(i:Int):Prop where
 ex:∃ f fd t,Q5 K x x st f fd [.int i t]/\mg x=some (.ref f)
variable {h:Heap}{i:Int}{st:Stmt}{f T:Addr}
theorem J9 {mg:Str->Option Value}{o:Obj}{m:Nat}{oc:Value}{od an:Option Addr}{osl:Array (Option Value)}{kV doc pm cU ct:Value}(X:K.In h)(G:h.Ns mainGlobals mg)
  (a:nsIn K mainGlobals x=some (some (.ref f))) (l:K.lookup f=some ⟨oc,od,.func (fnOf x x (bw st) (aY st) (aj st) (.ref T) kV doc pm an cU ct),osl⟩)
  (c:codeIn K cU x=true) (k:keepIn K (.ref f)=true) (lt:K.lookup T=some o) (ld:o.data=.seq #[.int i t] m):Gf K mg x st i:=
 ⟨f,_,t,⟨⟨oc,od,T,kV,doc,pm,an,cU,ct,osl,o,m,rfl,l,c,lt,ld⟩,k⟩,mg_of X G a⟩
def Sa {α:Type}:List α->List α->List α
 | [a],[b]=>[a,b]
 | _,_=>[]
theorem Gg {vs:List V}{us:List Value}{zs:List V}{ws:List Value}(h:Vals vs us)(k:Vals zs ws):Vals (Sa vs zs) (Sa us ws):=by
 cases h with
 | nil=>exact .nil
 | cons a t=>
  cases t with
  | cons _ _=>exact .nil
  | nil=>
   cases k with
   | nil=>exact .nil
   | cons b s=>
    cases s with
    | nil=>exact .cons a (.cons b .nil)
    | cons _ _=>exact .nil
structure Sb (P:Program)(w:World)(K:Frag)(mg:Str->Option Value)(base:Heap)(k:Nat)(x p1 p2:Str)(i:Int)(sp:Sp):Prop where
 ex:∃ f fd t,ft P w K mg base B9 k f fd [p1,p2] sp/\mg x=some (.ref f)/\keepIn K (.ref f)=true/\Binds K fd [p1,p2] []/\Binds K fd [p1,p2] [.int i t]/\Nj K fd [p1,p2] [p2] Sa Sa
variable {k:Nat}
def Ma (x:Str)(st:Stmt)(p1 p2:Str):Prop:=∀ (T:Addr) (kV doc pm:Value) (an:Option Addr) (cU ct u v:Value),
 (∃ k,bindArgs (fnOf x x (bw st) (aY st) (aj st) (.ref T) kV doc pm an cU ct) ⟨[u],[]⟩=(seqItems? (.ref T) >>= k)/\∀ d,k (some #[d])=pure [(p1,u),(p2,d)])/\
 (∃ k,bindArgs (fnOf x x (bw st) (aY st) (aj st) (.ref T) kV doc pm an cU ct) ⟨[u,v],[]⟩=(seqItems? (.ref T) >>= k)/\∀ d,k (some #[d])=pure [(p1,u),(p2,v)])/\
 (∃ k,bindArgs (fnOf x x (bw st) (aY st) (aj st) (.ref T) kV doc pm an cU ct) ⟨[u],[(p2,v)]⟩=(seqItems? (.ref T) >>= k)/\∀ d,k (some #[d])=pure [(p1,u),(p2,v)])
variable {P:Program}{mg:Str->Option Value}{base:Heap}{p1 p2:Str}{sp:Sp}
theorem Gf.gq (D:Gf K mg x st i)(S:DS (aj st) N [p1,p2] G)(hb:Ma x st p1 p2)
  (len:∀ vs H Q E,sp vs H Q E->vs.length=2)
  (eY:∀ (X:Cx),Sc X N N G->X.prog=P->X.w=w->X.K=K->X.mg=mg->X.base=base->X.calm=true->X.env.scope=aj st->X.xe=(fun _ _=>False)->cB k X.A->X.A.units+64<cLine->
   ∀ (H:Hp) (vs:List V) (Q:VK) (E:XK),sp vs H Q E->∃ t,Cg X (aY st) t/\t {nx:=fun _ H'=>Q .bx H',rt:=Q} (L2.start N vs) H):Sb P w K mg base (k+1) x p1 p2 i sp:=by
 obtain⟨f,O,t,F,hm⟩:=D.ex;obtain⟨R,M,T,kV,d,z,B,r,ct,J,o,n,rfl,L,m,lt,p⟩:=F.ex;refine⟨f,_,t,Eh L m S.fs len fun A l s H vs Q E C y=>?_,hm,F.kp,fun s c j e=>?_,fun s c j e=>?_,fun s c I j e=>?_,fun a b=>Gg a b⟩
 ·obtain⟨t,h,q⟩:=eY _ S.cx rfl rfl rfl rfl rfl rfl rfl rfl C C.units H vs Q E y;exact⟨t,h.h.Ld,q⟩
 ·rw[Ui] at e ⊢
  match c,e with
  | [u,v],_=>
   obtain⟨k,g,e2⟩:=(hb T kV d z B r ct u v).2.1;exact binds_K j rfl lt p g (e2 _)
 ·obtain⟨u,rfl⟩:∃ u,c=[u]:=by
   rw[fz] at e
   have:c.length=1:=by simpa using e
   exact List.length_eq_one_iff.mp this
  obtain⟨k,g,e2⟩:=(hb T kV d z B r ct u u).1;exact binds_K j rfl lt p g (e2 _)
 ·obtain⟨u,v,rfl,rfl⟩:∃ u v,c=[u]/\I=[v]:=by
   match c,I,e with
   | [u],[v],_=>exact⟨u,v,rfl,rfl⟩
  obtain⟨k,g,e2⟩:=(hb T kV d z B r ct u v).2.2;exact binds_K j rfl lt p g (e2 _)
variable {m:Nat}{p:Pos}{e2:Expr}{t:TA}
theorem SJ (S:Sc X N W G)(g:Nat)(F:Sb X.prog X.w X.K X.mg X.base k x p1 p2 i sp)(hr:cB m X.A)(ha:QB X [e,e2] t)(hk:k<=m:=by decide)(hg:G[g]?=some x:=by rfl):QE X (.Call (.Name x p) [e,e2] [] pos) (rh sp [] E0 t):=by
 obtain⟨f,c,b,F,hm,a,hb,_⟩:=F.ex;have q:=S.gl _ (hO hg);exact⟨Ay F (hr.mono hk) q.1 hm a hb .nil Lg ha.h.pa q.2.1 (bf ha.h.he) (dk ha.h.ES)⟩
abbrev cz (x:Str):List Nat:=x.cps.toList
variable {b:Str}
theorem jy {a:Str}(h:cz a=cz b):a=b:=by
 obtain⟨a⟩:=a;obtain⟨b⟩:=b
 congr 1
 exact Array.toList_inj.mp h
theorem b6 (a b:Str):cz (a++b)=cz a++cz b:=by show (a.cps++b.cps).toList=_;rw[Array.toList_append]
theorem aM (a:Str):a.length=(cz a).length:=by show a.cps.size=_;rw[Array.length_toList]
theorem Gh (c:Nat):cz ⟨#[c]⟩=[c]:=rfl
theorem bO (s x y:Str)(r:List Str):cz (s.join (x::y::r))=cz x++cz s++cz (s.join (y::r)):=by
 show cz (x++s++s.join (y::r))=_;rw[b6,b6]
theorem Gi {c:Nat}:∀ {p p' q q':List Nat},c∉p->c∉p'->p++c::q=p'++c::q'->p=p'/\q=q'
 | [],[],_,_,_,_,e=>⟨rfl,(Um e).2⟩
 | [],a::p',_,_,_,d,e=>absurd (h9.mpr (.inl (Um e).1)) d
 | a::p,[],_,_,h,_,e=>absurd (h9.mpr (.inl (Um e).1.symm)) h
 | a::p,b::p',_,_,h,d,e=>by
  obtain⟨i,e2⟩:=Um e;obtain⟨f,g⟩:=Gi (fun z=>h (fA _ z)) (fun z=>d (fA _ z)) e2;exact⟨by rw[i,f],g⟩
theorem vZ (c:Nat):∀ {a b:List Str},a≠[]->b≠[]->(∀ x∈a,c∉cz x)->(∀ x∈b,c∉cz x)->cz (Str.join ⟨#[c]⟩ a)=cz (Str.join ⟨#[c]⟩ b)->a=b
 | [],_,h,_,_,_,_=>absurd rfl h
 | _::_,[],_,h,_,_,_=>absurd rfl h
 | [x],[y],_,_,_,_,e=>by rw[jy (show cz x=cz y from e)]
 | [x],y::z::r,_,_,d,_,e=>by
  rw[bO] at e;have e:cz x=cz y++[c]++_:=e;refine absurd ?_ (d x fO);rw[e];simp
 | x::y::r,[z],_,_,_,hb,e=>by
  rw[bO] at e;have e:cz x++[c]++_=cz z:=e;refine absurd ?_ (hb z fO);rw[<-e];simp
 | x::y::r,g::i::j,_,_,d,hb,e=>by
  rw[bO,bO,Gh,q5,q5] at e;obtain⟨f,e2⟩:=Gi (d x fO) (hb g fO) e;rw[jy f,vZ c (by simp) (by simp) (fun x hx=>d x (fA _ hx)) (fun x hx=>hb x (fA _ hx)) e2]
theorem Gj (x:Str)(c:Nat):Txt.split x ⟨#[c]⟩≠[]:=by
 unfold Txt.split
 split
 ·simp
 split
 ·simp
 ·unfold Builtin.Str.partsBetween
  cases Builtin.Str.occurrences x ⟨#[c]⟩ 0 x.length (x.length+1)<;>simp
variable {a:List Str}
theorem eL (c:Nat)(h:a≠[])(hf:∀ x∈a,c∉cz x):Txt.split (Str.join ⟨#[c]⟩ a) ⟨#[c]⟩=a:=
 vZ c (Gj _ c) h (fun p b=>StrLaws.split_free _ c p b) hf (by rw[StrLaws.join_split])
def kR:Str:="abcdefghijklmnopqrstuvwxyz"
def Q6:Str:="0123456789"
def Gk (c:Nat):Bool:=decide (c∈cz kR)
def Ka (c:Nat):Bool:=decide (c∈cz Q6)
def bG (x:Str):Bool:=decide (1<=x.length/\x.length<=12)&&(cz x).all Gk
def dz (x:Str):Bool:=decide (1<=x.length/\x.length<=30)&&(decide ((cz x).getD 0 0≠48)&&(cz x).all Ka)
def v3 (l:List Str):Bool:=decide (l.length=3)&&(decide (l.getD 0 ⟨#[]⟩="hat")&&(bG (l.getD 1 ⟨#[]⟩)&&dz (l.getD 2 ⟨#[]⟩)))
def rX (l:List Str):Bool:=decide (3<=l.length)&&(decide (l.getD 0 ⟨#[]⟩="sees")&&(l.drop 1).all bG)
variable {c:Nat}
theorem Bf (h:Gk c=true):c≠32/\c≠10:=by
 have a:=tx h
 have:∀ c∈cz kR,c≠32/\c≠10:=by decide +kernel
 exact this c a
theorem oQ:Ka c=true↔48<=c/\c<=57:=by
 unfold Ka;rw[decide_eq_true_iff,show cz Q6=List.range' 48 10 by decide +kernel,List.mem_range'_1]
 omega
theorem eM (h:bG x=true):32∉cz x/\10∉cz x:=by
 unfold bG at h;rw[gz,kf] at h;exact⟨fun z=>(Bf (h.2 _ z)).1 rfl,fun z=>(Bf (h.2 _ z)).2 rfl⟩
theorem iX (h:dz x=true):32∉cz x/\10∉cz x:=by
 unfold dz at h;rw[gz,gz,kf] at h;exact⟨fun z=>by have:=oQ.mp (h.2.2 _ z);omega,fun z=>by have:=oQ.mp (h.2.2 _ z);omega⟩
theorem v7 (n:Nat):cz (Str.ofString (toString ((n:Nat):Int)))=(toDigits 10 n).map Char.toNat:=by
 show (Str.ofString (toString (Int.ofNat n))).cps.toList=_;rw[text_ofNat n]
theorem v9:∀ (n:Nat),0<n->∃ c r,toDigits 10 n=c::r/\c≠'0':=by
 intro n
 induction n using Nat.strongRecOn with
 | _ n a=>
  intro h;rw[Nat.toDigits_eq_if (by decide)]
  by_cases c:n<10
  ·rw[if_pos c];refine⟨_,_,rfl,?_⟩
   have:∀ n,n<10->0<n->Nat.digitChar n≠'0':=by decide
   exact this n c h
  ·rw[if_neg c];obtain⟨d,r,e,b⟩:=a (n / 10) (by omega) (by omega)
   exact⟨d,r++[Nat.digitChar (n % 10)],by rw[e];rfl,b⟩
theorem dA (h0:0<n)(h30:n<10 ^ 30):dz (Str.ofString (toString ((n:Nat):Int)))=true/\intText? (Str.ofString (toString ((n:Nat):Int)))=some (n:Int):=by
 have e:=v7 n;have a:∀ c∈(toDigits 10 n).map Char.toNat,48<=c/\c<=57:=fun c hc=>by
  obtain⟨d,a,rfl⟩:=kc.mp hc
  have:=Nat.isDigit_of_mem_toDigits (by decide) (by decide) a
  simp only[Char.isDigit,Bool.and_eq_true,decide_eq_true_eq] at this;exact this
 have h:(toDigits 10 n).length<=30:=(Nat.length_toDigits_le_iff (by decide) (by decide)).mpr h30
 have g:0<(toDigits 10 n).length:=Nat.length_toDigits_pos;obtain⟨c,r,f,hc⟩:=v9 n h0
 constructor
 ·unfold dz;rw[aM,e,b7,ea (show 1<=(toDigits 10 n).length/\(toDigits 10 n).length<=30 from ⟨g,h⟩),qE,gz]
  refine⟨ea ?_,kf.mpr fun c hc=>oQ.mpr (a c hc)⟩;rw[f];show c.toNat≠48;intro z;exact hc (Char.toNat_inj.mp z)
 ·have b:(Str.ofString (toString ((n:Nat):Int))).cps.toList=(toDigits 10 n).map Char.toNat:=e;rw[intText_digits (by rw[b];exact a) (by rw[b,f];simp) (by rw[aM,e,b7];omega),b,PySem.W.KIN.val_back]
theorem bb:(Str.ofString " ")=⟨#[32]⟩:=by decide +kernel
theorem lQ (c:Nat):∀ {l:List Str} {x:Str},x∈l->x.length<=(Str.join ⟨#[c]⟩ l).length
 | [y],x,h=>by rw[eR.mp h];exact ed _
 | y::z::r,x,h=>by
  have e:(Str.join ⟨#[c]⟩ (y::z::r)).length=y.length+1+(Str.join ⟨#[c]⟩ (z::r)).length:=by
   rw[aM,bO,fz,fz,<-aM,<-aM];rfl
  rcases h9.mp h with rfl | h
  ·omega
  ·have:=lQ c h
   omega
theorem yV (h:x∈Txt.split z ⟨#[32]⟩):x.length<=z.length:=by
 have:=lQ 32 h
 rw[StrLaws.join_split] at this;exact this
abbrev aX:Str:=⟨#[]⟩
def kS:Sp:=fun a H Q _=>∃ z:Str,a=[.str z]/\z.length<=1000000/\∀ H',ah H H'->Q (.bl (bG z)) H'
def lR:Sp:=fun a H Q _=>∃ z:Str,a=[.str z]/\z.length<=1000000/\∀ H',ah H H'->Q (.bl (dz z)) H'
structure Ws (K:Frag)(H:Hp)(p:Addr)(l:List Str):Prop where
 sq:aw K H p (l.map V.str)
 eD:l.length<=900
 short:∀ x∈l,x.length<=1000000
def Bg (K:Frag):Sp:=fun a H Q _=>∃ (p:Addr) (l:List Str),a=[.ref p]/\Ws K H p l/\∀ H',ah H H'->Q (.bl (v3 l)) H'
def we (K:Frag):Sp:=fun a H Q _=>∃ (p:Addr) (l:List Str),a=[.ref p]/\Ws K H p l/\∀ H',ah H H'->Q (.bl (rX l)) H'
def yW (K:Frag):Sp:=fun a H Q _=>∃ (z:Str) (i:Int) (l:List Str),a=[.str z,.int i]/\z.length<=1000000/\Txt.split z ⟨#[32]⟩=l/\l.length<=900/\
 ((v3 l=true/\∃ c:Int,intText? (l.getD 2 aX)=some c/\∀ (t:Addr) (H':Hp),ah H H'->H' t=some (.tup [.str "hat",.str (l.getD 1 aX),.int c])->Q (.ref t) H')∨
  (v3 l=false/\rX l=true/\(l.drop 1).Nodup/\∀ (t u:Addr) (H':Hp),ah H H'->H' t=some (.tup [.str "sees",.str (l.getD 1 aX),.ref u])->H' u=some (.tup ((l.drop 2).map V.str))->Q (.ref t) H'))
theorem nN (h:n<=1000000):n<=sizeLine:=j5 h (by decide)
variable {l:List Str}
theorem aP {k:Nat}(h:k<l.length):(l.map V.str)[k]?=some (.str (l.getD k aX)):=by
 rw[eG,cc h,b5,cc h];rfl
theorem getD_memS {k:Nat}(h:k<l.length):l.getD k aX∈l:=by
 rw[b5,cc h];exact p0 h
end L2
namespace L2
open PySem PySem.Spec PyProof.Rows
theorem CG (z:Str)(p:Nat->Bool):((List.range z.cps.size).map fun i=>p ((z.cps[i]?).getD 0)).all id=(cz z).all p:=by
 rw[Tv];have e:cz z=(List.range z.cps.size).map fun i=>(z.cps[i]?).getD 0:=by
  apply KM
  intro i
  by_cases hi:i<z.cps.size
  ·rw[eG,xH hi,getElem?_toList,Array.getElem?_eq_getElem hi];show some z.cps[i]=some ((z.cps[i]?).getD 0);rw[Array.getElem?_eq_getElem hi];rfl
  ·rw[mo (by rw[Array.length_toList];omega),mo (by rw[b7,j9];omega)]
 rw[e,Tv]
 rfl
variable {Q:VK}{y:Str}
theorem wg {K:Frag}{z:Str}{H:Hp}(hz:z.length<=1000000)(q:∀ H',ah H H'->Q (.bl ((cz z).all fun c=>decide (c∈cz y))) H') :
  sW (bB 0) il (xV (fun x y H Q=>∃ i j,x=V.str i/\y=V.str j/\Q (V.bl !(Builtin.Str.occurrences j i 0 j.length 1).isEmpty) H) (sG 0) (tC (.str y))) [none] (fun x H1=>QL K [x] H1 Q) (Q2 z) H:=by
 refine p5 Ge (fun _=>true) (fun i=>.bl (decide ((z.cps[i]?).getD 0∈cz y))) (I1 hz (by decide)) ?_ ?_
 ·intro i H1 A B hi f d _;simp only[gR,yA,kM,NH,yo,Ss];refine⟨_,_,rfl,rfl,?_⟩;rw[StrLaws.found_one];exact d rfl _ (ah.refl _)
 ·intro b H1 hn e a;rw[bH] at a;refine⟨b,(List.range z.cps.size).map fun i=>decide ((z.cps[i]?).getD 0∈cz y),rfl,aw.of (by rw[a,ls];rfl),?_⟩
  rw[CG z fun c=>decide (c∈cz y)];exact q H1 e
theorem Gm (k:Str)(ns:List Str):Lf (.str k) (ns.map V.str)=decide (k∈ns):=by
 induction ns with
 | nil=>simp[Lf]
 | cons a r b=>
  unfold Lf at b ⊢;rw[pS,any_cons,b]
  by_cases e:a=k
  ·subst e;simp[DR]
  ·have:¬ k=a:=fun z=>e z.symm
   simp[DR,e,this]
theorem lS {K:Frag}{neg:Bool}{H:Hp}{p:Addr}{k:Str}{a:List Str}(h:aw K H p (a.map V.str)∨aE K H p (a.map V.str))(q:Q (.bl (if neg then !decide (k∈a) else decide (k∈a))) H):O4 K neg (.str k) (.ref p) H Q:=by
 refine⟨p,_,rfl,h,rfl,?_,?_⟩
 ·rw[Tv];exact kf.mpr fun _ _=>rfl
 ·rw[Gm];exact q
def gK (x:Str):Prop:=∀ c∈cz x,Gk c=true
theorem gK.append {a b:Str}(ha:gK a)(hb:gK b):gK (a++b):=fun c hc=>by
 rw[b6] at hc
 rcases kb.mp hc with z | z
 ·exact ha c z
 ·exact hb c z
theorem aD (a b:Str):(a++b).length=a.length+b.length:=by rw[aM,b6,fz,<-aM,<-aM]
theorem nO {x:Str}(h:gK x)(h1:1<=x.length)(h2:x.length<=12):bG x=true:=by
 unfold bG;rw[ea (show 1<=x.length/\x.length<=12 from ⟨h1,h2⟩),qE]
 exact kf.mpr h
theorem dB {x:Str}(h:bG x=true):gK x/\1<=x.length/\x.length<=12:=by
 unfold bG at h;rw[gz,kf] at h;exact⟨h.2,(tx h.1).1,(tx h.1).2⟩
theorem oR {x:Str}{k:Nat}(h:k<=x.length):cz (StrLaws.sliceText x none (some (k:Int)))=(cz x).take k:=by
 have a:k<=x.cps.toList.length:=by rw[aM] at h;exact h
 rw[StrLaws.sliceText_to ⟨by omega,by omega⟩]
 show List.take ((k:Int) - 0).toNat (List.drop 0 _)=_;rw[drop_zero,show ((k:Int) - 0).toNat=k by omega]
theorem yX {x:Str}{k:Nat}(h:k<=x.length):cz (StrLaws.sliceText x (some (k:Int)) none)=(cz x).drop k:=by
 have a:k<=x.cps.toList.length:=by rw[aM] at h;exact h
 rw[StrLaws.sliceText_from ⟨by omega,by omega⟩]
 show List.take _ (List.drop ((k:Int)).toNat _)=_;rw[u5,FB (by rw[vr];omega)]
theorem yY {x:Str}{k:Nat}(h0:1<=k)(h:k<=x.length):cz (StrLaws.sliceText x (some (-(k:Int))) none)=(cz x).drop ((cz x).length - k):=by
 have e:=aM x;rw[StrLaws.sliceText_from_neg (by omega) (by omega)]
 show List.take _ (List.drop (-(k:Int)+(x.length:Nat)).toNat _)=_;rw[show (-(k:Int)+(x.length:Nat)).toNat=(cz x).length - k by omega,FB (by rw[vr];show (cz x).length - _<=(((cz x).length:Int) - _).toNat;omega)]
theorem wj {x:Str}{k:Nat}(h:gK x)(e:cz y=(cz x).take k):gK y:=fun c hc=>h c (List.mem_of_mem_take (by rw[<-e];exact hc))
theorem wk {x:Str}{k:Nat}(h:gK x)(e:cz y=(cz x).drop k):gK y:=fun c hc=>h c (mem_of_mem_drop (by rw[<-e];exact hc))
theorem Kb {c:Nat}{i:Nat}(h:(cz kR)[i]?=some c):gK ⟨#[c]⟩:=fun d a=>by
 have e:d=c:=by simpa using a
 subst e;unfold Gk;exact ea (hO h)
theorem Gn:(cz kR).length=26:=by decide +kernel
theorem Gp {i:Int}(h0:0<=i)(h1:i<26):∃ c,yg (cz kR) i=some c/\gK ⟨#[c]⟩:=by
 obtain⟨n,rfl⟩:=ro h0;have hn:n<(cz kR).length:=by rw[Gn];omega
 refine⟨(cz kR).getD n 0,iP rfl 0 hn,Kb (i:=n) ?_⟩;rw[b5,cc hn];rfl
def iY:Sp:=fun a H Q _=>∃ (cell:Int) (n:Nat),a=[.int cell,.int n]/\n<=100/\∀ (l:Addr) (ns:List Int) (H':Hp),ah H H'->H l=none->H' l=some (.lst (ns.map V.int))->ns.length=n->(∀ x∈ns,0<=x)->Q (.ref l) H'
def Q7 (H0:Hp)(cell:Int)(n:Nat)(l:Addr)(k:Nat)(σ:St)(H:Hp):Prop:=∃ (num:Int) (ns:List Int) (y:Option V),σ=[some (.int cell),some (.int n),some (.int num),some (.ref l),y]/\ah H0 H/\H l=some (.lst (ns.map V.int))/\ns.length=k/\∀ x∈ns,0<=x
def Bh:Sp:=fun a H Q _=>∃ (num:Int) (k:Nat),a=[.int num,.int k]/\k<=12/\∀ z:Str,z.length=k->gK z->Q (.str z) H
def Q8 (H0:Hp)(n:Nat)(k:Nat)(σ:St)(H:Hp):Prop:=∃ (num:Int) (z:Str) (y:Option V),σ=[some (.int num),some (.int n),some (.str kR),some (.str z),y]/\H=H0/\z.length=k/\gK z
structure Iv (ns:List Str)(n:Nat):Prop where
 eD:ns.length<=n
 nd:ns.Nodup
 nm:∀ x∈ns,bG x=true
def Bi:Sp:=fun a H Q _=>∃ (cell:Int) (n:Nat),a=[.int cell,.int n]/\1<=n/\n<=8/\∀ (l:Addr) (ns:List Str) (H':Hp),ah H H'->H l=none->H' l=some (.lst (ns.map V.str))->ns≠[]->Iv ns n->Q (.ref l) H'
def mP:List Str:=["hat","sees","put","guess","right","ring","order","book","sure","share","groups","circle","hats"]
theorem Gq:∀ x∈mP,bG x=true:=by decide +kernel
def Q9 (H0:Hp)(cell:Int)(n:Nat)(sm dr:Addr)(base:Str)(a:Nat)(l:Addr)(dn:List Int)(k:Nat)(σ:St)(H:Hp):Prop:=∃ (ns:List Str) (y1 y2 y3 y4:Option V),σ=[some (.int cell),some (.int n),some (.str kR),some (.ref sm),some (.ref dr),some (.str base),some (.int a),some (.ref l),y1,y2,y3,y4]/\ah H0 H/\H l=some (.lst (ns.map V.str))/\H sm=some (.lst (mP.map V.str))/\H dr=some (.lst (dn.map V.int))/\Iv ns k/\(1<=k->ns≠[])
def wm:Sp:=fun a H Q _=>∃ (cell:Int) (k:Int),a=[.int cell,.int k]/\∀ (c:Nat) (H':Hp),0<c->c<10 ^ 30->ah H H'->Q (.int (c:Int)) H'
theorem jz {K:Frag}{H:Hp}:∀ l:List Str,dE K H (l.map V.str) (l.map PyData.str)
 | []=>.nil
 | x::r=>.cons (.str x) (jz r)
theorem jV:∀ l:List Str,PyData.depthAll (l.map PyData.str)<=1
 | []=>by simp[PyData.depthAll]
 | x::r=>by
  have:=jV r
  simp only[map_cons,PyData.depthAll,PyData.depth]
  omega
theorem Oh {x:Str}(h:gK x):PyData.strOk x=true:=by
 show (x.cps.all fun x=>decide (x<1114112))=true;rw[<-all_toList,kf];intro c hc;have a:=tx (h c hc)
 have:∀ c∈cz kR,c<1114112:=by decide +kernel
 exact ea (this c a)
theorem wo:∀ l:List Str,(∀ x∈l,gK x)->PyData.canLayAll0 (l.map PyData.str)=true
 | [],_=>by simp[PyData.canLayAll0]
 | x::r,h=>by simp[PyData.canLayAll0,PyData.canLay0,wo r fun x hx=>h x (mem_cons_of_mem _ hx),Oh (h x mem_cons_self)]
theorem rY {d:PyData}(h1:PyData.canLay0 d=true)(h2:PyData.depth d<=64):shaped d=true:=by
 show (PyData.canLay0 d&&decide (PyData.depth d<=64))=true;rw[h1,ea h2];rfl
def Oi (H:Hp)(f:Addr)(n:Str)(l:List Str):Prop:=∃ p,H f=some (.tup [.str "sees",.str n,.ref p])/\H p=some (.tup (l.map V.str))
def Ra (H:Hp)(f:Addr)(n:Str)(c:Int):Prop:=H f=some (.tup [.str "hat",.str n,.int c])
abbrev jG (c:Nat):Str:=Str.ofString (toString ((c:Nat):Int))
structure SK (l:List Str):Prop where
 two:2<=l.length
 eD:l.length<=40
 nd:l.Nodup
 nm:∀ x∈l,bG x=true
theorem oS (c:Nat):∀ l:List Str,(Str.join ⟨#[c]⟩ l).length<=(l.map fun z=>z.length+1).sum
 | []=>by show (0:Nat)<=_;omega
 | [x]=>by show x.length<=(x.length+1)+0;omega
 | x::y::r=>by
  have a:=oS c (y::r);have e:(Str.join ⟨#[c]⟩ (x::y::r)).length=x.length+1+(Str.join ⟨#[c]⟩ (y::r)).length:=by
   rw[aM,bO,fz,fz,<-aM,<-aM];rfl
  rw[e,pS,Tz]
  omega
theorem et (b:Nat):∀ l:List Str,(∀ x∈l,x.length<=b)->(l.map fun z=>z.length+1).sum<=l.length*(b+1)
 | [],_=>by simp
 | x::r,h=>by
  have a:=et b r fun x hx=>h x (fA _ hx)
  have:=h x fO
  rw[pS,Tz,ot,Nat.add_mul]
  omega
theorem gL {x:Str}(h:dz x=true):x.length<=30:=by
 unfold dz at h;rw[gz] at h;exact(tx h.1).2
variable {n:Str}
theorem CH {c:Nat}(hn:bG n=true)(h0:0<c)(h30:c<10 ^ 30):∀ x∈[Str.ofString "hat",n,jG c],32∉cz x/\10∉cz x/\x.length<=30:=by
 intro x hx;have h1:32∉cz (Str.ofString "hat")/\10∉cz (Str.ofString "hat")/\(Str.ofString "hat").length<=30:=by decide +kernel
 have b:=eM hn;have a:=(dA h0 h30).1
 rcases h9.mp hx with rfl | hx
 ·exact h1
 rcases h9.mp hx with rfl | hx
 ·exact⟨b.1,b.2,j5 (dB hn).2.2 (by decide)⟩
 rw[eR.mp hx];exact⟨(iX a).1,(iX a).2,gL a⟩
theorem yZ {l:List Str}(h:∀ x∈l,bG x=true):∀ x∈(Str.ofString "sees"::l),32∉cz x/\10∉cz x/\x.length<=30:=by
 intro x hx;have h1:32∉cz (Str.ofString "sees")/\10∉cz (Str.ofString "sees")/\(Str.ofString "sees").length<=30:=by decide +kernel
 rcases h9.mp hx with rfl | hx
 ·exact h1
 ·exact⟨(eM (h x hx)).1,(eM (h x hx)).2,j5 (dB (h x hx)).2.2 (by decide)⟩
theorem Oj {c:Nat}(hn:bG n=true)(h0:0<c)(h30:c<10 ^ 30):v3 [Str.ofString "hat",n,jG c]=true:=by
 show (decide (3=3)&&(decide (Str.ofString "hat"=Str.ofString "hat")&&(bG n&&dz (jG c))))=true;rw[hn,(dA h0 h30).1,ea (rfl:Str.ofString "hat"=Str.ofString "hat")];rfl
theorem Gr (l:List Str):v3 (Str.ofString "sees"::l)=false:=by
 unfold v3;show (_&&(decide (Str.ofString "sees"=Str.ofString "hat")&&_))=false;rw[show decide (Str.ofString "sees"=Str.ofString "hat")=false by decide +kernel,sr,Uq]
theorem Kc {l:List Str}(h2:2<=l.length)(h:∀ x∈l,bG x=true):rX (Str.ofString "sees"::l)=true:=by
 unfold rX;show (decide (3<=l.length+1)&&(decide (Str.ofString "sees"=Str.ofString "sees")&&l.all bG))=true;rw[ea (show 3<=l.length+1 by omega),ea rfl,kf.mpr h];rfl
theorem kT (n c:Str):(((Str.ofString "hat "++n)++Str.ofString " ")++c)=Str.join ⟨#[32]⟩ [Str.ofString "hat",n,c]:=by
 apply jy
 rw[b6,b6,b6,bO,bO,show cz (Str.ofString "hat ")=cz (Str.ofString "hat")++[32] by decide +kernel,show cz (Str.ofString " ")=[32] by decide +kernel]
 show _=cz (Str.ofString "hat")++[32]++(cz n++[32]++cz c);simp only[List.append_assoc]
variable {prog:Program}{w:World}{κ:Type}{a:Addr}[DecidableEq κ]{knd:KeyKind prog w κ}
theorem CI {h:Heap}{kvs:List (κ × Value)}(x:h.DictOf knd a kvs):∃ ep,h.DictAt knd a kvs ep:=by
 obtain⟨o,b,ep,r⟩:=x;exact⟨ep,o,b,r⟩
variable {A:Around}{E:Value->Shared->Prop}{s:Shared}{ep:Nat}
theorem jH {d:Addr}{kvs:List (κ × Value)}{Q₁:Value->Shared->Prop}(lo:(d == sysModules)=false)(hh:A.handled=none)(hd:s.heap.DictAt knd d kvs ep)(hn:kvs.length<=sizeLine)
  (h:∀ (h':Heap) (tk:Nat) (acc:Array Value),(∀ b o,s.heap.get? b=some o->h'.get? b=some o)->ItemsOf (fun i v=>∃ k x,kvs[i]?=some (k,x)/\knd.is k v=true) acc kvs.length->Q₁ (.ref h'.objs.size) {s with heap:=h'.push {cls:=.type "tuple",data:=.seq acc},toks:=tk}) :
  codeAny (model prog w) A (.call (.builtin "tuple.__new__") ⟨[.type "tuple",.ref d],[]⟩) (wants Q₁ E) s:=by
 refine codeAny_of_tree ?_;show wpAny _ A.in1 (do checkBuiltinCall "tuple.__new__" ⟨[.type "tuple",.ref d],[]⟩;again (.builtin "tuple.__new__" ⟨[.type "tuple",.ref d],[]⟩)) _ _ s
 refine dy (wpAny_of_eq (F.newCall_tuple_1 _) (gc ⟨plainId_quiet F.plain_tuple_new _,Uc F.entry_tuple_new ?_⟩));rw[Around.under_plainId F.plain_tuple_new _];have g:=sub_tuple_self;have f:=init_tuple_lookup;have j:=madeHere_tuple;have c:=hd.dictOf.typeIs
 wp_walk using wpAny_typeOf c,PySem.W.kdu_collect (A:=A.in1) (PySem.W.kdl_dict (knd:=knd) (ep:=ep) lo) hh hd hn
 intro h' tk acc hm a;show wpAny _ _ (Builtin.Tuple.tupleExact acc.toList.toArray >>= fun v=>ret v) _ _ _;unfold Builtin.Tuple.tupleExact;refine dy (wpAny_newObj_type ?_ (by show acc.toList.toArray.size<=sizeLine;simp only[Array.toArray_toList];rw[a.1];exact hn))
 refine gc ?_;have e:acc.toList.toArray=acc:=by simp
 rw[e];exact h h' tk acc hm a
theorem nu {d:Addr}{kvs:List (κ × Value)}{Q:Value->Shared->Prop}(lo:(d == sysModules)=false)(hh:A.handled=none)(hd:s.heap.DictAt knd d kvs ep)(hn:kvs.length<=sizeLine)
  (h:∀ (h':Heap) (tk:Nat) (acc:Array Value),(∀ b o,s.heap.get? b=some o->h'.get? b=some o)->ItemsOf (fun i v=>∃ k x,kvs[i]?=some (k,x)/\knd.is k v=true) acc kvs.length->Q (.ref h'.objs.size) {s with heap:=h'.push {cls:=.type "tuple",data:=.seq acc},toks:=tk}) :
  wpAny (model prog w) A (call (.type "tuple") [.ref d]) Q E s:=by
 refine callType_codes (Q₁:=fun obj c=>c.TypeIs obj "tuple"/\Q obj c) F.called_tuple (F.typeCall_tuple_1 _) F.entry_object_init
  (jH lo hh hd hn fun h' tk acc hm a=>⟨⟨_,ih _ rfl,rfl⟩,h h' tk acc hm a⟩) fun obj c e=>?_
 exact⟨e.1,F.args_object_init_2 obj _,object_init_meets F.called_tuple.init.lookup F.called_tuple.made (by decide) prog w A.in1 _ c ⟨e.1,rfl,e.2⟩⟩
variable {X:Cx}{o i:Expr}{pos:Pos}{td ty:TE}
theorem Gs (hu:X.A.units+1<cLine)(ho:QE X o td)(hi:QE X i ty)(hs:Jo i:=by intro _ _;rfl):QE X (.Subscript o i pos) (Ey td ty):=⟨Jq hu ho.h hi.h hs⟩
def Mb:List V->Hp->VK->Prop:=fun b H Q=>∃ a kvs,b=[.ref a]/\H a=some (.dK kvs)/\Q (.int kvs.length) H
theorem rZ:bS X (.builtin "len") Mb:=by
 intro c s σ H j i Q I r h;obtain⟨a,b,rfl,e,q⟩:=h;obtain⟨u,rfl,f⟩:=vals1 r
 cases f
 exact PH I (.inl e) fun t g d=>⟨.int b.length,H,d,⟨_,rfl⟩,q⟩
variable {u:Value}
theorem Ol {P:Program}{i:Int}(h:(bT P w).is (Sum.inl i) u=true):RelV (.int i) u:=by
 rcases bL (show mE (Sum.inl i) u=true from h) with ⟨j,t,e,rfl⟩ | ⟨x,t,e,rfl⟩
 ·cases e;exact⟨t,rfl⟩
 ·cases e
theorem Om {P:Program}{x:Str}(h:(bT P w).is (Sum.inr x) u=true):RelV (.str x) u:=by
 rcases bL (show mE (Sum.inr x) u=true from h) with ⟨j,t,e,rfl⟩ | ⟨y,t,e,rfl⟩
 ·cases e
 ·cases e;exact⟨t,rfl⟩
theorem r8 {α β:Type}{F:α->β->Prop}:∀ {l₁:List α} {l₂:List β},l₁.length=l₂.length->(∀ (i:Nat) a b,l₁[i]?=some a->l₂[i]?=some b->F a b)->Paired F l₁ l₂
 | [],[],_,_=>.nil
 | a::l₁,b::l₂,e,h=>.cons (h 0 a b rfl rfl) (r8 (Nat.succ.inj e) fun i a b h1 c=>h (i+1) a b h1 c)
theorem Kd {P:Program}{k:Key}(h:(bT P w).is k u=true):RelV (kV k) u:=by
 cases k with
 | inl i=>exact Ol h
 | inr x=>exact Om h
theorem CJ {P:Program}{kvs:List (Key × V)}{vs:List (Key × Value)}{acc:Array Value}(rel:KV kvs vs)(h:ItemsOf (fun i v=>∃ k x,vs[i]?=some (k,x)/\(bT P w).is k v=true) acc vs.length):Vals (kvs.map fun p=>kV p.1) acc.toList:=by
 have hk:=rel.keys;have g:=rel.length;refine r8 (by rw[b7,g,<-h.1];exact(Array.length_toList (xs:=acc)).symm) fun i a b h1 f=>?_
 obtain⟨k,x,e,hi⟩:=h.2 i b (by rw[<-getElem?_toList];exact f)
 rw[eG] at h1;obtain⟨p,d,rfl⟩:=Option.map_eq_some_iff.mp h1;have c:(kvs.map (·.1))[i]?=some p.1:=by rw[eG,d];rfl
 have e2:(vs.map (·.1))[i]?=some k:=by rw[eG,e];rfl
 rw[hk,e2] at c
 cases c
 exact Kd hi
variable {H:Hp}{σ:St}
theorem Gu:Ey td ty σ H Q=td σ H fun x H1=>ty σ H1 fun y H2=>∃ a v,x=.ref a/\jS H2 a y (some v)/\Q v H2:=rfl
def Ke (K:Frag)(a:Addr):It:=
 ⟨fun i H=>∃ xs x,aw K H a xs/\xs[i]?=some x,fun i H x b=>∃ p v,H p=none/\x=.ref p/\b=upd H p (.tup [.int i,v])/\∀ xs,aw K H a xs->xs[i]?=some v,fun i H=>∃ xs,aw K H a xs/\xs.length=i⟩
theorem y0 {P:Program}{K:Frag}{elts:List Expr}{x1:Nat}{pos:Pos}(a e it:Addr)(hei:e≠it):Turn P w K (.Tuple elts x1 pos) (Ke K a) [e,it] e (fun i h=>(∃ old,IsEnum h e it i old)/\h.IsListIter it a i) where
 mem:=by simp
 obj:=fun i h g b hb=>by
  obtain⟨⟨old,he⟩,o,eo,c,d⟩:=g
  rcases h9.mp hb with rfl | hb
  ·exact⟨_,he,fun v z=>by cases z⟩
  ·have:b=it:=by simpa using hb
   subst this;exact⟨o,eo,fun v z=>by rw[d] at z;cases z⟩
 keep:=fun i h h' g k=>by
  obtain⟨⟨old,he⟩,g⟩:=g;exact⟨⟨old,k e (by simp) _ he⟩,g.at fun o q=>k it (by simp) o q⟩
 item:=by
  intro X N Q M hc i C s σ H E I D g J;subst N Q M;obtain⟨xs,x,hq,hx⟩:=J;obtain⟨f,O,S,hz⟩:=I.list hq;have p:=S.isList;obtain⟨u,hu,ru⟩:=O.get hx;obtain⟨⟨old,he⟩,si⟩:=g;have j:a≠it:=fun z=>by
   subst z;obtain⟨Z,n,y,_⟩:=p;obtain⟨o2,r,t,_⟩:=si;rw[n] at r;cases r
   rw[y] at t;exact absurd t (by decide)
  have G:a≠e:=fun z=>by
   subst z;obtain⟨Z,n,y,_⟩:=p;have he:s.heap.get? a=some _:=he;rw[n] at he;cases he
   exact absurd (show Value.type "enumerate"=Value.type "list" from y) (by decide)
  have R:i<f.toArray.size:=by
   rw[gd];exact(nt.mp hu).1
  refine wpAny_pyNext_enum_itemD (Draws.list (by simpa using I.ok.hd hc) it a j f.toArray) he ⟨si,show s.heap.IsList a f.toArray from p⟩ R hei (by simp only[mem_cons,not_mem_nil,or_false,not_or];exact⟨hei,Ne.symm G⟩) fun v h1 tk hv ho L ht hsz hk=>?_
  refine⟨_,rfl,wpAny_letOwnedTupleGo_enum ho fun h2 Y l=>?_⟩;have B:e<s.heap.objs.size:=lt_size he;have ev:v=u:=by
   have A:f[i]?=some v:=by simpa using hv
   rw[hu] at A;cases A;rfl
  subst ev;refine⟨.ref s.heap.objs.size,upd H s.heap.objs.size (.tup [.int i,x]),I.lN (ch:=[e,it]) (fun b o hb q=>?_) D (ed _) (show bA X.prog X.w _ h2 _ (.tup _) from ⟨by show 2<=sizeLine;decide,[.int i tk,v],.cons ⟨_,rfl⟩ (.cons ru .nil),?_⟩),rfl,⟨_,x,I.fresh,rfl,rfl,fun ys hy=>by rw[I.nZ hy hq];exact hx⟩,⟨⟨v,?_⟩,?_⟩,fun b hb=>?_⟩
  ·simp only[mem_cons,not_mem_nil,or_false,not_or] at hb;exact(l.2 b hb.1).trans (hk b o hb.1 hb.2 q)
  ·exact⟨_,(l.2 _ (Us B)).trans ht,rfl,_,rfl⟩
  ·have:=Y
   rw[show ((i:Int)+1)=((i+1:Nat):Int) by omega] at this
   exact this
  ·exact L.1.at fun o q=>(l.2 it (Ne.symm hei)).trans q
  ·rw[aH (fun z=>?_)]
   ·exact(D b hb).1
   ·obtain⟨_,U,_⟩:=si
    rcases h9.mp hb with rfl | hb
    ·exact absurd z (mv B)
    ·have:b=it:=by simpa using hb
     subst this;exact absurd z (mv (lt_size U))
 done:=by
  intro X N Q M hc i C s σ H E I D g J;subst N Q M;obtain⟨xs,hq,hx⟩:=J;obtain⟨f,O,S,hz⟩:=I.list hq;have p:=S.isList;obtain⟨⟨old,he⟩,si⟩:=g;have j:a≠it:=fun z=>by
   subst z;obtain⟨Z,n,y,_⟩:=p;obtain⟨o2,r,t,_⟩:=si;rw[n] at r;cases r
   rw[y] at t;exact absurd t (by decide)
  have hl:=O.length;have hT:s.TypeIs (.ref e) "enumerate":=⟨_,he,rfl⟩;unfold pyNext;refine dy (wpAny_attempt (Tt (name:=Str.ofString "__next__") hT F.slot_enumerate_next (Ts F.slot_enumerate_next hT F.entry_enumerate_next ?_ (F.args_enumerate_next_1 _))));refine dy (m:=field (.ref e) 2) (Ug he rfl (x:=.ref it) rfl (dy ((Draws.list (by simpa using I.ok.hd hc) it a j f.toArray).done _ _ _ ⟨by rw[gd,<-hl,hx];exact si,p⟩ fun h' x eb W=>?_)))
  obtain⟨o,q,c⟩:=W;refine dy (wpAny_isInstance (T:="StopIteration") (b:=true) ⟨o,q,c⟩ isSubtype_stop ?_);obtain⟨f0,f1,f2,f3,f4,f5⟩:=D it (by simp)
  exact gc ⟨rfl,I.turned (t':=s.toks) (fun b o hb z=>eb b o hb z) f0 f1 f3 f4 f5⟩
 self:=fun _ _ _ _ _ g h=>by
  obtain⟨⟨old,he⟩,_⟩:=g;exact wpAny_pyIter_enum he h
def Oo (K:Frag)(ta:TA):TI:=fun σ H R=>ta σ H fun b H1=>∃ a,b=[.ref a]/\(∃ xs,aw K H1 a xs)/\R (Ke K a) H1
variable {N W G:List Str}{K:Frag}{e:Expr}{t:TA}{p tpos:Pos}{elts:List Expr}{x1:Nat}
theorem Oq (S:Sc X N W G)(g:Nat)(hm:X.mg "enumerate"=none)(hK:X.K=K)(ha:PB X [e] t)(hg:G[g]?=some "enumerate":=by rfl):PI X (.Tuple elts x1 tpos) (.Call (.Name "enumerate" p) [e] [] pos) (Oo K t):=by
 subst hK;intro d s σ H R I h;have q:=S.gl _ (hO hg);refine Call_ (iE I q.1 hm boot_enumerate (GT (bW (ha.pa pos d s σ H _ I h) fun A c ⟨z,H1,i,w,m⟩=>?_) (bf ha.he) rfl));obtain⟨a,rfl,⟨B,hq⟩,q⟩:=m;obtain⟨u,rfl,o⟩:=vals1 w
 cases o
 obtain⟨r,C,n,hz⟩:=i.list hq;refine call_enumerate_list n.isList fun y l x _ v=>?_;have j:c.heap.objs.size+1≠c.heap.objs.size:=Nat.succ_ne_self _;refine wpAny_pyIter_enum l ?_;refine⟨c.heap.objs.size+1,[c.heap.objs.size+1,c.heap.objs.size],_,_,H1,rfl,i.kept (t':=c.toks) v,y0 a _ _ j,⟨⟨_,l⟩,x⟩,fun b hb=>?_,q⟩;have f:c.heap.objs.size<=b:=by
  rcases h9.mp hb with rfl | hb
  ·exact le_succ _
  ·have:b=c.heap.objs.size:=by simpa using hb
   rw[this];exact ed _
 exact i.vk f (i.bh.fresh f)
theorem SM (S:Sc X N W G)(g:Nat)(hm:X.mg "enumerate"=none)(hK:X.K=K)(ha:QB X [e] t)(hg:G[g]?=some "enumerate":=by rfl):QI X (.Tuple elts x1 tpos) (.Call (.Name "enumerate" p) [e] [] pos) (Oo K t):=⟨Oq S g hm hK ha.h hg⟩
variable {R:It->Hp->Prop}
theorem Gv {ta:TA}{σ:St} :Oo K ta σ H R=ta σ H fun vs H1=>∃ a,vs=[.ref a]/\(∃ xs,aw K H1 a xs)/\R (Ke K a) H1:=rfl
theorem Rb {us:List V}{i j:Nat}{tb:TS}{D:Ends}{σ:St}(I:Nat->St->Hp->Prop)(h:aw K H a us)(h0:I 0 σ H)(hl:∀ i σ H,I i σ H->aw K H a us)
  (step:∀ k v σ H H2,us[k]?=some v->I k σ H->ah H H2->tb {D with nx:=I (k+1),ct:=I (k+1),bk:=D.nx} ((σ.set i (some (.int k))).set j (some v)) H2)
  (fin:∀ σ H,I us.length σ H->D.nx σ H):∃ b,[V.ref a]=[.ref b]/\(∃ xs,aw K H b xs)/\qc (nj K 2 (dc (bB i) (dc (bB j) ni))) tb D σ (Ke K b) H:=by
 refine⟨a,rfl,⟨_,h⟩,fun k m σ H=>m=us.length - k/\k<=us.length/\I k σ H,⟨us.length,by simp,zero_le _,h0⟩,?_⟩
 rintro k m σ H ⟨rfl,hk,p⟩;have q:=hl k σ H p
 by_cases c:k<us.length
 ·obtain⟨v,hx⟩:∃ v,us[k]?=some v:=⟨_,cc c⟩;refine .inr ⟨⟨_,_,q,hx⟩,I (k+1),fun l g f=>⟨us.length - (k+1),by omega,rfl,c,f⟩,fun x g y=>?_⟩
  obtain⟨t,n,hn,rfl,rfl,d⟩:=y
  have:=d _ q
  rw[hx] at this;cases this
  refine⟨t,[.int k,v],rfl,aE.of ag,rfl,?_⟩;exact⟨_,_,rfl,_,_,rfl,rfl,step k v σ H _ hx p (ah.new hn _)⟩
 ·have e:k=us.length:=by omega
  subst e;exact .inl ⟨⟨_,q,rfl⟩,fin σ H p⟩
theorem Rc {pos:Pos}(hu:X.A.units+1<cLine)(hi:QE X i ty)(ho:QE X o td)(hm:behindInMarks .In o=false):QT X (.Compare i [.In] [o] pos) (tB (Jp ty td)):=⟨DY (EA hu hi.h ho.h) hm⟩
def oU:Nat->List Str->List (Key × V)
 | _,[]=>[]
 | k,x::r=>(Sum.inr x,.int (k:Int))::oU (k+1) r
theorem tV:∀ (k:Nat) (ns:List Str),(oU k ns).length=ns.length
 | _,[]=>rfl
 | k,x::r=>by rw[oU,ot,tV,ot]
theorem wq:∀ (k:Nat) (ns:List Str),(oU k ns).map (fun p=>kV p.1)=ns.map V.str
 | _,[]=>rfl
 | k,x::r=>by rw[oU,pS,wq,pS];rfl
theorem wt:∀ (k:Nat) (ns:List Str) (x:Str),oU k (ns++[x])=oU k ns++[(Sum.inr x,.int ((k+ns.length:Nat):Int))]
 | k,[],x=>rfl
 | k,y::r,x=>by
  rw[cons_append,oU,wt,oU,ot,show k+1+r.length=k+(r.length+1) by omega]
  rfl
theorem nP (x:Str):∀ (k:Nat) (ns:List Str),cY (oU k ns) (Sum.inr x)=if x∈ns then some (.int ((k+ns.idxOf x:Nat):Int)) else none
 | _,[]=>rfl
 | k,y::r=>by
  rw[oU]
  by_cases e:y=x
  ·subst e;rw[cL rfl,if_pos fO,List.idxOf_cons_self]
   rfl
  ·rw[cM (fun z=>e (Sum.inr.inj z)),nP x (k+1) r]
   by_cases m:x∈r
   ·have a:List.idxOf x (y::r)=List.idxOf x r+1:=by
     rw[idxOf_cons,show (y == x)=false from Da.mpr e];rfl
    rw[if_pos m,if_pos (fA _ m),a,show k+1+List.idxOf x r=k+(List.idxOf x r+1) by omega]
   ·rw[if_neg m,if_neg (fun z=>(h9.mp z).elim (fun z=>e z.symm) m)]
def DN (H:Hp)(d:Addr)(ns:List Str):Prop:=H d=some (.dK (oU 0 ns))
variable {ns:List Str}
theorem wu {d:Addr}{x:Str}(h:DN H d ns)(m:x∈ns):jS H d (.str x) (some (.int (ns.idxOf x:Nat))):=by
 have:=jS.k (k:=Sum.inr x) h
 rw[nP,if_pos m,Nat.zero_add] at this;exact this
theorem Ot {d:Addr}{x:Str}(h:DN H d ns)(m:x∉ns):jS H d (.str x) none:=by
 have:=jS.k (k:=Sum.inr x) h
 rw[nP,if_neg m] at this;exact this
theorem Gw {Q:Hp->Prop}{d:Addr}{x:Str}{k:Int}(h:DN H d ns)(hk:k=(ns.length:Nat))(m:x∉ns)(hl:ns.length<sizeLine)(q:Q (upd H d (.dK (oU 0 (ns++[x]))))):∃ a H4,V.ref d=.ref a/\sV H a (.str x) (.int k) H4/\Q H4:=by
 subst hk;refine⟨d,_,rfl,sV.k (k:=Sum.inr x) h (by rw[tV];exact hl),?_⟩
 rw[Ex _ (by rw[nP,if_neg m]),show ((ns.length:Nat):Int)=((0+ns.length:Nat):Int) by rw[Nat.zero_add],<-wt]
 exact q
theorem wx {d:Addr}(h:DN H d ns)(q:Q (.int (ns.length:Nat)) H):Mb [.ref d] H Q:=⟨d,_,rfl,h,by rw[tV];exact q⟩
inductive Ln where
 | dS (n:Str) (c:Nat)
 | sees (n:Str) (l:List Str)
def lr:Ln->List Str
 | .dS n c=>[Str.ofString "hat",n,jG c]
 | .sees n l=>Str.ofString "sees"::n::l
def lu (x:Ln):Str:=Str.join ⟨#[32]⟩ (lr x)
def jW:Ln->Prop
 | .dS n c=>bG n=true/\0<c/\c<10 ^ 30
 | .sees n l=>SK (n::l)
structure Bk where
 ns:List Str
 cs:List Nat
 ws:List Nat
def mQ (ns l:List Str):Nat:=(l.map fun y=>2 ^ ns.idxOf y).sum
def jL (b:Bk):Ln->Option Bk
 | .dS n c=>if n∉b.ns/\b.ns.length<8 then some ⟨b.ns++[n],b.cs++[c],b.ws++[0]⟩ else none
 | .sees n l=>if n∈b.ns/\b.ws.getD (b.ns.idxOf n) 0=0/\∀ y∈l,y∈b.ns then some ⟨b.ns,b.cs,b.ws.set (b.ns.idxOf n) (mQ b.ns l)⟩ else none
variable {b b2:Bk}
theorem CK {c:Nat}(h:jL b (.dS n c)=some b2):n∉b.ns/\b.ns.length<8/\b2=⟨b.ns++[n],b.cs++[c],b.ws++[0]⟩:=by
 have h:(if n∉b.ns/\b.ns.length<8 then some (⟨b.ns++[n],b.cs++[c],b.ws++[0]⟩:Bk) else none)=some b2:=h
 by_cases a:n∉b.ns/\b.ns.length<8
 ·rw[if_pos a] at h;exact⟨a.1,a.2,(tz h).symm⟩
 ·rw[if_neg a] at h;cases h
theorem za {l:List Str}(h:jL b (.sees n l)=some b2):n∈b.ns/\b.ws.getD (b.ns.idxOf n) 0=0/\(∀ y∈l,y∈b.ns)/\b2=⟨b.ns,b.cs,b.ws.set (b.ns.idxOf n) (mQ b.ns l)⟩:=by
 have h:(if n∈b.ns/\b.ws.getD (b.ns.idxOf n) 0=0/\∀ y∈l,y∈b.ns then some (⟨b.ns,b.cs,b.ws.set (b.ns.idxOf n) (mQ b.ns l)⟩:Bk) else none)=some b2:=h
 by_cases a:n∈b.ns/\b.ws.getD (b.ns.idxOf n) 0=0/\∀ y∈l,y∈b.ns
 ·rw[if_pos a] at h;exact⟨a.1,a.2.1,a.2.2,(tz h).symm⟩
 ·rw[if_neg a] at h;cases h
def dI:Bk->List Ln->Option Bk
 | b,[]=>some b
 | b,x::r=>(jL b x).bind fun a=>dI a r
theorem gZ:∀ (b:Bk) (l r:List Ln),dI b (l++r)=(dI b l).bind fun b'=>dI b' r
 | b,[],r=>rfl
 | b,x::l,r=>by
  rw[cons_append,dI,dI]
  cases jL b x with
  | none=>rfl
  | some b'=>exact gZ b' l r
variable {x:Ln}{L:List Ln}
theorem zb {b0:Bk}{k:Nat}(h:dI b0 L=some b)(hx:L[k]?=some x):∃ b1 b2,dI b0 (L.take k)=some b1/\jL b1 x=some b2/\dI b0 (L.take (k+1))=some b2:=by
 have e:L=L.take k++x::L.drop (k+1):=by
  have hk:k<L.length:=(nt.mp hx).1
  have:=TZ k L
  rw[List.drop_eq_getElem_cons hk] at this;rw[(nt.mp hx).2] at this;exact this.symm
 rw[e,gZ] at h
 cases h1:dI b0 (L.take k) with
 | none=>rw[h1] at h;cases h
 | some b1=>
  rw[h1] at h;have h:(jL b1 x).bind (fun c=>dI c (L.drop (k+1)))=some b:=h
  cases a:jL b1 x with
  | none=>rw[a] at h;cases h
  | some b2=>
   refine⟨b1,b2,rfl,a,?_⟩;rw[List.take_add_one,hx,Option.toList_some,gZ,h1];show (jL b1 x).bind (fun c=>dI c [])=_;rw[a];rfl
theorem zd {α:Type}(g:Str->α)(l:List Str):((List.range l.length).map fun i=>g (l.getD i aX))=l.map g:=by
 apply KM
 intro i
 by_cases hi:i<l.length
 ·rw[eG,xH hi,eG,cc hi];show some (g (l.getD i aX))=some (g l[i]);rw[b5,cc hi];rfl
 ·rw[mo (by rw[b7,j9];omega),mo (by rw[b7];omega)]
theorem r9 {α:Type}(f:α->Nat):∀ l:List α,(l.map fun i=>((f i:Nat):Int)).sum=((l.map f).sum:Nat)
 | []=>rfl
 | x::r=>by rw[pS,Tz,r9 f r,pS,Tz];rfl
theorem Gx (ns l:List Str):((List.range l.length).map fun i=>((2 ^ ns.idxOf (l.getD i aX):Nat):Int)).sum=(mQ ns l:Nat):=by
 rw[r9 (fun i=>2 ^ ns.idxOf (l.getD i aX)),zd (fun y=>2 ^ ns.idxOf y)];rfl
theorem Gy (ws:List Nat)(i m:Nat):((aA ws).map V.int).set i (.int (m:Int))=(aA (ws.set i m)).map V.int:=by
 unfold aA;rw[List.map_set,List.map_set]
theorem oX (ws:List Nat)(m:Nat):(aA ws).map V.int++[.int (m:Int)]=(aA (ws++[m])).map V.int:=by
 unfold aA;rw[hU,hU];rfl
theorem g4 (h:jW x):(∀ y∈lr x,32∉cz y/\10∉cz y/\y.length<=30)/\(lr x).length<=41/\3<=(lr x).length:=by
 cases x with
 | dS n c=>exact⟨CH h.1 h.2.1 h.2.2,by show 3<=41;decide,ed 3⟩
 | sees n l=>exact⟨yZ h.nm,Nat.succ_le_succ h.eD,Nat.succ_le_succ h.two⟩
theorem sf {c d:Nat}(hcd:d≠c):∀ {l:List Str},(∀ y∈l,d∉cz y)->d∉cz (Str.join ⟨#[c]⟩ l)
 | [],_=>by show d∉([]:List Nat);simp
 | [x],h=>h x fO
 | x::y::r,h=>by
  rw[bO];intro z
  rcases kb.mp z with z | z
  ·rcases kb.mp z with z | z
   ·exact h x fO z
   ·exact hcd (by simpa using z)
  ·exact sf hcd (fun y hy=>h y (fA _ hy)) z
theorem Gz (h:jW x):10∉cz (lu x):=sf (by decide) fun y hy=>((g4 h).1 y hy).2.1
theorem fE (h:jW x):(lu x).length<=1271:=by
 have h1:=oS 32 (lr x);have c:=et 30 (lr x) fun y hy=>((g4 h).1 y hy).2.2;have a:=(g4 h).2.1;have b:(lr x).length*31<=41*31:=A2 _ a;unfold lu
 omega
theorem Kf (x:Ln):0<(lu x).length:=by
 cases x with
 | dS n c=>
  have e:(lu (.dS n c)).length=(cz (Str.join ⟨#[32]⟩ [Str.ofString "hat",n,jG c])).length:=aM _;rw[e,bO,fz,fz];show 0<_+1+_
  omega
 | sees n l=>
  have e:(lu (.sees n l)).length=(cz (Str.join ⟨#[32]⟩ (Str.ofString "sees"::n::l))).length:=aM _;rw[e,bO,fz,fz];show 0<_+1+_
  omega
def eV (L:List Ln):Str:=Str.join ⟨#[10]⟩ (L.map lu)
def kU (z:Str):List Str:=if z=Str.ofString "" then [] else Txt.split z ⟨#[10]⟩
theorem g5 (h:∀ x∈L,jW x):kU (eV L)=L.map lu:=by
 cases L with
 | nil=>rfl
 | cons x r=>
  have a:0<(eV (x::r)).length:=by
   have h1:=lQ 10 (l:=(x::r).map lu) (x:=lu x) (by simp)
   have b:=Kf x;unfold eV
   omega
  unfold kU;rw[if_neg (fun z=>by rw[z] at a;exact absurd a (by decide +kernel))]
  exact eL 10 (by simp) fun y hy=>by
   obtain⟨u,hu,rfl⟩:=kc.mp hy;exact Gz (h u hu)
theorem fF (h:∀ x∈L,jW x)(hl:L.length<=100):(eV L).length<=127200:=by
 have h1:=oS 10 (L.map lu);have a:=et 1271 (L.map lu) fun y hy=>by
  obtain⟨u,hu,rfl⟩:=kc.mp hy;exact fE (h u hu)
 rw[b7] at a;have b:L.length*1272<=100*1272:=A2 _ hl;unfold eV
 omega
def wy:Sp:=fun a H Q _=>∃ (d:Addr) (ns:List Str) (x:Str) (i:Int),a=[.ref d,.str x,.int i]/\DN H d ns/\x∉ns/\ns.length<8/\Q .bx (upd H d (.dK (oU 0 (ns++[x]))))
def oY (K:Frag):Sp:=fun a H Q _=>∃ (d w t:Addr) (ns l:List Str) (ws:List Nat) (x:Str) (i:Int),a=[.ref d,.ref w,.str x,.ref t,.int i]/\DN H d ns/\H w=some (.lst ((aA ws).map V.int))/\ws.length=ns.length/\ns.length<=8/\x∈ns/\ws.getD (ns.idxOf x) 0=0/\H t=some (.tup (l.map V.str))/\(∀ y∈l,y∈ns)/\l.length<=40/\
 ∀ H1,ah H H1->Q .bx (upd H1 w (.lst ((aA (ws.set (ns.idxOf x) (mQ ns l))).map V.int)))
def ze:Sp:=fun a H Q _=>∃ z:Str,a=[.str z]/\z.length<=1000000/\(kU z).length<=900/\∀ l H',ah H H'->H l=none->H' l=some (.lst ((kU z).map V.str))->Q (.ref l) H'
structure S8 (H:Hp)(d c w:Addr)(b:Bk):Prop where
 hd:DN H d b.ns
 hc:H c=some (.lst ((aA b.cs).map V.int))
 hw:H w=some (.lst ((aA b.ws).map V.int))
 lw:b.ws.length=b.ns.length
 lc:b.cs.length=b.ns.length
 eD:b.ns.length<=8
def Rf (H0:Hp)(z:Str)(d c w r:Addr)(L:List Ln)(k:Nat)(σ:St)(H:Hp):Prop:=∃ (b:Bk) (y1 y2 y3:Option V),σ=[some (.str z),some (.ref d),some (.ref c),some (.ref w),y1,y2,y3]/\ah H0 H/\H r=some (.lst ((L.map lu).map V.str))/\dI ⟨[],[],[]⟩ (L.take k)=some b/\S8 H d c w b
theorem Kg {i:Int}{E:XK}(h:jW x)(q1:∀ n c f H',x=.dS n c->ah H H'->Ra H' f n (c:Int)->Q (.ref f) H')(q2:∀ n l f H',x=.sees n l->ah H H'->Oi H' f n l->Q (.ref f) H'):yW K [.str (lu x),.int i] H Q E:=by
 have e:=fE h;have b:=g4 h;have d:Txt.split (lu x) ⟨#[32]⟩=lr x:=eL 32 (by intro z;rw[z] at b;exact absurd b.2.2 (by decide)) fun y hy=>(b.1 y hy).1
 refine⟨_,i,_,rfl,by omega,d,by omega,?_⟩
 cases x with
 | dS n c=>exact .inl ⟨Oj h.1 h.2.1 h.2.2,c,(dA h.2.1 h.2.2).2,fun f H' s a=>q1 n c f H' rfl s a⟩
 | sees n l=>exact .inr ⟨Gr _,Kc h.two h.nm,h.nd,fun f u H' s a hu=>q2 n l f H' rfl s ⟨u,a,hu⟩⟩
theorem Mc {it t:Addr}{items:Array Value}(hne:t≠it):∀ (n i:Nat) (s:Shared) (Q:List Value->Shared->Prop),s.heap.IsListIter it t i->s.heap.IsList t items->i+n<=items.size->
  (∀ h',h'.IsListIter it t (i+n)->SameBut it s.heap h'->Q ((items.toList.drop i).take n) {s with heap:=h'})->wpAny (model prog w) A (draw (.ref it) n) Q E s
 | 0,i,s,Q,a,_,_,f=>by
  show wpAny _ _ (pure []) Q E s;exact gc (by simpa using f s.heap a (Heap.SameBut.refl ..))
 | n+1,i,s,Q,a,h,m,f=>by
  have b:i<items.size:=by omega
  show wpAny _ _ (pyNext (.ref it) >>= _) Q E s;refine dy (wpAny_pyNext_list_item a h (x:=items[i]) (by simp[b]) fun o c d=>?_)
  refine dy (TX (Mc hne n (i+1) _ _ c (h.extBut d.extBut hne) (by omega) fun j e g=>gc ?_))
  have l:items.toList.drop i=items[i]::items.toList.drop (i+1):=by simp[List.drop_eq_getElem_cons,b]
  have:=f j (by rw[show i+(n+1)=i+1+n by omega];exact e) (d.trans g)
  rw[l,List.take_succ_cons] at this;exact this
variable {t:Addr}
theorem tW {items:Array Value}{Q:List Value->Shared->Prop}(hh:A.handled=none)(ht:s.heap.IsList t items)
  (hQ:∀ h',ExtBut s.heap.objs.size s.heap h'->Q items.toList {s with heap:=h'}):wpAny (model prog w) A (unpackItems (.ref t) items.size none) Q E s:=by
 have a:t≠s.heap.objs.size:=by obtain⟨o,j,_⟩:=ht;exact mv (lt_size j)
 unfold unpackItems;refine dy ?_
 ·unfold notIterableAtAll;refine dy (wpAny_specialOf ht.typeIs F.slot_list_iter.lookup ?_);refine gc ?_;simp only[Bool.false_eq_true,if_false];refine dy (TX (TN ht ?_));refine dy (TX (Mc a items.size 0 _ _ ⟨_,ih _ rfl,rfl,rfl⟩ (ht.push _) (by omega) fun i c d=>?_))
  have h:List.take items.size (List.drop 0 items.toList)=items.toList:=by
   rw[drop_zero];exact FB (by simp)
  rw[h];rw[if_neg (by simp)]
  have g:i.IsList t items:=(ht.push _).extBut d.extBut a;refine dy (TX (wpAny_pyNext_list_end hh c g (by simp) fun l f=>?_))
  simp only[isSome_none,Bool.false_eq_true,if_false];refine gc (hQ l fun b o hb e=>f b o hb (d.extBut b o hb (ey _ e)))
theorem Kh {env:Env}{x1}{pos:Pos}{items:Array Value}{Q:Unit->Shared->Prop}(hh:A.handled=none)(ht:s.heap.IsList t items)
  (hn:(assignEach elts env).length=items.size) (hstar:(assignEach elts env).findIdx? (·.1)=none)
  (h:∀ h',ExtBut s.heap.objs.size s.heap h'->wpAny (model prog w) A (assignInOrder ((assignEach elts env).map (·.2)) items.toList) Q E {s with heap:=h'}) :
  wpAny (model prog w) A (assign (.Tuple elts x1 pos) env (.ref t)) Q E s:=by
 rw[assign_Tuple];refine dy (wpAny_standAt ?_);unfold unpack;rw[hn,hstar];exact dy (TX (tW hh ht h))
def Ou (K:Frag)(n:Nat)(t:Ao):TG:=fun v σ H Q=>∃ a xs,v=.ref a/\aw K H a xs/\xs.length=n/\t xs σ H Q
variable {t:Ao}{n:Nat}
theorem Ov {es:List Expr}{k:Nat}(hc:X.calm=true)(h:O3 X es t)
  (hn:(assignEach es X.env).length=n:=by rfl) (hst:(assignEach es X.env).findIdx? (·.1)=none:=by rfl):PG X (.Tuple es k pos) (Ou X.K n t):=by
 intro c s σ H v u Q I r d;obtain⟨a,p,l,hq,q,d⟩:=d;subst l
 cases r
 obtain⟨m,f,j,hz⟩:=I.list hq;refine Kh (I.ok.hd hc) j.isList (by simp[hn,<-q,f.length]) hst fun g hx=>?_
 have i:Inv X c σ H {s with heap:=g}:=I.kept (t':=s.toks) fun b o e=>hx b o (mv (lt_size e)) e;exact h c _ σ H p _ Q i (by simpa using f) d
theorem GA {es:List Expr}{kk:Nat}{tgs:Ao}(hc:X.calm=true)(hK:X.K=K)(h:Qf X es tgs)(hn:(assignEach es X.env).length=n:=by rfl)(hst:(assignEach es X.env).findIdx? (·.1)=none:=by rfl):QG X (.Tuple es kk pos) (Ou K n tgs):=⟨by subst hK;exact Ov hc h.h hn hst⟩
theorem GB {v:V}{σ:St}{Q:St->Hp->Prop}:Ou K n t v σ H Q=∃ a xs,v=.ref a/\aw K H a xs/\xs.length=n/\t xs σ H Q:=rfl
def dJ {α:Type}(l:List α)(k:Nat)(x:α):List α:=l.take k++x::l.drop k
def Ki:V->List V->Hp->VK->Prop:=fun x a H Q=>∃ (l:Addr) (xs:List V) (k:Nat) (y:V),x=.ref l/\a=[.int (k:Int),y]/\H l=some (.lst xs)/\xs.length<1000000/\k<=xs.length/\Q .bx (upd H l (.lst (dJ xs k y)))
theorem Kj {x y:V}{us:List Value}(r:Vals [x,y] us):∃ u v,us=[u,v]/\RelV x u/\RelV y v:=by
 cases r with
 | cons a r=>cases r with
  | cons b r=>cases r;exact⟨_,_,rfl,a,b⟩
theorem GC {k:Nat}(h:k<=1000000):¬(!Builtin.List.listFitsIndex (k:Int))=true:=by
 have:Builtin.List.listFitsIndex (k:Int)=true:=by
  unfold Builtin.List.listFitsIndex;rw[gz];have a:(2:Int) ^ 63=9223372036854775808:=by decide
  exact⟨ea (by rw[a];omega),ea (by rw[a];omega)⟩
 rw[this];decide
theorem Bj {α β:Type}{F:α->β->Prop}{a:α}{b:β}:∀ {l₁:List α} {l₂:List β} (k:Nat),Paired F l₁ l₂->F a b->Paired F (dJ l₁ k a) (dJ l₂ k b)
 | _,_,0,r,h=>.cons h r
 | [],_,k+1,.nil,h=>.cons h .nil
 | _::_,_::_,k+1,.cons c r,h=>.cons c (Bj k r h)
theorem CL:S3 X "list.insert" Ki:=by
 intro j s σ H x B v C Q I m p h;obtain⟨l,A,k,y,rfl,rfl,g,hz,hk,q⟩:=h
 cases m
 obtain⟨u,w,rfl,⟨t,rfl⟩,c⟩:=Kj p;obtain⟨z,a,n,r,D,e⟩:=I.Nw g;have i:=r.length;have o:(1000002:Nat)<=sizeLine:=by decide
 have f:a.toArray.size<=sizeLine:=by rw[gd];omega
 have b:=GC (k:=k) (by omega)
 generalize d:(k:Int)=ki at b ⊢;have M:=PySem.AutoSeq1.list_insert_list_int_val_1 l a.toArray n ki t w b f;refine TB F.slot_list_insert ⟨_,e,rfl⟩ F.entry_list_insert (F.args_list_insert_3 _ _ _) M ⟨e,?_⟩;refine⟨.bx,_,I.PD (its':=dJ a k w) g e ?_ (Bj k r c) ?_,rfl,q⟩
 ·subst d;show (a.toArray.extract 0 (if (k:Int)<0 then ((k:Int)+(a.toArray.size:Int)).toNat else min (k:Int).toNat a.toArray.size)).push w++a.toArray.extract (if (k:Int)<0 then ((k:Int)+(a.toArray.size:Int)).toNat else min (k:Int).toNat a.toArray.size)=_
  rw[if_neg (by omega),u5,gd,Nat.min_eq_left (by omega)]
  apply Array.toList_inj.mp
  simp[dJ]
  exact FB (by rw[vr];omega)
 ·unfold dJ;rw[fz,ot,xx,vr]
  omega
def isStr (k:Str):Value->Bool
 | .str x _=>x == k
 | _=>false
theorem oZ (k:Str):∀ {xs:List Str} {vs:List Value},Vals (xs.map V.str) vs->∀ (j:Nat) (h1:j<vs.length) (h2:j<xs.length),isStr k vs[j]=(xs[j] == k)
 | x::xs,_,.cons ⟨t,rfl⟩ r,0,_,_=>rfl
 | x::xs,_,.cons ⟨t,rfl⟩ r,j+1,h1,h2=>oZ k r j (Nat.lt_of_succ_lt_succ h1) (Nat.lt_of_succ_lt_succ h2)
theorem wz (k:Str)(t:Tok){A:Around}{s:Shared}:∀ {xs:List Str} {vs:List Value},Vals (xs.map V.str) vs->∀ y,y∈vs->EqAt A s y (.str k t) (isStr k y)
 | [],_,.nil,_,hy=>nomatch hy
 | x::xs,_,.cons ⟨u,rfl⟩ r,y,hy=>by
  rcases h9.mp hy with rfl | hy
  ·exact PySem.SeqAt.EqAt.str_str x u k t
  ·exact wz k t r y hy
theorem Bl {k:Str}{j:Nat}(h:j<ns.idxOf k)(h2:j<ns.length):(ns[j] == k)=false:=by
 have:=List.not_of_lt_findIdx (p:=(· == k)) h
 simpa using this
def Kk (K:Frag):V->List V->Hp->VK->Prop:=fun x a H Q=>∃ (l:Addr) (ns:List Str) (k:Str),x=.ref l/\a=[.str k]/\aw K H l (ns.map V.str)/\k∈ns/\Q (.int (ns.idxOf k:Nat)) H
theorem lT (hK:X.K=K):xM X "list.index" (Kk K):=by
 subst hK;intro A s σ H x N v O Q I E L h;obtain⟨l,e,k,rfl,rfl,M,hk,q⟩:=h
 cases E
 obtain⟨u,rfl,G⟩:=L.one;obtain⟨t,rfl⟩:=G;obtain⟨g,r,J,hz⟩:=I.list M;obtain⟨⟨D,B,o,C⟩,i,w,n,m⟩:=id J.isList
 simp only at w m
 subst w m;have c:=r.length;rw[b7] at c;have d:e.idxOf k<e.length:=GE.mpr hk;rw[b7] at hz;have p:sizeLine<2 ^ 62:=by decide
 refine TB slot_list_index ⟨_,i,rfl⟩ PySem.F.entry_list_index (PySem.F.args_list_index_2 _ _) (list_indexAt l g.toArray n B C (.str k t) (isStr k) (e.idxOf k) (by rw[gd,<-c];exact d) (by omega) ?a ?b) ⟨i,fun y hy=>wz k t r y (by simpa using hy),?_⟩
 case a=>
  have z:=oZ k r (e.idxOf k) (by rw[<-c];exact d) d
  rw[Ul d,Up] at z;exact z
 case b=>
  intro j hj f;have z:=oZ k r j (by simpa using hj) (by omega)
  rw[Bl f] at z;exact z
 exact⟨.int _,H,I.tok _,⟨_,rfl⟩,q⟩
structure jA (ns:List Str)(cs ws:List Nat):Prop where
 nm:Iv ns 8
 lc:cs.length=ns.length
 lw:ws.length=ns.length
 SY:∀ c∈cs,0<c/\c<10 ^ 30
 R1:∀ j,j<ns.length->ws.getD j 0<2 ^ ns.length
 MA:∀ j,j<ns.length->ws.getD j 0 / 2 ^ j % 2=0
def mR (H:Hp)(b:Addr)(ns:List Str)(cs ws:List Nat):Prop:=∃ a1 a2 a3,H b=some (.lst [.ref a1,.ref a2,.ref a3])/\H a1=some (.lst (ns.map V.str))/\H a2=some (.lst ((aA cs).map V.int))/\H a3=some (.lst ((aA ws).map V.int))
variable {cs:List Nat}
theorem mR.mono {H':Hp}{b:Addr}{ws:List Nat}(h:mR H b ns cs ws)(s:ah H H'):mR H' b ns cs ws:=by
 obtain⟨d,e,c,a,h1,f,g⟩:=h;exact⟨d,e,c,s _ _ a,s _ _ h1,s _ _ f,s _ _ g⟩
def iA (n w:Nat):List Nat:=(List.range n).filter fun j=>decide (w / 2 ^ j % 2=1)
theorem nQ (w:Nat):∀ n,((iA n w).map fun j=>2 ^ j).sum=w % 2 ^ n
 | 0=>by show 0=_;rw[Nat.pow_zero,Nat.mod_one]
 | n+1=>by
  have a:=nQ w n;unfold iA at a ⊢;rw[Gc,TC,hU,List.sum_append,a,Nat.mod_pow_succ]
  congr 1
  rcases Ua (w / 2 ^ n) with e | e
  ·rw[List.filter_cons_of_neg (by simp[e]),e];simp
  ·rw[List.filter_cons_of_pos (by simp[e]),e];simp
variable {w:Nat}
theorem jB {j:Nat}:j∈iA n w↔j<n/\w / 2 ^ j % 2=1:=by
 unfold iA;rw[qs,ka,decide_eq_true_iff]
theorem Ow (n w:Nat):(iA n w).Nodup:=Uo.sublist filter_sublist
inductive Mx where
 | dS (j:Nat)
 | sees (i:Nat) (l:List Nat)
def Mx.hi:Mx->Option Nat
 | .dS j=>some j
 | .sees _ _=>none
def Mx.si:Mx->Option Nat
 | .dS _=>none
 | .sees i _=>some i
def fH (ns:List Str)(cs:List Nat):Mx->Ln
 | .dS j=>.dS (ns.getD j aX) (cs.getD j 0)
 | .sees i l=>.sees (ns.getD i aX) (l.map fun j=>ns.getD j aX)
def tX:List Nat->List Mx->Prop
 | _,[]=>True
 | S,.dS j::r=>tX (S++[j]) r
 | S,.sees i l::r=>(i∈S/\∀ j∈l,j∈S)/\tX S r
theorem fI:∀ (S:List Nat) (A B:List Mx),tX S (A++B)↔tX S A/\tX (S++A.filterMap Mx.hi) B
 | S,[],B=>by simp[tX]
 | S,.dS j::A,B=>by
  show tX (S++[j]) (A++B)↔tX (S++[j]) A/\_;rw[fI,C4];show _↔_/\tX (S++(j::A.filterMap Mx.hi)) B;rw[q5];rfl
 | S,.sees i l::A,B=>by
  show (_/\tX S (A++B))↔(_/\tX S A)/\tX (S++(Mx.sees i l::A).filterMap Mx.hi) B;rw[fI,C4];exact and_assoc.symm
variable {i q:Nat}{M:List Mx}{l:List Nat}
theorem Kl (h:tX [] M)(hi:i∈(M.take q).filterMap Mx.hi)(hl:∀ j∈l,j∈(M.take q).filterMap Mx.hi):tX [] (dJ M q (.sees i l)):=by
 have a:=(fI [] (M.take q) (M.drop q)).mp (by rw[TZ];exact h)
 unfold dJ;refine(fI _ _ _).mpr ⟨a.1,⟨?_,a.2⟩⟩;rw[nil_append];exact⟨hi,hl⟩
theorem Ox:(dJ M q (.sees i l)).filterMap Mx.hi=M.filterMap Mx.hi:=by
 unfold dJ;rw[L1,C4];show _++(M.drop q).filterMap Mx.hi=_;rw[<-L1,TZ]
theorem GD:((dJ M q (.sees i l)).filterMap Mx.si).Perm (i::M.filterMap Mx.si):=by
 unfold dJ;rw[L1,C4];show ((M.take q).filterMap Mx.si++i::(M.drop q).filterMap Mx.si).Perm _;refine List.perm_middle.trans (List.Perm.cons _ ?_);rw[<-L1,TZ]
theorem Km {α:Type}{M:List α}{x y:α}:y∈dJ M q x↔y=x∨y∈M:=by
 unfold dJ;rw[kb,h9]
 constructor
 ·rintro(h | h | h)
  ·exact .inr (List.mem_of_mem_take h)
  ·exact .inl h
  ·exact .inr (mem_of_mem_drop h)
 ·rintro(h | h)
  ·exact .inr (.inl h)
  ·rw[<-TZ q M] at h
   rcases kb.mp h with z | z
   ·exact .inl z
   ·exact .inr (.inr z)
theorem Bm {α β:Type}(f:α->β)(M:List α)(q:Nat)(x:α):(dJ M q x).map f=dJ (M.map f) q (f x):=by
 unfold dJ;rw[hU,pS,map_take,Uv]
def stM (ns:List Str)(cs ws:List Nat)(h:Nat)(U:List Nat):Bk:=⟨ns.take h,cs.take h,(List.range h).map fun i=>if i∈U then ws.getD i 0 else 0⟩
variable {ws:List Nat}{h:Nat}
theorem tY (P:jA ns cs ws){j:Nat}(hj:j<h)(hh:h<=ns.length):ns.getD j aX∈ns.take h/\(ns.take h).idxOf (ns.getD j aX)=j:=by
 have a:(ns.take h).length=h:=by rw[xx];omega
 have e:ns.getD j aX=(ns.take h)[j]'(by omega):=by
  rw[getElem_take,b5,cc (by omega)];rfl
 rw[e];exact⟨p0 _,(P.nm.nd.sublist (take_sublist _ _)).idxOf_getElem _ _⟩
theorem lU {α:Type}{l:List α}(d:α)(hh:h<l.length):l.take (h+1)=l.take h++[l.getD h d]:=by
 rw[List.take_add_one,cc hh,b5,cc hh];rfl
theorem Kn (P:jA ns cs ws)(hl:∀ j∈l,j<h)(hh:h<=ns.length)(hp:l.Perm (iA ns.length (ws.getD i 0)))(hi:i<ns.length):mQ (ns.take h) (l.map fun j=>ns.getD j aX)=ws.getD i 0:=by
 unfold mQ;rw[ls];have e:l.map ((fun y=>2 ^ (ns.take h).idxOf y) ∘ fun j=>ns.getD j aX)=l.map fun j=>2 ^ j:=List.map_congr_left fun j hj=>by
  show 2 ^ _=_;rw[(tY P (hl j hj) hh).2]
 rw[e,(hp.map _).sum_nat,nQ,Uz (P.R1 i hi)]
theorem lV (P:jA ns cs ws):∀ (r:List Mx) (h:Nat) (U:List Nat),tX (List.range h) r->List.range h++r.filterMap Mx.hi=List.range ns.length->(U++r.filterMap Mx.si).Nodup->(∀ i∈U,i<h)->
  (∀ i l,Mx.sees i l∈r->l.Perm (iA ns.length (ws.getD i 0)))->dI (stM ns cs ws h U) (r.map (fH ns cs))=some (stM ns cs ws ns.length (U++r.filterMap Mx.si))
 | [],h,U,_,g,_,_,_=>by
  have e:h=ns.length:=by
   have:=On List.length g
   simpa using this
  rw[map_nil,List.filterMap_nil,Ui,e];rfl
 | .dS j::r,h,U,ok,g,o,p,n=>by
  have a:List.range h++j::r.filterMap Mx.hi=List.range ns.length:=g;have c:=On List.length a;rw[fz,ot,j9,j9] at c;have A:j=h:=by
   have this:(List.range h++j::r.filterMap Mx.hi)[h]?=(List.range ns.length)[h]?:=by rw[a]
   rw[BN (by simp),j9,Nat.sub_self,xH (by omega)] at this
   exact tz this
  subst A;have b:j<ns.length:=by omega
  have D:=P.nm.eD;have t:=lV P r (j+1) U (by rw[Gc];exact ok) (by rw[Gc,q5];exact a) o (fun i hi=>Uj (p i hi)) (fun i l hm=>n i l (fA _ hm))
  have B:(ns.take j).length=j:=by rw[xx];omega
  have d:ns.getD j aX∉ns.take j:=fun z=>by
   have e:ns.getD j aX=ns[j]:=by rw[b5,cc b];rfl
   rw[e] at z;obtain⟨k,hk,w⟩:=C2 z;rw[getElem_take] at w
   have:=(getElem_inj P.nm.nd).mp w
   omega
  have v:jL (stM ns cs ws j U) (fH ns cs (.dS j))=some (stM ns cs ws (j+1) U):=by
   show (if ns.getD j aX∉ns.take j/\(ns.take j).length<8 then some (⟨ns.take j++[ns.getD j aX],cs.take j++[cs.getD j 0],((List.range j).map fun i=>if i∈U then ws.getD i 0 else 0)++[0]⟩:Bk) else none)=_
   rw[if_pos ⟨d,by omega⟩,<-lU aX b,<-lU 0 (by rw[P.lc];exact b)]
   unfold stM;rw[Gc,hU];have hj:j∉U:=fun z=>M2 _ (p j z);show some (⟨_,_,_++[0]⟩:Bk)=some ⟨_,_,_++[if j∈U then ws.getD j 0 else 0]⟩
   rw[if_neg hj]
  rw[pS,dI,v];exact t
 | .sees i l::r,h,U,ok,g,o,p,n=>by
  obtain⟨⟨hi,q⟩,u⟩:=ok;have hi:i<h:=ka.mp hi;have q:∀ j∈l,j<h:=fun j hj=>ka.mp (q j hj);have a:List.range h++r.filterMap Mx.hi=List.range ns.length:=g;have hh:h<=ns.length:=by
   have:=On List.length a
   rw[fz,j9,j9] at this
   omega
  have f:(U++i::r.filterMap Mx.si).Nodup:=o;have s:i∉U:=fun z=>by
   have:=(Ue.mp f).2.2 i z i fO
   exact this rfl
  have t:=lV P r h (U++[i]) u a (by rw[q5];exact f) (fun k hk=>by
   rcases kb.mp hk with z | z
   ·exact p k z
   ·rw[eR.mp z];exact hi) (fun k m hm=>n k m (fA _ hm))
  have hn:=tY P hi hh;have v:jL (stM ns cs ws h U) (fH ns cs (.sees i l))=some (stM ns cs ws h (U++[i])):=by
   show (if ns.getD i aX∈ns.take h/\((List.range h).map fun i=>if i∈U then ws.getD i 0 else 0).getD ((ns.take h).idxOf (ns.getD i aX)) 0=0/\∀ y∈l.map (fun j=>ns.getD j aX),y∈ns.take h then some (⟨ns.take h,cs.take h,((List.range h).map fun i=>if i∈U then ws.getD i 0 else 0).set ((ns.take h).idxOf (ns.getD i aX)) (mQ (ns.take h) (l.map fun j=>ns.getD j aX))⟩:Bk) else none)=_
   rw[hn.2,Kn P q hh (n i l fO) (by omega)]
   have x:((List.range h).map fun i=>if i∈U then ws.getD i 0 else 0).getD i 0=0:=by
    rw[b5,eG,xH hi];show (if i∈U then _ else 0)=0
    rw[if_neg s]
   have C:∀ y∈l.map (fun j=>ns.getD j aX),y∈ns.take h:=by
    intro y hy;obtain⟨j,hj,rfl⟩:=kc.mp hy;exact(tY P (q j hj) hh).1
   rw[if_pos ⟨hn.1,x,C⟩];unfold stM
   congr 2
   apply KM
   intro k;rw[List.getElem?_set,eG,b7,j9]
   by_cases e:i=k
   ·subst e;rw[if_pos rfl,if_pos hi,eG,xH hi];show _=some (if i∈U++[i] then _ else _)
    rw[if_pos (by simp)]
   ·rw[if_neg e,eG]
    by_cases hk:k<h
    ·rw[xH hk];show some (if k∈U then _ else _)=some (if k∈U++[i] then _ else _)
     have:k∈U↔k∈U++[i]:=by
      rw[kb,eR];exact⟨.inl,fun z=>z.elim id fun z=>absurd z.symm e⟩
     simp only[this]
    ·rw[mo (by rw[j9];omega)]
     first | rfl | (rw[eG,mo (by rw[j9];omega)];rfl)
  rw[pS,dI,v];show dI _ _=some (stM ns cs ws ns.length (U++i::r.filterMap Mx.si));rw[show U++i::r.filterMap Mx.si=(U++[i])++r.filterMap Mx.si by rw[q5];rfl]
  exact t
structure dv (ns:List Str)(ws:List Nat)(done:Nat->Prop)(M:List Mx):Prop where
 ok:tX [] M
 eX:M.filterMap Mx.hi=List.range ns.length
 nd:(M.filterMap Mx.si).Nodup
 pm:∀ i l,Mx.sees i l∈M->l.Perm (iA ns.length (ws.getD i 0))/\i<ns.length/\l≠[]
 al:∀ i,i∈M.filterMap Mx.si↔done i/\i<ns.length/\iA ns.length (ws.getD i 0)≠[]
variable {done:Nat->Prop}
theorem dv.book (P:jA ns cs ws)(h:dv ns ws done M)(hd:∀ i,i<ns.length->done i):dI ⟨[],[],[]⟩ (M.map (fH ns cs))=some ⟨ns,cs,ws⟩:=by
 have:=lV P M 0 [] h.ok (by rw[range_zero,nil_append];exact h.eX) (by rw[nil_append];exact h.nd) (fun _ z=>nomatch z) (fun i l hm=>(h.pm i l hm).1)
 rw[nil_append] at this;have c:stM ns cs ws 0 []=⟨[],[],[]⟩:=by unfold stM;simp
 rw[c] at this;rw[this];unfold stM
 congr 2
 ·exact FB (ed _)
 ·exact FB (by rw[P.lc];exact ed _)
 ·apply KM
  intro k;rw[eG]
  by_cases hk:k<ns.length
  ·have b:k<ws.length:=by rw[P.lw];exact hk
   rw[xH hk,cc (by rw[P.lw];exact hk)]
   show some (if k∈M.filterMap Mx.si then ws.getD k 0 else 0)=some ws[k]
   have a:ws.getD k 0=ws[k]'(by rw[P.lw];exact hk):=by rw[b5,cc (by rw[P.lw];exact hk)];rfl
   by_cases hb:iA ns.length (ws.getD k 0)=[]
   ·rw[if_neg (fun z=>((h.al k).mp z).2.2 hb)]
    have:=nQ (ws.getD k 0) ns.length
    rw[hb,Uz (P.R1 k hk)] at this;rw[<-a,<-this];rfl
   ·rw[if_pos ((h.al k).mpr ⟨hd k hk,hk,hb⟩),a]
  ·rw[mo (by rw[j9];omega),mo (by rw[P.lw];omega)]
   rfl
abbrev eC (ns:List Str)(cs:List Nat)(x:Mx):Str:=lu (fH ns cs x)
theorem getD_inj (P:jA ns cs ws){j:Nat}(hi:i<ns.length)(hj:j<ns.length)(e:ns.getD i aX=ns.getD j aX):i=j:=by
 rw[b5,b5,cc hi,cc hj] at e;exact(getElem_inj P.nm.nd).mp e
theorem o8 (P:jA ns cs ws){j:Nat}(hj:j<ns.length):jW (fH ns cs (.dS j)):=by
 have hc:cs.getD j 0∈cs:=by
  rw[b5,cc (by rw[P.lc];exact hj)];exact p0 _
 exact⟨P.nm.nm _ (getD_memS hj),P.SY _ hc⟩
theorem GH (P:jA ns cs ws):∀ {l:List Nat},l.Nodup->(∀ j∈l,j<ns.length)->(l.map fun j=>ns.getD j aX).Nodup
 | [],_,_=>.nil
 | x::r,h,a=>by
  have b:=A6.mp h;rw[pS,A6];refine⟨fun z=>?_,GH P b.2 fun j hj=>a j (fA _ hj)⟩;obtain⟨j,hj,e⟩:=kc.mp z
  have:=getD_inj P (a j (fA _ hj)) (a x fO) e
  exact b.1 (this ▸ hj)
theorem nR (P:jA ns cs ws)(hi:i<ns.length)(hp:l.Perm (iA ns.length (ws.getD i 0)))(hl:l≠[]):jW (fH ns cs (.sees i l)):=by
 have hm:∀ j∈l,j<ns.length/\ws.getD i 0 / 2 ^ j % 2=1:=fun j hj=>jB.mp (hp.mem_iff.mp hj);have b:l.Nodup:=hp.nodup_iff.mpr (Ow _ _);have a:i∉l:=fun z=>by have:=(hm i z).2;rw[P.MA i hi] at this;cases this
 have c:l.length<=ns.length:=by
  rw[hp.length_eq];unfold iA
  have:=A5 (fun j=>decide (ws.getD i 0 / 2 ^ j % 2=1)) (List.range ns.length)
  rw[j9] at this;exact this
 have f:=P.nm.eD;have d:0<l.length:=Do.mpr hl;have e:(ns.getD i aX::l.map fun j=>ns.getD j aX)=(i::l).map fun j=>ns.getD j aX:=rfl;show SK (ns.getD i aX::l.map fun j=>ns.getD j aX);rw[e];refine⟨by rw[b7,ot];omega,by rw[b7,ot];omega,GH P (A6.mpr ⟨a,b⟩) ?_,?_⟩
 ·intro j hj
  rcases h9.mp hj with z | z
  ·rw[z];exact hi
  ·exact(hm j z).1
 ·intro x hx;obtain⟨j,hj,rfl⟩:=kc.mp hx
  rcases h9.mp hj with z | z
  ·rw[z];exact P.nm.nm _ (getD_memS hi)
  ·exact P.nm.nm _ (getD_memS (hm j z).1)
theorem tZ {j:Nat}:Mx.dS j∈M↔j∈M.filterMap Mx.hi:=by
 rw[List.mem_filterMap]
 constructor
 ·intro h;exact⟨_,h,rfl⟩
 ·rintro⟨x,hx,e⟩
  cases x with
  | dS k=>cases e;exact hx
  | sees i l=>cases e
theorem dv.o9 (P:jA ns cs ws)(h:dv ns ws done M):∀ x∈M,jW (fH ns cs x):=by
 intro x hx
 cases x with
 | dS j=>
  have:=tZ.mp hx
  rw[h.eX] at this;exact o8 P (ka.mp this)
 | sees i l=>exact nR P (h.pm i l hx).2.1 (h.pm i l hx).1 (h.pm i l hx).2.2
theorem dv.pb (P:jA ns cs ws)(h:dv ns ws done M):∀ x∈M.map (fH ns cs),jW x:=by
 intro x hx;obtain⟨y,hy,rfl⟩:=kc.mp hx;exact h.o9 P y hy
theorem GJ {y:Ln}(hx:jW x)(hy:jW y)(e:lu x=lu y):lr x=lr y:=by
 have f:∀ {z:Ln},jW z->Txt.split (lu z) ⟨#[32]⟩=lr z:=fun {z} hz=>eL 32 (by intro w;have:=(g4 hz).2.2;rw[w] at this;exact absurd this (by decide)) fun y hy=>((g4 hz).1 y hy).1
 rw[<-f hx,<-f hy,e]
theorem Oy (P:jA ns cs ws)(h:dv ns ws done M){x:Mx}{j:Nat}(hx:x∈M)(hj:j<ns.length)(e:eC ns cs x=eC ns cs (.dS j)):x=.dS j:=by
 have w:=GJ (h.o9 P x hx) (o8 P hj) e
 cases x with
 | dS k=>
  have hk:k<ns.length:=by
   have:=tZ.mp hx
   rw[h.eX] at this;exact ka.mp this
  have w:[Str.ofString "hat",ns.getD k aX,jG (cs.getD k 0)]=[Str.ofString "hat",ns.getD j aX,jG (cs.getD j 0)]:=w;have e2:ns.getD k aX=ns.getD j aX:=(Um (Um w).2).1;rw[getD_inj P hk hj e2]
 | sees i l=>
  have w:Str.ofString "sees"::_=Str.ofString "hat"::_:=w;exact absurd (Um w).1 (by decide +kernel)
theorem dv.idx (P:jA ns cs ws)(h:dv ns ws done M){j:Nat}(hj:j<ns.length):eC ns cs (.dS j)∈M.map (eC ns cs)/\(M.map (eC ns cs)).idxOf (eC ns cs (.dS j))<M.length/\∀ q,(M.map (eC ns cs)).idxOf (eC ns cs (.dS j))<q->j∈(M.take q).filterMap Mx.hi:=by
 have hm:Mx.dS j∈M:=tZ.mpr (by rw[h.eX];exact ka.mpr hj)
 have h1:eC ns cs (.dS j)∈M.map (eC ns cs):=kc.mpr ⟨_,hm,rfl⟩;have a:=GE.mpr h1;rw[b7] at a;refine⟨h1,a,fun q hq=>?_⟩;have e:=Ul (xs:=M.map (eC ns cs)) (x:=eC ns cs (.dS j)) (by rw[b7];exact a)
 rw[List.getElem_map] at e;have hx:=Oy P h (p0 a) hj e;refine tZ.mp ?_;rw[<-hx];refine hO (i:=(M.map (eC ns cs)).idxOf (eC ns cs (.dS j))) ?_;rw[List.getElem?_take_of_lt hq];exact cc a
theorem dv.start:dv ns ws (fun _=>False) ((List.range ns.length).map Mx.dS):=by
 have hh:∀ l:List Nat,(l.map Mx.dS).filterMap Mx.hi=l:=fun l=>by
  induction l with
  | nil=>rfl
  | cons a r b=>rw[pS,C4];show a::_=_;rw[b]
 have c:∀ l:List Nat,(l.map Mx.dS).filterMap Mx.si=[]:=fun l=>by
  induction l with
  | nil=>rfl
  | cons a r b=>rw[pS,C4];exact b
 have d:∀ (l S:List Nat),tX S (l.map Mx.dS):=fun l=>by
  induction l with
  | nil=>intro S;trivial
  | cons a r b=>intro S;exact b (S++[a])
 refine⟨d _ _,hh _,by rw[c];exact .nil,fun i l hm=>?_,fun i=>?_⟩
 ·obtain⟨k,_,e⟩:=kc.mp hm;cases e
 ·rw[c];exact⟨(fun z=>nomatch z),fun z=>z.1.elim⟩
theorem dv.ins {done done':Nat->Prop}{M:List Mx}(h:dv ns ws done M){q i:Nat}{l:List Nat}(hi:i<ns.length)(hd:¬ done i)(hp:l.Perm (iA ns.length (ws.getD i 0)))(hl:l≠[])(hq:∀ j∈i::l,j∈(M.take q).filterMap Mx.hi)(hdd:∀ x,done' x↔done x∨x=i) :
  dv ns ws done' (dJ M q (.sees i l)) where
 ok:=Kl h.ok (hq i fO) fun j hj=>hq j (fA _ hj)
 eX:=by rw[Ox];exact h.eX
 nd:=GD.nodup_iff.mpr (A6.mpr ⟨fun z=>hd ((h.al i).mp z).1,h.nd⟩)
 pm:=fun k m hm=>by
  rcases Km.mp hm with e | e
  ·cases e;exact⟨hp,hi,hl⟩
  ·exact h.pm k m e
 al:=fun k=>by
  rw[GD.mem_iff,h9,h.al k,hdd]
  constructor
  ·rintro(rfl | ⟨a,b,c⟩)
   ·exact⟨.inr rfl,hi,fun z=>hl (by rw[z] at hp;exact hp.eq_nil)⟩
   ·exact⟨.inl a,b,c⟩
  ·rintro⟨a | a,b,c⟩
   ·exact .inr ⟨a,b,c⟩
   ·exact .inl a
theorem dv.skip {done':Nat->Prop}(h:dv ns ws done M)(hb:iA ns.length (ws.getD i 0)=[])(hdd:∀ x,done' x↔done x∨x=i):dv ns ws done' M where
 ok:=h.ok
 eX:=h.eX
 nd:=h.nd
 pm:=h.pm
 al:=fun k=>by
  rw[h.al k,hdd]
  constructor
  ·rintro⟨a,b,c⟩;exact⟨.inl a,b,c⟩
  ·rintro⟨a | a,b,c⟩
   ·exact⟨a,b,c⟩
   ·rw[a] at c;exact absurd hb c
theorem dM {k:Nat}(h:k<l.length):((aA l).map V.int).getD k .bx=.int ((l.getD k 0:Nat):Int):=by
 unfold aA;rw[b5,eG,eG,cc h,b5,cc h];rfl
theorem cy {α:Type}(g:Nat->α)(l:List Nat):((List.range l.length).map fun i=>g (l.getD i 0))=l.map g:=by
 apply KM
 intro i
 by_cases hi:i<l.length
 ·rw[eG,xH hi,eG,cc hi];show some (g (l.getD i 0))=some (g l[i]);rw[b5,cc hi];rfl
 ·rw[mo (by rw[b7,j9];omega),mo (by rw[b7];omega)]
theorem dN {k:Nat}(h:k<l.length):l.getD k 0∈l:=by
 rw[b5,cc h];exact p0 h
def Bo (K:Frag):Sp:=fun a H Q _=>∃ (b dr:Addr) (ns:List Str) (cs ws:List Nat) (dn:List Int),a=[.ref b,.ref dr]/\mR H b ns cs ws/\jA ns cs ws/\H dr=some (.lst (dn.map V.int))/\dn.length=26/\(∀ x∈dn,0<=x)/\
 ∀ l M H',ah H H'->H' l=some (.lst ((M.map (eC ns cs)).map V.str))->dv ns ws (fun i=>i<ns.length) M->M.length<=16->Q (.ref l) H'
def Rg (H0:Hp)(b dr a1 a2 a3 l:Addr)(ns:List Str)(cs:List Nat)(k:Nat)(σ:St)(H:Hp):Prop:=∃ y6 y7 y8 y9 y10 y11 y12:Option V,σ=[some (.ref b),some (.ref dr),some (.ref a1),some (.ref a2),some (.ref a3),some (.ref l),y6,y7,y8,y9,y10,y11,y12]/\ah H0 H/\H l=some (.lst ((((List.range k).map Mx.dS).map (eC ns cs)).map V.str))
def Rh (H0:Hp)(b dr a1 a2 a3 l o:Addr)(ns:List Str)(cs ws od:List Nat)(k:Nat)(σ:St)(H:Hp):Prop:=∃ (M:List Mx) (y6 y8 y9 y10 y11 y12:Option V),σ=[some (.ref b),some (.ref dr),some (.ref a1),some (.ref a2),some (.ref a3),some (.ref l),y6,some (.ref o),y8,y9,y10,y11,y12]/\ah H0 H/\H o=some (.lst ((aA od).map V.int))/\H l=some (.lst ((M.map (eC ns cs)).map V.str))/\dv ns ws (fun i=>i∈od.take k) M/\M.length<=ns.length+k
def Ri (H0:Hp)(b dr a1 a2 a3 l:Addr)(ns:List Str)(cs:List Nat)(σ:St)(H:Hp):Prop:=∃ (o:Addr) (od:List Nat) (y6 y8 y9 y10 y11 y12:Option V),σ=[some (.ref b),some (.ref dr),some (.ref a1),some (.ref a2),some (.ref a3),some (.ref l),y6,some (.ref o),y8,y9,y10,y11,y12]/\ah H0 H/\H l=some (.lst ((((List.range ns.length).map Mx.dS).map (eC ns cs)).map V.str))/\H o=some (.lst ((aA od).map V.int))/\od.Perm (List.range ns.length)/\l≠o
def Rj (H0:Hp)(b dr a1 a2 a3 l o:Addr)(i:Nat)(bt:List Nat)(σ:St)(H:Hp):Prop:=∃ (s:Addr) (sm:List Nat) (y6 y10 y11 y12:Option V),σ=[some (.ref b),some (.ref dr),some (.ref a1),some (.ref a2),some (.ref a3),some (.ref l),y6,some (.ref o),some (.int (i:Int)),some (.ref s),y10,y11,y12]/\ah H0 H/\H s=some (.lst ((aA sm).map V.int))/\sm.Perm bt
variable {od:List Nat}
theorem CM {k:Nat}(hk:k<od.length)(x:Nat):x∈od.take (k+1)↔x∈od.take k∨x=od.getD k 0:=by
 rw[lU 0 hk,kb,eR]
theorem GK (nd:od.Nodup){k:Nat}(hk:k<od.length):od.getD k 0∉od.take k:=fun z=>by
 have e:od.getD k 0=od[k]:=by rw[b5,cc hk];rfl
 rw[e] at z;obtain⟨j,hj,a⟩:=C2 z;rw[getElem_take] at a;rw[xx] at hj
 have:=(getElem_inj nd).mp a
 omega
theorem eqvAll_refl (ns:List Int):PyData.eqvAll (ns.map PyData.int) (ns.map PyData.int)=true:=by rw[iJ];exact ea rfl
theorem Oz {tc:TT}{te:TE}{rest:St}{J:It}{H1:Hp}{item:Nat->V}(ok:yn J H1 n item)(hn:n<sizeLine)
  (step:∀ i H (B:Hp->Prop) (A:V->Hp->Prop),i<n->ah H1 H->B H->tc (some (item i)::rest) H fun b H3=>if b=true then te (some (item i)::rest) H3 A else B H3)
  (fin:∀ acc H,ah H1 H->H acc=some (.lst [])->Q (.ref acc) H):sW (bB 0) tc te (none::rest) Q J H1:=
 p5 ok (fun _=>false) (fun _=>.bx) hn (fun i H A B hi c _ d=>step i H B A hi c (d rfl _ (ah.refl _))) fun acc H _ c a=>fin acc H c (by rw[a];simp)
def Rk:V->Hp->VK->Prop:=fun x H Q=>(∃ y,x=.str y/\y.length<=sizeLine/\Q (.str y) H)∨(∃ i:Int,x=.int i/\i.natAbs.log2<1920/\Q (.str (Str.ofString (toString i))) H)
def Rl (tv:TE):TE:=fun σ H Q=>tv σ H fun x H1=>Rk x H1 Q
variable {v:Expr}{tv:TE}
theorem Ko (hv:QE X v tv):QE X (.FormattedValue v (-1) none pos) (Rl tv):=⟨by
 intro a s σ H Q I h;refine FormattedValue_plain (bW (hv.h a s σ H _ I h) fun u g ⟨x,H1,b,c,d⟩=>?_)
 rcases d with ⟨y,rfl,hy,q⟩ | ⟨i,rfl,hi,q⟩
 ·obtain⟨t,rfl⟩:=c;exact formatField_str (fun t' f=>⟨.str y,H1,b.kept (t':=f) fun _ _ e=>e,⟨_,rfl⟩,q⟩) hy
 ·obtain⟨t,rfl⟩:=c;exact formatField_int_small hi ⟨.str _,H1,b.kept (t':=_) fun _ _ e=>e,⟨_,rfl⟩,q⟩⟩
def O9:List TE->Str->TE
 | [],a=>fun _ H Q=>a.length<=sizeLine/\Q (.str a) H
 | t::r,a=>fun σ H Q=>t σ H fun x H1=>∃ y,x=.str y/\(a++y).length<=sizeLine/\O9 r (a++y) σ H1 Q
structure QJ (X:Cx)(es:List Expr)(ts:List TE):Prop where
 h:∀ (acc:Str) (pins:List (Addr × Obj)) (s:Shared) (σ:St) (H:Hp) (Q:VK),Inv X pins σ H s->O9 ts acc σ H Q->wpAny (model X.prog X.w) X.A (joinParts acc (evalEach es X.env)) (EP X pins σ Q) X.xe s
theorem GN:QJ X [] []:=⟨fun a b s σ H Q I h=>joinParts_nil ⟨.str a,H,I.tok _,⟨_,rfl⟩,h.2⟩ h.1⟩
variable {t:TE}{ts:List TE}
theorem g6 {es:List Expr}(he:QE X e t)(hr:QJ X es ts):QJ X (e::es) (t::ts):=⟨fun d a s σ H Q I h=>by
 refine joinParts_cons (x:=eval e X.env) (rest:=evalEach es X.env) (bW (he.h a s σ H _ I h) fun u f ⟨x,H1,b,g,c⟩=>?_);obtain⟨y,rfl,hy,q⟩:=c;obtain⟨i,rfl⟩:=g;exact⟨hy,hr.h _ a f σ H1 Q b q⟩⟩
theorem Md {e2:Expr}{es:List Expr}(h:QJ X (e::e2::es) ts):QE X (.JoinedStr (e::e2::es) pos) (O9 ts Str.empty):=⟨fun a s σ H Q I q=>JoinedStr_many (h.h Str.empty a s σ H Q I q)⟩
theorem Me {σ:St} :Rl tv σ H Q=tv σ H fun x H1=>Rk x H1 Q:=rfl
variable {acc:Str}
theorem Mf {σ:St} :O9 [] acc σ H Q=(acc.length<=sizeLine/\Q (.str acc) H):=rfl
theorem Mg {r:List TE}{σ:St} :O9 (t::r) acc σ H Q=t σ H fun x H1=>∃ y,x=.str y/\(acc++y).length<=sizeLine/\O9 r (acc++y) σ H1 Q:=rfl
def Mh (K:Frag):V->Int->Int->Hp->VK->Prop:=fun x a b H Q=>∃ l xs,x=.ref l/\aw K H l xs/\b≠0/\∀ (R:List Nat) p,H p=none->(R.filterMap fun i=>xs[i]?).length<=sizeLine->Q (.ref p) (upd H p (.lst (R.filterMap fun i=>xs[i]?)))
def GP (K:Frag)(te tl ts:TE):TE:=fun σ H Q=>te σ H fun x H1=>tl σ H1 fun y d=>∃ a,y=.int a/\ts σ d fun z c=>∃ b,z=.int b/\Mh K x a b c Q
theorem sh {xs:List V}{its:List Value}(r:Vals xs its):∀ R:List Nat,Vals (R.filterMap fun i=>xs[i]?) (R.filterMap fun i=>its[i]?)
 | []=>.nil
 | k::R=>by
  have a:=sh r R;have c:=r.length;rw[C4,C4]
  by_cases hk:k<xs.length
  ·obtain⟨u,hu,b⟩:=r.get (cc hk);rw[cc hk,hu];exact .cons b a
  ·rw[mo (by omega),mo (by omega)]
   exact a
variable {lo st:Expr}{te tl ts:TE}{p2:Pos}
theorem Kp {ops:Value->Value->List Value}(he:PE X e te)(hlo:PE X lo tl)(hs:PE X st ts)(hsub:∀ o i,subscripted (.Slice (some lo) none (some st) p2) false o i=operate (ops o i) (getItem o i)):PE X (.Subscript e (.Slice (some lo) none (some st) p2) pos) (GP X.K te tl ts):=by
 intro c s σ H Q I h;refine Subscript_ (bW (he c s σ H _ I h) fun v L ⟨x,H1,F,P,Y⟩=>?_);refine wpAny_Slice ?_;rw[evalPart_some];refine bW (hlo c L σ H1 _ F Y) fun vl s2 ⟨y,Z,U,G,u⟩=>?_;obtain⟨l,rfl,u⟩:=u;rw[evalPart_none];refine gc ?_;rw[evalPart_some];refine bW (hs c s2 σ Z _ U u) fun vs f ⟨z,M,J,S,W⟩=>?_;obtain⟨j,rfl,a,D,rfl,hx,hb,q⟩:=W
 cases P
 obtain⟨m,rfl⟩:=G;obtain⟨t,rfl⟩:=S;have p:Inv X c σ M {f with heap:=f.heap.push {cls:=.type "slice",data:=.fields #[.int l m,.none,.int j t]}}:=J.kept (t':=f.toks) fun b ob q=>ey _ q;obtain⟨d,r,E,hz⟩:=p.list hx;have C:=r.length;show wpAny (model X.prog X.w) X.A (subscriptTail e (.Slice (some lo) none (some st) p2) (.ref a) (.ref f.heap.objs.size)) (EP X c σ Q) X.xe {f with heap:=f.heap.push {cls:=.type "slice",data:=.fields #[.int l m,.none,.int j t]}};refine tail_any (T:="list") (ops:=ops (.ref a) (.ref f.heap.objs.size)) E.isList.typeIs slot_list_getitem.lookup ?_ (hsub _ _);refine wpAny_getItem_list_slice E.isList (Heap.IsSliceOf.new ..) (.int l m) .none (.int j t) (by simpa using hb) ?_ (by rw[gd]<;>omega)
 obtain⟨R,N⟩:∃ R:List Nat,slicePick d.toArray (some l) none (some j)=(R.filterMap fun i=>d[i]?).toArray:=by
  unfold slicePick;refine⟨sliceRange (sliceBounds (some l) none (some j) d.toArray.size).1 (sliceBounds (some l) none (some j) d.toArray.size).2.1 (sliceBounds (some l) none (some j) d.toArray.size).2.2,?_⟩;have O:(fun k=>d.toArray[k]?)=(fun k:Nat=>d[k]?):=by funext k;simp
  rw[O]
 have n:=slicePick_size_le d.toArray (some l) none (some j);rw[N] at n ⊢;rw[gd,gd] at n;have B:=sh r R;have ab:=B.length;have g:(R.filterMap fun i=>D[i]?).length<=sizeLine:=by omega
 exact⟨.ref _,_,p.laid (t':=f.toks) (o:=.lst (R.filterMap fun i=>D[i]?)) (fun b ob q=>ey _ q) (ed _) ⟨g,_,0,B,ih _ rfl⟩,rfl,q R _ (p.bh.fresh (ed _)) g⟩
theorem Mi {ops:Value->Value->List Value}(he:QE X e te)(hlo:QE X lo tl)(hs:QE X st ts)(h:X.K=K)(hsub:∀ o i,subscripted (.Slice (some lo) none (some st) p2) false o i=operate (ops o i) (getItem o i):=by intro _ _;with_unfolding_all rfl):QE X (.Subscript e (.Slice (some lo) none (some st) p2) pos) (GP K te tl ts):=⟨by subst h;exact Kp he.h hlo.h hs.h hsub⟩
theorem GQ {σ:St} :GP K te tl ts σ H Q=te σ H fun x H1=>tl σ H1 fun y H2=>∃ a,y=.int a/\ts σ H2 fun z H3=>∃ b,z=.int b/\Mh K x a b H3 Q:=rfl
theorem sj (ns:List Int)(R:List Nat):(R.filterMap fun i=>(ns.map V.int)[i]?)=(R.filterMap fun i=>ns[i]?).map V.int:=by
 rw[List.map_filterMap];have a:(fun i=>(ns.map V.int)[i]?)=(fun i:Nat=>Option.map V.int ns[i]?):=by funext k;rw[eG]
 rw[a]
def bg (ns:List Str)(ws:List Nat):List Mx:=(List.range ns.length).map Mx.dS++((List.range ns.length).filter fun i=>decide (ws.getD i 0≠0)).map fun i=>.sees i (iA ns.length (ws.getD i 0))
theorem wA (P:jA ns cs ws)(hi:i<ns.length):iA ns.length (ws.getD i 0)≠[]↔ws.getD i 0≠0:=by
 have a:=nQ (ws.getD i 0) ns.length;rw[Uz (P.R1 i hi)] at a
 constructor
 ·intro h z;refine h ?_
  apply List.eq_nil_iff_forall_not_mem.mpr
  intro j hj
  have:=(jB.mp hj).2
  rw[z,Nat.zero_div] at this
  cases this
 ·intro h z;rw[z] at a;exact h a.symm
theorem t9:∀ l:List Nat,(l.map Mx.dS).filterMap Mx.hi=l
 | []=>rfl
 | a::r=>by rw[pS,C4];show a::_=_;rw[t9 r]
theorem uc:∀ l:List Nat,(l.map Mx.dS).filterMap Mx.si=[]
 | []=>rfl
 | a::r=>by rw[pS,C4];exact uc r
theorem Bp (g:Nat->List Nat):∀ l:List Nat,(l.map fun i=>Mx.sees i (g i)).filterMap Mx.hi=[]
 | []=>rfl
 | a::r=>by rw[pS,C4];exact Bp g r
theorem ud (g:Nat->List Nat):∀ l:List Nat,(l.map fun i=>Mx.sees i (g i)).filterMap Mx.si=l
 | []=>rfl
 | a::r=>by rw[pS,C4];show a::_=_;rw[ud g r]
theorem nS (g:Nat->List Nat)(S:List Nat):∀ l:List Nat,(∀ i∈l,i∈S/\∀ j∈g i,j∈S)->tX S (l.map fun i=>Mx.sees i (g i))
 | [],_=>trivial
 | a::r,h=>⟨h a fO,nS g S r fun i hi=>h i (fA _ hi)⟩
theorem Bq:∀ (l S:List Nat),tX S (l.map Mx.dS)
 | [],_=>trivial
 | a::r,S=>Bq r (S++[a])
theorem eW (P:jA ns cs ws):dv ns ws (fun i=>i<ns.length) (bg ns ws) where
 ok:=by
  refine(fI _ _ _).mpr ⟨Bq _ _,?_⟩;rw[t9,nil_append];refine nS _ _ _ fun i hi=>⟨(qs.mp hi).1,fun j hj=>ka.mpr (jB.mp hj).1⟩
 eX:=by unfold bg;rw[L1,t9,Bp,Ui]
 nd:=by unfold bg;rw[L1,uc,ud,nil_append];exact Uo.sublist filter_sublist
 pm:=fun i l hm=>by
  unfold bg at hm
  rcases kb.mp hm with z | z
  ·obtain⟨k,_,e⟩:=kc.mp z;cases e
  ·obtain⟨k,hk,e⟩:=kc.mp z
   cases e
   have:=qs.mp hk
   exact⟨List.Perm.refl _,ka.mp this.1,(wA P (ka.mp this.1)).mpr (tx this.2)⟩
 al:=fun i=>by
  unfold bg;rw[L1,uc,ud,nil_append,qs,ka,decide_eq_true_iff]
  constructor
  ·intro ⟨a,b⟩;exact⟨a,a,(wA P a).mpr b⟩
  ·intro ⟨_,a,b⟩;exact⟨a,(wA P a).mp b⟩
theorem fG:(bg ns ws).length<=2*ns.length:=by
 unfold bg
 have:=A5 (fun i=>decide (ws.getD i 0≠0)) (List.range ns.length)
 rw[j9] at this;rw[fz,b7,b7,j9]
 omega
def wB:Sp:=fun a H Q _=>∃ (b:Addr) (ns:List Str) (cs ws:List Nat),a=[.ref b]/\mR H b ns cs ws/\jA ns cs ws/\∀ H',ah H H'->Q (.str (eV ((bg ns ws).map (fH ns cs)))) H'
def Br (ns:List Str)(ws:List Nat)(k:Nat):List Mx:=(List.range ns.length).map Mx.dS++((List.range k).filter fun i=>decide (ws.getD i 0≠0)).map fun i=>.sees i (iA ns.length (ws.getD i 0))
theorem kW (ns:List Str)(ws:List Nat)(k:Nat):Br ns ws (k+1)=if ws.getD k 0≠0 then Br ns ws k++[.sees k (iA ns.length (ws.getD k 0))] else Br ns ws k:=by
 unfold Br;rw[Gc,TC,hU]
 by_cases c:ws.getD k 0≠0
 ·have e:(List.filter (fun i=>decide (ws.getD i 0≠0)) [k])=[k]:=by
   rw[filter_cons,if_pos (ea c)];rfl
  rw[if_pos c,e,<-q5];rfl
 ·have e:(List.filter (fun i=>decide (ws.getD i 0≠0)) [k])=[]:=by
   rw[filter_cons,if_neg (by rw[ek c];exact h5)];rfl
  rw[if_neg c,e,map_nil,Ui]
theorem Kq (h:w<2 ^ n):aG w=iA n w:=by
 rw[<-rN h];unfold iA;have a:w.testBit=fun j=>decide (w / 2 ^ j % 2=1):=by funext j;exact r4
 rw[a]
theorem ue {l:List Str}(h:∀ x∈l,gK x):shaped (.list (l.map PyData.str))=true:=rY
 (by simp[PyData.canLay0,wo l h])
 (by have:=jV l;simp only[PyData.depth];omega)
def Rm (H0:Hp)(b a1 a2 a3 r:Addr)(ns:List Str)(cs ws:List Nat)(k:Nat)(σ:St)(H:Hp):Prop:=∃ y5 y6:Option V,σ=[some (.ref b),some (.ref a1),some (.ref a2),some (.ref a3),some (.ref r),y5,y6]/\ah H0 H/\H r=some (.lst (((Br ns ws k).map (eC ns cs)).map V.str))
def Rn (H0:Hp)(t a1 r:Addr)(ns:List Str)(cs ws:List Nat)(k:Nat)(σ:St)(H:Hp):Prop:=∃ y3 y4 y5:Option V,σ=[some (.ref t),some (.ref a1),some (.ref r),y3,y4,y5]/\ah H0 H/\H r=some (.lst (((Br ns ws k).map (eC ns cs)).map V.str))
def Fl (h:Heap)(a T C:Addr)(d:Option Addr)(fl:Value):Prop:=
 ∃ oe vs oT ts,h.get? a=some oe/\oe.cls=.ref C/\oe.dict=d/\oe.data=.fields vs/\vs[1]?=some (.ref T)/\T≠a/\h.get? T=some oT/\oT.data=.fields ts/\ts[3]?=some fl
def Ro (h:Heap)(H:Hp)(a T C:Addr)(d:Option Addr):Prop:=Fl h a T C d .none/\H a=none/\H T=none
def Kr (P:Program)(w:World):DP:=fun b H s E e c=>
 ∃ a T C d H',e=.ref a/\c.os=s.os/\AllBare c.gens/\Un (DM b) [] H H' s.heap c.heap/\jQ P w H' c.heap/\s.heap.get? a=none/\s.heap.get? T=none/\Ro c.heap H' a T C d/\E (.ref C) d H'
variable {w:World}
theorem df {P:Program} :Passes (Kr P w) X E0:=fun _ _ _ _ _ _ _ h=>by
 obtain⟨_,_,_,_,_,_,_,_,_,_,_,_,_,q⟩:=h;exact q.elim
theorem lW:fillsNumberSlot (.type "tuple") "mul"=pure false:=by
 first | (unfold fillsNumberSlot;kernel_rfl) | kernel_rfl
theorem uf:seqRepeat? (.type "tuple")=pure (some (.builtin "tuple.__mul__")):=by
 first | (unfold seqRepeat?;kernel_rfl) | kernel_rfl
theorem zf (a:Int)(t:Tok)(l:Addr)(dd:Option Addr)(items:Array Value)(n:Nat)(sl:Array (Option Value)) :
  Meets (Builtin.«int.__rmul__» ⟨[.int a t,.ref l],[]⟩) (fun _ R s=>s.heap.get? l=some ⟨.type "tuple",dd,.seq items n,sl⟩/\R (.ok (.ret Value.notImplemented)) s):=
 .of_wp fun b w A R s h=>by obtain⟨c,g,d,i,e⟩:=s;obtain⟨f,h⟩:=h;wp_walk;exact⟨_,rfl,h⟩
section
variable {k:Int}(t:Tok)(l:Addr)(dd:Option Addr)(it:Value)(n:Nat)(sl:Array (Option Value))
theorem GR (m:Nat):List.foldl (fun x1 x2=>x1++x2) #[] (List.replicate m #[it])=(List.replicate m it).toArray:=by
 have:∀ (m:Nat) (a:List Value),List.foldl (fun x1 x2=>x1++x2) a.toArray (List.replicate m #[it])=(a++List.replicate m it).toArray:=by
  intro m
  induction m with
  | zero=>intro a;simp
  | succ m b=>
   intro a;rw[TR,foldl_cons,show a.toArray++#[it]=(a++[it]).toArray from by simp,b,q5]
   simp[List.replicate_succ]
 simpa using this m []
theorem CN (h1:1<k)(h2:k<=1000) :
  Meets (Builtin.«tuple.__mul__» ⟨[.ref l,.int k t],[]⟩) (fun _ R s=>s.heap.get? l=some ⟨.type "tuple",dd,.seq #[it] n,sl⟩/\R (.ok (.ret (.ref s.heap.objs.size))) {s with heap:=s.heap.push {cls:=.type "tuple",data:=.seq (List.replicate k.toNat it).toArray}}):=
 .of_wp fun b w A R s h=>by
  obtain⟨o,g,d,q,m⟩:=s;obtain⟨p,h⟩:=h;have f:(decide (k < -(2 ^ 63))||decide (k ≥ 2 ^ 63))=false:=by rw[ek (by omega),ek (by omega)];rfl
  have c:((#[it]:Array Value).isEmpty||k == 1)=false:=by rw[show (k == 1)=false from Da.mpr (by omega)];rfl
  have j:(decide (k<=0)||(#[it]:Array Value).isEmpty)=false:=by rw[ek (by omega)];rfl
  have i:¬ (((#[it]:Array Value).size:Int)*k>(2 ^ 63 - 1) / 8):=by show ¬ ((1:Int)*k>_);omega
  have sl:(sizeLine:Int) ≥ 1000:=by decide
  have e:Builtin.Tuple.tupleTooMany (((#[it]:Array Value).size:Int)*k)=false:=by
   unfold Builtin.Tuple.tupleTooMany;exact ek (by show ¬ ((1:Int)*k>_);omega)
  have a:(List.replicate k.toNat it).toArray.size<=sizeLine:=by rw[gd,length_replicate];omega
  unfold Builtin.«tuple.__mul__»
  k_delta "repeated"
  wp_walk
  rw[if_neg (by rw[f];exact h5)]
  wp_walk
  rw[if_neg (by rw[c];exact h5)]
  wp_walk
  rw[if_neg (by rw[j];exact h5)]
  rw[if_neg i,if_neg (by rw[e];exact h5),GR]
  unfold Builtin.Tuple.tupleExact;refine dy (wpAny_newObj_type ?_ a);exact gc ⟨_,rfl,h⟩
theorem zg :
  Meets (Builtin.«tuple.__mul__» ⟨[.ref l,.int 1 t],[]⟩) (fun _ R s=>s.heap.get? l=some ⟨.type "tuple",dd,.seq #[it] n,sl⟩/\R (.ok (.ret (.ref l))) s):=
 .of_wp fun a w A R s h=>by
  obtain⟨b,g,d,f,c⟩:=s;obtain⟨e,h⟩:=h;unfold Builtin.«tuple.__mul__»
  k_delta "repeated"
  wp_walk
  exact⟨_,rfl,h⟩
theorem zh :
  Meets (Builtin.«tuple.__mul__» ⟨[.ref l,.int 0 t],[]⟩) (fun _ R s=>s.heap.get? l=some ⟨.type "tuple",dd,.seq #[it] n,sl⟩/\R (.ok (.ret (.ref s.heap.objs.size))) {s with heap:=s.heap.push {cls:=.type "tuple",data:=.seq #[]}}):=
 .of_wp fun a w A R s h=>by
  obtain⟨b,g,d,f,c⟩:=s;obtain⟨e,h⟩:=h;unfold Builtin.«tuple.__mul__»
  k_delta "repeated"
  wp_walk
  exact⟨_,rfl,h⟩
end
def Mj (K:Frag):R2:=fun x y H Q=>∃ (l:Addr) (k:Nat) (v:V),x=.ref l/\y=.int (k:Int)/\aE K H l [v]/\k<=1000/\∀ p H',ah H H'->aE K H' p (List.replicate k v)->Q (.ref p) H'
theorem wC {v:V}{u:Value}(r:RelV v u):∀ k:Nat,Vals (List.replicate k v) (List.replicate k u)
 | 0=>.nil
 | k+1=>.cons r (wC r k)
theorem GS (h:X.K=K):eP X (binaryOp .Mult) (Mj K):=by
 subst h;intro z s σ H x y v u Q I C B h;obtain⟨l,k,w,rfl,rfl,j,hk,q⟩:=h
 cases C
 obtain⟨t,rfl⟩:=B;obtain⟨i,r,⟨⟨cls,d,data,f⟩,e,p,n,m⟩,_⟩:=I.tuple j
 simp only at p m
 subst p m;obtain⟨c,rfl,D⟩:∃ c,i=[c]/\RelV w c:=by
  cases r with
  | cons a b=>cases b;exact⟨_,rfl,a⟩
 have hz:(List.replicate k w).length<=sizeLine:=by
  have:1000<=sizeLine:=by decide
  rw[length_replicate];omega
 refine wpAny_binaryOp_repeat_ref (T:="tuple") (U:="int") (by decide) ⟨_,e,rfl⟩ (fun A=>typeIs_int A k t) lW F.fills_int_mul F.slot_int_rmul uf F.slot_int_index.lookup
  (TB F.slot_int_rmul (typeIs_int s k t) F.entry_int_rmul (F.args_int_rmul_2 _ _) (zf k t l d [c].toArray n f) ⟨e,rfl,⟨_,e,rfl⟩,?_⟩)
 rcases Nat.lt_or_ge 1 k with h1 | h1
 ·refine TB F.slot_tuple_mul ⟨_,e,rfl⟩ F.entry_tuple_mul (F.args_tuple_mul_2 _ _) (CN t l d c n f (k:=(k:Int)) (by omega) (by omega)) ⟨e,?_⟩
  rw[u5];have g:=I.laid (t':=s.toks) (a:=s.heap.objs.size) (o:=.tup (List.replicate k w)) (h':=s.heap.push {cls:=.type "tuple",data:=.seq (List.replicate k c).toArray}) (fun _ _ q=>ey _ q) (ed _) ⟨hz,_,wC D k,_,ih _ rfl,rfl,0,rfl⟩;exact⟨.ref _,_,g,rfl,q _ _ (ah.new I.fresh _) (aE.of ag)⟩
 ·have hc:k=0∨k=1:=by omega
  rcases hc with rfl | rfl
  ·refine TB F.slot_tuple_mul ⟨_,e,rfl⟩ F.entry_tuple_mul (F.args_tuple_mul_2 _ _) (zh t l d c n f) ⟨e,?_⟩;have g:=I.laid (t':=s.toks) (a:=s.heap.objs.size) (o:=.tup []) (h':=s.heap.push {cls:=.type "tuple",data:=.seq #[]}) (fun _ _ q=>ey _ q) (ed _) ⟨zero_le _,[],.nil,_,ih _ rfl,rfl,0,rfl⟩;exact⟨.ref _,_,g,rfl,q _ _ (ah.new I.fresh _) (aE.of ag)⟩
  ·refine TB F.slot_tuple_mul ⟨_,e,rfl⟩ F.entry_tuple_mul (F.args_tuple_mul_2 _ _) (zg t l d c n f) ⟨e,?_⟩;exact⟨.ref l,H,I,rfl,q _ _ (ah.refl _) j⟩
theorem GU {x y:V} :Mj K x y H Q=∃ (l:Addr) (k:Nat) (v:V),x=.ref l/\y=.int (k:Int)/\aE K H l [v]/\k<=1000/\∀ p H',ah H H'->aE K H' p (List.replicate k v)->Q (.ref p) H':=rfl
def Bs (K:Frag)(x:Str)(C:Addr)(fields:List Str):Bool:=
 nsIn K mainGlobals x == some (some (.ref C))&&plainGet K C Str.empty&&hasDictIn K C&&plainOver K C&&findIn K (.ref C) "__setattr__" == some (some (.builtin "object.__setattr__"))&&
 makesIn K C&&keepIn K (.ref C)&&fields.all fun f=>findIn K (.ref C) f == some none
structure fh (K:Frag)(mg:Str->Option Value)(x:Str)(C:Addr)(fields:List Str):Prop where
 gl:mg x=some (.ref C)
 cls:IW K C
 makes:makesIn K C=true
 kp:keepIn K (.ref C)=true
 no:∀ f∈fields,oi K C f
variable {h:Heap}{x:Str}{fields:List Str}
theorem Bu {mg:Str->Option Value}{C:Addr}(X:K.In h)(G:h.Ns mainGlobals mg)(e:Bs K x C fields=true):fh K mg x C fields:=by
 unfold Bs at e;simp only[Bool.and_eq_true,beq_iff_eq,List.all_eq_true] at e;obtain⟨⟨⟨⟨⟨⟨⟨a,b⟩,c⟩,d⟩,f⟩,g⟩,i⟩,j⟩:=e;exact⟨mg_of X G a,⟨b,c,d,f⟩,g,i,j⟩
structure qk (K:Frag)(C:Addr)(m qual:Str)(st:Stmt):Prop where
 ex:∃ f fd,Iq K m qual st f fd/\Meth K C m f
variable {st:Stmt}{m:Str}{od:Option Addr}
theorem Ks {C:Addr}{qual:Str}{f:Addr}{oc:Value}{an:Option Addr}{osl:Array (Option Value)}{kV doc pm cU ct:Value}
  (a:findIn K (.ref C) m=some (some (.ref f))) (l:K.lookup f=some ⟨oc,od,.func (fnOf m qual (bw st) (aY st) (aj st) .none kV doc pm an cU ct),osl⟩)
  (c:codeIn K cU qual=true) (k:keepIn K (.ref f)=true) (i:isFn K (.ref f)=true):qk K C m qual st:=⟨f,_,yk l c k,a,i,k⟩
def mS (s:Stmt)(j:Nat):Stmt:=match s with
 | .ClassDef _ _ _ a _ _ _ _ _ _ _=>a.getD j (.Pass ⟨0,0,0,0⟩)
 | _=>.Pass ⟨0,0,0,0⟩
structure nT (P:Program)(w:World)(K:Frag)(mg:Str->Option Value)(base:Heap)(k:Nat)(C:Addr)(m:Str)(ps:List Str)(sp:Sp):Prop where
 ex:∃ f fd,ft P w K mg base (Kr P w) k f fd ps sp/\Meth K C m f/\Binds K fd ps []
variable {P:Program}{mg:Str->Option Value}{base:Heap}{k:Nat}{ps:List Str}{sp:Sp}
theorem ft.lift {f:Addr}{fd:FuncData}(F:ft P w K mg base B9 k f fd ps sp):ft P w K mg base (Kr P w) k f fd ps sp:=
 ⟨F.len,fun A a s H b h c Q E l d hb g j=>Ut (F.run A a s H b h c Q E l d hb g j) fun r m z=>by
  cases r with
  | error e=>exact False.elim z
  | ok i=>cases i<;>exact z⟩
variable {qual:Str}{C:Addr}
theorem qk.gq (D:qk K C m qual st)(S:DS (aj st) N ps G)
  (hb:∀ (kV doc pm:Value) (an:Option Addr) (cU ct:Value) (us:List Value),us.length=ps.length->bindArgs (fnOf m qual (bw st) (aY st) (aj st) .none kV doc pm an cU ct) ⟨us,[]⟩=pure (ps.zip us))
  (len:∀ vs H Q E,sp vs H Q E->vs.length=ps.length)
  (eY:∀ (X:Cx),Sc X N N G->X.prog=P->X.w=w->X.K=K->X.mg=mg->X.base=base->X.calm=true->X.env.scope=aj st->X.xe=(fun _ _=>False)->cB k X.A->X.A.units+64<cLine->
   ∀ (H:Hp) (vs:List V) (Q:VK) (E:XK),sp vs H Q E->∃ t,Cg X (aY st) t/\t {nx:=fun _ H'=>Q .bx H',rt:=Q} (L2.start N vs) H):nT P w K mg base (k+1) C m ps sp:=by
 obtain⟨f,c,F,M⟩:=D.ex;refine⟨f,c,ft.lift ?_,M,F.binds hb⟩;refine F.ok S.fs len fun cU A a s H vs Q E b h=>?_;obtain⟨t,z,y⟩:=eY _ S.cx rfl rfl rfl rfl rfl rfl rfl rfl b b.units H vs Q E h;exact⟨t,z.h,y⟩
def S9 (C:Addr)(f:Str)(ta:TE):TE:=fun σ H Q=>ta σ H fun x H1=>∃ a dx fs v,x=.ref a/\H1 a=some (.ins C dx fs)/\fs.lookup f=some v/\Q v H1
def Ta (C:Addr)(f:Str)(ta tv:TE):TS:=fun D σ H=>tv σ H fun y H1=>ta σ H1 fun x b=>∃ a dx fs,x=.ref a/\b a=some (.ins C dx fs)/\fs.length<1000/\D.nx σ (upd b a (.ins C dx (dQ f y fs)))
variable {f:Str}{ta:TE}
theorem wD (T:fh X.K X.mg x C fields)(he:QE X e ta)(hf:f∈fields:=by decide)(hb:attributeBase e f X.env (eval e X.env)=eval e X.env:=by rfl):QE X (.Attribute e f pos) (S9 C f ta):=by
 refine⟨fun b s σ H Q I h=>IZ hb (bW (he.h b s σ H _ I h) fun u p ⟨x,H1,c,i,a,n,fs,v,j,g,l,q⟩=>?_)⟩;subst j;obtain rfl:u=Value.ref a:=i;exact xZ c g T.cls (T.no f hf) l fun o r m d=>⟨v,H1,m,d,q⟩
variable {pos':Pos}{value:Expr}
theorem Pa (T:fh X.K X.mg x C fields)(ha:QE X o ta)(hv:QE X value tv)(hf:f∈fields:=by decide)(hs:swapsWith value (some (.Attribute o f pos')) pos.line X.env=pure false:=by rfl):QS X (.Assign [.Attribute o f pos'] value pos) (Ta C f ta tv):=by
 refine⟨fun b s σ H D I h=>plainObj_wpAny_Assign_Attribute (bW (hv.h b s σ H _ I h) fun u i ⟨y,H1,c,e,q⟩=>bW (ha.h b i σ H1 _ c q) fun r z ⟨x,w,p,m,a,t,fs,n,j,l,g⟩=>?_) hs⟩;subst n;obtain rfl:r=Value.ref a:=m;exact x9 p j T.cls (T.no f hf) l e fun v d=>⟨σ,_,d,g⟩
variable {apos:Pos}{es:List Expr}{t:TA}{E:XK}
theorem xN {pl:Sem Bool}(T:fh X.K X.mg x C fields)(F:nT X.prog X.w X.K X.mg X.base k C m ps sp)(hx:Passes (Kr X.prog X.w) X E)(hr:cB n X.A)(he:QE X o ta)(ha:QB X (e::es) t)(hk:k<=n:=by decide)
  (ht:eval (.Call (.Attribute o m apos) (e::es) [] pos) X.env=(do
   let ov<-eval o X.env
   standAt apos.atName
   let (f,first)<-holding [ov] (getMethod ov m pl)
   callWith pos f first (backTo pos (starEach (e::es) X.env)) (backToKw pos (keywordEach [] X.env))):=by rfl) :
  QE X (.Call (.Attribute o m apos) (e::es) [] pos) (rj C m sp [] E ta t):=by
 obtain⟨f,a,F,M,hb⟩:=F.ex;exact⟨Jc he.h T.cls M F (hr.mono hk) hb .nil hx ha.h.pa (bf ha.h.he) (dk ha.h.ES) ht⟩
theorem Rp {pl:Sem Bool}(T:fh X.K X.mg x C fields)(F:nT X.prog X.w X.K X.mg X.base k C m ps sp)(hx:Passes (Kr X.prog X.w) X E)(hr:cB n X.A)(he:QE X o ta)(hk:k<=n:=by decide)
  (ht:eval (.Call (.Attribute o m apos) [] [] pos) X.env=(do
   let ov<-eval o X.env
   standAt apos.atName
   let (f,first)<-holding [ov] (getMethod ov m pl)
   callWith pos f first (backTo pos (starEach [] X.env)) (backToKw pos (keywordEach [] X.env))):=by rfl) :
  QE X (.Call (.Attribute o m apos) [] [] pos) (rj C m sp [] E ta sM):=by
 obtain⟨f,a,F,M,hb⟩:=F.ex;exact⟨Ef he.h T.cls M F (hr.mono hk) hb .nil hx ht⟩
theorem Tb (S:Sc X N W G)(g:Nat)(T:fh X.K X.mg x C fields)(F:nT X.prog X.w X.K X.mg X.base k C "__init__" ps sp)(hx:Passes (Kr X.prog X.w) X E)(hr:cB n X.A)(ha:QB X (e::es) t)(hk:k+1<=n:=by decide)(hg:G[g]?=some x:=by rfl) :
  QE X (.Call (.Name x p) (e::es) [] pos) (mH C sp [] E t):=by
 obtain⟨f,a,F,M,hb⟩:=F.ex;have q:=S.gl x (hO hg);exact⟨Az ⟨T.makes,M.at_,M.fn,T.kp⟩ F (hr.mono hk) q.1 T.gl hb .nil hx ha.h.pa q.2.1 (bf ha.h.he) (dk ha.h.ES)⟩
theorem Rq:S9 C f ta σ H Q=ta σ H fun x H1=>∃ a dx fs v,x=.ref a/\H1 a=some (.ins C dx fs)/\fs.lookup f=some v/\Q v H1:=rfl
variable {D:Ends}
theorem Ml:Ta C f ta tv D σ H=tv σ H fun y H1=>ta σ H1 fun x H2=>∃ a dx fs,x=.ref a/\H2 a=some (.ins C dx fs)/\fs.length<1000/\D.nx σ (upd H2 a (.ins C dx (dQ f y fs))):=rfl
theorem GV:rj C m sp [] E ta t σ H Q=ta σ H fun x H1=>∃ a dx fs,x=.ref a/\H1 a=some (.ins C dx fs)/\fs.lookup m=none/\t σ H1 fun vs H2=>sp (x::vs) H2 Q E:=by
 unfold rj;simp only[append_nil]
theorem GW:mH C sp [] E t σ H Q=t σ H fun vs H1=>∀ x dx,H1 x=none->H1 dx=none->dx≠x->sp (.ref x::vs) (upd (upd H1 dx (.own x)) x (.ins C dx [])) (fun v H2=>v=.bx/\Q (.ref x) H2) E:=by
 unfold mH;simp only[append_nil]
def gM (cs hs:List Int):Bool:=decide (hs.length=cs.length)&&(List.range cs.length).all fun k=>decide (0<=hs.getD k 0)&&decide (hs.getD k 0<cs.getD k 0)
def Mm (K:Frag):Sp:=fun a H Q _=>∃ (c h:Addr) (cs hs:List Int),a=[.ref c,.ref h]/\aE K H c (cs.map V.int)/\aE K H h (hs.map V.int)/\cs.length<=90/\∀ H',ah H H'->Q (.bl (gM cs hs)) H'
def xO (c g n:Addr):List (Str × V):=[("counts",.ref c),("groups",.ref g),("worn",.ref n)]
structure bV (K:Frag)(C:Addr)(H:Hp)(a:Addr)(c g:Addr)(cs:List Int)(us:List V)(hs:List Int):Prop where
 ex:∃ dx n,H a=some (.ins C dx (xO c g n))/\aE K H n (hs.map V.int)
 OW:aE K H c (cs.map V.int)
 MC:aE K H g us
def Kt (K:Frag)(C:Addr)(er:Str->Addr):Sp:=fun a H Q E=>∃ (x dx c w g:Addr) (cs:List Int) (ws:List Nat) (us:List V) (L:List (Bool × List Int)),a=[.ref x,.ref c,.ref w,.ref g]/\H x=some (.ins C dx [])/\aE K H c (cs.map V.int)/\aE K H w ((aA ws).map V.int)/\aE K H g us/\GI K H us L/\ws.length=cs.length/\cs.length<=8/\(∀ g∈L,g.2.length<=30)/\L.length<=30/\
 (CD cs ws [] 0 L≠none->∀ H',ah H H'->E (.ref (er "NoGroups")) none H')/\(CD cs ws [] 0 L=none->∀ H',Off x H H'->bV K C H' x c g cs us (List.replicate cs.length 0)->Q .bx H')
def Mn (c:Addr):List (Str × V):=[("counts",.ref c)]
def Bv (c g:Addr):List (Str × V):=[("counts",.ref c),("groups",.ref g)]
variable {c:Addr}
theorem CO:dQ "counts" (.ref c) []=Mn c:=rfl
variable {g:Addr}
theorem CP:dQ "groups" (.ref g) (Mn c)=Bv c g:=by
 unfold Mn dQ;rw[if_neg (by decide)];rfl
variable {n:Addr}
theorem Ku:dQ "worn" (.ref n) (Bv c g)=xO c g n:=by
 unfold Bv dQ;rw[if_neg (by decide)];unfold dQ;rw[if_neg (by decide)];rfl
theorem GX {m:Addr}:dQ "worn" (.ref m) (xO c g n)=xO c g m:=by
 unfold xO dQ;rw[if_neg (by decide)];unfold dQ;rw[if_neg (by decide)];unfold dQ;rw[if_pos rfl]
theorem lX:(xO c g n).lookup ("counts":Str)=some (.ref c):=rfl
theorem sk:(xO c g n).lookup ("groups":Str)=some (.ref g):=by
 unfold xO;rw[TJ,show (("groups":Str) == ("counts":Str))=false from by decide];rfl
theorem nU:(xO c g n).lookup ("worn":Str)=some (.ref n):=by
 unfold xO;rw[TJ,show (("worn":Str) == ("counts":Str))=false from by decide];dsimp only;rw[TJ,show (("worn":Str) == ("groups":Str))=false from by decide];rfl
theorem mT (h1:(m == ("counts":Str))=false:=by decide)(h2:(m == ("groups":Str))=false:=by decide)(h3:(m == ("worn":Str))=false:=by decide):(xO c g n).lookup m=none:=by
 unfold xO;rw[TJ,h1];dsimp only;rw[TJ,h2];dsimp only;rw[TJ,h3];rfl
variable {r dx:Addr}{fs:List (Str × V)}{H':Hp}{xs:List V}
theorem aE.dg (s:Off a H H')(ha:H a=some (.ins C dx fs))(h:aE K H r xs):aE K H' r xs:=by
 rcases h with (h | ⟨o,h⟩) | h
 ·exact .inl (.inl (s r _ (ik h ha fun z=>nomatch z) h))
 ·exact .inl (.inr ⟨o,s r _ (ik h ha fun z=>nomatch z) h⟩)
 ·exact .inr h
theorem vW.dg {p:Addr}(s:Off a H H')(ha:H a=some (.ins C dx fs)):vW K H p->vW K H' p
 | .inl h=>.inl h
 | .inr ⟨o,u,h,c⟩=>.inr ⟨o,u,s p _ (ik h ha fun z=>nomatch z) h,c⟩
theorem GF.dg (s:Off a H H')(ha:H a=some (.ins C dx fs)):∀ {vs:List V} {L:List (Bool × List Nat)},GF K H vs L->GF K H' vs L
 | [],[],h=>h
 | _::_,_::_,⟨⟨r,p,e,h,b,t⟩,q⟩=>⟨⟨r,p,e,h.dg s ha,b.dg s ha,t.dg s ha⟩,GF.dg s ha q⟩
 | [],_::_,h=>h.elim
 | _::_,[],h=>h.elim
variable {cs:List Int}
theorem bV.off {n':Addr}{hs hs':List Int}{us:List V}(h:bV K C H a c g cs us hs)(s:Off a H H')(e:∃ dx,H' a=some (.ins C dx (xO c g n')))(hn:aE K H' n' (hs'.map V.int)):bV K C H' a c g cs us hs':=by
 obtain⟨dx,n,d,_⟩:=h.ex;obtain⟨b,e⟩:=e;exact⟨⟨b,n',e,hn⟩,h.OW.dg s d,h.MC.dg s d⟩
theorem bV.mono {hs:List Int}{us:List V}(h:bV K C H a c g cs us hs)(s:ah H H'):bV K C H' a c g cs us hs:=by
 obtain⟨b,n,d,hn⟩:=h.ex;exact⟨⟨b,n,s _ _ d,s.aL hn⟩,s.aL h.OW,s.aL h.MC⟩
def GY (K:Frag)(C:Addr)(er:Str->Addr):Sp:=fun b H Q E=>∃ (a hb c g:Addr) (cs hs0 hs:List Int) (us:List V),b=[.ref a,.ref hb]/\bV K C H a c g cs us hs0/\aE K H hb (hs.map V.int)/\cs.length<=90/\
 (gM cs hs=false->∀ H',ah H H'->E (.ref (er "NoHats")) none H')/\(gM cs hs=true->∀ H',Off a H H'->bV K C H' a c g cs us hs->Q .bx H')
def OA (K:Frag)(C:Addr)(er:Str->Addr):Sp:=fun b H Q E=>∃ (a c g:Addr) (cs hs0:List Int) (us:List V) (i col:Int),b=[.ref a,.int i,.int col]/\bV K C H a c g cs us hs0/\hs0.length=cs.length/\cs.length<=90/\
 (¬ (0<=i/\i<(cs.length:Int))->∀ H',ah H H'->E (.ref (er "NoName")) none H')/\(0<=i/\i<(cs.length:Int)->gM cs (hs0.set i.toNat col)=false->∀ H',ah H H'->E (.ref (er "NoHats")) none H')/\
 (0<=i/\i<(cs.length:Int)->gM cs (hs0.set i.toNat col)=true->∀ H',Off a H H'->bV K C H' a c g cs us (hs0.set i.toNat col)->Q .bx H')
def kX (K:Frag)(C:Addr):Sp:=fun b H Q _=>∃ (a c g:Addr) (cs hs:List Int) (ws:List Nat) (us:List V) (L:List (Bool × List Nat)) (i:Nat),b=[.ref a,.int i]/\bV K C H a c g cs us hs/\GF K H us L/\ck cs/\HN cs hs cs.length/\yO cs ws L/\i<cs.length/\∀ H',ah H H'->Q (.int (qh cs L hs i)) H'
structure Tc (cs:List Int)(g:Bool × List Nat):Prop where
 lt:∀ x∈g.2,x<cs.length
 nd:g.2.Nodup
 ne:1<=g.2.length
 ring:g.1=true->2<=g.2.length/\∀ x∈g.2,cs.getD x 0=2
 g9:g.1=false->oM g.2=true
def gI (L:List (Bool × List Nat)):List (Bool × List Int):=L.map fun g=>(g.1,aA g.2)
theorem GF.gi {K:Frag}{H:Hp}:∀ {vs:List V} {L:List (Bool × List Nat)},GF K H vs L->GI K H vs (gI L)
 | [],[],h=>h
 | _::_,_::_,⟨⟨r,p,e,h,a,_⟩,q⟩=>⟨⟨r,p,e,h,a⟩,GF.gi q⟩
 | [],_::_,h=>h.elim
 | _::_,[],h=>h.elim
variable {g:Bool × List Nat}
theorem OB (h:O8 cs ws g)(a:Tc cs g):DU cs ws (g.1,aA g.2)=true:=by
 unfold DU;have b:decide (1<=(aA g.2).length)=true:=ea (by rw[ao];exact a.ne)
 have e2:Iu cs.length (aA g.2)=true:=by
  unfold Iu aA;rw[Tv,kf];intro x hx
  have:=a.lt x hx
  simp only[Function.comp,Bool.and_eq_true,decide_eq_true_eq]
  omega
 show (decide (1<=(aA g.2).length)&&(Iu cs.length (aA g.2)&&CC cs ws g.1 (nats (aA g.2))))=true;rw[b,e2,F0,qE,qE];unfold CC
 cases hb:g.1 with
 | true=>
  obtain⟨c,hc,d⟩:=h.ring hb;rw[if_pos rfl,gz];refine⟨?_,?_⟩
  ·unfold gJ;rw[ea c,ea h.nd,qE,qE,kf];intro k hk;have hk:=ka.mp hk
   have:=d (ahead g.2.length k) (by unfold ahead;split<;>omega)
   have e:(ahead g.2.length k+1) % g.2.length=k:=by
    unfold ahead
    split
    ·rename_i z;rw[show g.2.length - 1+1=g.2.length by omega,mod_self,z]
    ·rw[show k - 1+1=k by omega,Uz hk]
   rw[e] at this;exact this
  ·rw[kf];exact fun x hx=>ea (hc x hx)
 | false=>
  rw[if_neg h5,a.g9 hb,qE];unfold cp;rw[kf];intro x hx;rw[kf];intro y hy
  by_cases e:y=x
  ·rw[ea e];rfl
  ·rw[h.g9 hb x hx y hy (Ne.symm e),Bool.or_true]
theorem Bw {cs:List Int}{ws:List Nat}:∀ {L:List (Bool × List Nat)} {gone:List Nat} {k:Nat},(∀ g∈L,O8 cs ws g/\Tc cs g)->(L.Pairwise fun g h=>∀ x∈g.2,x∉h.2)->(∀ g∈L,∀ x∈g.2,x∉gone)->CD cs ws (aA gone) k (gI L)=none
 | [],_,_,_,_,_=>rfl
 | g::L,gone,k,h,d,n=>by
  have h1:=h g fO;show (if (DU cs ws (g.1,aA g.2)&&!((aA g.2).any fun i=>decide (i∈aA gone)))=true then CD cs ws (aA gone++aA g.2) (k+1) (gI L) else some k)=none
  have e:((aA g.2).any fun i=>decide (i∈aA gone))=false:=by
   rw[List.any_eq_false];intro i hi;obtain⟨x,hx,rfl⟩:=kc.mp hi;rw[k0];exact fun z=>n g fO x hx (nM.mp z)
  rw[OB h1.1 h1.2,e,if_pos (by decide),<-eK]
  obtain⟨f,c⟩:=F2.mp d;refine Bw (fun b a=>h b (fA _ a)) c fun b a x hx z=>?_
  rcases kb.mp z with z | z
  ·exact n b (fA _ a) x hx z
  ·exact f b a x z hx
theorem GZ (row:List Nat)(p:Nat->Bool):(((List.range (aA row).length).filter fun j=>p (row.getD j 0)).map fun j=>((row.getD j 0:Nat):Int))=aA (row.filter p):=by
 have e:row=(List.range row.length).map fun k=>row.getD k 0:=by
  apply ext_getElem
  ·simp
  ·intro i h1 a;simp[h1]
 have f:=List.filter_map (f:=fun k=>row.getD k 0) (p:=p) (l:=List.range row.length);rw[<-e] at f;rw[ao,f];unfold aA;rw[ls]
 rfl
def fJ (cs hs:List Int)(L:List (Bool × List Nat)):List Nat:=(List.range cs.length).filter fun i=>decide (qh cs L hs i=hs.getD i 0)
theorem G8 {hs:List Int}(h:HN cs hs cs.length):gM cs hs=true:=by
 unfold gM;rw[ea h.1,qE,kf];intro k hk
 have:=h.2 k (ka.mp hk)
 rw[ea this.1,ea this.2]
 rfl
theorem HN.OC (h:∀ c∈cs,1<=c):HN cs (List.replicate cs.length 0) cs.length:=by
 refine⟨length_replicate,fun i hi=>?_⟩
 have:=h _ (L2.getD_mem hi)
 rw[show (List.replicate cs.length (0:Int)).getD i 0=0 by rw[b5,List.getElem?_replicate,if_pos hi];rfl]
 omega
variable {A B:TS}
theorem SN {σ:L2.St}(I:L2.St->Hp->Prop)(h2:∀ σ' H',I σ' H'->B D σ' H')(h1:∀ R:L2.St->Hp->Prop,(∀ σ' H',I σ' H'->R σ' H')->A {D with nx:=R} σ H):BR A B D σ H:=h1 (B D) h2
theorem Rr {a b v:Int}{j1 j2:Nat}{p1 pos:Pos}(hc:ly a b)(hv:a ^ b.toNat=v):QE X (.BinOp (.Constant (.int a) j1 p1) .Pow (.Constant (.int b) j2 p2) pos) (tC (.int v)):=
 ⟨fun c s σ H Q I h=>(aS jR (aq (i:=a)) (aq (i:=b))).h c s σ H Q I (by
  show ∃ i j,V.int a=.int i/\V.int b=.int j/\ly i j/\Q (.int (i ^ j.toNat)) H;exact⟨a,b,rfl,rfl,hc,by rw[hv];exact h⟩)⟩
def gD (g:Bool × List Nat):PyData:=.tuple [.str (kd g.1),.tuple ((aA g.2).map PyData.int)]
theorem GF.dt:∀ {vs:List V} {L:List (Bool × List Nat)},GF K H vs L->dE K H vs (L.map gD)
 | [],[],_=>.nil
 | _::_,g::_,⟨⟨r,p,e,h,a,_⟩,t⟩=>by rw[e];exact .cons (.tup h (.cons (.str _) (.cons (.tup a (dE.ints _)) .nil))) (GF.dt t)
 | [],_::_,h=>h.elim
 | _::_,[],h=>h.elim
theorem pd:∀ L:List (Bool × List Nat),PyData.canLayAll0 (L.map gD)=true/\PyData.depthAll (L.map gD)<=20
 | []=>⟨by simp[PyData.canLayAll0],by simp[PyData.depthAll]⟩
 | g::q=>by
  obtain⟨h1,c⟩:=pd q;have b:=PySem.W.depthAll_ints (aA g.2);have a:=PySem.W.canLayAll0_ints (aA g.2);rw[pS];refine⟨?_,?_⟩
  ·simp only[PyData.canLayAll0,gD,PyData.canLay0,a,h1,Bool.and_true]
   cases g.1<;>decide +kernel
  ·simp only[PyData.depthAll,gD,PyData.depth];omega
theorem jM (L:List (Bool × List Nat)):shaped (.tuple (L.map gD))=true:=by
 obtain⟨h1,a⟩:=pd L;show (PyData.canLay0 (.tuple (L.map gD))&&decide (PyData.depth (.tuple (L.map gD))<=64))=true;rw[gz,k0];refine⟨by simp only[PyData.canLay0];exact h1,by simp only[PyData.depth];omega⟩
theorem zi (L:List (Bool × List Nat)):(gI L).length=L.length:=b7 _
theorem ah.G9 (s:ah H H'){b:Addr}(h:H' b=none):H b=none:=by
 cases e:H b with
 | none=>rfl
 | some o=>rw[s _ _ e] at h;cases h
def Sub (a m:Nat):Prop:=∀ j,a.testBit j=true->m.testBit j=true
def Ha (a b:Nat):Prop:=∀ j,a.testBit j=true->b.testBit j=false
variable {a b:Nat}
theorem Ha.symm (h:Ha a b):Ha b a:=fun j hj=>by
 cases e:a.testBit j with
 | false=>rfl
 | true=>rw[h j e] at hj;cases hj
theorem Sub.trans {c:Nat}(h:Sub a b)(k:Sub b c):Sub a c:=fun j hj=>k j (h j hj)
variable {m:Nat}
theorem Sub.and (h:Sub a m):m&&& a=a:=tM.mpr h
theorem Kv (a b:Nat):a&&& b=2*(a / 2&&& b / 2)+(a % 2)*(b % 2):=by
 have h1:(a&&& b) / 2=a / 2&&& b / 2:=Nat.and_div_two;have c:(a&&& b) % 2=(a % 2)*(b % 2):=by
  have:=Nat.and_mod_two_pow (a:=a) (b:=b) (n:=1)
  rw[Nat.pow_one] at this;rw[this]
  rcases Ua a with e | e<;>rcases Ua b with f | f<;>rw[e,f]<;>decide
 omega
theorem Sub.le (h:Sub a m):a<=m:=by
 have:=h.and
 rw[<-this];exact Nat.and_le_left
theorem Kw:∀ (m:Nat),0<m->∃ i,m.testBit i=true/\m - (m&&& (m - 1))=2 ^ i:=by
 intro m
 induction m using Nat.strongRecOn with
 | _ m b=>
  intro c;have hm:=Kv m (m - 1)
  rcases Ua m with e | e
  ·obtain⟨i,h1,d⟩:=b (m / 2) (by omega) (by omega)
   refine⟨i+1,by rw[Nat.testBit_succ];exact h1,?_⟩
   have a:(m - 1) / 2=m / 2 - 1:=by omega
   rw[a,e,Nat.zero_mul] at hm;rw[Nat.pow_succ]
   omega
  ·refine⟨0,by rw[Nat.testBit_zero,e];rfl,?_⟩
   have a:(m - 1) / 2=m / 2:=by omega
   have e2:(m - 1) % 2=0:=by omega
   rw[a,e2,Nat.and_self] at hm;rw[Nat.pow_zero]
   omega
theorem jC (h:Sub a m)(j:Nat):(m - a).testBit j=(m.testBit j&&!a.testBit j):=by
 have:=iT m a j
 rwa [h.and] at this
theorem ug (h:Ha a b)(j:Nat):(a+b).testBit j=(a.testBit j||b.testBit j):=by
 have z:a&&& b=0:=by
  apply TF
  intro j;rw[testBit_and,Uu]
  cases e:a.testBit j with
  | false=>rfl
  | true=>rw[h j e];rfl
 rw[oC,z,Nat.add_zero,testBit_or]
theorem g7 (h:m.testBit i=true):Sub (2 ^ i) m:=fun j hj=>by
 rw[KB,k0] at hj;rw[<-hj];exact h
theorem cq (h:m.testBit i=true)(j:Nat):(m - 2 ^ i).testBit j=(m.testBit j&&!decide (i=j)):=by
 rw[jC (g7 h),KB]
def OD (m:Nat)(l:List Nat):Prop:=(∀ a∈l,Sub a m)/\l.Pairwise Ha
def val (v:Nat->Nat)(l:List Nat):Nat:=(l.map v).sum
theorem Kx {part:Nat}(hi:m.testBit i=true)(hp:Sub part (m - 2 ^ i))(h:OD ((m - 2 ^ i) - part) l):OD m ((2 ^ i+part)::l):=by
 have d:Ha (2 ^ i) part:=fun j hj=>by
  rw[KB,k0] at hj
  cases e:part.testBit j with
  | false=>rfl
  | true=>
   have:=hp j e
   rw[cq hi,hj] at this
   simp at this
 have b:Sub (2 ^ i+part) m:=fun j hj=>by
  rw[ug d,Pi] at hj
  rcases hj with hj | hj
  ·exact g7 hi j hj
  ·have:=hp j hj
   rw[cq hi,gz] at this;exact this.1
 have c:Sub (m - 2 ^ i - part) m:=fun j hj=>by
  rw[jC hp,cq hi,gz,gz] at hj;exact hj.1.1
 refine⟨fun a f=>?_,F2.mpr ⟨fun a f j hj=>?_,h.2⟩⟩
 ·rcases h9.mp f with e | e
  ·rw[e];exact b
  ·exact(h.1 a e).trans c
 ·cases e:a.testBit j with
  | false=>rfl
  | true=>
   have:=h.1 a f j e
   rw[jC hp,cq hi] at this;rw[ug d,Pi,KB,k0] at hj
   rcases hj with hj | hj
   ·rw[hj] at this;simp at this
   ·rw[hj] at this;simp at this
variable {v:Nat->Nat}
theorem Hb {l':List Nat}(h:l.Perm l'):val v l=val v l':=by
 unfold val;exact(h.map v).sum_nat
theorem OE {X:Nat}(hi:m.testBit i=true)(f:Nat->Nat)(hf:∀ k,k<m->∀ l,OD k l->val v l<=f k)(h1:f (m - 2 ^ i)<=X)
  (h2:∀ part,Sub part (m - 2 ^ i)->v (2 ^ i+part)+f ((m - 2 ^ i) - part)<=X):∀ l,OD m l->val v l<=X:=by
 intro l r;have x:2 ^ i<=m:=(g7 hi).le;have A:0<2 ^ i:=P3 i
 by_cases c:∃ a∈l,a.testBit i=true
 ·obtain⟨a,s,d⟩:=c;have g:l.Perm (a::l.erase a):=List.perm_cons_erase s;have u:(a::l.erase a).Pairwise Ha:=g.pairwise r.2 (fun h=>Ha.symm h);obtain⟨y,q⟩:=F2.mp u;have w:=r.1 a s;have p:Sub (2 ^ i) a:=g7 d;have n:Sub (a - 2 ^ i) (m - 2 ^ i):=fun j hj=>by
   rw[cq d,gz] at hj;rw[cq hi,w j hj.1,hj.2];rfl
  have e:2 ^ i+(a - 2 ^ i)=a:=by have:=p.le;omega
  have B:=h2 (a - 2 ^ i) n;rw[e] at B;have C:=hf ((m - 2 ^ i) - (a - 2 ^ i)) (by omega) (l.erase a) ⟨fun b hb j hj=>?_,q⟩
  ·rw[Hb g];show v a+val v (l.erase a)<=X
   omega
  ·have t:=r.1 b (List.mem_of_mem_erase hb) j hj;have o:=(y b hb).symm j hj;rw[jC n,cq hi,cq d,t,o]
   have:i≠j:=fun z=>by rw[z] at d;rw[d] at o;cases o
   simp[this]
 ·refine j5 (hf (m - 2 ^ i) (by omega) l ⟨fun a s j hj=>?_,r.2⟩) h1
  rw[cq hi,r.1 a s j hj]
  have:i≠j:=fun z=>c ⟨a,s,by rw[z];exact hj⟩
  simp[this]
theorem Hc (h0:v 0=0):∀ l,OD 0 l->val v l<=0:=by
 intro l d
 have:∀ a∈l,a=0:=fun a b=>Nat.eq_zero_of_le_zero (d.1 a b).le
 unfold val;have e:l.map v=l.map fun _=>0:=List.map_congr_left fun a b=>by rw[this a b,h0]
 rw[e]
 have:∀ k:List Nat,(k.map fun _=>0).sum=0:=fun k=>by
  induction k with
  | nil=>rfl
  | cons x r c=>rw[pS,Tz,c]
 rw[this];exact ed _
variable {x n:Nat}
theorem gN (h:m<2 ^ n)(hx:m.testBit x=true):x<n:=q7 fun q=>by
 rw[gU h (by omega)] at hx;cases hx
theorem cP:x∈aG m↔m.testBit x=true:=by
 unfold aG;rw[qs,ka];exact⟨fun h=>h.2,fun h=>⟨gN lt_log2_self h,h⟩⟩
theorem mU (m:Nat):(aG m).Pairwise (· < ·):=List.pairwise_lt_range.sublist filter_sublist
theorem dC (m:Nat):(aG m).Nodup:=(mU m).imp fun h=>by omega
theorem CQ (m:Nat):mask (aG m)=m:=by
 apply TF
 intro j;rw[cO (dC m)]
 by_cases c:m.testBit j=true
 ·rw[c,ea (cP.mpr c)]
 ·rw[ek (fun z=>c (cP.mp z))]
  cases e:m.testBit j with
  | false=>rfl
  | true=>exact absurd e c
def iZ (cs:List Int)(l:List Nat):Int:=cj (pr (fT cs l)) (fT cs l) / pr (fT cs l)
def g9 (cs:List Int)(ws:List Nat)(m:Nat):Int:=if cp ws (aG m)=true then iZ cs (aG m) else 0
def zj (cs:List Int)(ws:List Nat)(m:Nat):Prop:=∃ r:List Nat,r.Nodup/\(∀ x,x∈r↔m.testBit x=true)/\2<=r.length/\(∀ x∈r,cs.getD x 0=2)/\∀ k,k<r.length->fg ws (r.getD k 0) (r.getD ((k+1) % r.length) 0)=true
open Classical in
noncomputable def worth (cs:List Int)(ws:List Nat)(m:Nat):Nat:=if g9 cs ws m=0 then (if zj cs ws m then 1 else 0) else (g9 cs ws m).toNat
theorem OF (hp:∀ c∈cs,1<=c)(hl:∀ x∈l,x<cs.length):∀ c∈fT cs l,1<=c:=fun c hc=>by
 unfold fT at hc;obtain⟨x,hx,e⟩:=kc.mp hc;rw[<-e];exact hp _ (getD_mem (hl x hx))
theorem gh (hp:∀ c∈cs,1<=c)(hl:∀ x∈l,x<cs.length):0<=iZ cs l:=by
 have h:=OF hp hl;have h1:=f6 h;exact ediv_nonneg (iO (by omega) h) (by omega)
theorem i3 (hp:∀ c∈cs,1<=c)(hm:m<2 ^ cs.length):0<=g9 cs ws m:=by
 unfold g9
 split
 ·exact gh hp fun x hx=>gN hm (cP.mp hx)
 ·omega
theorem zk (cs:List Int)(ws:List Nat):worth cs ws 0=0:=by
 have e:g9 cs ws 0=0:=by
  unfold g9;rw[show aG 0=[] from rfl]
  rfl
 unfold worth;rw[if_pos e,if_neg];rintro⟨r,_,h,b,_⟩
 have:r=[]:=by
  cases r with
  | nil=>rfl
  | cons a q=>have:=(h a).mp fO;rw[Uu] at this;cases this
 rw[this] at b;simp at b
theorem zm (hp:∀ c∈cs,1<=c)(hm:m<2 ^ cs.length):g9 cs ws m<=(worth cs ws m:Int):=by
 have:=i3 (ws:=ws) hp hm
 unfold worth
 split
 ·omega
 ·omega
theorem zo (hp:∀ c∈cs,1<=c)(hm:m<2 ^ cs.length)(h:zj cs ws m):1<=worth cs ws m:=by
 have:=i3 (ws:=ws) hp hm
 unfold worth
 split
 ·first | (rw[if_pos h];exact ed _) | exact ed _
 ·omega
structure GG (cs:List Int)(ws:List Nat)(m:Nat)(g:Bool × List Nat):Prop where
 ok:O8 cs ws g
 ne:g.2≠[]
 rise:g.1=false->g.2.Pairwise (· < ·)
 Sd:∀ x∈g.2,m.testBit x=true
theorem GG.mono {k:Nat}(h:GG cs ws k g)(s:Sub k m):GG cs ws m g:=⟨h.ok,h.ne,h.rise,fun x hx=>s x (h.Sd x hx)⟩
theorem zp (h:∀ x∈l,∀ y∈l,x≠y->fg ws x y=true):cp ws l=true:=by
 unfold cp;rw[kf];intro x hx;rw[kf];intro y hy;rw[Pi,k0]
 by_cases c:y=x
 ·exact .inl c
 ·exact .inr (h x hx y hy fun z=>c z.symm)
theorem zq (h:cp ws l=true):∀ x∈l,∀ y∈l,x≠y->fg ws x y=true:=fun x hx y hy n=>by
 unfold cp at h;rw[kf] at h
 have:=h x hx
 rw[kf] at this
 have:=this y hy
 rw[Pi,k0] at this
 rcases this with e | e
 ·exact absurd e.symm n
 ·exact e
theorem pe (cs:List Int)(l:List Nat):jx cs (false,l)=iZ cs l:=rfl
theorem Hd (hp:∀ c∈cs,1<=c)(h:GG cs ws m g):jx cs g<=(worth cs ws (mask g.2):Int):=by
 obtain⟨b,l⟩:=g;have d:∀ x∈l,x<cs.length:=h.ok.lt;have a:l.Nodup:=h.ok.nd;have hm:mask l<2 ^ cs.length:=A9 a d
 cases b with
 | true=>
  obtain⟨e,hc,f⟩:=h.ok.ring rfl
  have:=zo (ws:=ws) hp hm ⟨l,a,fun x=>by rw[cO a,k0],e,hc,f⟩
  show (1:Int)<=(worth cs ws (mask l):Int)
  omega
 | false=>
  refine Int.le_trans ?_ (zm hp hm);rw[pe];unfold g9;rw[Cv (h.rise rfl),if_pos (zp (h.ok.g9 rfl))];exact Uw _
theorem He {a b:List Nat}(ha:a.Nodup)(hb:b.Nodup)(h:∀ x∈a,x∉b):Ha (mask a) (mask b):=fun j hj=>by
 rw[cO ha,k0] at hj;rw[cO hb,ek (h j hj)]
theorem Hf {cs:List Int}{ws:List Nat}{m:Nat}(hp:∀ c∈cs,1<=c):∀ {L:List (Bool × List Nat)},(∀ g∈L,GG cs ws m g)->(L.Pairwise fun g h=>∀ x∈g.2,x∉h.2)->OD m (L.map fun g=>mask g.2)/\(L.map (jx cs)).sum<=(val (worth cs ws) (L.map fun g=>mask g.2):Int)
 | [],_,_=>⟨⟨(fun _ h=>nomatch h),List.Pairwise.nil⟩,Uw _⟩
 | g::L,h,p=>by
  obtain⟨o,l⟩:=F2.mp p;obtain⟨⟨n,r⟩,q⟩:=Hf hp (fun g b=>h g (fA _ b)) l;have b:=h g fO;have w:=Hd hp b;refine⟨⟨fun a f=>?_,F2.mpr ⟨fun a f=>?_,r⟩⟩,?_⟩
  ·rcases h9.mp f with e | e
   ·rw[e];intro j hj;rw[cO b.ok.nd,k0] at hj;exact b.Sd j hj
   ·exact n a e
  ·obtain⟨i,d,e⟩:=kc.mp f;rw[<-e];exact He b.ok.nd (h i (fA _ d)).ok.nd (o i d)
  ·unfold val at q ⊢;rw[pS,pS,pS,Tz,Tz]
   omega
def zr (cs:List Int)(l:List Nat):List Nat:=l.filter fun i=>decide (cs.getD i 0=2)
def jX (ws l:List Nat):List Nat:=(List.range ws.length).map fun i=>if i∈l then ws.getD i 0 else 0
theorem fK (ws l:List Nat):(jX ws l).length=ws.length:=by unfold jX;rw[b7,j9]
theorem pf (hi:i<ws.length):(jX ws l).getD i 0=if i∈l then ws.getD i 0 else 0:=by
 unfold jX;rw[b5,eG,xH hi];rfl
theorem nV {j:Nat}(hi:i<ws.length):fg (jX ws l) i j=(decide (i∈l)&&fg ws i j):=by
 unfold fg;rw[pf hi]
 by_cases c:i∈l
 ·rw[if_pos c,ea c];rfl
 ·rw[if_neg c,ek c,Uu];rfl
theorem Ky (h:iQ ws):iQ (jX ws l):=by
 refine⟨fun i hi=>?_,fun i hi=>?_⟩
 ·rw[fK] at hi;rw[pf hi,fK]
  split
  ·exact h.lt i hi
  ·exact P3 _
 ·rw[fK] at hi;rw[nV hi,h.self i hi,Uq]
variable {r:List Nat}
theorem nv (h2:1<=r.length)(hl:∀ x∈r,x<ws.length)(hs:∀ k,k<r.length->fg ws (r.getD k 0) (r.getD ((k+1) % r.length) 0)=true):¬ tN ws:=by
 rintro⟨f,c⟩;have a:∀ k,k<r.length->r.getD k 0∈r:=fun k hk=>iy hk;have b:∀ k,k<r.length->f (r.getD k 0)+k<=f (r.getD 0 0):=by
  intro k
  induction k with
  | zero=>intro _;omega
  | succ k d=>
   intro hk;have i:=d (by omega)
   have e:=c _ _ (hl _ (a k (by omega))) (hs k (by omega))
   rw[Uz hk] at e
   omega
 have h:=b (r.length - 1) (by omega)
 have g:=c _ _ (hl _ (a (r.length - 1) (by omega))) (hs (r.length - 1) (by omega))
 rw[show r.length - 1+1=r.length by omega,mod_self] at g
 omega
theorem ql (hn:ws.length=cs.length)(hm:m<2 ^ cs.length)(h:zj cs ws m):¬ tN (jX ws (zr cs (aG m))):=by
 obtain⟨r,e,b,d,hc,c⟩:=h;have a:∀ x∈r,x<ws.length:=fun x hx=>by rw[hn];exact gN hm ((b x).mp hx)
 refine nv (r:=r) (by omega) (fun x hx=>by rw[fK];exact a x hx) fun k hk=>?_
 have hx:=iy hk;rw[nV (a _ hx),c k hk,ea]
 ·rfl
 ·exact qs.mpr ⟨cP.mpr ((b _).mp hx),ea (hc _ hx)⟩
theorem wF:∀ {W:Int} {p:List Int},(∀ c∈p,c=2)->cj W p=p.length*(W / 2)
 | W,[],_=>by simp[cj]
 | W,a::p,h=>by
  have b:=wF (W:=W) (p:=p) fun c hc=>h c (fA _ hc);unfold cj at b ⊢;rw[pS,Tz,b,h a fO,ot]
  have:((p.length+1:Nat):Int)=(p.length:Int)+1:=by omega
  rw[this,TY,Int.one_mul,Int.add_comm]
theorem Hg (h2:2<=l.length)(hc:∀ x∈l,cs.getD x 0=2):1<=iZ cs l:=by
 have f:∀ c∈fT cs l,c=2:=fun c d=>by
  unfold fT at d;obtain⟨x,hx,e⟩:=kc.mp d;rw[<-e];exact hc x hx
 have b:2<=(fT cs l).length:=by rw[gX];exact h2
 unfold iZ;rw[wF f];generalize fT cs l=p at f b;have h:1<=pr p:=f6 fun c hc=>by rw[f c hc];omega
 have j:(2:Int)∣pr p:=by
  cases p with
  | nil=>simp at b
  | cons a q=>
   have e:=f a fO;subst e;exact ow fO
 obtain⟨w,g⟩:=j;have e:pr p / 2=w:=by rw[g];omega
 rw[e];have i:1<=w:=by omega
 refine(Int.le_ediv_iff_mul_le (by omega)).mpr ?_
 rw[g,Int.one_mul];exact A4 (by omega) (by omega)
structure OG (cs:List Int)(ws:List Nat)(m:Nat)(s:Int):Prop where
 g9:cp ws (aG m)=true->s=iZ cs (aG m)
 ring:cp ws (aG m)=false->¬ tN (jX ws (zr cs (aG m)))->s=1
 nn:0<=s
theorem OG.ge {s:Int}(hp:∀ c∈cs,1<=c)(hn:ws.length=cs.length)(hm:m<2 ^ cs.length)(h:OG cs ws m s):(worth cs ws m:Int)<=s:=by
 have f:=i3 (ws:=ws) hp hm;have d:=h.nn
 cases cb:cp ws (aG m) with
 | true=>
  have e:=h.g9 cb;have b:L2.g9 cs ws m=iZ cs (aG m):=by unfold L2.g9;rw[if_pos cb]
  unfold worth
  split
  ·rename_i z
   split
   ·rename_i a
    obtain⟨r,g,a,i,hc,n⟩:=a;have j:r.length<=(aG m).length:=jw g fun x hx=>cP.mpr ((a x).mp hx)
    have:=Hg (cs:=cs) (l:=aG m) (by omega) fun x hx=>hc x ((a x).mpr (cP.mp hx))
    omega
   ·omega
  ·omega
 | false=>
  have b:L2.g9 cs ws m=0:=by unfold L2.g9;rw[if_neg (by rw[cb];exact h5)]
  unfold worth;rw[if_pos b]
  split
  ·rename_i a
   have:=h.ring cb (ql hn hm a)
   omega
  ·omega
theorem zt {k:Nat}{ps:List Nat}(hk:k<(aG m).length)(hi:i=(aG m).getD k 0)(h:∀ q,q∈ps↔(Sub q m/\∀ j,q.testBit j=true->j∈(aG m).take k)) :
  ∀ q,q∈ps++ps.map (fun x=>x+2 ^ i)↔(Sub q m/\∀ j,q.testBit j=true->j∈(aG m).take (k+1)):=by
 have o:(aG m).take (k+1)=(aG m).take k++[i]:=by rw[hi];exact take_snoc 0 hk
 have g:m.testBit i=true:=by rw[hi];exact cP.mp (iy hk)
 have l:i∉(aG m).take k:=fun z=>by
  have h1:=vR (dC m) z;rw[hi,N7 (dC m) hk] at h1
  omega
 have f:∀ q,q∈ps->∀ j,(q+2 ^ i).testBit j=(q.testBit j||decide (i=j)):=fun q hq j=>by
  have hb:q.testBit i=false:=by
   cases e:q.testBit i with
   | false=>rfl
   | true=>exact absurd (((h q).mp hq).2 i e) l
  rw[A8 hb,iR]
 intro q;rw[kb,o]
 constructor
 ·rintro(hq | hq)
  ·obtain⟨a,b⟩:=(h q).mp hq;exact⟨a,fun j hj=>Ud _ (b j hj)⟩
  ·obtain⟨n,d,rfl⟩:=kc.mp hq;obtain⟨a,b⟩:=(h n).mp d;refine⟨fun j hj=>?_,fun j hj=>?_⟩
   ·rw[f n d,Pi,k0] at hj
    rcases hj with hj | hj
    ·exact a j hj
    ·rw[<-hj];exact g
   ·rw[f n d,Pi,k0] at hj
    rcases hj with hj | hj
    ·exact Ud _ (b j hj)
    ·rw[<-hj];exact wh _ fO
 ·rintro⟨a,b⟩
  by_cases c:q.testBit i=true
  ·refine .inr (kc.mpr ⟨q - 2 ^ i,(h _).mpr ⟨fun j hj=>?_,fun j hj=>?_⟩,?_⟩)
   ·rw[cq c,gz] at hj;exact a j hj.1
   ·rw[cq c,gz] at hj
    rcases kb.mp (b j hj.1) with z | z
    ·exact z
    ·rw[eR.mp z] at hj;simp at hj
   ·have:=(g7 c).le
    omega
  ·refine .inl ((h q).mpr ⟨a,fun j hj=>?_⟩)
   rcases kb.mp (b j hj) with z | z
   ·exact z
   ·rw[eR.mp z] at hj;exact absurd hj c
abbrev mV:=Int × List (Bool × List Nat)
def Ch (K:Frag)(H:Hp)(v:V)(x:mV):Prop:=∃ r g us,v=.ref r/\aE K H r [.int x.1,.ref g]/\aE K H g us/\GF K H us x.2
def lY (K:Frag)(H:Hp):List V->List mV->Prop
 | [],[]=>True
 | v::a,x::b=>Ch K H v x/\lY K H a b
 | _,_=>False
theorem Ch.mono {v:V}{x:mV}(s:ah H H')(h:Ch K H v x):Ch K H' v x:=by
 obtain⟨r,g,a,e,h1,c,b⟩:=h;exact⟨r,g,a,e,s.aL h1,s.aL c,b.mono s⟩
theorem Ch.cK {v:V}{x:mV}{acc:Addr}{ys:List V}{o:HO}(ha:H acc=some (.lst ys))(h:Ch K H v x):Ch K (upd H acc o) v x:=by
 obtain⟨r,g,a,e,h1,c,b⟩:=h;exact⟨r,g,a,e,h1.cK ha,c.cK ha,b.cK ha⟩
theorem lY.mono (s:ah H H'):∀ {vs:List V} {xs:List mV},lY K H vs xs->lY K H' vs xs
 | [],[],h=>h
 | _::_,_::_,⟨a,t⟩=>⟨a.mono s,lY.mono s t⟩
 | [],_::_,h=>h.elim
 | _::_,[],h=>h.elim
theorem lY.cK {acc:Addr}{ys:List V}{o:HO}(ha:H acc=some (.lst ys)):∀ {vs:List V} {xs:List mV},lY K H vs xs->lY K (upd H acc o) vs xs
 | [],[],h=>h
 | _::_,_::_,⟨a,t⟩=>⟨a.cK ha,lY.cK ha t⟩
 | [],_::_,h=>h.elim
 | _::_,[],h=>h.elim
theorem lY.length:∀ {vs:List V} {xs:List mV},lY K H vs xs->vs.length=xs.length
 | [],[],_=>rfl
 | _::_,_::_,⟨_,t⟩=>by rw[ot,ot,lY.length t]
 | [],_::_,h=>h.elim
 | _::_,[],h=>h.elim
theorem lY.get:∀ {vs:List V} {xs:List mV} {i:Nat},lY K H vs xs->i<xs.length->∃ v,vs[i]?=some v/\Ch K H v (xs.getD i (0,[]))
 | [],[],i,_,h=>by simp at h
 | v::_,x::_,0,⟨a,_⟩,_=>⟨v,rfl,a⟩
 | _::_,_::xs,i+1,⟨_,t⟩,h=>by
  obtain⟨v,e,c⟩:=lY.get (i:=i) t (by simpa using h)
  exact⟨v,by simpa using e,by simpa using c⟩
 | [],_::_,_,h,_=>h.elim
 | _::_,[],_,h,_=>h.elim
theorem lY.append:∀ {vs ws:List V} {xs ys:List mV},lY K H vs xs->lY K H ws ys->lY K H (vs++ws) (xs++ys)
 | [],_,[],_,_,h=>h
 | _::_,_,_::_,_,⟨a,t⟩,h=>⟨a,lY.append t h⟩
 | [],_,_::_,_,h,_=>h.elim
 | _::_,_,[],_,h,_=>h.elim
structure xP (cs:List Int)(ws:List Nat)(m:Nat)(x:mV):Prop where
 each:∀ g∈x.2,GG cs ws m g
 qC:x.2.Pairwise fun g h=>∀ x∈g.2,x∉h.2
 sum:(x.2.map (jx cs)).sum=x.1
 nn:0<=x.1
theorem xP.mono {cs:List Int}{ws:List Nat}{k m:Nat}{x:mV}(h:xP cs ws k x)(s:Sub k m):xP cs ws m x:=⟨fun g a=>(h.each g a).mono s,h.qC,h.sum,h.nn⟩
variable {x:mV}
theorem xP.len (h:xP cs ws m x):x.2.length<=cs.length:=by
 have i:∀ {L:List (Bool × List Nat)},(∀ g∈L,GG cs ws m g)->(L.Pairwise fun g h=>∀ x∈g.2,x∉h.2)->(L.map fun g=>g.2.getD 0 0).Nodup/\∀ y∈L.map fun g=>g.2.getD 0 0,y<cs.length/\∃ g∈L,y∈g.2:=fun {L} h1 r=>by
  induction L with
  | nil=>exact⟨nodup_nil,fun _ h=>nomatch h⟩
  | cons g L p=>
   obtain⟨o,n⟩:=F2.mp r;obtain⟨q,l⟩:=p (fun g d=>h1 g (fA _ d)) n;have d:=h1 g fO;have hm:g.2.getD 0 0∈g.2:=iy (Do.mpr d.ne);refine⟨?_,fun y hy=>?_⟩
   ·rw[pS,A6];refine⟨fun z=>?_,q⟩;obtain⟨_,j,f,hy⟩:=l _ z;exact o j f _ hm hy
   ·rcases h9.mp hy with e | e
    ·rw[e];exact⟨d.ok.lt _ hm,g,fO,hm⟩
    ·obtain⟨a,j,b,c⟩:=l y e;exact⟨a,j,fA _ b,c⟩
 obtain⟨a,b⟩:=i h.each h.qC
 have:=cE a fun y hy=>(b y hy).1
 rwa [b7] at this
theorem xP.add {y:mV}(h:xP cs ws a x)(k:xP cs ws b y)(d:Ha a b)(s1:Sub a m)(s2:Sub b m):xP cs ws m (x.1+y.1,x.2++y.2):=by
 refine⟨fun g f=>?_,List.pairwise_append.mpr ⟨h.qC,k.qC,fun g f l c z hz i=>?_⟩,?_,?_⟩
 ·rcases kb.mp f with e | e
  ·exact(h.each g e).mono s1
  ·exact(k.each g e).mono s2
 ·have h1:=(h.each g f).Sd z hz;have j:=(k.each l c).Sd z i;rw[d z h1] at j;cases j
 ·show ((x.2++y.2).map (jx cs)).sum=x.1+y.1;rw[hU,L2.sum_append,h.sum,k.sum]
 ·show 0<=x.1+y.1
  have:=h.nn;have:=k.nn;omega
def lZ (cs:List Int)(ws:List Nat)(m:Nat)(x:mV):Prop:=xP cs ws m x/\x.2.length<=1/\OG cs ws m x.1
def fi (cs:List Int)(ws:List Nat)(m:Nat)(x:mV):Prop:=xP cs ws m x/\∀ l,OD m l->val (worth cs ws) l<=x.1.toNat
theorem uh (cs:List Int)(ws:List Nat)(m:Nat):xP cs ws m (0,[]):=⟨(fun _ h=>nomatch h),.nil,rfl,Uw _⟩
theorem CS (cs:List Int)(ws:List Nat):lZ cs ws 0 (0,[]):=by
 refine⟨uh cs ws 0,zero_le _,⟨fun _=>?_,fun h=>?_,Uw _⟩⟩
 ·rw[show aG 0=[] from rfl];rfl
 ·rw[show aG 0=[] from rfl] at h;cases h
theorem CT (cs:List Int)(ws:List Nat):fi cs ws 0 (0,[]):=⟨uh cs ws 0,Hc (zk cs ws)⟩
theorem CU {fl fb:List mV}(hp:∀ c∈cs,1<=c)(hn:ws.length=cs.length)(hm:m<2 ^ cs.length)(hi:m.testBit i=true)
  (hl:∀ k,k<2 ^ cs.length->lZ cs ws k (fl.getD k (0,[]))) (hb:∀ k,k<m->fi cs ws k (fb.getD k (0,[]))) (hx:xP cs ws m x) (h1:(fb.getD (m - 2 ^ i) (0,[])).1<=x.1)
  (h2:∀ part,Sub part (m - 2 ^ i)->(fl.getD (2 ^ i+part) (0,[])).1+(fb.getD ((m - 2 ^ i) - part) (0,[])).1<=x.1):fi cs ws m x:=by
 have b:2 ^ i<=m:=(g7 hi).le;have d:0<2 ^ i:=P3 i;refine⟨hx,OE hi (fun k=>(fb.getD k (0,[])).1.toNat) (fun k hk=>(hb k hk).2) ?_ fun part a=>?_⟩
 ·show (fb.getD (m - 2 ^ i) (0,[])).1.toNat<=x.1.toNat
  omega
 ·have f:=h2 part a;have e:=a.le;have w:=(hl (2 ^ i+part) (by omega)).2.2.ge hp hn (by omega)
  have g:=(hb ((m - 2 ^ i) - part) (by omega)).1.nn
  show worth cs ws (2 ^ i+part)+(fb.getD ((m - 2 ^ i) - part) (0,[])).1.toNat<=x.1.toNat
  omega
def Hh (K:Frag):Sp:=fun a H Q _=>∃ (w:Addr) (ws:List Nat),a=[.ref w]/\aE K H w ((aA ws).map V.int)/\ws.length<=8/\iQ ws/\∀ (H':Hp),ah H H'->(¬ (laidOut ws).length<ws.length->Q .bx H')/\((laidOut ws).length<ws.length->∀ p r o,H' p=some (.iW o (.tup ((aA r).map V.int)))->o.cls=.type "tuple"->o.dict=none->Ring ws r->Q (.ref p) H')
def Rt (K:Frag):Sp:=fun a H Q _=>∃ (w p:Addr) (ws l:List Nat),a=[.ref w,.ref p]/\aE K H w ((aA ws).map V.int)/\aw K H p ((aA l).map V.int)/\ws.length<=8/\l.length<=8/\∀ (t:Addr) (H':Hp),ah H H'->aE K H' t ((aA (jX ws l)).map V.int)->Q (.ref t) H'
def Ru (K:Frag):Sp:=fun a H Q _=>∃ (c w:Addr) (cs:List Int) (ws:List Nat) (m:Nat),a=[.ref c,.ref w,.int (m:Int)]/\aE K H c (cs.map V.int)/\aE K H w ((aA ws).map V.int)/\ck cs/\ws.length=cs.length/\iQ ws/\0<m/\m<2 ^ cs.length/\
 ∀ (t:Addr) (us:List V) (L:List (Bool × List Nat)) (H':Hp),ah H H'->aE K H' t us->GF K H' us L->lZ cs ws m ((L.map (jx cs)).sum,L)->Q (.ref t) H'
def Mo (K:Frag):Sp:=fun a H Q _=>∃ (c w:Addr) (cs:List Int) (ws:List Nat),a=[.ref c,.ref w]/\aE K H c (cs.map V.int)/\aE K H w ((aA ws).map V.int)/\ck cs/\ws.length=cs.length/\iQ ws/\
 ∀ (l:Addr) (us:List V) (fl:List mV) (H':Hp),ah H H'->H l=none->H' l=some (.lst us)->lY K H' us fl->fl.length=2 ^ cs.length->(∀ k,k<2 ^ cs.length->lZ cs ws k (fl.getD k (0,[])))->Q (.ref l) H'
def Rv:Sp:=fun a H Q _=>∃ (m:Nat),a=[.int (m:Int)]/\m<256/\∀ (l:Addr) (ps:List Nat) (H':Hp),ah H H'->H l=none->H' l=some (.lst ((aA ps).map V.int))->(∀ q,q∈ps↔Sub q m)->ps.length<=256->Q (.ref l) H'
def Rw (K:Frag):Sp:=fun a H Q _=>∃ (lo be:Addr) (cs:List Int) (ws:List Nat) (ul ub:List V) (fl fb:List mV) (m:Nat),a=[.ref lo,.ref be,.int (m:Int)]/\aw K H lo ul/\aw K H be ub/\lY K H ul fl/\lY K H ub fb/\ck cs/\ws.length=cs.length/\fl.length=2 ^ cs.length/\fb.length=m/\0<m/\m<2 ^ cs.length/\
 (∀ k,k<2 ^ cs.length->lZ cs ws k (fl.getD k (0,[])))/\(∀ k,k<m->fi cs ws k (fb.getD k (0,[])))/\∀ (v:V) (x:mV) (H':Hp),ah H H'->Ch K H' v x->fi cs ws m x->Q v H'
def OH (K:Frag):Sp:=fun a H Q _=>∃ (c w:Addr) (cs:List Int) (ws:List Nat),a=[.ref c,.ref w]/\aE K H c (cs.map V.int)/\aE K H w ((aA ws).map V.int)/\ck cs/\ws.length=cs.length/\iQ ws/\
 ∀ (t:Addr) (us:List V) (L:List (Bool × List Nat)) (H':Hp),ah H H'->aE K H' t us->GF K H' us L->fi cs ws (2 ^ cs.length - 1) ((L.map (jx cs)).sum,L)->Q (.ref t) H'
variable {us:List Value}
theorem Hi (h:us.length=n+1):∃ a t,us=a::t/\t.length=n:=by
 cases us with
 | nil=>cases h
 | cons a t=>exact⟨a,t,rfl,Nat.succ.inj h⟩
theorem fV (h:us.length=1):∃ a0,us=[a0]:=by
 obtain⟨a,t,rfl,k⟩:=Hi h
 cases t with
 | nil=>exact⟨a,rfl⟩
 | cons _ _=>cases k
theorem fj (h:us.length=2):∃ a0 a1,us=[a0,a1]:=by
 obtain⟨a,t,rfl,k⟩:=Hi h;obtain⟨b,rfl⟩:=fV k;exact⟨a,b,rfl⟩
theorem i4 (h:us.length=3):∃ a0 a1 a2,us=[a0,a1,a2]:=by
 obtain⟨a,t,rfl,k⟩:=Hi h;obtain⟨b,c,rfl⟩:=fj k;exact⟨a,b,c,rfl⟩
theorem CV (h:us.length=4):∃ a0 a1 a2 a3,us=[a0,a1,a2,a3]:=by
 obtain⟨a,t,rfl,k⟩:=Hi h;obtain⟨c,d,b,rfl⟩:=i4 k;exact⟨a,c,d,b,rfl⟩
theorem SO (h:us.length=5):∃ a0 a1 a2 a3 a4,us=[a0,a1,a2,a3,a4]:=by
 obtain⟨a,t,rfl,k⟩:=Hi h;obtain⟨d,e,c,b,rfl⟩:=CV k;exact⟨a,d,e,c,b,rfl⟩
theorem SQ {σ:St}(h:∀ R:St->Hp->Prop,(∀ σ' H',B D σ' H'->R σ' H')->A {D with nx:=R} σ H):BR A B D σ H:=h (B D) fun _ _ z=>z
structure CW (P:Program)(w:World)(K:Frag)(a:Addr)(kvs:List (Key × V)):Prop where
 ns:(a == sysModules)=false
 ex:∃ o vs,K.lookup a=some o/\o.IsDictOf (bT P w) vs/\KV kvs vs
def Mp (kvs:List (Key × V))(a:Addr)(td ty:TE):TE:=fun σ H Q=>td σ H fun x H1=>ty σ H1 fun y b=>∃ k v,x=.ref a/\y=kV k/\cY kvs k=some v/\Q v b
def Hj (kvs:List (Key × V))(a:Addr)(ty td:TE):TE:=fun σ H Q=>ty σ H fun y H1=>td σ H1 fun x b=>∃ k,x=.ref a/\y=kV k/\Q (.bl (!(cY kvs k).isSome)) b
variable {x:Str}{a:Addr}
theorem Rx (S:Sc X N W G)(g:Nat)(h:X.mg x=some (.ref a))(hg:G[g]?=some x:=by rfl):QE X (.Name x pos) (tC (.ref a)):=by
 have q:=S.gl _ (hO hg);exact⟨sH q.1 h rfl q.2.1⟩
variable {kvs:List (Key × V)}
theorem CW.at_ {pins:List (Addr × Obj)}{σ:St}(D:CW X.prog X.w X.K a kvs)(I:Inv X pins σ H s):∃ vs,KV kvs vs/\s.heap.DictOf (bT X.prog X.w) a vs:=by
 obtain⟨o,vs,hk,b,r⟩:=D.ex;exact⟨vs,r,Heap.dictOf_iff.mpr ⟨o,I.ku a o hk,b⟩⟩
variable {i:Expr}
theorem Ry (D:CW X.prog X.w X.K a kvs)(ho:QE X o td)(hi:QE X i ty)(hs:Jo i:=by intro _ _;rfl):QE X (.Subscript o i pos) (Mp kvs a td ty):=by
 refine⟨fun b s σ H Q I h=>AG PySem.F.slot_dict_getitem.lookup hs (bW (ho.h b s σ H _ I h) fun u r ⟨x,H1,g,z,n⟩=>bW (hi.h b r σ H1 _ g n) fun G E ⟨y,t,f,p,k,v,A,j,l,q⟩=>?_)⟩;subst A j;obtain rfl:u=Value.ref a:=z;obtain⟨m,c,e⟩:=D.at_ f;obtain⟨C,B,d⟩:=iD.some_of (v:=v) (o:=valueAt m k) (by rw[<-l];exact c.val k)
 exact⟨e.typeIs,wpAny_getItem_of (rC p) e.mapOf B ⟨v,t,f.tok _,d,q⟩⟩
theorem Kz (D:CW X.prog X.w X.K a kvs)(hi:PE X i ty)(ho:PE X o td):PC X .NotIn i o (Hj kvs a ty td):=by
 intro b s σ H Q I h;refine bW (hi b s σ H _ I h) fun z n ⟨y,H1,e,j,l⟩=>bW (ho b n σ H1 _ e l) fun u v ⟨x,p,d,q,k,r,f,m⟩=>?_;subst r f;obtain rfl:u=Value.ref a:=q;obtain⟨t,c,g⟩:=D.at_ d;refine wpAny_notIn_of (rC j) D.ns g.mapOf ?_;rw[<-(c.val k).ju];exact⟨.bl (!(cY kvs k).isSome),p,d.tok _,rfl,m⟩
theorem Rz (D:CW X.prog X.w X.K a kvs)(hi:QE X i ty)(ho:QE X o td)(hm:behindInMarks .NotIn o=false):QT X (.Compare i [.NotIn] [o] pos) (tB (Hj kvs a ty td)):=⟨DY (Kz D hi.h ho.h) hm⟩
theorem Hk {σ:St} :Mp kvs a td ty σ H Q=td σ H fun x H1=>ty σ H1 fun y H2=>∃ k v,x=.ref a/\y=kV k/\cY kvs k=some v/\Q v H2:=rfl
theorem Hl {σ:St} :Hj kvs a ty td σ H Q=ty σ H fun y H1=>td σ H1 fun x H2=>∃ k,x=.ref a/\y=kV k/\Q (.bl (!(cY kvs k).isSome)) H2:=rfl
def ph (e:Nat->Addr):List (Key × V):=[(.inr "sure",.ref (e 0)),(.inr "share",.ref (e 1)),(.inr "groups",.ref (e 2)),(.inr "ring",.ref (e 3)),(.inr "order",.ref (e 4)),(.inr "put",.ref (e 5)),(.inr "guess",.ref (e 6)),(.inr "right",.ref (e 7)),(.inr "book",.ref (e 8))]
structure ui (P:Program)(w:World)(K:Frag)(mg:Str->Option Value)(a:Addr)(e:Nat->Addr):Prop where
 gl:mg "FORMS"=some (.ref a)
 Pe:CW P w K a (ph e)
 t0:∀ k,k<9->k≠5->k≠6->∀ H,aE K H (e k) []
 t5:∀ H,aE K H (e 5) [.str "name",.str "colour"]
 t6:∀ H,aE K H (e 6) [.str "name"]
def SR (e0 e1 e2 e3 e4 e5 e6 e7 e8:Addr):Nat->Addr
 | 0=>e0
 | 1=>e1
 | 2=>e2
 | 3=>e3
 | 4=>e4
 | 5=>e5
 | 6=>e6
 | 7=>e7
 | _=>e8
variable {u0 u2:Tok}{n1 n2:Nat}
theorem Hm {e0 e1 e2 e3 e4 e5 e6 e7 e8:Addr}{t0 t1 t2 t3 t4 t5 t6 t7 t8 u1:Tok}{n0 n3 n4 n5 n6 n7 n8:Nat}{d0 d1 d2 d3 d4 d5 d6 d7 d8:Option Addr}{s0 s1 s2 s3 s4 s5 s6 s7 s8:Array (Option Value)}(X:K.In h)(G:h.Ns mainGlobals mg)
  (a0:nsIn K mainGlobals "FORMS"=some (some (.ref a))) (hs:(a == sysModules)=false)
  (a1:K.lookup a=some ⟨.type "dict",none,.dict #[⟨PyData.keyHash w.params "sure",.str "sure" t0,.ref e0⟩,⟨PyData.keyHash w.params "share",.str "share" t1,.ref e1⟩,⟨PyData.keyHash w.params "groups",.str "groups" t2,.ref e2⟩,⟨PyData.keyHash w.params "ring",.str "ring" t3,.ref e3⟩,⟨PyData.keyHash w.params "order",.str "order" t4,.ref e4⟩,⟨PyData.keyHash w.params "put",.str "put" t5,.ref e5⟩,⟨PyData.keyHash w.params "guess",.str "guess" t6,.ref e6⟩,⟨PyData.keyHash w.params "right",.str "right" t7,.ref e7⟩,⟨PyData.keyHash w.params "book",.str "book" t8,.ref e8⟩] ep,#[]⟩)
  (l0:K.lookup e0=some ⟨.type "tuple",d0,.seq #[] n0,s0⟩) (l1:K.lookup e1=some ⟨.type "tuple",d1,.seq #[] n1,s1⟩) (l2:K.lookup e2=some ⟨.type "tuple",d2,.seq #[] n2,s2⟩) (l3:K.lookup e3=some ⟨.type "tuple",d3,.seq #[] n3,s3⟩) (l4:K.lookup e4=some ⟨.type "tuple",d4,.seq #[] n4,s4⟩) (l5:K.lookup e5=some ⟨.type "tuple",d5,.seq #[.str "name" u0,.str "colour" u1] n5,s5⟩) (l6:K.lookup e6=some ⟨.type "tuple",d6,.seq #[.str "name" u2] n6,s6⟩) (l7:K.lookup e7=some ⟨.type "tuple",d7,.seq #[] n7,s7⟩) (l8:K.lookup e8=some ⟨.type "tuple",d8,.seq #[] n8,s8⟩):ui P w K mg a (SR e0 e1 e2 e3 e4 e5 e6 e7 e8):=by
 refine⟨mg_of X G a0,⟨hs,_,[(.inr "sure",.ref e0),(.inr "share",.ref e1),(.inr "groups",.ref e2),(.inr "ring",.ref e3),(.inr "order",.ref e4),(.inr "put",.ref e5),(.inr "guess",.ref e6),(.inr "right",.ref e7),(.inr "book",.ref e8)],a1,⟨_,_,⟨rfl,rfl,rfl⟩,rfl,?_,?_,?_⟩,?_⟩,fun k hk b c H=>?_,fun H=>.inr ⟨_,_,_,l5,rfl,rfl,by show 2<=sizeLine;decide,.cons ⟨_,rfl⟩ (.cons ⟨_,rfl⟩ .nil)⟩,fun H=>.inr ⟨_,_,_,l6,rfl,rfl,by show 1<=sizeLine;decide,.cons ⟨_,rfl⟩ .nil⟩⟩
 ·intro e he;simp only[List.mem_toArray,mem_cons,not_mem_nil,or_false] at he
  rcases he with rfl | rfl | rfl | rfl | rfl | rfl | rfl | rfl | rfl<;>exact⟨.inr _,bM P w _ _,rfl⟩
 ·exact .cons (bM P w _ _) rfl (.cons (bM P w _ _) rfl (.cons (bM P w _ _) rfl (.cons (bM P w _ _) rfl (.cons (bM P w _ _) rfl (.cons (bM P w _ _) rfl (.cons (bM P w _ _) rfl (.cons (bM P w _ _) rfl (.cons (bM P w _ _) rfl .nil))))))))
 ·show ([.inr "sure",.inr "share",.inr "groups",.inr "ring",.inr "order",.inr "put",.inr "guess",.inr "right",.inr "book"]:List Key).Nodup
  decide +kernel
 ·exact .cons ⟨rfl,rfl⟩ (.cons ⟨rfl,rfl⟩ (.cons ⟨rfl,rfl⟩ (.cons ⟨rfl,rfl⟩ (.cons ⟨rfl,rfl⟩ (.cons ⟨rfl,rfl⟩ (.cons ⟨rfl,rfl⟩ (.cons ⟨rfl,rfl⟩ (.cons ⟨rfl,rfl⟩ .nil))))))))
 ·match k,hk,b,c with
  | 0,_,_,_=>exact .inr ⟨_,_,_,l0,rfl,rfl,by decide,.nil⟩
  | 1,_,_,_=>exact .inr ⟨_,_,_,l1,rfl,rfl,by decide,.nil⟩
  | 2,_,_,_=>exact .inr ⟨_,_,_,l2,rfl,rfl,by decide,.nil⟩
  | 3,_,_,_=>exact .inr ⟨_,_,_,l3,rfl,rfl,by decide,.nil⟩
  | 4,_,_,_=>exact .inr ⟨_,_,_,l4,rfl,rfl,by decide,.nil⟩
  | 7,_,_,_=>exact .inr ⟨_,_,_,l7,rfl,rfl,by decide,.nil⟩
  | 8,_,_,_=>exact .inr ⟨_,_,_,l8,rfl,rfl,by decide,.nil⟩
structure wG (K:Frag)(C:Addr)(m qual:Str)(st:Stmt)(z:Str):Prop where
 ex:∃ f fd t,Q5 K m qual st f fd [.str z t]/\Meth K C m f
variable {m:Str}
theorem Hn {z:Str}{f T:Addr}{t:Tok}{o:Obj}{oc:Value}{an:Option Addr}{osl:Array (Option Value)}{kV doc pm cU ct:Value}
  (a:findIn K (.ref C) m=some (some (.ref f))) (l:K.lookup f=some ⟨oc,od,.func (fnOf m qual (bw st) (aY st) (aj st) (.ref T) kV doc pm an cU ct),osl⟩)
  (c:codeIn K cU qual=true) (k:keepIn K (.ref f)=true) (i:isFn K (.ref f)=true) (lt:K.lookup T=some o) (ld:o.data=.seq #[.str z t] n):wG K C m qual st z:=
 ⟨f,_,t,⟨⟨oc,od,T,kV,doc,pm,an,cU,ct,osl,o,n,rfl,l,c,lt,ld⟩,k⟩,a,i,k⟩
structure Ho (P:Program)(w:World)(K:Frag)(mg:Str->Option Value)(base:Heap)(k:Nat)(C:Addr)(m p1 p2:Str)(z:Str)(sp:Sp):Prop where
 ex:∃ f fd t,ft P w K mg base (Kr P w) k f fd [p1,p2] sp/\Meth K C m f/\Binds K fd [p1,p2] []/\Binds K fd [p1,p2] [.str z t]
def bindM (m qual:Str)(st:Stmt)(p1 p2:Str):Prop:=∀ (T:Addr) (kV doc pm:Value) (an:Option Addr) (cU ct u v:Value),
 (∃ k,bindArgs (fnOf m qual (bw st) (aY st) (aj st) (.ref T) kV doc pm an cU ct) ⟨[u],[]⟩=(seqItems? (.ref T) >>= k)/\∀ d,k (some #[d])=pure [(p1,u),(p2,d)])/\
 (∃ k,bindArgs (fnOf m qual (bw st) (aY st) (aj st) (.ref T) kV doc pm an cU ct) ⟨[u,v],[]⟩=(seqItems? (.ref T) >>= k)/\∀ d,k (some #[d])=pure [(p1,u),(p2,v)])
variable {z p1 p2:Str}
theorem wG.gq (D:wG K C m qual st z)(S:DS (aj st) N [p1,p2] G)(hb:bindM m qual st p1 p2)
  (len:∀ vs H Q E,sp vs H Q E->vs.length=2)
  (eY:∀ (X:Cx),Sc X N N G->X.prog=P->X.w=w->X.K=K->X.mg=mg->X.base=base->X.calm=true->X.env.scope=aj st->X.xe=(fun _ _=>False)->cB k X.A->X.A.units+64<cLine->
   ∀ (H:Hp) (vs:List V) (Q:VK) (E:XK),sp vs H Q E->∃ t,Cg X (aY st) t/\t {nx:=fun _ H'=>Q .bx H',rt:=Q} (L2.start N vs) H):Ho P w K mg base (k+1) C m p1 p2 z sp:=by
 obtain⟨f,O,t,F,M⟩:=D.ex;obtain⟨L,J,T,kV,a,r,x,p,ct,B,o,n,rfl,I,e,lt,l⟩:=F.ex;refine⟨f,_,t,ft.lift (Eh I e S.fs len fun A d s H vs Q E y j=>?_),M,fun s c i b=>?_,fun s c i b=>?_⟩
 ·obtain⟨t,h,q⟩:=eY _ S.cx rfl rfl rfl rfl rfl rfl rfl rfl y y.units H vs Q E j;exact⟨t,h.h.Ld,q⟩
 ·rw[Ui] at b ⊢
  match c,b with
  | [u,v],_=>
   obtain⟨k,g,e2⟩:=(hb T kV a r x p ct u v).2;exact binds_K i rfl lt l g (e2 _)
 ·obtain⟨u,rfl⟩:∃ u,c=[u]:=by
   rw[fz] at b
   have:c.length=1:=by simpa using b
   exact List.length_eq_one_iff.mp this
  obtain⟨k,g,e2⟩:=(hb T kV a r x p ct u u).1;exact binds_K i rfl lt l g (e2 _)
theorem SS (S:Sc X N W G)(g:Nat)(T:fh X.K X.mg x C fields)(F:Ho X.prog X.w X.K X.mg X.base k C "__init__" p1 p2 z sp)(hx:Passes (Kr X.prog X.w) X E)(hr:cB n X.A)(ha:QB X (e::es) t)(hk:k+1<=n:=by decide)(hg:G[g]?=some x:=by rfl) :
  QE X (.Call (.Name x p) (e::es) [] pos) (mH C sp [] E t):=by
 obtain⟨f,a,_,F,M,hb,_⟩:=F.ex;have q:=S.gl x (hO hg);exact⟨Az ⟨T.makes,M.at_,M.fn,T.kp⟩ F (hr.mono hk) q.1 T.gl hb .nil hx ha.h.pa q.2.1 (bf ha.h.he) (dk ha.h.ES)⟩
theorem RA (S:Sc X N W G)(g:Nat)(T:fh X.K X.mg x C fields)(F:Ho X.prog X.w X.K X.mg X.base k C "__init__" p1 p2 z sp)(hx:Passes (Kr X.prog X.w) X E)(hr:cB n X.A)(hk:k+1<=n:=by decide)(hg:G[g]?=some x:=by rfl) :
  QE X (.Call (.Name x p) [] [] pos) (mH C sp [.str z] E sM):=by
 obtain⟨f,a,t,F,M,_,hb⟩:=F.ex;have q:=S.gl x (hO hg);exact⟨Eg ⟨T.makes,M.at_,M.fn,T.kp⟩ F (hr.mono hk) q.1 T.gl hb (.cons ⟨t,rfl⟩ .nil) hx q.2.1⟩
theorem Bx:mH C sp [.str z] E sM σ H Q=∀ x dx,H x=none->H dx=none->dx≠x->sp [.ref x,.str z] (upd (upd H dx (.own x)) x (.ins C dx [])) (fun v H2=>v=.bx/\Q (.ref x) H2) E:=rfl
abbrev By (k:Bool)(h:Heap)(i l:Addr)(n:Nat):Prop:=cond k (h.IsListIter i l n) (h.IsTupleIter i l n)
abbrev Mq (k:Bool)(h:Heap)(l:Addr)(ys:Array Value):Prop:=cond k (h.IsList l ys) (h.IsTuple l ys)
abbrev mW (k:Bool)(K:Frag)(H:Hp)(l:Addr)(ys:List V):Prop:=cond k (aw K H l ys) (aE K H l ys)
theorem By.at {k:Bool}{h h':Heap}{i l:Addr}{n:Nat}(t:By k h i l n)(q:∀ o,h.get? i=some o->h'.get? i=some o):By k h' i l n:=by
 cases k
 ·exact Heap.IsTupleIter.at t q
 ·exact Heap.IsListIter.at t q
theorem Mq.at {k:Bool}{h h':Heap}{l:Addr}{ys:Array Value}(t:Mq k h l ys)(q:∀ o,h.get? l=some o->h'.get? l=some o):Mq k h' l ys:=by
 cases k
 ·exact Heap.IsTuple.at t q
 ·exact Heap.IsList.at t q
variable {i l:Addr}
theorem By.ob {k:Bool}(t:By k h i l n):∃ o m,h.get? i=some o/\o.cls=.type m/\"zip"≠m/\"tuple"≠m/\∃ d,o.data=.fields d:=by
 cases k
 ·obtain⟨o,e,c,d⟩:=t;exact⟨o,_,e,c,by decide,by decide,_,d⟩
 ·obtain⟨o,e,c,d⟩:=t;exact⟨o,_,e,c,by decide,by decide,_,d⟩
variable {A:Around}{E Q:Value->Shared->Prop}{ys:Array Value}
theorem Tr {k:Bool}{y:Value}(t:By k s.heap i l n)(p:Mq k s.heap l ys)(e:ys[n]?=some y)
  (q:∀ h',By k h' i l (n+1)->h'.objs.size=s.heap.objs.size/\(∀ c,c≠i->h'.get? c=s.heap.get? c)->Q y {s with heap:=h'}):wpAny (model prog w) A (Builtin.SmallTypes.nextOf (.ref i)) Q E s:=by
 cases k
 ·exact oz t p e fun h' a b=>q h' a b
 ·exact wpAny_nextOf_list_item t p e fun h' a b=>q h' a b
variable {xs:Array Value}{z i1 i2:Addr}
theorem RB {k:Bool}{TI TO l1 l2:Addr}{a b:Value}(hA:A.handled=none)(D:ZipApart z TI TO i1 i2 l1 l2)(kz:IsZip s.heap z TI TO .none)(kI:IsPair s.heap TI (.ref i1) (.ref i2))(kO:IsPair s.heap TO a b)
  (t1:s.heap.IsTupleIter i1 l1 n1) (t2:By k s.heap i2 l2 n2) (p1:s.heap.IsTuple l1 xs) (p2:Mq k s.heap l2 ys) (hk:k=true->∀ x,xs[n1]?=some x->ys[n2]?≠none)
  (q:∀ x y h',xs[n1]?=some x->ys[n2]?=some y->IsZip h' z TI TO (rawInt s.heap.objs.size)->IsPair h' TO x y->h'.IsTupleIter i1 l1 (n1+1)->By k h' i2 l2 (n2+1)->IsPair h' s.heap.objs.size x y->
   (∀ c o,c≠z->c≠TO->c≠i1->c≠i2->s.heap.get? c=some o->h'.get? c=some o)->Q (.ref s.heap.objs.size) {s with heap:=h'})
  (qe:∀ h' e,xs[n1]?=none∨ys[n2]?=none->(∀ c o,c≠z->c≠TO->c≠i1->c≠i2->s.heap.get? c=some o->h'.get? c=some o)->(∃ o,h'.get? e=some o/\o.cls=.type "StopIteration")->E (.ref e) {s with heap:=h'}) :
  wpAny (model prog w) A (Builtin.«zip.__next__» ⟨[.ref z],[]⟩) (fun f s'=>∃ v,f=.done (.ret v)/\Q v s') E s:=by
 refine dy (m:=field (.ref z) 2) (Ug kz rfl (x:=.bool false) rfl (dy (m:=field (.ref z) 3) (Ug kz rfl (x:=.ref TI) rfl (dy (T7 kI rfl (dy (m:=Builtin.SmallTypes.ownedTupleIsFree (.ref z)) ?_))))));unfold Builtin.SmallTypes.ownedTupleIsFree;refine dy (Ug kz rfl (x:=.none) rfl (gc ?_));simp only[if_true];refine dy (wpAny_rule (dy (Ug kz rfl (x:=.ref TO) rfl (dy (wpAny_setField_rec kz (by simp) fun u1 z1 l=>?_)))))
 have z1:IsZip u1 z TI TO .ellipsis:=z1;refine dy ?_;simp only[List.zipIdx_cons,List.zipIdx_nil,forIn_cons,List.forIn_nil];have G:∀ (i:Addr) (v u:Heap) (e:Addr),i=i1∨i=i2->xs[n1]?=none∨ys[n2]?=none->i≠z->IsZip v z TI TO .ellipsis->(∀ c o,c≠z->c≠i1->c≠TO->s.heap.get? c=some o->v.get? c=some o)->ExtBut i v u->(∃ o,u.get? e=some o/\o.cls=.type "StopIteration")->
   IsZip u z TI TO .ellipsis/\∀ d,SameBut z u d->E (.ref e) {s with heap:=d}:=by
  intro i v u e hi hn iz zv kv j ⟨oe,ge,X⟩;have z4:u.get? z=some _:=j _ _ iz.symm zv;have ne:e≠z:=gW ge X z4 rfl (by decide)
  exact⟨z4,fun d h=>qe d e hn (fun c o g t p F x=>(h.2 c g).trans (j c o (fun q=>hi.elim (fun r=>p (q.trans r)) fun r=>F (q.trans r)) (kv c o g p t x))) ⟨oe,(h.2 e ne).trans ge,X⟩⟩
 cases I:xs[n1]? with
 | none=>
  refine dy (dy (wpAny_onRaise (dy (m:=Builtin.SmallTypes.nextOf (.ref i1)) (fD hA (t1.at fun o e=>(l.2 _ D.i1z).trans e) (p1.at fun o e=>(l.2 _ D.l1z).trans e) I fun T e C he=>?_))));have f:=G i1 u1 T e (.inl rfl) (.inl I) D.i1z z1 (fun c o g _ _ e=>(l.2 c g).trans e) C he;exact wpAny_setField_rec f.1 (by simp) fun d _ h=>f.2 d h
 | some x=>
 refine dy (dy (wpAny_onRaise (dy (m:=Builtin.SmallTypes.nextOf (.ref i1)) (oz (t1.at fun o e=>(l.2 _ D.i1z).trans e) (p1.at fun o e=>(l.2 _ D.l1z).trans e) I fun T s1 C=>gc ?_))));have U:IsPair T TO a b:=(C.2 _ D.TOi1).trans ((l.2 _ D.TOz).trans kO);refine dy (T7 U rfl (dy (wpAny_updateSeq_pair U fun J R M=>?_)));have R:IsPair J TO x b:=R;have B:∀ c o,c≠z->c≠i1->c≠TO->s.heap.get? c=some o->J.get? c=some o:=fun c o g t p e=>(M.2 c p).trans ((C.2 c t).trans ((l.2 c g).trans e));have z3:IsZip J z TI TO .ellipsis:=(M.2 _ D.TOz.symm).trans ((C.2 _ D.i1z.symm).trans z1);refine dy (wpAny_letGo (gc ?_))
 cases H:ys[n2]? with
 | none=>
  cases k with
  | true=>exact absurd H (hk rfl x I)
  | false=>
  refine dy (dy (wpAny_onRaise (dy (m:=Builtin.SmallTypes.nextOf (.ref i2)) (fD hA (t2.at fun o e=>B _ o D.i2z D.i12.symm D.TOi2.symm e) (p2.at fun o e=>B _ o D.l2z D.l2i1 D.l2TO e) H fun S e j he=>?_))));have f:=G i2 J S e (.inr rfl) (.inr H) D.i2z z3 B j he;exact wpAny_setField_rec f.1 (by simp) fun d _ h=>f.2 d h
 | some y=>
 refine dy (dy (wpAny_onRaise (dy (m:=Builtin.SmallTypes.nextOf (.ref i2)) (Tr (t2.at fun o e=>B _ o D.i2z D.i12.symm D.TOi2.symm e) (p2.at fun o e=>B _ o D.l2z D.l2i1 D.l2TO e) H fun S s2 j=>gc ?_))));have o4:IsPair S TO x b:=(j.2 _ D.TOi2).trans R;refine dy (T7 o4 rfl (dy (wpAny_updateSeq_pair o4 fun d K h=>?_)));have K:IsPair d TO x y:=K;refine dy (wpAny_letGo (gc (gc (dy (T7 K rfl (dy (wpAny_newTuple ?_)))))));have n5:d.objs.size=s.heap.objs.size:=by rw[h.1,j.1,M.1,C.1,l.1]
 have k5:∀ c o,c≠z->c≠TO->c≠i1->c≠i2->s.heap.get? c=some o->d.get? c=some o:=fun c o g t p F e=>(h.2 c t).trans ((j.2 c F).trans (B c o g p t e));have Y:IsZip d z TI TO .ellipsis:=(h.2 _ D.TOz.symm).trans ((j.2 _ D.i2z.symm).trans z3);have r1:d.IsTupleIter i1 l1 (n1+1):=s1.at fun o e=>(h.2 _ D.TOi1.symm).trans ((j.2 _ D.i12).trans ((M.2 _ D.TOi1.symm).trans e));have r2:By k d i2 l2 (n2+1):=s2.at fun o e=>(h.2 _ D.TOi2.symm).trans e;have Z:z<d.objs.size:=lt_size Y;refine dy (m:=Builtin.SmallTypes.ownedTupleHandOut (.ref z) (.ref d.objs.size)) ?_;unfold Builtin.SmallTypes.ownedTupleHandOut;have z6:IsZip (d.push {cls:=.type "tuple",data:=.seq #[x,y]}) z TI TO .ellipsis:=ey _ Y;refine dy (wpAny_setField_rec z6 (by simp) fun u7 P W=>?_)
 have P:IsZip u7 z TI TO (rawInt d.objs.size):=P;refine wpAny_setField_rec P (by simp) fun O N b8=>?_
 have N:IsZip O z TI TO (rawInt d.objs.size):=N;have L:∀ c o,c≠z->d.get? c=some o->O.get? c=some o:=fun c o g e=>(b8.2 c g).trans ((W.2 c g).trans (ey _ e));have new:IsPair O d.objs.size x y:=(b8.2 _ (Us Z)).trans ((W.2 _ (Us Z)).trans (ih _ rfl));rw[n5] at N new;refine gc ⟨_,rfl,(show ∀ n:Nat,n=s.heap.objs.size->Q (.ref n) _ from fun n en=>?_) d.objs.size n5⟩
 subst en;exact q x y O I H N (L _ _ D.TOz K) (r1.at fun o e=>L _ o D.i1z e) (r2.at fun o e=>L _ o D.i2z e) new fun c o g t p F e=>L c o g (k5 c o g t p F e)
abbrev Iw (k:Bool)(p:Addr):Obj:={cls:=.type (cond k "list_iterator" "tuple_iterator"),data:=.fields #[.ref p,.int 0 0]}
def Pb (k:Bool)(h:Heap)(p1 p2:Addr):Heap:=(h.push (LP p1)).push (Iw k p2)
def SU (k:Bool)(h:Heap)(p1 p2:Addr):Heap:=
 (((Pb k h p1 p2).push (DT (.ref h.objs.size) (.ref (h.push (LP p1)).objs.size))).push (DT .none .none)).push {cls:=.type "zip",data:=.fields #[.none,.bool false,.bool false,.ref (Pb k h p1 p2).objs.size,.ref ((Pb k h p1 p2).push (DT (.ref h.objs.size) (.ref (h.push (LP p1)).objs.size))).objs.size]}
theorem Hq (k:Bool)(p1 p2:Addr)(xs ys:Array Value) :
  Meets (Builtin.«zip.__new__» ⟨[.type "zip",.ref p1,.ref p2],[]⟩) (fun _ R s=>s.heap.IsTuple p1 xs/\Mq k s.heap p2 ys/\R (.ok (.ret (.ref (((Pb k s.heap p1 p2).push (DT (.ref s.heap.objs.size) (.ref (s.heap.push (LP p1)).objs.size))).push (DT .none .none)).objs.size))) {s with heap:=SU k s.heap p1 p2}):=
 .of_wp fun f w A R s h=>by
  obtain⟨a,g,d,c,b⟩:=s;obtain⟨j,e2,h⟩:=h;have z:=sub_zip;have i:IsTuple (Shared.heap ⟨a,g,d,c,b⟩) p1 xs:=j
  cases k with
  | true=>
   have e:Heap.IsList (Shared.heap ⟨a.push (LP p1),g,d,c,b⟩) p2 ys:=Heap.IsList.push e2 _
   wp_walk using Re i,TN e
   exact⟨_,rfl,h⟩
  | false=>
   have e:IsTuple (Shared.heap ⟨a.push (LP p1),g,d,c,b⟩) p2 ys:=Heap.IsTuple.push e2 _
   wp_walk using Re i,Re e
   exact⟨_,rfl,h⟩
theorem CY {k:Bool}{p1 p2:Addr}(e1:s.heap.IsTuple p1 xs)(e2:Mq k s.heap p2 ys)
  (q:∀ h',IsZip h' (s.heap.objs.size+4) (s.heap.objs.size+2) (s.heap.objs.size+3) .none->IsPair h' (s.heap.objs.size+2) (.ref s.heap.objs.size) (.ref (s.heap.objs.size+1))->IsPair h' (s.heap.objs.size+3) .none .none->
   h'.IsTupleIter s.heap.objs.size p1 0->By k h' (s.heap.objs.size+1) p2 0->(∀ c o,s.heap.get? c=some o->h'.get? c=some o)->Q (.ref (s.heap.objs.size+4)) {s with heap:=h'}) :
  wpAny (model prog w) A (call (.type "zip") [.ref p1,.ref p2]) Q E s:=by
 refine callType_new F.called_zip (by decide) (F.typeCall_zip_2 _ _) (F.newCall_zip_2 _ _) (fun obj=>F.args_object_init_3 obj _ _) F.entry_zip_new (Hq k p1 p2 xs ys) ⟨e1,e2,?_⟩
 generalize g:s.heap.push (LP p1)=a;have p:a.objs.size=s.heap.objs.size+1:=by rw[<-g];exact IR ..
 have B:a.get? s.heap.objs.size=some (LP p1):=by rw[<-g];exact ih _ rfl
 have C:∀ c o,s.heap.get? c=some o->a.get? c=some o:=fun c o e=>by rw[<-g];exact ey _ e
 have hb:Pb k s.heap p1 p2=a.push (Iw k p2):=by unfold Pb;rw[g]
 have h:(a.push (Iw k p2)).objs.size=s.heap.objs.size+2:=by rw[IR,p]
 have r:(a.push (Iw k p2)).get? (s.heap.objs.size+1)=some (Iw k p2):=by rw[<-p];exact ih _ rfl
 have i:∀ c o,a.get? c=some o->(a.push (Iw k p2)).get? c=some o:=fun c o e=>ey _ e;have z:SU k s.heap p1 p2=(((a.push (Iw k p2)).push (DT (.ref s.heap.objs.size) (.ref a.objs.size))).push (DT .none .none)).push {cls:=.type "zip",data:=.fields #[.none,.bool false,.bool false,.ref (a.push (Iw k p2)).objs.size,.ref ((a.push (Iw k p2)).push (DT (.ref s.heap.objs.size) (.ref a.objs.size))).objs.size]}:=by
  unfold SU;rw[hb,g]
 rw[z,hb];generalize a.push (Iw k p2)=b at h r i;generalize hc:b.push (DT (.ref s.heap.objs.size) (.ref a.objs.size))=c;have m:c.objs.size=s.heap.objs.size+3:=by rw[<-hc,IR,h]
 have v:c.get? (s.heap.objs.size+2)=some (DT (.ref s.heap.objs.size) (.ref a.objs.size)):=by rw[<-hc,<-h];exact ih _ rfl
 have l:∀ x o,b.get? x=some o->c.get? x=some o:=fun x o e=>by rw[<-hc];exact ey _ e
 generalize j:c.push (DT .none .none)=d;have t:d.objs.size=s.heap.objs.size+4:=by rw[<-j,IR,m]
 have y:d.get? (s.heap.objs.size+3)=some (DT .none .none):=by rw[<-j,<-m];exact ih _ rfl
 have kd:∀ x o,c.get? x=some o->d.get? x=some o:=fun x o e=>by rw[<-j];exact ey _ e
 have f:∀ x o u,d.get? x=some o->(d.push u).get? x=some o:=fun x o u e=>ey _ e;rw[p] at v;rw[h,m];have n:=ih d (o:={cls:=.type "zip",data:=.fields #[.none,.bool false,.bool false,.ref (s.heap.objs.size+2),.ref (s.heap.objs.size+3)]}) rfl;rw[t] at n;show _/\_;rw[t];exact⟨⟨_,n,rfl⟩,q _ n (f _ _ _ (kd _ _ v)) (f _ _ _ y) ⟨_,f _ _ _ (kd _ _ (l _ _ (i _ _ B))),rfl,rfl⟩ (by cases k<;>exact⟨_,f _ _ _ (kd _ _ (l _ _ r)),rfl,rfl⟩) fun x o e=>f _ _ _ (kd _ _ (l _ _ (i _ _ (C _ _ e))))⟩
def Pc (k:Bool)(K:Frag)(a b:Addr):It:=
 ⟨fun i H=>∃ xs ys x y,aE K H a xs/\mW k K H b ys/\xs[i]?=some x/\ys[i]?=some y,fun i H v c=>∃ p x y,H p=none/\v=.ref p/\c=upd H p (.tup [x,y])/\∀ xs ys,aE K H a xs->mW k K H b ys->xs[i]?=some x/\ys[i]?=some y,fun i H=>∃ xs ys,aE K H a xs/\mW k K H b ys/\(xs.length<=i∨k=false/\ys.length<=i)⟩
structure RC (k:Bool)(z TI TO i1 i2 a b:Addr)(i:Nat)(h:Heap):Prop where
 zz:IsZip h z TI TO .none
 ti:IsPair h TI (.ref i1) (.ref i2)
 to:∃ u v,IsPair h TO u v
 t1:h.IsTupleIter i1 a i
 t2:By k h i2 b i
variable {pins:List (Addr × Obj)}{xs:List V}{k:Bool}
theorem mW.ar (I:Inv X pins σ H s)(h:mW k X.K H a xs):∃ its,Vals xs its/\Mq k s.heap a its.toArray:=by
 cases k
 ·obtain⟨its,r,p,_⟩:=I.tuple h;exact⟨its,r,show s.heap.IsTuple a its.toArray from p⟩
 ·obtain⟨its,r,p,_⟩:=I.list h;exact⟨its,r,p.isList⟩
variable {ys:List V}
theorem mW.inj (I:Inv X pins σ H s)(h:mW k X.K H a xs)(h':mW k X.K H a ys):xs=ys:=by
 cases k
 ·exact I.jr h h'
 ·exact I.nZ h h'
variable {b:Addr}
theorem i5 (I:Inv X pins σ H s)(h:mW k X.K H a xs)(f:kx X pins H b):a≠b:=fun z=>by
 subst z
 cases k
 all_goals
  rcases h with (h | ⟨o,h⟩) | ⟨o,c,n,hk,_⟩
  ·rw[f.1] at h;cases h
  ·rw[f.1] at h;cases h
  ·have e:=I.mod.Pd a o hk
   rcases f.2.2.2.1 with z | z
   ·exact I.ok.DB a o e z
   ·exact absurd (j6 (lt_size (I.ok.bs a o e).1) z) (M2 _)
variable {TI TO:Addr}{i:Nat}
theorem RC.apart (I:Inv X pins σ H s)(hTT:TI≠TO)(hii:i1≠i2)(st:RC k z TI TO i1 i2 a b i s.heap)(ha:aE X.K H a xs)(hb:mW k X.K H b ys)
  (f:∀ c∈[z,TI,TO,i1,i2],kx X pins H c):ZipApart z TI TO i1 i2 a b:=by
 obtain⟨d,g,⟨u,v,j⟩,w,y⟩:=st;obtain⟨A,B,h,e,x,o,_⟩:=By.ob (k:=false) w;obtain⟨D,C,e2,l,t,r,_⟩:=y.ob;have m:=f z (by simp)
 have p:=f TO (by simp)
 have n:=f i1 (by simp)
 have q:=f i2 (by simp)
 have ha:mW false X.K H a xs:=ha;exact⟨gW g rfl d rfl (by decide),gW j rfl d rfl (by decide),gW h e d rfl x.symm,gW e2 l d rfl t.symm,hTT,gW g rfl h e o,gW g rfl e2 l r,gW j rfl h e o,gW j rfl e2 l r,hii,
  i5 I ha m,i5 I ha p,i5 I ha n,i5 I ha q,i5 I hb m,i5 I hb p,i5 I hb n,i5 I hb q⟩
theorem RC.obj (st:RC k z TI TO i1 i2 a b i h)(c:Addr)(hc:c∈[z,TI,TO,i1,i2]):∃ o,h.get? c=some o/\∀ v,o.data≠.cell v:=by
 obtain⟨j,f,⟨u,v,g⟩,l,n⟩:=st;obtain⟨p,_,d,_,_,_,_,m⟩:=By.ob (k:=false) l;obtain⟨r,_,e2,_,_,_,_,e⟩:=n.ob;simp only[mem_cons,not_mem_nil,or_false] at hc
 rcases hc with rfl | rfl | rfl | rfl | rfl
 ·exact⟨_,j,fun v q=>by cases q⟩
 ·exact⟨_,f,fun v q=>by cases q⟩
 ·exact⟨_,g,fun v q=>by cases q⟩
 ·exact⟨_,d,fun v q=>by rw[m] at q;cases q⟩
 ·exact⟨_,e2,fun v q=>by rw[e] at q;cases q⟩
theorem CZ {k:Bool}{pos:Pos}(z TI TO i1 i2 a b:Addr)(hTT:TI≠TO)(hii:i1≠i2):Turn P w K (.Tuple elts x1 pos) (Pc k K a b) [z,TI,TO,i1,i2] z (RC k z TI TO i1 i2 a b) where
 mem:=by simp
 obj:=fun _ _ l=>l.obj
 keep:=fun i h h' l k=>by
  obtain⟨n,A,⟨u,v,N⟩,C,G⟩:=l;exact⟨k z (by simp) _ n,k TI (by simp) _ A,⟨u,v,k TO (by simp) _ N⟩,C.at fun o q=>k i1 (by simp) o q,G.at fun o q=>k i2 (by simp) o q⟩
 item:=by
  intro X Y hw W hc i O s σ H E I B l U;subst Y hw W;obtain⟨xs,ys,x,y,hq,j,hx,hy⟩:=U;obtain⟨r,rv,p⟩:=mW.ar (k:=false) I hq;obtain⟨f,t,Z⟩:=mW.ar I j;obtain⟨u,hu,ru⟩:=rv.get hx;obtain⟨v,hv,Q⟩:=t.get hy;have eu:r.toArray[i]?=some u:=by simpa using hu
  have R:f.toArray[i]?=some v:=by simpa using hv
  have S:r.toArray[i]?=none∨f.toArray[i]?=none->False:=fun hn=>by
   rw[eu,R] at hn
   rcases hn with hn | hn<;>cases hn
  have D:=l.apart I hTT hii hq j B;have ob:=l.obj;obtain⟨n,A,⟨c,d,N⟩,C,G⟩:=l;have M:s.TypeIs (.ref z) "zip":=⟨_,n,rfl⟩;unfold pyNext;refine dy (wpAny_attempt (Tt (name:=Str.ofString "__next__") M F.slot_zip_next (Ts F.slot_zip_next M F.entry_zip_next
   (RB (by simpa using I.ok.hd hc) D n A N C G p Z (fun _ _ _=>by rw[R];simp) (fun x' y' h1 gx gy z1 to1 r1 r2 new k1=>gc ?_) (fun _ _ hn=>(S hn).elim)) (F.args_zip_next_1 _))))
  rw[eu] at gx;cases gx
  rw[R] at gy;cases gy
  refine⟨_,rfl,wpAny_letOwnedTupleGo_zip z1 fun m z2 L=>?_⟩;have lz:z<s.heap.objs.size:=lt_size n;have J:∀ c o,c≠z->c≠TO->c≠i1->c≠i2->s.heap.get? c=some o->m.get? c=some o:=fun c o a1 a2 a3 a4 e=>(L.2 c a1).trans (k1 c o a1 a2 a3 a4 e);refine⟨.ref s.heap.objs.size,upd H s.heap.objs.size (.tup [x,y]),I.lN (ch:=[z,TI,TO,i1,i2]) (fun c o hc q=>?_) B (ed _) (show bA X.prog X.w _ m _ (.tup _) from ⟨by show 2<=sizeLine;decide,[u,v],.cons ru (.cons Q .nil),?_⟩),rfl,⟨_,x,y,I.fresh,rfl,rfl,fun xs' ys' h1 m=>by rw[I.jr h1 hq,mW.inj I m j];exact⟨hx,hy⟩⟩,⟨z2,?_,⟨u,v,?_⟩,?_,?_⟩,fun c hc=>?_⟩
  ·simp only[mem_cons,not_mem_nil,or_false,not_or] at hc;exact J c o hc.1 hc.2.2.1 hc.2.2.2.1 hc.2.2.2.2 q
  ·exact⟨_,(L.2 _ (Us lz)).trans new,rfl,_,rfl⟩
  ·exact J _ _ D.TIz hTT D.TIi1 D.TIi2 A
  ·exact(L.2 _ D.TOz).trans to1
  ·exact r1.at fun o q=>(L.2 _ D.i1z).trans q
  ·exact r2.at fun o q=>(L.2 _ D.i2z).trans q
  ·obtain⟨o,e,_⟩:=ob c hc;rw[aH (mv (lt_size e))];exact(B c hc).1
 done:=by
  intro X Y hw W hc i O s σ H E I B l U;subst Y hw W;obtain⟨xs,ys,hq,j,hx⟩:=U;obtain⟨r,rv,p⟩:=mW.ar (k:=false) I hq;obtain⟨f,t,Z⟩:=mW.ar I j;have hl:=rv.length;have hl2:=t.length;have D:=l.apart I hTT hii hq j B;obtain⟨n,A,⟨c,d,N⟩,C,G⟩:=l;have M:s.TypeIs (.ref z) "zip":=⟨_,n,rfl⟩;have S:∀ x y,r.toArray[i]?=some x->f.toArray[i]?=some y->False:=fun x y h1 m=>by
   have h1:=(Array.getElem?_eq_some_iff.mp h1).1;have m:=(Array.getElem?_eq_some_iff.mp m).1
   simp at h1 m
   omega
  unfold pyNext;refine dy (wpAny_attempt (Tt (name:=Str.ofString "__next__") M F.slot_zip_next (Ts F.slot_zip_next M F.entry_zip_next
   (RB (by simpa using I.ok.hd hc) D n A N C G p Z (fun hk x h1=>?_) (fun x y _ h1 m _ _ _ _ _ _=>(S x y h1 m).elim) fun h' e _ k he=>?_) (F.args_zip_next_1 _))))
  ·have h1:=(Array.getElem?_eq_some_iff.mp h1).1
   simp at h1
   rcases hx with hx | ⟨hx,_⟩
   ·omega
   ·rw[hk] at hx;cases hx
  obtain⟨o,g,ce⟩:=he;refine dy (wpAny_isInstance (T:="StopIteration") (b:=true) ⟨o,g,ce⟩ isSubtype_stop (gc ⟨rfl,I.JQ (t':=s.toks) (ch:=[z,TI,TO,i1,i2]) (fun c o hc q=>?_) B⟩));simp only[mem_cons,not_mem_nil,or_false,not_or] at hc;exact k c o hc.1 hc.2.2.1 hc.2.2.2.1 hc.2.2.2.2 q
 self:=fun _ _ _ _ _ l h=>wpAny_pyIter_zip l.zz h
end L2
namespace L2
open PySem PySem.Spec PyProof.Rows
def Td (k:Bool)(K:Frag)(ta:TA):TI:=fun σ H R=>ta σ H fun c H1=>∃ a b,c=[.ref a,.ref b]/\(∃ xs,aE K H1 a xs)/\(∃ ys,mW k K H1 b ys)/\R (Pc k K a b) H1
variable {X:Cx}{N W G:List Str}{K:Frag}{e f:Expr}{t:TA}{p pos tpos:Pos}{elts:List Expr}{x1:Nat}
theorem RD (k:Bool)(S:Sc X N W G)(g:Nat)(hm:X.mg "zip"=none)(hK:X.K=K)(ha:QB X [e,f] t)(hg:G[g]?=some "zip":=by rfl):QI X (.Tuple elts x1 tpos) (.Call (.Name "zip" p) [e,f] [] pos) (Td k K t):=by
 subst hK;refine⟨fun j s σ H R I h=>?_⟩;have ha:=ha.h;have q:=S.gl _ (hO hg);have r:Ir f=true:=by have:=ha.ES;rw[all_cons,gz] at this;exact this.1
 refine Call_ (iE I q.1 hm boot_zip (GT (bW (ha.pa pos j s σ H _ I h) fun Z l ⟨Y,H1,d,E,L⟩=>?_) (by rw[bf ha.he,bf r]) (by rw[bf r];rfl)))
 obtain⟨a,b,rfl,⟨T,hq⟩,⟨Q,m⟩,q⟩:=L;obtain⟨u,v,rfl,C,B⟩:=E.two
 cases C
 cases B
 obtain⟨O,rv,M⟩:=mW.ar (k:=false) d hq;obtain⟨w,F,o⟩:=mW.ar d m;refine CY M o fun U x P D y J A=>wpAny_pyIter_zip x ?_;generalize hn:l.heap.objs.size=n at *;refine⟨n+4,[n+4,n+2,n+3,n,n+1],_,_,H1,rfl,d.kept (t':=l.toks) A,CZ _ _ _ _ _ a b (fun z=>by have z:n+2=n+3:=z;omega) (fun z=>by have z:n=n+1:=z;omega),⟨x,P,⟨_,_,D⟩,y,J⟩,fun c hc=>?_,q⟩
 have i:l.heap.objs.size<=c:=by
  simp only[mem_cons,not_mem_nil,or_false] at hc;rw[hn]
  rcases hc with rfl | rfl | rfl | rfl | rfl
  all_goals first | exact ed _ | exact Nat.le_add_right _ _
 exact d.vk i (d.bh.fresh i)
theorem Mr {k:Bool}{ta:TA}{σ:St}{H:Hp}{R:It->Hp->Prop}:Td k K ta σ H R=ta σ H fun vs H1=>∃ a b,vs=[.ref a,.ref b]/\(∃ xs,aE K H1 a xs)/\(∃ ys,mW k K H1 b ys)/\R (Pc k K a b) H1:=rfl
variable {k:Bool}{a b:Addr}{te:TE}{Q:VK}{H1:Hp}{vs us:List V}{rest:St}
theorem RE (n:Nat)(val:Nat->V)(h:aE K H1 a us)(h':mW k K H1 b vs)(hu:n<=us.length)(hv:n<=vs.length)(hl:us.length<=n∨k=false/\vs.length<=n)(hn:n<sizeLine)
  (step:∀ i H (A:V->Hp->Prop),i<n->ah H1 H->(∀ H',ah H H'->A (val i) H')->te (some (us.getD i .bx)::some (vs.getD i .bx)::rest) H A)
  (fin:∀ acc H,H1 acc=none->ah H1 H->H acc=some (.lst ((List.range n).map val))->Q (.ref acc) H) :
  ∃ c d,[V.ref a,V.ref b]=[.ref c,.ref d]/\(∃ xs,aE K H1 c xs)/\(∃ ys,mW k K H1 d ys)/\sW (nj K 2 (dc (bB 0) (dc (bB 1) ni))) il te (none::none::rest) Q (Pc k K c d) H1:=by
 refine⟨a,b,rfl,⟨_,h⟩,⟨_,h'⟩,fun acc f=>?_⟩;refine⟨fun i m τ H=>m=n - i/\i<=n/\(∃ y z,τ=y::z::rest)/\ah H1 H/\H acc=some (.lst ((List.range i).map val)),⟨n,by simp,zero_le _,⟨_,_,rfl⟩,ah.new f _,ag⟩,?_⟩
 rintro i m τ H ⟨rfl,hi,⟨y,z,rfl⟩,j,I⟩;have t:=j.aL h;have B:mW k K H b vs:=by
  cases k
  ·exact j.aL h'
  ·exact j.seq h'
 by_cases g:i<n
 ·have F:∀ o:List V,n<=o.length->o[i]?=some (o.getD i .bx):=fun o N=>by
   rw[b5,cc (j6 g N)];rfl
  have G:=F us hu;have E:=F vs hv;refine .inr ⟨⟨_,_,_,_,t,B,G,E⟩,fun J H'=>(∃ y z,J=y::z::rest)/\ah H1 H'/\H' acc=some (.lst ((List.range (i+1)).map val)),fun J H' ⟨u,v,w⟩=>⟨n - (i+1),by omega,rfl,g,u,v,w⟩,fun x H' y=>?_⟩
  obtain⟨p,O,M,L,rfl,rfl,q⟩:=y;obtain⟨C,r⟩:=q _ _ t B;have C:O=us.getD i .bx:=tz (C.symm.trans G);have r:M=vs.getD i .bx:=tz (r.symm.trans E);subst C r;have D:=ah.new L (.tup [us.getD i .bx,vs.getD i .bx]);refine⟨p,_,rfl,aE.of ag,rfl,_,_,rfl,_,_,rfl,rfl,?_⟩;simp only[gR,yA,kM,set_cons_zero,set_cons_succ];refine step i _ _ g (j.trans D) fun P l=>?_;have s:=l _ _ (D _ _ I);refine⟨_,s,?_,⟨_,_,rfl⟩,((j.trans D).trans l).set f _,?_⟩
  ·rw[b7,j9];omega
  ·rw[ag,Gc,hU];rfl
 ·have e:i=n:=by omega
  subst e;exact .inl ⟨⟨_,_,t,B,hl⟩,fin acc H f j I⟩
theorem RF (val:Nat->V)(h:aE K H1 a us)(h':mW k K H1 b vs)(hl:us.length=vs.length)(hn:us.length<sizeLine)
  (step:∀ i H (A:V->Hp->Prop),i<us.length->ah H1 H->(∀ H',ah H H'->A (val i) H')->te (some (us.getD i .bx)::some (vs.getD i .bx)::rest) H A)
  (fin:∀ acc H,H1 acc=none->ah H1 H->H acc=some (.lst ((List.range us.length).map val))->Q (.ref acc) H) :
  ∃ c d,[V.ref a,V.ref b]=[.ref c,.ref d]/\(∃ xs,aE K H1 c xs)/\(∃ ys,mW k K H1 d ys)/\sW (nj K 2 (dc (bB 0) (dc (bB 1) ni))) il te (none::none::rest) Q (Pc k K c d) H1:=
 RE us.length val h h' (ed _) (Nat.le_of_eq hl) (.inl (ed _)) hn step fin
theorem OI {ns ms:List Int}(n:Nat)(val:Nat->V)(h:aE K H1 a (ns.map V.int))(h':aE K H1 b (ms.map V.int))(hu:n<=ns.length)(hv:n<=ms.length)(hl:ns.length<=n∨ms.length<=n)(hn:n<sizeLine)
  (step:∀ i H (A:V->Hp->Prop),i<n->ah H1 H->(∀ H',ah H H'->A (val i) H')->te (some (.int (ns.getD i 0))::some (.int (ms.getD i 0))::rest) H A)
  (fin:∀ acc H,H1 acc=none->ah H1 H->H acc=some (.lst ((List.range n).map val))->Q (.ref acc) H) :
  ∃ c d,[V.ref a,V.ref b]=[.ref c,.ref d]/\(∃ xs,aE K H1 c xs)/\(∃ ys,mW false K H1 d ys)/\sW (nj K 2 (dc (bB 0) (dc (bB 1) ni))) il te (none::none::rest) Q (Pc false K c d) H1:=by
 have f:∀ (e:List Int) i,i<e.length->(e.map V.int).getD i .bx=.int (e.getD i 0):=fun e i hi=>by
  rw[b5,b5,eG,cc hi];rfl
 refine RE n val h h' (by rw[b7];exact hu) (by rw[b7];exact hv) (by rw[b7,b7];exact hl.imp id fun x=>⟨rfl,x⟩) hn (fun i H A hi g q=>?_) fin
 rw[f ns i (by omega),f ms i (by omega)]
 exact step i H A hi g q
theorem mY:∀ {vs:List Value} {ns:List Str},Vals (ns.map V.str) vs->∀ i,i<ns.length->∃ u,vs[i]?=some (.str (ns.getD i aX) u)
 | _,[],.nil,i,h=>absurd h (SZ i)
 | _,_::_,.cons ⟨t,rfl⟩ _,0,_=>⟨t,rfl⟩
 | _,_::_,.cons ⟨t,rfl⟩ r,i+1,h=>by
  obtain⟨u,e⟩:=mY r i (by simpa using h)
  exact⟨u,by simpa using e⟩
variable {prog:Program}{w:World}{A:Around}{E:Value->Shared->Prop}{s:Shared}{p:Addr}
theorem kY {vs:List Value}{ns:List Str}{k:Str}{t:Tok}{Q:Value->Shared->Prop}(hp:s.heap.IsTuple p vs.toArray)(hi:Vals (ns.map V.str) vs)(hk:k∈ns)(q:∀ tk,Q (.int (ns.idxOf k:Nat) tk) {s with toks:=s.toks+1}) :
  wpAny (model prog w) A (call (.builtin "tuple.index") [.ref p,.str k t]) Q E s:=by
 obtain⟨o,l,B,n,r⟩:=id hp;refine Ts slot_tuple_index hp.typeIs F.entry_tuple_index ?_ (F.args_tuple_index_2 _ _);unfold Builtin.«tuple.index»;refine dy (wpAny_of_eq (a:=(Value.ref p,[Value.str k t])) rfl ?_)
 dsimp only
 have c:=hi.length;rw[b7] at c;have b:ns.idxOf k<ns.length:=GE.mpr hk;have dS:=mY hi;unfold Builtin.Tuple.tupleItemsOf;refine dy (dy (T7 l r (gc (dy (gc (dy (gc (dy ?_))))))));rw[Std.Legacy.Range.forIn_eq_forIn_range'];have d:∀ (m i:Nat) (R:Option Fin × Unit->Shared->Prop),i+m=vs.length->i<=ns.idxOf k->R (some (.done (.ret (.int (ns.idxOf k:Nat) s.toks))),()) {s with toks:=s.toks+1}->
   wpAny (model prog w) A.in1 (forIn (List.range' i m) ((none,()):Option Fin × Unit) fun (i:Nat) __s=>
    match vs.toArray[i]? with
    | some y=>do
     let __do_lift<-eqBool y (Value.str k t)
     if __do_lift=true then do
       let __do_lift<-retInt ((i:Nat):Int)
       pure (ForInStep.done (some __do_lift,()))
      else pure (ForInStep.yield (none,()))
    | x=>pure (ForInStep.yield (none,()))) R E s:=by
  intro m
  induction m with
  | zero=>intro i R h1 z _;omega
  | succ m v=>
   intro i R h1 z j;obtain⟨u,hu⟩:=dS i (by omega)
   rw[List.range'_succ,forIn_cons];have f:vs.toArray[i]?=some (.str (ns.getD i aX) u):=by simpa using hu
   simp only[f];refine dy (dy (wpAny_eqBool_str ?_))
   by_cases e:i=ns.idxOf k
   ·have g:decide (ns.getD i aX=k)=true:=by
     rw[e,b5,cc b];show decide (ns[ns.idxOf k]=k)=true;rw[Ul b];exact ea rfl
    rw[g,if_pos rfl];unfold retInt;refine dy (dy (wpAny_mkInt (gc (gc (gc ?_)))));rw[e];exact j
   ·have g:decide (ns.getD i aX=k)=false:=by
     rw[b5,cc (by omega)]
     show decide (ns[i]=k)=false
     have:=Bl (show i<ns.idxOf k by omega) (by omega)
     exact ek (by simpa using this)
    rw[g,if_neg (by decide)]
    exact gc (v (i+1) R (by omega) (by omega) j)
 have h:(([: min vs.toArray.size vs.toArray.size]:Std.Legacy.Range)).size=vs.length:=by simp[Std.Legacy.Range.size]
 rw[h];exact d vs.length 0 _ (by omega) (zero_le _) (gc ⟨_,rfl,q _⟩)
def Hr (K:Frag):V->List V->Hp->VK->Prop:=fun x a H Q=>∃ (l:Addr) (ns:List Str) (k:Str),x=.ref l/\a=[.str k]/\aE K H l (ns.map V.str)/\k∈ns/\Q (.int (ns.idxOf k:Nat)) H
theorem zu (hK:X.K=K):xM X "tuple.index" (Hr K):=by
 subst hK;intro a s σ H x j v m Q I e f h;obtain⟨l,i,k,rfl,rfl,g,hk,q⟩:=h
 cases e
 obtain⟨u,rfl,c⟩:=f.one;obtain⟨t,rfl⟩:=c;obtain⟨b,r,d,hz⟩:=I.tuple g;exact kY (show s.heap.IsTuple l b.toArray from d) r hk (Q:=EP X a σ Q) fun n=>⟨.int _,H,I.tok _,⟨_,rfl⟩,q⟩
def Hs:List V->Hp->VK->Prop:=fun b H Q=>∃ a kvs,b=[.ref a]/\H a=some (.dK kvs)/\∀ l o,H l=none->o.cls=.type "tuple"->o.dict=none->Q (.ref l) (upd H l (.iW o (.tup (kvs.map fun p=>kV p.1))))
theorem zx (hc:X.calm=true):bS X (.type "tuple") Hs:=by
 intro d s σ H C B Q I r h;obtain⟨a,i,rfl,e,q⟩:=h;obtain⟨u,rfl,x⟩:=vals1 r
 cases x
 obtain⟨z,t,A,g,m⟩:=Li I.bh e;obtain⟨D,m⟩:=CI m;refine nu t (I.ok.hd hc) m (by rw[<-g.length];exact z) fun j l c hk f=>?_
 have n:Inv X d σ H {s with heap:=j,toks:=l}:=I.kept (t':=l) hk;have v:Vals (i.map fun p=>kV p.1) c.toList:=CJ g f;have y:Inv X d σ (upd H j.objs.size (.iW {cls:=.type "tuple",data:=.seq c} (.tup (i.map fun p=>kV p.1)))) {s with heap:=j.push {cls:=.type "tuple",data:=.seq c},toks:=l}:=
  n.laid (t':=l) (fun b o e=>ey _ e) (ed _) (show bA X.prog X.w _ _ _ (.iW _ (.tup _)) from ⟨ih _ rfl,by rw[b7];exact z,c.toList,v,IsTup.new _ _⟩)
 exact⟨.ref j.objs.size,_,y,rfl,q _ _ (n.bh.fresh (ed _)) rfl rfl⟩
variable {L:List (Bool × List Nat)}
theorem SV {rest:St}(val:(Bool × List Nat)->Str)(h:aE K H1 a us)(hg:GL K H1 us L)(hn:L.length<sizeLine)
  (step:∀ (i:Nat) g p H (A:V->Hp->Prop),L[i]?=some g->ah H1 H->aE K H p ((aA g.2).map V.int)->(∀ H',ah H H'->A (.str (val g)) H')->te (some (.str (kd g.1))::some (.ref p)::rest) H A)
  (fin:∀ acc H,H1 acc=none->ah H1 H->H acc=some (.lst ((L.map val).map V.str))->Q (.ref acc) H) :
  ∃ b,V.ref a=.ref b/\(∃ xs,aE K H1 b xs)/\sW (nj K 2 (dc (bB 0) (dc (bB 1) ni))) il te (none::none::rest) Q (BS K b) H1:=by
 have F:=hg.length;refine⟨a,rfl,⟨_,h⟩,fun acc c=>?_⟩;refine⟨fun i m τ H=>m=L.length - i/\i<=L.length/\(∃ y z,τ=y::z::rest)/\ah H1 H/\H acc=some (.lst (((L.take i).map val).map V.str)),⟨L.length,by simp,zero_le _,⟨_,_,rfl⟩,ah.new c _,ag⟩,?_⟩
 rintro i m τ H ⟨rfl,hi,⟨y,z,rfl⟩,f,s⟩;have o:=f.aL h
 by_cases l:i<L.length
 ·have hx:us[i]?=some (us[i]'(by omega)):=cc _
  refine .inr ⟨⟨_,_,o,hx⟩,fun t H'=>(∃ y z,t=y::z::rest)/\ah H1 H'/\H' acc=some (.lst (((L.take (i+1)).map val).map V.str)),fun t H' ⟨u,v,w⟩=>⟨L.length - (i+1),by omega,rfl,l,u,v,w⟩,fun x H' y=>?_⟩
  obtain⟨rfl,B⟩:=y;have n:=B _ o;obtain⟨g,r,p,d,rfl,D,C⟩:=(hg.mono f).get n;refine⟨r,_,rfl,D,rfl,_,_,rfl,_,_,rfl,rfl,?_⟩;simp only[gR,yA,kM,set_cons_zero,set_cons_succ];refine step i g p _ _ d f C fun E j=>?_;have q:=j _ _ s;refine⟨_,q,?_,⟨_,_,rfl⟩,(f.trans j).set c _,?_⟩
  ·rw[b7,b7,xx];omega
  ·rw[ag]
   have:L.take (i+1)=L.take i++[g]:=by rw[take_succ,d];rfl
   rw[this,hU,hU];rfl
 ·have e:i=L.length:=by omega
  subst e;refine .inl ⟨⟨_,o,by omega⟩,fin acc H c f ?_⟩
  rw[s,Tx]
def C0 (K:Frag)(H:Hp)(t:Addr)(b:Bk):Prop:=∃ a1 a2 a3,aE K H t [.ref a1,.ref a2,.ref a3]/\aE K H a1 (b.ns.map V.str)/\vW K H a1/\aE K H a2 ((aA b.cs).map V.int)/\aE K H a3 ((aA b.ws).map V.int)
variable {H H':Hp}{t:Addr}{b:Bk}
theorem C0.mono (s:ah H H')(h:C0 K H t b):C0 K H' t b:=by
 obtain⟨d,g,f,a,h1,e,i,c⟩:=h;exact⟨d,g,f,s.aL a,s.aL h1,e.mono s,s.aL i,s.aL c⟩
variable {C dx:Addr}{fs:List (Str × V)}
theorem C0.dg (s:Off a H H')(ha:H a=some (.ins C dx fs))(h:C0 K H t b):C0 K H' t b:=by
 obtain⟨e,i,g,c,h1,f,j,d⟩:=h;exact⟨e,i,g,c.dg s ha,h1.dg s ha,f.dg s ha,j.dg s ha,d.dg s ha⟩
variable {acc:Addr}{ys:List V}{o:HO}
theorem C0.cK (ha:H acc=some (.lst ys))(h:C0 K H t b):C0 K (upd H acc o) t b:=by
 obtain⟨d,g,f,a,h1,e,i,c⟩:=h;exact⟨d,g,f,a.cK ha,h1.cK ha,e.cK ha,i.cK ha,c.cK ha⟩
theorem C7 {d:Addr}{ns:List Str}(h:DN H d ns)(q:∀ l o,H l=none->o.cls=.type "tuple"->o.dict=none->Q (.ref l) (upd H l (.iW o (.tup (ns.map V.str))))):Hs [.ref d] H Q:=⟨d,_,rfl,h,by rw[wq];exact q⟩
def Bz (K:Frag):Sp:=fun a H Q _=>∃ (L:List Ln) (b:Bk),a=[.str (eV L)]/\(∀ x∈L,jW x)/\L.length<=100/\dI ⟨[],[],[]⟩ L=some b/\∀ t H',ah H H'->C0 K H' t b->Q (.ref t) H'
def wH (K:Frag):Sp:=fun a H Q _=>∃ (t:Addr) (ns:List Str) (cs ws:List Nat),a=[.ref t]/\C0 K H t ⟨ns,cs,ws⟩/\jA ns cs ws/\∀ H',ah H H'->Q (.str (eV ((bg ns ws).map (fH ns cs)))) H'
def KA (b h:Addr):List (Str × V):=[("book",.ref b),("hall",.ref h)]
def wI (b:Addr):List (Str × V):=[("book",.ref b)]
variable {b:Addr}
theorem KD:dQ "book" (.ref b) []=wI b:=rfl
variable {h:Addr}
theorem KG:dQ "hall" (.ref h) (wI b)=KA b h:=by
 unfold wI dQ;rw[if_neg (by decide)];rfl
theorem wJ:(wI b).lookup ("book":Str)=some (.ref b):=rfl
theorem BA:(KA b h).lookup ("book":Str)=some (.ref b):=rfl
theorem nW:(KA b h).lookup ("hall":Str)=some (.ref h):=by
 unfold KA;rw[TJ,show (("hall":Str) == ("book":Str))=false from by decide];rfl
theorem i6 {m:Str}(h1:(m == ("book":Str))=false:=by decide)(h2:(m == ("hall":Str))=false:=by decide):(KA b h).lookup m=none:=by
 unfold KA;rw[TJ,h1];dsimp only;rw[TJ,h2];rfl
structure cF (K:Frag)(cH cD:Addr)(H:Hp)(d hl:Addr)(ns:List Str)(cs ws:List Nat)(L:List (Bool × List Nat))(hs:List Int):Prop where
 ex:∃ dx b,H d=some (.ins cD dx (KA b hl))/\C0 K H b ⟨ns,cs,ws⟩
 cu:∃ c g us,bV K cH H hl c g (aA cs) us hs/\GF K H us L
structure bz (ns:List Str)(cs ws:List Nat)(L:List (Bool × List Nat))(hs:List Int):Prop where
 xg:jA ns cs ws
 best:fi (aA cs) ws (2 ^ (aA cs).length - 1) ((L.map (jx (aA cs))).sum,L)
 eX:HN (aA cs) hs (aA cs).length
theorem bV.cK {K:Frag}{C a c g acc:Addr}{H:Hp}{cs hs:List Int}{us ys:List V}{o:HO}(h:bV K C H a c g cs us hs)(ha:H acc=some (.lst ys)):bV K C (upd H acc o) a c g cs us hs:=by
 obtain⟨b,n,h1,d⟩:=h.ex;exact⟨⟨b,n,by rw[aH (ik h1 ha fun z=>nomatch z)];exact h1,d.cK ha⟩,h.OW.cK ha,h.MC.cK ha⟩
variable {x:Addr}
theorem bV.Ht {C' c g:Addr}{cs hs:List Int}{fs:List (Str × V)}(h:bV K C H a c g cs us hs)(s:Off x H H')(hx:H x=some (.ins C' dx fs))(ne:a≠x):bV K C H' a c g cs us hs:=by
 obtain⟨d,n,h1,b⟩:=h.ex;exact⟨⟨d,n,s _ _ ne h1,b.dg s hx⟩,h.OW.dg s hx,h.MC.dg s hx⟩
variable {cH cD d hl:Addr}{ns:List Str}{cs ws:List Nat}{hs:List Int}
theorem cF.mono (h:cF K cH cD H d hl ns cs ws L hs)(s:ah H H'):cF K cH cD H' d hl ns cs ws L hs:=by
 obtain⟨⟨a,b,h1,f⟩,c,g,i,j,e⟩:=h;exact⟨⟨a,b,s _ _ h1,f.mono s⟩,c,g,i,j.mono s,e.mono s⟩
theorem cF.cK (h:cF K cH cD H d hl ns cs ws L hs)(ha:H acc=some (.lst ys)):cF K cH cD (upd H acc o) d hl ns cs ws L hs:=by
 obtain⟨⟨a,b,h1,f⟩,c,g,i,j,e⟩:=h;exact⟨⟨a,b,by rw[aH (ik h1 ha fun z=>nomatch z)];exact h1,f.cK ha⟩,c,g,i,j.cK ha,e.cK ha⟩
theorem cF.Ht (h:cF K cH cD H d hl ns cs ws L hs)(s:Off x H H')(hx:H x=some (.ins C dx fs))(n1:d≠x)(n2:hl≠x):cF K cH cD H' d hl ns cs ws L hs:=by
 obtain⟨⟨dx,b,h1,e⟩,c,g,f,i,a⟩:=h;exact⟨⟨dx,b,s _ _ n1 h1,e.dg s hx⟩,c,g,f,i.Ht s hx n2,a.dg s hx⟩
theorem cF.ne (h:cF K cH cD H d hl ns cs ws L hs):d≠hl:=fun e=>by
 obtain⟨⟨j,b,h1,_⟩,c,g,l,i,_⟩:=h;obtain⟨f,n,a,_⟩:=i.ex;rw[e,a] at h1
 injection h1 with h1
 injection h1 with _ _ h1
 have:=On List.length h1
 cases this
def fL (i:Int):Str:=Str.ofString (toString i)
def di (ns:List Str)(l:List Nat):Str:=Str.join ⟨#[32]⟩ (l.map fun i=>ns.getD i aX)
def cG (ns:List Str)(l:List Nat):List Str:=if l=[] then [] else [di ns l]
def Hu (ns:List Str)(g:Bool × List Nat):Str:=Str.join ⟨#[32]⟩ (kd g.1::g.2.map fun i=>ns.getD i aX)
def uj (cs:List Int):Str:=fL (O6 cs)++Str.ofString "/"++fL (LK cs)
inductive TK where
 | sure | share | groups | ring | order | book
def jN:TK->Str
 | .sure=>"sure"
 | .share=>"share"
 | .groups=>"groups"
 | .ring=>"ring"
 | .order=>"order"
 | .book=>"book"
def Hv (ns:List Str)(cs ws:List Nat)(L:List (Bool × List Nat)):TK->List Str->Prop
 | .sure,a=>a=[fL (L.map (jx (aA cs))).sum]
 | .share,a=>a=[uj (aA cs)]
 | .groups,a=>a=L.map (Hu ns)
 | .ring,a=>(¬ (laidOut ws).length<ws.length/\a=[])∨((laidOut ws).length<ws.length/\∃ r,Ring ws r/\a=cG ns r)
 | .order,a=>((laidOut ws).length<ws.length/\a=[])∨(¬ (laidOut ws).length<ws.length/\a=cG ns (laidOut ws))
 | .book,a=>a=kU (eV ((bg ns ws).map (fH ns cs)))
inductive AK where
 | told (k:TK)
 | right
 | de (i:Nat)
 | put (i c:Nat)
def dR (ns:List Str):AK->List Str
 | .told k=>[jN k]
 | .right=>["right"]
 | .de i=>["guess",ns.getD i aX]
 | .put i c=>["put",ns.getD i aX,jG c]
def su (ns:List Str):AK->Prop
 | .told _=>True
 | .right=>True
 | .de i=>i<ns.length
 | .put i c=>i<ns.length/\c<10 ^ 30
def sx (p z:Str):Bool:=if p="name" then bG z else decide (z="0")||dz z
def Hw:Sp:=fun a H Q _=>∃ p z:Str,a=[.str p,.str z]/\z.length<=1000000/\∀ H',ah H H'->Q (.bl (sx p z)) H'
def BB (K:Frag)(e:Nat->Addr):Sp:=fun a H Q _=>∃ (p x:Addr) (w0:Str) (f b:List Str),a=[.ref p]/\aw K H p ((w0::b).map V.str)/\cY (ph e) (.inr w0)=some (.ref x)/\aE K H x (f.map V.str)/\b.length=f.length/\b.length<=8/\(∀ z∈b,z.length<=1000000)/\(∀ k,k<f.length->sx (f.getD k aX) (b.getD k aX)=true)/\(∀ H':Hp,aE K H' x (f.map V.str))/\∀ H',ah H H'->Q (.bl true) H'
def RG (K:Frag)(er:Str->Addr):Sp:=fun a H Q E=>∃ (p:Addr) (ns:List Str) (z:Str),a=[.ref p,.str z]/\aE K H p (ns.map V.str)/\vW K H p/\(z∉ns->∀ H',ah H H'->E (.ref (er "NoName")) none H')/\(z∈ns->∀ H',ah H H'->Q (.int (ns.idxOf z:Nat)) H')
structure c8 (ns:List Str)(l:List Nat):Prop where
 nm:∀ x∈ns,x.length<=12
 lt:∀ i∈l,i<ns.length
 eD:l.length<=8
def wK (K:Frag):Sp:=fun b H Q _=>∃ (p:Addr) (ns:List Str) (v:V) (l:List Nat),b=[.ref p,v]/\aE K H p (ns.map V.str)/\((v=.bx/\l=[])∨∃ q,v=.ref q/\aE K H q ((aA l).map V.int))/\c8 ns l/\∀ a H',ah H H'->H a=none->H' a=some (.lst ((cG ns l).map V.str))->Q (.ref a) H'
def wL (K:Frag):Sp:=fun b H Q _=>∃ (p q:Addr) (ns:List Str) (l:List Nat),b=[.ref p,.ref q]/\aE K H p (ns.map V.str)/\aw K H q ((aA l).map V.int)/\c8 ns l/\∀ a H',ah H H'->H a=none->H' a=some (.lst ((cG ns l).map V.str))->Q (.ref a) H'
def Hx (K:Frag):Sp:=fun a H Q _=>∃ (p:Addr) (cs:List Int),a=[.ref p]/\aE K H p (cs.map V.int)/\ck cs/\∀ H',ah H H'->Q (.str (uj cs)) H'
def Ms (K:Frag):Sp:=fun a H Q _=>∃ (p q:Addr) (ns:List Str) (g:Bool × List Nat),a=[.ref p,.str (kd g.1),.ref q]/\aE K H p (ns.map V.str)/\aE K H q ((aA g.2).map V.int)/\c8 ns g.2/\∀ H',ah H H'->Q (.str (Hu ns g)) H'
def Hy (K:Frag):Sp:=fun a H Q _=>∃ (b g:Addr) (ns:List Str) (cs ws:List Nat) (us:List V) (L:List (Bool × List Nat)) (hs:List Int) (k:TK),a=[.ref b,.ref g,.str (jN k)]/\C0 K H b ⟨ns,cs,ws⟩/\aE K H g us/\GF K H us L/\bz ns cs ws L hs/\∀ l rows H',ah H H'->H l=none->H' l=some (.lst (rows.map V.str))->Hv ns cs ws L k rows->Q (.ref l) H'
def BC (K:Frag)(cH cD:Addr):Sp:=fun a H Q _=>∃ (x dx:Addr) (M:List Ln) (ns:List Str) (cs ws:List Nat),a=[.ref x,.str (eV M)]/\H x=some (.ins cD dx [])/\(∀ y∈M,jW y)/\M.length<=100/\dI ⟨[],[],[]⟩ M=some ⟨ns,cs,ws⟩/\jA ns cs ws/\
 ∀ H' hl L,Off x H H'->H hl=none->cF K cH cD H' x hl ns cs ws L (List.replicate cs.length 0)->bz ns cs ws L (List.replicate cs.length 0)->Q .bx H'
def BD (K:Frag)(cH cD:Addr)(er:Str->Addr)(d hl:Addr)(ns:List Str)(cs ws:List Nat)(L:List (Bool × List Nat))(hs:List Int)(H:Hp)(Q:VK)(E:XK):AK->Prop
 | .told k=>∀ l rows H',ah H H'->H l=none->H' l=some (.lst (rows.map V.str))->Hv ns cs ws L k rows->Q (.ref l) H'
 | .right=>∀ l H',ah H H'->H l=none->H' l=some (.lst ((cG ns (fJ (aA cs) hs L)).map V.str))->Q (.ref l) H'
 | .de i=>∀ l H',ah H H'->H l=none->H' l=some (.lst [.str (fL (qh (aA cs) L hs i))])->Q (.ref l) H'
 | .put i c=>(gM (aA cs) (hs.set i (c:Int))=false->∀ H',ah H H'->E (.ref (er "NoHats")) none H')/\(gM (aA cs) (hs.set i (c:Int))=true->∀ l H',Off hl H H'->H l=none->H' l=some (.lst [])->cF K cH cD H' d hl ns cs ws L (hs.set i (c:Int))->Q (.ref l) H')
def Mt (K:Frag)(cH cD:Addr)(er:Str->Addr):Sp:=fun b H Q E=>∃ (d hl:Addr) (ns:List Str) (cs ws:List Nat) (L:List (Bool × List Nat)) (hs:List Int) (a:AK),b=[.ref d,.str (Str.join ⟨#[32]⟩ (dR ns a))]/\cF K cH cD H d hl ns cs ws L hs/\bz ns cs ws L hs/\su ns a/\BD K cH cD er d hl ns cs ws L hs H Q E a
def pj (K:Frag)(C:Addr):Sp:=fun a H Q _=>Kt K C (fun _=>0) a H Q fun _ _ _=>False
def sy (K:Frag)(C:Addr):Sp:=fun a H Q _=>GY K C (fun _=>0) a H Q fun _ _ _=>False
def uk (K:Frag)(C:Addr):Sp:=fun a H Q _=>OA K C (fun _=>0) a H Q fun _ _ _=>False
def Hz (K:Frag):Sp:=fun a H Q _=>RG K (fun _=>0) a H Q fun _ _ _=>False
def l9 (K:Frag)(cH cD:Addr):Sp:=fun a H Q _=>Mt K cH cD (fun _=>0) a H Q fun _ _ _=>False
theorem jA.len (P:jA ns cs ws):(aA cs).length=ns.length:=by rw[ao,P.lc]
theorem jA.wM (P:jA ns cs ws):ck (aA cs):=by
 refine⟨fun c hc=>?_,by rw[P.len];exact P.nm.eD⟩
 unfold aA at hc;obtain⟨n,hn,rfl⟩:=kc.mp hc;have h:=P.SY n hn;have e:(10:Nat) ^ 30=1000000000000000000000000000000:=by decide
 rw[e] at h;refine⟨?_,?_⟩
 ·show (1:Int)<=((n:Nat):Int)
  omega
 ·show ((n:Nat):Int)<=_
  omega
theorem jA.HA (P:jA ns cs ws):iQ ws:=by
 refine⟨fun i hi=>?_,fun i hi=>?_⟩
 ·rw[P.lw] at hi ⊢;exact P.R1 i hi
 ·rw[P.lw] at hi
  have:=P.MA i hi
  unfold fg;rw[r4,this];rfl
theorem bz.wN (D:bz ns cs ws L hs):yO (aA cs) ws L:=⟨fun g a=>(D.best.1.each g a).ok,D.best.1.qC⟩
variable {l:List Nat}
theorem um {n:Nat}(nd:l.Nodup)(h:∀ x∈l,x<n):l.length<=n:=cE nd h
theorem bz.g8 (D:bz ns cs ws L hs):∀ g∈L,g.2.length<=8:=fun g a=>by
 have h:=(D.best.1.each g a).ok
 have:=um h.nd h.lt
 rw[D.xg.len] at this
 have:=D.xg.nm.eD
 omega
theorem bz.eD (D:bz ns cs ws L hs):L.length<=8:=by
 have:=D.best.1.len
 rw[D.xg.len] at this
 have:=D.xg.nm.eD
 show L.length<=8;have h:((L.map (jx (aA cs))).sum,L).2.length<=ns.length:=by assumption
 exact j5 h this
theorem KH (h:l.Pairwise (· < ·)):oM l=true:=by
 unfold oM;refine kf.mpr fun k hk=>ea ?_;rw[ka] at hk;rw[b5,b5,cc (by omega),cc (by omega)]
 exact List.pairwise_iff_getElem.mp h k (k+1) (by omega) (by omega) (by omega)
variable {m:Nat}
theorem pq {cs:List Int}{x:Int × List (Bool × List Nat)}(h:xP cs ws m x):CD cs ws [] 0 (gI x.2)=none:=by
 refine Bw (gone:=[]) (fun g a=>?_) h.qC (fun _ _ _ _ z=>nomatch z);have G:=h.each g a;exact⟨G.ok,G.ok.lt,G.ok.nd,Do.mpr G.ne,fun e=>⟨(G.ok.ring e).1,(G.ok.ring e).2.1⟩,fun e=>KH (G.rise e)⟩
theorem bz.KI (D:bz ns cs ws L hs):(L.map (jx (aA cs))).sum<=8:=by
 have h:=vV D.xg.wM.pos D.eX D.wN;have a:rat (fun i h=>qh (aA cs) L h i) (aA cs).length hs<=8:=by
  unfold rat;refine j5 (A5 _ _) ?_;rw[j9];exact D.xg.wM.len
 omega
theorem bz.BE (D:bz ns cs ws L hs):Bt 5 (L.map (jx (aA cs))).sum:=by
 have h:=D.KI;have a:0<=(L.map (jx (aA cs))).sum:=D.best.1.nn;unfold Bt;show _<32
 omega
theorem jA.Mu (P:jA ns cs ws):∀ x∈ns,x.length<=12:=fun x hx=>(dB (P.nm.nm x hx)).2.2
theorem bz.names (D:bz ns cs ws L hs){g:Bool × List Nat}(hg:g∈L):c8 ns g.2:=
 ⟨D.xg.Mu,fun i hi=>by have:=(D.best.1.each g hg).ok.lt i hi;rw[D.xg.len] at this;exact this,D.g8 g hg⟩
theorem ma (P:jA ns cs ws):c8 ns (fJ (aA cs) hs L):=by
 unfold fJ;refine⟨P.Mu,fun i hi=>?_,?_⟩
 ·have:=(qs.mp hi).1
  rw[ka,P.len] at this;exact this
 ·refine j5 (A5 _ _) ?_;rw[j9,P.len];exact P.nm.eD
theorem uo (P:jA ns cs ws){r:List Nat}(h:Ring ws r):c8 ns r:=by
 have a:∀ i∈r,i<ns.length:=fun i hi=>by have:=h.lt i hi;rw[P.lw] at this;exact this
 exact⟨P.Mu,a,j5 (um h.nd a) P.nm.eD⟩
theorem jY (P:jA ns cs ws):c8 ns (laidOut ws):=by
 obtain⟨l,h,_⟩:=ee ws;have a:∀ i∈laidOut ws,i<ns.length:=fun i hi=>by have:=h.lt i hi;rw[P.lw] at this;exact this
 exact⟨P.Mu,a,j5 (um h.nd a) P.nm.eD⟩
theorem wO (n:Nat):cz (fL (n:Int))=(toDigits 10 n).map Char.toNat:=v7 n
theorem HB {n:Nat}{k:Nat}(h:n<10 ^ k)(hk:0<k):(fL (n:Int)).length<=k:=by
 rw[aM,wO,b7];exact(Nat.length_toDigits_le_iff (by decide) hk).mpr h
theorem c6 {i:Int}{k:Nat}(h0:0<=i)(h:Bt k i)(hk:k<=900):(fL i).length<=300/\i.natAbs.log2<1920:=by
 obtain⟨n,rfl⟩:∃ n:Nat,i=(n:Int):=⟨i.toNat,by omega⟩
 have h:n<2 ^ k:=by unfold Bt at h;rwa [TL] at h
 have a:n<2 ^ 900:=j6 h (ri (by decide) hk)
 refine⟨HB (TV a (by decide +kernel)) (by decide),?_⟩
 rw[TL]
 by_cases z:n=0
 ·subst z;decide
 ·exact(log2_lt z).mpr (TV a (by decide +kernel))
theorem namesW (h:c8 ns l):∀ x∈l.map (fun i=>ns.getD i aX),x.length<=12:=fun x hx=>by
 obtain⟨i,hi,rfl⟩:=kc.mp hx;exact h.nm _ (getD_memS (h.lt i hi))
theorem dO (c:Nat)(k:Nat):∀ (l:List Str),(∀ x∈l,x.length<=k)->(Str.join ⟨#[c]⟩ l).length<=l.length*(k+1)
 | [],_=>by show 0<=_;omega
 | [x],h=>by have:=h x fO;show x.length<=1*(k+1);omega
 | x::y::r,h=>by
  have a:=dO c k (y::r) fun z hz=>h z (fA _ hz)
  have:=h x fO
  rw[aM,bO,fz,fz,Gh,<-aM,<-aM];show x.length+1+_<=((y::r).length+1)*(k+1);rw[Nat.add_mul,Nat.one_mul]
  omega
theorem zy (k:TK):jN k≠"put"/\jN k≠"guess"/\jN k≠"right"/\32∉cz (jN k)/\(jN k).length<=12:=by cases k<;>decide +kernel
theorem kZ {c:Nat}(h:c<10 ^ 30):sx "colour" (jG c)=true/\intText? (jG c)=some (c:Int)/\32∉cz (jG c)/\(jG c).length<=30:=by
 unfold sx;rw[if_neg (by decide)]
 by_cases z:c=0
 ·subst z;decide +kernel
 ·have q:=dA (n:=c) (by omega) h
  have a:dz (jG c)=true:=q.1;refine⟨?_,q.2,(iX a).1,gL a⟩;rw[a,Bool.or_true]
theorem OJ (e:Nat->Addr)(k:TK):∃ j,j<9/\j≠5/\j≠6/\cY (ph e) (.inr (jN k))=some (.ref (e j)):=by
 cases k with
 | sure=>exact⟨0,by decide,by decide,by decide,rfl⟩
 | share=>exact⟨1,by decide,by decide,by decide,rfl⟩
 | groups=>exact⟨2,by decide,by decide,by decide,rfl⟩
 | ring=>exact⟨3,by decide,by decide,by decide,rfl⟩
 | order=>exact⟨4,by decide,by decide,by decide,rfl⟩
 | book=>exact⟨8,by decide,by decide,by decide,rfl⟩
theorem C8 (e:Nat->Addr):cY (ph e) (.inr "right")=some (.ref (e 7)):=rfl
theorem KJ (e:Nat->Addr):cY (ph e) (.inr "put")=some (.ref (e 5)):=rfl
theorem C9 (e:Nat->Addr):cY (ph e) (.inr "guess")=some (.ref (e 6)):=rfl
theorem empty_app (x:Str):Str.empty++x=x:=jy (by rw[b6];rfl)
variable {a:AK}
theorem Dc (P:jA ns cs ws)(h:su ns a):dR ns a≠[]/\(∀ x∈dR ns a,32∉cz x/\x.length<=30)/\(dR ns a).length<=3:=by
 have b:∀ i,i<ns.length->32∉cz (ns.getD i aX)/\(ns.getD i aX).length<=30:=fun i hi=>by
  have q:=P.nm.nm _ (getD_memS hi);exact⟨(eM q).1,j5 (dB q).2.2 (by decide)⟩
 cases a with
 | told k=>
  refine⟨(fun z=>nomatch z),fun x hx=>?_,by show 1<=3;decide⟩
  obtain rfl:x=jN k:=eR.mp hx;exact⟨(zy k).2.2.2.1,j5 (zy k).2.2.2.2 (by decide)⟩
 | right=>
  refine⟨(fun z=>nomatch z),fun x hx=>?_,by show 1<=3;decide⟩
  obtain rfl:x="right":=eR.mp hx
  decide +kernel
 | de i=>
  refine⟨(fun z=>nomatch z),fun x hx=>?_,by show 2<=3;decide⟩
  rcases h9.mp hx with rfl | hx
  ·decide +kernel
  ·obtain rfl:x=ns.getD i aX:=eR.mp hx;exact b i h
 | put i c=>
  refine⟨(fun z=>nomatch z),fun x hx=>?_,by show 3<=3;decide⟩
  rcases h9.mp hx with rfl | hx
  ·decide +kernel
  ·rcases h9.mp hx with rfl | hx
   ·exact b i h.1
   ·obtain rfl:x=jG c:=eR.mp hx;have q:=kZ h.2;exact⟨q.2.2.1,q.2.2.2⟩
variable {aF:Addr}
theorem HC {P:Program}{mg:Str->Option Value}{e:Nat->Addr}(FT:ui P w K mg aF e)(PP:jA ns cs ws)(h:su ns a) :
  ∃ (x:Addr) (w0:Str) (f b:List Str),dR ns a=w0::b/\cY (ph e) (.inr w0)=some (.ref x)/\b.length=f.length/\b.length<=8/\(∀ z∈b,z.length<=1000000)/\(∀ k,k<f.length->sx (f.getD k aX) (b.getD k aX)=true)/\∀ H':Hp,aE K H' x (f.map V.str):=by
 have d:∀ i,i<ns.length->bG (ns.getD i aX)=true/\(ns.getD i aX).length<=1000000:=fun i hi=>by
  have q:=PP.nm.nm _ (getD_memS hi);exact⟨q,j5 (dB q).2.2 (by decide)⟩
 cases a with
 | told k=>
  obtain⟨j,s,n,p,o⟩:=OJ e k;exact⟨e j,jN k,[],[],rfl,o,rfl,by decide,(fun _ z=>nomatch z),(fun _ z=>absurd z (SZ _)),FT.t0 j s n p⟩
 | right=>exact⟨e 7,"right",[],[],rfl,C8 e,rfl,by decide,(fun _ z=>nomatch z),(fun _ z=>absurd z (SZ _)),FT.t0 7 (by decide) (by decide) (by decide)⟩
 | de i=>
  obtain⟨g,l⟩:=d i h;refine⟨e 6,"guess",["name"],[ns.getD i aX],rfl,C9 e,rfl,by show 1<=8;decide,fun z hz=>?_,fun k hk=>?_,FT.t6⟩
  ·rw[eR.mp hz];exact l
  ·obtain rfl:k=0:=by have:k<1:=hk;omega
   exact g
 | put i c=>
  obtain⟨g,l⟩:=d i h.1;obtain⟨m,_,_,r⟩:=kZ h.2;refine⟨e 5,"put",["name","colour"],[ns.getD i aX,jG c],rfl,KJ e,rfl,by show 2<=8;decide,fun z hz=>?_,fun k hk=>?_,FT.t5⟩
  ·rcases h9.mp hz with rfl | hz
   ·exact l
   ·rw[eR.mp hz];exact j5 r (by decide)
  ·have hk:k<2:=hk
   rcases(show k=0∨k=1 by omega) with rfl | rfl
   ·exact g
   ·exact m
theorem zA {cs:List Int}{i:Nat}(hc:ck cs)(hn:HN cs hs cs.length)(h:yO cs ws L)(hi:i<cs.length):0<=qh cs L hs i/\Bt 100 (qh cs L hs i):=by
 obtain⟨h1,a⟩:=JY hc.pos hn h hi;have hm:cs.getD i 0∈cs:=by
  rw[b5,cc hi];exact p0 hi
 exact⟨h1,(hc.cn _ hm).bt.of_le h1 (by omega)⟩
theorem fX (hp:H p=none)(e:upd H p o=H1):ah H H1/\H1 p=some o:=by
 subst e;exact⟨ah.new hp o,ag⟩
variable {a:Addr}{xs:List V}
theorem uq (k:Nat)(h:aw K H a xs)(q:∀ p H',ah H H'->H p=none->H' p=some (.lst (xs.drop k))->Q (.ref p) H'):Eo K (.ref a) (some (k:Int)) none H Q:=
 ⟨a,xs,rfl,h,fun p b=>q p _ (ah.new b _) b (by rw[dG];exact ag)⟩
theorem BF (k:Nat)(h:aw K H a xs)(q:∀ p H',ah H H'->H p=none->H' p=some (.lst (xs.take k))->Q (.ref p) H'):Eo K (.ref a) none (some (k:Int)) H Q:=
 ⟨a,xs,rfl,h,fun p b=>q p _ (ah.new b _) b (by rw[lK];exact ag)⟩
def BG:Sp:=fun b H Q _=>∃ (a:Addr) (dn:List Int) (many:Nat) (kind:Int) (i:Nat),b=[.ref a,.int many,.int kind,.int i]/\H a=some (.lst (dn.map V.int))/\dn.length=24/\(∀ x∈dn,0<=x)/\1<=many/\many<=8/\i<many/\∀ m:Nat,m<2 ^ many->m.testBit i=false->Q (.int (m:Int)) H
def HD:Sp:=fun b H Q _=>∃ (a:Addr) (dn:List Int) (kind:Int) (i:Nat),b=[.ref a,.int kind,.int i]/\H a=some (.lst (dn.map V.int))/\dn.length=8/\(∀ x∈dn,0<=x)/\i<8/\∀ (c:Nat) H',ah H H'->0<c->c<10 ^ 30->Q (.int (c:Int)) H'
def sC (K:Frag):Sp:=fun c H Q _=>∃ (a:Addr) (xs:List Int) (most kinds:Nat),c=[.ref a,.int most,.int kinds]/\aw K H a (xs.map V.int)/\xs.length=3/\1<=most/\most<=8/\1<=kinds/\kinds<=6/\∀ b ns cs ws H',ah H H'->mR H' b ns cs ws->jA ns cs ws->ns.length<=most->Q (.ref b) H'
theorem zB {n i:Nat}(h:i<n):2 ^ n - 1 - 2 ^ i<2 ^ n/\(2 ^ n - 1 - 2 ^ i).testBit i=false:=by
 have h1:2 ^ i<2 ^ n:=TM (by decide) h
 have a:=P3 i;generalize e2:2 ^ n=N at h1 ⊢;refine⟨by omega,?_⟩
 subst e2;rw[show 2 ^ n - 1 - 2 ^ i=2 ^ n - (2 ^ i+1) by omega,Nat.testBit_two_pow_sub_succ h1,Nat.testBit_two_pow_self]
 simp
theorem BH {n i:Nat}(h:i<n):((2 ^ n:Nat):Int) - 1 - ((2 ^ i:Nat):Int)=((2 ^ n - 1 - 2 ^ i:Nat):Int):=by
 have h1:2 ^ i<2 ^ n:=TM (by decide) h
 omega
theorem BI {x e n i:Nat}(h:e<2 ^ n)(h2:e.testBit i=false):x&&& e<2 ^ n/\(x&&& e).testBit i=false:=by
 refine⟨I1 Nat.and_le_right h,?_⟩;rw[testBit_and,h2,Uq]
variable {i:Int}{dn:List Int}{dr:Addr}
theorem b9 (hd:H dr=some (.lst (dn.map V.int)))(hl:dn.length=m)(hnn:∀ x∈dn,0<=x)(h0:0<=i)(h1:i<m)(q:∀ x:Nat,Q (.int (x:Int)) H):B5 K (.ref dr) (.int i) H Q:=by
 obtain⟨m,rfl⟩:=ro h0;have hm:m<dn.length:=by omega
 obtain⟨x,hx⟩:=ro (hnn _ (p0 hm));exact aC (aw.of hd) (aB (by rw[eG,cc hm,hx];rfl)) (q x)
def iB (z:Str):Prop:=∀ c∈cz z,c<1114112
theorem iB.app {a b:Str}(ha:iB a)(hb:iB b):iB (a++b):=fun c hc=>by
 rw[b6] at hc
 rcases kb.mp hc with z | z
 ·exact ha c z
 ·exact hb c z
theorem iB.join {d:Nat}(hd:d<1114112):∀ {l:List Str},(∀ x∈l,iB x)->iB (Str.join ⟨#[d]⟩ l)
 | [],_=>fun c hc=>nomatch hc
 | [x],h=>h x fO
 | x::y::r,h=>fun c hc=>by
  rw[bO,Gh] at hc
  rcases kb.mp hc with z | z
  ·rcases kb.mp z with z | z
   ·exact h x fO c z
   ·rw[eR.mp z];exact hd
  ·exact iB.join hd (fun x hx=>h x (fA _ hx)) c z
variable {z:Str}
theorem iB.ok (h:iB z):PyData.strOk z=true:=by
 unfold PyData.strOk;rw[<-all_toList];exact kf.mpr fun c hc=>ea (h c hc)
theorem iB.low (h:gK z):iB z:=fun c hc=>by
 have a:=tx (h c hc)
 have:∀ c∈cz kR,c<1114112:=by decide +kernel
 exact this c a
theorem iB.fL {i:Int}(h:0<=i):iB (fL i):=by
 obtain⟨n,rfl⟩:=ro h;intro c hc;rw[wO] at hc;obtain⟨d,a,rfl⟩:=kc.mp hc
 have:=Nat.isDigit_of_mem_toDigits (by decide) (by decide) a
 simp only[Char.isDigit,Bool.and_eq_true,decide_eq_true_eq] at this;have b:d.toNat<=57:=this.2
 omega
theorem BJ:∀ l:List Str,(∀ x∈l,iB x)->PyData.canLayAll0 (l.map PyData.str)=true
 | [],_=>by simp[PyData.canLayAll0]
 | x::r,h=>by simp[PyData.canLayAll0,PyData.canLay0,BJ r fun x hx=>h x (mem_cons_of_mem _ hx),(h x mem_cons_self).ok]
variable {l:List Str}
theorem fY (h:∀ x∈l,iB x):shaped (.list (l.map PyData.str))=true:=rY
 (by simp[PyData.canLay0,BJ l h]) (by have:=jV l;simp only[PyData.depth];omega)
theorem k7:∀ l m:List Str,PyData.eqvAll (l.map PyData.str) (m.map PyData.str)=decide (l=m)
 | [],[]=>by simp[PyData.eqvAll]
 | [],_::_=>by simp[PyData.eqvAll]
 | _::_,[]=>by simp[PyData.eqvAll]
 | x::r,y::s=>by
  simp only[map_cons,PyData.eqvAll,PyData.eqv,k7 r s]
  by_cases h:x=y<;>by_cases a:r=s<;>simp[h,a]
theorem sD (l m:List Str):PyData.eqv (.list (l.map PyData.str)) (.list (m.map PyData.str))=decide (l=m):=by
 simp only[PyData.eqv,k7]
variable {q:Addr}{m:List Str}
theorem fZ (hp:aw K H p (l.map V.str))(hq:aw K H q (m.map V.str))(cl:∀ x∈l,iB x)(cm:∀ x∈m,iB x)(h:Q (.bl (!decide (l=m))) H):Qb K (.ref p) (.ref q) H Q:=
 ⟨_,_,.lst hp (jz _),.lst hq (jz _),fY cl,fY cm,by rw[sD];exact h⟩
theorem k8 (hp:aw K H p (l.map V.str))(hq:aw K H q (m.map V.str))(cl:∀ x∈l,iB x)(cm:∀ x∈m,iB x)(h:Q (.bl (decide (l=m))) H):Qa K (.ref p) (.ref q) H Q:=
 ⟨_,_,.lst hp (jz _),.lst hq (jz _),fY cl,fY cm,by rw[sD];exact h⟩
def jD:Sp:=fun a H Q _=>∃ (p:Addr) (rows:List Str),a=[.ref p]/\H p=some (.lst (rows.map V.str))/\rows.length<=900/\∀ H',ah H H'->Q (.bl true) H'
structure Mv (ns:List Str)(L:List (Bool × List Nat)):Prop where
 nm:Iv ns 8
 each:∀ g∈L,c8 ns g.2/\g.2≠[]
 eD:L.length<=8
def HE (K:Frag):Sp:=fun a H Q _=>∃ (r nm:Addr) (ns:List Str) (L:List (Bool × List Nat)),a=[.ref r,.ref nm]/\H r=some (.lst ((L.map (Hu ns)).map V.str))/\H nm=some (.lst (ns.map V.str))/\Mv ns L/\∀ t us H',ah H H'->aE K H' t us->GF K H' us L->Q (.ref t) H'
def RH (K:Frag)(H0:Hp)(r nm f:Addr)(L:List (Bool × List Nat))(k:Nat)(σ:St)(H:Hp):Prop:=∃ (us:List V) (y3 y4:Option V),σ=[some (.ref r),some (.ref nm),some (.ref f),y3,y4]/\ah H0 H/\H f=some (.lst us)/\GF K H us (L.take k)
theorem zC {r1 r2:List Str}(P:jA ns cs ws)(h1:Hv ns cs ws L .ring r1)(h2:Hv ns cs ws L .order r2) :
  ∃ l,r1++r2=cG ns l/\c8 ns l/\(l=[]↔ns=[])/\((r1≠[]/\gJ ws l=true)∨(r1=[]/\l=laidOut ws/\¬ (laidOut ws).length<ws.length)):=by
 rcases h1 with ⟨c,b⟩ | ⟨c,r,d,b⟩
 ·rcases h2 with ⟨e,_⟩ | ⟨_,e2⟩
  ·exact absurd e c
  ·refine⟨laidOut ws,by rw[b,e2];rfl,jY P,?_,.inr ⟨b,rfl,c⟩⟩
   have g:=P.lw
   constructor
   ·intro z;rw[z] at c;have c:¬ 0<ws.length:=c;exact Fk.mp (by omega)
   ·intro z;subst z;refine List.eq_nil_iff_forall_not_mem.mpr fun i hi=>?_;exact absurd ((jY P).lt i hi) (SZ _)
 ·rcases h2 with ⟨_,e2⟩ | ⟨e,_⟩
  ·have a:r≠[]:=fun z=>by have:=d.two;rw[z] at this;exact absurd this (by decide)
   have f:r1=[di ns r]:=by rw[b];unfold cG;rw[if_neg a]
   refine⟨r,by rw[b,e2,Ui],uo P d,⟨fun z=>absurd z a,fun z=>?_⟩,.inl ⟨by rw[f];exact cons_ne_nil _ _,FP d⟩⟩
   obtain⟨i,hi⟩:=List.exists_mem_of_ne_nil r a
   have:=(uo P d).lt i hi
   rw[z] at this;exact absurd this (SZ _)
  ·exact absurd c e
variable {l:List Nat}
theorem wQ (hn:∀ x∈ns,bG x=true)(h:c8 ns l):∀ x∈cG ns l,iB x:=fun x hx=>by
 unfold cG at hx
 split at hx
 ·cases hx
 ·rw[eR.mp hx];unfold di;refine iB.join (by decide) fun y hy=>?_
  obtain⟨i,hi,rfl⟩:=kc.mp hy;exact iB.low (dB (hn _ (getD_memS (h.lt i hi)))).1
def BK (K:Frag):Sp:=fun a H Q _=>∃ (w p:Addr) (ws l:List Nat),a=[.ref w,.ref p]/\aE K H w ((aA ws).map V.int)/\aE K H p ((aA l).map V.int)/\ws.length<=8/\l.Perm (List.range ws.length)/\(∀ k,k<l.length->∀ j,fg ws (l.getD k 0) j=true->j∈l.take k)/\∀ H',ah H H'->Q (.bl true) H'
def pv (K:Frag)(cH cD:Addr):Sp:=fun a H Q _=>∃ (d hl nm w:Addr) (ns:List Str) (cs ws:List Nat) (L:List (Bool × List Nat)) (hs:List Int),a=[.ref d,.ref nm,.ref w]/\cF K cH cD H d hl ns cs ws L hs/\bz ns cs ws L hs/\H nm=some (.lst (ns.map V.str))/\aE K H w ((aA ws).map V.int)/\∀ H',ah H H'->Q (.bl true) H'
theorem bz.RI (D:bz ns cs ws L hs):∀ g∈gI L,g.2.length<=30:=fun z hz=>by
 unfold gI at hz;obtain⟨b,a,rfl⟩:=kc.mp hz
 have:=D.g8 b a
 show (aA b.2).length<=30;rw[ao];omega
theorem KL {cs:List Int}{m:Nat}{x y:Int × List (Bool × List Nat)}(hp:∀ c∈cs,1<=c)(hx:fi cs ws m x)(hy:fi cs ws m y):x.1=y.1:=by
 have d:∀ {a b:Int × List (Bool × List Nat)},fi cs ws m a->fi cs ws m b->a.1<=b.1:=fun {a b} e hb=>by
  obtain⟨g,h⟩:=Hf hp e.1.each e.1.qC;have h1:=hb.2 _ g;have f:=e.1.sum;have i:=hb.1.nn
  omega
 have h1:=d hx hy;have f:=d hy hx
 omega
def Mw:List Str:=["sure","share","groups","ring","order","book"]
def My:Nat->TK
 | 0=>.sure
 | 1=>.share
 | 2=>.groups
 | 3=>.ring
 | 4=>.order
 | _=>.book
variable {v:V}
theorem KN {k:Nat}(h:(Mw.map V.str)[k]?=some v):v=.str (jN (My k)):=by
 match k,h with
 | 0,h=>cases h;rfl
 | 1,h=>cases h;rfl
 | 2,h=>cases h;rfl
 | 3,h=>cases h;rfl
 | 4,h=>cases h;rfl
 | 5,h=>cases h;rfl
 | _+6,h=>cases h
variable {rows:List Str}
theorem HF {k:TK}(D:bz ns cs ws L hs)(h:Hv ns cs ws L k rows):rows.length<=16:=by
 have one:∀ l,(cG ns l).length<=16:=fun l=>by unfold cG;split<;>exact Uh rfl
 cases k with
 | sure=>rw[show rows=_ from h];exact Uh rfl
 | share=>rw[show rows=_ from h];exact Uh rfl
 | groups=>rw[show rows=_ from h,b7];have:=D.eD;omega
 | ring=>
  rcases h with ⟨_,h⟩ | ⟨_,r,_,h⟩
  ·rw[h];exact zero_le _
  ·rw[h];exact one r
 | order=>
  rcases h with ⟨_,h⟩ | ⟨_,h⟩
  ·rw[h];exact zero_le _
  ·rw[h];exact one _
 | book=>
  rw[show rows=_ from h,g5 ((eW D.xg).pb D.xg),b7,b7]
  exact j5 fG (by have:=D.xg.nm.eD;omega)
def BL (K:Frag)(cH cD:Addr):Sp:=fun a H Q _=>∃ (d hl b g:Addr) (ns:List Str) (cs ws:List Nat) (us:List V) (L:List (Bool × List Nat)) (hs:List Int),a=[.ref d,.ref b,.ref g]/\cF K cH cD H d hl ns cs ws L hs/\bz ns cs ws L hs/\mR H b ns cs ws/\aE K H g us/\GF K H us L/\∀ H',ah H H'->Q (.bl true) H'
structure Pair (K:Frag)(cH cD:Addr)(H:Hp)(d hl h2 c g:Addr)(us:List V)(ns:List Str)(cs ws:List Nat)(L:List (Bool × List Nat))(hs:List Int):Prop where
 uS:cF K cH cD H d hl ns cs ws L hs
 cu:bV K cH H h2 c g (aA cs) us hs
 gf:GF K H us L
 n1:h2≠hl
 n2:d≠h2
def ur (a b:Addr)(H H':Hp):Prop:=∀ x o,x≠a->x≠b->H x=some o->H' x=some o
theorem ur.refl:ur a b H H:=fun _ _ _ _ h=>h
theorem ur.lst {a b x:Addr}{H H':Hp}{xs:List V}{Ca Cb da db:Addr}{fa fb:List (Str × V)}(s:ur a b H H')(ha:H a=some (.ins Ca da fa))(hb:H b=some (.ins Cb db fb))(h:H x=some (.lst xs)):H' x=some (.lst xs):=
 s x _ (ik h ha fun z=>nomatch z) (ik h hb fun z=>nomatch z) h
theorem Pair.mono {K:Frag}{cH cD:Addr}{H H':Hp}{d hl h2 c g:Addr}{us:List V}{ns:List Str}{cs ws:List Nat}{L:List (Bool × List Nat)}{hs:List Int}(h:Pair K cH cD H d hl h2 c g us ns cs ws L hs)(s:ah H H'):Pair K cH cD H' d hl h2 c g us ns cs ws L hs:=
 ⟨h.uS.mono s,h.cu.mono s,h.gf.mono s,h.n1,h.n2⟩
theorem Pair.cK {K:Frag}{cH cD:Addr}{H:Hp}{d hl h2 c g acc:Addr}{us ys:List V}{o:HO}{ns:List Str}{cs ws:List Nat}{L:List (Bool × List Nat)}{hs:List Int}(h:Pair K cH cD H d hl h2 c g us ns cs ws L hs)(ha:H acc=some (.lst ys)):Pair K cH cD (upd H acc o) d hl h2 c g us ns cs ws L hs:=
 ⟨h.uS.cK ha,h.cu.cK ha,h.gf.cK ha,h.n1,h.n2⟩
def RJ (ns:List Str)(cs:List Nat)(L:List (Bool × List Nat))(hs:List Int)(i:Nat)(a:AK)(R:List Str):Prop:=(a=.right/\R=cG ns (fJ (aA cs) hs L))∨(a=.de i/\R=[fL (qh (aA cs) L hs i)])
def HG (K:Frag)(cH cD:Addr):Sp:=fun a H Q _=>∃ (d hl h2 c g b dr:Addr) (us:List V) (ns:List Str) (cs ws:List Nat) (L:List (Bool × List Nat)) (hs dn:List Int),a=[.ref d,.ref h2,.ref b,.ref dr]/\Pair K cH cD H d hl h2 c g us ns cs ws L hs/\bz ns cs ws L hs/\mR H b ns cs ws/\H dr=some (.lst (dn.map V.int))/\dn.length=6/\(∀ x∈dn,0<=x)/\ns≠[]/\
 ∀ H' hs',ur hl h2 H H'->Pair K cH cD H' d hl h2 c g us ns cs ws L hs'->bz ns cs ws L hs'->Q (.bl true) H'
theorem bz.set {ns:List Str}{cs ws:List Nat}{L:List (Bool × List Nat)}{hs:List Int}{i col:Nat}(D:bz ns cs ws L hs)(hi:i<ns.length)(hc:col<cs.getD i 0):bz ns cs ws L (hs.set i (col:Int))/\gM (aA cs) (hs.set i (col:Int))=true:=by
 have a:HN (aA cs) (hs.set i (col:Int)) (aA cs).length:=HN.set D.eX (natCast_nonneg _) (by rw[aT];omega)
 exact⟨⟨D.xg,D.best,a⟩,G8 a⟩
theorem OK:ly 10 9:=by unfold ly;decide
theorem OL:(10:Int) ^ (9:Int).toNat=1000000000:=by decide
theorem zD (ns:List Str):Str.ofString "right"=Str.join ⟨#[32]⟩ (dR ns .right):=rfl
theorem zE (ns:List Str)(i:Nat):Str.ofString "guess "++ns.getD i aX=Str.join ⟨#[32]⟩ (dR ns (.de i)):=by
 rw[show Str.ofString "guess "=Str.ofString "guess"++⟨#[32]⟩ by decide +kernel];rfl
theorem HH (ns:List Str)(i c:Nat):Str.ofString "put "++ns.getD i aX++Str.ofString " "++fL ((c:Nat):Int)=Str.join ⟨#[32]⟩ (dR ns (.put i c)):=by
 rw[show Str.ofString "put "=Str.ofString "put"++⟨#[32]⟩ by decide +kernel,show Str.ofString " "=⟨#[32]⟩ by decide +kernel]
 refine jy ?_;show _=cz (Str.join ⟨#[32]⟩ [Str.ofString "put",ns.getD i aX,jG c]);rw[bO,bO,b6,b6,b6,b6,q5,q5,q5,q5,q5];rfl
theorem md {w:Str}{r:List Str}(h:3<=(cz w).length):(cz (Str.join ⟨#[32]⟩ (w::r))).take 3=(cz w).take 3:=by
 cases r with
 | nil=>rfl
 | cons y r=>rw[bO,q5,List.take_append_of_le_length h]
theorem fM (ns:List Str)(i c:Nat):(cz (Str.join ⟨#[32]⟩ (dR ns (.de i)))).take 3=[103,117,101]/\(cz (Str.join ⟨#[32]⟩ (dR ns .right))).take 3=[114,105,103]/\(cz (Str.join ⟨#[32]⟩ (dR ns (.put i c)))).take 3=[112,117,116]:=by
 refine⟨?_,?_,?_⟩
 ·show (cz (Str.join ⟨#[32]⟩ (Str.ofString "guess"::_))).take 3=_;rw[md (by decide +kernel)];decide +kernel
 ·show (cz (Str.join ⟨#[32]⟩ (Str.ofString "right"::_))).take 3=_;rw[md (by decide +kernel)];decide +kernel
 ·show (cz (Str.join ⟨#[32]⟩ (Str.ofString "put"::_))).take 3=_;rw[md (by decide +kernel)];decide +kernel
theorem OM (ns:List Str)(i:Nat):Str.join ⟨#[32]⟩ (dR ns (.de i))≠Str.ofString "right":=fun z=>by
 have h:=(fM ns i 0).1;rw[z] at h;exact absurd h (by decide +kernel)
theorem Dd (hn:∀ x∈ns,bG x=true)(h:c8 ns l)(hl:l≠[]):di ns l≠Str.ofString "":=fun z=>by
 have hz:cz (di ns l)=[]:=by rw[z];decide +kernel
 unfold di at hz
 match l,hl,h,hz with
 | [x],_,h,hz=>
  have h1:=(dB (hn _ (getD_memS (h.lt x fO)))).2.1;rw[aM] at h1;have hz:cz (ns.getD x aX)=[]:=hz;rw[hz] at h1;exact absurd h1 (by decide)
 | x::y::r,_,h,hz=>
  rw[pS,pS,bO] at hz;exact absurd (List.append_eq_nil_iff.mp (List.append_eq_nil_iff.mp hz).1).2 (by decide)
theorem HI (h:(cz z).take 3=l)(hl:l.length=3):cz (StrLaws.sliceText z none (some 3))=l/\(StrLaws.sliceText z none (some 3)).length=3:=by
 have a:3<=z.length:=by
  have:=On List.length h
  rw[xx,hl] at this;rw[aM];omega
 have e:cz (StrLaws.sliceText z none (some ((3:Nat):Int)))=l:=by rw[oR a];exact h
 exact⟨e,by rw[aM];exact(On List.length e).trans hl⟩
theorem De {a:AK}:((cz (Str.join ⟨#[32]⟩ (dR ns a))).take 3).length=3:=by
 cases a with
 | told k=>show ((cz (jN k)).take 3).length=3;cases k<;>decide +kernel
 | right=>rw[(fM ns 0 0).2.1];rfl
 | de i=>rw[(fM ns i 0).1];rfl
 | put i c=>rw[(fM ns i c).2.2];rfl
def RK (K:Frag)(cH cD:Addr)(H0:Hp)(st:L2.St)(d hl h2 c g:Addr)(us:List V)(ns:List Str)(cs ws:List Nat)(L:List (Bool × List Nat))(_:Nat)(σ:L2.St)(H:Hp):Prop:=∃ (hs:List Int) (y:Option V),σ=st++[y]/\ur hl h2 H0 H/\Pair K cH cD H d hl h2 c g us ns cs ws L hs/\bz ns cs ws L hs
def DQ (K:Frag)(x:Str)(st:Stmt):Prop:=∃ (f:Addr) (oc:Value) (od an:Option Addr) (sl:Array (Option Value)) (kV doc pm cd ct:Value),nsIn K mainGlobals x=some (some (.ref f))/\K.lookup f=some ⟨oc,od,.func (fnOf x x (bw st) (aY st) (aj st) .none kV doc pm an cd ct),sl⟩/\codeIn K cd x=true/\keepIn K (.ref f)=true
variable {h:Heap}{x:Str}
theorem DQ.def {st:Stmt}{mg:Str->Option Value}(q:DQ K x st)(X:K.In h)(G:h.Ns mainGlobals mg):Def K mg x st:=by
 obtain⟨_,_,_,_,_,_,_,_,_,_,a,b,c,d⟩:=q;exact NF X G a b c d
def MQ (K:Frag)(C:Addr)(m qual:Str)(st:Stmt):Prop:=∃ (f:Addr) (oc:Value) (od an:Option Addr) (sl:Array (Option Value)) (kV doc pm cd ct:Value),findIn K (.ref C) m=some (some (.ref f))/\K.lookup f=some ⟨oc,od,.func (fnOf m qual (bw st) (aY st) (aj st) .none kV doc pm an cd ct),sl⟩/\codeIn K cd qual=true/\keepIn K (.ref f)=true/\isFn K (.ref f)=true
variable {m:Str}
theorem MQ.def {qual:Str}{st:Stmt}(q:MQ K C m qual st):qk K C m qual st:=by
 obtain⟨_,_,_,_,_,_,_,_,_,_,a,b,c,d,e⟩:=q;exact Ks a b c d e
variable {R:Prop}
theorem fq (h:H a=some (.ins C dx fs))(n:fs.lookup m=none)(r:R):∃ a' dx' fs',V.ref a=.ref a'/\H a'=some (.ins C dx' fs')/\fs'.lookup m=none/\R:=⟨a,dx,fs,rfl,h,n,r⟩
variable {f:Str}{G:V->Prop}
theorem sE (h:H a=some (.ins C dx fs))(n:fs.lookup f=some v)(r:G v):∃ a' dx' fs' v',V.ref a=.ref a'/\H a'=some (.ins C dx' fs')/\fs'.lookup f=some v'/\G v':=⟨a,dx,fs,v,rfl,h,n,r⟩
theorem gj (h:aw K H p xs)(r:∀ t,H t=none->Q (.ref t) (upd H t (.tup xs))):yq K [.ref p] H Q:=⟨p,xs,rfl,.inl ⟨h,r⟩⟩
variable {er:Str->Addr}{E:XK}
theorem i7 (a:AK)(hD:cF K cH cD H d hl ns cs ws L hs)(D:bz ns cs ws L hs)(ha:su ns a)(r:BD K cH cD er d hl ns cs ws L hs H Q E a):Mt K cH cD er [.ref d,.str (Str.join ⟨#[32]⟩ (dR ns a))] H Q E:=⟨d,hl,ns,cs,ws,L,hs,a,rfl,hD,D,ha,r⟩
theorem i8 (h:H p=some (.lst (rows.map V.str)))(hl:rows.length<=900)(r:∀ H',ah H H'->Q (.bl true) H'):jD [.ref p] H Q E:=⟨p,rows,rfl,h,hl,r⟩
end L2
namespace K75
open PySem L2 PyProof.Rows
def top (i:Nat):Stmt:=PySem.Challenge.pw_hatsight_k75_asks.main.body.getD i (.Pass ⟨0,0,0,0⟩)
abbrev dD:Stmt:=top 1
abbrev uu:Stmt:=top 2
abbrev zF:Stmt:=top 3
abbrev me:Stmt:=top 4
abbrev fN:Stmt:=top 5
abbrev hJ:Stmt:=top 18
abbrev pw:Stmt:=top 20
abbrev zG:Stmt:=top 21
abbrev i9:Stmt:=top 22
abbrev mf:Stmt:=top 23
abbrev gk:Stmt:=top 24
abbrev jZ:Stmt:=top 25
abbrev gm:Stmt:=top 26
abbrev hV:Stmt:=top 27
abbrev hX:Stmt:=top 28
abbrev uw:Stmt:=top 30
abbrev j3:Stmt:=top 31
abbrev gn:Stmt:=top 32
abbrev pz:Stmt:=top 33
abbrev hZ:Stmt:=top 34
abbrev ja:Stmt:=top 35
abbrev gp:Stmt:=top 36
abbrev gr:Stmt:=top 37
abbrev h7:Stmt:=top 38
abbrev fP:Stmt:=top 39
abbrev j4:Stmt:=top 40
abbrev gs:Stmt:=top 41
abbrev gu:Stmt:=top 42
abbrev j7:Stmt:=top 44
abbrev mh:Stmt:=top 52
abbrev j8:Stmt:=top 53
abbrev gw:Stmt:=top 54
abbrev fQ:Stmt:=top 55
abbrev c7:Stmt:=top 56
abbrev mi:Stmt:=top 57
abbrev jb:Stmt:=top 58
abbrev mj:Stmt:=top 59
abbrev jc:Stmt:=top 60
abbrev ia:Stmt:=top 61
abbrev zI:Stmt:=top 64
abbrev pA:Stmt:=top 65
abbrev jd:Stmt:=top 66
abbrev nX:Stmt:=top 67
abbrev gA:Stmt:=top 68
abbrev gB:Stmt:=top 69
abbrev ml:Stmt:=top 70
abbrev je:Stmt:=top 73
abbrev Iy:Stmt:=top 74
abbrev jf:Stmt:=top 75
abbrev jg:Stmt:=top 76
abbrev jh:Stmt:=top 77
abbrev ez:Stmt:=top 78
abbrev ji:Stmt:=top 79
abbrev jj:Stmt:=top 80
abbrev fk:Stmt:=top 81
abbrev jk:Stmt:=top 82
abbrev ib:Stmt:=top 83
abbrev jl:Stmt:=top 84
abbrev fR:Stmt:=top 85
abbrev eO:Stmt:=top 86
abbrev jn:Stmt:=top 87
abbrev ke:Stmt:=top 88
abbrev k9:Stmt:=top 89
abbrev fm:Stmt:=mS (top 45) 0
abbrev fS:Stmt:=mS (top 45) 1
abbrev kh:Stmt:=mS (top 45) 2
abbrev Mz:Stmt:=mS (top 45) 3
abbrev ic:Stmt:=mS (top 45) 4
abbrev ie:Stmt:=mS (top 45) 5
abbrev bR:Stmt:=mS (top 71) 0
abbrev kj:Stmt:=mS (top 71) 1
structure Bn (mg:Str->Option Value):Prop where
 range:mg "range"=none
 len:mg "len"=none
 sum:mg "sum"=none
 max:mg "max"=none
 isinstance:mg "isinstance"=none
 int:mg "int"=none
 bool:mg "bool"=none
 str:mg "str"=none
 tuple:mg "tuple"=none
 list:mg "list"=none
 sorted:mg "sorted"=none
 set:mg "set"=none
 all:mg "all"=none
 any:mg "any"=none
 zip:mg "zip"=none
 enumerate:mg "enumerate"=none
structure Cs (mg:Str->Option Value):Prop where
 K7:∃ t,mg "LETTERS"=some (.str "abcdefghijklmnopqrstuvwxyz" t)
 K9:∃ t,mg "FIGURES"=some (.str "0123456789" t)
 uR:∃ t,mg "LONGEST_NAME"=some (.int 12 t)
 qB:∃ t,mg "LONGEST_COUNT"=some (.int 30 t)
 xi:∃ t,mg "MOST_PEOPLE"=some (.int 8 t)
local macro_rules | `(tactic| walk_at $s) => do
 let l<-match s.getString with | "d" => `(Lean.Parser.Tactic.simpLemma| P4) | "r0" => `(Lean.Parser.Tactic.simpLemma| yo) | _ => Lean.Macro.throwUnsupported
 `(tactic| try simp only [L2.start,map_cons,map_nil,length_cons,length_nil,List.replicate,cons_append,nil_append,append_nil,set_cons_zero,set_cons_succ,Nat.reduceAdd,Nat.reduceSub,yo,ER,Ss,NH,PN,Lk,PQ,PR,PU,PV,AH,Ll,vD,EF,PX,EG,EH,Lo,EI,Lp,AI,Lq,Lr,EJ,EK,PY,Ls,Lu,PZ,Lv,LU,FW,LX,GQ,Me,Mf,Mg,GB,Gu,Gv,FX,P0,vE,EL,P1,P2,gR,EM,EN,Lw,Lx,Ly,sY,Lz,AJ,EO,AL,Be,QR,FR,Rq,Ml,GV,GW,Bx,Hk,Hl,GU,FD,Mr,FF,FG,FH,FI,rF,Lm,Gd,Qw,Qx,JL,SF,tG,bitAnd_m1,QH,Qy,Qz,LM,LA,LD,Fc,Fd,Qj,kM,LF,Bool.false_eq_true,LG,LH,LI,Qk,Ql,Bool.not_true,Bool.not_false,decide_eq_true_eq,$l:simpLemma])
local macro_rules | `(tactic| omega) => `(tactic| first | with_reducible assumption | with_reducible exact Nat.le_of_lt (by assumption) | with_reducible exact Nat.le_trans (by assumption) (by decide) | with_reducible exact Nat.lt_of_le_of_lt (by assumption) (by decide) | with_reducible exact Nat.lt_of_lt_of_le (by assumption) (by decide) | with_reducible exact Nat.lt_of_lt_of_le (by assumption) (by assumption) | with_reducible exact Nat.lt_of_le_of_lt (by assumption) (by assumption) | with_reducible exact Nat.le_trans (by assumption) (by assumption) | with_reducible exact Nat.le_trans (by assumption) (Nat.le_trans (by assumption) (by decide)) | with_reducible exact Nat.le_of_lt (Nat.lt_of_lt_of_le (by assumption) (by decide)) | with_reducible exact Nat.le_trans (Nat.le_of_lt (by assumption)) (Nat.le_trans (by assumption) (by decide)) | with_reducible exact Nat.lt_of_lt_of_le (by assumption) (Nat.le_trans (by assumption) (by decide)) | with_reducible exact Int.natCast_nonneg _ | with_reducible exact Int.ofNat_lt.mpr (by assumption) | with_reducible exact Int.ofNat_le.mpr (by assumption) | with_reducible exact Int.ofNat_lt.mp (by assumption) | decide | omega +splitDisjunctions)
set_option hygiene false in
local macro_rules | `(tactic| walk_at "s") => `(tactic| ((try with_reducible refine zH _ _ ?_); (walk_at "r0"); try (with_reducible refine zH _ _ ?_; walk_at "r0")))
set_option hygiene false in
local macro_rules | `(tactic| walk_at "g") => `(tactic| ((try with_reducible refine zH _ _ ?_); refine SQ fun zR zH => ?_))
local macro_rules | `(tactic| walk_at "h") => `(tactic| (walk_at "g";walk_at "s"))
local macro_rules | `(tactic| walk_at "i") => `(tactic| (walk_at "s";walk_at "g";walk_at "s"))
theorem zJ:DS (aj mh) ["word"] ["word"] ["LONGEST_NAME","len","all"]:=aO (by decide +kernel)
variable {P:Program}{w:World}{K:Frag}{mg:Str->Option Value}{base:Heap}
theorem Df (B:Bn mg)(KC:Cs mg)(D:Def K mg "is_name" mh):Fn P w K mg base 1 "is_name" ["word"] kS:=by
 refine D.gq zJ (fun _ _ _ _ _ _ u o=>by obtain⟨_,rfl⟩:=fV o;rfl) (fun m H Q E h=>?_) ?_
 ·obtain⟨z,rfl,_⟩:=h;rfl
 intro X S g e2 i l j hc b p v hu H m Q E h;subst g e2 i l j;obtain⟨z,rfl,hz,q⟩:=h;refine⟨_,(af (cA (iN (yr og og aq (cV S 1 gQ B.len oD (aa (kv S 0) ae)) (Og S 0 KC.uR))) (ai (aJ vF)) ax)
   (ai (aJ (cV S 2 (cQ hc rfl) B.all boot_all (aa (iC S hc b (L0 (kv S 0) rfl) (N:=["sign"]) (W:=["sign"]) (G:=["LETTERS"]) (fv:=[none]) (by decide +kernel) (fun t C r s H a=>⟨(kg a 0),bo,(fB qZ (kv a 0) (Q4 a 0 KC.K7) (by with_unfolding_all rfl))⟩)) ae))))),?_⟩
 walk_at "d";refine⟨z,rfl,nN hz,?_⟩;have e:¬ (1<=z.length/\z.length<=12)->Q (.bl false) H:=fun c=>by
  have:=q H (ah.refl _)
  unfold bG at this;rw[ek c,sr] at this;exact this
 refine bU (fun c=>?_) (fun c=>e (by omega))
 refine bU (fun d=>e (by simp at d;omega)) (fun d=>?_)
 refine⟨z,rfl,wg hz fun n f=>?_⟩
 have:=q n f
 unfold bG at this;rw[ea (show 1<=z.length/\z.length<=12 by simp at d;omega),qE] at this
 exact this
theorem wR:DS (aj j8) ["word"] ["word"] ["LONGEST_COUNT","len","all"]:=aO (by decide +kernel)
theorem zK (B:Bn mg)(KC:Cs mg)(D:Def K mg "is_count" j8):Fn P w K mg base 1 "is_count" ["word"] lR:=by
 refine D.gq wR (fun _ _ _ _ _ _ F j=>by obtain⟨_,rfl⟩:=fV j;rfl) (fun v H Q E h=>?_) ?_
 ·obtain⟨z,rfl,_⟩:=h;rfl
 intro X S o e2 p u t hc g x I hu H v Q E h;subst o e2 p u t;obtain⟨z,rfl,hz,q⟩:=h;refine⟨_,(af (cA (yu (yt (iN (yr og og aq (cV S 1 gQ B.len oD (aa (kv S 0) ae)) (Og S 0 KC.qB))) (nq (aQ aW (bc yh (kv S 0) aq (fun _ _=>rfl)) ba (au _))))) (ai (aJ vF)) ax)
   (ai (aJ (cV S 2 (cQ hc rfl) B.all boot_all (aa (iC S hc g (L0 (kv S 0) rfl) (N:=["sign"]) (W:=["sign"]) (G:=["FIGURES"]) (fv:=[none]) (by decide +kernel) (fun A C y s H f=>⟨(kg f 0),bo,(fB qZ (kv f 0) (Q4 f 0 KC.K9) (by with_unfolding_all rfl))⟩)) ae))))),?_⟩
 walk_at "d";refine⟨z,rfl,nN hz,?_⟩;have n:¬ (1<=z.length/\z.length<=30)->Q (.bl false) H:=fun c=>by
  have:=q H (ah.refl _)
  unfold dz at this;rw[ek c,sr] at this;exact this
 refine bU (fun c=>?_) (fun c=>n (by omega))
 refine bU (fun l=>n (by simp at l;omega)) (fun l=>?_)
 have j:1<=z.length/\z.length<=30:=by simp at l;omega
 have r:0<(cz z).length:=by rw[<-aM];omega
 refine⟨z,0,(cz z).getD 0 0,rfl,rfl,nN hz,?_,?_⟩
 ·show yg (cz z) ((0:Nat):Int)=_;exact iP rfl 0 r
 walk_at "d";have b:decide ((⟨#[(cz z).getD 0 0]⟩:Str)=Str.ofString "0")=decide ((cz z).getD 0 0=48):=by
  rw[show Str.ofString "0"=⟨#[48]⟩ by decide +kernel]
  exact decide_eq_decide.mpr ⟨fun e=>by simpa using On cz e,fun e=>by rw[e]⟩
 have m:∀ a,ah H a->Q (.bl (decide ((cz z).getD 0 0≠48)&&(cz z).all Ka)) a:=fun a d=>by
  have:=q a d
  unfold dz at this;rw[ea j,qE] at this;exact this
 refine bU (fun i=>?_) (fun i=>?_)
 ·have e:(cz z).getD 0 0=48:=tx (by rw[<-b];exact ea i)
  have:=m H (ah.refl _)
  rw[ek (fun h=>h e),sr] at this;exact this
 ·have e:(cz z).getD 0 0≠48:=fun e=>i (tx (by rw[b];exact ea e))
  refine⟨z,rfl,wg hz fun a d=>?_⟩
  have:=m a d
  rw[ea e,qE] at this;exact this
theorem pB:DS (aj gw) ["words"] ["words"] ["is_name","is_count","len"]:=aO (by decide +kernel)
theorem HJ (B:Bn mg)(D:Def K mg "is_hat_line" gw)(gO:Fn P w K mg base 1 "is_name" ["word"] kS)(km:Fn P w K mg base 1 "is_count" ["word"] lR):Fn P w K mg base 2 "is_hat_line" ["words"] (Bg K):=by
 refine D.gq pB (fun _ _ _ _ _ _ u s=>by obtain⟨_,rfl⟩:=fV s;rfl) (fun m H Q E h=>?_) ?_
 ·obtain⟨p,l,rfl,_⟩:=h;rfl
 intro X S n e2 f j g hc o t e hu H m Q E h;subst n e2 f j g;obtain⟨p,l,rfl,a,q⟩:=h;refine⟨_,(ai (aJ (kK (fB aW (cV S 2 (ay rfl) B.len oD (aa (kv S 0) ae)) aq (au _)) (kK (fB aW (bc (ak rfl) (kv S 0) aq (fun _ _=>rfl)) ba (au _)) (kK (bZ S 0 gO e (aa (bc (ak rfl) (kv S 0) aq (fun _ _=>rfl)) ae)) (lJ (bZ S 1 km e (aa (bc (ak rfl) (kv S 0) aq (fun _ _=>rfl)) ae)))))))),?_⟩;walk_at "d";refine aV (.inl a.sq) ?_;rw[b7];walk_at "d";unfold v3 at q;refine bU (fun c=>?_) (fun c=>?_)
 ·rw[ea (show l.length=3 by omega),qE] at q
  refine aC (i:=((0:Nat):Int)) a.sq (aB (aP (by omega))) ?_
  walk_at "d";refine bU (fun d=>?_) (fun d=>?_)
  ·rw[ea d,qE] at q;refine aC (i:=((1:Nat):Int)) a.sq (aB (aP (by omega))) ?_
   refine⟨_,rfl,a.short _ (getD_memS (by omega)),fun H1 b=>?_⟩
   walk_at "d"
   cases h1:bG (l.getD 1 aX) with
   | false=>
    rw[h1,sr] at q;exact q _ b
   | true=>
    rw[h1,qE] at q;walk_at "d";refine aC (i:=((2:Nat):Int)) (b.seq a.sq) (aB (aP (by omega))) ?_
    exact⟨_,rfl,a.short _ (getD_memS (by omega)),fun v r=>q _ (b.trans r)⟩
  ·rw[ek d,sr] at q;exact q _ (ah.refl _)
 ·rw[ek (show ¬ l.length=3 by omega),sr] at q
  exact q _ (ah.refl _)
theorem ny:DS (aj fQ) ["words"] ["words"] ["all","len"]:=aO (by decide +kernel)
theorem Dg (B:Bn mg)(D:Def K mg "is_sees_line" fQ)(gO:Fn P w K mg base 1 "is_name" ["word"] kS):Fn P w K mg base 2 "is_sees_line" ["words"] (we K):=by
 refine D.gq ny (fun _ _ _ _ _ _ Z J=>by obtain⟨_,rfl⟩:=fV J;rfl) (fun F H Q E h=>?_) ?_
 ·obtain⟨p,l,rfl,_⟩:=h;rfl
 intro X S t e2 x z y hc m M O hu H F Q E h;subst t e2 x z y;obtain⟨p,l,rfl,d,q⟩:=h;have o:=d.eD;refine⟨_,(ai (aJ (kK (fB Le (cV S 1 (ay rfl) B.len oD (aa (kv S 0) ae)) aq (au _)) (kK (fB aW (bc (ak rfl) (kv S 0) aq (fun _ _=>rfl)) ba (au _)) (lJ (cV S 0 (cQ hc rfl) B.all boot_all (aa (iC S hc m (cw (ou (cN rfl) (kv S 0) (bD aq) bC) rfl) (N:=["word"]) (W:=["word"]) (G:=["is_name"]) (fv:=[none]) (by decide +kernel) (fun U C R s H g=>⟨(kg g 0),bo,(bZ g 0 gO O (aa (kv g 0) ae))⟩)) ae))))))),?_⟩
 walk_at "d";refine aV (.inl d.sq) ?_;rw[b7];walk_at "d";unfold rX at q;refine bU (fun c=>?_) (fun c=>?_)
 ·rw[ea (show 3<=l.length by omega),qE] at q
  refine aC (i:=((0:Nat):Int)) d.sq (aB (aP (by omega))) ?_
  walk_at "d";refine bU (fun n=>?_) (fun n=>?_)
  ·rw[ea n,qE] at q;refine⟨p,_,rfl,d.sq,fun a L=>?_⟩;rw[show (some (1:Int))=some ((1:Nat):Int) from rfl,dG,<-Uv]
   have u:=ah.new L (.lst ((l.drop 1).map V.str));have j:(l.drop 1).length=l.length - 1:=vr;refine⟨a,rfl,⟨_,aw.of ag⟩,p5 (bP (aw.of ag)) (fun _=>true) (fun i=>.bl (bG ((l.drop 1).getD i aX))) (by rw[b7,j];exact az (by omega)) ?_ ?_⟩
   ·intro i H1 A Y hi T v _;rw[b7] at hi;rw[show ((l.drop 1).map V.str).getD i .bx=.str ((l.drop 1).getD i aX) by rw[b5,aP hi];rfl]
    walk_at "d";exact⟨_,rfl,d.short _ (mem_of_mem_drop (getD_memS hi)),fun H2 I=>v rfl _ I⟩
   ·intro f H1 hn r b;rw[bH,b7] at b;refine⟨f,(List.range (l.drop 1).length).map fun i=>bG ((l.drop 1).getD i aX),rfl,aw.of (by rw[b,ls];rfl),?_⟩
    have e:((List.range (l.drop 1).length).map fun i=>bG ((l.drop 1).getD i aX)).all id=(l.drop 1).all bG:=by
     rw[Tv]
     conv=>rhs;rw[show l.drop 1=(List.range (l.drop 1).length).map fun i=>(l.drop 1).getD i aX from by
      apply KM
      intro i
      by_cases hi:i<(l.drop 1).length
      ·rw[eG,xH hi,cc hi];show some _=some ((l.drop 1).getD i aX);rw[b5,cc hi];rfl
      ·rw[mo (by omega),mo (by rw[b7,j9];omega)]]
     rw[Tv];rfl
    rw[e];exact q _ (u.trans r)
  ·rw[ek n,sr] at q;exact q _ (ah.refl _)
 ·rw[ek (show ¬ 3<=l.length by omega),sr] at q
  exact q _ (ah.refl _)
theorem ux:DS (aj c7) ["text","line","words","names"] ["text","line"] ["is_hat_line","int","is_sees_line","NoLine","len","Twice","set","tuple"]:=aO (by decide +kernel)
theorem uy:Ma "read_line" c7 "text" "line":=fun T kV a b c d ct u v=>⟨⟨_,by with_unfolding_all rfl,fun _=>by with_unfolding_all rfl⟩,⟨_,by with_unfolding_all rfl,fun _=>by with_unfolding_all rfl⟩,⟨_,by with_unfolding_all rfl,fun _=>by with_unfolding_all rfl⟩⟩
theorem KO (B:Bn mg)(D:Gf K mg "read_line" c7 0)(qD:Fn P w K mg base 2 "is_hat_line" ["words"] (Bg K))(pR:Fn P w K mg base 2 "is_sees_line" ["words"] (we K)):Sb P w K mg base 3 "read_line" "text" "line" 0 (yW K):=by
 refine D.gq ux uy (fun vs H Q E h=>?_) ?_
 ·obtain⟨z,i,l,rfl,_⟩:=h;rfl
 intro X S W e2 e3 e4 e5 hc hsc hxe T hu H vs Q E h;subst W e2 e3 e4 e5;obtain⟨z,i,l,rfl,hz,L,g,q⟩:=h;refine⟨_,(af (bp S 2 (ir AC T9 type_str_split eh rfl (kv S 0) (aa ba ae)))
   (af (cA (iu (bZ S 0 qD T (aa (kv S 2) ae))) (ai (aJ (rJ (aa ba (aa (bc (ak rfl) (kv S 2) aq (fun _ _=>rfl)) (aa (fW S 1 kQ B.int boot_int (aa (bc (ak rfl) (kv S 2) aq (fun _ _=>rfl)) ae)) ae)))))) ax)
   (af (cA (iN (iu (bZ S 2 pR T (aa (kv S 2) ae)))) (ai iV) ax)
   (af (bp S 3 (ou (cN rfl) (kv S 2) (bD aq) bC))
   (af (cA (aQ gG (cV S 4 yU B.len oD (aa (fW S 6 (tU hc rfl) B.set boot_set (aa (kv S 3) ae)) ae)) (cV S 4 (ay rfl) B.len oD (aa (kv S 3) ae)) (au _)) (ai iV) ax)
   (ai (aJ (rJ (aa ba (aa (bc (ak rfl) (kv S 3) aq (fun _ _=>rfl)) (aa (fW S 7 (bu rfl) B.tuple C6 (aa (ou (cN rfl) (kv S 3) (bD aq) bC) ae)) ae))))))))))),?_⟩
 walk_at "d";have ab:(1000002:Nat)<=sizeLine:=by decide
 refine⟨rfl,z,_,rfl,rfl,by decide +kernel,by omega,?_,fun p U=>?_⟩
 ·rw[bb,L];omega
 rw[bb,L];have R:=ah.new U (.lst (l.map V.str));have n:Ws X.K (upd H p (.lst (l.map V.str))) p l:=⟨aw.of ag,g,fun x hx=>j5 (yV (by rw[L];exact hx)) hz⟩
 refine⟨p,l,rfl,n,fun H1 r=>?_⟩;have d:aw X.K H1 p (l.map V.str):=r.seq n.sq;walk_at "d"
 rcases q with ⟨hh,c,v,q⟩ | ⟨hh,m,A,q⟩
 ·rw[hh];walk_at "d";have hb:=hh;unfold v3 at hb;rw[gz] at hb;have s:l.length=3:=tx hb.1;have f:dz (l.getD 2 aX)=true:=by
   have M:=hb.2;rw[gz,gz] at M;exact M.2.2
  have Z:(l.getD 2 aX).length<=30:=by
   unfold dz at f;rw[gz] at f;exact(tx f.1).2
  refine aC (i:=((1:Nat):Int)) d (aB (aP (by omega))) ?_
  refine aC (i:=((2:Nat):Int)) d (aB (aP (by omega))) ?_
  refine⟨_,c,rfl,v,by omega,?_⟩
  refine⟨by decide,fun t C=>?_⟩
  exact q t _ (R.trans (r.trans (ah.new C _))) ag
 ·rw[hh];walk_at "d";refine⟨p,l,rfl,⟨d,n.eD,n.short⟩,fun G O=>?_⟩;rw[m];walk_at "d";have y:=O.seq d;have s:3<=l.length:=by
   unfold rX at m;rw[gz] at m;exact tx m.1
  refine⟨p,_,rfl,y,fun a ha=>?_⟩;rw[show (some (1:Int))=some ((1:Nat):Int) from rfl,dG,<-Uv]
  have Y:=ah.new ha (.lst ((l.drop 1).map V.str));have av:(l.drop 1).length=l.length - 1:=vr;walk_at "d";refine⟨a,l.drop 1,rfl,aw.of ag,by omega,fun P w b hb=>?_⟩
  have J:=ah.new hb (vY P w b (tT (l.drop 1)));have j:upd (upd G a (.lst ((l.drop 1).map V.str))) b (vY P w b (tT (l.drop 1))) b=some (vY P w b (tT (l.drop 1))):=ag;have e:aw X.K (upd (upd G a (.lst ((l.drop 1).map V.str))) b (vY P w b (tT (l.drop 1)))) a ((l.drop 1).map V.str):=aw.of (J _ _ ag);generalize upd (upd G a (.lst ((l.drop 1).map V.str))) b (vY P w b (tT (l.drop 1)))=H3 at J j e ⊢;refine⟨b,_,P,w,rfl,j,?_⟩;refine aV (.inl e) ?_;rw[b7,(J7 (l.drop 1)).2.mpr A];walk_at "d";rw[if_neg (by omega)]
  refine aC (i:=((0:Nat):Int)) e (aB (aP (by omega))) ?_
  rw[show (l.drop 1).getD 0 aX=l.getD 1 aX by rw[b5,getElem?_drop,<-b5]]
  refine⟨a,_,rfl,e,fun c o=>?_⟩;rw[dG,<-Uv,List.drop_drop];have sc:=ah.new o (.lst ((l.drop (1+1)).map V.str));refine⟨c,_,rfl,.inl ⟨aw.of ag,fun u I=>?_⟩⟩;have sU:=ah.new I (.tup ((l.drop (1+1)).map V.str));refine⟨by decide,fun t C=>?_⟩
  have N:=ah.new C (.tup [.str "sees",.str (l.getD 1 aX),.ref u]);exact q t u _ ((R.trans r).trans ((O.trans Y).trans ((J.trans sc).trans (sU.trans N)))) ag (N _ _ ag)
theorem zL:DS (aj mi) ["numbers","name","line"] ["numbers","name","line"] ["Twice","MOST_PEOPLE","len","TooMany"]:=aO (by decide +kernel)
theorem Dh (B:Bn mg)(KC:Cs mg)(D:Def K mg "add_hat" mi):Fn P w K mg base 1 "add_hat" ["numbers","name","line"] wy:=by
 refine D.gq zL (fun _ _ _ _ _ _ p n=>by obtain⟨_,_,_,rfl⟩:=i4 n;rfl) (fun j H Q E h=>?_) ?_
 ·obtain⟨d,f,x,i,rfl,_⟩:=h;rfl
 intro X S l e2 b g e hc m o s hu H j Q E h;subst l e2 b g e;obtain⟨d,f,x,i,rfl,a,hx,r,q⟩:=h;refine⟨_,(af (cA (Rc (u1 hu) (kv S 1) (kv S 0) (by with_unfolding_all rfl)) (ai iV) ax)
   (af (cA (aQ Le (cV S 2 rZ B.len oD (aa (kv S 0) ae)) (Og S 1 KC.xi) (au _)) (ai iV) ax)
   (ai (LW (u1 hu) (cV S 2 rZ B.len oD (aa (kv S 0) ae)) (kv S 0) (kv S 1))))),?_⟩
 walk_at "d";refine⟨d,_,rfl,Ot a hx,?_⟩;rw[isSome_none];walk_at "d";refine wx a ?_;walk_at "d";refine bU (fun c=>absurd c (by omega)) (fun c=>?_)
 refine wx a ?_;refine Gw a rfl hx (bN (by omega)) ?_
 exact q
theorem uz:DS (aj jb) ["numbers","web","name","seen","line"] ["numbers","web","name","seen","line"] ["Twice","all","Unknown","sum"]:=aO (by decide +kernel)
theorem wU (B:Bn mg)(D:Def K mg "add_sight" jb):Fn P w K mg base 1 "add_sight" ["numbers","web","name","seen","line"] (oY K):=by
 refine D.gq uz (fun _ _ _ _ _ _ us v=>by obtain⟨_,_,_,_,_,rfl⟩:=SO v;rfl) (fun vs H Q E h=>?_) ?_
 ·obtain⟨d,w,t,a,l,ws,x,i,rfl,_⟩:=h;rfl
 intro X S e1 e2 e3 e4 e5 hc u hxe hr hu H vs Q E h;subst e1 e2 e3 e4 e5;obtain⟨d,w,t,a,l,ws,x,i,rfl,Z,hw,o,h8,hx,I,ht,v,hl40,q⟩:=h;refine⟨_,(af (cA (yu (NO (Rc (u1 hu) (kv S 2) (kv S 0) (by with_unfolding_all rfl)) (Fh (aQ kA (bc (ak rfl) (kv S 1) (Gs (u1 hu) (kv S 0) (kv S 2)) (fun _ _=>rfl)) aq (au _))))) (ai iV) ax)
   (af (cA (iN (iu (cV S 1 (cQ hc rfl) B.all boot_all (aa (iC S hc u (dY (aS (iM rfl) (rJ (aa (kv S 2) ae)) (kv S 3)) rfl) (N:=["other","numbers"]) (W:=["other"]) (G:=[]) (fv:=[none,some 0]) (by decide +kernel) (fun cl C fp s H f=>⟨(kg f 0),bo,(Q0 (u1 hu) (kv f 0) (kv f 1) (by with_unfolding_all rfl))⟩)) ae)))) (ai iV) ax)
   (ai (yv (cV S 3 (dF hc rfl) B.sum boot_sum (aa (iC S hc u (dY (kv S 3) rfl) (N:=["other","numbers"]) (W:=["other"]) (G:=[]) (fv:=[none,some 0]) (by decide +kernel) (fun cl C fp s H f=>⟨(kg f 0),bo,(aS cS aq (Gs (u1 hu) (kv f 1) (kv f 0)))⟩)) ae)) (Sy (kv S 1) (Gs (u1 hu) (kv S 0) (kv S 2)) set_list))))),?_⟩
 walk_at "d";have hi:a.idxOf x<a.length:=GE.mpr hx;refine⟨d,_,rfl,wu Z hx,?_⟩;rw[isSome_some];walk_at "d";refine⟨d,_,rfl,wu Z hx,?_⟩;refine cW (aw.of hw) rfl (by rw[ao,o];exact hi) ?_
 rw[aT,I];walk_at "d";refine⟨by decide,fun p hp=>?_⟩
 have n:=ah.new hp (.tup [V.str x]);refine⟨p,t,_,_,rfl,rfl,aE.of ag,aE.of (n _ _ ht),by rw[b7];exact bN (by show 1+_<=_;omega),fun p1 H1 z g=>?_⟩
 have j:DN H1 d a:=z _ _ (n _ _ Z);have L:([V.str x]++l.map V.str)=(x::l).map V.str:=rfl;rw[L] at g;have cu:∀ y∈x::l,y∈a:=fun y hy=>(h9.mp hy).elim (fun e=>e ▸ hx) (v y);refine⟨p1,rfl,⟨_,g⟩,p5 (gH g) (fun _=>true) (fun i=>.bl true) (by rw[b7,ot];exact az (by omega)) ?_ ?_⟩
 ·intro i H2 A B' hi O M _;rw[b7] at hi;rw[show ((x::l).map V.str).getD i .bx=.str ((x::l).getD i aX) by rw[b5,aP hi];rfl]
  walk_at "d";refine⟨d,_,rfl,wu (O _ _ j) (cu _ (getD_memS hi)),?_⟩;exact M rfl _ (ah.refl _)
 intro J H2 hn2 F b;rw[bH,b7] at b;refine⟨J,(List.range (x::l).length).map fun _=>true,rfl,aw.of (by rw[b,ls];rfl),?_⟩
 have eT:(((List.range (x::l).length).map fun _=>true).all id)=true:=by rw[Tv];exact kf.mpr fun _ _=>rfl
 rw[eT];walk_at "d";have m:DN H2 d a:=F _ _ j;have r:=F _ _ (z _ _ (n _ _ ht));have Y:=F _ _ (z _ _ (n _ _ hw));refine⟨t,rfl,⟨_,aE.of r⟩,p5 (gH (aE.of r)) (fun _=>true) (fun i=>.int ((2 ^ a.idxOf (l.getD i aX):Nat):Int)) (by rw[b7];exact az (by omega)) ?_ ?_⟩
 ·intro i H3 A B' hi O M _;rw[b7] at hi;rw[show (l.map V.str).getD i .bx=.str (l.getD i aX) by rw[b5,aP hi];rfl]
  walk_at "d";refine⟨d,_,rfl,wu (O _ _ m) (v _ (getD_memS hi)),?_⟩;have hlt:a.idxOf (l.getD i aX)<a.length:=GE.mpr (v _ (getD_memS hi));walk_at "d";refine⟨eB (by omega),?_⟩
  exact M rfl H3 (ah.refl _)
 intro R H3 hn3 T c;rw[bH,b7] at c;refine⟨R,(List.range l.length).map fun i=>((2 ^ a.idxOf (l.getD i aX):Nat):Int),rfl,aw.of (by rw[c,ls];rfl),?_⟩
 walk_at "d";rw[Gx];have U:=T _ _ Y;refine⟨d,_,rfl,wu (T _ _ m) hx,?_⟩;refine⟨w,_,_,_,rfl,rfl,U,JK (by rw[b7,ao,o];exact hi),?_⟩
 rw[Gy];exact q _ (n.trans (z.trans (F.trans T)))
theorem zM:DS (aj mj) ["text"] ["text"] []:=aO (by decide +kernel)
theorem KP (B:Bn mg)(D:Def K mg "rows_of" mj):Fn P w K mg base 1 "rows_of" ["text"] ze:=by
 refine D.gq zM (fun _ _ _ _ _ _ t a=>by obtain⟨_,rfl⟩:=fV a;rfl) (fun m H Q E h=>?_) ?_
 ·obtain⟨z,rfl,_⟩:=h;rfl
 intro X S n e2 g j i hc o r u hu H m Q E h;subst n e2 g j i;obtain⟨z,rfl,hz,b,q⟩:=h;refine⟨_,(af (cA (aQ aW (kv S 0) ba (au _)) (ai (aJ (eQ ae))) ax)
   (ai (aJ (ir AC T9 type_str_split eh rfl (kv S 0) (aa ba ae))))),?_⟩
 walk_at "d";refine bU (fun c=>?_) (fun c=>?_)
 ·refine⟨by decide,fun l a=>?_⟩
  exact q l _ (ah.new a _) a (by rw[ag];unfold kU;rw[if_pos c];rfl)
 ·have s:(1000002:Nat)<=sizeLine:=by decide
  have d:(Str.ofString "\n")=⟨#[10]⟩:=by decide +kernel
  have f:kU z=Txt.split z ⟨#[10]⟩:=by unfold kU;rw[if_neg c]
  refine⟨rfl,z,_,rfl,rfl,by decide +kernel,by omega,?_,fun p e=>?_⟩
  ·rw[d,<-f];omega
  ·rw[d,<-f];exact q p _ (ah.new e _) e ag
theorem uA:DS (aj jc) ["text","numbers","counts","web","line","row","told"] ["text"] ["enumerate","rows_of","read_line","add_hat","add_sight","tuple"]:=aO (by decide +kernel)
theorem KQ (B:Bn mg)(D:Def K mg "read_book" jc)(mz:Fn P w K mg base 1 "rows_of" ["text"] ze)(xk:Sb P w K mg base 3 "read_line" "text" "line" 0 (yW K))(DC:Fn P w K mg base 1 "add_hat" ["numbers","name","line"] wy)(xl:Fn P w K mg base 1 "add_sight" ["numbers","web","name","seen","line"] (oY K)):Fn P w K mg base 4 "read_book" ["text"] (Bz K):=by
 refine D.gq uA (fun _ _ _ _ _ _ us hl=>by obtain⟨_,rfl⟩:=fV hl;rfl) (fun vs H Q E h=>?_) ?_
 ·obtain⟨L,b,rfl,_⟩:=h;rfl
 intro X S e1 e2 e3 e4 e5 hc hsc hxe hr hu H vs Q E h;subst e1 e2 e3 e4 e5;obtain⟨L,b,rfl,bh,hL,hb,q⟩:=h;refine⟨_,(af (bp S 1 LV)
   (af (bp S 2 (eQ ae))
   (af (bp S 3 (eQ ae))
   (af (fC hxe hc (SM S 0 B.enumerate rfl (aa (bZ S 1 mz hr (aa (kv S 0) ae)) ae)) (jU hc (K:=X.K) (n:=2) rfl (aN (kg S 4) (aN (kg S 5) cC))) (af (bp S 6 (SJ S 2 xk hr (aa (kv S 5) (aa (kv S 4) ae))))
   (ai (cA (aQ aW (bc (aI rfl) (kv S 6) aq (fun _ _=>rfl)) ba (au _)) (af (dm (bZ S 3 DC hr (aa (kv S 1) (aa (bc (aI rfl) (kv S 6) aq (fun _ _=>rfl)) (aa (kv S 4) ae)))))
   (af (dm (ir qN nc nF bE rfl (kv S 2) (aa (bc (aI rfl) (kv S 6) aq (fun _ _=>rfl)) ae)))
   (ai (dm (ir qN nc nF bE rfl (kv S 3) (aa aq ae)))))) (ai (dm (bZ S 4 xl hr (aa (kv S 1) (aa (kv S 3) (aa (bc (aI rfl) (kv S 6) aq (fun _ _=>rfl)) (aa (bc (aI rfl) (kv S 6) aq (fun _ _=>rfl)) (aa (kv S 4) ae))))))))))))
   (ai (aJ (rJ (aa (fW S 5 (zx hc) B.tuple C6 (aa (kv S 1) ae)) (aa (fW S 5 (bu rfl) B.tuple C6 (aa (kv S 2) ae)) (aa (fW S 5 (bu rfl) B.tuple C6 (aa (kv S 3) ae)) ae)))))))))),?_⟩
 walk_at "d";intro d Z;have s0:=ah.new Z (.dK []);refine⟨by decide,fun c y=>?_⟩
 have s1:=ah.new y (.lst []);refine⟨by decide,fun w s=>?_⟩
 have s2:=ah.new s (.lst []);have cd:c≠d:=fun z=>by rw[z,ag] at y;cases y
 have wd:w≠d:=fun z=>by rw[z,aH cd.symm,ag] at s;cases s
 have wc:w≠c:=fun z=>by rw[z,ag] at s;cases s
 have hbt:=fF bh hL;have u:=g5 bh;refine⟨_,rfl,by omega,by rw[u,b7];omega,fun r H1 t1 m N=>?_⟩
 rw[u] at N;have rd:r≠d:=fun z=>by rw[z,aH wd.symm,aH cd.symm,ag] at m;cases m
 have rc:r≠c:=fun z=>by rw[z,aH wc.symm,ag] at m;cases m
 have rw':r≠w:=fun z=>by rw[z,ag] at m;cases m
 have hB0:S8 H1 d c w ⟨[],[],[]⟩:=⟨t1 _ _ (s2 _ _ (s1 _ _ ag)),t1 _ _ (s2 _ _ ag),t1 _ _ ag,rfl,rfl,by decide⟩
 have hcn:H c=none:=s0.free y;have hwn:H w=none:=(s0.trans s1).free s;refine Rb (Rf H (eV L) d c w r L) (aw.of N) ⟨_,_,_,_,rfl,(s0.trans (s1.trans s2)).trans t1,N,rfl,hB0⟩ (fun k σ H' h=>by obtain⟨b,y1,y2,y3,_,_,h,_⟩:=h;exact aw.of h) ?_ ?_
 ·rintro k v σ H2 H3 hv ⟨b1,y1,y2,y3,rfl,Y,M,A,j⟩ s3;obtain⟨x,hx,rfl⟩:∃ x,L[k]?=some x/\v=.str (lu x):=by
   rw[eG,eG] at hv
   cases e:L[k]? with
   | none=>rw[e] at hv;cases hv
   | some x=>rw[e] at hv;cases hv;exact⟨x,rfl,rfl⟩
  obtain⟨a,b2,e1,e2,e3⟩:=zb hb hx;have eb:a=b1:=by rw[A] at e1;cases e1;rfl
  subst eb;have hS3:=Y.trans s3;walk_at "d";refine Kg (bh x (hO hx)) (fun n I f G ex s4 J=>?_) (fun n l f G ex s4 J=>?_)
  ·subst ex;obtain⟨hn,h8,rfl⟩:=CK e2;have g:=s3.trans s4;walk_at "d";refine bj (i:=((0:Nat):Int)) (aE.of J) (aB rfl) ?_;walk_at "d";refine bj (i:=((1:Nat):Int)) (aE.of J) (aB rfl) ?_;refine⟨d,_,n,_,rfl,g _ _ j.hd,hn,h8,?_⟩;have fd:f≠d:=fun z=>by have:=g _ _ j.hd;rw[<-z,J] at this;cases this
   have fc:f≠c:=fun z=>by have:=g _ _ j.hc;rw[<-z,J] at this;cases this
   have fw:f≠w:=fun z=>by have:=g _ _ j.hw;rw[<-z,J] at this;cases this
   walk_at "d";have O:upd G d (.dK (oU 0 (a.ns++[n]))) c=some (.lst ((aA a.cs).map V.int)):=by rw[aH cd];exact g _ _ j.hc
   have hw5:upd G d (.dK (oU 0 (a.ns++[n]))) w=some (.lst ((aA a.ws).map V.int)):=by rw[aH wd];exact g _ _ j.hw
   have av:upd G d (.dK (oU 0 (a.ns++[n]))) r=some (.lst ((L.map lu).map V.str)):=by rw[aH rd];exact g _ _ M
   have aK:upd G d (.dK (oU 0 (a.ns++[n]))) f=some (.tup [.str "hat",.str n,.int (I:Int)]):=by rw[aH fd];exact J
   have a0:upd G d (.dK (oU 0 (a.ns++[n]))) d=some (.dK (oU 0 (a.ns++[n]))):=ag;have ab:ah H (upd G d (.dK (oU 0 (a.ns++[n])))):=(Y.trans g).set Z _;generalize upd G d (.dK (oU 0 (a.ns++[n])))=T at O hw5 av aK a0 ab ⊢;refine⟨.inl ⟨rfl,_,aw.of O⟩,?_⟩;refine bj (i:=((2:Nat):Int)) (aE.of aK) (aB rfl) ?_;refine⟨c,_,_,rfl,rfl,O,by rw[b7,ao];exact bN (by rw[j.lc];omega),?_⟩
   rw[oX];walk_at "d";have R:upd T c (.lst ((aA (a.cs++[I])).map V.int)) w=some (.lst ((aA a.ws).map V.int)):=by rw[aH wc];exact hw5
   have U:upd T c (.lst ((aA (a.cs++[I])).map V.int)) r=some (.lst ((L.map lu).map V.str)):=by rw[aH rc];exact av
   have aR:upd T c (.lst ((aA (a.cs++[I])).map V.int)) d=some (.dK (oU 0 (a.ns++[n]))):=by rw[aH cd.symm];exact a0
   have aF:upd T c (.lst ((aA (a.cs++[I])).map V.int)) c=some (.lst ((aA (a.cs++[I])).map V.int)):=ag;have hS6:ah H (upd T c (.lst ((aA (a.cs++[I])).map V.int))):=ab.set hcn _;generalize upd T c (.lst ((aA (a.cs++[I])).map V.int))=H6 at R U aR aF hS6 ⊢;refine⟨.inl ⟨rfl,_,aw.of R⟩,?_⟩;refine⟨w,_,_,rfl,rfl,R,by rw[b7,ao];exact bN (by rw[j.lw];omega),?_⟩
   rw[show (V.int 0)=V.int ((0:Nat):Int) from rfl,oX]
   refine⟨_,_,_,_,rfl,hS6.set hwn _,by rw[aH rw'];exact U,e3,⟨by show upd _ _ _ _=_;rw[aH wd.symm];exact aR,by rw[aH wc.symm];exact aF,ag,?_,?_,?_⟩⟩
   ·rw[fz,fz,j.lw];rfl
   ·rw[fz,fz,j.lc];rfl
   ·rw[fz];show _+1<=8;omega
  ·subst ex;obtain⟨hn,h0,hl,rfl⟩:=za e2;have g:=s3.trans s4;obtain⟨p,Mn,Bv⟩:=J;have hLs:SK (n::l):=bh _ (hO hx);walk_at "d";refine bj (i:=((0:Nat):Int)) (aE.of Mn) (aB rfl) ?_;walk_at "d";rw[if_neg (by decide +kernel)]
   refine bj (i:=((1:Nat):Int)) (aE.of Mn) (aB rfl) ?_;refine bj (i:=((2:Nat):Int)) (aE.of Mn) (aB rfl) ?_;refine⟨d,w,p,_,l,_,n,_,rfl,g _ _ j.hd,g _ _ j.hw,j.lw,j.eD,hn,h0,Bv,hl,by have:=hLs.eD;rw[ot] at this;omega,fun T s5=>?_⟩
   have C:=g.trans s5;walk_at "d";refine⟨_,_,_,_,rfl,(Y.trans C).set hwn _,by rw[aH rw'];exact C _ _ M,e3,⟨by show upd _ _ _ _=_;rw[aH wd.symm];exact C _ _ j.hd,by rw[aH wc.symm];exact C _ _ j.hc,ag,?_,j.lc,j.eD⟩⟩
   rw[length_set];exact j.lw
 ·rintro σ H2 ⟨b1,y1,y2,y3,rfl,Y,M,A,j⟩;rw[b7,b7,Tx,hb] at A
  cases A
  walk_at "d";refine C7 j.hd fun a1 o ha1 oc od=>?_;have u1:=ah.new ha1 (.iW o (.tup (b.ns.map V.str)));refine⟨c,_,rfl,.inl ⟨aw.of (u1 _ _ j.hc),fun a2 ha2=>?_⟩⟩;have u2:=ah.new ha2 (.tup ((aA b.cs).map V.int));refine⟨w,_,rfl,.inl ⟨aw.of (u2 _ _ (u1 _ _ j.hw)),fun a3 ha3=>?_⟩⟩;have u3:=ah.new ha3 (.tup ((aA b.ws).map V.int));refine⟨by decide,fun t ht=>?_⟩
  have W:=ah.new ht (.tup [.ref a1,.ref a2,.ref a3]);exact q t _ (Y.trans ((u1.trans u2).trans (u3.trans W))) ⟨a1,a2,a3,aE.of ag,.inl (.inr ⟨o,W _ _ (u3 _ _ (u2 _ _ ag))⟩),.inr ⟨o,_,W _ _ (u3 _ _ (u2 _ _ ag)),oc,od⟩,aE.of (W _ _ (u3 _ _ ag)),aE.of (W _ _ ag)⟩
theorem Di:DS (aj pw) ["mask"] ["mask"] ["range"]:=aO (by decide +kernel)
theorem Dj (B:Bn mg)(D:Def K mg "places" pw):Fn P w K mg base 1 "places" ["mask"] kN:=by
 refine D.gq Di (fun _ _ _ _ _ _ M y=>by obtain⟨_,rfl⟩:=fV y;rfl) (fun x H Q E h=>?_) ?_
 ·obtain⟨m,rfl,_⟩:=h;rfl
 intro X S p e2 t v u hc g z O hu H x Q E h;subst p e2 t v u;obtain⟨m,rfl,hm,q⟩:=h;refine⟨_,(ai (aJ (iC S hc g (jE S 0 B.range (aa (Sx PySem.F.plainAttrs_int PySem.F.slot_int_bit_length PySem.F.type_int_bit_length Cu rfl (kv S 0)) ae)) (N:=["i","mask"]) (W:=["i"]) (G:=[]) (fv:=[none,some 0]) (by decide +kernel) (fun J C I s H d=>⟨(kg d 0),(fe (aQ aW (aS dU (aS xX (kv d 1) (kv d 0)) aq) aq (au _))),(kv d 0)⟩)))),?_⟩
 walk_at "d";refine⟨rfl,m,rfl,rfl,fun n hn a=>?_⟩;have j:=a 64 hm;walk_at "d";refine Qm n (fun i=>m.testBit i) (fun i=>(i:Int)) rfl (by omega) ?_ ?_
 ·intro i H1 A L hi l r o;walk_at "d";refine⟨by omega,?_⟩
  by_cases c:m.testBit i=true
  ·rw[c];walk_at "d";exact r c _ (ah.refl _)
  ·have c:m.testBit i=false:=by simpa using c
   rw[c];walk_at "d";exact o c _ (ah.refl _)
 ·intro e H1 f l b;refine q e H1 l f ?_;rw[b,<-rN hn];rfl
theorem KR:DS (aj zG) ["web","i","j"] ["web","i","j"] []:=aO (by decide +kernel)
theorem nS (D:Def K mg "sees" zG):Fn P w K mg base 1 "sees" ["web","i","j"] (yI K):=by
 refine D.gq KR (fun _ _ _ _ _ _ o l=>by obtain⟨_,_,_,rfl⟩:=i4 l;rfl) (fun d H Q E h=>?_) ?_
 ·obtain⟨w,m,i,j,rfl,_⟩:=h;rfl
 intro X S e e2 a c b hc f n p hu H d Q E h;subst e e2 a c b;obtain⟨w,m,i,j,rfl,g,hi,q⟩:=h;refine⟨_,(ai (aJ (fB aW (aS dU (aS xX (bc (aI rfl) (kv S 0) (kv S 1) (fun _ _=>rfl)) (kv S 2)) aq) aq (au _)))),?_⟩;walk_at "d";refine dw g rfl (by rw[ao];exact hi) ?_
 rw[aT];walk_at "d";exact⟨by omega,q⟩
theorem uB:DS (aj i9) ["web","people","crowd","i","others"] ["web","people"] ["sum"]:=aO (by decide +kernel)
theorem uC (B:Bn mg)(D:Def K mg "is_circle" i9):Fn P w K mg base 1 "is_circle" ["web","people"] (N2 K):=by
 refine D.gq uB (fun _ _ _ _ _ _ us hl=>by obtain⟨_,_,rfl⟩:=fj hl;rfl) (fun T H Q E h=>?_) ?_
 ·obtain⟨w,p,ws,l,rfl,_⟩:=h;rfl
 intro X S I e2 M R O hc o r hr hu H T Q E h;subst I e2 M R O;obtain⟨w,p,ws,l,rfl,hw,t,h8,y,b,q⟩:=h;have L:=cE y b;refine⟨_,(af (bp S 2 (cV S 0 (dF hc rfl) B.sum boot_sum (aa (iC S hc o (dY (kv S 1) rfl) (N:=["i"]) (W:=["i"]) (G:=[]) (fv:=[none]) (by decide +kernel) (fun cl C fp s H u=>⟨(kg u 0),bo,(aS cS aq (kv u 0))⟩)) ae)))
   (af (fC r hc (dY (kv S 1) rfl) (kg S 3) (af (bp S 4 (aS cJ (kv S 2) (aS cS aq (kv S 3))))
   (ai (cA (aQ kA (aS dU (bc (aI rfl) (kv S 0) (kv S 3) (fun _ _=>rfl)) (kv S 4)) (kv S 4) (au _)) (ai (aJ vF)) ax))))
   (ai (aJ vF)))),?_⟩
 walk_at "d";refine R9 (fun _=>true) (fun j=>((2 ^ l.getD j 0:Nat):Int)) t (by rw[ao];exact az (by omega)) ?_ ?_
 ·intro j H1 A B' hj hS J hB;rw[ao] at hj;rw[aT];walk_at "d";exact⟨eB (by have:=b _ (dH hj);omega),J rfl _ (ah.refl _)⟩
 intro F H1 Z a d;rw[bH] at d;refine ox (aw.of d) ?_;rw[Ba];have f:=a.aL t;have i:=a.aL hw;walk_at "d";refine Ft (QM H1 w p ws l) f ⟨rfl,(fun j hj=>absurd hj (SZ j)),none,none,rfl⟩ (fun k σ v h=>by rw[h.1];exact f) ?_ ?_
 ·rintro k σ v hk ⟨m,g,U,Y,rfl⟩;rw[ao] at hk;have hm:=dH hk;rw[m,aT];walk_at "d";refine⟨eB (by have:=b _ hm;omega),?_⟩
  refine dw i rfl (by rw[ao];exact b _ hm) ?_
  rw[aT,JW (vP hm)];walk_at "d";have e:=yL (ws:=ws) y hm
  by_cases c:(l.all fun x=>decide (x=l.getD k 0)||fg ws (l.getD k 0) x)=true
  ·rw[c,k0] at e;rw[e]
   try rw[NS rfl]
   walk_at "d";refine⟨rfl,fun j hj=>?_,_,_,rfl⟩
   by_cases e2:j=k
   ·rw[e2];exact c
   ·exact g j (by omega)
  ·have n:(l.all fun x=>decide (x=l.getD k 0)||fg ws (l.getD k 0) x)=false:=by simpa using c
   rw[n,decide_eq_false_iff_not] at e;rw[ek (show ¬ (((ws.getD (l.getD k 0) 0&&& (mask l - 2 ^ l.getD k 0):Nat):Int)=((mask l - 2 ^ l.getD k 0:Nat):Int)) by rw[QN];exact e)]
   walk_at "d"
   have:cp ws l=false:=by
    cases z:cp ws l with
    | false=>rfl
    | true=>
     unfold cp at z;rw[kf] at z;rw[z _ hm] at n;cases n
   rw[<-this];exact q _ a
 ·rintro σ v ⟨m,g,U,Y,rfl⟩;rw[ao] at g;rw[m];walk_at "d"
  have:cp ws l=true:=by
   unfold cp;rw[kf];intro x hx;obtain⟨k,hk,e⟩:=C2 hx
   have:=g k hk
   rw[b5,cc hk] at this;rw[<-e];exact this
  rw[<-this];exact q _ a
theorem zN:DS (aj mf) ["web","people","followers"] ["web","people"] ["len","set","all","zip"]:=aO (by decide +kernel)
theorem zO (B:Bn mg)(D:Def K mg "is_ring" mf)(zZ:Fn P w K mg base 1 "sees" ["web","i","j"] (yI K)):Fn P w K mg base 2 "is_ring" ["web","people"] (N3 K):=by
 refine D.gq zN (fun _ _ _ _ _ _ us hl=>by obtain⟨_,_,rfl⟩:=fj hl;rfl) (fun vs H Q E h=>?_) ?_
 ·obtain⟨w,p,d,r,rfl,_⟩:=h;rfl
 intro X S O e2 U Z Y hc F R hr hu H vs Q E h;subst O e2 U Z Y;obtain⟨w,p,d,r,rfl,hw,i,h8,L,x,q⟩:=h;refine⟨_,(af (cA (yu (yt (aQ gG (cV S 0 (ay rfl) B.len oD (aa (kv S 1) ae)) aq (au _)) (nq (aQ gG (cV S 0 vL B.len oD (aa (fW S 1 (Cp hc rfl) B.set boot_set (aa (kv S 1) ae)) ae)) (cV S 0 (ay rfl) B.len oD (aa (kv S 1) ae)) (au _))))) (ai (aJ vF)) ax)
   (af (bp S 2 (aS (iM rfl) (ou (jv rfl) (kv S 1) (bD aq) bC) (ou (jv rfl) (kv S 1) bC (bD aq))))
   (ai (aJ (cV S 2 (cQ hc rfl) B.all boot_all (aa (iC S hc F (RD false S 3 B.zip rfl (aa (kv S 1) (aa (kv S 2) ae))) (N:=["i","j","web"]) (W:=["i","j"]) (G:=["sees"]) (fv:=[none,none,some 0]) (by decide +kernel) (fun cl C fp s H l=>⟨(jU rfl (K:=X.K) (n:=2) rfl (aN (kg l 0) (aN (kg l 1) cC))),bo,(bZ l 0 zZ hr (aa (kv l 2) (aa (kv l 0) (aa (kv l 1) ae))))⟩)) ae)))))),?_⟩
 walk_at "d";refine aV (.inr i) ?_;rw[b7,ao];walk_at "d";refine bU (fun c=>?_) (fun c=>?_)
 ·rw[show false=gJ d r by unfold gJ;rw[ek (show ¬ 2<=r.length by omega)];rfl]
  exact q _ (ah.refl _)
 refine⟨p,aA r,rfl,.inr i,by rw[ao];omega,fun s hs=>?_⟩
 have g:=ah.new hs (.set (fun j=>(jF (aA r) (aA r).length).any (· == j)) (unlike (aA r)));refine⟨s,_,_,rfl,ag,?_⟩;generalize upd H s _=H1 at g ⊢;refine aV (.inr (g.aL i)) ?_;rw[b7,ao];walk_at "d"
 by_cases o:r.Nodup
 ·rw[if_neg (by rw[Ct (rM o),ao];omega)]
  refine tp 0 (g.aL i) rfl (by rw[ao];omega) fun a ha=>?_
  have I:=ah.new ha (.tup (((aA r).drop (0+1)).map V.int));refine tm 1 ((g.trans I).aL i) rfl (by rw[ao];omega) fun b hb=>?_
  have J:=ah.new hb (.tup (((aA r).take 1).map V.int));refine tw (ns:=(aA r).drop 1) (ms:=(aA r).take 1) (aE.of (J _ _ ag)) (aE.of ag) (bN (by rw[vr,xx,ao];omega)) fun f H2 s2 y=>?_
  have y:aE X.K H2 f ((aA (qf r)).map V.int):=by
   unfold qf;rw[eK,<-vM,<-FJ];exact y
  have t:=((g.trans I).trans J).trans s2;walk_at "d";refine OI _ (fun k=>.bl (fg d (r.getD k 0) ((qf r).getD k 0))) (t.aL i) y (ed _) (by rw[ao,ao,FO (by omega)];exact ed _) (.inl (ed _)) (by rw[ao];exact az (by omega)) ?_ ?_
  ·intro k M A hk e T;rw[ao] at hk;rw[aT,aT];walk_at "d";exact⟨w,d,r.getD k 0,(qf r).getD k 0,rfl,(t.trans e).aL hw,x _ (dH hk),T _ (ah.refl _)⟩
  ·intro u M hn3 e m;refine⟨u,(List.range r.length).map fun k=>fg d (r.getD k 0) ((qf r).getD k 0),rfl,aw.of (by rw[m,ao,ls];rfl),?_⟩
   rw[Cw,show ((List.range r.length).all fun k=>fg d (r.getD (ahead r.length k) 0) (r.getD k 0))=gJ d r by unfold gJ;rw[ea (show 2<=r.length by omega),ea o];rfl]
   exact q _ (t.trans e)
 ·have v:=Cy (fun z=>o (qg.mp z));rw[ao] at v;rw[if_pos (by omega),show false=gJ d r by unfold gJ;rw[ek o,sr,Uq]]
  exact q _ g
theorem qm:DS (aj ia) ["book","names","rows","i","mask","seen"] ["book"] ["zip","enumerate","places"]:=aO (by decide +kernel)
theorem HK (B:Bn mg)(D:Def K mg "shown_book" ia)(jo:Fn P w K mg base 1 "places" ["mask"] kN):Fn P w K mg base 2 "shown_book" ["book"] (wH K):=by
 refine D.gq qm (fun _ _ _ _ _ _ us hl=>by obtain⟨_,rfl⟩:=fV hl;rfl) (fun vs H Q E h=>?_) ?_
 ·obtain⟨t,a,b,d,rfl,_⟩:=h;rfl
 intro X S e1 e2 e3 e4 e5 hc f hxe hr hu H vs Q E h;subst e1 e2 e3 e4 e5;obtain⟨t,a,b,d,rfl,⟨a1,a2,a3,h0,h1,_,h2,h3⟩,P,q⟩:=h;have h8:=P.nm.eD;refine⟨_,(af (bp S 1 (bc (aI rfl) (kv S 0) aq (fun _ _=>rfl)))
   (af (Fi (i:=2) S hc f (RD false S 0 B.zip rfl (aa (kv S 1) (aa (bc (aI rfl) (kv S 0) aq (fun _ _=>rfl)) ae))) (N:=["name","count"]) (W:=["name","count"]) (G:=[]) (fv:=[none,none]) (by decide +kernel) (fun cl C fp s H p=>⟨(jU rfl (K:=X.K) (n:=2) rfl (aN (kg p 0) (aN (kg p 1) cC))),bo,(Md (g6 ba (g6 (Ko (kv p 0)) (g6 ba (g6 (Ko (kv p 1)) GN)))))⟩) (by rw[f];decide +kernel) (by rw[dX,f];rfl))
   (af (fC hxe hc (FC S 1 B.enumerate rfl (aa (bc (aI rfl) (kv S 0) aq (fun _ _=>rfl)) ae)) (jU hc (K:=X.K) (n:=2) rfl (aN (kg S 3) (aN (kg S 4) cC))) (ai (cA (aQ kA (kv S 4) aq (au _)) (af (Fi (i:=5) S hc f (cw (bZ S 2 jo hr (aa (kv S 4) ae)) rfl) (N:=["j","names"]) (W:=["j"]) (G:=[]) (fv:=[none,some 1]) (by decide +kernel) (fun cl C fp s H p=>⟨(kg p 0),bo,(bc (aI rfl) (kv p 1) (kv p 0) (fun _ _=>rfl))⟩) (by rw[f];decide +kernel) (by rw[dX,f];rfl))
   (ai (dm (ir qN nc nF bE rfl (kv S 2) (aa (ir AC KE Os (bF rfl) rfl ba (aa (aS (cZ rfl) (eQ (aa ba (aa (bc (aI rfl) (kv S 1) (kv S 3) (fun _ _=>rfl)) ae))) (kv S 5)) ae)) ae))))) ax)))
   (ai (aJ (ir AC KE Os (bF rfl) rfl ba (aa (kv S 2) ae))))))),?_⟩
 walk_at "i";refine bj (i:=((0:Nat):Int)) h0 (aB rfl) ?_;have h1000:(1000:Nat)<=sizeLine:=by decide
 have el:(Str.ofString "hat ").length=4:=by decide +kernel
 have v:(Str.ofString " ").length=1:=by decide +kernel
 have ab:∀ k,k<a.length->bG (a.getD k aX)=true/\(a.getD k aX).length<=12/\(Str.ofString (toString ((b.getD k 0:Nat):Int))).length<=30/\((b.getD k 0:Nat):Int).natAbs.log2<1920:=fun k hk=>by
  have T:bG (a.getD k aX)=true/\0<b.getD k 0/\b.getD k 0<10 ^ 30:=o8 P hk;refine⟨T.1,(dB T.1).2.2,gL (dA T.2.1 T.2.2).1,?_⟩;rw[TL];exact(log2_lt (by omega)).mpr (TV T.2.2 (by decide +kernel))
 walk_at "i";refine bj (i:=((1:Nat):Int)) h0 (aB rfl) ?_;refine RF (fun k=>.str (eC a b (.dS k))) h1 h2 (by rw[b7,b7,ao,P.lc]) (by rw[b7];exact az (by show a.length<=_;omega)) ?_ ?_
 ·intro k H1 A hk hS hA;rw[b7] at hk;rw[show (a.map V.str).getD k .bx=.str (a.getD k aX) by rw[b5,aP hk];rfl,dM (by rw[P.lc];exact hk)]
  obtain⟨f1,f2,f3,f4⟩:=ab k hk;walk_at "s";have I:(Str.empty++Str.ofString "hat ").length=4:=by decide +kernel
  refine⟨_,rfl,by rw[I];omega,?_⟩
  refine .inl ⟨_,rfl,by omega,_,rfl,by rw[aD,I];omega,?_⟩
  walk_at "s";refine⟨_,rfl,by rw[aD,aD,I,v];omega,?_⟩
  refine .inr ⟨_,rfl,f4,_,rfl,by rw[aD,aD,aD,I,v];omega,?_⟩
  walk_at "s";refine⟨by rw[aD,aD,aD,I,v];omega,?_⟩
  have e0:Str.empty++Str.ofString "hat "=Str.ofString "hat ":=by decide +kernel
  rw[e0,kT];exact hA _ (ah.refl _)
 intro r H1 hr0 s1 m;rw[b7] at m;have m:H1 r=some (.lst (((Br a d 0).map (eC a b)).map V.str)):=by
  rw[m];unfold Br;rw[range_zero,filter_nil,map_nil,Ui,ls,ls];rfl
 have hrn:H r=none:=hr0;walk_at "i";refine bj (i:=((2:Nat):Int)) (s1.aL h0) (aB rfl) ?_;refine Qv (Rn H t a1 r a b d) (s1.aL h3) ⟨_,_,_,rfl,s1,m⟩ (fun k σ H' h=>by obtain⟨y3,y4,y5,_,s,_⟩:=h;exact s.aL h3) ?_ ?_
 ·rintro k σ H2 H3 hk ⟨y3,y4,y5,rfl,s2,g⟩ s3;rw[ao,P.lw] at hk;rw[aT];have Y:=s2.trans s3;have Z:=s3 _ _ g;have hsl:(Br a d k).length<=90:=by
   unfold Br
   have:=A5 (fun i=>decide (d.getD i 0≠0)) (List.range k)
   rw[j9] at this;rw[fz,b7,b7,j9]
   omega
  walk_at "s";refine bU (fun c=>?_) (fun c=>?_)
  ·have c':d.getD k 0≠0:=by simpa using c
   walk_at "i";have hw8:2 ^ a.length<=2 ^ 8:=ri (by decide) h8
   have hwl:=P.R1 k hk;refine⟨_,rfl,by omega,fun pl H4 t4 hpl0 l=>?_⟩
   rw[Kq hwl] at l;have e:=nR P hk (List.Perm.refl _) ((wA P hk).mpr c');generalize u:iA a.length (d.getD k 0)=bt at l e ⊢;have hbl8:bt.length<=a.length:=by
    rw[<-u];unfold iA
    have:=A5 (fun j=>decide (d.getD k 0 / 2 ^ j % 2=1)) (List.range a.length)
    rw[j9] at this;exact this
   have hbm:∀ j∈bt,j<a.length:=fun j hj=>by
    rw[<-u] at hj;exact(jB.mp hj).1
   have s4:=Y.trans t4;refine⟨pl,rfl,⟨_,aw.of l⟩,p5 (bP (aw.of l)) (fun _=>true) (fun i=>.str (a.getD (bt.getD i 0) aX)) (by rw[b7,ao];exact az (by omega)) ?_ ?_⟩
   ·intro i H5 A B' hi hS hA _;rw[b7,ao] at hi;rw[dM hi];walk_at "s";refine bj (hS.aL (s4.aL h1)) (aB (aP (hbm _ (dN hi)))) ?_;exact hA rfl _ (ah.refl _)
   intro nl H5 hnl0 s5 aF;rw[bH,b7,ao,cy (fun j=>V.str (a.getD j aX))] at aF;have av:=s4.trans s5;have O:=s5 _ _ (t4 _ _ Z);walk_at "s";refine⟨.inl ⟨rfl,_,aw.of O⟩,rfl,?_⟩;refine bj (av.aL h1) (aB (aP hk)) ?_;refine⟨by decide,fun p7 hp7=>?_⟩
   have L:=ah.new hp7 (.lst [V.str (Str.ofString "sees"),V.str (a.getD k aX)]);refine⟨p7,nl,_,_,rfl,rfl,aw.of ag,aw.of (L _ _ aF),by rw[b7];exact bN (by show 2+_<=100;omega),fun p8 hp8=>?_⟩
   have sp8:=ah.new hp8 (.lst ([V.str (Str.ofString "sees"),V.str (a.getD k aX)]++bt.map fun j=>V.str (a.getD j aX)));have e8:([V.str (Str.ofString "sees"),V.str (a.getD k aX)]++bt.map fun j=>V.str (a.getD j aX))=(lr (fH a b (.sees k bt))).map V.str:=by
    show _=[V.str (Str.ofString "sees"),V.str (a.getD k aX)]++(bt.map fun j=>a.getD j aX).map V.str;rw[ls];rfl
   have R:=g4 e;have hlt:=fE e;have o:=et 30 (lr (fH a b (.sees k bt))) fun y hy=>(R.1 y hy).2.2;have h41:(lr (fH a b (.sees k bt))).length*31<=41*31:=A2 _ R.2.1;have h2000:(2000:Nat)<=sizeLine:=by decide
   refine⟨_,p8,lr (fH a b (.sees k bt)),rfl,rfl,aw.of (by rw[ag,e8]),?_,?_,?_⟩
   ·rw[bb];show ((lr (fH a b (.sees k bt))).map fun z=>z.length+1).sum<=_
    omega
   ·rw[bb]
    have:(lu (fH a b (.sees k bt))).length=(Str.join ⟨#[32]⟩ (lr (fH a b (.sees k bt)))).length:=rfl
    omega
   rw[bb];have sA:=L.trans sp8;refine⟨r,_,_,rfl,rfl,sA _ _ O,by rw[b7,b7];exact bN (by omega),?_⟩
   refine⟨_,_,_,rfl,(av.trans sA).set hrn _,?_⟩;rw[ag,kW,if_pos c',u,hU,hU];rfl
  ·have c':¬ d.getD k 0≠0:=by simpa using c
   refine⟨_,_,_,rfl,Y,?_⟩;rw[kW,if_neg c'];exact Z
 rintro σ2 H2 ⟨y3,y4,y5,rfl,s2,g⟩;rw[ao,P.lw] at g;walk_at "s";have hM:=eW P;have hML:(bg a d).length<=16:=j5 fG (by omega)
 have en:(Str.ofString "\n")=⟨#[10]⟩:=by decide +kernel
 have M:=hM.pb P;have emm:(bg a d).map (eC a b)=((bg a d).map (fH a b)).map lu:=by rw[ls];rfl
 have J:((bg a d).map (fH a b)).length<=100:=by rw[b7];omega
 have hbl:=fF M J;have o:=et 1271 ((bg a d).map (eC a b)) fun y hy=>by
  obtain⟨x,hx,rfl⟩:=kc.mp hy;exact fE (hM.o9 P x hx)
 rw[b7] at o;have h16:(bg a d).length*1272<=16*1272:=A2 _ hML;have hbig:(1000000:Nat)<=sizeLine:=by decide
 have U:Str.join ⟨#[10]⟩ ((bg a d).map (eC a b))=eV ((bg a d).map (fH a b)):=by rw[emm];rfl
 refine⟨rfl,_,r,(bg a d).map (eC a b),rfl,rfl,aw.of g,?_,?_,?_⟩
 ·rw[en];show (((bg a d).map (eC a b)).map fun z=>z.length+1).sum<=_
  omega
 ·rw[en,U];omega
 rw[en,U];exact q H2 s2
theorem jI:DS (aj dD) ["a","b","rest"] ["a","b"] []:=aO (by decide +kernel)
theorem RL (D:Def K mg "greatest_divisor" dD):Fn P w K mg base 1 "greatest_divisor" ["a","b"] LJ:=by
 refine D.gq jI (fun _ _ _ _ _ _ t r=>by obtain⟨_,_,rfl⟩:=fj r;rfl) (fun j H Q E h=>?_) ?_
 ·obtain⟨m,n,rfl,_⟩:=h;rfl
 intro X S o e2 f i g hc p e u hu H j Q E h;subst o e2 f i g;obtain⟨m,n,rfl,q⟩:=h;refine⟨_,(af (yw e (aQ kA (kv S 1) aq (au _)) (af (bp S 2 (aS cR (kv S 0) (kv S 1)))
   (af (bp S 0 (kv S 1))
   (ai (bp S 1 (kv S 2))))))
   (ai (aJ (kv S 0)))),?_⟩
 walk_at "d";refine JC (Qn H (Nat.gcd m n) [none]) S6 ⟨rfl,m,n,_,rfl,rfl,rfl⟩ ?_;rintro σ s ⟨l,b,a,y,rfl,hy,d⟩;obtain⟨z,rfl⟩:=SA hy;rw[l];walk_at "d";refine bU (fun c=>?_) (fun c=>?_)
 ·have hn:a≠0:=by simpa using c
  refine JD (Pv:=Qn H (Nat.gcd m n) [none]) (μ:=S6) ?_;walk_at "d";rw[SD];refine⟨by omega,⟨rfl,a,b % a,_,rfl,rfl,by rw[Fj];exact d⟩,?_⟩
  show ((b % a:Nat):Int).toNat<((a:Nat):Int).toNat
  have:=mod_lt b (show a > 0 by omega)
  omega
 ·have hn:a=0:=by simpa using c
  subst hn;rw[Nat.gcd_zero_right] at d;subst d;exact q
theorem HL:DS (aj uu) ["counts","over","under","count","divisor"] ["counts"] ["greatest_divisor"]:=aO (by decide +kernel)
theorem HM (D:Def K mg "share" uu)(kn:Fn P w K mg base 1 "greatest_divisor" ["a","b"] LJ):Fn P w K mg base 2 "share" ["counts"] (nK K):=by
 refine D.gq HL (fun _ _ _ _ _ _ v c=>by obtain⟨_,rfl⟩:=fV c;rfl) (fun n H Q E h=>?_) ?_
 ·obtain⟨p,b,rfl,_⟩:=h;rfl
 intro X S r e2 j m l hc s e u hu H n Q E h;subst r e2 j m l;obtain⟨p,b,rfl,g,a,q⟩:=h;refine⟨_,(af (bp S 1 aq)
   (af (bp S 2 aq)
   (af (fC e hc (dY (kv S 0) rfl) (kg S 3) (af (bp S 1 (aS aZ (aS dW (kv S 1) (kv S 3)) (kv S 2)))
   (ai (bp S 2 (aS dW (kv S 2) (kv S 3))))))
   (af (bp S 4 (bZ S 0 kn u (aa (kv S 1) (aa (kv S 2) ae))))
   (ai (aJ (rJ (aa (aS dj (kv S 1) (kv S 4)) (aa (aS dj (kv S 2) (kv S 4)) ae))))))))),?_⟩
 walk_at "d";refine Ft (SE H p b) g ⟨rfl,none,rfl⟩ (fun i σ f h=>by rw[h.1];exact g) ?_ ?_
 ·rintro i σ f hi ⟨d,y,rfl⟩;rw[d];walk_at "d";have hb:=(a.get hi).bt;refine⟨(a.take i).Qp.ok hb (by omega),(a.take i).Ck.ok hb (by omega),rfl,some (.int (b.getD i 0)),?_⟩
  rw[take_snoc 0 hi,Ci (a.get hi).lo,tj]
 ·rintro σ f ⟨d,y,rfl⟩;rw[d,Tx];walk_at "d";refine⟨(cj (pr b) b).toNat,(pr b).toNat,by rw[toN a.Qo,toN (show 0<=pr b by have:=a.jK;omega)],?_⟩
  walk_at "d";have x:=yB a;have c:(0:Int)<(gC b:Int)/\((gC b:Int)).natAbs.log2<9000:=⟨by omega,(Qr a).log (by omega) (by decide)⟩
  exact⟨c,c,by decide,fun t o=>q t _ (ah.new o _) ag⟩
theorem KS:DS (aj zF) ["counts","told"] ["counts"] ["share"]:=aO (by decide +kernel)
theorem KU (D:Def K mg "sure" zF)(lh:Fn P w K mg base 2 "share" ["counts"] (nK K)):Fn P w K mg base 3 "sure" ["counts"] (Fy K):=by
 refine D.gq KS (fun _ _ _ _ _ _ v o=>by obtain⟨_,rfl⟩:=fV o;rfl) (fun g H Q E h=>?_) ?_
 ·obtain⟨p,c,rfl,_⟩:=h;rfl
 intro X S l e2 d f e hc m r u hu H g Q E h;subst l e2 d f e;obtain⟨p,c,rfl,n,a,q⟩:=h;refine⟨_,(af (bp S 1 (bZ S 0 lh u (aa (kv S 0) ae)))
   (ai (aJ (aS dj (bc (aI rfl) (kv S 1) aq (fun _ _=>rfl)) (bc (aI rfl) (kv S 1) aq (fun _ _=>rfl)))))),?_⟩
 walk_at "d";refine⟨p,c,rfl,n,a,fun t j s b=>?_⟩;walk_at "d";refine bj (aE.of b) (i:=0) rfl ?_;refine bj (aE.of b) (i:=1) rfl ?_;walk_at "d";refine⟨⟨by have:=lL a;omega,(yC a).log (by have:=lL a;omega) (by decide)⟩,?_⟩
 rw[NR a];exact q j s
theorem Dk:DS (aj pz) ["values","people"] ["values","people"] ["tuple"]:=aO (by decide +kernel)
theorem Dl (B:Bn mg)(D:Def K mg "picked" pz):Fn P w K mg base 1 "picked" ["values","people"] (oK K):=by
 refine D.gq Dk (fun _ _ _ _ _ _ Y M=>by obtain⟨_,_,rfl⟩:=fj M;rfl) (fun I H Q E h=>?_) ?_
 ·obtain⟨c,p,b,l,rfl,_⟩:=h;rfl
 intro X S r e2 y F z hc n O hr hu H I Q E h;subst r e2 y F z;obtain⟨c,p,b,l,rfl,f,o,m,Z,q⟩:=h;refine⟨_,(ai (aJ (fW S 0 (bu rfl) B.tuple C6 (aa (iC S hc n (dY (kv S 1) rfl) (N:=["i","values"]) (W:=["i"]) (G:=[]) (fv:=[none,some 0]) (by decide +kernel) (fun T C R s H j=>⟨(kg j 0),bo,(bc (aI rfl) (kv j 1) (kv j 0) (fun _ _=>rfl))⟩)) ae)))),?_⟩
 walk_at "d";refine R9 (fun _=>true) (fun k=>b.getD (l.getD k 0) 0) o (by rw[ao];exact az (by omega)) ?_ ?_
 ·intro k H1 A U hk x v _;rw[ao] at hk;rw[aT];walk_at "d";exact dw (x.aL f) rfl (m _ (dH hk)) (v rfl _ (ah.refl _))
 ·intro g H1 L d a;rw[bH,ao] at a;have e:((List.range l.length).map fun k=>b.getD (l.getD k 0) 0)=pk b l:=by
   unfold pk
   apply ext_getElem
   ·simp
   ·intro i h1 u
    simp at h1 u
    simp[h1]
  rw[e] at a;exact⟨g,_,rfl,.inl ⟨aw.of a,fun t J=>q t _ (d.trans (ah.new J _)) ag⟩⟩
theorem qo:DS (aj hZ) ["counts","kind","people"] ["counts","kind","people"] ["sure","picked"]:=aO (by decide +kernel)
theorem HP (D:Def K mg "group_sure" hZ)(lj:Fn P w K mg base 1 "picked" ["values","people"] (oK K))(OY:Fn P w K mg base 3 "sure" ["counts"] (Fy K)):Fn P w K mg base 4 "group_sure" ["counts","kind","people"] (Bc K):=by
 refine D.gq qo (fun _ _ _ _ _ _ C A=>by obtain⟨_,_,_,rfl⟩:=i4 A;rfl) (fun v H Q E h=>?_) ?_
 ·obtain⟨c,p,i,g,rfl,_⟩:=h;rfl
 intro X S o e2 r u s hc y B j hu H v Q E h;subst o e2 r u s;obtain⟨c,p,i,g,rfl,a,n,f,d,q⟩:=h;refine⟨_,(af (cA (aQ aW (kv S 1) ba (au _)) (ai (aJ aq)) ax)
   (ai (aJ (bZ S 0 OY j (aa (bZ S 1 lj j (aa (kv S 0) (aa (kv S 2) ae))) ae))))),?_⟩
 walk_at "d";obtain⟨b,l⟩:=g;have e:decide (kd b="ring")=b:=tO b;simp only[rF,vD,e];unfold oJ at q
 cases b with
 | true=>
  walk_at "d";exact q _ (ah.refl _)
 | false=>
  walk_at "d";refine⟨c,p,i,l,rfl,a,n,d.lt,d.len,fun t H1 m x=>?_⟩;exact⟨t,_,rfl,aE.of x,LS f d,fun F z=>q _ (m.trans z)⟩
theorem uD:DS (aj ja) ["counts","groups"] ["counts","groups"] ["sum"]:=aO (by decide +kernel)
theorem KW (B:Bn mg)(D:Def K mg "made_sure" ja)(uT:Fn P w K mg base 4 "group_sure" ["counts","kind","people"] (Bc K)):Fn P w K mg base 5 "made_sure" ["counts","groups"] (tQ K):=by
 refine D.gq uD (fun _ _ _ _ _ _ r Z=>by obtain⟨_,_,rfl⟩:=fj Z;rfl) (fun O H Q E h=>?_) ?_
 ·obtain⟨c,g,f,r,L,rfl,_⟩:=h;rfl
 intro X S x e2 I M J hc j ab hr hu H O Q E h;subst x e2 I M J;obtain⟨c,g,f,r,L,rfl,e,z,U,l,u,m,q⟩:=h;refine⟨_,(ai (aJ (cV S 0 (dF hc rfl) B.sum boot_sum (aa (iC S hc j (dY (kv S 1) rfl) (N:=["kind","people","counts"]) (W:=["kind","people"]) (G:=["group_sure"]) (fv:=[none,none,some 0]) (by decide +kernel) (fun cl C fp s H a=>⟨(jU rfl (K:=X.K) (n:=2) rfl (aN (kg a 0) (aN (kg a 1) cC))),bo,(bZ a 0 uT hr (aa (kv a 2) (aa (kv a 0) (aa (kv a 1) ae))))⟩)) ae)))),?_⟩
 walk_at "d";refine Tq (oJ f) z U (az (by omega)) ?_ ?_
 ·intro i o p H1 A hi F v y;walk_at "d";exact⟨c,p,f,o,rfl,F.aL e,v,l,u o (hO hi),fun T Y=>y T Y⟩
 ·intro t H1 R d b;exact ox (aw.of b) (q H1 d)
theorem pC:DS (aj gk) ["web","laid","i","mask"] ["web","laid"] ["enumerate"]:=aO (by decide +kernel)
theorem pD (B:Bn mg)(D:Def K mg "first_ready" gk):Fn P w K mg base 1 "first_ready" ["web","laid"] (N0 K):=by
 refine D.gq pC (fun _ _ _ _ _ _ F A=>by obtain⟨_,_,rfl⟩:=fj A;rfl) (fun v H Q E h=>?_) ?_
 ·obtain⟨w,ws,laid,rfl,_⟩:=h;rfl
 intro X S p e2 s u t hc z l G hu H v Q E h;subst p e2 s u t;obtain⟨w,ws,laid,rfl,o,r,q⟩:=h;refine⟨_,(af (fC l hc (FC S 0 B.enumerate rfl (aa (kv S 0) ae)) (jU hc (K:=X.K) (n:=2) rfl (aN (kg S 2) (aN (kg S 3) cC))) (ai (cA (yu (NO (aQ aW (aS dU (aS xX (kv S 1) (kv S 2)) aq) aq (au _)) (Fh (aQ aW (aS vp (kv S 3) (kv S 1)) (kv S 1) (au _))))) (ai (aJ (kv S 2))) ax)))
   (ai (aJ lI))),?_⟩
 walk_at "d";refine Qv (LN H w ws laid) o ⟨ah.refl _,(fun j hj=>absurd hj (SZ j)),none,none,rfl⟩ (fun k σ C h=>h.1.aL o) ?_ ?_
 ·rintro k σ H1 m hk ⟨d,a,x,y,rfl⟩ c;rw[ao] at hk;rw[aT];walk_at "d";refine⟨by omega,?_⟩
  have e:=lM (ws:=ws) (laid:=laid) (i:=k);have next:ready ws laid k=false->LN H w ws laid (k+1) [some (.ref w),some (.int laid),some (.int k),some (.int (ws.getD k 0:Nat))] m:=fun hz=>by
   refine⟨d.trans c,fun j hj=>?_,_,_,rfl⟩
   by_cases g:j=k
   ·rw[g];exact hz
   ·exact a j (by omega)
  by_cases b:laid.testBit k=true
  ·rw[b];walk_at "d";exact next (by unfold ready;rw[b];rfl)
  ·have b:laid.testBit k=false:=by simpa using b
   rw[b];walk_at "d"
   by_cases f:ws.getD k 0||| laid=laid
   ·rw[if_pos f];refine(q m (d.trans c)).2 k (find_some a ?_ hk);unfold ready;rw[b,ea f];rfl
   ·rw[if_neg f];refine next ?_;unfold ready;rw[b,ek f];rfl
 ·rintro σ H1 ⟨d,a,x,y,rfl⟩;walk_at "d";rw[ao] at a;exact(q H1 d).1 (find_none a)
theorem wV:DS (aj jZ) ["web","order","laid","i"] ["web"] ["first_ready"]:=aO (by decide +kernel)
theorem wW (D:Def K mg "laid_out" jZ)(jP:Fn P w K mg base 1 "first_ready" ["web","laid"] (N0 K)):Fn P w K mg base 2 "laid_out" ["web"] (N1 K):=by
 refine D.gq wV (fun _ _ _ _ _ _ O o=>by obtain⟨_,rfl⟩:=fV o;rfl) (fun L H Q E h=>?_) ?_
 ·obtain⟨w,b,rfl,_⟩:=h;rfl
 intro X S B e2 G J I hc M u A hu H L Q E h;subst B e2 G J I;obtain⟨w,b,rfl,N,s,q⟩:=h;refine⟨_,(af (bp S 1 (eQ ae))
   (af (bp S 2 aq)
   (af (bp S 3 (bZ S 0 jP A (aa (kv S 0) (aa (kv S 2) ae))))
   (af (yw u (aQ oA (kv S 3) lI (au _)) (af (dm (ir qN nc nF bE rfl (kv S 1) (aa (kv S 3) ae)))
   (af (bp S 2 (aS vp (kv S 2) (aS cS aq (kv S 3))))
   (ai (bp S 3 (bZ S 0 jP A (aa (kv S 0) (aa (kv S 2) ae))))))))
   (ai (aJ (kv S 1))))))),?_⟩
 walk_at "d";refine⟨by decide,fun l o=>?_⟩
 have x:=ah.new o (.lst []);have v:∀ (laid:Nat) (H1:Hp) (R:V->Hp->Prop),ah H H1->(∀ g,ah H1 g->R (LO b laid) g)->N0 X.K [.ref w,.int laid] H1 R E0:=fun laid H1 R C z=>by
  refine⟨w,b,laid,rfl,C.aL N,s,fun g a=>⟨fun e=>?_,fun i e=>?_⟩⟩
  ·have:=z g a
   unfold LO at this;rw[e] at this;exact this
  ·have:=z g a
   unfold LO at this;rw[e] at this;exact this
 refine v 0 _ _ x fun H1 j=>?_;walk_at "d";refine A0 (QA H w l b) (b.length+1) ⟨[],0,rfl,x.trans j,j _ _ ag,Laid.nil b,rfl,by simp⟩ ?_
 rintro f σ g ⟨order,laid,rfl,a,d,t,c,p⟩;have y:=cE t.nd t.lt
 cases e:bQ b laid with
 | none=>
  have r:LO b laid=.bx:=by unfold LO;rw[e]
  rw[r];walk_at "d";refine q l g a o ?_;rw[<-c,vJ e];exact d
 | some i=>
  have r:LO b laid=.int i:=by unfold LO;rw[e]
  obtain⟨hi,_⟩:=ip e;rw[r];walk_at "d";refine A7 ?_;walk_at "d";refine⟨.inl ⟨rfl,_,aw.of d⟩,?_⟩;refine⟨l,_,.int i,rfl,rfl,d,by rw[b7,ao];exact az (by omega),?_⟩
  walk_at "d";refine⟨eB (by omega),?_⟩
  have m:=a.set o (.lst ((aA order).map V.int++[.int i]));refine v _ _ _ m fun T n=>?_;walk_at "d"
  match f,c,p with
  | 0,_,p=>exact absurd p (by omega)
  | f+1,c,p=>
   refine⟨f,Ux f,order++[i],_,rfl,m.trans n,?_,t.put e,?_,?_⟩
   ·rw[n _ _ ag,eK,hU];rfl
   ·rw[<-c,vI e]
   ·rw[fz];show b.length<f+(order.length+1);omega
theorem qp:DS (aj hV) ["web","i","people"] ["web","i","people"] []:=aO (by decide +kernel)
theorem qr (B:Bn mg)(D:Def K mg "first_seen" hV)(zZ:Fn P w K mg base 1 "sees" ["web","i","j"] (yI K)):Fn P w K mg base 2 "first_seen" ["web","i","people"] (QD K):=by
 refine D.gq qp (fun _ _ _ _ _ _ U p=>by obtain⟨_,_,_,rfl⟩:=i4 p;rfl) (fun J H Q E h=>?_) ?_
 ·obtain⟨w,l,d,left,i,rfl,_⟩:=h;rfl
 intro X S v e2 z I F hc o O L hu H J Q E h;subst v e2 z I F;obtain⟨w,l,d,left,i,rfl,M,p,hi,Z,⟨Y,n,j⟩,q⟩:=h;refine⟨_,(ai (aJ (bc (ak rfl) (iC S hc o (cw (kv S 2) rfl) (N:=["j","web","i"]) (W:=["j"]) (G:=["sees"]) (fv:=[none,some 0,some 1]) (by decide +kernel) (fun T C R s H f=>⟨(kg f 0),(fe (iu (bZ f 0 zZ L (aa (kv f 1) (aa (kv f 2) (aa (kv f 0) ae)))))),(kv f 0)⟩)) aq (fun _ _=>rfl)))),?_⟩
 walk_at "d";refine Sz (fun k=>fg d i (left.getD k 0)) (fun k=>((left.getD k 0:Nat):Int)) p (by rw[ao];exact az (by omega)) ?_ ?_
 ·intro k H1 A B' hk m y t;rw[ao] at hk;rw[aT];walk_at "d";refine⟨w,d,i,left.getD k 0,rfl,m.aL M,hi,?_⟩;walk_at "d"
  by_cases c:fg d i (left.getD k 0)=true
  ·rw[c];walk_at "d";exact y c _ (ah.refl _)
  ·have c:fg d i (left.getD k 0)=false:=by simpa using c
   rw[c];walk_at "d";exact t c _ (ah.refl _)
 ·intro u H1 hn m g;have b:0<((List.range (aA left).length).filter fun k=>fg d i (left.getD k 0)).length:=by
   obtain⟨k,hk,e⟩:=C2 n;refine length_pos_of_mem (a:=k) (qs.mpr ⟨ka.mpr (by rw[ao];exact hk),?_⟩)
   rw[b5,cc hk,e];exact j
  refine cW (k:=0) (aw.of g) rfl (by rw[b7];exact b) ?_
  have hm:((List.range (aA left).length).filter fun k=>fg d i (left.getD k 0))[0]∈(List.range (aA left).length).filter fun k=>fg d i (left.getD k 0):=p0 b;obtain⟨h1,x⟩:=qs.mp hm;rw[b5,eG,cc b];refine q H1 _ m ?_ x;have r:=Nat.lt_of_lt_of_eq (ka.mp h1) (ao left);rw[b5,cc r];exact p0 r
theorem qt:DS (aj hX) ["web","order","left","path","i"] ["web"] ["laid_out","range","len","first_seen","tuple"]:=aO (by decide +kernel)
theorem pE (B:Bn mg)(D:Def K mg "sight_ring" hX)(ko:Fn P w K mg base 2 "laid_out" ["web"] (N1 K))(uU:Fn P w K mg base 2 "first_seen" ["web","i","people"] (QD K)):Fn P w K mg base 3 "sight_ring" ["web"] (Hh K):=by
 refine D.gq qt (fun _ _ _ _ _ _ us hl=>by obtain⟨_,rfl⟩:=fV hl;rfl) (fun vs H Q E h=>?_) ?_
 ·obtain⟨w,d,rfl,_⟩:=h;rfl
 intro X S e1 e2 e3 e4 e5 hc J hxe hr hu H vs Q E h;subst e1 e2 e3 e4 e5;obtain⟨w,d,rfl,hw,hl8,bh,q⟩:=h;have hL8:=FN d;refine⟨_,(af (bp S 1 (bZ S 0 ko hr (aa (kv S 0) ae)))
   (af (Fi (i:=2) S hc J (jE S 1 B.range (aa (cV S 2 (ay rfl) B.len oD (aa (kv S 0) ae)) ae)) (N:=["i","order"]) (W:=["i"]) (G:=[]) (fv:=[none,some 1]) (by decide +kernel) (fun cl C fp s H S2=>⟨(kg S2 0),(fe (aQ (eE rfl) (kv S2 0) (kv S2 1) (by with_unfolding_all rfl))),(kv S2 0)⟩) (by rw[J];decide +kernel) (by rw[dX,J];rfl))
   (af (cA (aQ (iK hu rfl) (kv S 2) (eQ ae) (au _)) (ai (aJ lI)) ax)
   (af (bp S 3 (eQ ae))
   (af (bp S 4 (bc (ak rfl) (kv S 2) aq (fun _ _=>rfl)))
   (af (yw hxe (aQ (eE rfl) (kv S 4) (kv S 3) (by with_unfolding_all rfl)) (af (dm (ir qN nc nF bE rfl (kv S 3) (aa (kv S 4) ae)))
   (ai (bp S 4 (bZ S 3 uU hr (aa (kv S 0) (aa (kv S 4) (aa (kv S 2) ae))))))))
   (ai (aJ (fW S 4 (gY rfl) B.tuple C6 (aa (ou (cN rfl) (kv S 3) (bD (ir qN slot_list_index type_list_index (Co rfl) rfl (kv S 3) (aa (kv S 4) ae))) bC) ae)))))))))),?_⟩
 walk_at "d";refine⟨w,d,rfl,hw,hl8,fun l H1 O _ hl=>?_⟩;walk_at "d";refine aV (.inr (O.aL hw)) ?_;rw[b7,ao];refine Qm d.length (fun i=>!decide (i∈laidOut d)) (fun i=>(i:Int)) rfl (by omega) ?_ ?_
 ·intro k H2 A B' hk hS hA hB;walk_at "d";refine AZ (.inl (aw.of (hS _ _ hl))) ?_;walk_at "d"
  by_cases c:k∈laidOut d
  ·rw[ea c];walk_at "d";exact hB (by rw[ea c];rfl) _ (ah.refl _)
  ·rw[ek c];walk_at "d";exact hA (by rw[ek c];rfl) _ (ah.refl _)
 intro U H2 hn2 hS2 n;have n:H2 U=some (.lst ((aA (cT d)).map V.int)):=n;have p:=O.trans hS2;walk_at "d";refine⟨by decide,fun e he=>?_⟩
 have se:=ah.new he (.lst []);refine⟨_,_,.lst (aw.of (se _ _ n)) (dE.ints _),.lst (aw.of ag) .nil,fu _,by decide,?_⟩
 rw[show ([]:List PyData)=([]:List Int).map PyData.int from rfl,vH]
 walk_at "d";refine bU (fun c=>?_) (fun c=>?_)
 ·have:cT d=[]:=JS.mp c
  exact(q _ (p.trans se)).1 (vO.mp this)
 ·have hne:cT d≠[]:=fun z=>c (by rw[z];rfl)
  have hlt:(laidOut d).length<d.length:=q7 fun z=>hne (vO.mpr z);refine⟨by decide,fun L I=>?_⟩
  have sp:=se.trans (ah.new I (.lst []));have u:0<(cT d).length:=Do.mpr hne;refine cW (k:=0) (aw.of (sp _ _ n)) rfl (by rw[ao];exact u) ?_
  rw[aT];have h0:(cT d).getD 0 0∈cT d:=by
   rw[b5,cc u];exact p0 u
  walk_at "d";have hpa0:H L=none:=(p.trans se).free I;have v:∀ j∈cT d,j<d.length:=fun j hj=>(iS.mp hj).1;refine A0 (QF X.K H w l U L d) _ ⟨[],_,rfl,p.trans sp,aw.of (sp _ _ n),ag,Path.nil h0,rfl⟩ ?_;rintro m σ H3 ⟨a,i,rfl,Y,T,f,M,rfl⟩;have hplen:=cE M.nd fun j hj=>v j (M.sub j hj);walk_at "d";refine AZ (.inl (aw.of f)) ?_;walk_at "d"
  by_cases c2:i∈a
  ·rw[ea c2];walk_at "d";refine⟨.inl ⟨rfl,_,aw.of f⟩,L,aA a,i,rfl,rfl,aw.of f,nM.mpr c2,?_⟩;walk_at "d";refine JJ (a.idxOf i) (aw.of f) (by rw[AY]) fun b hb=>?_
   rw[vM];have sb:=ah.new hb (.lst ((aA (a.drop (a.idxOf i))).map V.int));refine⟨b,_,rfl,aw.of ag,fun t o ht hoc hod=>?_⟩;exact(q _ ((Y.trans sb).trans (ah.new ht _))).2 hlt t _ o ag hoc hod (M.ring bh v c2)
  ·rw[ek c2];walk_at "d";refine A7 ?_;have hi:=v i M.here;obtain⟨j,hj1,hj2,hj3⟩:=Cm bh hi (iS.mp M.here).2;walk_at "d";refine⟨.inl ⟨rfl,_,aw.of f⟩,?_⟩;refine⟨L,_,.int i,rfl,rfl,f,by rw[b7,ao];exact az (by omega),?_⟩
   have Z:=Y.set hpa0 (.lst ((aA a).map V.int++[.int i]));have r:aw X.K (upd H3 L (.lst ((aA a).map V.int++[.int i]))) U ((aA (cT d)).map V.int):=by
    have R:U≠L:=bI (se _ _ n) I
    rcases T with (z | ⟨o,z⟩) | z
    ·exact .inl (.inl (by rw[aH R];exact z))
    ·exact .inl (.inr ⟨o,by rw[aH R];exact z⟩)
    ·exact .inr z
   refine⟨w,U,d,cT d,i,rfl,Z.aL hw,r,hi,by omega,⟨j,iS.mpr ⟨hj1,hj3⟩,hj2⟩,fun H5 k y hk hks=>?_⟩
   walk_at "d";have x:=M.put c2 hk hks;have g:=cE x.nd fun j hj=>v j (x.sub j hj);rw[fz] at g;refine⟨d.length - (a++[i]).length,?_,a++[i],k,rfl,Z.trans y,y.seq r,?_,x,rfl⟩
   ·rw[fz];simp at g ⊢;omega
   ·rw[y _ _ ag,eK,hU];rfl
theorem pF:DS (aj gm) ["web","order"] ["web"] ["laid_out","len","tuple"]:=aO (by decide +kernel)
theorem pG (B:Bn mg)(D:Def K mg "sight_order" gm)(ko:Fn P w K mg base 2 "laid_out" ["web"] (N1 K)):Fn P w K mg base 3 "sight_order" ["web"] (QC K):=by
 refine D.gq pF (fun _ _ _ _ _ _ u b=>by obtain⟨_,rfl⟩:=fV b;rfl) (fun m H Q E h=>?_) ?_
 ·obtain⟨w,f,rfl,_⟩:=h;rfl
 intro X S o e2 g j i hc r s t hu H m Q E h;subst o e2 g j i;obtain⟨w,f,rfl,e,d,q⟩:=h;refine⟨_,(af (bp S 1 (bZ S 0 ko t (aa (kv S 0) ae)))
   (af (cA (aQ gG (cV S 1 (ay rfl) B.len oD (aa (kv S 1) ae)) (cV S 1 (ay rfl) B.len oD (aa (kv S 0) ae)) (au _)) (ai (aJ lI)) ax)
   (ai (aJ (fW S 2 (bu rfl) B.tuple C6 (aa (kv S 1) ae)))))),?_⟩
 walk_at "d";refine⟨w,f,rfl,e,d,fun l H1 a _ b=>?_⟩;walk_at "d";refine aV (.inl (aw.of b)) ?_;refine aV (.inr (a.aL e)) ?_;rw[b7,b7,ao,ao];walk_at "d";refine bU (fun c=>?_) (fun c=>?_)
 ·exact(q H1 a).1 (by omega)
 ·exact⟨l,_,rfl,.inl ⟨aw.of b,fun p n=>(q _ (a.trans (ah.new n _))).2 (by omega) p ag⟩⟩
theorem pH:DS (aj gr) ["web","people"] ["web","people"] ["tuple","enumerate"]:=aO (by decide +kernel)
theorem Dm (B:Bn mg)(D:Def K mg "sights_from" gr):Fn P w K mg base 1 "sights_from" ["web","people"] (Rt K):=by
 refine D.gq pH (fun _ _ _ _ _ _ Z M=>by obtain⟨_,_,rfl⟩:=fj M;rfl) (fun I H Q E h=>?_) ?_
 ·obtain⟨w,p,d,l,rfl,_⟩:=h;rfl
 intro X S u e2 y F z hc m O hr hu H I Q E h;subst u e2 y F z;obtain⟨w,p,d,l,rfl,L,r,h8,x,q⟩:=h;refine⟨_,(ai (aJ (fW S 0 (bu rfl) B.tuple C6 (aa (iC S hc m (FC S 1 B.enumerate rfl (aa (kv S 0) ae)) (N:=["i","mask","people"]) (W:=["i","mask"]) (G:=[]) (fv:=[none,none,some 1]) (by decide +kernel) (fun U C R s H f=>⟨(jU rfl (K:=X.K) (n:=2) rfl (aN (kg f 0) (aN (kg f 1) cC))),bo,(Sw (aQ (EW rfl) (kv f 0) (kv f 2) (by with_unfolding_all rfl)) (kv f 1) aq)⟩)) ae)))),?_⟩
 walk_at "d";refine QV (fun _=>true) (fun i=>(((jX d l).getD i 0:Nat):Int)) L (by rw[ao];exact az (by omega)) ?_ ?_
 ·intro i H1 A Y hi v g _;rw[ao] at hi;rw[aT];have e:=pf (l:=l) hi;walk_at "d";refine AZ (a:=l) (.inl (v.seq r)) ?_
  by_cases c:i∈l
  ·rw[if_pos c] at e;rw[ea c];walk_at "d";rw[<-e];exact g rfl _ (ah.refl _)
  ·rw[if_neg c] at e;rw[ek c];walk_at "d"
   have:=g rfl _ (ah.refl _)
   rw[e] at this;exact this
 ·intro j H1 T o b;rw[bH,ao] at b;have e:((List.range d.length).map fun i=>(((jX d l).getD i 0:Nat):Int))=aA (jX d l):=by
   unfold aA;rw[<-fK d l]
   conv=>rhs;rw[<-mO (jX d l),ls]
   rfl
  rw[e] at b;exact⟨j,_,rfl,.inl ⟨aw.of b,fun t J=>q t _ (o.trans (ah.new J _)) (aE.of ag)⟩⟩
theorem RM {n:Nat}(h:n<=8):2 ^ n<=256:=j5 (ri (by decide) h) (by decide)
variable {m:Nat}
theorem HQ {cs:List Int}{ws r:List Nat}(hn:ws.length=cs.length)(h:Ring (jX ws (zr cs (aG m))) r):GG cs ws m (true,r):=by
 have a:∀ x∈r,x<ws.length:=fun x hx=>by have:=h.lt x hx;rwa [fK] at this
 have sees:∀ k,k<r.length->fg (jX ws (zr cs (aG m))) (r.getD k 0) (r.getD ((k+1) % r.length) 0)=true:=fun k hk=>by
  by_cases c:k+1=r.length
  ·rw[c,mod_self]
   have:=h.last
   rw[show r.length - 1=k by omega] at this
   exact this
  ·rw[Uz (by omega)]
   exact h.next k (by omega)
 have two:∀ x∈r,x∈zr cs (aG m):=fun x hx=>by
  obtain⟨k,hk,e⟩:=C2 hx
  have:=sees k hk
  rw[b5,cc hk] at this;rw[show (some r[k]).getD 0=r[k] from rfl,e,nV (a x hx),gz,k0] at this
  exact this.1
 have b:=h.two;refine⟨⟨fun x hx=>by rw[<-hn];exact a x hx,h.nd,fun _=>⟨h.two,fun x hx=>?_,fun k hk=>?_⟩,(fun e=>nomatch e)⟩,fun z=>?_,(fun e=>nomatch e),fun x hx=>?_⟩
 ·have:=(qs.mp (two x hx)).2
  exact tx this
 ·have:=sees k hk
  rw[nV (a _ (iy hk)),gz] at this;exact this.2
 ·have z:r=[]:=z;rw[z] at b;simp at b
 ·exact cP.mp (qs.mp (two x hx)).1
theorem qu:DS (aj h7) ["counts","web","crowd","people","twos","ring"] ["counts","web","crowd"] ["tuple","places","is_circle","sight_ring","sights_from"]:=aO (by decide +kernel)
theorem qv (B:Bn mg)(D:Def K mg "lone_group" h7)(jo:Fn P w K mg base 1 "places" ["mask"] kN)(jq:Fn P w K mg base 1 "is_circle" ["web","people"] (N2 K))(ig:Fn P w K mg base 3 "sight_ring" ["web"] (Hh K))(qF:Fn P w K mg base 1 "sights_from" ["web","people"] (Rt K)):Fn P w K mg base 4 "lone_group" ["counts","web","crowd"] (Ru K):=by
 refine D.gq qu (fun _ _ _ _ _ _ us hl=>by obtain⟨_,_,_,rfl⟩:=i4 hl;rfl) (fun vs H Q E h=>?_) ?_
 ·obtain⟨c,w,n,O,m,rfl,_⟩:=h;rfl
 intro X S e1 e2 e3 e4 e5 hc F hxe Z hu H vs Q E h;subst e1 e2 e3 e4 e5;obtain⟨c,w,n,O,m,rfl,hcq,T,y,hn,bh,hm0,hm,q⟩:=h;have h8:=y.len;have hmb:m<256:=j6 hm (RM h8);have f:∀ x∈aG m,x<n.length:=fun x hx=>gN hm (cP.mp hx);have hl8:(aG m).length<=8:=j5 (cE (dC m) f) h8;refine⟨_,(af (bp S 3 (fW S 0 (gY rfl) B.tuple C6 (aa (bZ S 1 jo Z (aa (kv S 2) ae)) ae)))
   (af (cA (iu (bZ S 2 jq Z (aa (kv S 1) (aa (kv S 3) ae)))) (ai (aJ (rJ (aa (rJ (aa ba (aa (kv S 3) ae))) ae)))) ax)
   (af (Fi (i:=4) S hc F (dY (kv S 3) rfl) (N:=["i","counts"]) (W:=["i"]) (G:=[]) (fv:=[none,some 0]) (by decide +kernel) (fun cl C fp s H U=>⟨(kg U 0),(fe (aQ aW (bc (aI rfl) (kv U 1) (kv U 0) (fun _ _=>rfl)) aq (au _))),(kv U 0)⟩) (by rw[F];decide +kernel) (by rw[dX,F];rfl))
   (af (bp S 5 (bZ S 3 ig Z (aa (bZ S 4 qF Z (aa (kv S 1) (aa (kv S 4) ae))) ae)))
   (af (cA (aQ nL (kv S 5) lI (au _)) (ai (aJ (rJ ae))) ax)
   (ai (aJ (rJ (aa (rJ (aa ba (aa (kv S 5) ae))) ae))))))))),?_⟩
 walk_at "d";refine⟨m,rfl,by omega,fun l H1 s1 _ hl=>?_⟩
 refine⟨l,_,rfl,aw.of hl,fun p o hp hoc hod=>?_⟩;have s2:=s1.trans (ah.new hp (.iW o (.tup ((aA (aG m)).map V.int))));have d:upd H1 p (.iW o (.tup ((aA (aG m)).map V.int))) p=some (.iW o (.tup ((aA (aG m)).map V.int))):=ag;generalize upd H1 p (.iW o (.tup ((aA (aG m)).map V.int)))=H2 at s2 d ⊢;walk_at "d";refine⟨w,p,O,aG m,rfl,s2.aL T,aE.iW d,by omega,dC m,fun i hi=>by rw[hn];exact f i hi,fun H3 s3=>?_⟩
 have v:=s3 _ _ d;have u:=s2.trans s3;have hne:aG m≠[]:=fun z=>by
  have:=CQ m
  rw[z] at this
  have:0=m:=this
  omega
 cases cb:cp O (aG m) with
 | true=>
  walk_at "d";refine⟨by decide,fun z1 h1=>⟨by decide,fun z2 h2=>?_⟩⟩
  have I:=ah.new h1 (.tup [.str "circle",.ref p]);have L:=ah.new h2 (.tup [.ref z1]);have a:=I.trans L;refine q z2 [.ref z1] [(false,aG m)] _ (u.trans a) (aE.of ag) ⟨⟨z1,p,rfl,L.aL (aE.of ag),aE.iW (a _ _ v),.inr ⟨_,_,a _ _ v,hoc,hod⟩⟩,trivial⟩ ?_;have e:(([(false,aG m)]:List (Bool × List Nat)).map (jx n)).sum=iZ n (aG m):=by
   show jx n (false,aG m)+0=_;rw[pe,Int.add_zero]
  rw[e];refine⟨⟨fun g hg=>?_,List.pairwise_singleton _ _,e,gh y.pos f⟩,ed _,⟨fun _=>rfl,(fun z=>by rw[cb] at z;cases z),gh y.pos f⟩⟩
  rw[eR.mp hg];exact⟨⟨f,dC m,(fun e=>nomatch e),fun _=>zq cb⟩,hne,fun _=>mU m,fun x hx=>cP.mp hx⟩
 | false=>
  walk_at "d";refine R9 (fun j=>decide (n.getD ((aG m).getD j 0) 0=2)) (fun j=>(((aG m).getD j 0:Nat):Int)) (aE.iW v) (by rw[ao];exact az (by omega)) ?_ ?_
  ·intro j H4 A B' hj hS hA hB;rw[ao] at hj;rw[aT];walk_at "d";refine dw ((u.trans hS).aL hcq) rfl (f _ (dH hj)) ?_;walk_at "d"
   by_cases Y:n.getD ((aG m).getD j 0) 0=2
   ·rw[if_pos Y];exact hA (ea Y) _ (ah.refl _)
   ·rw[if_neg Y];exact hB (ek Y) _ (ah.refl _)
  intro J H4 _ s4 b;rw[GZ (aG m) (fun x=>decide (n.getD x 0=2))] at b;have b:H4 J=some (.lst ((aA (zr n (aG m))).map V.int)):=b;walk_at "d";refine⟨w,J,O,zr n (aG m),rfl,(u.trans s4).aL T,aw.of b,by omega,j5 (A5 _ _) hl8,fun t H5 s5 ht=>?_⟩
  refine⟨t,_,rfl,ht,by rw[fK];omega,Ky bh,fun H6 s6=>⟨fun nf=>?_,fun hlt2 p2 r o2 d M R hR=>?_⟩⟩
  ·walk_at "d";refine⟨by decide,fun z h1=>?_⟩
   have I:=ah.new h1 (.tup []);refine q z [] [] _ (u.trans (s4.trans (s5.trans (s6.trans I)))) (aE.of ag) trivial ⟨uh n O m,zero_le _,⟨(fun z=>by rw[cb] at z;cases z),fun _ nr=>absurd (vS nf) nr,Uw _⟩⟩
  ·walk_at "d";refine⟨by decide,fun z1 h1=>⟨by decide,fun z2 h2=>?_⟩⟩
   have I:=ah.new h1 (.tup [.str "ring",.ref p2]);have L:=ah.new h2 (.tup [.ref z1]);have a:=I.trans L;refine q z2 [.ref z1] [(true,r)] _ (u.trans (s4.trans (s5.trans (s6.trans a)))) (aE.of ag) ⟨⟨z1,p2,rfl,L.aL (aE.of ag),aE.iW (a _ _ d),.inr ⟨_,_,a _ _ d,M,R⟩⟩,trivial⟩ ?_;have e:(([(true,r)]:List (Bool × List Nat)).map (jx n)).sum=1:=rfl;rw[e];refine⟨⟨fun g hg=>?_,List.pairwise_singleton _ _,e,(by show (0:Int)<=1;omega)⟩,ed _,⟨(fun z=>by rw[cb] at z;cases z),fun _ _=>rfl,(by show (0:Int)<=1;omega)⟩⟩
   rw[eR.mp hg];exact HQ hn hR
def RN (K:Frag)(H0:Hp)(c w l:Addr)(cs:List Int)(ws:List Nat)(i:Nat)(σ:L2.St)(H:Hp):Prop:=∃ (us:List V) (fl:List mV) (y1 y2:Option V),σ=[some (.ref c),some (.ref w),some (.ref l),y1,y2]/\ah H0 H/\H l=some (.lst us)/\lY K H us fl/\fl.length=1+i/\∀ k,k<1+i->lZ cs ws k (fl.getD k (0,[]))
theorem nz:DS (aj fP) ["counts","web","choices","crowd","groups"] ["counts","web"] ["range","lone_group","len","made_sure"]:=aO (by decide +kernel)
theorem nA (B:Bn mg)(D:Def K mg "lone_choices" fP)(uV:Fn P w K mg base 4 "lone_group" ["counts","web","crowd"] (Ru K))(dP:Fn P w K mg base 5 "made_sure" ["counts","groups"] (tQ K)):Fn P w K mg base 6 "lone_choices" ["counts","web"] (Mo K):=by
 refine D.gq nz (fun _ _ _ _ _ _ G I=>by obtain⟨_,_,rfl⟩:=fj I;rfl) (fun vs H Q E h=>?_) ?_
 ·obtain⟨c,w,a,C,rfl,_⟩:=h;rfl
 intro X S e1 e2 e3 e4 e5 hc hsc Y hr hu H vs Q E h;subst e1 e2 e3 e4 e5;obtain⟨c,w,a,C,rfl,u,A,p,hn,bh,q⟩:=h;have h8:=p.len;have hpow:=RM h8;have hpos:0<2 ^ a.length:=P3 _;refine⟨_,(af (bp S 2 (eQ (aa (rJ (aa aq (aa (rJ ae) ae))) ae)))
   (af (fC Y hc (Qg S 0 B.range (aa aq (aa (aS cS aq (cV S 2 (ay rfl) B.len oD (aa (kv S 1) ae))) ae))) (kg S 3) (af (bp S 4 (bZ S 1 uV hr (aa (kv S 0) (aa (kv S 1) (aa (kv S 3) ae)))))
   (ai (dm (ir qN nc nF bE rfl (kv S 2) (aa (rJ (aa (bZ S 3 dP hr (aa (kv S 0) (aa (kv S 4) ae))) (aa (kv S 4) ae))) ae))))))
   (ai (aJ (kv S 2))))),?_⟩
 walk_at "d";refine⟨by decide,fun m h0=>⟨by decide,fun z1 h1=>⟨by decide,fun l I=>?_⟩⟩⟩
 have t0:=ah.new h0 (.tup []);have N:=ah.new h1 (.tup [.int 0,.ref m]);have R:=ah.new I (.lst [.ref z1]);have x:H l=none:=(t0.trans N).G9 I;have s1:=t0.trans (N.trans R);have y:upd (upd (upd H m (.tup [])) z1 (.tup [.int 0,.ref m])) l (.lst [.ref z1]) l=some (.lst [.ref z1]):=ag;have v:lY X.K (upd (upd (upd H m (.tup [])) z1 (.tup [.int 0,.ref m])) l (.lst [.ref z1])) [.ref z1] [(0,[])]:=⟨⟨z1,m,[],rfl,R.aL (aE.of ag),(N.trans R).aL (aE.of ag),trivial⟩,trivial⟩;generalize upd (upd (upd H m (.tup [])) z1 (.tup [.int 0,.ref m])) l (.lst [.ref z1])=H1 at s1 y v ⊢;refine aV (.inr (s1.aL A)) ?_;rw[b7,ao,hn];walk_at "d";refine⟨eB (by omega),?_⟩
 refine LZ (lo:=1) (n:=2 ^ a.length - 1) (RN X.K H c w l a C) rfl (by rw[show 1+(2 ^ a.length - 1)=2 ^ a.length by omega]) (by omega) ⟨_,_,_,_,rfl,s1,y,v,rfl,fun k hk=>?_⟩ ?_ ?_
 ·have:k=0:=by omega
  subst this;exact CS a C
 ·rintro k σ J hk ⟨G,fl,y1,y2,rfl,r,f,i,b,O⟩;walk_at "d";refine⟨c,w,a,C,1+k,rfl,r.aL u,r.aL A,p,hn,bh,by omega,by omega,fun g t L H2 s2 hg hG s=>?_⟩
  walk_at "d";have hlen8:=s.1.len;have hlL:L.length<=8:=by
   have:L.length<=a.length:=s.1.len
   omega
  refine⟨.inl ⟨rfl,_,aw.of (s2 _ _ f)⟩,?_⟩;refine⟨c,g,a,t,L,rfl,(r.trans s2).aL u,hg,hG.gl,p,fun g' o=>⟨(s.1.each g' o).ok.lt,j5 (cE (s.1.each g' o).ok.nd (s.1.each g' o).ok.lt) h8⟩,by omega,fun H3 Z=>?_⟩
  refine⟨by decide,fun z hz=>?_⟩
  have sz:=ah.new hz (.tup [.int ((L.map (jx a)).sum),.ref g]);have s4:=s2.trans (Z.trans sz);have U:aE X.K (upd H3 z (.tup [.int ((L.map (jx a)).sum),.ref g])) z [.int ((L.map (jx a)).sum),.ref g]:=aE.of ag;have M:=(Z.trans sz).aL hg;have W:=hG.mono (Z.trans sz);have d:=s4 _ _ f;have T:=i.mono s4;refine⟨l,_,_,rfl,rfl,d,az (by rw[i.length];omega),?_⟩
  refine⟨G++[.ref z],fl++[((L.map (jx a)).sum,L)],_,_,rfl,(r.trans s4).set x _,ag,(T.cK d).append ⟨⟨z,g,t,rfl,U.cK d,M.cK d,W.cK d⟩,trivial⟩,by rw[fz,b];rfl,fun j hj=>?_⟩
  by_cases e:j=1+k
  ·subst e;rw[b5,BN (by omega),b,Nat.sub_self]
   exact s
  ·rw[b5,FM (by omega),<-b5]
   exact O j (by omega)
 ·rintro σ J ⟨G,fl,y1,y2,rfl,r,f,i,b,O⟩;walk_at "d";exact q l G fl J r x f i (by omega) (fun k hk=>O k (by omega))
def RO (H0:Hp)(pl:Addr)(m:Nat)(k:Nat)(σ:L2.St)(H:Hp):Prop:=∃ (l:Addr) (ps:List Nat) (y:Option V),σ=[some (.int (m:Int)),some (.ref l),y]/\ah H0 H/\H0 l=none/\H l=some (.lst ((aA ps).map V.int))/\H pl=some (.lst ((aA (aG m)).map V.int))/\ps.length=2 ^ k/\∀ q,q∈ps↔(Sub q m/\∀ j,q.testBit j=true->j∈(aG m).take k)
theorem uE {q:Nat}:(Sub q m/\∀ j,q.testBit j=true->j∈(aG m).take 0)↔q∈[0]:=by
 rw[eR]
 constructor
 ·rintro⟨_,b⟩
  apply TF
  intro j;rw[Uu]
  cases e:q.testBit j with
  | false=>rfl
  | true=>have:=b j e;simp at this
 ·rintro rfl;exact⟨(fun j hj=>by rw[Uu] at hj;cases hj),(fun j hj=>by rw[Uu] at hj;cases hj)⟩
theorem wX:DS (aj j4) ["crowd","parts","i"] ["crowd"] ["places"]:=aO (by decide +kernel)
theorem wY (B:Bn mg)(D:Def K mg "parts_of" j4)(jo:Fn P w K mg base 1 "places" ["mask"] kN):Fn P w K mg base 2 "parts_of" ["crowd"] Rv:=by
 refine D.gq wX (fun _ _ _ _ _ _ us M=>by obtain⟨_,rfl⟩:=fV M;rfl) (fun vs H Q E h=>?_) ?_
 ·obtain⟨m,rfl,_⟩:=h;rfl
 intro X S e1 e2 e3 e4 e5 hc Y ab hr hu H vs Q E h;subst e1 e2 e3 e4 e5;obtain⟨m,rfl,hm,q⟩:=h;have z:∀ x∈aG m,x<8:=fun x hx=>gN (n:=8) hm (cP.mp hx);have T:(aG m).length<=8:=cE (dC m) z;refine⟨_,(af (bp S 1 (eQ (aa aq ae)))
   (af (fC ab hc (cw (bZ S 0 jo hr (aa (kv S 0) ae)) rfl) (kg S 2) (ai (bp S 1 (aS (cZ rfl) (kv S 1) (iC S hc Y (cw (kv S 1) rfl) (N:=["part","i"]) (W:=["part"]) (G:=[]) (fv:=[none,some 2]) (by decide +kernel) (fun cl C fp s H R=>⟨(kg R 0),bo,(aS aZ (kv R 0) (aS cS aq (kv R 1)))⟩))))))
   (ai (aJ (kv S 1))))),?_⟩
 walk_at "d";refine⟨by decide,fun l M=>?_⟩
 have sl:=ah.new M (.lst [.int 0]);refine⟨m,rfl,by omega,fun pl H2 r _ I=>?_⟩
 have O:=r _ _ (ag (H:=H) (a:=l) (o:=.lst [.int 0]));refine forL (RO H pl m) (aw.of I) ⟨l,[0],_,rfl,sl.trans r,M,O,I,rfl,fun q=>uE.symm⟩ (fun i σ J h=>by obtain⟨_,_,_,_,_,_,_,h,_⟩:=h;exact aw.of h) ?_ ?_
 ·rintro k σ J hk ⟨l,f,y,rfl,L,v,g,u,c,b⟩;rw[ao] at hk;rw[aT];have Z:=z _ (iy hk);have h2k:2 ^ k<=256:=j5 (ri (by decide) (show k<=8 by omega)) (by decide)
  have F:=zt hk rfl b;generalize (aG m).getD k 0=i at Z F ⊢;walk_at "d";refine Sz (fun _=>true) (fun t=>(((f.getD t 0+2 ^ i:Nat)):Int)) (aw.of g) (by rw[ao];exact az (by omega)) ?_ ?_
  ·intro t J2 A B' ht hS U _;rw[aT];walk_at "d";refine⟨eB (by omega),?_⟩
   rw[<-natCast_add];exact U rfl _ (ah.refl _)
  ·intro acc J2 ha0 r d;rw[bH,ao] at d;have e:((List.range f.length).map fun t=>(((f.getD t 0+2 ^ i:Nat)):Int))=aA (f.map fun x=>x+2 ^ i):=by
    unfold aA;rw[ls]
    conv=>rhs;rw[<-mO f,ls]
    rfl
   rw[e] at d;refine tq (aw.of (r _ _ g)) (aw.of d) (yD (by rw[ao,ao,b7];omega)) fun p hp=>?_
   have sp:=ah.new hp (.lst ((aA f++aA (f.map fun x=>x+2 ^ i)).map V.int));refine⟨p,f++f.map (fun x=>x+2 ^ i),_,rfl,L.trans (r.trans sp),(L.trans r).G9 hp,?_,(r.trans sp) _ _ u,by rw[fz,b7,c,Nat.pow_succ];omega,F⟩
   rw[eK];exact ag
 ·rintro σ J ⟨l,f,y,rfl,L,v,g,u,c,b⟩;rw[ao] at c b;walk_at "d";refine q l f J L v g (fun q=>?_) ?_
  ·rw[b q,FB (ed _)];exact⟨fun h=>h.1,fun h=>⟨h,fun j hj=>cP.mpr (h j hj)⟩⟩
  ·rw[c];exact j5 (ri (by decide) T) (by decide)
def RP (K:Frag)(H0:Hp)(lo be:Addr)(cs:List Int)(ws:List Nat)(ul ub:List V)(fl fb:List mV)(m i:Nat)(pp:Addr)(ps:List Nat)(k:Nat)(σ:L2.St)(H:Hp):Prop:=∃ (v:V) (x:mV) (y6 y7 y8:Option V),σ=[some (.ref lo),some (.ref be),some (.int (m:Int)),some (.int ((2 ^ i:Nat):Int)),some (.int ((m - 2 ^ i:Nat):Int)),some v,y6,y7,y8]/\ah H0 H/\aw K H pp ((aA ps).map V.int)/\Ch K H v x/\xP cs ws m x/\(fb.getD (m - 2 ^ i) (0,[])).1<=x.1/\∀ t,t<k->(fl.getD (2 ^ i+ps.getD t 0) (0,[])).1+(fb.getD ((m - 2 ^ i) - ps.getD t 0) (0,[])).1<=x.1
theorem KY (h:0<m):Builtin.bitAnd (m:Int) (-(m:Int))=((m - (m&&& (m - 1)):Nat):Int):=by
 have e:-(m:Int)=Builtin.bitNot ((m - 1:Nat):Int):=by unfold Builtin.bitNot;omega
 rw[e,tG]
theorem Dn {a:Nat}(h:Sub a m):Sub (m - a) m:=fun j hj=>by
 rw[jC h,gz] at hj;exact hj.1
def RQ (K:Frag)(H0:Hp)(lo be:Addr)(cs:List Int)(ws:List Nat)(fb:List mV)(m i:Nat)(σ:L2.St)(H:Hp):Prop:=∃ (v:V) (x:mV),σ=[some (.ref lo),some (.ref be),some (.int (m:Int)),some (.int ((2 ^ i:Nat):Int)),some (.int ((m - 2 ^ i:Nat):Int)),some v,none,none,none]/\H=H0/\Ch K H0 v x/\xP cs ws m x/\(fb.getD (m - 2 ^ i) (0,[])).1<=x.1
theorem pI:DS (aj gs) ["lone","best","crowd","first","others","found","part","group","rest"] ["lone","best","crowd"] ["parts_of"]:=aO (by decide +kernel)
theorem pJ (B:Bn mg)(D:Def K mg "best_choice" gs)(Aa:Fn P w K mg base 2 "parts_of" ["crowd"] Rv):Fn P w K mg base 3 "best_choice" ["lone","best","crowd"] (Rw K):=by
 refine D.gq pI (fun _ _ _ _ _ _ us hl=>by obtain⟨_,_,_,rfl⟩:=i4 hl;rfl) (fun vs H Q E h=>?_) ?_
 ·obtain⟨lo,be,cs,ws,ul,ub,o,f,m,rfl,_⟩:=h;rfl
 intro X S e1 e2 e3 e4 e5 hc hsc hxe hr hu H vs Q E h;subst e1 e2 e3 e4 e5;obtain⟨lo,be,cs,ws,ul,ub,o,f,m,rfl,F,p,cl,cb,T,hn,hfl,hfb,O,hm,hL,hB,q⟩:=h;have h8:=T.len;have hpow:2 ^ cs.length<=256:=j5 (ri (by decide) h8) (by decide)
 obtain⟨i,hi,U⟩:=Kw m O;have hile:=(g7 hi).le;have hip:0<2 ^ i:=P3 i;have g:Sub (m - 2 ^ i) m:=fun j hj=>by rw[cq hi,gz] at hj;exact hj.1
 refine⟨_,(af (bp S 3 (aS dU (kv S 2) (NM lA (kv S 2))))
   (af (bp S 4 (aS cJ (kv S 2) (kv S 3)))
   (af (bp S 5 (bc (ak rfl) (kv S 0) (kv S 2) (fun _ _=>rfl)))
   (af (cA (aQ qY (bc (aI rfl) (bc (ak rfl) (kv S 1) (kv S 4) (fun _ _=>rfl)) aq (fun _ _=>rfl)) (bc (aI rfl) (kv S 5) aq (fun _ _=>rfl)) (au _)) (ai (bp S 5 (bc (ak rfl) (kv S 1) (kv S 4) (fun _ _=>rfl)))) ax)
   (af (fC hxe hc (cw (bZ S 0 Aa hr (aa (kv S 4) ae)) rfl) (kg S 6) (af (bp S 7 (bc (ak rfl) (kv S 0) (aS aZ (kv S 3) (kv S 6)) (fun _ _=>rfl)))
   (af (bp S 8 (bc (ak rfl) (kv S 1) (aS cJ (kv S 4) (kv S 6)) (fun _ _=>rfl)))
   (ai (cA (aQ qY (aS aZ (bc (aI rfl) (kv S 7) aq (fun _ _=>rfl)) (bc (aI rfl) (kv S 8) aq (fun _ _=>rfl))) (bc (aI rfl) (kv S 5) aq (fun _ _=>rfl)) (au _)) (ai (bp S 5 (rJ (aa (aS aZ (bc (aI rfl) (kv S 7) aq (fun _ _=>rfl)) (bc (aI rfl) (kv S 8) aq (fun _ _=>rfl))) (aa (aS (iM rfl) (bc (aI rfl) (kv S 7) aq (fun _ _=>rfl)) (bc (aI rfl) (kv S 8) aq (fun _ _=>rfl))) ae))))) ax)))))
   (ai (aJ (kv S 5)))))))),?_⟩
 walk_at "h";rw[KY O,U];walk_at "h";rw[show ((m:Int) - ((2 ^ i:Nat):Int))=((m - 2 ^ i:Nat):Int) by omega]
 obtain⟨v0,ev0,c0⟩:=cl.get (i:=m) (by omega)
 obtain⟨v1,M,c1⟩:=cb.get (i:=m - 2 ^ i) (by omega)
 have hLm:=(hL m hm).1;have hB1:=(hB (m - 2 ^ i) (by omega)).1
 walk_at "h";refine aC F (jt ev0) ?_;walk_at "s";refine SN (RQ X.K H lo be cs ws f m i) (fun σ J h=>?_) (fun R hR=>?_)
 rotate_left
 ·walk_at "d";refine aC p (jt M) ?_;obtain⟨r1,g1,us1,rfl,h11,h12,h13⟩:=id c1;obtain⟨r0,g0,us0,rfl,h01,h02,h03⟩:=id c0;refine bj h11 rfl ?_;refine bj h01 rfl ?_;walk_at "d";refine bU (fun hlt=>?_) (fun hge=>?_)
  ·refine aC p (jt M) ?_;exact hR _ _ ⟨_,_,rfl,rfl,c1,hB1.mono g,Uw _⟩
  ·exact hR _ _ ⟨_,_,rfl,rfl,c0,hLm,by omega⟩
 obtain⟨v,x,rfl,eJ,C,N,hx⟩:=h;rw[eJ];clear eJ J;walk_at "h";refine⟨m - 2 ^ i,rfl,by omega,fun pp u J sJ _ ab W hp256=>?_⟩
 refine forL (RP X.K H lo be cs ws ul ub o f m i pp u) (aw.of ab) ⟨v,x,_,_,_,rfl,sJ,aw.of ab,C.mono sJ,N,hx,fun t L=>absurd L (SZ t)⟩ (fun i σ J h=>by obtain⟨_,_,_,_,_,_,_,h,_⟩:=h;exact h) ?_ ?_
 ·rintro k σ J2 hk ⟨v,x,y6,y7,y8,rfl,n,d,C,N,hx,cu⟩;rw[ao] at hk;rw[aT];have c:=(W _).mp (iy hk);generalize hq:u.getD k 0=a at c;have hle:=c.le;obtain⟨va,eva,ca⟩:=cl.get (i:=2 ^ i+a) (by omega)
  obtain⟨vb,evb,r⟩:=cb.get (i:=(m - 2 ^ i) - a) (by omega)
  have ga:=(hL (2 ^ i+a) (by omega)).1
  have gb:=(hB ((m - 2 ^ i) - a) (by omega)).1
  walk_at "d";refine aC (n.seq F) (v:=va) (by rw[show (((2 ^ i:Nat):Int)+(a:Int))=((2 ^ i+a:Nat):Int) by omega];exact jt eva) ?_
  refine aC (n.seq p) (v:=vb) (by rw[show (((m - 2 ^ i:Nat):Int) - (a:Int))=((m - 2 ^ i - a:Nat):Int) by omega];exact jt evb) ?_
  have ca:=ca.mono n;have r:=r.mono n;obtain⟨ra,g1,ua,rfl,A,ha2,G⟩:=id ca;obtain⟨rb,g2,I,rfl,s,hb2,av⟩:=id r;obtain⟨rv,gv,uv,rfl,hv1,hv2,hv3⟩:=id C;refine bj A rfl ?_;refine bj s rfl ?_;walk_at "d";refine bj hv1 rfl ?_;walk_at "d";have b:∀ y:Int,x.1<=y->(o.getD (2 ^ i+a) (0,[])).1+(f.getD ((m - 2 ^ i) - a) (0,[])).1<=y->∀ t,t<k+1->(o.getD (2 ^ i+u.getD t 0) (0,[])).1+(f.getD ((m - 2 ^ i) - u.getD t 0) (0,[])).1<=y:=fun y h1 h2 t L=>by
   by_cases e:t=k
   ·rw[e,hq];exact h2
   ·have:=cu t (by omega)
    omega
  refine bU (fun hlt=>?_) (fun hge=>?_)
  ·refine bj A rfl ?_;refine bj s rfl ?_;walk_at "d";refine bj A rfl ?_;refine bj s rfl ?_;have la:=ga.len;have lb:=gb.len;refine⟨g1,g2,ua,I,rfl,rfl,ha2,hb2,bN (by rw[G.length,av.length];omega),fun g3 J3 s3 hg3=>?_⟩
   refine⟨by decide,fun z hz=>?_⟩
   have sz:=ah.new hz (.tup [.int ((o.getD (2 ^ i+a) (0,[])).1+(f.getD ((m - 2 ^ i) - a) (0,[])).1),.ref g3]);have s4:=s3.trans sz;have Z:Sub (2 ^ i+a) m:=((Kx (l:=[]) hi c ⟨(fun _ h=>nomatch h),.nil⟩).1 _ fO);have dis:Ha (2 ^ i+a) (m - 2 ^ i - a):=fun j hj=>by
    rw[jC c,cq hi];rw[ug (fun j' Y=>?_)] at hj
    ·rw[Pi,KB,k0] at hj
     rcases hj with hj | hj
     ·rw[hj];simp
     ·rw[hj];simp
    ·rw[KB,k0] at Y
     cases e:a.testBit j' with
     | false=>rfl
     | true=>have:=c j' e;rw[cq hi,Y] at this;simp at this
   refine⟨.ref z,((o.getD (2 ^ i+a) (0,[])).1+(f.getD ((m - 2 ^ i) - a) (0,[])).1,(o.getD (2 ^ i+a) (0,[])).2++(f.getD ((m - 2 ^ i) - a) (0,[])).2),_,_,_,rfl,n.trans s4,s4.seq d,⟨z,g3,ua++I,rfl,aE.of ag,sz.aL hg3,(G.mono s4).append (av.mono s4)⟩,ga.add gb dis Z ((Dn c).trans g),?_,?_⟩
   ·show (f.getD (m - 2 ^ i) (0,[])).1<=(o.getD (2 ^ i+a) (0,[])).1+(f.getD ((m - 2 ^ i) - a) (0,[])).1
    omega
   ·exact b _ (by omega) (Uw _)
  ·exact⟨_,x,_,_,_,rfl,n,d,C,N,hx,b x.1 (Uw _) (by omega)⟩
 ·rintro σ J2 ⟨v,x,y6,y7,y8,rfl,n,d,C,N,hx,cu⟩;rw[ao] at cu;walk_at "s";walk_at "d";refine q v x J2 n C (CU T.pos hn hm hi hL hB N hx fun a hp=>?_);obtain⟨t,L,e⟩:=C2 ((W a).mpr hp)
  have:=cu t L
  rw[b5 (l:=u),cc L,show (some u[t]).getD 0=u[t] from rfl,e] at this
  exact this
def RR (K:Frag)(H0:Hp)(c w lo l:Addr)(cs:List Int)(ws:List Nat)(i:Nat)(σ:L2.St)(H:Hp):Prop:=∃ (us:List V) (fb:List mV) (y1:Option V),σ=[some (.ref c),some (.ref w),some (.ref lo),some (.ref l),y1]/\ah H0 H/\H l=some (.lst us)/\lY K H us fb/\fb.length=1+i/\∀ k,k<1+i->fi cs ws k (fb.getD k (0,[]))
theorem pK:DS (aj gu) ["counts","web","lone","best","crowd"] ["counts","web"] ["lone_choices","range","len","best_choice"]:=aO (by decide +kernel)
theorem pL (B:Bn mg)(D:Def K mg "best_groups" gu)(pT:Fn P w K mg base 6 "lone_choices" ["counts","web"] (Mo K))(qG:Fn P w K mg base 3 "best_choice" ["lone","best","crowd"] (Rw K)):Fn P w K mg base 7 "best_groups" ["counts","web"] (OH K):=by
 refine D.gq pK (fun _ _ _ _ _ _ m N=>by obtain⟨_,_,rfl⟩:=fj N;rfl) (fun vs H Q E h=>?_) ?_
 ·obtain⟨c,w,f,A,rfl,_⟩:=h;rfl
 intro X S e1 e2 e3 e4 e5 hc hsc U hr hu H vs Q E h;subst e1 e2 e3 e4 e5;obtain⟨c,w,f,A,rfl,Y,hwq,s,hn,bh,q⟩:=h;have h8:=s.len;have hpow:2 ^ f.length<=256:=j5 (ri (by decide) h8) (by decide)
 have hpos:0<2 ^ f.length:=P3 _;refine⟨_,(af (bp S 2 (bZ S 0 pT hr (aa (kv S 0) (aa (kv S 1) ae))))
   (af (bp S 3 (eQ (aa (rJ (aa aq (aa (rJ ae) ae))) ae)))
   (af (fC U hc (Qg S 1 B.range (aa aq (aa (cV S 2 (ay rfl) B.len oD (aa (kv S 2) ae)) ae))) (kg S 4) (ai (dm (ir qN nc nF bE rfl (kv S 3) (aa (bZ S 3 qG hr (aa (kv S 2) (aa (kv S 3) (aa (kv S 4) ae)))) ae)))))
   (ai (aJ (bc (aI rfl) (bc (ak rfl) (kv S 3) (NM lA aq) (fun _ _=>rfl)) aq (fun _ _=>rfl))))))),?_⟩
 walk_at "d";refine⟨c,w,f,A,rfl,Y,hwq,s,hn,bh,fun lo ul fl H1 s1 hlo0 y cl u hL=>?_⟩;walk_at "d";refine⟨by decide,fun o h0=>⟨by decide,fun z1 h1=>⟨by decide,fun l N=>?_⟩⟩⟩
 have t0:=ah.new h0 (.tup []);have O:=ah.new h1 (.tup [.int 0,.ref o]);have T:=ah.new N (.lst [.ref z1]);have hl0:H1 l=none:=(t0.trans O).G9 N;have s2:=t0.trans (O.trans T);have G:upd (upd (upd H1 o (.tup [])) z1 (.tup [.int 0,.ref o])) l (.lst [.ref z1]) l=some (.lst [.ref z1]):=ag;have C:lY X.K (upd (upd (upd H1 o (.tup [])) z1 (.tup [.int 0,.ref o])) l (.lst [.ref z1])) [.ref z1] [(0,[])]:=⟨⟨z1,o,[],rfl,T.aL (aE.of ag),(O.trans T).aL (aE.of ag),trivial⟩,trivial⟩;generalize upd (upd (upd H1 o (.tup [])) z1 (.tup [.int 0,.ref o])) l (.lst [.ref z1])=H2 at s2 G C ⊢;refine aV (.inl (aw.of (s2 _ _ y))) ?_;rw[cl.length,u];walk_at "d";refine LZ (lo:=1) (n:=2 ^ f.length - 1) (RR X.K H1 c w lo l f A) rfl (by omega) (by omega) ⟨_,_,_,rfl,s2,G,C,rfl,fun k hk=>?_⟩ ?_ ?_
 ·have:k=0:=by omega
  subst this;exact CT f A
 ·rintro k σ J hk ⟨m,fb,y1,rfl,t,d,b,a,L⟩;walk_at "d";refine⟨.inl ⟨rfl,_,aw.of d⟩,?_⟩;refine⟨lo,l,f,A,ul,m,fl,fb,1+k,rfl,aw.of (t _ _ y),aw.of d,cl.mono t,b,s,hn,u,a,by omega,by omega,hL,L,fun v x H3 Z cv hx=>?_⟩
  have p:=Z _ _ d;refine⟨l,_,_,rfl,rfl,p,az (by rw[b.length];omega),?_⟩
  refine⟨m++[v],fb++[x],_,rfl,(t.trans Z).set hl0 _,ag,((b.mono Z).cK p).append ⟨cv.cK p,trivial⟩,by rw[fz,a];rfl,fun j hj=>?_⟩
  by_cases e:j=1+k
  ·subst e;rw[b5,BN (by omega),a,Nat.sub_self]
   exact hx
  ·rw[b5,FM (by omega),<-b5]
   exact L j (by omega)
 ·rintro σ J ⟨m,fb,y1,rfl,t,d,b,a,L⟩;walk_at "d";obtain⟨v,ev,cv⟩:=b.get (i:=2 ^ f.length - 1) (by omega)
  have hb:=L (2 ^ f.length - 1) (by omega)
  have I:=b.length;refine aC (aw.of d) (v:=v) ?_ ?_
  ·have hne:m=m.dropLast++[v]:=by
    have h1:m≠[]:=fun z=>by rw[z] at I;simp at I;omega
    have M:=List.dropLast_concat_getLast h1;have W:m.getLast h1=v:=by
     rw[List.getLast_eq_getElem];rw[show 2 ^ f.length - 1=m.length - 1 by omega,cc (by omega)] at ev
     exact tz ev
    rw[W] at M;exact M.symm
   rw[hne];exact En _ _
  obtain⟨r,g,R,rfl,h1,M,W⟩:=cv;refine bj h1 rfl ?_;refine q g R _ J (s1.trans t) M W ?_;have e:=hb.1.sum;rw[e];exact hb
theorem all_map {α:Type}(l:List α)(p:α->Bool):(l.map p).all id=l.all p:=by rw[Tv];rfl
theorem any_map {α:Type}(l:List α)(p:α->Bool):(l.map p).any id=l.any p:=by rw[List.any_map];rfl
theorem range_getD {α:Type}(l:List Int)(f:Int->α):(List.range l.length).map (fun k=>f (l.getD k 0))=l.map f:=by
 apply ext_getElem
 ·simp
 ·intro i h1 a
  simp at h1 a
  simp[h1]
theorem SW {a:Addr}{ns:List Int}{te:TE}{rest:L2.St}{Q:VK}{H1:Hp}(f:Int->Bool)(h:aE K H1 a (ns.map V.int))(hn:ns.length<=1000)
  (step:∀ (i:Int) H (A:V->Hp->Prop),i∈ns->ah H1 H->(∀ H',ah H H'->A (.bl (f i)) H')->te (some (.int i)::rest) H A)
  (fin:∀ acc H,H1 acc=none->ah H1 H->H acc=some (.lst ((ns.map f).map V.bl))->Q (.ref acc) H) :
  ∃ b,V.ref a=.ref b/\(∃ xs,aE K H1 b xs)/\sW (bB 0) il te (none::rest) Q (BS K b) H1:=by
 refine⟨a,rfl,⟨_,h⟩,p5 (gH h) (fun _=>true) (fun i=>.bl (f (ns.getD i 0))) (by rw[b7];exact az hn) ?_ ?_⟩
 ·intro i H A j hi d g _;rw[b7] at hi;rw[getD_ints hi];simp only[gR,yA,kM];exact step _ H A (L2.getD_mem hi) d fun H' e=>g rfl _ e
 ·intro acc H hn d c;rw[bH,b7] at c;refine fin acc H hn d ?_;rw[c,<-range_getD ns f,ls];rfl
theorem HR:DS (aj uw) ["people"] ["people"] ["all","zip"]:=aO (by decide +kernel)
theorem HS (B:Bn mg)(D:Def K mg "rises" uw):Fn P w K mg base 1 "rises" ["people"] (Bd K):=by
 refine D.gq HR (fun _ _ _ _ _ _ O F=>by obtain⟨_,rfl⟩:=fV F;rfl) (fun y H Q E h=>?_) ?_
 ·obtain⟨p,l,rfl,_⟩:=h;rfl
 intro X S r e2 u x v hc g J R hu H y Q E h;subst r e2 u x v;obtain⟨p,l,rfl,i,h1,m,q⟩:=h;refine⟨_,(ai (aJ (cV S 0 (cQ hc rfl) B.all boot_all (aa (iC S hc g (RD false S 1 B.zip rfl (aa (kv S 0) (aa (ou (jv rfl) (kv S 0) (bD aq) bC) ae))) (N:=["i","j"]) (W:=["i","j"]) (G:=[]) (fv:=[none,none]) (by decide +kernel) (fun M C L s H d=>⟨(jU rfl (K:=X.K) (n:=2) rfl (aN (kg d 0) (aN (kg d 1) cC))),bo,(fB gG (kv d 0) (kv d 1) (au _))⟩)) ae)))),?_⟩
 walk_at "d";refine tp 0 i rfl (by rw[ao];omega) fun a I=>?_
 have j:=ah.new I (.tup (((aA l).drop (0+1)).map V.int));refine OI (ns:=aA l) (ms:=(aA l).drop (0+1)) _ (fun k=>.bl (decide (l.getD k 0<l.getD (k+1) 0))) (j.aL i) (aE.of ag) (by rw[vr,ao];omega) (ed _) (.inr (ed _)) (by rw[vr,ao];exact az (by omega)) ?_ ?_
 ·intro k o A hk c t;rw[vr,ao] at hk;rw[aT,show ((aA l).drop (0+1)).getD k 0=((l.getD (k+1) 0:Nat):Int) by rw[<-aT,b5,getElem?_drop,b5];congr 2;omega]
  walk_at "d";have e:decide (((l.getD k 0:Nat):Int)<((l.getD (k+1) 0:Nat):Int))=decide (l.getD k 0<l.getD (k+1) 0):=by
   rw[decide_eq_decide];omega
  rw[e];exact t _ (ah.refl _)
 ·intro f o z c b;rw[vr,ao] at b;refine⟨f,(List.range (l.length - (0+1))).map fun k=>decide (l.getD k 0<l.getD (k+1) 0),rfl,aw.of (by rw[b,ls];rfl),?_⟩
  rw[all_map];exact q _ (j.trans c)
theorem wZ:DS (aj j3) ["counts","web","kind","people"] ["counts","web","kind","people"] ["len","all","rises","is_circle","is_ring"]:=aO (by decide +kernel)
theorem ON (B:Bn mg)(D:Def K mg "is_group" j3)(La:Fn P w K mg base 1 "rises" ["people"] (Bd K))(jq:Fn P w K mg base 1 "is_circle" ["web","people"] (N2 K))(mB:Fn P w K mg base 2 "is_ring" ["web","people"] (N3 K)):Fn P w K mg base 3 "is_group" ["counts","web","kind","people"] (LY K):=by
 refine D.gq wZ (fun _ _ _ _ _ _ us hl=>by obtain⟨_,_,_,_,rfl⟩:=CV hl;rfl) (fun vs H Q E h=>?_) ?_
 ·obtain⟨c,w,p,d,t,g,rfl,_⟩:=h;rfl
 intro X S e1 e2 e3 e4 e5 hc M hxe Z hu H vs Q E h;subst e1 e2 e3 e4 e5;obtain⟨c,w,p,d,t,⟨b,a⟩,rfl,I,hw,o,L,h8,y,q⟩:=h;have o:aE X.K H p (a.map V.int):=o;have y:a.length<=90:=y;refine⟨_,(af (cA (yu (yt (aQ gG (cV S 0 (ay rfl) B.len oD (aa (kv S 3) ae)) aq (au _)) (nq (iN (iu (cV S 1 (cQ hc rfl) B.all boot_all (aa (iC S hc M (dY (kv S 3) rfl) (N:=["i","counts"]) (W:=["i"]) (G:=["len"]) (fv:=[none,some 0]) (by decide +kernel) (fun cl C fp s H r=>⟨(kg r 0),bo,(Fg og gG aq (kv r 0) (cV r 0 (ay rfl) B.len oD (aa (kv r 1) ae)))⟩)) ae))))))) (ai (aJ vF)) ax)
   (af (cA (aQ aW (kv S 2) ba (au _)) (ai (aJ (kK (bZ S 2 La Z (aa (kv S 3) ae)) (lJ (bZ S 3 jq Z (aa (kv S 1) (aa (kv S 3) ae))))))) ax)
   (ai (aJ (kK (fB aW (kv S 2) ba (au _)) (kK (bZ S 4 mB Z (aa (kv S 1) (aa (kv S 3) ae))) (lJ (cV S 1 (cQ hc rfl) B.all boot_all (aa (iC S hc M (dY (kv S 3) rfl) (N:=["i","counts"]) (W:=["i"]) (G:=[]) (fv:=[none,some 0]) (by decide +kernel) (fun cl C fp s H r=>⟨(kg r 0),bo,(fB aW (bc (aI rfl) (kv r 1) (kv r 0) (fun _ _=>rfl)) aq (au _))⟩)) ae))))))))),?_⟩
 walk_at "d";refine aV (.inr o) ?_;rw[b7];walk_at "d";refine bU (fun c1=>?_) (fun c1=>?_)
 ·have e:DU d t (b,a)=false:=by unfold DU;rw[ek (show ¬ 1<=a.length by omega),sr]
  rw[e] at q;exact q _ (ah.refl _)
 refine SW (fun i=>decide (0<=i)&&decide (i<(d.length:Int))) o (by omega) ?_ ?_
 ·intro i H1 A hi T z;walk_at "d"
  by_cases O:0<=i
  ·rw[if_pos O];refine aV (.inr (T.aL I)) ?_;rw[b7];walk_at "d";rw[ea O,qE] at z;exact z _ (ah.refl _)
  ·rw[if_neg O];rw[ek O,sr] at z;exact z _ (ah.refl _)
 intro R H1 hn1 m F;refine⟨R,_,rfl,aw.of F,?_⟩;rw[all_map,show (a.all fun i=>decide (0<=i)&&decide (i<(d.length:Int)))=Iu d.length a from rfl]
 walk_at "d"
 by_cases f:Iu d.length a=true
 ·rw[f];obtain⟨en,u⟩:=J5 f;have hnl:(nats a).length=a.length:=by unfold nats;rw[b7]
  have U:DU d t (b,a)=CC d t b (nats a):=by
   unfold DU;rw[ea (show 1<=a.length by omega),qE]
   show (Iu d.length a&&_)=_;rw[f,qE]
  rw[U] at q;generalize nats a=l at *;subst en;rw[ao] at c1 y;have e:decide (kd b="ring")=b:=tO b;have e2:decide (kd b="circle")=!b:=by cases b<;>decide
  walk_at "d"
  (try simp only[rF,vD])
  (try simp only[e,e2])
  (try simp only[show (kd b=Str.ofString "circle")=(b=false) from propext ⟨fun h=>by cases b<;>first | rfl | exact absurd h (by decide),fun h=>by rw[h];rfl⟩,show (kd b=Str.ofString "ring")=(b=true) from propext ⟨fun h=>by cases b<;>first | rfl | exact absurd h (by decide),fun h=>by rw[h];rfl⟩])
  cases b with
  | false=>
   (try simp only[Bool.not_false,if_true])
   refine⟨p,l,rfl,m.aL o,by omega,by omega,fun H2 n=>?_⟩
   unfold CC at q;simp only[Bool.false_eq_true,if_false] at q;walk_at "d"
   cases j:oM l with
   | true=>
    rw[j,qE] at q;walk_at "d";exact⟨w,p,t,l,rfl,(m.trans n).aL hw,(m.trans n).aL o,by omega,vX j,fun x hx=>by rw[L];exact u x hx,fun H3 Y=>q _ ((m.trans n).trans Y)⟩
   | false=>
    rw[j,sr] at q;walk_at "d";exact q _ (m.trans n)
  | true=>
   (try simp only[Bool.not_true,Bool.true_eq_false,Bool.false_eq_true,if_false,if_true])
   unfold CC at q;simp only[if_true] at q;walk_at "d"
   try simp only[rF,vD,e,if_true]
   refine⟨w,p,t,l,rfl,m.aL hw,m.aL o,by omega,by omega,fun x hx=>by rw[L];exact u x hx,fun H2 n=>?_⟩
   walk_at "d"
   cases j:gJ t l with
   | true=>
    rw[j,qE] at q;walk_at "d";refine SW (fun i=>decide (d.getD i.toNat 0=2)) ((m.trans n).aL o) (by rw[ao];omega) ?_ ?_
    ·intro i H3 A hi T z;obtain⟨x,hx,rfl⟩:=kc.mp hi;walk_at "d";refine dw (((m.trans n).trans T).aL I) rfl (u x hx) ?_;walk_at "d";exact z _ (ah.refl _)
    ·intro J H3 hn3 Y v;refine⟨J,_,rfl,aw.of v,?_⟩;rw[all_map,show ((aA l).all fun i=>decide (d.getD i.toNat 0=2))=l.all (fun x=>decide (d.getD x 0=2)) by unfold aA;rw[Tv];rfl]
     exact q _ ((m.trans n).trans Y)
   | false=>
    rw[j,sr] at q;walk_at "d";exact q _ (m.trans n)
 ·have f:Iu d.length a=false:=by simpa using f
  have U:DU d t (b,a)=false:=by
   unfold DU;show (_&&(Iu d.length a&&_))=false;rw[f,sr,Uq]
  rw[f];rw[U] at q;walk_at "d";exact q _ m
theorem pM:DS (aj gn) ["counts","web","groups","taken","place","group","people","i"] ["counts","web","groups"] ["enumerate","any","is_group"]:=aO (by decide +kernel)
def RS (K:Frag)(H0:Hp)(c w g:Addr)(cs:List Int)(ws:List Nat)(L:List (Bool × List Int))(k:Nat)(σ:L2.St)(H:Hp):Prop:=∃ (d:Addr) (gone:List Int) (y1 y2 y3 y4:Option V),σ=[some (.ref c),some (.ref w),some (.ref g),some (.ref d),y1,y2,y3,y4]/\ah H0 H/\H0 d=none/\FY H d gone/\gone.length<=30*k/\CD cs ws [] 0 L=CD cs ws gone k (L.drop k)
def OO (H0:Hp)(c w g d p:Addr)(k:Nat)(y2:V)(gone ns:List Int)(j:Nat)(σ:L2.St)(H:Hp):Prop:=∃ (y4:Option V),σ=[some (.ref c),some (.ref w),some (.ref g),some (.ref d),some (.int (k:Int)),some y2,some (.ref p),y4]/\ah H0 H/\FY H d (gone++ns.take j)
theorem Dp (B:Bn mg)(D:Def K mg "group_fault" gn)(Ab:Fn P w K mg base 3 "is_group" ["counts","web","kind","people"] (LY K)):Fn P w K mg base 4 "group_fault" ["counts","web","groups"] (oO K):=by
 refine D.gq pM (fun _ _ _ _ _ _ us hl=>by obtain⟨_,_,_,rfl⟩:=i4 hl;rfl) (fun vs H Q E h=>?_) ?_
 ·obtain⟨c,w,g,O,M,us,L,rfl,_⟩:=h;rfl
 intro X S e1 e2 e3 e4 e5 hc hsc z hr hu H vs Q E h;subst e1 e2 e3 e4 e5;obtain⟨c,w,g,O,M,us,L,rfl,hcq,hw,hg,hL,hwl,h8,h90,hL90,q⟩:=h;refine⟨_,(af (bp S 3 LV)
   (af (fC z hc (FC S 0 B.enumerate rfl (aa (kv S 2) ae)) (jU hc (K:=X.K) (n:=2) rfl (aN (kg S 4) (aN (kg S 5) cC))) (af (bp S 6 (bc (aI rfl) (kv S 5) aq (fun _ _=>rfl)))
   (af (cA (yu (yt (iN (iu (bZ S 2 Ab hr (aa (kv S 0) (aa (kv S 1) (aa (bc (aI rfl) (kv S 5) aq (fun _ _=>rfl)) (aa (kv S 6) ae))))))) (nq (iu (cV S 1 (CA hc rfl) B.any boot_any (aa (iC S hc hsc (dY (kv S 6) rfl) (N:=["i","taken"]) (W:=["i"]) (G:=[]) (fv:=[none,some 3]) (by decide +kernel) (fun cl C fp s H Z=>⟨(kg Z 0),bo,(Q0 (u1 hu) (kv Z 0) (kv Z 1) (by with_unfolding_all rfl))⟩)) ae)))))) (ai (aJ (kv S 4))) ax)
   (ai (fC z hc (dY (kv S 6) rfl) (kg S 7) (ai (LW (u1 hu) vF (kv S 3) (kv S 7))))))))
   (ai (aJ lI)))),?_⟩
 walk_at "d";intro d hd;have sd:=ah.new hd (.dK []);refine Q1 (RS X.K H c w g O M L) (sd.aL hg) ⟨d,[],_,_,_,_,rfl,sd,hd,FY.nil ag,zero_le _,rfl⟩ (fun k σ H' h=>by obtain⟨d,gone,y1,y2,y3,y,_,s,_⟩:=h;exact s.aL hg) ?_ ?_
 ·rintro k v σ H1 H2 hv ⟨d,gone,y1,y2,y3,y,rfl,hS,l,hD,T,a⟩ s2;have b:=hS.trans s2;obtain⟨t,r,p,u,rfl,hr0,m⟩:=hL.get hv;have I:=b.aL hr0;have hp:=b.aL m;have Y:k<L.length:=by have:=nt.mp u;exact this.1
  have hdr:L.drop k=t::L.drop (k+1):=by
   rw[List.drop_eq_getElem_cons Y]
   congr 1
   have:=nt.mp u
   exact this.2
  rw[hdr,CD] at a;have g90:=h90 t (hO u);walk_at "d";refine bj (i:=1) I rfl ?_;refine bj (i:=0) I rfl ?_;refine⟨c,w,p,O,M,t,rfl,b.aL hcq,b.aL hw,hp,hwl,h8,by omega,fun H3 F=>?_⟩
  walk_at "d"
  cases hG:DU O M t with
  | false=>
   rw[hG,sr,if_neg (by decide)] at a
   walk_at "d"
   have:=q _ (b.trans F)
   rw[a] at this;exact this
  | true=>
   rw[hG,qE] at a;walk_at "d";have hS3:=b.trans F;refine SW (fun i=>decide (i∈gone)) (F.aL hp) (by omega) ?_ ?_
   ·intro i H4 A hi e J;walk_at "d";exact Oc ((hD.same s2).same (F.trans e)) (J _ (ah.refl _))
   intro U H4 hn4 s4 x;refine⟨U,_,rfl,aw.of x,?_⟩;rw[any_map];have e:=hS3.trans s4
   cases J:t.2.any (fun i=>decide (i∈gone)) with
   | true=>
    rw[J,Bool.not_true,if_neg (by decide)] at a
    walk_at "d"
    have:=q _ e
    rw[a] at this;exact this
   | false=>
    rw[J,Bool.not_false,if_pos rfl] at a;walk_at "d";refine Ft (OO H c w g d p k (.ref r) gone t.2) (e.aL m) ⟨_,rfl,e,by rw[take_zero,Ui];exact(hD.same s2).same (F.trans s4)⟩ (fun j σ H' h=>by obtain⟨y,_,s,_⟩:=h;exact s.aL m) ?_ ?_
    ·rintro j σ H5 hj ⟨y,rfl,s5,f⟩;walk_at "d";refine J4 f (az (by rw[fz,xx];omega)) fun o R=>⟨_,rfl,s5.set l _,?_⟩
     rw[take_snoc 0 hj,<-q5];exact R
    ·rintro σ H5 ⟨y,rfl,s5,f⟩;rw[Tx] at f;exact⟨d,gone++t.2,_,_,_,_,rfl,s5,l,f,by rw[fz];omega,a⟩
 ·rintro σ H1 ⟨d,gone,y1,y2,y3,y,rfl,hS,l,hD,T,a⟩;rw[hL.length,List.drop_length,CD] at a;walk_at "d"
  have:=q _ hS
  rw[a] at this;exact this
theorem qw:DS (aj hJ) ["many","i","seen"] ["many","i","seen"] []:=aO (by decide +kernel)
theorem RT (D:Def K mg "ring_guess" hJ):Fn P w K mg base 1 "ring_guess" ["many","i","seen"] QU:=by
 refine D.gq qw (fun _ _ _ _ _ _ m j=>by obtain⟨_,_,_,rfl⟩:=i4 j;rfl) (fun e H Q E h=>?_) ?_
 ·obtain⟨n,i,s,rfl,_⟩:=h;rfl
 intro X S f e2 a d b hc g l o hu H e Q E h;subst f e2 a d b;obtain⟨n,i,s,rfl,hn,q⟩:=h;refine⟨_,(af (cA (aQ aW (kv S 1) (aS cJ (kv S 0) aq) (au _)) (ai (aJ (kv S 2))) ax)
   (ai (aJ (aS cJ aq (kv S 2))))),?_⟩
 walk_at "d";unfold rg at q;refine bU (fun c=>?_) (fun c=>?_)
 ·rw[if_pos (by omega)] at q;exact q
 ·rw[if_neg (by omega)] at q;exact q
theorem zP:DS (aj me) ["counts","whole","count"] ["counts"] []:=aO (by decide +kernel)
theorem zQ (D:Def K mg "product" me):Fn P w K mg base 1 "product" ["counts"] (Fz K):=by
 refine D.gq zP (fun _ _ _ _ _ _ s r=>by obtain⟨_,rfl⟩:=fV r;rfl) (fun m H Q E h=>?_) ?_
 ·obtain⟨p,c,rfl,_⟩:=h;rfl
 intro X S n e2 g l j hc o d t hu H m Q E h;subst n e2 g l j;obtain⟨p,c,rfl,f,a,q⟩:=h;refine⟨_,(af (bp S 1 aq)
   (af (fC d hc (dY (kv S 0) rfl) (kg S 2) (ai (bp S 1 (aS dW (kv S 1) (kv S 2)))))
   (ai (aJ (kv S 1))))),?_⟩
 walk_at "d";refine Ft (Qs H p c) f ⟨rfl,none,rfl⟩ (fun i σ e h=>by rw[h.1];exact f) ?_ ?_
 ·rintro i σ e hi ⟨b,y,rfl⟩;rw[b];walk_at "d";refine⟨(a.take i).Ck.ok (a.get hi).bt (by omega),rfl,some (.int (c.getD i 0)),?_⟩
  rw[take_snoc 0 hi,tj]
 ·rintro σ e ⟨b,y,rfl⟩;rw[b,Tx];walk_at "d";exact q
theorem nB:DS (aj fN) ["counts","hats","i","wheel","arc","start","seen","lacking"] ["counts","hats","i"] ["product","sum","range","len"]:=aO (by decide +kernel)
theorem RU (B:Bn mg)(D:Def K mg "circle_guess" fN)(DD:Fn P w K mg base 1 "product" ["counts"] (Fz K)):Fn P w K mg base 2 "circle_guess" ["counts","hats","i"] (Qu K):=by
 refine D.gq nB (fun _ _ _ _ _ _ us hl=>by obtain⟨_,_,_,rfl⟩:=i4 hl;rfl) (fun Z H Q E h=>?_) ?_
 ·obtain⟨p,h,b,I,i,rfl,_⟩:=h;rfl
 intro X S O e2 T Y U hc r hxe hr hu H Z Q E h;subst O e2 T Y U;obtain⟨p,h,b,I,i,rfl,n,hh,a,o,hi,q⟩:=h;refine⟨_,(af (bp S 3 (bZ S 0 DD hr (aa (kv S 0) ae)))
   (af (bp S 4 (aS dj (kv S 3) (bc (aI rfl) (kv S 0) (kv S 2) (fun _ _=>rfl))))
   (af (bp S 5 (cV S 1 (dF hc rfl) B.sum boot_sum (aa (iC S hc r (dY (ou (jv rfl) (kv S 0) bC (bD (kv S 2))) rfl) (N:=["count","wheel"]) (W:=["count"]) (G:=[]) (fv:=[none,some 3]) (by decide +kernel) (fun cl C R s H d=>⟨(kg d 0),bo,(aS dj (kv d 1) (kv d 0))⟩)) ae)))
   (af (bp S 6 (cV S 1 (dF hc rfl) B.sum boot_sum (aa (iC S hc r (jE S 2 B.range (aa (cV S 3 (ay rfl) B.len oD (aa (kv S 0) ae)) ae)) (N:=["j","i","hats","wheel","counts"]) (W:=["j"]) (G:=[]) (fv:=[none,some 2,some 1,some 3,some 0]) (by decide +kernel) (fun cl C R s H d=>⟨(kg d 0),(fe (aQ kA (kv d 0) (kv d 1) (au _))),(aS dW (bc (aI rfl) (kv d 2) (kv d 0) (fun _ _=>rfl)) (aS dj (kv d 3) (bc (aI rfl) (kv d 4) (kv d 0) (fun _ _=>rfl))))⟩)) ae)))
   (af (bp S 7 (aS cR (aS cJ (kv S 5) (kv S 6)) (kv S 3)))
   (ai (aJ (aS cR (aS dj (aS cJ (aS aZ (kv S 7) (kv S 4)) aq) (kv S 4)) (bc (aI rfl) (kv S 0) (kv S 2) (fun _ _=>rfl)))))))))),?_⟩
 walk_at "d";refine⟨p,b,rfl,n,a,?_⟩;walk_at "d";refine dw n rfl hi ?_;have J:=NT a hi;walk_at "d";refine⟨J,?_⟩;refine tm i n rfl hi fun s v=>?_;have y:ah H (upd H s (.tup ((b.take i).map V.int))):=ah.new v _;refine R9 (fun _=>true) (fun j=>pr b / (b.take i).getD j 0) (aE.of ag) (az (by have:=(a.take i).len;omega)) ?_ ?_
 ·intro j H' A B' hj F x _;walk_at "d";exact⟨NT (a.take i) hj,x rfl _ (ah.refl _)⟩
 intro M H1 hn F g;rw[bH,L2.map_getD (b.take i) (fun c=>pr b / c)] at g;refine ox (aw.of g) ?_;rw[show ((b.take i).map fun c=>pr b / c).sum=cj (pr b) (b.take i) from rfl]
 have l:=y.trans F;walk_at "d";refine aV (.inr (l.aL n)) ?_;rw[b7];refine Qm b.length (fun j=>decide (¬ j=i)) (fun j=>I.getD j 0*(pr b / b.getD j 0)) rfl (by have:=a.len;omega) ?_ ?_
 ·intro j H' A B' hj u x L;walk_at "d";rw[NU]
  by_cases e:j=i
  ·rw[ek (not_not_intro e)];walk_at "d";exact L (by rw[ek (not_not_intro e)]) _ (ah.refl _)
  ·rw[ea e];walk_at "d";have f:=l.trans u;refine dw (f.aL hh) rfl (by rw[o.len];exact hj) ?_
   refine dw (f.aL n) rfl hj ?_;walk_at "d";exact⟨NT a hj,(o.bt j hj).ok (LL a hj) (by decide),x (ea e) _ (ah.refl _)⟩
 intro z H2 hn2 f m;refine ox (aw.of m) ?_;walk_at "d";have t:=l.trans f;have ha:=yy a.pos hi;refine⟨by have:=a.jK;omega,⟨by omega,(LL a hi).log (by omega) (by decide)⟩,?_⟩
 refine dw (t.aL n) rfl hi ?_;walk_at "d";exact⟨J.1,q H2 t⟩
theorem pN:DS (aj gp) ["counts","groups","hats","i","kind","people","place"] ["counts","groups","hats","i"] ["circle_guess","ring_guess","picked","len"]:=aO (by decide +kernel)
theorem RV (B:Bn mg)(D:Def K mg "group_guess" gp)(uW:Fn P w K mg base 1 "ring_guess" ["many","i","seen"] QU)(lj:Fn P w K mg base 1 "picked" ["values","people"] (oK K))(pU:Fn P w K mg base 2 "circle_guess" ["counts","hats","i"] (Qu K)):Fn P w K mg base 3 "group_guess" ["counts","groups","hats","i"] (QZ K):=by
 refine D.gq pN (fun _ _ _ _ _ _ W hl=>by obtain⟨_,_,_,_,rfl⟩:=CV hl;rfl) (fun vs H Q E h=>?_) ?_
 ·obtain⟨c,g,hb,v,y,ws,W,L,i,rfl,_⟩:=h;rfl
 intro X S e1 e2 e3 e4 e5 hc hsc I z hu H vs Q E h;subst e1 e2 e3 e4 e5;obtain⟨c,g,hb,v,y,ws,W,L,i,rfl,J,R,Y,hh,s,hn,go,hi,q⟩:=h;refine⟨_,(af (fC I hc (dY (kv S 1) rfl) (jU hc (K:=X.K) (n:=2) rfl (aN (kg S 4) (aN (kg S 5) cC))) (ai (cA (aQ (EW rfl) (kv S 3) (kv S 5) (by with_unfolding_all rfl)) (af (bp S 6 (S7 PySem.F.plainAttrs_tuple slot_tuple_index PySem.F.type_tuple_index (yR rfl) rfl (kv S 5) (aa (kv S 3) ae)))
   (af (cA (aQ aW (kv S 4) ba (au _)) (ai (aJ (bZ S 1 uW z (aa (cV S 3 (ay rfl) B.len oD (aa (kv S 5) ae)) (aa (kv S 6) (aa (bc (aI rfl) (kv S 2) (bc (aI rfl) (kv S 5) (aS cR (aS aZ (kv S 6) aq) (cV S 3 (ay rfl) B.len oD (aa (kv S 5) ae))) (fun _ _=>rfl)) (fun _ _=>rfl)) ae)))))) ax)
   (ai (aJ (bZ S 0 pU z (aa (bZ S 2 lj z (aa (kv S 0) (aa (kv S 5) ae))) (aa (bZ S 2 lj z (aa (kv S 2) (aa (kv S 5) ae))) (aa (kv S 6) ae)))))))) ax)))
   (ai (aJ aq))),?_⟩
 walk_at "d";refine Ob (QX X.K H c g hb L i) R Y ⟨ah.refl _,fun t T=>absurd T (SZ t),_,_,_,rfl⟩ (fun k σ H' h=>⟨h.1.aL R,Y.mono h.1⟩) ?_ ?_
 ·rintro k u p σ H1 hk o M ⟨j,f,y1,y2,y3,rfl⟩;have r:=go.each u (hO hk);have d:u.2.length<=8:=j5 (cE r.nd r.lt) s.len;walk_at "d";refine AZ (a:=u.2) (.inr o) ?_
  by_cases hm:i∈u.2
  ·have ef:=yT f hk hm;have eq:qh v L y i=FV v y u i:=by unfold qh;rw[ef]
   rw[eq] at q;obtain⟨b,l⟩:=u;have hm:i∈l:=hm;have G:=Tu hm;rw[ea hm];walk_at "d";refine⟨⟨p,rfl,M⟩,p,aA l,(i:Int),rfl,rfl,o,nM.mpr hm,?_⟩;rw[AY];walk_at "d";have e:decide (kd b="ring")=b:=tO b
   (try simp only[rF,vD])
   (try simp only[e])
   (try simp only[show (kd b=Str.ofString "ring")=(b=true) from propext ⟨fun h=>by cases b<;>first | rfl | exact absurd h (by decide),fun h=>by rw[h];rfl⟩])
   cases b with
   | true=>
    simp only[if_true];walk_at "d";refine aV (.inr o) ?_;refine aV (.inr o) ?_;rw[b7,ao];walk_at "d";refine⟨by omega,?_⟩
    have m:(l.idxOf i+1) % l.length<l.length:=mod_lt _ (by omega)
    have C:l.getD ((l.idxOf i+1) % l.length) 0<v.length:=r.lt _ (dH m);refine dw (k:=(l.idxOf i+1) % l.length) o (by rw[Uy,natCast_add];rfl) (by rw[ao];exact m) ?_
    rw[aT];refine dw (j.aL hh) rfl (by rw[hn.1];exact C) ?_
    exact⟨l.length,l.idxOf i,_,rfl,by omega,q H1 j⟩
   | false=>
    simp only[Bool.false_eq_true,if_false];walk_at "d";refine⟨c,p,v,l,rfl,j.aL J,o,r.lt,d,fun Z H2 O A=>?_⟩;refine⟨hb,p,y,l,rfl,(j.trans O).aL hh,O.aL o,fun x hx=>by rw[hn.1];exact r.lt x hx,d,fun t2 H3 U N=>?_⟩
    refine⟨Z,t2,pk v l,pk y l,l.idxOf i,rfl,aE.of (U _ _ A),aE.of N,LS s (g:=(false,l)) ⟨r.lt,d⟩,J1 s hn r.lt,by rw[tP];exact G,fun H4 s4=>?_⟩
    exact q H4 (j.trans (O.trans (U.trans s4)))
  ·rw[ek hm];walk_at "d";refine⟨j,fun t T x hx=>?_,_,_,_,rfl⟩
   by_cases e:t=k
   ·subst e;rw[hk] at hx
    cases hx
    exact hm
   ·exact f t (by omega) x hx
 ·rintro σ H1 ⟨j,f,y1,y2,y3,rfl⟩;walk_at "d"
  have:=q H1 j
  unfold qh at this;rw[yS f] at this;exact this
theorem w8:DS (aj j7) ["counts","hats"] ["counts","hats"] ["all","len","zip"]:=aO (by decide +kernel)
theorem zS (B:Bn mg)(D:Def K mg "are_hats" j7):Fn P w K mg base 1 "are_hats" ["counts","hats"] (Mm K):=by
 refine D.gq w8 (fun _ _ _ _ _ _ F b=>by obtain⟨_,_,rfl⟩:=fj b;rfl) (fun v H Q E h=>?_) ?_
 ·obtain⟨c,hb,g,a,rfl,_⟩:=h;rfl
 intro X S o e2 r u t hc l x J hu H v Q E h;subst o e2 r u t;obtain⟨c,hb,g,a,rfl,e,hh,I,q⟩:=h;refine⟨_,(ai (aJ (kK (fB aW (cV S 1 (ay rfl) B.len oD (aa (kv S 1) ae)) (cV S 1 (ay rfl) B.len oD (aa (kv S 0) ae)) (au _)) (lJ (cV S 0 (cQ hc rfl) B.all boot_all (aa (iC S hc l (RD false S 2 B.zip rfl (aa (kv S 1) (aa (kv S 0) ae))) (N:=["colour","count"]) (W:=["colour","count"]) (G:=[]) (fv:=[none,none]) (by decide +kernel) (fun z C y s H f=>⟨(jU rfl (K:=X.K) (n:=2) rfl (aN (kg f 0) (aN (kg f 1) cC))),bo,(Fg og gG aq (kv f 0) (kv f 1))⟩)) ae)))))),?_⟩
 walk_at "d";refine aV (.inr hh) ?_;refine aV (.inr e) ?_;rw[b7,b7];simp only[AH,vD]
 by_cases b:a.length=g.length
 ·rw[b,ea rfl];walk_at "d";refine OI _ (fun k=>.bl (decide (0<=a.getD k 0)&&decide (a.getD k 0<g.getD k 0))) hh e (ed _) (Nat.le_of_eq b) (.inl (ed _)) (az (by omega)) ?_ ?_
  ·intro k H1 A hk m p;walk_at "d"
   have:=p H1 (ah.refl _)
   by_cases i:0<=a.getD k 0
   ·rw[ea i,qE] at this;rw[if_pos i];exact this
   ·rw[ek i,sr] at this;rw[if_neg i];exact this
  ·intro j H1 hn m d;refine⟨j,(List.range a.length).map fun k=>decide (0<=a.getD k 0)&&decide (a.getD k 0<g.getD k 0),rfl,aw.of (by rw[d,ls];rfl),?_⟩
   have:=q H1 m
   unfold gM at this;rw[ea b,qE] at this;rw[Tv,b];exact this
 ·rw[ek (by omega)]
  walk_at "d"
  have:=q H (ah.refl _)
  unfold gM at this;rw[ek b,sr] at this;exact this
theorem mn:DS (aj fm) ["self","counts","web","groups"] ["self","counts","web","groups"] ["group_fault","NoGroups","len"]:=aO (by decide +kernel)
variable {av:Addr}
theorem HU (B:Bn mg)(aR:fh K mg "Hall" av ["counts","groups","worn"])(D:qk K av "__init__" "Hall.__init__" fm)(gE:Fn P w K mg base 4 "group_fault" ["counts","web","groups"] (oO K)):nT P w K mg base 5 av "__init__" ["self","counts","web","groups"] (pj K av):=by
 refine D.gq mn (fun _ _ _ _ _ _ C hl=>by obtain⟨_,_,_,_,rfl⟩:=CV hl;rfl) (fun Y H Q E h=>?_) ?_
 ·obtain⟨x,a,c,w,g,o,F,C,L,rfl,_⟩:=h;rfl
 intro X S O e2 T W U hc Z hxe hr hu H Y Q E h;subst O e2 T W U;obtain⟨x,a,c,w,g,o,F,C,L,rfl,s,f,hw,J,hL,v,h8,r,G,R,q⟩:=h;refine⟨_,(af (cA (aQ oA (bZ S 0 gE hr (aa (kv S 1) (aa (kv S 2) (aa (kv S 3) ae)))) lI (au _)) (ai iV) ax)
   (af (Pa aR (kv S 0) (kv S 1))
   (af (Pa aR (kv S 0) (kv S 3))
   (ai (Pa aR (kv S 0) (aS (GS rfl) (rJ (aa aq ae)) (cV S 2 (ay rfl) B.len oD (aa (kv S 1) ae)))))))),?_⟩
 walk_at "d";refine⟨c,w,g,o,F,C,L,rfl,f,hw,J,hL,v,h8,r,G,fun H1 j=>?_⟩
 cases N:CD o F [] 0 L with
 | some k=>
  show mL (.int (k:Int)) .bx H1 _;walk_at "d";exact R (by rw[N];exact fun z=>nomatch z) H1 j
 | none=>
  show mL .bx .bx H1 _;walk_at "d";have b:=j _ _ s;have m:=j.aL f;refine⟨x,a,[],rfl,b,by decide,x,a,Mn c,rfl,ag,by show 1<_;decide,by decide,fun p u=>?_⟩
  rw[CO,CP,IB] at u ⊢;have l:upd H1 x (.ins av a (Bv c g)) x=some (.ins av a (Bv c g)):=ag;have y:Off x H1 (upd H1 x (.ins av a (Bv c g))):=Off.upd;have i:=m.dg y b;generalize upd H1 x (.ins av a (Bv c g))=H2 at u l y i ⊢;have t:=ah.new u (.tup [.int 0]);refine aV (.inr (t.aL i)) ?_;rw[b7];refine⟨p,o.length,_,rfl,rfl,aE.of ag,by omega,fun n A M hn=>?_⟩
  have e:=M _ _ (t _ _ l);refine⟨x,a,_,rfl,e,by show 2<_;decide,?_⟩
  rw[Ku];have I:Off x A (upd A x (.ins av a (xO c g n))):=Off.upd;have d:Off x H1 (upd A x (.ins av a (xO c g n))):=y.trans ((t.trans M).vQ.trans I);refine q N _ (j.vQ.trans d) ⟨⟨a,n,ag,?_⟩,m.dg d b,(j.aL J).dg d b⟩;rw[List.map_replicate];exact hn.dg I e
theorem nC:DS (aj fS) ["self","hats"] ["self","hats"] ["are_hats","NoHats"]:=aO (by decide +kernel)
theorem zT (B:Bn mg)(aR:fh K mg "Hall" av ["counts","groups","worn"])(D:qk K av "put_all" "Hall.put_all" fS)(Ac:Fn P w K mg base 1 "are_hats" ["counts","hats"] (Mm K)):nT P w K mg base 2 av "put_all" ["self","hats"] (sy K av):=by
 refine D.gq nC (fun _ _ _ _ _ _ r F=>by obtain⟨_,_,rfl⟩:=fj F;rfl) (fun A H Q E h=>?_) ?_
 ·obtain⟨a,hb,c,g,j,i,m,r,rfl,_⟩:=h;rfl
 intro X S t e2 x z y hc C v G hu H A Q E h;subst t e2 x z y;obtain⟨a,hb,c,g,j,i,m,r,rfl,l,hh,f,u,q⟩:=h;obtain⟨e,n,s,hn⟩:=l.ex;refine⟨_,(af (cA (iN (iu (bZ S 0 Ac G (aa (wD aR (kv S 0)) (aa (kv S 1) ae))))) (ai iV) ax)
   (ai (Pa aR (kv S 0) (kv S 1)))),?_⟩
 walk_at "d";refine⟨a,e,_,_,rfl,s,lX,c,hb,j,m,rfl,l.OW,hh,f,fun H1 d=>?_⟩;walk_at "d"
 cases p:gM j m with
 | false=>
  walk_at "d";exact u p H1 d
 | true=>
  walk_at "d";have b:=d _ _ s;refine⟨a,e,_,rfl,b,by show 3<_;decide,?_⟩
  rw[GX];have o:Off a H1 (upd H1 a (.ins av e (xO c g hb))):=Off.upd;exact q p _ (d.vQ.trans o) (l.off (d.vQ.trans o) ⟨e,ag⟩ ((d.aL hh).dg o b))
theorem w9:DS (aj kh) ["self","i","colour"] ["self","i","colour"] ["NoName","len"]:=aO (by decide +kernel)
theorem KZ (B:Bn mg)(aR:fh K mg "Hall" av ["counts","groups","worn"])(D:qk K av "put" "Hall.put" kh)(pV:nT P w K mg base 2 av "put_all" ["self","hats"] (sy K av)):nT P w K mg base 3 av "put" ["self","i","colour"] (uk K av):=by
 refine D.gq w9 (fun _ _ _ _ _ _ y hl=>by obtain⟨_,_,_,rfl⟩:=i4 hl;rfl) (fun vs H Q E h=>?_) ?_
 ·obtain⟨a,c,g,u,b,y,i,d,rfl,_⟩:=h;rfl
 intro X S R e2 Y e4 Z hc hsc hxe hr hu H vs Q E h;subst R e2 Y e4 Z;obtain⟨a,c,g,u,b,y,i,d,rfl,v,N,o,G,C,q⟩:=h;obtain⟨l,n,m,hn⟩:=v.ex;refine⟨_,(af (cA (iN (yr og gG aq (kv S 1) (cV S 1 (ay rfl) B.len oD (aa (wD aR (kv S 0)) ae)))) (ai iV) ax)
   (ai (dm (xN aR pV df hr (kv S 0) (aa (aS (iM rfl) (aS (iM rfl) (ou (jv rfl) (wD aR (kv S 0)) bC (bD (kv S 1))) (rJ (aa (kv S 2) ae))) (ou (jv rfl) (wD aR (kv S 0)) (bD (aS aZ (kv S 1) aq)) bC)) ae))))),?_⟩
 walk_at "d";refine bU (fun j=>?_) (fun j=>G (fun z=>j z.1) H (ah.refl _));refine⟨a,l,_,_,rfl,m,lX,?_⟩;refine aV (.inr v.OW) ?_;rw[b7];walk_at "d"
 by_cases h1:i<(u.length:Int)
 ·rw[ea h1];walk_at "d";obtain⟨k,rfl⟩:∃ k:Nat,i=(k:Int):=⟨i.toNat,by omega⟩
  have hk:k<b.length:=by omega
  rw[u5] at C q;refine⟨a,l,_,rfl,m,mT,a,l,_,_,rfl,m,nU,?_⟩;refine tm k hn rfl (by omega) fun t1 s=>?_
  have O:=ah.new s (.tup ((b.take k).map V.int));walk_at "d";refine⟨by decide,fun t2 p=>?_⟩
  have J:=ah.new p (.tup [.int d]);refine tw (ns:=b.take k) (ms:=[d]) (aE.of (J _ _ ag)) (aE.of ag) (bN (by rw[xx];show _+1<=100;omega)) fun t3 H3 M U=>?_
  have e:=O.trans (J.trans M);have x:=e _ _ m;refine⟨a,l,_,_,rfl,x,nU,?_⟩;refine tp k (e.aL hn) (by omega) (by omega) fun t4 t=>?_
  have F:=ah.new t (.tup ((b.drop (k+1)).map V.int));refine tw (ns:=b.take k++[d]) (ms:=b.drop (k+1)) (F.aL U) (aE.of ag) (bN (by rw[fz,xx,vr];show _+1+_<=100;omega)) fun T H5 s5 I=>?_
  have f:=e.trans (F.trans s5);have L:b.take k++[d]++b.drop (k+1)=b.set k d:=by
   rw[List.set_eq_take_append_cons_drop,if_pos hk,q5];rfl
  rw[L] at I;exact⟨a,T,c,g,u,b,b.set k d,y,rfl,v.mono f,I,o,fun z r s6=>C ⟨j,h1⟩ z r (f.trans s6),fun z r W A=>q ⟨j,h1⟩ z r (f.vQ.trans W) A⟩
 ·rw[ek h1];walk_at "d";exact G (fun z=>h1 z.2) H (ah.refl _)
theorem qx:DS (aj ic) ["self","i"] ["self","i"] ["group_guess"]:=aO (by decide +kernel)
theorem Dq (B:Bn mg)(aR:fh K mg "Hall" av ["counts","groups","worn"])(D:qk K av "guess" "Hall.guess" ic)(qH:Fn P w K mg base 3 "group_guess" ["counts","groups","hats","i"] (QZ K)):nT P w K mg base 4 av "guess" ["self","i"] (kX K av):=by
 refine D.gq qx (fun _ _ _ _ _ _ e C=>by obtain⟨_,_,rfl⟩:=fj C;rfl) (fun x H Q E h=>?_) ?_
 ·obtain⟨a,c,g,l,o,m,e,L,i,rfl,_⟩:=h;rfl
 intro X S p e2 t v u hc z s F hu H x Q E h;subst p e2 t v u;obtain⟨a,c,g,l,o,m,e,L,i,rfl,b,A,f,r,y,hi,q⟩:=h;obtain⟨d,n,j,hn⟩:=b.ex;refine⟨_,(ai (aJ (bZ S 0 qH F (aa (wD aR (kv S 0)) (aa (wD aR (kv S 0)) (aa (wD aR (kv S 0)) (aa (kv S 1) ae))))))),?_⟩;walk_at "d";exact⟨a,d,_,_,rfl,j,lX,a,d,_,_,rfl,j,sk,a,d,_,_,rfl,j,nU,c,g,n,l,o,m,e,L,i,rfl,b.OW,b.MC,A,hn,f,r,y,hi,q⟩
def mq (K:Frag)(C:Addr):Sp:=fun b H Q _=>∃ (a c g:Addr) (cs hs:List Int) (ws:List Nat) (us:List V) (L:List (Bool × List Nat)),b=[.ref a]/\bV K C H a c g cs us hs/\GF K H us L/\ck cs/\HN cs hs cs.length/\yO cs ws L/\∀ (l:Addr) (H':Hp),ah H H'->H l=none->H' l=some (.lst ((aA (fJ cs hs L)).map V.int))->Q (.ref l) H'
theorem qy:DS (aj ie) ["self"] ["self"] ["enumerate"]:=aO (by decide +kernel)
theorem Dr (B:Bn mg)(aR:fh K mg "Hall" av ["counts","groups","worn"])(D:qk K av "right" "Hall.right" ie)(eA:nT P w K mg base 4 av "guess" ["self","i"] (kX K av)):nT P w K mg base 5 av "right" ["self"] (mq K av):=by
 refine D.gq qy (fun _ _ _ _ _ _ t hl=>by obtain⟨_,rfl⟩:=fV hl;rfl) (fun Z H Q E h=>?_) ?_
 ·obtain⟨a,c,g,m,f,I,t,L,rfl,_⟩:=h;rfl
 intro X S O e2 R Y U hc u hxe hr hu H Z Q E h;subst O e2 R Y U;obtain⟨a,c,g,m,f,I,t,L,rfl,v,hL,j,l,hG,q⟩:=h;obtain⟨x,n,F,hn⟩:=v.ex;refine⟨_,(ai (aJ (iC S hc u (FC S 0 B.enumerate rfl (aa (wD aR (kv S 0)) ae)) (N:=["i","colour","self"]) (W:=["i","colour"]) (G:=[]) (fv:=[none,none,some 0]) (by decide +kernel) (fun cl C fp s H d=>⟨(jU rfl (K:=X.K) (n:=2) rfl (aN (kg d 0) (aN (kg d 1) cC))),(fe (aQ aW (xN aR eA df hr (kv d 2) (aa (kv d 0) ae)) (kv d 1) (au _))),(kv d 0)⟩)))),?_⟩
 walk_at "d";refine⟨a,x,_,_,rfl,F,nU,?_⟩;refine QV (fun i=>decide (qh m L f i=f.getD i 0)) (fun i=>(i:Int)) hn (by rw[l.1];exact az (by have:=j.len;omega)) ?_ ?_
 ·intro i H1 A B' hi p r J;rw[l.1] at hi;walk_at "d";refine⟨a,x,_,rfl,p _ _ F,mT,a,c,g,m,f,I,t,L,i,rfl,v.mono p,hL.mono p,j,l,hG,hi,fun y z=>?_⟩;walk_at "d"
  by_cases e:qh m L f i=f.getD i 0
  ·rw[if_pos e];exact r (ea e) y z
  ·rw[if_neg e];exact J (ek e) y z
 ·intro o H1 T M b;rw[l.1] at b;exact q o H1 M T b
theorem K0:DS (aj zI) ["part","word"] ["part","word"] ["is_name","is_count"]:=aO (by decide +kernel)
theorem K1 (D:Def K mg "fits" zI)(gO:Fn P w K mg base 1 "is_name" ["word"] kS)(km:Fn P w K mg base 1 "is_count" ["word"] lR):Fn P w K mg base 2 "fits" ["part","word"] Hw:=by
 refine D.gq K0 (fun _ _ _ _ _ _ n l=>by obtain⟨_,_,rfl⟩:=fj l;rfl) (fun g H Q E h=>?_) ?_
 ·obtain⟨p,z,rfl,_⟩:=h;rfl
 intro X S i e2 d f e hc j m b hu H g Q E h;subst i e2 d f e;obtain⟨p,z,rfl,hz,q⟩:=h;unfold sx at q;refine⟨_,(af (cA (aQ aW (kv S 0) ba (au _)) (ai (aJ (bZ S 0 gO b (aa (kv S 1) ae)))) ax)
   (ai (aJ (Sv (fB aW (kv S 1) ba (au _)) (lJ (bZ S 1 km b (aa (kv S 1) ae))))))),?_⟩
 walk_at "d";refine bU (fun c=>?_) (fun c=>?_)
 ·rw[if_pos c] at q;exact⟨z,rfl,hz,q⟩
 ·rw[if_neg c] at q;refine bU (fun a=>?_) (fun a=>?_)
  ·rw[ea a,Bool.true_or] at q;exact q H (ah.refl _)
  ·rw[ek a,Bool.false_or] at q;exact⟨z,rfl,hz,q⟩
theorem Ds:DS (aj pA) ["words","form","behind"] ["words"] ["FORMS","all","len","zip"]:=aO (by decide +kernel)
variable {aF:Addr}{eF:Nat->Addr}
theorem HV (B:Bn mg)(FT:ui P w K mg aF eF)(D:Def K mg "is_ask" pA)(OZ:Fn P w K mg base 2 "fits" ["part","word"] Hw):Fn P w K mg base 3 "is_ask" ["words"] (BB K eF):=by
 refine D.gq Ds (fun _ _ _ _ _ _ us j=>by obtain⟨_,rfl⟩:=fV j;rfl) (fun L H Q E h=>?_) ?_
 ·obtain⟨p,x,d,f,b,rfl,_⟩:=h;rfl
 intro X S v e2 F J I hc r U Y hu H L Q E h;subst v e2 F J I;obtain⟨p,x,d,f,b,rfl,m,t,hx,j,h8,hz,M,e,q⟩:=h;refine⟨_,(af (cA (Rz FT.Pe (bc (ak rfl) (kv S 0) aq (fun _ _=>rfl)) (Rx S 0 FT.gl) (by with_unfolding_all rfl)) (ai (aJ vF)) ax)
   (af (bp S 1 (Ry FT.Pe (Rx S 0 FT.gl) (bc (ak rfl) (kv S 0) aq (fun _ _=>rfl))))
   (af (bp S 2 (ou (cN rfl) (kv S 0) (bD aq) bC))
   (ai (aJ (kK (fB aW (cV S 2 (ay rfl) B.len oD (aa (kv S 2) ae)) (cV S 2 (ay rfl) B.len oD (aa (kv S 1) ae)) (au _)) (lJ (cV S 1 (cQ hc rfl) B.all boot_all (aa (iC S hc r (RD true S 3 B.zip rfl (aa (kv S 1) (aa (kv S 2) ae))) (N:=["part","word"]) (W:=["part","word"]) (G:=["fits"]) (fv:=[none,none]) (by decide +kernel) (fun cl C Z s H g=>⟨(jU rfl (K:=X.K) (n:=2) rfl (aN (kg g 0) (aN (kg g 1) cC))),bo,(bZ g 0 OZ Y (aa (kv g 0) (aa (kv g 1) ae)))⟩)) ae))))))))),?_⟩
 walk_at "d";refine aC (i:=((0:Nat):Int)) m (aB rfl) ?_;refine⟨.inr d,trivial,rfl,?_⟩;rw[t];walk_at "d";rw[if_neg (by simp)]
 refine aC (i:=((0:Nat):Int)) m (aB rfl) ?_;refine⟨.inr d,_,trivial,rfl,t,?_⟩;refine⟨p,_,rfl,m,fun a T=>?_⟩;rw[show (some (1:Int))=some ((1:Nat):Int) from rfl,dG,<-Uv]
 have y:=ah.new T (.lst (b.map V.str));refine aV (.inl (aw.of ag)) ?_;refine aV (.inr (e _)) ?_;rw[b7,b7];simp only[AH,vD];rw[if_pos (ea (by show ((b.length:Nat):Int)=_;rw[j]))]
 refine RF (fun _=>.bl true) (e _) (aw.of ag) (by rw[b7,b7];exact j.symm) (by rw[b7];exact az (by omega)) ?_ ?_
 ·intro i H1 A hi hS z;rw[b7] at hi;have o:i<((d::b).drop 1).length:=by show i<b.length;omega
  rw[show (f.map V.str).getD i .bx=.str (f.getD i aX) by rw[b5,aP hi];rfl,show (((d::b).drop 1).map V.str).getD i .bx=.str (b.getD i aX) by rw[b5,aP o];rfl]
  walk_at "d";refine⟨_,_,rfl,hz _ (getD_memS (show i<b.length by omega)),fun O R=>?_⟩
  rw[M i hi];exact z O R
 ·intro l H1 hn u c;refine⟨l,(List.range (f.map V.str).length).map fun _=>true,rfl,aw.of (by rw[c,ls];rfl),?_⟩
  rw[show ((List.range (f.map V.str).length).map fun _=>true).all id=true from kf.mpr fun x hx=>by obtain⟨_,_,rfl⟩:=kc.mp hx;rfl]
  exact q H1 (y.trans u)
theorem uF:DS (aj jd) ["names","name"] ["names","name"] ["NoName"]:=aO (by decide +kernel)
theorem OP (B:Bn mg)(D:Def K mg "number_of" jd):Fn P w K mg base 1 "number_of" ["names","name"] (Hz K):=by
 refine D.gq uF (fun _ _ _ _ _ _ r n=>by obtain⟨_,_,rfl⟩:=fj n;rfl) (fun g H Q E h=>?_) ?_
 ·obtain⟨p,b,z,rfl,_⟩:=h;rfl
 intro X S i e2 d f e hc j o s hu H g Q E h;subst i e2 d f e;obtain⟨p,b,z,rfl,a,c,l,q⟩:=h;refine⟨_,(af (cA (aQ (eE rfl) (kv S 1) (kv S 0) (by with_unfolding_all rfl)) (ai iV) ax)
   (ai (aJ (S7 PySem.F.plainAttrs_tuple slot_tuple_index PySem.F.type_tuple_index (zu rfl) rfl (kv S 0) (aa (kv S 1) ae))))),?_⟩
 walk_at "d";refine lS (neg:=true) (.inr a) ?_
 by_cases m:z∈b
 ·rw[if_pos rfl,ea m];walk_at "d";exact⟨⟨p,rfl,c⟩,p,b,z,rfl,rfl,a,m,q m H (ah.refl _)⟩
 ·rw[if_pos rfl,ek m];walk_at "d";exact l m H (ah.refl _)
theorem xa:DS (aj nX) ["names","people"] ["names","people"] ["len"]:=aO (by decide +kernel)
theorem Du (B:Bn mg)(D:Def K mg "named" nX):Fn P w K mg base 1 "named" ["names","people"] (wK K):=by
 refine D.gq xa (fun _ _ _ _ _ _ us hl=>by obtain⟨_,_,rfl⟩:=fj hl;rfl) (fun vs H Q E h=>?_) ?_
 ·obtain⟨p,f,v,l,rfl,_⟩:=h;rfl
 intro X S L e2 U Z Y hc r hxe hr hu H vs Q E h;subst L e2 U Z Y;obtain⟨p,f,v,l,rfl,n,J,g,q⟩:=h;refine⟨_,(af (cA (yu (yt (aQ nL (kv S 1) lI (au _)) (nq (aQ aW (cV S 0 (ay rfl) B.len oD (aa (kv S 1) ae)) aq (au _))))) (ai (aJ (eQ ae))) ax)
   (ai (aJ (eQ (aa (ir AC KE Os (bF rfl) rfl ba (aa (iC S hc r (dY (kv S 1) rfl) (N:=["i","names"]) (W:=["i"]) (G:=[]) (fv:=[none,some 0]) (by decide +kernel) (fun cl C fp s H o=>⟨(kg o 0),bo,(bc (aI rfl) (kv o 1) (kv o 0) (fun _ _=>rfl))⟩)) ae)) ae))))),?_⟩
 rcases J with ⟨rfl,rfl⟩ | ⟨a,rfl,u⟩
 ·walk_at "d";refine⟨by decide,fun t d=>?_⟩
  exact q t _ (ah.new d _) d ag
 ·walk_at "d";refine aV (.inr u) ?_;rw[b7,ao];walk_at "d";refine bU (fun c=>?_) (fun c=>?_)
  ·have e:l=[]:=Fk.mp (by omega)
   subst e;refine⟨by decide,fun t d=>?_⟩
   exact q t _ (ah.new d _) d ag
  ·have e:l≠[]:=fun z=>c (by rw[z];rfl)
   walk_at "d";refine⟨rfl,a,rfl,⟨_,u⟩,p5 (gH u) (fun _=>true) (fun i=>.str (f.getD (l.getD i 0) aX)) (by rw[b7,ao];exact az (by have:=g.eD;omega)) ?_ ?_⟩
   ·intro i H1 A B' hi R O _;rw[b7,ao] at hi;rw[dM hi];walk_at "d";refine bj (R.aL n) (aB (aP (g.lt _ (dN hi)))) ?_;exact O rfl _ (ah.refl _)
   intro m H1 hn x b;rw[bH,b7,ao,cy (fun j=>V.str (f.getD j aX)),show (l.map fun j=>V.str (f.getD j aX))=(l.map fun j=>f.getD j aX).map V.str by rw[ls];rfl] at b
   have I:=namesW g;have T:=g.eD;have h1:=dO 32 12 _ I;have M:=et 12 _ I;rw[b7] at h1 M;have y:(1000:Nat)<=sizeLine:=by decide
   refine⟨_,m,l.map fun j=>f.getD j aX,rfl,rfl,aw.of b,?_,?_,?_⟩
   ·rw[bb];show ((l.map fun j=>f.getD j aX).map fun z=>z.length+1).sum<=_
    omega
   ·rw[bb];omega
   rw[bb];refine⟨by decide,fun t d=>?_⟩
   refine q t _ (x.trans (ah.new d _)) (x.free d) ?_;rw[ag];unfold cG;rw[if_neg e];rfl
theorem Dv (B:Bn mg)(D:Def K mg "named" nX):Fn P w K mg base 1 "named" ["names","people"] (wL K):=by
 refine D.gq xa (fun _ _ _ _ _ _ us Z=>by obtain⟨_,_,rfl⟩:=fj Z;rfl) (fun Y H Q E h=>?_) ?_
 ·obtain⟨p,a,d,l,rfl,_⟩:=h;rfl
 intro X S I e2 R U T hc r ab hr hu H Y Q E h;subst I e2 R U T;obtain⟨p,a,d,l,rfl,n,u,g,q⟩:=h;refine⟨_,(af (cA (yu (yt (aQ nL (kv S 1) lI (au _)) (nq (aQ aW (cV S 0 (ay rfl) B.len oD (aa (kv S 1) ae)) aq (au _))))) (ai (aJ (eQ ae))) ax)
   (ai (aJ (eQ (aa (ir AC KE Os (bF rfl) rfl ba (aa (iC S hc r (cw (kv S 1) rfl) (N:=["i","names"]) (W:=["i"]) (G:=[]) (fv:=[none,some 0]) (by decide +kernel) (fun cl C fp s H o=>⟨(kg o 0),bo,(bc (aI rfl) (kv o 1) (kv o 0) (fun _ _=>rfl))⟩)) ae)) ae))))),?_⟩
 walk_at "d";refine aV (.inl u) ?_;rw[b7,ao];walk_at "d";refine bU (fun c=>?_) (fun c=>?_)
 ·have e:l=[]:=Fk.mp (by omega)
  subst e;refine⟨by decide,fun t f=>?_⟩
  exact q t _ (ah.new f _) f ag
 ·have e:l≠[]:=fun z=>c (by rw[z];rfl)
  walk_at "d";refine⟨rfl,a,rfl,⟨_,u⟩,p5 (bP u) (fun _=>true) (fun i=>.str (d.getD (l.getD i 0) aX)) (by rw[b7,ao];exact az (by have:=g.eD;omega)) ?_ ?_⟩
  ·intro i H1 A B' hi M L _;rw[b7,ao] at hi;rw[dM hi];walk_at "d";refine bj (M.aL n) (aB (aP (g.lt _ (dN hi)))) ?_;exact L rfl _ (ah.refl _)
  intro m H1 hn v b;rw[bH,b7,ao,cy (fun j=>V.str (d.getD j aX)),show (l.map fun j=>V.str (d.getD j aX))=(l.map fun j=>d.getD j aX).map V.str by rw[ls];rfl] at b
  have y:=namesW g;have O:=g.eD;have h1:=dO 32 12 _ y;have J:=et 12 _ y;rw[b7] at h1 J;have x:(1000:Nat)<=sizeLine:=by decide
  refine⟨_,m,l.map fun j=>d.getD j aX,rfl,rfl,aw.of b,?_,?_,?_⟩
  ·rw[bb];show ((l.map fun j=>d.getD j aX).map fun z=>z.length+1).sum<=_
   omega
  ·rw[bb];omega
  rw[bb];refine⟨by decide,fun t f=>?_⟩
  refine q t _ (v.trans (ah.new f _)) (v.free f) ?_;rw[ag];unfold cG;rw[if_neg e];rfl
theorem pO:DS (aj gA) ["counts","told","over","under"] ["counts"] ["share"]:=aO (by decide +kernel)
theorem K2 (D:Def K mg "shown_share" gA)(lh:Fn P w K mg base 2 "share" ["counts"] (nK K)):Fn P w K mg base 3 "shown_share" ["counts"] (Hx K):=by
 refine D.gq pO (fun _ _ _ _ _ _ z s=>by obtain⟨_,rfl⟩:=fV s;rfl) (fun j H Q E h=>?_) ?_
 ·obtain⟨p,b,rfl,_⟩:=h;rfl
 intro X S n e2 e g f hc o v x hu H j Q E h;subst n e2 e g f;obtain⟨p,b,rfl,r,a,q⟩:=h;refine⟨_,(af (bp S 1 (bZ S 0 lh x (aa (kv S 0) ae)))
   (af (bp S 2 (bc (aI rfl) (kv S 1) aq (fun _ _=>rfl)))
   (af (bp S 3 (bc (aI rfl) (kv S 1) aq (fun _ _=>rfl)))
   (ai (aJ (Md (g6 (Ko (kv S 2)) (g6 ba (g6 (Ko (kv S 3)) GN))))))))),?_⟩
 walk_at "d";refine⟨p,b,rfl,r,a,fun t H1 m c=>?_⟩;refine bj (i:=((0:Nat):Int)) (aE.of c) (aB rfl) ?_;refine bj (i:=((1:Nat):Int)) (aE.of c) (aB rfl) ?_;obtain⟨B,u⟩:=c6 (tD a) (Fx a) (by decide)
 obtain⟨A,l⟩:=c6 (show 0<=LK b by have:=lL a;omega) (yC a) (by decide)
 have d:(1000:Nat)<=sizeLine:=by decide
 have y:(Str.ofString "/").length=1:=by decide +kernel
 have le:∀ i,(Str.ofString (toString i))=fL i:=fun _=>rfl;walk_at "d";refine .inr ⟨_,rfl,u,_,rfl,?_,?_⟩
 ·rw[le,empty_app];omega
 walk_at "d";refine⟨_,rfl,?_,?_⟩
 ·rw[le,empty_app,aD];omega
 refine .inr ⟨_,rfl,l,_,rfl,?_,?_⟩
 ·rw[le,le,empty_app,aD,aD];omega
 walk_at "d";refine⟨?_,?_⟩
 ·rw[le,le,empty_app,aD,aD];omega
 rw[le,le,empty_app];exact q H1 m
theorem pP:DS (aj gB) ["names","kind","people"] ["names","kind","people"] []:=aO (by decide +kernel)
theorem OQ (B:Bn mg)(D:Def K mg "shown_group" gB):Fn P w K mg base 1 "shown_group" ["names","kind","people"] (Ms K):=by
 refine D.gq pP (fun _ _ _ _ _ _ us hl=>by obtain⟨_,_,_,rfl⟩:=i4 hl;rfl) (fun vs H Q E h=>?_) ?_
 ·obtain⟨p,a,c,g,rfl,_⟩:=h;rfl
 intro X S T e2 e3 e4 e5 hc y Y hr hu H vs Q E h;subst T e2 e3 e4 e5;obtain⟨p,a,c,⟨b,l⟩,rfl,r,O,o,q⟩:=h;have v:l.length<=8:=o.eD;refine⟨_,(ai (aJ (ir AC KE Os (bF rfl) rfl ba (aa (aS (cZ rfl) (eQ (aa (kv S 1) ae)) (iC S hc y (dY (kv S 2) rfl) (N:=["i","names"]) (W:=["i"]) (G:=[]) (fv:=[none,some 0]) (by decide +kernel) (fun cl C fp s H u=>⟨(kg u 0),bo,(bc (aI rfl) (kv u 1) (kv u 0) (fun _ _=>rfl))⟩))) ae)))),?_⟩
 walk_at "d";refine⟨rfl,by decide,fun t ht=>?_⟩
 have f:=ah.new ht (.lst [.str (kd b)]);have e:upd H t (.lst [.str (kd b)]) t=some (.lst [.str (kd b)]):=ag;generalize upd H t (.lst [.str (kd b)])=H1 at f e ⊢;refine⟨a,rfl,⟨_,f.aL O⟩,p5 (gH (f.aL O)) (fun _=>true) (fun i=>.str (c.getD (l.getD i 0) aX)) (by rw[b7,ao];exact az (j5 v (by decide))) ?_ ?_⟩
 ·intro i H2 A B' hi hS Z _;rw[b7,ao] at hi;rw[dM hi];walk_at "d";refine bj (hS.aL (f.aL r)) (aB (aP (o.lt _ (dN hi)))) ?_;exact Z rfl _ (ah.refl _)
 intro n H2 hn J d;rw[bH,b7,ao,cy (fun j=>V.str (c.getD j aX)),show (l.map fun j=>V.str (c.getD j aX))=(l.map fun j=>c.getD j aX).map V.str by rw[ls];rfl] at d
 have R:[V.str (kd b)]++(l.map fun j=>c.getD j aX).map V.str=(kd b::l.map fun j=>c.getD j aX).map V.str:=rfl;refine⟨t,n,_,_,rfl,rfl,aw.of (J _ _ e),aw.of d,by rw[b7,b7];exact bN (by show 1+_<=100;omega),fun p8 m=>?_⟩
 rw[R];have I:=ah.new m (.lst ((kd b::l.map fun j=>c.getD j aX).map V.str));have M:∀ x∈kd b::l.map (fun j=>c.getD j aX),x.length<=12:=fun x hx=>by
  rcases h9.mp hx with rfl | hx
  ·cases b<;>decide +kernel
  ·exact namesW o x hx
 have h1:=dO 32 12 _ M;have U:=et 12 _ M;rw[ot,b7] at h1 U;have L:(1000:Nat)<=sizeLine:=by decide
 refine⟨_,p8,_,rfl,rfl,aw.of ag,?_,?_,?_⟩
 ·rw[bb];show ((kd b::l.map fun j=>c.getD j aX).map fun z=>z.length+1).sum<=_
  omega
 ·rw[bb];omega
 rw[bb];exact q _ (f.trans (J.trans I))
theorem zU:DS (aj ml) ["book","groups","ask","names","counts","web"] ["book","groups","ask"] ["str","made_sure","shown_share","named","sight_ring","sight_order","rows_of","shown_book"]:=aO (by decide +kernel)
theorem Dw (B:Bn mg)(D:Def K mg "told_of" ml)(dP:Fn P w K mg base 5 "made_sure" ["counts","groups"] (tQ K))(qI:Fn P w K mg base 3 "shown_share" ["counts"] (Hx K))(qJ:Fn P w K mg base 1 "shown_group" ["names","kind","people"] (Ms K))(nY:Fn P w K mg base 1 "named" ["names","people"] (wK K))(ig:Fn P w K mg base 3 "sight_ring" ["web"] (Hh K))(qK:Fn P w K mg base 3 "sight_order" ["web"] (QC K))(uX:Fn P w K mg base 2 "shown_book" ["book"] (wH K))(mz:Fn P w K mg base 1 "rows_of" ["text"] ze):Fn P w K mg base 6 "told_of" ["book","groups","ask"] (Hy K):=by
 refine D.gq zU (fun _ _ _ _ _ _ us hl=>by obtain⟨_,_,_,rfl⟩:=i4 hl;rfl) (fun vs H Q E h=>?_) ?_
 ·obtain⟨b,g,f,y,x,us,L,hs,k,rfl,_⟩:=h;rfl
 intro X S e1 e2 e3 e4 e5 hc hsc hxe u hu H vs Q E h;subst e1 e2 e3 e4 e5;obtain⟨b,g,f,y,x,us,L,hs,k,rfl,hb,R,hL,D,q⟩:=h;obtain⟨a1,a2,a3,h0,h1,h1t,h2,h3⟩:=id hb;have P:=D.xg;have Y:=P.wM;have h8:=P.nm.eD;refine⟨_,(af (bp S 3 (bc (aI rfl) (kv S 0) aq (fun _ _=>rfl)))
   (af (bp S 4 (bc (aI rfl) (kv S 0) aq (fun _ _=>rfl)))
   (af (bp S 5 (bc (aI rfl) (kv S 0) aq (fun _ _=>rfl)))
   (af (cA (aQ aW (kv S 2) ba (au _)) (ai (aJ (eQ (aa (fW S 0 bK B.str boot_str (aa (bZ S 1 dP u (aa (kv S 4) (aa (kv S 1) ae))) ae)) ae)))) ax)
   (af (cA (aQ aW (kv S 2) ba (au _)) (ai (aJ (eQ (aa (bZ S 2 qI u (aa (kv S 4) ae)) ae)))) ax)
   (af (cA (aQ aW (kv S 2) ba (au _)) (ai (aJ (iC S hc hsc (dY (kv S 1) rfl) (N:=["kind","people","names"]) (W:=["kind","people"]) (G:=["shown_group"]) (fv:=[none,none,some 3]) (by decide +kernel) (fun cl C fp s H J=>⟨(jU rfl (K:=X.K) (n:=2) rfl (aN (kg J 0) (aN (kg J 1) cC))),bo,(bZ J 0 qJ u (aa (kv J 2) (aa (kv J 0) (aa (kv J 1) ae))))⟩)))) ax)
   (af (cA (aQ aW (kv S 2) ba (au _)) (ai (aJ (bZ S 3 nY u (aa (kv S 3) (aa (bZ S 4 ig u (aa (kv S 5) ae)) ae))))) ax)
   (af (cA (aQ aW (kv S 2) ba (au _)) (ai (aJ (bZ S 3 nY u (aa (kv S 3) (aa (bZ S 5 qK u (aa (kv S 5) ae)) ae))))) ax)
   (ai (aJ (bZ S 6 mz u (aa (bZ S 7 uX u (aa (kv S 0) ae)) ae)))))))))))),?_⟩
 walk_at "i";refine bj (i:=((0:Nat):Int)) h0 (aB rfl) ?_;walk_at "i";refine bj (i:=((1:Nat):Int)) h0 (aB rfl) ?_;walk_at "i";refine bj (i:=((2:Nat):Int)) h0 (aB rfl) ?_;walk_at "s";have bh:∀ g∈L,FU (aA y).length g:=fun g R=>⟨(D.best.1.each g R).ok.lt,D.g8 g R⟩;have hfew:=D.eD
 cases k with
 | sure=>
  walk_at "h";rw[if_pos (show jN .sure=Str.ofString "sure" from rfl)]
  refine⟨_,_,_,us,L,rfl,h2,R,hL.gl,Y,bh,by omega,fun H1 d=>?_⟩
  have hsum:=D.best.1.sum;have hnn:0<=(L.map (jx (aA y))).sum:=D.best.1.nn;have e1:(L.map (oJ (aA y))).sum=(L.map (jx (aA y))).sum:=rfl;rw[e1];walk_at "s";obtain⟨c1,c2⟩:=c6 hnn (D.BE) (by decide)
  refine⟨_,rfl,c2,?_⟩;walk_at "s";refine⟨by decide,fun t T=>?_⟩
  exact q t _ _ (d.trans (ah.new T _)) (d.free T) ag rfl
 | share=>
  walk_at "h";rw[if_neg (show ¬ jN .share=Str.ofString "sure" by decide)]
  walk_at "h";rw[if_pos (show jN .share=Str.ofString "share" from rfl)]
  refine⟨_,_,rfl,h2,Y,fun H1 d=>?_⟩;walk_at "s";refine⟨by decide,fun t T=>?_⟩
  exact q t _ _ (d.trans (ah.new T _)) (d.free T) ag rfl
 | groups=>
  walk_at "h";rw[if_neg (show ¬ jN .groups=Str.ofString "sure" by decide)]
  walk_at "h";rw[if_neg (show ¬ jN .groups=Str.ofString "share" by decide)]
  walk_at "h";rw[if_pos (show jN .groups=Str.ofString "groups" from rfl)]
  refine SV (Hu f) R hL.gl (az (by omega)) ?_ ?_
  ·intro i gg p H1 A hi hS hp hA;walk_at "s";exact⟨_,p,f,gg,rfl,hS.aL h1,hp,D.names (hO hi),fun j m=>hA j m⟩
  ·intro Z H1 hn1 d M;exact q Z _ H1 d hn1 M rfl
 | ring=>
  walk_at "h";rw[if_neg (show ¬ jN .ring=Str.ofString "sure" by decide)]
  walk_at "h";rw[if_neg (show ¬ jN .ring=Str.ofString "share" by decide)]
  walk_at "h";rw[if_neg (show ¬ jN .ring=Str.ofString "groups" by decide)]
  walk_at "h";rw[if_pos (show jN .ring=Str.ofString "ring" from rfl)]
  refine⟨_,x,rfl,h3,by rw[P.lw];exact h8,P.HA,fun H1 d=>⟨fun c=>?_,fun c r rr o v oc od U=>?_⟩⟩
  ·exact⟨_,f,_,[],rfl,d.aL h1,.inl ⟨rfl,rfl⟩,⟨P.Mu,(fun _ z=>nomatch z),zero_le _⟩,fun a j m I e=>q a _ j (d.trans m) (d.free I) e (.inl ⟨c,rfl⟩)⟩
  ·exact⟨_,f,_,rr,rfl,d.aL h1,.inr ⟨r,rfl,.inl (.inr ⟨o,v⟩)⟩,uo P U,fun a j m I e=>q a _ j (d.trans m) (d.free I) e (.inr ⟨c,rr,U,rfl⟩)⟩
 | order=>
  walk_at "h";rw[if_neg (show ¬ jN .order=Str.ofString "sure" by decide)]
  walk_at "h";rw[if_neg (show ¬ jN .order=Str.ofString "share" by decide)]
  walk_at "h";rw[if_neg (show ¬ jN .order=Str.ofString "groups" by decide)]
  walk_at "h";rw[if_neg (show ¬ jN .order=Str.ofString "ring" by decide)]
  walk_at "h";rw[if_pos (show jN .order=Str.ofString "order" from rfl)]
  refine⟨_,x,rfl,h3,by rw[P.lw];exact h8,fun H1 d=>⟨fun c=>?_,fun c r v=>?_⟩⟩
  ·exact⟨_,f,_,[],rfl,d.aL h1,.inl ⟨rfl,rfl⟩,⟨P.Mu,(fun _ z=>nomatch z),zero_le _⟩,fun a j m I e=>q a _ j (d.trans m) (d.free I) e (.inl ⟨c,rfl⟩)⟩
  ·exact⟨_,f,_,laidOut x,rfl,d.aL h1,.inr ⟨r,rfl,aE.of v⟩,jY P,fun a j m I e=>q a _ j (d.trans m) (d.free I) e (.inr ⟨c,rfl⟩)⟩
 | book=>
  walk_at "h";rw[if_neg (show ¬ jN .book=Str.ofString "sure" by decide)]
  walk_at "h";rw[if_neg (show ¬ jN .book=Str.ofString "share" by decide)]
  walk_at "h";rw[if_neg (show ¬ jN .book=Str.ofString "groups" by decide)]
  walk_at "h";rw[if_neg (show ¬ jN .book=Str.ofString "ring" by decide)]
  walk_at "h";rw[if_neg (show ¬ jN .book=Str.ofString "order" by decide)]
  walk_at "s";refine⟨b,f,y,x,rfl,hb,P,fun H1 d=>?_⟩;have hM:=eW P;have hML:(bg f x).length<=16:=j5 fG (by omega)
  have O:((bg f x).map (fH f y)).length<=100:=by rw[b7];omega
  have hbl:=fF (hM.pb P) O;have F:=g5 (hM.pb P);refine⟨_,rfl,by omega,by rw[F,b7];omega,fun l j m hl0 hl=>?_⟩
  exact q l _ j (d.trans m) (d.free hl0) hl rfl
theorem mr:DS (aj bR) ["self","text","counts","web"] ["self","text"] ["read_book","Hall","best_groups"]:=aO (by decide +kernel)
theorem mw:bindM "__init__" "Desk.__init__" bR "self" "text":=fun T kV a b c d ct u v=>⟨⟨_,by with_unfolding_all rfl,fun _=>by with_unfolding_all rfl⟩,⟨_,by with_unfolding_all rfl,fun _=>by with_unfolding_all rfl⟩⟩
variable {aK:Addr}
theorem HW (B:Bn mg)(aR:fh K mg "Hall" av ["counts","groups","worn"])(bq:fh K mg "Desk" aK ["book","hall"])(D:wG K aK "__init__" "Desk.__init__" bR "")(xm:Fn P w K mg base 4 "read_book" ["text"] (Bz K))(gF:Fn P w K mg base 7 "best_groups" ["counts","web"] (OH K))(fo:nT P w K mg base 5 av "__init__" ["self","counts","web","groups"] (pj K av)):Ho P w K mg base 8 aK "__init__" "self" "text" "" (BC K av aK):=by
 refine D.gq mr mw (fun vs H Q E h=>?_) ?_
 ·obtain⟨x,d,M,ns,f,s,rfl,_⟩:=h;rfl
 intro X S e1 e2 e3 e4 e5 hc hsc hxe hr hu H vs Q E h;subst e1 e2 e3 e4 e5;obtain⟨x,d,M,ns,f,s,rfl,hx,hM,R,hb,P,q⟩:=h;refine⟨_,(af (Pa bq (kv S 0) (bZ S 0 xm hr (aa (kv S 1) ae)))
   (af (bp S 2 (bc (aI rfl) (wD bq (kv S 0)) aq (fun _ _=>rfl)))
   (af (bp S 3 (bc (aI rfl) (wD bq (kv S 0)) aq (fun _ _=>rfl)))
   (ai (Pa bq (kv S 0) (Tb S 1 aR fo df hr (aa (kv S 2) (aa (kv S 3) (aa (bZ S 2 gF hr (aa (kv S 2) (aa (kv S 3) ae))) ae))))))))),?_⟩
 walk_at "i";refine⟨M,_,rfl,hM,R,hb,fun t H1 J ht=>?_⟩;have r:=J _ _ hx;walk_at "s";refine⟨x,d,[],rfl,r,by decide,?_⟩
 rw[KD];have p:Off x H1 (upd H1 x (.ins aK d (wI t))):=Off.upd;have c:upd H1 x (.ins aK d (wI t)) x=some (.ins aK d (wI t)):=ag;have o:=ht.dg p r;generalize upd H1 x (.ins aK d (wI t))=H2 at p c o ⊢;obtain⟨a1,a2,a3,h0,h1,h1t,h2,h3⟩:=id o;walk_at "i";refine sE (c) wJ ?_;refine bj (i:=((1:Nat):Int)) h0 (aB rfl) ?_;walk_at "i";refine sE (c) wJ ?_;refine bj (i:=((2:Nat):Int)) h0 (aB rfl) ?_;walk_at "s";have C:=P.wM;have A:s.length=(aA f).length:=by rw[P.lw,P.len]
 refine⟨_,_,aA f,s,rfl,h2,h3,C,A,P.HA,fun g us L F I hg hL hB=>?_⟩;intro y m hy W hne;have h8:=P.nm.eD;have D:bz ns f s L (List.replicate f.length 0):=by
  refine⟨P,hB,?_⟩;rw[show (List.replicate f.length (0:Int))=List.replicate (aA f).length 0 by rw[ao]]
  exact HN.OC C.pos
 have v:ah F (upd (upd F m (.own y)) y (.ins av m [])):=(ah.new W _).trans (ah.new (by rw[aH (Ne.symm hne)];exact hy) _)
 have j:upd (upd F m (.own y)) y (.ins av m []) y=some (.ins av m []):=ag;generalize upd (upd F m (.own y)) y (.ins av m [])=H4 at v j ⊢;have a:=I.trans v;refine⟨y,m,_,_,g,aA f,s,us,gI L,rfl,j,a.aL h2,a.aL h3,v.aL hg,(hL.mono v).gi,A,by rw[P.len];exact h8,?_,by rw[zi];have:=D.eD;omega,fun z=>absurd (pq hB.1) z,fun _ O G hH=>⟨rfl,?_⟩⟩
 ·intro z hz;unfold gI at hz;obtain⟨g0,hg0,rfl⟩:=kc.mp hz
  have:=D.g8 g0 hg0
  show (aA g0.2).length<=30;rw[ao];omega
 have Z:=a _ _ c;have yx:y≠x:=fun e=>by
  have:=I _ _ c
  rw[<-e,hy] at this;cases this
 have l:=G x _ yx.symm Z;refine⟨x,d,_,rfl,l,by show 1<_;decide,?_⟩
 rw[KG];have N:Off x O (upd O x (.ins aK d (KA t y))):=Off.upd;have ab:=((o.mono a).dg G j).dg N l;have aF:=((hL.mono v).dg G j).dg N l;have Y:Off x H (upd O x (.ins aK d (KA t y))):=fun b u n e=>by
  have e4:=a _ _ (p b u n (J _ _ e));have by':b≠y:=fun z=>by
   have:=I _ _ (p b u n (J _ _ e))
   rw[z,hy] at this;cases this
  exact N b u n (G b u by' e4)
 have T:bV X.K av O y a2 g (aA f) us (List.replicate f.length 0):=by rw[ao] at hH;exact hH
 have U:H y=none:=by
  cases e:H y with
  | none=>rfl
  | some u=>
   have:=I _ _ (p y u yx (J _ _ e))
   rw[hy] at this;cases this
 exact q _ y L Y U ⟨⟨d,t,ag,ab⟩,_,g,us,T.Ht N l yx,aF⟩ D
theorem xb:DS (aj kj) ["self","line","words","names"] ["self","line"] ["is_ask","NoAsk","number_of","int","str","named","told_of"]:=aO (by decide +kernel)
theorem OR (B:Bn mg)(aR:fh K mg "Hall" av ["counts","groups","worn"])(bq:fh K mg "Desk" aK ["book","hall"])(FT:ui P w K mg aF eF)(D:qk K aK "ask" "Desk.ask" kj)(Ik:Fn P w K mg base 3 "is_ask" ["words"] (BB K eF))(m7:Fn P w K mg base 1 "number_of" ["names","name"] (Hz K))(kq:nT P w K mg base 3 av "put" ["self","i","colour"] (uk K av))(eA:nT P w K mg base 4 av "guess" ["self","i"] (kX K av))(ij:nT P w K mg base 5 av "right" ["self"] (mq K av))(nY:Fn P w K mg base 1 "named" ["names","people"] (wL K))(DE:Fn P w K mg base 6 "told_of" ["book","groups","ask"] (Hy K)):nT P w K mg base 7 aK "ask" ["self","line"] (l9 K av aK):=by
 refine D.gq xb (fun _ _ _ _ _ _ us y=>by obtain⟨_,_,rfl⟩:=fj y;rfl) (fun vs H Q E h=>?_) ?_
 ·obtain⟨d,y,r,I,ws,L,Z,a,rfl,_⟩:=h;rfl
 intro X S e1 e2 e3 e4 e5 hc hsc hxe J hu H vs Q E h;subst e1 e2 e3 e4 e5;obtain⟨d,y,r,I,ws,L,Z,a,rfl,hD,D,ha,q⟩:=h;have P:=D.xg;have h8:=P.nm.eD;have C:=P.wM;obtain⟨w1,w2,w3⟩:=Dc P ha;obtain⟨⟨dx,b,hd,hb⟩,c,g,us,hH,hL⟩:=id hD;obtain⟨a1,a2,a3,h0,h1,h1t,h2,h3⟩:=id hb;have W:=eL 32 w1 fun x hx=>(w2 x hx).1;have hjl:=dO 32 30 _ fun x hx=>(w2 x hx).2;have hj3:(dR r a).length*31<=3*31:=A2 _ w3;have hbig:(1000:Nat)<=sizeLine:=by decide
 refine⟨_,(af (bp S 2 (ir AC T9 type_str_split eh rfl (kv S 1) (aa ba ae)))
   (af (cA (iN (iu (bZ S 0 Ik J (aa (kv S 2) ae)))) (ai iV) ax)
   (af (bp S 3 (bc (aI rfl) (wD bq (kv S 0)) aq (fun _ _=>rfl)))
   (af (cA (aQ aW (bc (ak rfl) (kv S 2) aq (fun _ _=>rfl)) ba (au _)) (af (dm (xN aR kq df J (wD bq (kv S 0)) (aa (bZ S 2 m7 J (aa (kv S 3) (aa (bc (ak rfl) (kv S 2) aq (fun _ _=>rfl)) ae))) (aa (fW S 3 kQ B.int boot_int (aa (bc (ak rfl) (kv S 2) aq (fun _ _=>rfl)) ae)) ae))))
   (ai (aJ (eQ ae)))) ax)
   (af (cA (aQ aW (bc (ak rfl) (kv S 2) aq (fun _ _=>rfl)) ba (au _)) (ai (aJ (eQ (aa (fW S 4 bK B.str boot_str (aa (xN aR eA df J (wD bq (kv S 0)) (aa (bZ S 2 m7 J (aa (kv S 3) (aa (bc (ak rfl) (kv S 2) aq (fun _ _=>rfl)) ae))) ae)) ae)) ae)))) ax)
   (af (cA (aQ aW (bc (ak rfl) (kv S 2) aq (fun _ _=>rfl)) ba (au _)) (ai (aJ (bZ S 5 nY J (aa (kv S 3) (aa (Rp aR ij df J (wD bq (kv S 0))) ae))))) ax)
   (ai (aJ (bZ S 6 DE J (aa (wD bq (kv S 0)) (aa (wD aR (wD bq (kv S 0))) (aa (bc (ak rfl) (kv S 2) aq (fun _ _=>rfl)) ae)))))))))))),?_⟩
 walk_at "i";rw[bb];refine⟨rfl,_,_,rfl,rfl,by decide,by omega,by rw[W];omega,fun p hp0=>?_⟩
 rw[W];have s1:=ah.new hp0 (.lst ((dR r a).map V.str));have A:upd H p (.lst ((dR r a).map V.str)) p=some (.lst ((dR r a).map V.str)):=ag;generalize upd H p (.lst ((dR r a).map V.str))=H1 at s1 A ⊢;walk_at "i";obtain⟨fx,w0,ff,fb,ew,hv,f1,f2,f3,f4,f5⟩:=HC FT P ha;refine⟨p,fx,w0,ff,fb,rfl,aw.of (by rw[A,ew]),hv,f5 _,f1,f2,f3,f4,f5,fun H2 s2=>?_⟩
 have f:=s1.trans s2;have hD2:=hD.mono f;have s:=f _ _ hd;have m:aw X.K H2 p ((dR r a).map V.str):=aw.of (s2 _ _ A);have R:=hH.mono f;obtain⟨hdx,n,hh,hn⟩:=R.ex;clear A hv f1 f2 f3 f4 f5 ew W hjl hj3 w1 w2 w3;walk_at "i";refine sE (s) BA ?_;refine bj (i:=((0:Nat):Int)) (f.aL h0) (aB rfl) ?_;walk_at "i"
 cases a with
 | told k=>
  obtain⟨n1,n2,n3,_,_⟩:=zy k;refine aC (i:=((0:Nat):Int)) m (aB rfl) ?_;walk_at "s";rw[if_neg n1];walk_at "h";refine aC (i:=((0:Nat):Int)) m (aB rfl) ?_;walk_at "s";rw[if_neg n2];walk_at "h";refine aC (i:=((0:Nat):Int)) m (aB rfl) ?_;walk_at "s";rw[if_neg n3];walk_at "s";refine⟨d,dx,_,_,rfl,s,BA,d,dx,_,_,rfl,s,nW,y,hdx,_,_,rfl,hh,sk,?_⟩;refine aC (i:=((0:Nat):Int)) m (aB rfl) ?_;exact⟨b,g,r,I,ws,us,L,Z,k,rfl,hb.mono f,R.MC,hL.mono f,D,fun l rows H3 G hl0 T v=>q l rows H3 (f.trans G) (f.free hl0) T v⟩
 | right=>
  refine aC (i:=((0:Nat):Int)) m (aB rfl) ?_;walk_at "s";rw[if_neg (by decide)]
  walk_at "h";refine aC (i:=((0:Nat):Int)) m (aB rfl) ?_;walk_at "s";rw[if_neg (by decide)]
  walk_at "h";refine aC (i:=((0:Nat):Int)) m (aB rfl) ?_;walk_at "s";refine sE (s) nW (fq (hh) mT ?_);refine⟨y,_,g,aA I,Z,ws,us,L,rfl,R,hL.mono f,C,D.eX,D.wN,fun l H3 G hl0 T=>?_⟩;have j:=f.trans G;exact⟨_,l,r,_,rfl,j.aL h1,aw.of T,ma P,fun a N s4 ha0 ha1=>q a N (j.trans s4) (j.free ha0) ha1⟩
 | de i=>
  have hi:i<r.length:=ha;have U:i<(aA I).length:=by rw[P.len];exact hi
  have hm:r.getD i aX∈r:=getD_memS hi;have Y:r.idxOf (r.getD i aX)=i:=by
   rw[b5,cc hi];exact P.nm.nd.idxOf_getElem i hi
  refine aC (i:=((0:Nat):Int)) m (aB rfl) ?_;walk_at "s";rw[if_neg (by decide)]
  walk_at "h";refine aC (i:=((0:Nat):Int)) m (aB rfl) ?_;walk_at "s";refine sE (s) nW (fq (hh) mT ?_);refine aC (i:=((1:Nat):Int)) m (aB rfl) ?_;refine⟨_,r,_,rfl,f.aL h1,h1t.mono f,fun z=>absurd hm z,fun _ H3 G=>?_⟩;rw[Y];have j:=f.trans G;refine⟨y,_,g,aA I,Z,ws,us,L,i,rfl,hH.mono j,hL.mono j,C,D.eX,D.wN,U,fun N s4=>?_⟩;obtain⟨g1,g2⟩:=zA C D.eX D.wN U;refine⟨_,rfl,(c6 g1 g2 (by decide)).2,?_⟩
  walk_at "s";refine⟨by decide,fun t v=>?_⟩
  have s14:=j.trans s4;exact q t _ (s14.trans (ah.new v _)) (s14.free v) ag
 | put i O=>
  obtain⟨hi,hcol⟩:i<r.length/\O<10 ^ 30:=ha;have U:i<(aA I).length:=by rw[P.len];exact hi
  have hm:r.getD i aX∈r:=getD_memS hi;have Y:r.idxOf (r.getD i aX)=i:=by
   rw[b5,cc hi];exact P.nm.nd.idxOf_getElem i hi
  obtain⟨_,c2,_,c4⟩:=kZ hcol;refine aC (i:=((0:Nat):Int)) m (aB rfl) ?_;walk_at "i";refine sE (s) nW (fq (hh) mT ?_);refine aC (i:=((1:Nat):Int)) m (aB rfl) ?_;refine⟨_,r,_,rfl,f.aL h1,h1t.mono f,fun z=>absurd hm z,fun _ H3 G=>?_⟩;rw[Y];have j:=f.trans G;refine aC (i:=((2:Nat):Int)) (G.seq m) (aB rfl) ?_;refine⟨_,_,rfl,c2,by omega,?_⟩
  refine⟨y,c,g,aA I,Z,us,(i:Int),(O:Int),rfl,hH.mono j,D.eX.1,by have:=C.len;omega,fun z=>absurd ⟨natCast_nonneg i,by omega⟩ z,fun _ z N s4=>?_,fun _ z N o4 M=>?_⟩
  ·rw[u5] at z;exact q.1 z N (j.trans s4)
  ·rw[u5] at z M;walk_at "s";refine⟨by decide,fun t v=>?_⟩
   obtain⟨hx0,n0,hh0,_⟩:=hH.ex;have hh3:=j _ _ hh0;obtain⟨hx4,n4,hh4,_⟩:=M.ex;have hdn:=hD.ne;have st:=ah.new v (.lst []);have o:Off y H N:=fun b u ne e=>o4 b u ne (j _ _ e);have htn:H t=none:=by
    cases e:H t with
    | none=>rfl
    | some u=>
     by_cases z:t=y
     ·rw[z,hh4] at v;cases v
     ·rw[o t u z e] at v;cases v
   have hD4:cF X.K av aK N d y r I ws L (Z.set i (O:Int)):=⟨⟨dx,b,o d _ hdn hd,(hb.mono j).dg o4 hh3⟩,c,g,us,M,(hL.mono j).dg o4 hh3⟩;exact q.2 z t _ (fun b u ne e=>st _ _ (o b u ne e)) htn ag (hD4.mono st)
theorem uG:DS (aj je) ["cell","count","number","drawn","k"] ["cell","count"] ["range"]:=aO (by decide +kernel)
theorem Dx (B:Bn mg)(D:Def K mg "_law_draws" je):Fn P w K mg base 1 "_law_draws" ["cell","count"] iY:=by
 refine D.gq uG (fun _ _ _ _ _ _ v f=>by obtain⟨_,_,rfl⟩:=fj f;rfl) (fun t H Q E h=>?_) ?_
 ·obtain⟨d,n,rfl,_⟩:=h;rfl
 intro X S m e2 o s r hc u j A hu H t Q E h;subst m e2 o s r;obtain⟨d,n,rfl,hn,q⟩:=h;refine⟨_,(af (bp S 2 (bX (Fe (aS aZ (bX (kv S 0)) aq))))
   (af (bp S 3 (eQ ae))
   (af (fC j hc (jE S 0 B.range (aa (kv S 1) ae)) (kg S 4) (af (bp S 2 (bX (Fe (kv S 2))))
   (ai (dm (ir qN nc nF bE rfl (kv S 3) (aa (rH (bX (aS dW (kv S 2) (kv S 2)))) ae))))))
   (ai (aJ (kv S 3)))))),?_⟩
 walk_at "d";refine⟨by decide,fun l f=>?_⟩
 refine forR n (Q7 H d n l) rfl (by omega) ⟨_,[],_,rfl,ah.new f _,ag,rfl,(fun x hx=>nomatch hx)⟩ ?_ ?_
 ·rintro k σ H1 hk ⟨c,i,y,rfl,g,b,a,e⟩;walk_at "d";have p:=SL (c*45742) (show (2147483543:Int)≠0 by decide)
  have h1:=F8 (c*45742) (show (0:Int)<2147483543 by decide)
  generalize c*45742 % 2147483543=nm at p h1 ⊢;refine⟨.inl ⟨rfl,_,aw.of b⟩,sX (by omega) (by omega),?_⟩
  refine⟨l,_,_,rfl,rfl,b,by rw[b7];exact az (by omega),?_⟩
  refine⟨_,i++[nm*nm % 2147483579 / 7],_,rfl,g.set f _,by rw[ag,hU];rfl,by rw[fz,a];rfl,fun x hx=>?_⟩
  rcases kb.mp hx with z | z
  ·exact e x z
  ·rw[eR.mp z];omega
 ·rintro σ H1 ⟨c,i,y,rfl,g,b,a,e⟩;walk_at "d";exact q l i H1 g f b a e
theorem uH:DS (aj jf) ["number","size","letters","name","k"] ["number","size"] ["range"]:=aO (by decide +kernel)
theorem HX (B:Bn mg)(D:Def K mg "_law_fresh" jf):Fn P w K mg base 1 "_law_fresh" ["number","size"] Bh:=by
 refine D.gq uH (fun _ _ _ _ _ _ s r=>by obtain⟨_,_,rfl⟩:=fj r;rfl) (fun o H Q E h=>?_) ?_
 ·obtain⟨b,k,rfl,_⟩:=h;rfl
 intro X S f e2 j m l hc p e t hu H o Q E h;subst f e2 j m l;obtain⟨b,n,rfl,hn,q⟩:=h;refine⟨_,(af (bp S 2 ba)
   (af (bp S 3 ba)
   (af (fC e hc (jE S 0 B.range (aa (kv S 1) ae)) (kg S 4) (af (bp S 0 (bX (aS aZ (Fe (kv S 0)) aq)))
   (ai (bp S 3 (aS aU (kv S 3) (bc yh (kv S 2) (bX (rH (kv S 0))) (fun _ _=>rfl)))))))
   (ai (aJ (kv S 3)))))),?_⟩
 walk_at "d";refine forR n (Q8 H n) rfl (by omega) ⟨_,_,_,rfl,rfl,rfl,(fun c hc=>nomatch hc)⟩ ?_ ?_
 ·rintro k σ H1 hk ⟨b,z,y,rfl,rfl,hz,a⟩;walk_at "d";obtain⟨c,g,d⟩:=Gp (i:=(b*48271+11) % 2147483647 / 23 % 26) (by omega) (by omega)
  refine⟨kR,_,c,rfl,rfl,by decide +kernel,g,?_⟩
  refine⟨_,_,rfl,rfl,?_,?_⟩
  ·show z.length+1<=sizeLine
   have:(100:Nat)<=sizeLine:=by decide
   omega
  ·exact⟨_,z++⟨#[c]⟩,_,rfl,rfl,by rw[aD,hz];rfl,a.append d⟩
 ·rintro σ H1 ⟨b,z,y,rfl,rfl,hz,a⟩;walk_at "d";exact q z hz a
theorem qz {A B:TS}{D:Ends}{σ:L2.St}{H:Hp}(I:L2.St->Hp->Prop)(h2:∀ σ' H',I σ' H'->B D σ' H')(h1:∀ R:L2.St->Hp->Prop,(∀ σ' H',I σ' H'->R σ' H')->A {D with nx:=R} σ H):BR A B D σ H:=h1 (B D) h2
theorem cX {dn:List Int}{H:Hp}{dr:Addr}{i:Int}{Q:VK}(hd:H dr=some (.lst (dn.map V.int)))(hl:dn.length=m)(hnn:∀ x∈dn,0<=x)(h0:0<=i)(h1:i<m)(q:∀ x:Int,0<=x->Q (.int x) H):B5 K (.ref dr) (.int i) H Q:=by
 obtain⟨m,rfl⟩:=ro h0;have hm:m<dn.length:=by omega
 exact aC (aw.of hd) (aB (by rw[eG,cc hm];rfl)) (q _ (hnn _ (p0 hm)))
def HY (H0:Hp)(cell:Int)(n:Nat)(sm dr:Addr)(base:Str)(a:Nat)(l:Addr)(dn:List Int)(k:Nat)(σ:L2.St)(H:Hp):Prop:=∃ (ns:List Str) (name:Str) (y3 y4:Option V),σ=[some (.int cell),some (.int n),some (.str kR),some (.ref sm),some (.ref dr),some (.str base),some (.int a),some (.ref l),some (.int k),some (.str name),y3,y4]/\ah H0 H/\H l=some (.lst (ns.map V.str))/\H sm=some (.lst (mP.map V.str))/\H dr=some (.lst (dn.map V.int))/\Iv ns k/\(1<=k->ns≠[])/\bG name=true
theorem K3 {ns:List Str}{k:Nat}{x:Str}(h:Iv ns k)(hx:bG x=true)(hn:x∉ns):Iv (ns++[x]) (k+1) where
 eD:=by rw[fz];have:=h.eD;simp;omega
 nd:=Ue.mpr ⟨h.nd,by simp,fun a c b hb=>by rw[eR.mp hb];rintro rfl;exact hn c⟩
 nm:=fun y hy=>by
  rcases kb.mp hy with z | z
  ·exact h.nm y z
  ·rw[eR.mp z];exact hx
theorem pQ {ns:List Str}{k:Nat}(h:Iv ns k)(hk:k<=m):Iv ns m:=⟨j5 h.eD hk,h.nd,h.nm⟩
def DV:Str:="abcdefghijkl"
theorem HZ:gK DV:=by
 have h:∀ c∈cz DV,Gk c=true:=by decide +kernel
 exact h
theorem uI:DV.length=12:=by decide +kernel
theorem uJ:DS (aj jg) ["cell","size","letters","some","drawn","base","at","names","k","name","sign","width"] ["cell","size"] ["_law_draws","_law_fresh","len","range"]:=aO (by decide +kernel)
theorem Ia (B:Bn mg)(D:Def K mg "_law_names" jg)(bY:Fn P w K mg base 1 "_law_draws" ["cell","count"] iY)(m9:Fn P w K mg base 1 "_law_fresh" ["number","size"] Bh):Fn P w K mg base 2 "_law_names" ["cell","size"] Bi:=by
 refine D.gq uJ (fun _ _ _ _ _ _ us hl=>by obtain⟨_,_,rfl⟩:=fj hl;rfl) (fun vs H Q E h=>?_) ?_
 ·obtain⟨t,n,rfl,_⟩:=h;rfl
 intro X S e1 e2 e3 e4 e5 hc hsc hxe hr hu H vs Q E h;subst e1 e2 e3 e4 e5;obtain⟨t,n,rfl,hn1,hn,q⟩:=h;refine⟨_,(af (bp S 2 ba)
   (af (bp S 3 (eQ (AV (ns:=["hat","sees","put","guess","right","ring","order","book","sure","share","groups"]) (by decide +kernel))))
   (af (bp S 3 (aS (cZ rfl) (kv S 3) (eQ (aa ba (aa ba ae)))))
   (af (bp S 4 (bZ S 0 bY hr (aa (kv S 0) (aa aq ae))))
   (af (bp S 5 (bZ S 1 m9 hr (aa (bc (ak rfl) (kv S 4) aq (fun _ _=>rfl)) (aa (aS aZ aq (bX (bc (ak rfl) (kv S 4) aq (fun _ _=>rfl)))) ae))))
   (af (bp S 6 (aS cR (bc (ak rfl) (kv S 4) aq (fun _ _=>rfl)) (cV S 2 gQ B.len oD (aa (kv S 5) ae))))
   (af (bp S 7 (eQ ae))
   (af (fC hxe hc (jE S 3 B.range (aa (kv S 1) ae)) (kg S 8) (af (bp S 9 (bZ S 1 m9 hr (aa (bc (ak rfl) (kv S 4) (aS aZ aq (kv S 8)) (fun _ _=>rfl)) (aa (aS aZ aq (bX (bc (ak rfl) (kv S 4) (aS aZ aq (kv S 8)) (fun _ _=>rfl)))) ae))))
   (af (cA (aQ gG (bX (bc (ak rfl) (kv S 4) aq (fun _ _=>rfl))) aq (au _)) (af (bp S 10 (bc yh (kv S 2) (bX (aS aZ (bc (ak rfl) (kv S 4) aq (fun _ _=>rfl)) (aS dW (kv S 8) (bc (ak rfl) (eQ (tf (ns:=[1,3,5,7,9,11]) (by decide +kernel))) (bX (bc (ak rfl) (kv S 4) aq (fun _ _=>rfl))) (fun _ _=>rfl))))) (fun _ _=>rfl)))
   (ai (bp S 9 (aS aU (aS aU (ou oP (kv S 5) bC (bD (kv S 6))) (kv S 10)) (ou oP (kv S 5) (bD (aS aZ (kv S 6) aq)) bC))))) ax)
   (af (cA (aQ aW (bX (bc (ak rfl) (kv S 4) aq (fun _ _=>rfl))) aq (au _)) (ai (bp S 9 (bc (ak rfl) (kv S 3) (bX (aS aZ (bc (ak rfl) (kv S 4) aq (fun _ _=>rfl)) (Ff (kv S 8)))) (fun _ _=>rfl)))) ax)
   (af (cA (aQ aW (bX (bc (ak rfl) (kv S 4) aq (fun _ _=>rfl))) aq (au _)) (af (bp S 11 (aS aZ aq (bX (aS aZ (Ff (kv S 8)) (bc (ak rfl) (kv S 4) aq (fun _ _=>rfl))))))
   (ai (bp S 9 (bc (ak rfl) (eQ (aa (ou oP (aS aU (kv S 5) ba) bC (bD (kv S 11))) (aa (ou oP (aS aU ba (kv S 5)) (bD (NM lA (kv S 11))) bC) ae))) (bX (bc (ak rfl) (kv S 4) aq (fun _ _=>rfl))) (fun _ _=>rfl))))) ax)
   (ai (cA (aQ (eE rfl) (kv S 9) (kv S 7) (by with_unfolding_all rfl)) (ai (dm (ir qN nc nF bE rfl (kv S 7) (aa (kv S 9) ae)))) ax)))))))
   (ai (aJ (kv S 7))))))))))),?_⟩
 walk_at "i";walk_at "i";refine⟨by decide,fun s0 hs0=>?_⟩
 have a0:=ah.new hs0 (.lst [V.str "hat",V.str "sees",V.str "put",V.str "guess",V.str "right",V.str "ring",V.str "order",V.str "book",V.str "sure",V.str "share",V.str "groups"]);walk_at "i";refine⟨by decide,fun s1 hs1=>?_⟩
 have a1:=ah.new hs1 (.lst [V.str "circle",V.str "hats"]);refine⟨s0,s1,_,_,rfl,rfl,aw.of (a1 _ _ ag),aw.of ag,by decide,fun sm hsm=>?_⟩
 have a2:=ah.new hsm (.lst (mP.map V.str));walk_at "i";have b0:=a0.trans (a1.trans a2);have hsm':upd (upd (upd H s0 (.lst [V.str "hat",V.str "sees",V.str "put",V.str "guess",V.str "right",V.str "ring",V.str "order",V.str "book",V.str "sure",V.str "share",V.str "groups"])) s1 (.lst [V.str "circle",V.str "hats"])) sm (.lst (mP.map V.str)) sm=some (.lst (mP.map V.str)):=ag;refine⟨t,40,rfl,by decide,fun dr dn H1 t1 hdr0 N p j=>?_⟩
 have b1:=b0.trans t1;have W:=t1 _ _ hsm';walk_at "i";refine cX N p j (by decide) (by decide) fun x0 hx0=>?_
 refine cX N p j (by decide) (by decide) fun x1 hx1=>?_
 walk_at "s";obtain⟨m,hm⟩:=ro (show 0<=1+x1 % 12 by omega)
 refine⟨x0,m,by rw[hm],by omega,fun base hbl L=>?_⟩
 walk_at "i";refine cX N p j (by decide) (by decide) fun x2 hx2=>?_
 walk_at "s";refine⟨_,rfl,nN (by omega),?_⟩
 walk_at "s";refine⟨by omega,?_⟩
 have Y:=SL x2 (show ((base.length:Nat):Int)≠0 by omega)
 have ab:=F8 x2 (show (0:Int)<((base.length:Nat):Int) by omega)
 generalize x2 % ((base.length:Nat):Int)=am at Y ab ⊢;obtain⟨a,rfl⟩:=ro Y;walk_at "i";refine⟨by decide,fun l hl=>?_⟩
 walk_at "i";have sl:=ah.new hl (.lst []);refine forR n (Q9 H t n sm dr base a l dn) rfl (by omega) ⟨[],_,_,_,_,rfl,b1.trans sl,ag,sl _ _ W,sl _ _ N,⟨by simp,by simp,fun x hx=>nomatch hx⟩,fun z=>absurd z (by decide)⟩ ?_ ?_
 ·rintro k σ H2 hk ⟨ns,y1,y2,y3,y4,rfl,M,f,d,b,g,s⟩;walk_at "i";refine cX b p j (by omega) (by omega) fun x3 hx3=>?_
  walk_at "s";refine cX b p j (by omega) (by omega) fun x4 hx4=>?_
  walk_at "s";obtain⟨m4,hm4⟩:=ro (show 0<=1+x4 % 12 by omega)
  refine⟨x3,m4,by rw[hm4],by omega,fun r hbl' hlow'=>?_⟩
  have I:=nO hlow' (by omega) (by omega)
  walk_at "s";refine qz (HY H t n sm dr base a l dn k) ?_ (fun R O=>?_)
  rotate_left
  ·walk_at "s";refine cX b p j (by decide) (by decide) fun x5 hx5=>?_
   walk_at "s";refine bU (fun c=>?_) (fun c=>O _ _ ⟨ns,r,_,_,rfl,M,f,d,b,g,s,I⟩);walk_at "i";refine cX b p j (by decide) (by decide) fun x6 hx6=>?_
   walk_at "s";refine⟨by decide,fun o ho=>?_⟩
   have y:=ah.new ho (.lst [V.int 1,V.int 3,V.int 5,V.int 7,V.int 9,V.int 11]);refine cX (y _ _ b) p j (by decide) (by decide) fun x7 hx7=>?_
   walk_at "s";refine cX (dn:=[1,3,5,7,9,11]) (m:=6) ag rfl (by decide) (by omega) (by omega) fun x8 hx8=>?_
   walk_at "s";refine⟨sX (by omega) (by omega),?_⟩
   obtain⟨c',ec,hlc⟩:=Gp (i:=(x6+(k:Int)*x8) % 26) (by omega) (by omega)
   refine⟨kR,_,c',rfl,rfl,by decide +kernel,ec,?_⟩
   walk_at "s";have h100:(1000:Nat)<=sizeLine:=by decide
   obtain⟨u,J⟩:∃ u,StrLaws.sliceText base none (some (a:Int))=u:=⟨_,rfl⟩;obtain⟨v,A⟩:∃ v,StrLaws.sliceText base (some ((a+1:Nat):Int)) none=v:=⟨_,rfl⟩;have C:=oR (x:=base) (k:=a) (by omega)
   have G:=yX (x:=base) (k:=a+1) (by omega)
   rw[J] at C;rw[A] at G;have hul:u.length=a:=by rw[aM,C,xx,<-aM];omega
   have hvl:v.length=base.length - (a+1):=by rw[aM,G,vr,<-aM]
   refine⟨base,rfl,by rw[J];omega,?_⟩
   rw[J];walk_at "s";refine⟨_,_,rfl,rfl,by rw[hul];show a+1<=_;omega,?_⟩
   refine⟨base,rfl,by rw[show ((a:Int)+1)=((a+1:Nat):Int) from rfl,A];omega,?_⟩
   rw[show ((a:Int)+1)=((a+1:Nat):Int) from rfl,A]
   have Z:(u++(⟨#[c']⟩:Str)).length=a+1:=by rw[aD,hul];rfl
   refine⟨_,_,rfl,rfl,by rw[Z];omega,?_⟩
   exact O _ _ ⟨ns,_,_,_,rfl,M.trans y,y _ _ f,y _ _ d,y _ _ b,g,s,nO (((wj L C).append hlc).append (wk L G)) (by rw[aD,Z];omega) (by rw[aD,Z];omega)⟩
  rintro σ3 H3 ⟨ns,r,y3,y4,rfl,M,f,d,b,g,s,I⟩;refine qz (HY H t n sm dr base a l dn k) ?_ (fun R O=>?_)
  rotate_left
  ·walk_at "s";refine cX b p j (by decide) (by decide) fun x5 hx5=>?_
   walk_at "s";refine bU (fun c=>?_) (fun c=>O _ _ ⟨ns,r,_,_,rfl,M,f,d,b,g,s,I⟩);walk_at "s";refine cX b p j (by decide) (by decide) fun x6 hx6=>?_
   walk_at "s";obtain⟨m6,hm6⟩:=ro (show 0<=(x6+5*(k:Int)) % 13 by omega)
   have T:m6<mP.length:=by have:mP.length=13:=rfl;omega
   rw[hm6];refine aC (aw.of d) (aB (aP T)) ?_;exact O _ _ ⟨ns,_,_,_,rfl,M,f,d,b,g,s,Gq _ (getD_memS T)⟩
  rintro σ3 H3 ⟨ns,r,y3,y4,rfl,M,f,d,b,g,s,I⟩;refine qz (HY H t n sm dr base a l dn k) ?_ (fun R O=>?_)
  rotate_left
  ·walk_at "s";refine cX b p j (by decide) (by decide) fun x5 hx5=>?_
   walk_at "s";refine bU (fun c=>?_) (fun c=>O _ _ ⟨ns,r,_,_,rfl,M,f,d,b,g,s,I⟩);walk_at "i";refine cX b p j (by decide) (by decide) fun x6 hx6=>?_
   walk_at "s";have h0:0<=(5*(k:Int)+x6) % 12:=by omega
   have h1:(5*(k:Int)+x6) % 12<12:=by omega
   generalize (5*(k:Int)+x6) % 12=wd at h0 h1 ⊢;obtain⟨U,rfl⟩:=ro h0;rw[show (1+(U:Int))=((1+U:Nat):Int) from rfl]
   have h100:(1000:Nat)<=sizeLine:=by decide
   have hb1:(base++DV).length=base.length+12:=by rw[aD,uI]
   have hb2:(DV++base).length=12+base.length:=by rw[aD,uI]
   obtain⟨u,J⟩:∃ u,StrLaws.sliceText (base++DV) none (some ((1+U:Nat):Int))=u:=⟨_,rfl⟩;obtain⟨v,A⟩:∃ v,StrLaws.sliceText (DV++base) (some (-((1+U:Nat):Int))) none=v:=⟨_,rfl⟩;have C:=oR (x:=base++DV) (k:=1+U) (by omega)
   have G:=yY (x:=DV++base) (k:=1+U) (by omega) (by omega)
   rw[J] at C;rw[A] at G;have hul:u.length=1+U:=by rw[aM,C,xx,<-aM];omega
   have hvl:v.length=1+U:=by rw[aM,G,vr,<-aM];omega
   refine⟨_,_,rfl,rfl,by rw[show (Str.ofString "abcdefghijkl")=DV from rfl,uI];omega,?_⟩
   refine⟨_,rfl,by rw[show (Str.ofString "abcdefghijkl")=DV from rfl,J];omega,?_⟩
   rw[show (Str.ofString "abcdefghijkl")=DV from rfl,J]
   walk_at "s";refine⟨_,_,rfl,rfl,by rw[uI];omega,?_⟩
   walk_at "s";refine⟨_,rfl,by rw[A];omega,?_⟩
   rw[A];walk_at "s";refine⟨by decide,fun o ho=>?_⟩
   have y:=ah.new ho (.lst [V.str u,V.str v]);refine cX (y _ _ b) p j (by decide) (by decide) fun x7 hx7=>?_
   walk_at "s";have okU:=nO (wj (L.append HZ) C) (by omega) (by omega)
   have okV:=nO (wk (HZ.append L) G) (by omega) (by omega)
   rcases(show x7 % 2=0∨x7 % 2=1 by omega) with e | e
   ·rw[e];refine aC (i:=((0:Nat):Int)) (aw.of ag) (aB rfl) ?_;exact O _ _ ⟨ns,_,_,_,rfl,M.trans y,y _ _ f,y _ _ d,y _ _ b,g,s,okU⟩
   ·rw[e];refine aC (i:=((1:Nat):Int)) (aw.of ag) (aB rfl) ?_;exact O _ _ ⟨ns,_,_,_,rfl,M.trans y,y _ _ f,y _ _ d,y _ _ b,g,s,okV⟩
  rintro σ3 H3 ⟨ns,r,y3,y4,rfl,M,f,d,b,g,s,I⟩;walk_at "s";refine lS (.inl (aw.of f)) ?_;walk_at "s"
  by_cases c:r∈ns
  ·rw[ea c];walk_at "s";exact⟨ns,_,_,_,_,rfl,M,f,d,b,pQ g (by omega),fun _ z=>by rw[z] at c;exact nomatch c⟩
  ·rw[ek c];walk_at "s";refine⟨.inl ⟨rfl,_,aw.of f⟩,?_⟩;refine⟨l,_,_,rfl,rfl,f,by rw[b7];exact bN (by have:=g.eD;omega),?_⟩
   have hl0:H l=none:=b1.free hl;have ne1:sm≠l:=bI W hl;have ne2:dr≠l:=bI N hl;exact⟨ns++[r],_,_,_,_,rfl,M.set hl0 _,by rw[ag,hU];rfl,by rw[aH ne1];exact d,by rw[aH ne2];exact b,K3 g I c,fun _=>by simp⟩
 ·rintro σ H2 ⟨ns,y1,y2,y3,y4,rfl,M,f,d,b,g,s⟩;walk_at "s";exact q l ns H2 M (b1.free hl) f (s hn1) g
theorem uK:DS (aj jh) ["cell","k","drawn","kind"] ["cell","k"] ["_law_draws"]:=aO (by decide +kernel)
theorem Ib (B:Bn mg)(D:Def K mg "_law_count" jh)(bY:Fn P w K mg base 1 "_law_draws" ["cell","count"] iY):Fn P w K mg base 2 "_law_count" ["cell","k"] wm:=by
 refine D.gq uK (fun _ _ _ _ _ _ us hl=>by obtain⟨_,_,rfl⟩:=fj hl;rfl) (fun T H Q E h=>?_) ?_
 ·obtain⟨i,n,rfl,_⟩:=h;rfl
 intro X S C e2 N R O hc Y hxe W hu H T Q E h;subst C e2 N R O;obtain⟨i,k,rfl,q⟩:=h;refine⟨_,(af (bp S 2 (bZ S 0 bY W (aa (aS aZ (rH (kv S 0)) (Ff (kv S 1))) (aa aq ae))))
   (af (bp S 3 (bX (bc (ak rfl) (kv S 2) aq (fun _ _=>rfl))))
   (af (cA (aQ aW (kv S 3) aq (au _)) (ai (aJ (aS aZ aq (aS cR (rH (kv S 0)) (aS cJ (aS jR aq aq) aq))))) ax)
   (af (cA (aQ aW (kv S 3) aq (au _)) (ai (aJ (bc (ak rfl) (eQ (aa aq (aa (aS cJ (aS jR aq aq) aq) (aa (aS jR aq aq) (tf (ns:=[2,9,10,99,100]) (by decide +kernel)))))) (bX (bc (ak rfl) (kv S 2) aq (fun _ _=>rfl))) (fun _ _=>rfl)))) ax)
   (af (cA (aQ aW (kv S 3) aq (au _)) (ai (aJ (aS aZ aq (aS cR (aS aZ (aS aZ (aS dW (bc (ak rfl) (kv S 2) aq (fun _ _=>rfl)) (aS jR aq aq)) (aS dW (bc (ak rfl) (kv S 2) aq (fun _ _=>rfl)) (aS jR aq aq))) (bc (ak rfl) (kv S 2) aq (fun _ _=>rfl))) (aS cJ (aS jR aq aq) aq))))) ax)
   (ai (aJ (aS aZ aq (bX (bc (ak rfl) (kv S 2) aq (fun _ _=>rfl))))))))))),?_⟩
 walk_at "d";refine⟨_,6,rfl,by decide,fun dr dn H1 A t d b a=>?_⟩
 walk_at "d";have e:(10:Int) ^ toNat 30=1000000000000000000000000000000:=by decide +kernel
 have l:(10:Int) ^ toNat 29=100000000000000000000000000000:=by decide +kernel
 have U:(10:Nat) ^ 30=1000000000000000000000000000000:=by decide +kernel
 have f:∀ (x:Int) (j:Hp),0<x->x<1000000000000000000000000000000->ah H1 j->Q (.int x) j:=fun x j h0 h1 s=>by
  obtain⟨c,rfl⟩:=ro (show 0<=x by omega)
  exact q c j (by omega) (by omega) (A.trans s)
 refine cX d b a (by decide) (by decide) fun x0 z=>?_
 walk_at "d";refine bU (fun c=>?_) (fun c=>?_)
 ·refine⟨by unfold ly;decide,by rw[e];decide,?_⟩
  rw[e];exact f _ _ (by omega) (by omega) (ah.refl _)
 refine bU (fun v=>?_) (fun v=>?_)
 ·refine⟨by unfold ly;decide,by unfold ly;decide,by decide,fun o F=>?_⟩
  rw[e,l];have r:=ah.new F (.lst [V.int 1,V.int (1000000000000000000000000000000 - 1),V.int 100000000000000000000000000000,V.int 2,V.int 9,V.int 10,V.int 99,V.int 100]);refine cX (r _ _ d) b a (by decide) (by decide) fun M G=>?_
  walk_at "d";obtain⟨m,hm⟩:=ro (show 0<=M % 8 by omega)
  rw[hm];have hb:∀ x∈[(1:Int),1000000000000000000000000000000 - 1,100000000000000000000000000000,2,9,10,99,100],0<x/\x<1000000000000000000000000000000:=by decide +kernel
  have g:m < [(1:Int),1000000000000000000000000000000 - 1,100000000000000000000000000000,2,9,10,99,100].length:=by show m<8;omega
  refine aC (aw.of ag) (aB (show ([(1:Int),1000000000000000000000000000000 - 1,100000000000000000000000000000,2,9,10,99,100].map V.int)[m]?=_ by rw[eG,cc g];rfl)) ?_
  have:=hb _ (p0 g)
  exact f _ _ this.1 this.2 r
 refine bU (fun c2=>?_) (fun c2=>?_)
 ·refine cX d b a (by decide) (by decide) fun u p=>?_
  refine⟨by unfold ly;decide,?_⟩
  walk_at "d";refine⟨kJ (by decide +kernel) (by decide +kernel),?_⟩
  refine cX d b a (by decide) (by decide) fun Z I=>?_
  refine⟨by unfold ly;decide,?_⟩
  walk_at "d";refine⟨kJ (by decide +kernel) (by decide +kernel),?_⟩
  refine cX d b a (by decide) (by decide) fun L J=>?_
  walk_at "d";refine⟨by unfold ly;decide,by rw[e];decide,?_⟩
  rw[e];generalize u*10 ^ toNat 18+Z*10 ^ toNat 9+L=y;exact f _ _ (by omega) (by omega) (ah.refl _)
 ·refine cX d b a (by decide) (by decide) fun u p=>?_
  walk_at "d";exact f _ _ (by omega) (by omega) (ah.refl _)
theorem kl:DS (aj ez) ["book","drawn","names","counts","web","lines","k","order","i","some","at","hats","first"] ["book","drawn"] ["range","len","str","list","max"]:=aO (by decide +kernel)
theorem Ic (B:Bn mg)(D:Def K mg "_law_mixed_lines" ez):Fn P w K mg base 1 "_law_mixed_lines" ["book","drawn"] (Bo K):=by
 refine D.gq kl (fun _ _ _ _ _ _ us hl=>by obtain⟨_,_,rfl⟩:=fj hl;rfl) (fun vs H Q E h=>?_) ?_
 ·obtain⟨b,dr,ns,e,ws,dn,rfl,_⟩:=h;rfl
 intro X S e1 e2 e3 e4 e5 hc x hxe hr hu H vs Q E h;subst e1 e2 e3 e4 e5;obtain⟨b,dr,ns,e,ws,dn,rfl,⟨a1,a2,a3,hb,h1,h2,h3⟩,P,a7,bq,a9,q⟩:=h;have h8:=P.nm.eD;refine⟨_,(af (yv (kv S 0) (GA hc (K:=X.K) (n:=3) rfl (aN (kg S 2) (aN (kg S 3) (aN (kg S 4) cC)))))
   (af (bp S 5 (eQ ae))
   (af (fC hxe hc (jE S 0 B.range (aa (cV S 1 (ay rfl) B.len oD (aa (kv S 2) ae)) ae)) (kg S 6) (ai (dm (ir qN nc nF bE rfl (kv S 5) (aa (aS aU (aS aU (aS aU ba (bc (ak rfl) (kv S 2) (kv S 6) (fun _ _=>rfl))) ba) (fW S 2 bK B.str boot_str (aa (bc (ak rfl) (kv S 3) (kv S 6) (fun _ _=>rfl)) ae))) ae)))))
   (af (bp S 7 (fW S 3 (eI hc) B.list boot_list (aa (fW S 0 gT B.range boot_range (aa (cV S 1 (ay rfl) B.len oD (aa (kv S 2) ae)) ae)) ae)))
   (af (cA (aQ aW (bX (bc (ak rfl) (kv S 1) aq (fun _ _=>rfl))) aq (au _)) (ai (bp S 7 (N5 (kv S 7) (NM lA aq) rfl))) ax)
   (af (fC hxe hc (cw (kv S 7) rfl) (kg S 8) (af (Fi (i:=9) S hc x (jE S 0 B.range (aa (cV S 1 (ay rfl) B.len oD (aa (kv S 2) ae)) ae)) (N:=["j","web","i"]) (W:=["j"]) (G:=[]) (fv:=[none,some 4,some 8]) (by decide +kernel) (fun cl C fp s H r=>⟨(kg r 0),(fe (aQ aW (bX (aS dj (bc (ak rfl) (kv r 1) (kv r 2) (fun _ _=>rfl)) (aS cS aq (kv r 0)))) aq (au _))),(kv r 0)⟩) (by rw[x];decide +kernel) (by rw[dX,x];rfl))
   (ai (cA (aQ (iL hu rfl) (kv S 9) (eQ ae) (au _)) (af (bp S 10 (aS cR (bc (ak rfl) (kv S 1) (aS aZ aq (kv S 8)) (fun _ _=>rfl)) (cV S 1 (ay rfl) B.len oD (aa (kv S 9) ae))))
   (af (bp S 9 (aS (cZ rfl) (ou (cN rfl) (kv S 9) (bD (kv S 10)) bC) (ou (cN rfl) (kv S 9) bC (bD (kv S 10)))))
   (af (cA (aQ aW (bX (bc (ak rfl) (kv S 1) (aS aZ aq (kv S 8)) (fun _ _=>rfl))) aq (au _)) (ai (bp S 9 (N5 (kv S 9) (NM lA aq) rfl))) ax)
   (af (Fi (i:=11) S hc x (cw (aS (cZ rfl) (kv S 9) (eQ (aa (kv S 8) ae))) rfl) (N:=["j","names","counts"]) (W:=["j"]) (G:=["str"]) (fv:=[none,some 2,some 3]) (by decide +kernel) (fun cl C fp s H r=>⟨(kg r 0),bo,(aS aU (aS aU (aS aU ba (bc (ak rfl) (kv r 1) (kv r 0) (fun _ _=>rfl))) ba) (fW r 0 bK B.str boot_str (aa (bc (ak rfl) (kv r 2) (kv r 0) (fun _ _=>rfl)) ae)))⟩) (by rw[x];decide +kernel) (by rw[dX,x];rfl))
   (af (bp S 12 (aS aZ aq (cV S 4 (yM hc rfl) B.max boot_max (aa (iC S hc x (cw (kv S 11) rfl) (N:=["hat","lines"]) (W:=["hat"]) (G:=[]) (fv:=[none,some 5]) (by decide +kernel) (fun cl C fp s H r=>⟨(kg r 0),bo,(ir qN slot_list_index type_list_index (lT rfl) rfl (kv r 1) (aa (kv r 0) ae))⟩)) ae))))
   (af (bp S 10 (aS aZ (kv S 12) (aS cR (bc (ak rfl) (kv S 1) (aS aZ aq (kv S 8)) (fun _ _=>rfl)) (aS aZ (aS cJ (cV S 1 (ay rfl) B.len oD (aa (kv S 5) ae)) (kv S 12)) aq))))
   (ai (dm (ir qN PySem.F.slot_list_insert PySem.F.type_list_insert CL rfl (kv S 5) (aa (kv S 10) (aa (ir AC KE Os (bF rfl) rfl ba (aa (aS (cZ rfl) (eQ (aa ba (aa (bc (ak rfl) (kv S 2) (kv S 8) (fun _ _=>rfl)) ae))) (iC S hc x (cw (kv S 9) rfl) (N:=["j","names"]) (W:=["j"]) (G:=[]) (fv:=[none,some 2]) (by decide +kernel) (fun cl C fp s H r=>⟨(kg r 0),bo,(bc (ak rfl) (kv r 1) (kv r 0) (fun _ _=>rfl))⟩))) ae)) ae))))))))))) ax))))
   (ai (aJ (kv S 5))))))))),?_⟩
 walk_at "i";refine⟨b,_,rfl,aw.of hb,rfl,?_⟩;refine⟨_,_,rfl,⟨_,_,rfl,⟨_,_,rfl,⟨rfl,?_⟩⟩⟩⟩;walk_at "s";have h1000:(1000:Nat)<=sizeLine:=by decide
 have el:(Str.ofString "hat ").length=4:=by decide +kernel
 have bJ:(Str.ofString " ").length=1:=by decide +kernel
 have hatF:∀ k,k<ns.length->bG (ns.getD k aX)=true/\(ns.getD k aX).length<=12/\(Str.ofString (toString ((e.getD k 0:Nat):Int))).length<=30/\((e.getD k 0:Nat):Int).natAbs.log2<1920:=fun k hk=>by
  have bh:bG (ns.getD k aX)=true/\0<e.getD k 0/\e.getD k 0<10 ^ 30:=o8 P hk;refine⟨bh.1,(dB bh.1).2.2,gL (dA bh.2.1 bh.2.2).1,?_⟩;rw[TL];exact(log2_lt (by omega)).mpr (TV bh.2.2 (by decide +kernel))
 walk_at "h";refine⟨by decide,fun l hl=>?_⟩
 have sl:=ah.new hl (.lst []);walk_at "h";refine aV (.inl (aw.of (sl _ _ h1))) ?_;rw[b7];refine forR ns.length (Rg H b dr a1 a2 a3 l ns e) rfl (by omega) ⟨_,_,_,_,_,_,_,rfl,sl,ag⟩ ?_ ?_
 ·rintro k σ H2 hk ⟨y6,y7,y8,y9,L,O,J,rfl,hS,aK⟩;walk_at "s";refine⟨.inl ⟨rfl,_,aw.of aK⟩,?_⟩;obtain⟨f1,f2,f3,f4⟩:=hatF k hk;refine aC (aw.of (hS _ _ h1)) (aB (aP hk)) ?_;refine⟨_,_,rfl,rfl,by rw[el];omega,?_⟩
  refine⟨_,_,rfl,rfl,by rw[aD,el,bJ];omega,?_⟩
  refine cW (aw.of (hS _ _ h2)) rfl (by rw[ao,P.lc];exact hk) ?_
  rw[aT];refine⟨_,rfl,f4,?_⟩;refine⟨_,_,rfl,rfl,by rw[aD,aD,el,bJ];omega,?_⟩
  rw[kT];refine⟨l,_,_,rfl,rfl,aK,by rw[b7,b7,b7,j9];exact bN (by omega),?_⟩
  refine⟨_,_,_,_,_,_,_,rfl,hS.set hl _,?_⟩;rw[ag,Gc,hU,hU,hU];rfl
 rintro σ2 H2 ⟨y6,y7,y8,y9,L,O,J,rfl,hS2,aK⟩;walk_at "i";refine aV (.inl (aw.of (hS2 _ _ h1))) ?_;rw[b7];refine⟨ns.length,rfl,by omega,fun rg hrg=>?_⟩
 have srg:=ah.new hrg (.Iz 0 ns.length);refine⟨rg,ns.length,rfl,ag,by omega,fun o ho=>?_⟩
 have lo3:l≠o:=bI (srg _ _ aK) ho;have so:=ah.new ho (.lst (((List.range ns.length).map fun i=>((i:Nat):Int)).map V.int));have s2o:=srg.trans so;have ho':upd (upd H2 rg (.Iz 0 ns.length)) o (.lst (((List.range ns.length).map fun i=>((i:Nat):Int)).map V.int)) o=some (.lst ((aA (List.range ns.length)).map V.int)):=ag;have a4:=s2o _ _ aK;have a5:=hS2.trans s2o;generalize upd (upd H2 rg (.Iz 0 ns.length)) o (.lst (((List.range ns.length).map fun i=>((i:Nat):Int)).map V.int))=H3 at ho' a4 a5 ⊢;walk_at "s";refine qz (Ri H b dr a1 a2 a3 l ns e) ?_ (fun R hR=>?_)
 rotate_left
 ·walk_at "s";refine cX (a5 _ _ a7) bq a9 (by decide) (by decide) fun x0 hx0=>?_
  walk_at "s";refine bU (fun c=>?_) (fun c=>hR _ _ ⟨o,_,_,_,_,_,_,_,rfl,a5,a4,ho',List.Perm.refl _,lo3⟩);refine⟨trivial,o,_,rfl,aw.of ho',fun o2 ho2=>?_⟩;have so2:=ah.new ho2 (.lst ((aA (List.range ns.length)).map V.int).reverse);refine hR _ _ ⟨o2,(List.range ns.length).reverse,_,_,_,_,_,_,rfl,a5.trans so2,so2 _ _ a4,?_,reverse_perm _,bI a4 ho2⟩;rw[ag];unfold aA;rw[<-Ur,<-Ur]
 rintro σ4 H4 ⟨o,od,y6,y8,y9,L,O,J,rfl,hS4,hl4,ho4,bY,lo⟩;have hodl:od.length=ns.length:=by rw[bY.length_eq,j9]
 have hodn:od.Nodup:=bY.nodup_iff.mpr Uo;walk_at "h";have M0:=dv.start (ns:=ns) (ws:=ws);refine forL (Rh H b dr a1 a2 a3 l o ns e ws od) (aw.of ho4) ⟨_,_,_,_,_,_,_,rfl,hS4,ho4,hl4,⟨M0.ok,M0.eX,M0.nd,M0.pm,fun i=>by rw[M0.al i,take_zero];exact⟨fun z=>z.1.elim,(fun z=>nomatch z.1)⟩⟩,by rw[b7,j9];omega⟩ (fun k σ H' h=>by obtain⟨M,y6,y8,y9,L,O,J,_,_,h,_⟩:=h;exact aw.of h) ?_ ?_
 ·rintro k σ H5 hk ⟨M,y6,y8,y9,L,O,J,rfl,ab,ho5,hl5,T,hMl⟩;rw[ao] at hk;rw[aT];have hi:od.getD k 0<ns.length:=by
   have:od.getD k 0∈od:=by rw[b5,cc hk];exact p0 _
   exact ka.mp (bY.mem_iff.mp this)
  have hnd:=GK hodn hk;have htd:=CM hk;generalize od.getD k 0=i at hi hnd htd ⊢;walk_at "i";refine aV (.inl (aw.of (ab _ _ h1))) ?_;rw[b7];refine Qm ns.length (fun j=>decide (ws.getD i 0 / 2 ^ j % 2=1)) (fun j=>((j:Nat):Int)) rfl (by omega) ?_ ?_
  ·intro j H6 A B' hj hS6 hA hB;walk_at "s";refine cW (aw.of (hS6 _ _ (ab _ _ h3))) rfl (by rw[ao,P.lw];exact hi) ?_
   rw[aT];walk_at "s";have hpj:0<2 ^ j:=Nat.pow_pos (by decide)
   have hj8:2 ^ j<=2 ^ 8:=ri (by decide) (by omega)
   refine⟨eB (by omega),⟨by omega,?_⟩,?_⟩
   ·rw[TL];exact(log2_lt (by omega)).mpr (I1 hj8 (TM (by decide) (by decide)))
   refine bU (fun c=>?_) (fun c=>?_)
   ·exact hA (by rw[<-r4];exact c) _ (ah.refl _)
   ·exact hB (by rw[<-r4];exact Bool.eq_false_iff.mpr c) _ (ah.refl _)
  intro sa H6 hsa0 s6 a8;have a8:H6 sa=some (.lst ((aA (iA ns.length (ws.getD i 0))).map V.int)):=a8;have hpm:(iA ns.length (ws.getD i 0)).Perm (iA ns.length (ws.getD i 0)):=List.Perm.refl _;have hS6:=ab.trans s6;have ho6:=s6 _ _ ho5;have hl6:=s6 _ _ hl5;walk_at "s";refine⟨by decide,fun z hz=>?_⟩
  have sz:=ah.new hz (.lst []);refine⟨_,_,.lst (aw.of (sz _ _ a8)) (dE.ints _),.lst (aw.of ag) .nil,fu _,by decide,?_⟩
  rw[Bb];have ho7:=sz _ _ ho6;have hl7:=sz _ _ hl6;have av:=hS6.trans sz;have v:=sz _ _ a8;generalize upd H6 z (.lst [])=H7 at ho7 hl7 av v ⊢
  by_cases c0:iA ns.length (ws.getD i 0)=[]
  ·rw[ea (show (aA (iA ns.length (ws.getD i 0))).map PyData.int=[] by rw[c0];rfl)]
   walk_at "s";exact⟨M,_,_,_,_,_,_,rfl,av,ho7,hl7,T.skip c0 htd,by omega⟩
  rw[ek (show ¬ (aA (iA ns.length (ws.getD i 0))).map PyData.int=[] from fun z=>c0 (TU.mp (TU.mp z)))]
  walk_at "s";generalize hbt:iA ns.length (ws.getD i 0)=bt at c0 v ⊢;have hbl:0<bt.length:=Do.mpr c0;have hbl8:bt.length<=ns.length:=by
   rw[<-hbt];unfold iA
   have:=A5 (fun j=>decide (ws.getD i 0 / 2 ^ j % 2=1)) (List.range ns.length)
   rw[j9] at this;exact this
  walk_at "h";refine cX (av _ _ a7) bq a9 (by omega) (by omega) fun x1 hx1=>?_
  refine aV (.inl (aw.of v)) ?_;rw[b7,ao];walk_at "s";refine⟨by omega,?_⟩
  obtain⟨d,hat1,eat1⟩:∃ a:Nat,a<bt.length/\x1 % (bt.length:Int)=(a:Int):=by
   have h0:=SL x1 (show (bt.length:Int)≠0 by omega)
   have h1:=F8 x1 (show (0:Int)<(bt.length:Int) by omega)
   exact⟨(x1 % (bt.length:Int)).toNat,by omega,by omega⟩
  rw[eat1];walk_at "h";refine⟨sa,_,rfl,aw.of v,fun c1 hc1=>?_⟩;rw[dG,<-Uv];have sc1:=ah.new hc1 (.lst (((aA bt).drop d).map V.int));refine⟨sa,_,rfl,aw.of (sc1 _ _ v),fun c2 hc2=>?_⟩;rw[lK,<-map_take];have sc2:=ah.new hc2 (.lst (((aA bt).take d).map V.int));refine tq (ns:=(aA bt).drop d) (ms:=(aA bt).take d) (aw.of (sc2 _ _ ag)) (aw.of ag) (bN (by rw[vr,xx,ao];omega)) fun c3 hc3=>?_
  have sc3:=ah.new hc3 (.lst (((aA bt).drop d++(aA bt).take d).map V.int));have I:=sc1.trans (sc2.trans sc3);have e3:(aA bt).drop d++(aA bt).take d=aA (bt.drop d++bt.take d):=by unfold aA;rw[hU,Uv,map_take]
  rw[e3];have hp3:(bt.drop d++bt.take d).Perm bt:=by
   have:=List.perm_append_comm (l₁:=bt.drop d) (l₂:=bt.take d)
   rw[TZ] at this;exact this
  walk_at "s";refine qz (Rj H7 b dr a1 a2 a3 l o i bt) ?_ (fun R hR=>?_)
  rotate_left
  ·walk_at "s";rw[e3] at I;refine cX (I _ _ (av _ _ a7)) bq a9 (by omega) (by omega) fun x2 hx2=>?_
   walk_at "s";refine bU (fun c=>?_) (fun c=>hR _ _ ⟨c3,_,_,_,_,_,rfl,I,ag,hp3⟩);refine⟨trivial,c3,_,rfl,aw.of ag,fun c4 hc4=>?_⟩;have sc4:=ah.new hc4 (.lst ((aA (bt.drop d++bt.take d)).map V.int).reverse);refine hR _ _ ⟨c4,(bt.drop d++bt.take d).reverse,_,_,_,_,rfl,I.trans sc4,?_,(reverse_perm _).trans hp3⟩;rw[ag];unfold aA;rw[Ur,Ur]
  rintro σ8 H8 ⟨s,f,y6,L,O,J,rfl,s8,hs8,hsm⟩;have hS8:=av.trans s8;have hl8:=s8 _ _ hl7;have ho8:=s8 _ _ ho7;have b1:f.length=bt.length:=hsm.length_eq;have b4:∀ j∈f,j<ns.length:=fun j hj=>by
   have:=hsm.mem_iff.mp hj
   rw[<-hbt] at this;exact(jB.mp this).1
  walk_at "h";refine⟨by decide,fun p hp=>?_⟩
  have sp:=ah.new hp (.lst [V.int (i:Int)]);refine tq (ns:=aA f) (ms:=[(i:Int)]) (aw.of (sp _ _ hs8)) (aw.of ag) (bN (by rw[ao];show _+1<=100;omega)) fun p2 hp2=>?_
  have e4:aA f++[(i:Int)]=aA (f++[i]):=by unfold aA;rw[hU];rfl
  rw[e4];have sp2:=ah.new hp2 (.lst ((aA (f++[i])).map V.int));have aR:∀ j∈f++[i],j<ns.length:=fun j hj=>by
   rcases kb.mp hj with z | z
   ·exact b4 j z
   ·rw[eR.mp z];exact hi
  have hlenh:(f++[i]).length<=9:=by rw[fz];show _+1<=9;omega
  have Y:0<(f++[i]).length:=by rw[fz];show 0<_+1;omega
  have b3:=sp.trans sp2;refine⟨p2,rfl,⟨_,aw.of ag⟩,p5 (bP (aw.of ag)) (fun _=>true) (fun t=>.str (eC ns e (.dS ((f++[i]).getD t 0)))) (by rw[b7,ao];exact az (by omega)) ?_ ?_⟩
  ·intro t H9 A B' ht hS9 hA _;rw[b7,ao] at ht;rw[dM ht];have hj:=aR _ (dN ht);generalize (f++[i]).getD t 0=j at hj hA ⊢;have s9:ah H H9:=hS8.trans (b3.trans hS9);walk_at "s";obtain⟨f1,f2,f3,f4⟩:=hatF j hj;refine aC (aw.of (s9 _ _ h1)) (aB (aP hj)) ?_;refine⟨_,_,rfl,rfl,by rw[el];omega,?_⟩
   refine⟨_,_,rfl,rfl,by rw[aD,el,bJ];omega,?_⟩
   refine cW (aw.of (s9 _ _ h2)) rfl (by rw[ao,P.lc];exact hj) ?_
   rw[aT];refine⟨_,rfl,f4,?_⟩;refine⟨_,_,rfl,rfl,by rw[aD,aD,el,bJ];omega,?_⟩
   rw[kT];exact hA rfl _ (ah.refl _)
  intro ht H9 hht0 s9 U;rw[bH,b7,ao,cy (fun j=>V.str (eC ns e (.dS j)))] at U;have U:H9 ht=some (.lst (((f++[i]).map fun j=>eC ns e (.dS j)).map V.str)):=by rw[U,ls];rfl
  have a6:=b3.trans s9;have hl9:=a6 _ _ hl8;have ho9:=a6 _ _ ho8;have hS9:=hS8.trans a6;have hs9:=a6 _ _ hs8;walk_at "i";refine⟨ht,rfl,⟨_,aw.of U⟩,p5 (bP (aw.of U)) (fun _=>true) (fun t=>.int (((M.map (eC ns e)).idxOf (eC ns e (.dS ((f++[i]).getD t 0))):Nat):Int)) (by rw[b7,b7];exact az (by omega)) ?_ ?_⟩
  ·intro t H10 A B' u g hA _;rw[b7,b7] at u;have e5:(((f++[i]).map fun j=>eC ns e (.dS j)).map V.str).getD t .bx=.str (eC ns e (.dS ((f++[i]).getD t 0))):=by
    rw[b5,eG,eG,cc u,b5,cc u];rfl
   rw[e5];walk_at "s";refine⟨.inl ⟨rfl,_,aw.of (g _ _ hl9)⟩,?_⟩;exact⟨l,_,_,rfl,rfl,aw.of (g _ _ hl9),(T.idx P (aR _ (dN u))).1,hA rfl _ (ah.refl _)⟩
  intro ix H10 hix0 a0 hix;rw[bH,b7,b7,cy (fun j=>V.int (((M.map (eC ns e)).idxOf (eC ns e (.dS j)):Nat):Int))] at hix;have Z:=a0 _ _ hl9;have ho10:=a0 _ _ ho9;have g:=hS9.trans a0;have b2:=a0 _ _ hs9;refine⟨ix,(f++[i]).map fun j=>(((M.map (eC ns e)).idxOf (eC ns e (.dS j)):Nat):Int),rfl,.inl (aw.of (by rw[hix,ls];rfl)),by intro z;have:=TU.mp z;rw[this] at Y;exact absurd Y (by decide),fun m hm hmax=>?_⟩
  obtain⟨jm,hjm,rfl⟩:=kc.mp hm;have hmlt:=(T.idx P (aR jm hjm)).2.1;have hmx:∀ j∈f++[i],(M.map (eC ns e)).idxOf (eC ns e (.dS j))<=(M.map (eC ns e)).idxOf (eC ns e (.dS jm)):=fun j hj=>by
   have:=hmax _ (kc.mpr ⟨j,hj,rfl⟩)
   exact Int.ofNat_le.mp this
  generalize (M.map (eC ns e)).idxOf (eC ns e (.dS jm))=mm at hmlt hmx ⊢;walk_at "i";refine cX (g _ _ a7) bq a9 (by omega) (by omega) fun x3 hx3=>?_
  refine aV (.inl (aw.of Z)) ?_;rw[b7,b7];walk_at "s";refine⟨by omega,?_⟩
  walk_at "s";refine⟨.inl ⟨rfl,_,aw.of Z⟩,rfl,?_⟩;refine aC (aw.of (g _ _ h1)) (aB (aP hi)) ?_;refine⟨by decide,fun p7 hp7=>?_⟩
  have bl:=ah.new hp7 (.lst [V.str (Str.ofString "sees"),V.str (ns.getD i aX)]);refine⟨s,rfl,⟨_,aw.of (bl _ _ b2)⟩,p5 (bP (aw.of (bl _ _ b2))) (fun _=>true) (fun t=>.str (ns.getD (f.getD t 0) aX)) (by rw[b7,ao];exact az (by omega)) ?_ ?_⟩
  ·intro t H11 A B' u hS11 hA _;rw[b7,ao] at u;rw[dM u];walk_at "s";have hj:=b4 _ (dN u);refine aC (aw.of (hS11 _ _ (bl _ _ (g _ _ h1)))) (aB (aP hj)) ?_;exact hA rfl _ (ah.refl _)
  intro nl H11 hnl0 s11 hnl;rw[bH,b7,ao,cy (fun j=>V.str (ns.getD j aX))] at hnl;have s711:=bl.trans s11;refine⟨p7,nl,_,_,rfl,rfl,aw.of (s11 _ _ ag),aw.of hnl,by rw[b7];exact bN (by show 2+_<=100;omega),fun p8 hp8=>?_⟩
  have sp8:=ah.new hp8 (.lst ([V.str (Str.ofString "sees"),V.str (ns.getD i aX)]++f.map fun j=>V.str (ns.getD j aX)));have e8:([V.str (Str.ofString "sees"),V.str (ns.getD i aX)]++f.map fun j=>V.str (ns.getD j aX))=(lr (fH ns e (.sees i f))).map V.str:=by
   show _=[V.str (Str.ofString "sees"),V.str (ns.getD i aX)]++(f.map fun j=>ns.getD j aX).map V.str;rw[ls];rfl
  have b0:f≠[]:=fun z=>by rw[z] at b1;exact absurd b1 (by show ¬ 0=_;omega)
  have hsp:f.Perm (iA ns.length (ws.getD i 0)):=by rw[hbt];exact hsm
  have aF:=nR P hi hsp b0;have hlw:=g4 aF;have hlt:=fE aF;have hsum:=et 30 (lr (fH ns e (.sees i f))) fun y hy=>(hlw.1 y hy).2.2;have h41:(lr (fH ns e (.sees i f))).length*31<=41*31:=A2 _ hlw.2.1;have h2000:(2000:Nat)<=sizeLine:=by decide
  refine⟨_,p8,lr (fH ns e (.sees i f)),rfl,rfl,aw.of (by rw[ag,e8]),?_,?_,?_⟩
  ·rw[bb];show ((lr (fH ns e (.sees i f))).map fun z=>z.length+1).sum<=_
   omega
  ·rw[bb]
   have:(lu (fH ns e (.sees i f))).length=(Str.join ⟨#[32]⟩ (lr (fH ns e (.sees i f)))).length:=rfl
   omega
  rw[bb];obtain⟨qq,hq1,hq2,eqq⟩:∃ a:Nat,mm<a/\a<=M.length/\1+(mm:Int)+x3 % ((M.length:Int) - (1+(mm:Int))+1)=(a:Int):=by
   have h0:=SL x3 (show ((M.length:Int) - (1+(mm:Int))+1)≠0 by omega)
   have h1:=F8 x3 (show (0:Int)<((M.length:Int) - (1+(mm:Int))+1) by omega)
   exact⟨(1+(mm:Int)+x3 % ((M.length:Int) - (1+(mm:Int))+1)).toNat,by omega,by omega,by omega⟩
  rw[eqq];have sA:=s711.trans sp8;refine⟨l,_,qq,_,rfl,rfl,sA _ _ Z,by rw[b7,b7];omega,by rw[b7,b7];exact hq2,?_⟩
  have hln:H l=none:=hl;refine⟨dJ M qq (.sees i f),_,_,_,_,_,_,rfl,(g.trans sA).set hln _,by rw[aH lo.symm];exact sA _ _ ho10,?_,?_,?_⟩
  ·rw[ag,Bm,Bm];rfl
  ·refine T.ins hi hnd hsp b0 (fun j hj=>?_) htd;have hj':j∈f++[i]:=by
    rcases h9.mp hj with z | z
    ·exact kb.mpr (.inr (eR.mpr z))
    ·exact kb.mpr (.inl z)
   exact(T.idx P (aR j hj')).2.2 qq (I1 (hmx j hj') hq1)
  ·unfold dJ;rw[fz,ot,xx,vr]
   omega
 rintro σ5 H5 ⟨M,y6,y8,y9,L,O,J,rfl,ab,ho5,hl5,T,hMl⟩;rw[ao] at T hMl;walk_at "s";refine q l M H5 ab hl5 ⟨T.ok,T.eX,T.nd,T.pm,fun i=>?_⟩ (by omega)
 rw[T.al i,Tx]
 have:i∈od↔i<ns.length:=by rw[bY.mem_iff,ka]
 rw[this]
theorem uL:DS (aj ji) ["book","names","counts","web","lines","i","some"] ["book"] ["range","len"]:=aO (by decide +kernel)
theorem Dy (B:Bn mg)(D:Def K mg "_law_shown" ji):Fn P w K mg base 1 "_law_shown" ["book"] wB:=by
 refine D.gq uL (fun _ _ _ _ _ _ us hl=>by obtain⟨_,rfl⟩:=fV hl;rfl) (fun vs H Q E h=>?_) ?_
 ·obtain⟨t,a,e,d,rfl,_⟩:=h;rfl
 intro X S e1 e2 e3 e4 e5 hc m hxe hr hu H vs Q E h;subst e1 e2 e3 e4 e5;obtain⟨b,a,e,d,rfl,⟨a1,a2,a3,hb,h1,h2,h3⟩,P,q⟩:=h;have h8:=P.nm.eD;refine⟨_,(af (yv (kv S 0) (GA hc (K:=X.K) (n:=3) rfl (aN (kg S 1) (aN (kg S 2) (aN (kg S 3) cC)))))
   (af (Fi (i:=4) S hc m (jE S 0 B.range (aa (cV S 1 (ay rfl) B.len oD (aa (kv S 1) ae)) ae)) (N:=["k","names","counts"]) (W:=["k"]) (G:=["str"]) (fv:=[none,some 1,some 2]) (by decide +kernel) (fun cl C fp s H l=>⟨(kg l 0),bo,(aS aU (aS aU (aS aU ba (bc (ak rfl) (kv l 1) (kv l 0) (fun _ _=>rfl))) ba) (fW l 0 bK B.str boot_str (aa (bc (ak rfl) (kv l 2) (kv l 0) (fun _ _=>rfl)) ae)))⟩) (by rw[m];decide +kernel) (by rw[dX,m];rfl))
   (af (fC hxe hc (jE S 0 B.range (aa (cV S 1 (ay rfl) B.len oD (aa (kv S 1) ae)) ae)) (kg S 5) (af (Fi (i:=6) S hc m (jE S 0 B.range (aa (cV S 1 (ay rfl) B.len oD (aa (kv S 1) ae)) ae)) (N:=["j","web","i","names"]) (W:=["j"]) (G:=[]) (fv:=[none,some 3,some 5,some 1]) (by decide +kernel) (fun cl C fp s H l=>⟨(kg l 0),(fe (aQ aW (bX (aS dj (bc (ak rfl) (kv l 1) (kv l 2) (fun _ _=>rfl)) (aS cS aq (kv l 0)))) aq (au _))),(bc (ak rfl) (kv l 3) (kv l 0) (fun _ _=>rfl))⟩) (by rw[m];decide +kernel) (by rw[dX,m];rfl))
   (ai (cA (aQ (iL hu rfl) (kv S 6) (eQ ae) (au _)) (ai (dm (ir qN nc nF bE rfl (kv S 4) (aa (ir AC KE Os (bF rfl) rfl ba (aa (aS (cZ rfl) (eQ (aa ba (aa (bc (ak rfl) (kv S 1) (kv S 5) (fun _ _=>rfl)) ae))) (kv S 6)) ae)) ae)))) ax))))
   (ai (aJ (ir AC KE Os (bF rfl) rfl ba (aa (kv S 4) ae))))))),?_⟩
 have h1000:(1000:Nat)<=sizeLine:=by decide
 have el:(Str.ofString "hat ").length=4:=by decide +kernel
 have Z:(Str.ofString " ").length=1:=by decide +kernel
 have hatF:∀ k,k<a.length->bG (a.getD k aX)=true/\(a.getD k aX).length<=12/\(Str.ofString (toString ((e.getD k 0:Nat):Int))).length<=30/\((e.getD k 0:Nat):Int).natAbs.log2<1920:=fun k hk=>by
  have bh:bG (a.getD k aX)=true/\0<e.getD k 0/\e.getD k 0<10 ^ 30:=o8 P hk;refine⟨bh.1,(dB bh.1).2.2,gL (dA bh.2.1 bh.2.2).1,?_⟩;rw[TL];exact(log2_lt (by omega)).mpr (TV bh.2.2 (by decide +kernel))
 walk_at "i";refine⟨b,_,rfl,aw.of hb,rfl,?_⟩;refine⟨_,_,rfl,⟨_,_,rfl,⟨_,_,rfl,⟨rfl,?_⟩⟩⟩⟩;walk_at "i";refine aV (.inl (aw.of h1)) ?_;rw[b7];walk_at "s";refine⟨(a.length:Int),rfl,by omega,by omega,?_⟩
 rw[u5];refine p5 jT (fun _=>true) (fun k=>.str (eC a e (.dS k))) (az (by omega)) ?_ ?_
 ·intro k H1 A B' hk hS hA _;obtain⟨f1,f2,f3,f4⟩:=hatF k hk;rw[Int.zero_add];walk_at "s";refine aC (aw.of (hS _ _ h1)) (aB (aP hk)) ?_;refine⟨_,_,rfl,rfl,by rw[el];omega,?_⟩
  refine⟨_,_,rfl,rfl,by rw[aD,el,Z];omega,?_⟩
  refine cW (aw.of (hS _ _ h2)) rfl (by rw[ao,P.lc];exact hk) ?_
  rw[aT];refine⟨_,rfl,f4,?_⟩;refine⟨_,_,rfl,rfl,by rw[aD,aD,el,Z];omega,?_⟩
  rw[kT];exact hA rfl _ (ah.refl _)
 intro r H1 hr0 s1 v;rw[bH] at v;have v:H1 r=some (.lst (((Br a d 0).map (eC a e)).map V.str)):=by
  rw[v];unfold Br;rw[range_zero,filter_nil,map_nil,Ui,ls,ls];rfl
 have hrn:H r=none:=hr0;walk_at "i";refine aV (.inl (aw.of (s1 _ _ h1))) ?_;rw[b7];refine forR a.length (Rm H b a1 a2 a3 r a e d) rfl (by omega) ⟨_,_,rfl,s1,v⟩ ?_ ?_
 ·rintro k σ H2 hk ⟨y5,y6,rfl,M,L⟩;have hsl:(Br a d k).length<=90:=by
   unfold Br
   have:=A5 (fun i=>decide (d.getD i 0≠0)) (List.range k)
   rw[j9] at this;rw[fz,b7,b7,j9]
   omega
  walk_at "i";refine aV (.inl (aw.of (M _ _ h1))) ?_;rw[b7];refine⟨(a.length:Int),rfl,by omega,by omega,?_⟩
  rw[u5];refine p5 jT (fun j=>decide (d.getD k 0 / 2 ^ j % 2=1)) (fun j=>.str (a.getD j aX)) (az (by omega)) ?_ ?_
  ·intro j H6 A B' hj hS6 hA hB;rw[Int.zero_add];walk_at "s";refine cW (aw.of (hS6 _ _ (M _ _ h3))) rfl (by rw[ao,P.lw];exact hk) ?_
   rw[aT];walk_at "s";have hpj:0<2 ^ j:=Nat.pow_pos (by decide)
   have hj8:2 ^ j<=2 ^ 8:=ri (by decide) (by omega)
   refine⟨eB (by omega),⟨by omega,?_⟩,?_⟩
   ·rw[TL];exact(log2_lt (by omega)).mpr (I1 hj8 (TM (by decide) (by decide)))
   refine bU (fun c=>?_) (fun c=>?_)
   ·refine aC (aw.of (hS6 _ _ (M _ _ h1))) (aB (aP hj)) ?_;exact hA (by rw[<-r4];exact c) _ (ah.refl _)
   ·exact hB (by rw[<-r4];exact Bool.eq_false_iff.mpr c) _ (ah.refl _)
  intro sa H6 hsa0 s6 p;have p:H6 sa=some (.lst (((iA a.length (d.getD k 0)).map fun j=>a.getD j aX).map V.str)):=by rw[p,ls];rfl
  have s26:=M.trans s6;have hr6:=s6 _ _ L;have hbm:∀ j∈iA a.length (d.getD k 0),j<a.length:=fun j hj=>(jB.mp hj).1;have R:∀ x∈(iA a.length (d.getD k 0)).map (fun j=>a.getD j aX),gK x:=fun x hx=>by
   obtain⟨j,hj,rfl⟩:=kc.mp hx;exact(dB (P.nm.nm _ (getD_memS (hbm j hj)))).1
  walk_at "s";refine⟨by decide,fun z hz=>?_⟩
  have sz:=ah.new hz (.lst []);refine⟨_,_,.lst (aw.of (sz _ _ p)) (jz _),.lst (aw.of ag) .nil,ue R,by decide,?_⟩
  rw[Bb];have u:=sz _ _ hr6;have I:=s26.trans sz;have o:=sz _ _ p;generalize upd H6 z (.lst [])=H7 at u I o ⊢;have f:=wA P hk
  by_cases c':d.getD k 0≠0
  ·have g:=nR P hk (List.Perm.refl _) (f.mpr c');have hne:=f.mpr c';generalize T:iA a.length (d.getD k 0)=bt at o g hne ⊢;rw[ek (show ¬ ((bt.map fun j=>a.getD j aX).map PyData.str=[]) from fun z=>hne (TU.mp (TU.mp z)))]
   walk_at "s";have hbl8:bt.length<=a.length:=by
    rw[<-T];unfold iA
    have:=A5 (fun j=>decide (d.getD k 0 / 2 ^ j % 2=1)) (List.range a.length)
    rw[j9] at this;exact this
   refine⟨.inl ⟨rfl,_,aw.of u⟩,rfl,?_⟩;refine aC (aw.of (I _ _ h1)) (aB (aP hk)) ?_;refine⟨by decide,fun p7 hp7=>?_⟩
   have U:=ah.new hp7 (.lst [V.str (Str.ofString "sees"),V.str (a.getD k aX)]);refine⟨p7,sa,_,_,rfl,rfl,aw.of ag,aw.of (U _ _ o),by rw[b7,b7];exact bN (by show 2+_<=100;omega),fun p8 hp8=>?_⟩
   have sp8:=ah.new hp8 (.lst ([V.str (Str.ofString "sees"),V.str (a.getD k aX)]++(bt.map fun j=>a.getD j aX).map V.str));have ab:=g4 g;have hlt:=fE g;have J:=et 30 (lr (fH a e (.sees k bt))) fun y hy=>(ab.1 y hy).2.2;have h41:(lr (fH a e (.sees k bt))).length*31<=41*31:=A2 _ ab.2.1;have h2000:(2000:Nat)<=sizeLine:=by decide
   refine⟨_,p8,lr (fH a e (.sees k bt)),rfl,rfl,aw.of (by rw[ag];rfl),?_,?_,?_⟩
   ·rw[bb];show ((lr (fH a e (.sees k bt))).map fun z=>z.length+1).sum<=_
    omega
   ·rw[bb]
    have:(lu (fH a e (.sees k bt))).length=(Str.join ⟨#[32]⟩ (lr (fH a e (.sees k bt)))).length:=rfl
    omega
   rw[bb];have sA:=U.trans sp8;refine⟨r,_,_,rfl,rfl,sA _ _ u,by rw[b7,b7];exact bN (by omega),?_⟩
   refine⟨_,_,rfl,(I.trans sA).set hrn _,?_⟩;rw[ag,kW,if_pos c',T,hU,hU];rfl
  ·have hnil:iA a.length (d.getD k 0)=[]:=q7 fun z=>c' (f.mp z);rw[hnil,ea (show (([]:List Nat).map fun j=>a.getD j aX).map PyData.str=[] from rfl)]
   walk_at "s";refine⟨_,_,rfl,I,?_⟩;rw[kW,if_neg c'];exact u
 rintro σ2 H2 ⟨y5,y6,rfl,M,L⟩;walk_at "s";have hM:=eW P;have hML:(bg a d).length<=16:=j5 fG (by omega)
 have en:(Str.ofString "\n")=⟨#[10]⟩:=by decide +kernel
 have Y:=hM.pb P;have emm:(bg a d).map (eC a e)=((bg a d).map (fH a e)).map lu:=by rw[ls];rfl
 have O:((bg a d).map (fH a e)).length<=100:=by rw[b7];omega
 have hbl:=fF Y O;have J:=et 1271 ((bg a d).map (eC a e)) fun y hy=>by
  obtain⟨x,hx,rfl⟩:=kc.mp hy;exact fE (hM.o9 P x hx)
 rw[b7] at J;have h16:(bg a d).length*1272<=16*1272:=A2 _ hML;have hbig:(1000000:Nat)<=sizeLine:=by decide
 have ebt:Str.join ⟨#[10]⟩ ((bg a d).map (eC a e))=eV ((bg a d).map (fH a e)):=by rw[emm];rfl
 refine⟨rfl,_,r,(bg a d).map (eC a e),rfl,rfl,aw.of L,?_,?_,?_⟩
 ·rw[en];show (((bg a d).map (eC a e)).map fun z=>z.length+1).sum<=_
  omega
 ·rw[en,ebt];omega
 rw[en,ebt];exact q H2 M
theorem RW {a b:Prop}[Decidable a][Decidable b]{x t:Prop}(hx:a->b->x)(ht:t):if a then (if b then x else t) else t:=by
 split
 ·split
  ·exact hx ‹_› ‹_›
  ·exact ht
 ·exact ht
theorem Ie (k:Nat):(1:Int)*2 ^ ((k:Nat):Int).toNat=((2 ^ k:Nat):Int):=by
 rw[Int.one_mul,u5];exact(Int.natCast_pow 2 k).symm
theorem xc {x i n:Nat}(h:i<n):x&&& (2 ^ i - 1)<2 ^ n/\(x&&& (2 ^ i - 1)).testBit i=false:=by
 rw[Nat.and_two_pow_sub_one_eq_mod];have h1:=mod_lt x (P3 i);exact⟨TV h1 (TM (by decide) h),Nat.testBit_lt_two_pow h1⟩
theorem uM:DS (aj jj) ["drawn","many","kind","i","every","half","few"] ["drawn","many","kind","i"] []:=aO (by decide +kernel)
theorem zV (B:Bn mg)(D:Def K mg "_law_sight" jj):Fn P w K mg base 1 "_law_sight" ["drawn","many","kind","i"] BG:=by
 refine D.gq uM (fun _ _ _ _ _ _ M e=>by obtain⟨_,_,_,_,rfl⟩:=CV e;rfl) (fun A H Q E h=>?_) ?_
 ·obtain⟨a,F,b,l,i,rfl,_⟩:=h;rfl
 intro X S t e2 v z y hc C G O hu H A Q E h;subst t e2 v z y;obtain⟨a,F,b,l,i,rfl,f,e,d,h1,N,hi,q⟩:=h;refine⟨_,(af (bp S 4 (aS cJ (aS cJ (aS cS aq (kv S 1)) aq) (aS cS aq (kv S 3))))
   (af (bp S 5 (rH (kv S 1)))
   (af (cA (aQ aW (kv S 2) aq (au _)) (ai (aJ (kv S 4))) ax)
   (af (cA (aQ aW (kv S 2) aq (au _)) (af (bp S 6 (aS dU (aS dU (bc (ak rfl) (kv S 0) (kv S 3) (fun _ _=>rfl)) (bc (ak rfl) (kv S 0) (aS aZ aq (kv S 3)) (fun _ _=>rfl))) (bc (ak rfl) (kv S 0) (aS aZ aq (kv S 3)) (fun _ _=>rfl))))
   (ai (aJ (aS dU (aS vp (aS cS aq (aS cR (aS aZ (kv S 3) aq) (kv S 1))) (kv S 6)) (kv S 4))))) ax)
   (af (cA (aQ aW (kv S 2) aq (au _)) (ai (aJ (aS dU (bc (ak rfl) (kv S 0) (kv S 3) (fun _ _=>rfl)) (aS cJ (aS cS aq (kv S 3)) aq)))) ax)
   (af (cA (yu (NO (aQ aW (kv S 2) aq (au _)) (Fh (aQ gG (kv S 3) (kv S 5) (au _))))) (ai (aJ (aS cJ (aS cJ (aS cS aq (kv S 5)) aq) (aS cS aq (kv S 3))))) ax)
   (af (cA (aQ aW (kv S 2) aq (au _)) (ai (aJ (aS dU (aS cS aq (aS aZ (kv S 5) (aS cR (aS aZ (aS cJ (kv S 3) (kv S 5)) aq) (aS cJ (kv S 1) (kv S 5))))) (kv S 4)))) ax)
   (af (cA (aQ aW (kv S 2) aq (au _)) (ai (aJ (aS dU (aS dU (bc (ak rfl) (kv S 0) (kv S 3) (fun _ _=>rfl)) (bc (ak rfl) (kv S 0) (aS aZ aq (kv S 3)) (fun _ _=>rfl))) (kv S 4)))) ax)
   (ai (aJ (aS dU (aS vp (bc (ak rfl) (kv S 0) (kv S 3) (fun _ _=>rfl)) (bc (ak rfl) (kv S 0) (aS aZ aq (kv S 3)) (fun _ _=>rfl))) (kv S 4)))))))))))),?_⟩
 walk_at "i";refine⟨eB (by omega),eB (by omega),?_⟩
 rw[BH hi];obtain⟨o,m⟩:=zB hi;have j:∀ x:Nat,Q (.int ((x&&& (2 ^ b - 1 - 2 ^ i):Nat):Int)) H:=fun x=>q _ (BI o m).1 (BI o m).2;have s:=q _ o m;generalize 2 ^ b - 1 - 2 ^ i=ev at s j ⊢;clear o m;walk_at "h";walk_at "h";refine bU (fun _=>s) (fun _=>?_);walk_at "h";refine bU (fun _=>?_) (fun _=>?_)
 ·walk_at "h";refine b9 f e d (by omega) (by omega) fun p=>?_
  refine b9 f e d (by omega) (by omega) fun r=>?_
  walk_at "s";refine b9 f e d (by omega) (by omega) fun L=>?_
  walk_at "s";rw[show ((i:Int)+1) % (b:Int)=(((i+1) % b:Nat):Int) by rw[Uy];rfl,Ie]
  have hm:(i+1) % b<b:=mod_lt _ h1;refine⟨by omega,eB (by omega),?_⟩
  rw[SF,JL];exact j _
 walk_at "h";refine bU (fun _=>?_) (fun _=>?_)
 ·refine b9 f e d (by omega) (by omega) fun p=>?_
  refine⟨eB (by omega),?_⟩
  rw[show ((2 ^ i:Nat):Int) - 1=((2 ^ i - 1:Nat):Int) by have:=P3 i;omega]
  walk_at "s";exact q _ (xc hi).1 (xc hi).2
 walk_at "h";have e2:(b:Int) / 2=((b / 2:Nat):Int):=rfl;rw[e2] at *;refine RW (fun _ c=>?_) ?_
 ·have c:i<b / 2:=by omega
  refine⟨eB (by omega),eB (by omega),?_⟩
  rw[Ie,BH c];have u:2 ^ (b / 2)<=2 ^ b:=ri (by decide) (Nat.div_le_self _ _)
  exact q _ (j6 (zB c).1 u) (zB c).2
 walk_at "h";refine bU (fun _=>?_) (fun _=>?_)
 ·have g:(0:Int)<(b:Int) - ((b / 2:Nat):Int):=by omega
  have J:=SL ((i:Int) - ((b / 2:Nat):Int)+1) (show (b:Int) - ((b / 2:Nat):Int)≠0 by omega)
  have I:=F8 ((i:Int) - ((b / 2:Nat):Int)+1) g;obtain⟨n,hn⟩:=ro (show 0<=((b / 2:Nat):Int)+((i:Int) - ((b / 2:Nat):Int)+1) % ((b:Int) - ((b / 2:Nat):Int)) by omega)
  refine⟨g,?_⟩;rw[hn,Ie,JL];exact⟨eB (by omega),j _⟩
 walk_at "h";refine bU (fun _=>?_) (fun _=>?_)
 ·refine b9 f e d (by omega) (by omega) fun p=>?_
  refine b9 f e d (by omega) (by omega) fun r=>?_
  walk_at "s";exact j _
 walk_at "s";refine b9 f e d (by omega) (by omega) fun p=>?_
 refine b9 f e d (by omega) (by omega) fun r=>?_
 walk_at "s";exact j _
theorem mx:DS (aj fk) ["drawn","kind","i"] ["drawn","kind","i"] ["_law_count"]:=aO (by decide +kernel)
theorem K4 (B:Bn mg)(D:Def K mg "_law_hat_count" fk)(xn:Fn P w K mg base 2 "_law_count" ["cell","k"] wm):Fn P w K mg base 3 "_law_hat_count" ["drawn","kind","i"] HD:=by
 refine D.gq mx (fun _ _ _ _ _ _ G f=>by obtain⟨_,_,_,rfl⟩:=i4 f;rfl) (fun v H Q E h=>?_) ?_
 ·obtain⟨a,A,d,i,rfl,_⟩:=h;rfl
 intro X S n e2 o u t hc z C F hu H v Q E h;subst n e2 o u t;obtain⟨a,A,d,i,rfl,j,f,b,hi,q⟩:=h;have e:(10:Nat) ^ 30=1000000000000000000000000000000:=by decide +kernel
 rw[e] at q;refine⟨_,(af (cA (aQ aW (kv S 1) aq (au _)) (ai (aJ aq)) ax)
   (af (cA (aQ aW (kv S 1) aq (au _)) (ai (aJ (aS aZ aq (bX (bc (ak rfl) (kv S 0) (kv S 2) (fun _ _=>rfl)))))) ax)
   (af (cA (aQ aW (kv S 1) aq (au _)) (ai (aJ (bc (ak rfl) (eQ (tf (ns:=[2,2,3,2,4,1]) (by decide +kernel))) (bX (bc (ak rfl) (kv S 0) (kv S 2) (fun _ _=>rfl))) (fun _ _=>rfl)))) ax)
   (ai (aJ (bZ S 0 xn F (aa (bc (ak rfl) (kv S 0) (kv S 2) (fun _ _=>rfl)) (aa (kv S 2) ae)))))))),?_⟩
 walk_at "d";refine bU (fun _=>q 2 H (ah.refl _) (by decide) (by decide)) (fun _=>?_)
 refine bU (fun _=>?_) (fun _=>?_)
 ·refine b9 j f b (by omega) (by omega) fun x=>?_
  walk_at "d";exact q (1+x % 6) H (ah.refl _) (by omega) (by omega)
 refine bU (fun _=>?_) (fun _=>?_)
 ·refine⟨by decide,fun p m=>?_⟩
  have l:=ah.new m (.lst [V.int 2,V.int 2,V.int 3,V.int 2,V.int 4,V.int 1]);refine b9 (l _ _ j) f b (by omega) (by omega) fun x=>?_
  walk_at "d";have hm:x % 6 < [2,2,3,2,4,1].length:=by show x % 6<6;omega
  have hb:∀ x∈[2,2,3,2,4,1],0<x/\x<1000000000000000000000000000000:=by decide +kernel
  refine aC (i:=((x % 6:Nat):Int)) (aw.of ag) (aB (show ((aA [2,2,3,2,4,1]).map V.int)[x % 6]?=some (.int (([2,2,3,2,4,1][x % 6]'hm:Nat):Int)) by unfold aA;rw[eG,eG,cc hm];rfl)) ?_
  exact q _ _ l (hb _ (p0 hm)).1 (hb _ (p0 hm)).2
 ·refine b9 j f b (by omega) (by omega) fun x=>?_
  exact⟨_,_,rfl,fun c y r g s=>q c y s r (by rw[<-e];exact g)⟩
def RX (H0:Hp)(a:Addr)(most kinds:Nat)(dr nm:Addr)(ns:List Str)(ht:Addr)(x35:Nat)(ca sg wa tu o se:Addr)(k:Nat)(σ:L2.St)(H:Hp):Prop:=∃ (ws:List Nat) (y14 y15 y16:Option V),σ=[some (.ref a),some (.int (most:Int)),some (.int (kinds:Int)),some (.ref dr),some (.ref nm),some (.int (ns.length:Int)),some (.ref ht),some (.int ((x35:Int) % 6)),some (.ref ca),some (.ref sg),some (.ref wa),some (.ref tu),some (.ref o),some (.ref se),y14,y15,y16]/\ah H0 H/\H se=some (.lst ((aA ws).map V.int))/\ws.length=k/\∀ j,j<k->ws.getD j 0<2 ^ ns.length/\(ws.getD j 0).testBit j=false
theorem uN:DS (aj jk) ["cells","most","kinds","drawn","names","many","hats","kind","counts","sights","web","turned","order","seen","i","mask","some"] ["cells","most","kinds"] ["_law_draws","_law_names","len","range","max","list","sum"]:=aO (by decide +kernel)
theorem zW (B:Bn mg)(D:Def K mg "_law_house" jk)(bY:Fn P w K mg base 1 "_law_draws" ["cell","count"] iY)(xo:Fn P w K mg base 2 "_law_names" ["cell","size"] Bi)(nE:Fn P w K mg base 3 "_law_hat_count" ["drawn","kind","i"] HD)(xp:Fn P w K mg base 1 "_law_sight" ["drawn","many","kind","i"] BG):Fn P w K mg base 4 "_law_house" ["cells","most","kinds"] (sC K):=by
 refine D.gq uN (fun _ _ _ _ _ _ us hl=>by obtain⟨_,_,_,rfl⟩:=i4 hl;rfl) (fun vs H Q E h=>?_) ?_
 ·obtain⟨a,xs,f,r,rfl,_⟩:=h;rfl
 intro X S e1 e2 e3 e4 e5 hc n hxe hr hu H vs Q E h;subst e1 e2 e3 e4 e5;obtain⟨a,xs,f,r,rfl,ha,hx3,m1,m8,k1,k6,q⟩:=h;obtain⟨c0,c1,c2,rfl⟩:∃ c0 c1 c2,xs=[c0,c1,c2]:=by
  match xs,hx3 with
  | [c0,c1,c2],_=>exact⟨c0,c1,c2,rfl⟩
 refine⟨_,(af (bp S 3 (bZ S 0 bY hr (aa (bc (ak rfl) (kv S 0) aq (fun _ _=>rfl)) (aa aq ae))))
   (af (bp S 4 (eQ ae))
   (af (cA (aQ qY (bX (bc (ak rfl) (kv S 3) aq (fun _ _=>rfl))) aq (au _)) (ai (bp S 4 (bZ S 1 xo hr (aa (rH (bc (ak rfl) (kv S 0) aq (fun _ _=>rfl))) (aa (aS aZ aq (aS cR (bc (ak rfl) (kv S 3) aq (fun _ _=>rfl)) (kv S 1))) ae))))) ax)
   (af (bp S 5 (cV S 2 (ay rfl) B.len oD (aa (kv S 4) ae)))
   (af (bp S 6 (bZ S 0 bY hr (aa (bc (ak rfl) (kv S 0) aq (fun _ _=>rfl)) (aa aq ae))))
   (af (bp S 7 (aS cR (bc (ak rfl) (kv S 3) aq (fun _ _=>rfl)) (kv S 2)))
   (af (Fi (i:=8) S hc n (jE S 3 B.range (aa (kv S 5) ae)) (N:=["i","hats","kind"]) (W:=["i"]) (G:=["_law_hat_count"]) (fv:=[none,some 6,some 7]) (by decide +kernel) (fun cl C fp s H g=>⟨(kg g 0),bo,(bZ g 0 nE hr (aa (kv g 1) (aa (kv g 2) (aa (kv g 0) ae))))⟩) (by rw[n];decide +kernel) (by rw[dX,n];rfl))
   (af (bp S 9 (bZ S 0 bY hr (aa (bc (ak rfl) (kv S 0) aq (fun _ _=>rfl)) (aa aq ae))))
   (af (bp S 7 (bX (bc (ak rfl) (kv S 3) aq (fun _ _=>rfl))))
   (af (Fi (i:=10) S hc n (jE S 3 B.range (aa (kv S 5) ae)) (N:=["i","sights","many","kind"]) (W:=["i"]) (G:=["_law_sight"]) (fv:=[none,some 9,some 5,some 7]) (by decide +kernel) (fun cl C fp s H g=>⟨(kg g 0),bo,(bZ g 0 xp hr (aa (kv g 1) (aa (kv g 2) (aa (kv g 3) (aa (kv g 0) ae)))))⟩) (by rw[n];decide +kernel) (by rw[dX,n];rfl))
   (af (bp S 11 (eQ (aa (aS cR (bc (ak rfl) (kv S 3) aq (fun _ _=>rfl)) (cV S 4 (Cf hc) B.max boot_max (aa aq (aa (kv S 5) ae)))) (aa (bX (bc (ak rfl) (kv S 3) aq (fun _ _=>rfl))) ae))))
   (af (bp S 12 (fW S 5 (eI hc) B.list boot_list (aa (fW S 3 gT B.range boot_range (aa (kv S 5) ae)) ae)))
   (af (bp S 12 (aS (cZ rfl) (ou (cN rfl) (kv S 12) (bD (bc (ak rfl) (kv S 11) aq (fun _ _=>rfl))) bC) (ou (cN rfl) (kv S 12) bC (bD (bc (ak rfl) (kv S 11) aq (fun _ _=>rfl))))))
   (af (cA (aQ aW (bc (ak rfl) (kv S 11) aq (fun _ _=>rfl)) aq (au _)) (ai (bp S 12 (N5 (kv S 12) (NM lA aq) rfl))) ax)
   (af (bp S 13 (eQ ae))
   (af (fC hxe hc (jE S 3 B.range (aa (kv S 5) ae)) (kg S 14) (af (bp S 15 (bc (ak rfl) (kv S 10) (bc (ak rfl) (kv S 12) (kv S 14) (fun _ _=>rfl)) (fun _ _=>rfl)))
   (af (Fi (i:=16) S hc n (jE S 3 B.range (aa (kv S 5) ae)) (N:=["j","mask","order"]) (W:=["j"]) (G:=[]) (fv:=[none,some 15,some 12]) (by decide +kernel) (fun cl C fp s H g=>⟨(kg g 0),(fe (aQ aW (bX (aS dj (kv g 1) (aS cS aq (bc (ak rfl) (kv g 2) (kv g 0) (fun _ _=>rfl))))) aq (au _))),(kv g 0)⟩) (by rw[n];decide +kernel) (by rw[dX,n];rfl))
   (ai (dm (ir qN nc nF bE rfl (kv S 13) (aa (cV S 6 (dF hc rfl) B.sum boot_sum (aa (iC S hc n (cw (kv S 16) rfl) (N:=["j"]) (W:=["j"]) (G:=[]) (fv:=[none]) (by decide +kernel) (fun cl C fp s H g=>⟨(kg g 0),bo,(aS cS aq (kv g 0))⟩)) ae)) ae)))))))
   (ai (aJ (eQ (aa (kv S 4) (aa (kv S 8) (aa (kv S 13) ae)))))))))))))))))))))),?_⟩
 walk_at "i";refine aC (i:=((0:Nat):Int)) ha (aB rfl) ?_;refine⟨_,40,rfl,by decide,fun dr dn H1 s1 hdr0 hdr M L=>?_⟩
 walk_at "i";refine⟨by decide,fun e0 he0=>?_⟩
 have s2:=s1.trans (ah.new he0 (.lst []));have t:=ah.new he0 (.lst []) _ _ hdr;have he2:upd H1 e0 (.lst []) e0=some (.lst []):=ag;generalize upd H1 e0 (.lst [])=H2 at s2 t he2 ⊢;walk_at "s";refine qz (fun σ' H'=>∃ (nm:Addr) (d:List Str),σ'=[some (.ref a),some (.int (f:Int)),some (.int (r:Int)),some (.ref dr),some (.ref nm),none,none,none,none,none,none,none,none,none,none,none,none]/\ah H2 H'/\H' nm=some (.lst (d.map V.str))/\Iv d f) ?_ ?_
 rotate_left
 ·intro R hR;walk_at "s";refine b9 t M L (by decide) (by decide) fun x=>?_
  walk_at "s";refine bU (fun _=>?_) (fun _=>hR _ _ ⟨e0,[],rfl,ah.refl _,he2,⟨zero_le _,.nil,(fun _ z=>nomatch z)⟩⟩);refine aC (i:=((0:Nat):Int)) (s2.seq ha) (aB rfl) ?_;walk_at "s";refine b9 t M L (by decide) (by decide) fun y=>?_
  walk_at "s";have hy:y % f<f:=mod_lt _ m1;refine⟨by omega,_,1+y % f,by rw[natCast_add,Uy];rfl,by omega,by omega,fun l d H3 s3 hl0 hl1 hne hN=>hR _ _ ⟨l,d,rfl,s3,hl1,pQ hN (by omega)⟩⟩
 rintro σ3 H3 ⟨nm,d,rfl,s3,hnm,hN⟩;have hn8:=hN.eD;have s13:=s2.trans s3;have I:=s3 _ _ t;clear t he2 he0 s2 s3 hdr0 hdr s1;walk_at "i";refine aV (.inl (aw.of hnm)) ?_;rw[b7];walk_at "i";refine aC (i:=((1:Nat):Int)) (s13.seq ha) (aB rfl) ?_;refine⟨_,8,rfl,by decide,fun ht hn H4 s4 _ hht hhl hhn=>?_⟩
 have s14:=s13.trans s4;walk_at "i";refine b9 (s4 _ _ I) M L (by decide) (by decide) fun x34=>?_
 refine⟨_,_,rfl,rfl,by omega,?_⟩
 walk_at "i";refine lcAny d.length rfl (by omega) (fun c=>0<c/\c<10 ^ 30) ?_ ?_
 ·intro i H5 A hi hS hA;walk_at "s";exact⟨ht,hn,_,i,rfl,hS _ _ hht,hhl,hhn,by omega,fun c H' s' h0 h1=>hA c H' s' ⟨h0,h1⟩⟩
 intro ca cs H5 hca0 s5 hca hcl hcok;have s15:=s14.trans s5;walk_at "i";refine aC (i:=((2:Nat):Int)) (s15.seq ha) (aB rfl) ?_;refine⟨_,24,rfl,by decide,fun sg sn H6 s6 _ hsg hsl hsn=>?_⟩
 have s16:=s15.trans s6;have s36:=(s4.trans s5).trans s6;walk_at "i";refine b9 (s36 _ _ I) M L (by decide) (by decide) fun x35=>?_
 walk_at "s";walk_at "i";refine FQ d.length rfl (by omega) (fun i x=>∃ m:Nat,x=(m:Int)/\m<2 ^ d.length/\m.testBit i=false) ?_ ?_
 ·intro i H7 A hi hS hA;walk_at "s";exact⟨sg,sn,d.length,_,i,rfl,hS _ _ hsg,hsl,hsn,by omega,by omega,hi,fun m h0 h1=>hA _ _ (ah.refl _) ⟨m,rfl,h0,h1⟩⟩
 intro wa row H7 hwa0 s7 hwa hrl hrow;have s17:=s16.trans s7;have s37:=s36.trans s7;walk_at "i";refine b9 (s37 _ _ I) M L (by decide) (by decide) fun x36=>?_
 have hmx:(0:Int)<(if (d.length:Int)>1 then (d.length:Int) else 1):=by split<;>omega
 refine⟨_,_,rfl,rfl,hmx,?_⟩;obtain⟨Z,hr0⟩:=ro (SL (x36:Int) (Int.ne_of_gt hmx));refine b9 (s37 _ _ I) M L (by decide) (by decide) fun x37=>?_
 walk_at "s";rw[hr0];refine⟨by decide,fun tu htu0=>?_⟩
 generalize u:upd H7 tu _=H8;obtain⟨st,htu⟩:=fX htu0 u;clear u htu0;walk_at "i";refine⟨d.length,rfl,by omega,fun rg hrg=>?_⟩
 generalize u:upd H8 rg _=H9;obtain⟨srg,hrg9⟩:=fX hrg u;refine⟨rg,d.length,rfl,hrg9,by omega,fun o ho=>?_⟩
 clear u;generalize u:upd H9 o _=H10;obtain⟨so,T⟩:=fX ho u;clear u;have T:H10 o=some (.lst ((aA (List.range d.length)).map V.int)):=T;have s8o:=srg.trans so;have s79:=st.trans s8o;have v:=s8o _ _ htu;walk_at "i";refine aC (i:=((0:Nat):Int)) (aw.of v) (aB rfl) ?_;walk_at "s";refine uq Z (aw.of T) fun o1 H11 t1 _ ho1=>?_;refine aC (i:=((0:Nat):Int)) (aw.of (t1 _ _ v)) (aB rfl) ?_;walk_at "s";refine BF Z (aw.of (t1 _ _ T)) fun o2 H12 t2 _ ho2=>?_;have hol:((aA (List.range d.length)).map V.int).length=d.length:=by rw[b7,ao,j9]
 refine⟨o1,o2,_,_,rfl,rfl,aw.of (t2 _ _ ho1),aw.of ho2,?_,fun o3 ho3=>?_⟩
 ·rw[vr,xx,hol];exact bN (by omega)
 generalize u:upd H12 o3 _=H13;obtain⟨t3,p⟩:=fX ho3 u;clear u;have p:H13 o3=some (.lst ((aA ((List.range d.length).drop Z++(List.range d.length).take Z)).map V.int)):=by
  rw[p];unfold aA;rw[<-Uv,<-Uv,<-map_take,<-map_take,<-hU,<-hU]
 have t13:=(t1.trans t2).trans t3;have s7e:=s79.trans t13;have aK:((List.range d.length).drop Z++(List.range d.length).take Z).Perm (List.range d.length):=by
  have:=List.perm_append_comm (l₁:=(List.range d.length).drop Z) (l₂:=(List.range d.length).take Z)
  rwa [TZ] at this
 have O:=t13 _ _ v;generalize (List.range d.length).drop Z++(List.range d.length).take Z=od0 at p aK;clear hol ho1 ho2 ho3 T v t1 t2 t3 t13 s79;walk_at "s";refine qz (fun σ' H'=>∃ (o:Addr) (J:List Nat),σ'=[some (.ref a),some (.int (f:Int)),some (.int (r:Int)),some (.ref dr),some (.ref nm),some (.int (d.length:Int)),some (.ref ht),some (.int ((x35:Int) % 6)),some (.ref ca),some (.ref sg),some (.ref wa),some (.ref tu),some (.ref o),none,none,none,none]/\ah H7 H'/\H' o=some (.lst ((aA J).map V.int))/\J.Perm (List.range d.length)) ?_ ?_
 rotate_left
 ·intro R hR;walk_at "s";refine aC (i:=((1:Nat):Int)) (aw.of O) (aB rfl) ?_;walk_at "s";refine bU (fun c=>?_) (fun c=>hR _ _ ⟨o3,od0,rfl,s7e,p,aK⟩);refine⟨trivial,o3,_,rfl,aw.of p,fun o4 ho4=>?_⟩;have so4:=ah.new ho4 (.lst ((aA od0).map V.int).reverse);refine hR _ _ ⟨o4,od0.reverse,rfl,s7e.trans so4,?_,(reverse_perm _).trans aK⟩;rw[ag];unfold aA;rw[<-Ur,<-Ur]
 clear O p aK s7e;rintro σ4 H14 ⟨o,J,rfl,s8,ho,hod⟩;have hodl:J.length=d.length:=by rw[hod.length_eq,j9]
 have hodn:J.Nodup:=hod.nodup_iff.mpr Uo;have hodi:∀ k,k<d.length->J.getD k 0<d.length:=fun k hk=>ka.mp (hod.mem_iff.mp (iy (by omega)))
 walk_at "i";refine⟨by decide,fun se Y=>?_⟩
 generalize u:upd H14 se _=H15;obtain⟨t5,hse⟩:=fX Y u;clear u;have s9:=s8.trans t5;have hseN:=s8.free Y;walk_at "i";refine forR d.length (RX H14 a f r dr nm d ht x35 ca sg wa tu o se) rfl (by omega) ⟨[],_,_,_,rfl,t5,hse,rfl,fun _ z=>absurd z (SZ _)⟩ ?_ ?_
 ·rintro k σ H16 hk ⟨ws,y14,y15,y16,rfl,u0,U,aR,ab⟩;walk_at "i";have hoA:=u0 _ _ ho;have hwA:=u0 _ _ (s8 _ _ hwa);have bh:=hodi k hk;refine cW (aw.of hoA) rfl (by rw[ao];omega) ?_
  rw[aT];refine cW (aw.of hwA) rfl (by omega) ?_
  obtain⟨m,hm,hm2,hmb⟩:=hrow _ bh;rw[hm];walk_at "i";refine Qm d.length (fun j=>m.testBit (J.getD j 0)) (fun j=>((j:Nat):Int)) rfl (by omega) ?_ ?_
  ·intro j H17 A B' hj hS hA hB;walk_at "s";refine cW (aw.of (hS _ _ hoA)) rfl (by rw[ao];omega) ?_
   rw[aT];have hjo:=hodi j hj;generalize J.getD j 0=oj at hA hB hjo ⊢;walk_at "s";have hpj:0<2 ^ oj:=P3 oj;have hj8:2 ^ oj<=2 ^ 8:=ri (by decide) (by omega)
   refine⟨eB (by omega),⟨by omega,?_⟩,?_⟩
   ·rw[TL];exact(log2_lt (by omega)).mpr (I1 hj8 (TM (by decide) (by decide)))
   refine bU (fun c=>hA c _ (ah.refl _)) (fun c=>hB (by simpa using c) _ (ah.refl _))
  intro sm H17 hsm0 u1 aF;have hnd:((List.range d.length).filter fun j=>m.testBit (J.getD j 0)).Nodup:=Uo.sublist filter_sublist;have av:∀ j∈(List.range d.length).filter (fun j=>m.testBit (J.getD j 0)),j<d.length/\m.testBit (J.getD j 0)=true:=fun j hj=>⟨ka.mp (qs.mp hj).1,(qs.mp hj).2⟩;have hsml:((List.range d.length).filter fun j=>m.testBit (J.getD j 0)).length<=8:=by
   refine j5 (A5 _ _) ?_;rw[j9];omega
  have aF:H17 sm=some (.lst ((aA ((List.range d.length).filter fun j=>m.testBit (J.getD j 0))).map V.int)):=aF;generalize (List.range d.length).filter (fun j=>m.testBit (J.getD j 0))=l at aF hnd av hsml;walk_at "s";have a0:=u1 _ _ U;refine⟨.inl ⟨rfl,_,aw.of a0⟩,?_⟩;refine Sz (fun _=>true) (fun i=>((2 ^ l.getD i 0:Nat):Int)) (aw.of aF) (by rw[ao];exact az (by omega)) ?_ ?_
  ·intro i H18 A B' hi hS hA _;rw[ao] at hi;rw[aT]
   have:=(av _ (iy hi)).1
   walk_at "s";exact⟨eB (by omega),hA rfl _ (ah.refl _)⟩
  intro ac H18 hac0 u2 hac;rw[bH,ao] at hac;have u02:=u0.trans (u1.trans u2);have esum:((List.range l.length).map fun i=>((2 ^ l.getD i 0:Nat):Int)).sum=((mask l:Nat):Int):=by
   have:=Ba l
   rwa [ao] at this
  refine ox (aw.of hac) ?_;rw[esum];refine⟨se,_,_,rfl,rfl,u2 _ _ a0,by rw[b7,ao];exact bN (by omega),?_⟩
  rw[oX];refine⟨_,_,_,_,rfl,u02.set Y _,ag,by rw[fz,aR];rfl,fun j hj=>?_⟩
  by_cases e:j<k
  ·rw[b5,FM (by omega),<-b5]
   exact ab j e
  ·obtain rfl:j=k:=by omega
   rw[b5,BN (by omega),aR,Nat.sub_self]
   refine⟨A9 hnd fun i hi=>(av i hi).1,?_⟩;show (mask l).testBit j=false;rw[cO hnd];exact ek fun z=>by
    have:=(av j z).2
    rw[hmb] at this;cases this
 rintro σ H16 ⟨ws,y14,y15,y16,rfl,u0,U,aR,ab⟩;walk_at "s";have s1e:=s17.trans (s8.trans u0);have s3e:=s37.trans (s8.trans u0);have s5e:=(s6.trans s7).trans (s8.trans u0);refine⟨by decide,fun b hb=>?_⟩
 generalize u:upd H16 b _=H17;obtain⟨t6,hb'⟩:=fX hb u;refine q b d cs ws _ (s1e.trans t6) ⟨nm,ca,se,hb',t6 _ _ (s3e _ _ hnm),t6 _ _ (s5e _ _ hca),t6 _ _ U⟩ ⟨pQ hN m8,hcl,aR,hcok,fun j hj=>(ab j (by omega)).1,fun j hj=>?_⟩ hn8
 have:=(ab j (by omega)).2
 rw[r4] at this
 have:=of_decide_eq_false this
 omega
theorem uO:DS (aj jl) ["found"] ["found"] ["isinstance","list","len"]:=aO (by decide +kernel)
theorem Ig (B:Bn mg)(D:Def K mg "_law_texts" jl):Fn P w K mg base 1 "_law_texts" ["found"] jD:=by
 refine D.gq uO (fun _ _ _ _ _ _ F f=>by obtain⟨_,rfl⟩:=fV f;rfl) (fun t H Q E h=>?_) ?_
 ·obtain⟨p,a,rfl,_⟩:=h;rfl
 intro X S m e2 n r o hc e u z hu H t Q E h;subst m e2 n r o;obtain⟨p,a,rfl,d,f,q⟩:=h;refine⟨_,(ai (aJ (kK (cV S 0 rG B.isinstance boot_isinstance (aa (kv S 0) (aa (S5 S 1 B.list boot_list) ae))) (lJ (fB aW (cV S 2 (ay rfl) B.len oD (aa (iC S hc e (cw (kv S 0) rfl) (N:=["row"]) (W:=["row"]) (G:=["isinstance","str"]) (fv:=[none]) (by decide +kernel) (fun y C v s H c=>⟨(kg c 0),(fe (iN (iu (cV c 0 rG B.isinstance boot_isinstance (aa (kv c 0) (aa (S5 c 1 B.str boot_str) ae)))))),(kv c 0)⟩)) ae)) aq (au _)))))),?_⟩
 walk_at "d";refine Fs (NQ d) rfl ?_;walk_at "d";refine⟨p,rfl,⟨_,aw.of d⟩,Oz (bP (aw.of d)) (by rw[b7];exact az (by omega)) ?_ ?_⟩
 ·intro i H1 I A hi x g;rw[b7] at hi;rw[show (a.map V.str).getD i .bx=.str (a.getD i aX) by rw[b5,aP hi];rfl]
  walk_at "d";refine Fs rfl rfl ?_;walk_at "d";exact g
 ·intro j H1 l b;refine aV (.inl (aw.of b)) ?_;walk_at "d";exact q H1 l
theorem qA:DS (aj ib) ["rows","names","found","row","words"] ["rows","names"] ["len","tuple"]:=aO (by decide +kernel)
theorem K5 (B:Bn mg)(D:Def K mg "_law_groups" ib):Fn P w K mg base 1 "_law_groups" ["rows","names"] (HE K):=by
 refine D.gq qA (fun _ _ _ _ _ _ us hl=>by obtain⟨_,_,rfl⟩:=fj hl;rfl) (fun vs H Q E h=>?_) ?_
 ·obtain⟨r,nm,c,L,rfl,_⟩:=h;rfl
 intro X S e1 e2 e3 e4 e5 hc hsc hxe hr hu H vs Q E h;subst e1 e2 e3 e4 e5;obtain⟨r,nm,c,L,rfl,hr0,hnm,G,q⟩:=h;refine⟨_,(af (bp S 2 (eQ ae))
   (af (fC hxe hc (cw (kv S 0) rfl) (kg S 3) (af (bp S 4 (ir AC T9 type_str_split eh rfl (kv S 3) (aa ba ae)))
   (af (cA (yu (yt (aQ (eE rfl) (bc (ak rfl) (kv S 4) aq (fun _ _=>rfl)) (rJ (aa ba (aa ba ae))) (by with_unfolding_all rfl)) (nq (aQ gG (cV S 0 (ay rfl) B.len oD (aa (kv S 4) ae)) aq (au _))))) (ai (aJ lI)) ax)
   (af (cA (aQ (iL hu rfl) (iC S hc hsc (cw (ou (cN rfl) (kv S 4) (bD aq) bC) rfl) (N:=["word","names"]) (W:=["word"]) (G:=[]) (fv:=[none,some 1]) (by decide +kernel) (fun cl C fp s H R=>⟨(kg R 0),(fe (aQ (eE rfl) (kv R 0) (kv R 1) (by with_unfolding_all rfl))),(kv R 0)⟩)) (eQ ae) (au _)) (ai (aJ lI)) ax)
   (ai (dm (ir qN nc nF bE rfl (kv S 2) (aa (rJ (aa (bc (ak rfl) (kv S 4) aq (fun _ _=>rfl)) (aa (fW S 1 (gY rfl) B.tuple C6 (aa (iC S hc hsc (cw (ou (cN rfl) (kv S 4) (bD aq) bC) rfl) (N:=["word","names"]) (W:=["word"]) (G:=[]) (fv:=[none,some 1]) (by decide +kernel) (fun cl C fp s H R=>⟨(kg R 0),bo,(ir qN slot_list_index type_list_index (lT rfl) rfl (kv R 1) (aa (kv R 0) ae))⟩)) ae)) ae))) ae))))))))
   (ai (aJ (fW S 1 (gY rfl) B.tuple C6 (aa (kv S 2) ae)))))),?_⟩
 walk_at "i";refine⟨by decide,fun f hf0=>?_⟩
 generalize d:upd H f _=H1;obtain⟨s1,hf⟩:=fX hf0 d;clear d;walk_at "i";refine LQ (RH X.K H r nm f L) (aw.of (s1 _ _ hr0)) ⟨[],_,_,rfl,s1,hf,trivial⟩ (fun k σ H' h=>by obtain⟨us,y3,y4,_,s,_⟩:=h;exact aw.of (s _ _ hr0)) ?_ ?_
 ·rintro k v σ H2 hv ⟨us,y3,y4,rfl,s2,Bv,J⟩;obtain⟨g,hg,rfl⟩:∃ g,L[k]?=some g/\v=.str (Hu c g):=by
   rw[eG,eG] at hv
   cases e:L[k]? with
   | none=>rw[e] at hv;cases hv
   | some x=>rw[e] at hv;cases hv;exact⟨x,rfl,rfl⟩
  obtain⟨Z,gne⟩:=G.each g (hO hg);have h8:=Z.eD;have I:=s2 _ _ hnm;obtain⟨b,l⟩:=g;have n:∀ x∈kd b::l.map (fun i=>c.getD i aX),32∉cz x/\x.length<=12:=fun x hx=>by
   rcases h9.mp hx with rfl | hx
   ·cases b<;>decide +kernel
   ·obtain⟨i,hi,rfl⟩:=kc.mp hx
    have:=G.nm.nm _ (getD_memS (Z.lt i hi))
    exact⟨(eM this).1,(dB this).2.2⟩
  have hsp:=eL 32 (cons_ne_nil _ _) fun x hx=>(n x hx).1;have hjl:=dO 32 12 _ fun x hx=>(n x hx).2;rw[ot,b7] at hjl;have hl8:l.length<=8:=h8;have hbig:(1000:Nat)<=sizeLine:=by decide
  walk_at "i";rw[bb];refine⟨rfl,_,_,rfl,rfl,by decide,?_,?_,fun w hw0=>?_⟩
  ·show (Str.join ⟨#[32]⟩ (kd b::l.map fun i=>c.getD i aX)).length+2<=_
   omega
  ·show (Txt.split (Str.join ⟨#[32]⟩ (kd b::l.map fun i=>c.getD i aX)) ⟨#[32]⟩).length<=_;rw[hsp,ot,b7];omega
  generalize d:upd H2 w _=H3;obtain⟨s3,hw⟩:=fX hw0 d;clear d;have hw:H3 w=some (.lst ((kd b::l.map fun i=>c.getD i aX).map V.str)):=by rw[hw];show some (HO.lst ((Txt.split (Str.join ⟨#[32]⟩ (kd b::l.map fun i=>c.getD i aX)) ⟨#[32]⟩).map V.str))=_;rw[hsp]
  walk_at "i";refine aC (i:=((0:Nat):Int)) (aw.of hw) (aB rfl) ?_;walk_at "s";refine⟨by decide,fun p hp0=>?_⟩
  generalize d:upd H3 p _=H4;obtain⟨s4,hp⟩:=fX hp0 d;clear d;refine lS (neg:=true) (a:=["circle","ring"]) (.inr (aE.of hp)) ?_;have hk:decide (kd b∈(["circle","ring"]:List Str))=true:=by cases b<;>decide +kernel
  rw[if_pos rfl,hk];walk_at "s";have hw4:=s4 _ _ hw;refine aV (.inl (aw.of hw4)) ?_;rw[b7,ot,b7];walk_at "s";have hl1:1<=l.length:=Do.mpr gne;rw[if_neg (by omega)]
  walk_at "i";refine uq 1 (aw.of hw4) fun v5 H5 s5 _ M=>?_;have M:H5 v5=some (.lst ((l.map fun i=>c.getD i aX).map V.str)):=M;have s25:=(s3.trans s4).trans s5;have inN:∀ i,i<l.length->(l.map fun i=>c.getD i aX).getD i aX=c.getD (l.getD i 0) aX/\l.getD i 0<c.length:=fun i hi=>by
   refine⟨?_,Z.lt _ (iy hi)⟩;rw[b5,eG,cc hi,b5 (l:=l),cc hi];rfl
  have itm:∀ i,i<l.length->((l.map fun i=>c.getD i aX).map V.str).getD i .bx=.str (c.getD (l.getD i 0) aX):=fun i hi=>by
   rw[b5,aP (by rw[b7];exact hi),(inN i hi).1];rfl
  refine⟨v5,rfl,⟨_,aw.of M⟩,Oz (bP (aw.of M)) (by rw[b7,b7];exact az (by omega)) ?_ ?_⟩
  ·intro i H6 B' A hi hS hB;rw[b7,b7] at hi;rw[itm i hi];walk_at "s";refine lS (neg:=true) (.inl (aw.of (hS _ _ (s25 _ _ I)))) ?_;rw[if_pos rfl,ea (getD_memS (inN i hi).2)];walk_at "s";exact hB
  intro n6 H6 s6 hn6;refine⟨by decide,fun n7 hn70=>?_⟩
  generalize d:upd H6 n7 _=H7;obtain⟨s7,hn7⟩:=fX hn70 d;clear d;refine fZ (l:=[]) (m:=[]) (aw.of (s7 _ _ hn6)) (aw.of hn7) (fun _ z=>nomatch z) (fun _ z=>nomatch z) ?_;walk_at "s";have s27:=s25.trans (s6.trans s7);have hf7:=s27 _ _ Bv;refine⟨.inl ⟨rfl,_,aw.of hf7⟩,?_⟩;have hw7:=((s4.trans s5).trans (s6.trans s7)) _ _ hw;refine aC (i:=((0:Nat):Int)) (aw.of hw7) (aB rfl) ?_;refine uq 1 (aw.of hw7) fun v8 H8 s8 _ O=>?_;have O:H8 v8=some (.lst ((l.map fun i=>c.getD i aX).map V.str)):=O;have s28:=s27.trans s8;refine⟨v8,rfl,⟨_,aw.of O⟩,p5 (bP (aw.of O)) (fun _=>true) (fun i=>.int ((l.getD i 0:Nat):Int)) (by rw[b7,b7];exact az (by omega)) ?_ ?_⟩
  ·intro i H9 A B' hi hS hA _;rw[b7,b7] at hi;rw[itm i hi];obtain⟨_,Y⟩:=inN i hi;walk_at "s";refine⟨.inl ⟨rfl,_,aw.of (hS _ _ (s28 _ _ I))⟩,nm,c,_,rfl,rfl,aw.of (hS _ _ (s28 _ _ I)),getD_memS Y,?_⟩;have hix:c.idxOf (c.getD (l.getD i 0) aX)=l.getD i 0:=by
    rw[b5,cc Y];exact G.nm.nd.idxOf_getElem _ Y
   rw[hix];exact hA rfl _ (ah.refl _)
  intro ac H9 hac0 s9 hac;rw[bH,b7,b7,cy (fun j=>V.int ((j:Nat):Int)),show (l.map fun j=>V.int ((j:Nat):Int))=(aA l).map V.int by unfold aA;rw[ls];rfl] at hac
  refine⟨ac,_,rfl,aw.of hac,fun t o ht oc od=>?_⟩;generalize d:upd H9 t _=H10;obtain⟨s10,ht'⟩:=fX ht d;clear d;refine⟨by decide,fun u hu0=>?_⟩
  generalize d:upd H10 u _=H11;obtain⟨U,hu'⟩:=fX hu0 d;clear d;have y:=s28.trans (s9.trans (s10.trans U));have T:=y _ _ Bv;refine⟨f,us,_,rfl,rfl,T,?_,?_⟩
  ·rw[J.length,xx];have:=G.eD;exact bN (by omega)
  refine⟨us++[.ref u],_,_,rfl,(s2.trans y).set hf0 _,ag,?_⟩
  have:L.take (k+1)=L.take k++[(b,l)]:=by rw[take_succ,hg];rfl
  rw[this];refine GF.cK T (GF.append (J.mono y) ⟨⟨u,t,rfl,aE.of hu',.inl (.inr ⟨o,U _ _ ht'⟩),.inr ⟨o,_,U _ _ ht',oc,od⟩⟩,trivial⟩)
 rintro σ H2 ⟨us,y3,y4,rfl,s2,Bv,J⟩;rw[b7,b7,Tx] at J;walk_at "s";refine⟨f,_,rfl,aw.of Bv,fun t o ht oc od=>?_⟩;have st:=ah.new ht (.iW o (.tup us));exact q t us _ (s2.trans st) (.inl (.inr ⟨o,ag⟩)) (J.mono st)
theorem nD:DS (aj fR) ["web","people","ahead","i"] ["web","people"] ["sorted","list","range","len"]:=aO (by decide +kernel)
theorem Ih (B:Bn mg)(D:Def K mg "_law_is_order" fR):Fn P w K mg base 1 "_law_is_order" ["web","people"] (BK K):=by
 refine D.gq nD (fun _ _ _ _ _ _ Y U=>by obtain⟨_,_,rfl⟩:=fj U;rfl) (fun N H Q E h=>?_) ?_
 ·obtain⟨w,p,c,l,rfl,_⟩:=h;rfl
 intro X S I e2 J M L hc R o hr hu H N Q E h;subst I e2 J M L;obtain⟨O,p,c,order,rfl,C,m,Z,x,G,q⟩:=h;have b:=yK x;refine⟨_,(af (bp S 2 aq)
   (af (fC o hc (dY (kv S 1) rfl) (kg S 3) (af (cA (aQ kA (aS dU (bc (aI rfl) (kv S 0) (kv S 3) (fun _ _=>rfl)) (NM Nd (kv S 2))) aq (au _)) (ai (aJ vF)) ax)
   (ai (bp S 2 (aS vp (kv S 2) (aS cS aq (kv S 3)))))))
   (ai (aJ (fB (iK hu rfl) (cV S 0 (tH rfl) B.sorted boot_sorted (aa (kv S 1) ae)) (fW S 1 (eI hc) B.list boot_list (aa (fW S 2 gT B.range boot_range (aa (cV S 3 (ay rfl) B.len oD (aa (kv S 0) ae)) ae)) ae)) (au _)))))),?_⟩
 walk_at "d";refine Ft (QK H O p order) m ⟨rfl,0,none,rfl,by simp⟩ (fun k σ A h=>by rw[h.1];exact m) ?_ ?_
 ·rintro k σ A hk ⟨i,a,y,rfl,t⟩;rw[ao] at hk;rw[i,aT];have hx:order.getD k 0<c.length:=(b.2.2 _).mp (dH hk);walk_at "d";refine dw C rfl (by rw[ao];exact hx) ?_
  rw[aT];walk_at "d";rw[sub_zero fun j hj=>(t j).mpr (G k hk j hj)];rw[if_neg (by decide)]
  refine⟨eB (by omega),rfl,a||| 2 ^ order.getD k 0,some (.int ((order.getD k 0:Nat):Int)),rfl,fun j=>?_⟩
  rw[testBit_or,KB,Pi,t,take_snoc 0 hk,kb,eR,k0];exact⟨fun z=>z.elim .inl fun z=>.inr z.symm,fun z=>z.elim .inl fun z=>.inr z.symm⟩
 rintro σ A ⟨i,a,y,rfl,t⟩;walk_at "d";rw[i];refine⟨p,aA order,rfl,.inr m,by rw[ao,b.2.1];omega,fun s n W e d=>?_⟩
 have u:=ah.new W (.lst (n.map V.int));refine aV (.inr (u.aL C)) ?_;rw[b7,ao];walk_at "d";refine⟨c.length,rfl,by omega,fun g v=>?_⟩
 have F:=u.trans (ah.new v (.Iz 0 c.length));refine⟨g,c.length,rfl,ag,by omega,fun r f=>?_⟩
 have T:=F.trans (ah.new f (.lst ((aA (List.range c.length)).map V.int)));refine⟨_,_,.lst (aw.of ((ah.new f _) _ _ ((ah.new v _) _ _ ag))) (dE.ints n),.lst (aw.of ag) (dE.ints (aA (List.range c.length))),fu _,fu _,?_⟩;rw[vH,ea (show n=aA (List.range c.length) from tK e d x)]
 exact q _ T
theorem lg:DS (aj eO) ["desk","names","web","ring","order","words","people"] ["desk","names","web"] ["_law_texts","len","int","tuple","is_ring","_law_is_order"]:=aO (by decide +kernel)
theorem Dz (B:Bn mg)(aR:fh K mg "Hall" av ["counts","groups","worn"])(bq:fh K mg "Desk" aK ["book","hall"])(D:Def K mg "_law_sight_told" eO)(bJ:nT P w K mg base 7 aK "ask" ["self","line"] (l9 K av aK))(cI:Fn P w K mg base 1 "_law_texts" ["found"] jD)(mB:Fn P w K mg base 2 "is_ring" ["web","people"] (N3 K))(pW:Fn P w K mg base 1 "_law_is_order" ["web","people"] (BK K)):Fn P w K mg base 8 "_law_sight_told" ["desk","names","web"] (pv K av aK):=by
 refine D.gq lg (fun _ _ _ _ _ _ us hl=>by obtain⟨_,_,_,rfl⟩:=i4 hl;rfl) (fun vs H Q E h=>?_) ?_
 ·obtain⟨d,hl,Z,w,e,cs,ws,L,hs,rfl,_⟩:=h;rfl
 intro X S e1 e2 e3 e4 e5 hc hsc hxe hr hu H vs Q E h;subst e1 e2 e3 e4 e5;obtain⟨d,hl,Z,w,e,cs,ws,L,hs,rfl,hD,D,Y,hw,q⟩:=h;have P:=D.xg;obtain⟨⟨dx,bk,hd,_⟩,_⟩:=id hD;refine⟨_,(af (bp S 3 (xN bq bJ df hr (kv S 0) (aa ba ae)))
   (af (bp S 4 (xN bq bJ df hr (kv S 0) (aa ba ae)))
   (af (cA (yu (yt (iN (iu (bZ S 0 cI hr (aa (kv S 3) ae)))) (yt (iN (iu (bZ S 0 cI hr (aa (kv S 4) ae)))) (nq (aQ kA (cV S 1 (ay rfl) B.len oD (aa (aS (cZ rfl) (kv S 3) (kv S 4)) ae)) (fW S 2 rf B.int boot_int (aa (fB qY (cV S 1 (ay rfl) B.len oD (aa (kv S 1) ae)) aq (au _)) ae)) (au _)))))) (ai (aJ vF)) ax)
   (af (bp S 5 (ir AC T9 type_str_split eh rfl (ir AC KE Os (bF rfl) rfl ba (aa (aS (cZ rfl) (kv S 3) (kv S 4)) ae)) (aa ba ae)))
   (af (cA (aQ (iL hu rfl) (iC S hc hsc (cw (kv S 5) rfl) (N:=["word","names"]) (W:=["word"]) (G:=[]) (fv:=[none,some 1]) (by decide +kernel) (fun cl C fp s H S2=>⟨(kg S2 0),(fe (aQ (eE rfl) (kv S2 0) (kv S2 1) (by with_unfolding_all rfl))),(kv S2 0)⟩)) (eQ ae) (au _)) (ai (aJ (kK (fB (iK hu rfl) (kv S 1) (eQ ae) (au _)) (lJ (fB (iK hu rfl) (kv S 5) (eQ (aa ba ae)) (au _)))))) ax)
   (af (bp S 6 (fW S 3 (bu rfl) B.tuple C6 (aa (iC S hc hsc (cw (kv S 5) rfl) (N:=["word","names"]) (W:=["word"]) (G:=[]) (fv:=[none,some 1]) (by decide +kernel) (fun cl C fp s H S2=>⟨(kg S2 0),bo,(ir qN slot_list_index type_list_index (lT rfl) rfl (kv S2 1) (aa (kv S2 0) ae))⟩)) ae)))
   (af (cA (aQ (iL hu rfl) (kv S 3) (eQ ae) (au _)) (ai (aJ (bZ S 4 mB hr (aa (kv S 2) (aa (kv S 6) ae))))) ax)
   (ai (aJ (bZ S 5 pW hr (aa (kv S 2) (aa (kv S 6) ae)))))))))))),?_⟩
 walk_at "i";refine fq (hd) i6 ?_;refine i7 (.told .ring) (hD) D trivial fun l1 r1 H1 s1 _ f T1=>?_;walk_at "i";refine fq (s1 _ _ hd) i6 ?_;refine i7 (.told .order) (hD.mono s1) D trivial fun l2 r2 H2 s2 _ n T2=>?_;have f:=s2 _ _ f;have o:=s1.trans s2;clear s1 s2;obtain⟨l,M,R,lns,lend⟩:=zC P T1 T2;clear T1 T2;walk_at "i";have hr12:(cG e l).length<=1:=by unfold cG;split<;>exact Uh rfl
 rw[<-M,fz] at hr12;refine i8 (f) (by omega) fun H3 s3=>?_
 walk_at "s";refine i8 (s3 _ _ n) (by omega) fun H4 s4=>?_
 have aF:=s3.trans s4;have f:=aF _ _ f;have n:=aF _ _ n;have s14:=o.trans aF;clear s3 s4 aF o;walk_at "s";have a3:r1.map V.str++r2.map V.str=(cG e l).map V.str:=by rw[<-hU,M]
 refine⟨l1,l2,_,_,rfl,rfl,aw.of f,aw.of n,by rw[b7,b7];exact bN (by omega),fun c hc0=>?_⟩
 rw[a3];generalize b:upd H4 c _=H5;obtain⟨s5,hc5⟩:=fX hc0 b;clear b;refine aV (.inl (aw.of hc5)) ?_;have s15:=s14.trans s5;refine aV (.inl (aw.of (s15 _ _ Y))) ?_;rw[b7,b7];walk_at "s";refine .inr ⟨_,rfl,?_⟩;have hlen:((cG e l).length:Int)=if decide (0<(e.length:Int)) then 1 else 0:=by
  unfold cG
  by_cases z:l=[]
  ·rw[if_pos z,lns.mp z];rfl
  ·have:0<e.length:=Do.mpr fun y=>z (lns.mpr y)
   rw[if_neg z,ea (by omega)];rfl
 rw[<-hlen];walk_at "s";have f:=s5 _ _ f;have n:=s5 _ _ n;walk_at "h";rw[bb];refine⟨rfl,l1,l2,_,_,rfl,rfl,aw.of f,aw.of n,by rw[b7,b7];exact bN (by omega),fun c2 hc20=>?_⟩
 rw[a3];generalize b:upd H5 c2 _=H6;obtain⟨s6,hc6⟩:=fX hc20 b;clear b;have a0:=s15.trans s6;have f:=s6 _ _ f;clear n hc5 s6 hc0 hc20;have J:∀ x∈l.map (fun i=>e.getD i aX),32∉cz x/\x.length<=12:=fun x hx=>by
  obtain⟨i,hi,rfl⟩:=kc.mp hx
  have:=P.nm.nm _ (getD_memS (R.lt i hi))
  exact⟨(eM this).1,(dB this).2.2⟩
 have hjl:=dO 32 12 _ fun x hx=>(J x hx).2;rw[b7] at hjl;have hl8:=R.eD;have hbig:(1000:Nat)<=sizeLine:=by decide
 by_cases z:l=[]
 ·have zn:=lns.mp z;subst z;have ew:Txt.split (Str.join ⟨#[32]⟩ (cG e [])) ⟨#[32]⟩=[Str.ofString ""]:=by show Txt.split (Str.join ⟨#[32]⟩ []) ⟨#[32]⟩=_;decide +kernel
  have ej:Str.join ⟨#[32]⟩ (cG e [])=Str.ofString "":=by show Str.join ⟨#[32]⟩ []=_;decide +kernel
  refine⟨_,c2,cG e [],rfl,rfl,aw.of hc6,by show 0<=_;omega,by rw[ej];decide +kernel,rfl,?_⟩
  refine⟨_,_,rfl,rfl,by decide,by rw[ej];decide +kernel,by rw[ew];decide +kernel,fun w6 hw0=>?_⟩
  rw[ew];generalize b:upd H6 w6 _=H7;obtain⟨s7,p⟩:=fX hw0 b;clear b;have O:=a0.trans s7;have u:H7 Z=some (.lst []):=by rw[O _ _ Y,zn];rfl
  walk_at "i";refine⟨w6,rfl,⟨_,aw.of p⟩,p5 (bP (aw.of p)) (fun _=>true) (fun _=>.str (Str.ofString "")) (by decide) ?_ ?_⟩
  ·intro i H8 A B' hi hS hA _;have hi:i<1:=hi;obtain rfl:i=0:=by omega
   walk_at "s";refine lS (neg:=true) (a:=[]) (.inl (aw.of (hS _ _ u))) ?_;rw[if_pos rfl,ek (not_mem_nil)];walk_at "s";exact hA rfl _ (ah.refl _)
  intro ac H8 _ s8 I;have I:H8 ac=some (.lst ([Str.ofString ""].map V.str)):=I;refine⟨by decide,fun n9 g=>?_⟩
  generalize b:upd H8 n9 _=H9;obtain⟨s9,hn9⟩:=fX g b;clear b;have ce:∀ x∈[Str.ofString ""],iB x:=fun x hx=>by rw[eR.mp hx];exact fun c hc=>nomatch hc
  refine fZ (m:=[]) (aw.of (s9 _ _ I)) (aw.of hn9) ce (fun _ z=>nomatch z) ?_;rw[ek (cons_ne_nil _ _)];walk_at "s";have T:=O.trans (s8.trans s9);refine⟨by decide,fun n10 g=>?_⟩
  generalize b:upd H9 n10 _=ab;obtain⟨v,hn10⟩:=fX g b;clear b;refine k8 (l:=[]) (m:=[]) (aw.of (v _ _ ((s8.trans s9) _ _ u))) (aw.of hn10) (fun _ z=>nomatch z) (fun _ z=>nomatch z) ?_;walk_at "s";refine⟨by decide,fun n11 g=>?_⟩
  generalize b:upd ab n11 _=H11;obtain⟨U,hn11⟩:=fX g b;clear b;refine k8 (l:=[Str.ofString ""]) (m:=[Str.ofString ""]) (aw.of (U _ _ (v _ _ ((s8.trans s9) _ _ p)))) (aw.of hn11) ce ce ?_;rw[ea rfl];exact q _ (T.trans (v.trans U))
 ·have er:cG e l=[di e l]:=by unfold cG;rw[if_neg z]
  have zl:l.map (fun i=>e.getD i aX)≠[]:=fun y=>z (TU.mp y);have ew:Txt.split (di e l) ⟨#[32]⟩=l.map (fun i=>e.getD i aX):=eL 32 zl fun x hx=>(J x hx).1;have elen:(di e l).length<=8*13:=j5 hjl (A2 _ hl8);rw[er] at hc6;refine⟨_,c2,[di e l],rfl,rfl,aw.of hc6,?_,?_,rfl,?_⟩
  ·show (di e l).length+1+0<=_
   omega
  ·show (di e l).length<=_
   omega
  refine⟨di e l,_,rfl,rfl,by decide,by omega,by rw[ew,b7];omega,fun w6 hw0=>?_⟩
  rw[ew];generalize b:upd H6 w6 _=H7;obtain⟨s7,p⟩:=fX hw0 b;clear b;have O:=a0.trans s7;have u:=O _ _ Y;have inN:∀ i,i<l.length->l.getD i 0<e.length:=fun i hi=>R.lt _ (iy hi);have itm:∀ i,i<l.length->((l.map fun i=>e.getD i aX).map V.str).getD i .bx=.str (e.getD (l.getD i 0) aX):=fun i hi=>by
   rw[b5,aP (by rw[b7];exact hi)]
   show V.str ((l.map fun i=>e.getD i aX).getD i aX)=_;rw[b5,eG,cc hi,b5 (l:=l),cc hi];rfl
  walk_at "i";refine⟨w6,rfl,⟨_,aw.of p⟩,Oz (bP (aw.of p)) (by rw[b7,b7];exact az (by omega)) ?_ ?_⟩
  ·intro i H8 B' A hi hS hB;rw[b7,b7] at hi;rw[itm i hi];walk_at "s";refine lS (neg:=true) (.inl (aw.of (hS _ _ u))) ?_;rw[if_pos rfl,ea (getD_memS (inN i hi))];walk_at "s";exact hB
  intro n6 H8 s8 hn6;refine⟨by decide,fun n9 g=>?_⟩
  generalize b:upd H8 n9 _=H9;obtain⟨s9,hn9⟩:=fX g b;clear b;refine fZ (l:=[]) (m:=[]) (aw.of (s9 _ _ hn6)) (aw.of hn9) (fun _ z=>nomatch z) (fun _ z=>nomatch z) ?_;walk_at "s";have s79:=s8.trans s9;have T:=O.trans s79;have hw9:=s79 _ _ p;walk_at "h";refine⟨w6,rfl,⟨_,aw.of hw9⟩,p5 (bP (aw.of hw9)) (fun _=>true) (fun i=>.int ((l.getD i 0:Nat):Int)) (by rw[b7,b7];exact az (by omega)) ?_ ?_⟩
  ·intro i ab A B' hi hS hA _;rw[b7,b7] at hi;rw[itm i hi];have hlt:=inN i hi;walk_at "s";refine⟨.inl ⟨rfl,_,aw.of (hS _ _ (T _ _ Y))⟩,Z,e,_,rfl,rfl,aw.of (hS _ _ (T _ _ Y)),getD_memS hlt,?_⟩;have hix:e.idxOf (e.getD (l.getD i 0) aX)=l.getD i 0:=by
    rw[b5,cc hlt];exact P.nm.nd.idxOf_getElem _ hlt
   rw[hix];exact hA rfl _ (ah.refl _)
  intro ac ab _ v I;rw[bH,b7,b7,cy (fun j=>V.int ((j:Nat):Int)),show (l.map fun j=>V.int ((j:Nat):Int))=(aA l).map V.int by unfold aA;rw[ls];rfl] at I
  refine gj (aw.of I) fun t ht0=>?_;generalize b:upd ab t _=H11;obtain⟨U,ht⟩:=fX ht0 b;clear b;have s111:=T.trans (v.trans U);have s611:=(s7.trans s79).trans (v.trans U);walk_at "i";refine⟨by decide,fun Mu g=>?_⟩
  generalize b:upd H11 Mu _=H12;obtain⟨o,hn12⟩:=fX g b;clear b;have r:=s111.trans o;have h8:ws.length<=8:=by rw[P.lw];exact P.nm.eD
  have c1:∀ x∈r1,iB x:=fun x hx=>wQ P.nm.nm R x (by rw[<-M];exact Ud _ hx)
  refine fZ (m:=[]) (aw.of (o _ _ (s611 _ _ f))) (aw.of hn12) c1 (fun _ z=>nomatch z) ?_
  rcases lend with ⟨n1,hR⟩ | ⟨n1,rfl,hF⟩
  ·rw[ek n1];walk_at "s";exact⟨w,t,ws,l,rfl,r.aL hw,aE.of (o _ _ ht),h8,by omega,fun i hi=>by rw[P.lw];exact R.lt i hi,fun H13 s13=>by rw[hR];exact q _ (r.trans s13)⟩
  ·rw[ea n1];walk_at "s";obtain⟨m,hL,_⟩:=ee ws;have hll:(laidOut ws).length=ws.length:=by
    have:=um hL.nd hL.lt
    omega
   exact⟨w,t,ws,laidOut ws,rfl,r.aL hw,aE.of (o _ _ ht),h8,JT hL.nd hll hL.lt,hL.ok,fun H13 s13=>q _ (r.trans s13)⟩
def RY (st:L2.St)(H0:Hp)(_:Nat)(σ:L2.St)(H:Hp):Prop:=∃ y:Option V,σ=st++[y]/\ah H0 H
theorem uP:DS (aj jn) ["desk","book","groups","names","counts","web","many","over","under","rows","word"] ["desk","book","groups"] ["group_fault","tuple","made_sure","str","best_groups","share","_law_texts","_law_shown","len","_law_sight_told"]:=aO (by decide +kernel)
theorem Ii (B:Bn mg)(aR:fh K mg "Hall" av ["counts","groups","worn"])(bq:fh K mg "Desk" aK ["book","hall"])(D:Def K mg "_law_looks" jn)(gE:Fn P w K mg base 4 "group_fault" ["counts","web","groups"] (oO K))(dP:Fn P w K mg base 5 "made_sure" ["counts","groups"] (tQ K))(gF:Fn P w K mg base 7 "best_groups" ["counts","web"] (OH K))(lh:Fn P w K mg base 2 "share" ["counts"] (nK K))(bJ:nT P w K mg base 7 aK "ask" ["self","line"] (l9 K av aK))(cI:Fn P w K mg base 1 "_law_texts" ["found"] jD)(xq:Fn P w K mg base 1 "_law_shown" ["book"] wB)(mC:Fn P w K mg base 8 "_law_sight_told" ["desk","names","web"] (pv K av aK)):Fn P w K mg base 9 "_law_looks" ["desk","book","groups"] (BL K av aK):=by
 refine D.gq uP (fun _ _ _ _ _ _ us hl=>by obtain⟨_,_,_,rfl⟩:=i4 hl;rfl) (fun vs H Q E h=>?_) ?_
 ·obtain⟨d,hl,b,g,ns,e,ws,us,L,hs,rfl,_⟩:=h;rfl
 intro X S e1 e2 e3 e4 e5 hc hsc hxe R hu H vs Q E h;subst e1 e2 e3 e4 e5;obtain⟨d,hl,b,g,ns,e,ws,us,L,hs,rfl,hD,D,⟨n1,n2,n3,hb,a3,O,a6⟩,hg,hL,q⟩:=h;have P:=D.xg;have f:=P.wM;have h8:=P.nm.eD;have hwl:ws.length=(aA e).length:=by rw[P.lw,P.len]
 obtain⟨⟨dx,bk,hd,_⟩,_⟩:=id hD;refine⟨_,(af (yv (kv S 1) (GA hc (K:=X.K) (n:=3) rfl (aN (kg S 3) (aN (kg S 4) (aN (kg S 5) cC)))))
   (af (cA (aQ oA (bZ S 0 gE R (aa (fW S 1 (bu rfl) B.tuple C6 (aa (kv S 4) ae)) (aa (fW S 1 (bu rfl) B.tuple C6 (aa (kv S 5) ae)) (aa (kv S 2) ae)))) lI (au _)) (ai (aJ vF)) ax)
   (af (bp S 6 (bZ S 2 dP R (aa (fW S 1 (bu rfl) B.tuple C6 (aa (kv S 4) ae)) (aa (kv S 2) ae))))
   (af (cA (yu (yt (aQ (iL hu rfl) (xN bq bJ df R (kv S 0) (aa ba ae)) (eQ (aa (fW S 3 bK B.str boot_str (aa (kv S 6) ae)) ae)) (au _)) (nq (aQ kA (kv S 6) (bZ S 2 dP R (aa (fW S 1 (bu rfl) B.tuple C6 (aa (kv S 4) ae)) (aa (bZ S 4 gF R (aa (fW S 1 (bu rfl) B.tuple C6 (aa (kv S 4) ae)) (aa (fW S 1 (bu rfl) B.tuple C6 (aa (kv S 5) ae)) ae))) ae))) (au _))))) (ai (aJ vF)) ax)
   (af (yv (bZ S 5 lh R (aa (fW S 1 (bu rfl) B.tuple C6 (aa (kv S 4) ae)) ae)) (jU hc (K:=X.K) (n:=2) rfl (aN (kg S 7) (aN (kg S 8) cC))))
   (af (cA (aQ (iL hu rfl) (xN bq bJ df R (kv S 0) (aa ba ae)) (eQ (aa (aS aU (aS aU (fW S 3 bK B.str boot_str (aa (kv S 7) ae)) ba) (fW S 3 bK B.str boot_str (aa (kv S 8) ae))) ae)) (au _)) (ai (aJ vF)) ax)
   (af (bp S 9 (xN bq bJ df R (kv S 0) (aa ba ae)))
   (af (cA (yu (yt (iN (iu (bZ S 6 cI R (aa (kv S 9) ae)))) (yt (aQ kA (ir AC KE Os (bF rfl) rfl ba (aa (kv S 9) ae)) (bZ S 7 xq R (aa (kv S 1) ae)) (au _)) (nq (aQ gG (cV S 8 (ay rfl) B.len oD (aa (kv S 9) ae)) (cV S 8 (ay rfl) B.len oD (aa (kv S 3) ae)) (au _)))))) (ai (aJ vF)) ax)
   (af (fC hxe hc (cw (eQ (AV (ns:=["sure","share","groups","ring","order","book"]) (by decide +kernel))) rfl) (kg S 10) (ai (dm (ir qN nc nF bE rfl (xN bq bJ df R (kv S 0) (aa (kv S 10) ae)) (aa ba ae)))))
   (ai (aJ (kK (Sv (fB qY (cV S 8 (ay rfl) B.len oD (aa (kv S 3) ae)) aq (au _)) (lJ (fB (iK hu rfl) (kv S 9) (eQ ae) (au _)))) (lJ (bZ S 9 mC R (aa (kv S 0) (aa (kv S 3) (aa (fW S 1 (bu rfl) B.tuple C6 (aa (kv S 5) ae)) ae))))))))))))))))),?_⟩
 walk_at "i";refine⟨b,_,rfl,aw.of hb,rfl,?_⟩;refine⟨_,_,rfl,⟨_,_,rfl,⟨_,_,rfl,⟨rfl,?_⟩⟩⟩⟩;walk_at "i";refine gj (aw.of O) fun Y hc1=>?_;generalize a:upd H Y _=H1;obtain⟨s1,hc1'⟩:=fX hc1 a;clear a;refine gj (aw.of (s1 _ _ a6)) fun w1 hw1=>?_;generalize a:upd H1 w1 _=H2;obtain⟨s2,hw1'⟩:=fX hw1 a;clear a;have r:=s1.trans s2;refine⟨Y,w1,g,aA e,ws,us,gI L,rfl,aE.of (s2 _ _ hc1'),aE.of hw1',r.aL hg,(hL.mono r).gi,hwl,f.len,D.RI,by rw[zi];have:=D.eD;omega,fun H3 s3=>?_⟩
 rw[show CD (aA e) ws [] 0 (gI L)=none from pq D.best.1]
 have N:=r.trans s3;clear s1 s2 s3 r hc1' hw1' hc1 hw1;walk_at "s";show mL .bx .bx H3 _;walk_at "s";have bh:∀ g∈L,FU (aA e).length g:=fun g hg=>⟨(D.best.1.each g hg).ok.lt,D.g8 g hg⟩;walk_at "h";refine gj (aw.of (N _ _ O)) fun c2 hc2=>?_;generalize a:upd H3 c2 _=H4;obtain⟨s4,hc2'⟩:=fX hc2 a;clear a;have C:=N.trans s4;refine⟨c2,g,aA e,us,L,rfl,aE.of hc2',C.aL hg,(hL.mono C).gl,f,bh,by have:=D.eD;omega,fun H5 s5=>?_⟩
 have A:=C.trans s5;clear s4 s5 N C hc2' hc2;rw[show (L.map (oJ (aA e))).sum=(L.map (jx (aA e))).sum from rfl]
 have hnn:0<=(L.map (jx (aA e))).sum:=D.best.1.nn;obtain⟨t1,t2⟩:=c6 hnn D.BE (by decide)
 walk_at "i";refine fq (A _ _ hd) i6 ?_;refine i7 (.told .sure) (hD.mono A) D trivial fun l1 r1 H6 s6 _ hl1 T1=>?_;have T1:r1=_:=T1;subst T1;have M:=A.trans s6;walk_at "s";refine⟨_,rfl,t2,?_⟩;walk_at "s";refine⟨by decide,fun l2 hl20=>?_⟩
 generalize a:upd H6 l2 _=H7;obtain⟨s7,a5⟩:=fX hl20 a;clear a;have a5:H7 l2=some (.lst ([fL (L.map (jx (aA e))).sum].map V.str)):=a5;have Y:∀ x∈[fL (L.map (jx (aA e))).sum],iB x:=fun x hx=>by rw[eR.mp hx];exact iB.fL hnn
 refine fZ (aw.of (s7 _ _ hl1)) (aw.of a5) Y Y ?_;rw[ea rfl];walk_at "s";have o:=M.trans s7;clear s6 s7 M A hl1 a5 hl20 Y;refine gj (aw.of (o _ _ O)) fun c3 hc3=>?_;generalize a:upd H7 c3 _=H8;obtain⟨s8,hc3'⟩:=fX hc3 a;clear a;refine gj (aw.of (s8 _ _ (o _ _ O))) fun c4 hc4=>?_;generalize a:upd H8 c4 _=H9;obtain⟨s9,hc4'⟩:=fX hc4 a;clear a;refine⟨n3,_,rfl,.inl ⟨aw.of (s9 _ _ (s8 _ _ (o _ _ a6))),fun w4 hw4=>?_⟩⟩;generalize a:upd H9 w4 _=H10;obtain⟨ab,hw4'⟩:=fX hw4 a;clear a;have s110:=o.trans (s8.trans (s9.trans ab));refine⟨c4,w4,aA e,ws,rfl,aE.of (ab _ _ hc4'),aE.of hw4',f,hwl,P.HA,fun g2 us2 a4 H11 s11 hg2 hL2 Z=>?_⟩;have e12:(a4.map (jx (aA e))).sum=(L.map (jx (aA e))).sum:=(KL f.pos Z D.best :);have s111:=s110.trans s11;have D2:bz ns e ws a4 hs:=⟨P,Z,D.eX⟩;refine⟨c3,g2,aA e,us2,a4,rfl,aE.of (s11 _ _ (ab _ _ (s9 _ _ hc3'))),hg2,hL2.gl,f,fun g hg=>⟨(Z.1.each g hg).ok.lt,D2.g8 g hg⟩,by have:=D2.eD;omega,fun H12 r=>?_⟩
 rw[show (a4.map (oJ (aA e))).sum=(L.map (jx (aA e))).sum from e12]
 have U:=s111.trans r;clear s8 s9 ab s11 r s110 s111 hc3 hc4 hw4 hc3' hc4' hw4' hg2 hL2 Z D2 e12 o;walk_at "i";refine gj (aw.of (U _ _ O)) fun c5 hc5=>?_;generalize a:upd H12 c5 _=H13;obtain⟨N,hc5'⟩:=fX hc5 a;clear a;refine⟨c5,aA e,rfl,aE.of hc5',f,fun t H14 C ht=>?_⟩;have G:=U.trans (N.trans C);clear N C hc5 hc5' U;walk_at "s";refine⟨t,_,rfl,aE.of ht,rfl,?_⟩;refine⟨_,_,rfl,⟨_,_,rfl,⟨rfl,?_⟩⟩⟩;obtain⟨a1,a2⟩:=c6 (tD f) (Fx f) (by decide)
 obtain⟨b1,b2⟩:=c6 (show 0<=LK (aA e) by have:=lL f;omega) (yC f) (by decide)
 walk_at "i";refine fq (G _ _ hd) i6 ?_;refine i7 (.told .share) (hD.mono G) D trivial fun l3 r3 H15 A _ hl3 T3=>?_;have T3:r3=_:=T3;subst T3;have s115:=G.trans A;have hbig:(1000:Nat)<=sizeLine:=by decide
 have el:(Str.ofString "/").length=1:=by decide +kernel
 walk_at "s";refine⟨_,rfl,a2,?_⟩;refine⟨_,_,rfl,rfl,by rw[el];show (fL _).length+1<=_;omega,?_⟩
 refine⟨_,rfl,b2,?_⟩;refine⟨_,_,rfl,rfl,by rw[aD,el];show (fL _).length+1+(fL _).length<=_;omega,?_⟩
 refine⟨by decide,fun l4 hl40=>?_⟩
 generalize a:upd H15 l4 _=H16;obtain⟨M,aF⟩:=fX hl40 a;clear a;have aF:H16 l4=some (.lst ([uj (aA e)].map V.str)):=aF;have Y:∀ x∈[uj (aA e)],iB x:=fun x hx=>by
  rw[eR.mp hx];exact((iB.fL (tD f)).app (by unfold iB;decide +kernel)).app (iB.fL (by have:=lL f;omega))
 refine fZ (aw.of (M _ _ hl3)) (aw.of aF) Y Y ?_;rw[ea rfl];have I:=s115.trans M;clear A M s115 G hl3 aF hl40 Y ht;walk_at "i";refine fq (I _ _ hd) i6 ?_;refine i7 (.told .book) (hD.mono I) D trivial fun l5 W H17 o hl50 i T5=>?_;have T5:W=kU _:=T5;have hM:=eW P;have hML:(bg ns ws).length<=16:=j5 fG (by omega)
 have hlen:((bg ns ws).map (fH ns e)).length<=100:=by rw[b7];omega
 have T:=hM.pb P;have hbl:=fF T hlen;rw[g5 T] at T5;have hr5l:W.length=(bg ns ws).length:=by rw[T5,b7,b7]
 have hr5n:ns.length<=W.length:=by
  rw[hr5l];unfold bg;rw[fz,b7,j9]
  omega
 have ej:Str.join ⟨#[10]⟩ W=eV ((bg ns ws).map (fH ns e)):=by rw[T5];rfl
 have hsum:(W.map fun z=>z.length+1).sum<=W.length*1272:=et 1271 W fun y hy=>by
  rw[T5] at hy;obtain⟨x,hx,rfl⟩:=kc.mp hy;exact fE (T x hx)
 have h16:W.length*1272<=16*1272:=A2 _ (by omega)
 have hmil:(1000000:Nat)<=sizeLine:=by decide
 have s117:=I.trans o;clear o I;walk_at "i";refine i8 (i) (by omega) fun H18 s18=>?_
 have i:=s18 _ _ i;have j:=s117.trans s18;walk_at "s";have en:(Str.ofString "\n")=⟨#[10]⟩:=by decide +kernel
 rw[en];refine⟨rfl,_,l5,W,rfl,rfl,aw.of i,j5 hsum (by omega),by rw[ej];omega,?_⟩
 rw[ej];refine⟨b,ns,e,ws,rfl,⟨n1,n2,n3,j _ _ hb,j _ _ a3,j _ _ O,j _ _ a6⟩,P,fun H19 s19=>?_⟩;have i:=s19 _ _ i;have s119:=j.trans s19;walk_at "s";refine aV (.inl (aw.of i)) ?_;refine aV (.inl (aw.of (s119 _ _ a3))) ?_;rw[b7,b7];walk_at "s";rw[if_neg (by omega)]
 walk_at "i";clear s117 j s18 s19 en ej hsum h16 hbl;refine⟨by decide,fun p hp0=>?_⟩
 generalize a:upd H19 p _=H20;obtain⟨s20,hp⟩:=fX hp0 a;clear a;have hp:H20 p=some (.lst (Mw.map V.str)):=hp;have s120:=s119.trans s20;have i:=s20 _ _ i;refine LQ (RY [some (.ref d),some (.ref b),some (.ref g),some (.ref n1),some (.ref n2),some (.ref n3),some (.int (L.map (jx (aA e))).sum),some (.int (O6 (aA e))),some (.int (LK (aA e))),some (.ref l5)] H20) (aw.of hp) ⟨_,rfl,ah.refl _⟩ (fun k σ H' h=>by obtain⟨y,_,s⟩:=h;exact aw.of (s _ _ hp)) ?_ ?_
 ·rintro k v σ H21 hv ⟨y,rfl,u⟩;rw[KN hv];have u1:=s120.trans u;walk_at "s";refine fq (u1 _ _ hd) i6 ?_;refine i7 (.told (My k)) (hD.mono u1) D trivial fun l6 r6 J a0 hl60 hl6 T6=>?_
  have:=HF D T6
  walk_at "s";refine⟨.inl ⟨rfl,_,aw.of hl6⟩,l6,_,_,rfl,rfl,hl6,by rw[b7];exact bN (by omega),?_⟩
  exact⟨_,rfl,u.trans (a0.set hl60 _)⟩
 rintro σ H21 ⟨y,rfl,u⟩;have u1:=s120.trans u;walk_at "s";refine aV (.inl (aw.of (u1 _ _ a3))) ?_;rw[b7];have fin:∀ J,ah H J->yq X.K [V.ref n3] J fun x H1=>pv X.K av aK [.ref d,.ref n1,x] H1 Q E0:=fun J u2=>by
  refine gj (aw.of (u2 _ _ a6)) fun t ht0=>?_;have st:=ah.new ht0 (.tup ((aA ws).map V.int));have u3:=u2.trans st;exact⟨d,hl,n1,t,ns,e,ws,L,hs,rfl,hD.mono u3,D,u3 _ _ a3,aE.of ag,fun H' s'=>q H' (u3.trans s')⟩
 walk_at "s";refine bU (fun _=>fin H21 u1) (fun c=>?_);have hr0:W=[]:=by
  have hn0:ns.length=0:=by omega
  refine Fk.mp ?_
  have:=fG (ns:=ns) (ws:=ws)
  omega
 refine⟨by decide,fun n22 hn0=>?_⟩
 generalize a:upd H21 n22 _=J;obtain⟨a0,hn22⟩:=fX hn0 a;clear a;rw[hr0] at i;refine k8 (l:=[]) (m:=[]) (aw.of (a0 _ _ (u _ _ i))) (aw.of hn22) (fun _ z=>nomatch z) (fun _ z=>nomatch z) ?_;walk_at "s";exact fin J (u1.trans a0)
def RZ (H:Hp)(d h2 b dr n1 n2 n3:Addr)(i:Nat)(ns:List Str)(cs:List Nat)(L:List (Bool × List Nat))(hs:List Int)(a:AK)(σ':L2.St)(H':Hp):Prop:=∃ (du:Addr) (R:List Str),σ'=[some (.ref d),some (.ref h2),some (.ref b),some (.ref dr),some (.ref n1),some (.ref n2),some (.ref n3),some (.int (i:Int)),some (.str (Str.join ⟨#[32]⟩ (dR ns a))),some (.ref du),none,none]/\ah H H'/\H' du=some (.lst (R.map V.str))/\RJ ns cs L hs i a R
def R0 (K:Frag)(cH:Addr)(H:Hp)(d h2 c g b dr n1 n2 n3:Addr)(us:List V)(i:Nat)(ns:List Str)(cs:List Nat)(L:List (Bool × List Nat))(hs:List Int)(σ':L2.St)(H':Hp):Prop:=∃ (a:AK) (R:List Str) (du:Addr) (y10:Option V),σ'=[some (.ref d),some (.ref h2),some (.ref b),some (.ref dr),some (.ref n1),some (.ref n2),some (.ref n3),some (.int (i:Int)),some (.str (Str.join ⟨#[32]⟩ (dR ns a))),some (.ref du),y10,none]/\H' du=some (.lst (R.map V.str))/\su ns a/\((ah H H'/\RJ ns cs L hs i a R)∨∃ col:Nat,a=.put i col/\R=[]/\col<cs.getD i 0/\Off h2 H H'/\bV K cH H' h2 c g (aA cs) us (hs.set i (col:Int)))
theorem xf:DS (aj ke) ["desk","hall","book","drawn","names","counts","web","i","line","due","colour","found"] ["desk","hall","book","drawn"] ["len","str","_law_texts"]:=aO (by decide +kernel)
theorem K6 (B:Bn mg)(aR:fh K mg "Hall" av ["counts","groups","worn"])(bq:fh K mg "Desk" aK ["book","hall"])(D:Def K mg "_law_step" ke)(eA:nT P w K mg base 4 av "guess" ["self","i"] (kX K av))(ij:nT P w K mg base 5 av "right" ["self"] (mq K av))(kq:nT P w K mg base 3 av "put" ["self","i","colour"] (uk K av))(bJ:nT P w K mg base 7 aK "ask" ["self","line"] (l9 K av aK))(cI:Fn P w K mg base 1 "_law_texts" ["found"] jD):Fn P w K mg base 8 "_law_step" ["desk","hall","book","drawn"] (HG K av aK):=by
 refine D.gq xf (fun _ _ _ _ _ _ us hl=>by obtain⟨_,_,_,_,rfl⟩:=CV hl;rfl) (fun vs H Q E h=>?_) ?_
 ·obtain⟨d,hl,h2,c,g,b,dr,us,r,O,ws,L,hs,dn,rfl,_⟩:=h;rfl
 intro X S e1 e2 e3 e4 e5 hc hsc hxe hr hu H vs Q E h;subst e1 e2 e3 e4 e5;obtain⟨d,hl,h2,c,g,b,dr,us,r,O,ws,L,hs,dn,rfl,T,D,⟨n1,n2,n3,hb,hn1,hn2,hn3⟩,hdr,hdl,hnn,hne,q⟩:=h;have P:=D.xg;have hcs:=P.wM;have h8:=P.nm.eD;have hpos:0<r.length:=Do.mpr hne;refine⟨_,(af (yv (kv S 2) (GA hc (K:=X.K) (n:=3) rfl (aN (kg S 4) (aN (kg S 5) (aN (kg S 6) cC)))))
   (af (bp S 7 (aS cR (bc (ak rfl) (kv S 3) aq (fun _ _=>rfl)) (cV S 0 (ay rfl) B.len oD (aa (kv S 4) ae))))
   (af (bp S 8 (bc (ak rfl) (eQ (aa ba (aa (aS aU ba (bc (ak rfl) (kv S 4) (kv S 7) (fun _ _=>rfl))) (aa (aS aU ba (bc (ak rfl) (kv S 4) (kv S 7) (fun _ _=>rfl))) ae)))) (bX (bc (ak rfl) (kv S 3) aq (fun _ _=>rfl))) (fun _ _=>rfl)))
   (af (bp S 9 (eQ (aa (fW S 1 bK B.str boot_str (aa (xN aR eA df hr (kv S 1) (aa (kv S 7) ae)) ae)) ae)))
   (af (cA (aQ aW (kv S 8) ba (au _)) (af (bp S 9 (eQ (aa (ir AC KE Os (bF rfl) rfl ba (aa (iC S hc hsc (cw (Rp aR ij df hr (kv S 1)) rfl) (N:=["j","names"]) (W:=["j"]) (G:=[]) (fv:=[none,some 4]) (by decide +kernel) (fun cl C fp s H S2=>⟨(kg S2 0),bo,(bc (ak rfl) (kv S2 1) (kv S2 0) (fun _ _=>rfl))⟩)) ae)) ae)))
   (ai (cA (aQ (iK hu rfl) (kv S 9) (eQ (aa ba ae)) (au _)) (ai (bp S 9 (eQ ae))) ax))) ax)
   (af (cA (aQ aW (bX (bc (ak rfl) (kv S 3) aq (fun _ _=>rfl))) aq (au _)) (af (bp S 10 (bc (ak rfl) (eQ (aa (aS cR (bc (ak rfl) (kv S 3) aq (fun _ _=>rfl)) (bc (ak rfl) (kv S 5) (kv S 7) (fun _ _=>rfl))) (aa (aS cJ (bc (ak rfl) (kv S 5) (kv S 7) (fun _ _=>rfl)) aq) (aa (aS cR (aS dW (bc (ak rfl) (kv S 3) aq (fun _ _=>rfl)) (Rr (v:=1000000000) OK OL)) (bc (ak rfl) (kv S 5) (kv S 7) (fun _ _=>rfl))) (aa aq ae))))) (bX (bc (ak rfl) (kv S 3) aq (fun _ _=>rfl))) (fun _ _=>rfl)))
   (af (bp S 8 (aS aU (aS aU (aS aU ba (bc (ak rfl) (kv S 4) (kv S 7) (fun _ _=>rfl))) ba) (fW S 1 bK B.str boot_str (aa (kv S 10) ae))))
   (af (dm (xN aR kq df hr (kv S 1) (aa (kv S 7) (aa (kv S 10) ae))))
   (ai (bp S 9 (eQ ae)))))) ax)
   (af (bp S 11 (xN bq bJ df hr (kv S 0) (aa (kv S 8) ae)))
   (af (cA (yu (yt (iN (iu (bZ S 2 cI hr (aa (kv S 11) ae)))) (nq (aQ (iL hu rfl) (kv S 11) (kv S 9) (au _))))) (ai (aJ vF)) ax)
   (af (dm (ir qN nc nF bE rfl (kv S 11) (aa ba ae)))
   (ai (aJ (Sv (fB aW (ou oP (kv S 8) bC (bD aq)) ba (au _)) (lJ (fB (iK hu rfl) (xN bq bJ df hr (kv S 0) (aa (kv S 8) ae)) (kv S 9) (au _))))))))))))))),?_⟩
 walk_at "i";refine⟨b,_,rfl,aw.of hb,rfl,?_⟩;refine⟨_,_,rfl,⟨_,_,rfl,⟨_,_,rfl,⟨rfl,?_⟩⟩⟩⟩;walk_at "i";refine b9 hdr hdl hnn (by decide) (by decide) fun x0=>?_
 refine aV (.inl (aw.of hn1)) ?_;rw[b7];walk_at "s";refine⟨by omega,?_⟩
 obtain⟨i,ei,hi⟩:∃ i:Nat,(x0:Int) % (r.length:Int)=(i:Int)/\i<r.length:=⟨x0 % r.length,by rw[Uy],mod_lt _ hpos⟩
 rw[ei];clear ei;have hil:i<(aA O).length:=by rw[P.len];exact hi
 have nmi:=P.nm.nm _ (getD_memS hi);have nl:=(dB nmi).2.2;have hbig:(1000:Nat)<=sizeLine:=by decide
 have eg:(Str.ofString "guess ").length=6:=by decide +kernel
 walk_at "h";refine aC (aw.of hn1) (aB (aP hi)) ?_;refine⟨_,_,rfl,rfl,by rw[eg];omega,?_⟩
 refine aC (aw.of hn1) (aB (aP hi)) ?_;refine⟨_,_,rfl,rfl,by rw[eg];omega,?_⟩
 rw[zE];refine⟨by decide,fun l0 hl00=>?_⟩
 generalize I:upd H l0 _=H1;obtain⟨s1,J⟩:=fX hl00 I;clear I;refine b9 (s1 _ _ hdr) hdl hnn (by decide) (by decide) fun x1=>?_
 walk_at "s";obtain⟨a,hao,ha,hix⟩:∃ a:AK,su r a/\(a=.right∨a=.de i)/\[V.str (Str.ofString "right"),V.str (Str.join ⟨#[32]⟩ (dR r (.de i))),V.str (Str.join ⟨#[32]⟩ (dR r (.de i)))][x1 % 3]?=some (.str (Str.join ⟨#[32]⟩ (dR r a))):=by
  have hx3:x1 % 3<3:=mod_lt _ (by decide)
  rcases(show x1 % 3=0∨x1 % 3=1∨x1 % 3=2 by omega) with e | e | e
  ·exact⟨.right,trivial,.inl rfl,by rw[e];rfl⟩
  ·exact⟨.de i,hi,.inr rfl,by rw[e];rfl⟩
  ·exact⟨.de i,hi,.inr rfl,by rw[e];rfl⟩
 refine aC (i:=((x1 % 3:Nat):Int)) (aw.of J) (aB hix) ?_;clear hix J hl00;walk_at "i";have hP1:=T.mono s1;obtain⟨hx,wn,hh2,_⟩:=hP1.cu.ex;refine fq (hh2) mT ?_;refine⟨h2,c,g,aA O,hs,ws,us,L,i,rfl,hP1.cu,hP1.gf,hcs,D.eX,D.wN,hil,fun H2 s2=>?_⟩;obtain⟨g1,g2⟩:=zA hcs D.eX D.wN hil;obtain⟨t1,t2⟩:=c6 g1 g2 (by decide)
 walk_at "s";refine⟨_,rfl,t2,?_⟩;walk_at "s";refine⟨by decide,fun du hdu0=>?_⟩
 generalize I:upd H2 du _=H3;obtain⟨s3,t⟩:=fX hdu0 I;clear I;have t:H3 du=some (.lst ([fL (qh (aA O) L hs i)].map V.str)):=t;have s13:=s1.trans (s2.trans s3);clear s1 s2 s3 hP1 hdu0 hh2;walk_at "s";refine qz (RZ H d h2 b dr n1 n2 n3 i r O L hs a) ?_ ?_
 rotate_left
 ·intro R' hR;walk_at "s"
  rcases ha with rfl | rfl
  ·rw[if_pos (zD r).symm];walk_at "h";have hP3:=T.mono s13;obtain⟨hx3,wn3,hh3,_⟩:=hP3.cu.ex;refine⟨rfl,h2,hx3,_,rfl,hh3,mT,?_⟩;refine⟨h2,c,g,aA O,hs,ws,us,L,rfl,hP3.cu,hP3.gf,hcs,D.eX,D.wN,fun rl H5 s5 _ hrl=>?_⟩;have lok:c8 r (fJ (aA O) hs L):=ma P;generalize el:fJ (aA O) hs L=l at hrl lok;have hl8:=lok.eD;have Y:=s13.trans s5;refine⟨rl,rfl,⟨_,aw.of hrl⟩,p5 (bP (aw.of hrl)) (fun _=>true) (fun i=>.str (r.getD (l.getD i 0) aX)) (by rw[b7,ao];exact az (by omega)) ?_ ?_⟩
   ·intro i H6 A B' hi hS hA _;rw[b7,ao] at hi;rw[dM hi];walk_at "s";refine aC (aw.of (hS _ _ (Y _ _ hn1))) (aB (aP (lok.lt _ (dN hi)))) ?_;exact hA rfl _ (ah.refl _)
   intro ac H6 _ s6 hac;rw[bH,b7,ao,cy (fun j=>V.str (r.getD j aX)),show (l.map fun j=>V.str (r.getD j aX))=(l.map fun j=>r.getD j aX).map V.str by rw[ls];rfl] at hac
   have hw:=namesW lok;have j1:=dO 32 12 _ hw;have j2:=et 12 _ hw;rw[b7] at j1 j2;refine⟨_,ac,l.map fun j=>r.getD j aX,rfl,rfl,aw.of hac,?_,?_,?_⟩
   ·rw[bb];show ((l.map fun j=>r.getD j aX).map fun z=>z.length+1).sum<=_
    omega
   ·rw[bb];omega
   rw[bb];refine⟨by decide,fun d7 hd70=>?_⟩
   generalize I:upd H6 d7 _=H7;obtain⟨U,hd7⟩:=fX hd70 I;clear I;have hd7:H7 d7=some (.lst ([di r l].map V.str)):=hd7;have s17:=Y.trans (s6.trans U);walk_at "s";refine⟨by decide,fun d8 hd80=>?_⟩
   generalize I:upd H7 d8 _=H8;obtain⟨s8,hd8⟩:=fX hd80 I;clear I;have ce:∀ x∈[Str.ofString ""],iB x:=fun x hx=>by rw[eR.mp hx];exact fun c hc=>nomatch hc
   have cn:∀ x∈[di r l],iB x:=fun x hx=>by
    rw[eR.mp hx];refine iB.join (by decide) fun y hy=>?_
    obtain⟨i,hi,rfl⟩:=kc.mp hy;exact iB.low (dB (P.nm.nm _ (getD_memS (lok.lt i hi)))).1
   refine k8 (m:=[Str.ofString ""]) (aw.of (s8 _ _ hd7)) (aw.of hd8) cn ce ?_;walk_at "s";have s18:=s17.trans s8
   by_cases z:l=[]
   ·rw[if_pos (by rw[z];show [Str.join ⟨#[32]⟩ []]=_;decide +kernel)]
    refine⟨by decide,fun d9 hd90=>?_⟩
    generalize I:upd H8 d9 _=H9;obtain⟨s9,hd9⟩:=fX hd90 I;clear I;refine hR _ _ ⟨d9,[],rfl,s18.trans s9,hd9,.inl ⟨rfl,?_⟩⟩;rw[el,z];rfl
   ·rw[if_neg (fun y=>Dd P.nm.nm lok z (Um y).1)];refine hR _ _ ⟨d7,[di r l],rfl,s18,s8 _ _ hd7,.inl ⟨rfl,?_⟩⟩;unfold cG;rw[el,if_neg z]
  ·rw[if_neg (OM r i)];exact hR _ _ ⟨du,_,rfl,s13,t,.inr ⟨rfl,rfl⟩⟩
 rintro σ4 H4 ⟨du,R,rfl,s4,t,hR⟩;clear s13 hbig;refine qz (R0 X.K av H d h2 c g b dr n1 n2 n3 us i r O L hs) ?_ ?_
 rotate_left
 ·intro R' hR';walk_at "s";refine b9 (s4 _ _ hdr) hdl hnn (by decide) (by decide) fun x2=>?_
  walk_at "s";refine bU (fun _=>?_) (fun _=>hR' _ _ ⟨a,R,du,_,rfl,t,hao,.inl ⟨s4,hR⟩⟩);have hci:O.getD i 0∈O:=iy (by rw[P.lc];exact hi)
  obtain⟨hc0,hc30⟩:=P.SY _ hci;walk_at "h";refine b9 (s4 _ _ hdr) hdl hnn (by decide) (by decide) fun x3=>?_
  refine cW (aw.of (s4 _ _ hn2)) rfl (by rw[ao,P.lc];exact hi) ?_
  rw[aT];generalize ec:O.getD i 0=ci at hc0 hc30;walk_at "s";refine⟨by omega,?_⟩
  refine cW (aw.of (s4 _ _ hn2)) rfl (by rw[ao,P.lc];exact hi) ?_
  rw[aT,ec];walk_at "s";refine b9 (s4 _ _ hdr) hdl hnn (by decide) (by decide) fun x3'=>?_
  refine⟨_,_,rfl,rfl,kJ (by decide +kernel) (by decide +kernel),?_⟩
  refine cW (aw.of (s4 _ _ hn2)) rfl (by rw[ao,P.lc];exact hi) ?_
  rw[aT,ec];walk_at "s";refine⟨by omega,by decide,fun p hp0=>?_⟩
  generalize I:upd H4 p _=H5;obtain⟨s5,hp⟩:=fX hp0 I;clear I;have Y:=s4.trans s5;refine b9 (Y _ _ hdr) hdl hnn (by decide) (by decide) fun x4=>?_
  walk_at "s";obtain⟨f,hcol,hix⟩:∃ f:Nat,f<ci/\[V.int ((x3:Int) % (ci:Int)),V.int ((ci:Int) - 1),V.int ((x3':Int)*1000000000 % (ci:Int)),V.int 0][x4 % 4]?=some (.int (f:Int)):=by
   have hx4:x4 % 4<4:=mod_lt _ (by decide)
   rcases(show x4 % 4=0∨x4 % 4=1∨x4 % 4=2∨x4 % 4=3 by omega) with e | e | e | e
   ·exact⟨x3 % ci,mod_lt _ hc0,by rw[e,Uy];rfl⟩
   ·exact⟨ci - 1,by omega,by rw[e,show ((ci - 1:Nat):Int)=(ci:Int) - 1 by omega];rfl⟩
   ·exact⟨x3' * 1000000000 % ci,mod_lt _ hc0,by rw[e,Uy,Int.natCast_mul];rfl⟩
   ·exact⟨0,hc0,by rw[e];rfl⟩
  refine aC (i:=((x4 % 4:Nat):Int)) (aw.of hp) (aB hix) ?_;clear hix hp hp0;have M:f<10 ^ 30:=TV hcol hc30;have cf:=kZ M;have e4:(Str.ofString "put ").length=4:=by decide +kernel
  have e1:(Str.ofString " ").length=1:=by decide +kernel
  have hbig:(1000:Nat)<=sizeLine:=by decide
  have cl:(Str.ofString (toString ((f:Nat):Int))).length<=30:=cf.2.2.2;walk_at "i";refine aC (aw.of (Y _ _ hn1)) (aB (aP hi)) ?_;refine⟨_,_,rfl,rfl,by rw[e4];omega,?_⟩
  refine⟨_,_,rfl,rfl,by rw[aD,e4,e1];omega,?_⟩
  refine⟨_,rfl,?_,?_⟩
  ·rw[TL]
   by_cases z:f=0
   ·rw[z];decide
   ·exact(log2_lt z).mpr (TV M (by decide +kernel))
  refine⟨_,_,rfl,rfl,by rw[aD,aD,e4,e1];omega,?_⟩
  rw[show Str.ofString (toString ((f:Nat):Int))=fL (f:Int) from rfl,HH]
  walk_at "i";have hP5:=T.mono Y;obtain⟨hx5,wn5,hh5,_⟩:=hP5.cu.ex;obtain⟨D2,hB⟩:=D.set hi (show f<O.getD i 0 by omega)
  refine fq (hh5) mT ?_;refine⟨h2,c,g,aA O,hs,us,(i:Int),(f:Int),rfl,hP5.cu,D.eX.1,by have:=hcs.len;omega,fun z=>absurd ⟨natCast_nonneg i,by omega⟩ z,fun _ z=>?_,fun _ _ H6 o6 hA6=>?_⟩
  ·rw[u5,hB] at z;cases z
  rw[u5] at hA6;walk_at "s";refine⟨by decide,fun d9 hd90=>?_⟩
  obtain⟨hx6,wn6,hh6,_⟩:=hA6.ex;generalize I:upd H6 d9 _=H7;obtain⟨U,hd9⟩:=fX hd90 I;clear I;exact hR' _ _ ⟨.put i f,[],d9,_,rfl,hd9,⟨hi,M⟩,.inr ⟨f,rfl,rfl,by omega,fun x o ne e=>U _ _ (o6 x o ne (Y _ _ e)),hA6.mono U⟩⟩
 clear t s4 hR hao;rintro σ5 H5 ⟨a,R,du,y10,rfl,t,hao,hcase⟩;walk_at "i";obtain⟨⟨dx,bk,hd,_⟩,_,_,_,hHl,_⟩:=id T.uS;obtain⟨hx0,wn0,hh0,_⟩:=T.cu.ex;obtain⟨hx1,wn1,hhl0,_⟩:=hHl.ex
 rcases hcase with ⟨s5,hR⟩ | ⟨f,rfl,rfl,hcol,o5,hA5⟩
 ·have ask1:∀ H6,ah H H6->∀ Q':VK,(∀ l H7,ah H6 H7->H6 l=none->H7 l=some (.lst (R.map V.str))->Q' (.ref l) H7)->l9 X.K av aK [V.ref d,V.str (Str.join ⟨#[32]⟩ (dR r a))] H6 Q' E0:=fun H6 s6 Q' hq=>by
   refine⟨d,hl,r,O,ws,L,hs,a,rfl,T.uS.mono s6,D,hao,?_⟩
   rcases hR with ⟨rfl,rfl⟩ | ⟨rfl,rfl⟩
   ·exact hq
   ·exact hq
  have hRc:∀ x∈R,iB x:=by
   rcases hR with ⟨rfl,rfl⟩ | ⟨rfl,rfl⟩
   ·exact wQ P.nm.nm (ma P)
   ·intro x hx;rw[eR.mp hx];exact iB.fL (zA hcs D.eX D.wN hil).1
  have hRl:R.length<=1:=by
   rcases hR with ⟨rfl,rfl⟩ | ⟨rfl,rfl⟩
   ·unfold cG;split<;>exact Uh rfl
   ·exact Uh rfl
  have h3:(cz (Str.join ⟨#[32]⟩ (dR r a))).take 3≠[112,117,116]:=by
   rcases hR with ⟨rfl,_⟩ | ⟨rfl,_⟩
   ·rw[(fM r 0 0).2.1];decide
   ·rw[(fM r i 0).1];decide
  refine fq (s5 _ _ hd) i6 ?_;refine ask1 H5 s5 _ fun l H6 s6 J Z=>?_;walk_at "i";refine i8 (Z) (by omega) fun H7 U=>?_
  have s57:=s6.trans U;walk_at "s";refine fZ (aw.of (U _ _ Z)) (aw.of (s57 _ _ t)) hRc hRc ?_;rw[ea rfl];walk_at "i";have hl7:=U _ _ Z;refine⟨.inl ⟨rfl,_,aw.of hl7⟩,l,_,_,rfl,rfl,hl7,by rw[b7];exact bN (by omega),?_⟩
  have s8:ah H5 (upd H7 l (.lst (R.map V.str++[.str (Str.ofString "rain")]))):=s57.set J _;generalize upd H7 l (.lst (R.map V.str++[.str (Str.ofString "rain")]))=H8 at s8;have s18:=s5.trans s8;walk_at "s";obtain⟨k1,k2⟩:=HI (z:=Str.join ⟨#[32]⟩ (dR r a)) rfl De;refine⟨_,rfl,by rw[k2];decide,?_⟩
  have hsl:¬ StrLaws.sliceText (Str.join ⟨#[32]⟩ (dR r a)) none (some 3)=Str.ofString "put":=fun z=>by
   rw[z] at k1;exact h3 (k1.symm.trans (by decide +kernel))
  walk_at "s";rw[if_neg hsl];refine fq (s18 _ _ hd) i6 ?_;refine ask1 H8 s18 _ fun l2 H9 s9 hl20 hl2=>?_;refine k8 (aw.of hl2) (aw.of (s9 _ _ (s8 _ _ t))) hRc hRc ?_;rw[ea rfl];have s19:=s18.trans s9;exact q H9 hs (fun x o _ _ e=>s19 _ _ e) (T.mono s19) D
 ·obtain⟨D2,hB⟩:=D.set hi hcol;have hd5:=o5 d _ T.n2 hd;have hD5:=T.uS.Ht o5 hh0 T.n2 T.n1.symm;have hhl5:=o5 hl _ T.n1.symm hhl0;refine fq (hd5) i6 ?_;refine⟨d,hl,r,O,ws,L,hs,.put i f,rfl,hD5,D,hao,fun z=>?_,fun _ l H6 o6 J Z hD6=>?_⟩
  ·rw[hB] at z;cases z
  have hdu6:H6 du=some (.lst []):=o6 du _ (ik t hhl5 fun z=>nomatch z) t;have hA6:=hA5.Ht o6 hhl5 T.n1;have hG6:=(T.gf.dg o5 hh0).dg o6 hhl5;have o16:ur hl h2 H H6:=fun x o n1 n2 e=>o6 x o n1 (o5 x o n2 e);have hln:H l=none:=by
   cases e:H l with
   | none=>rfl
   | some u=>
    by_cases z:l=h2
    ·obtain⟨hx7,wn7,hh7,_⟩:=hA5.ex;rw[z,hh7] at J;cases J
    ·rw[o5 l u z e] at J;cases J
  walk_at "i";refine i8 (rows:=[]) Z (by decide) fun H7 U=>?_
  walk_at "s";refine fZ (l:=[]) (m:=[]) (aw.of (U _ _ Z)) (aw.of (U _ _ hdu6)) (fun _ z=>nomatch z) (fun _ z=>nomatch z) ?_;walk_at "i";have hl7:=U _ _ Z;have hP7:Pair X.K av aK H7 d hl h2 c g us r O ws L (hs.set i (f:Int)):=⟨hD6.mono U,hA6.mono U,hG6.mono U,T.n1,T.n2⟩;refine⟨.inl ⟨rfl,_,aw.of hl7⟩,l,_,_,rfl,rfl,hl7,by decide,?_⟩
  have hP8:=hP7.cK (o:=.lst ([]++[.str (Str.ofString "rain")])) hl7;have o18:ur hl h2 H (upd H7 l (.lst ([]++[.str (Str.ofString "rain")]))):=fun x o n1 n2 e=>by
   rw[aH (fun z=>by rw[z,hln] at e;cases e)]
   exact U _ _ (o16 x o n1 n2 e)
  walk_at "s";obtain⟨k1,k2⟩:=HI (fM r i f).2.2 rfl;refine⟨_,rfl,by rw[k2];decide,?_⟩
  have hsl:StrLaws.sliceText (Str.join ⟨#[32]⟩ (dR r (.put i f))) none (some 3)=Str.ofString "put":=jy (k1.trans (by decide +kernel))
  walk_at "s";rw[if_pos hsl];exact q _ _ o18 hP8 D2
theorem my {H H':Hp}{x dx:Addr}{o:HO}(hx:H x=none)(hd:H dx=none)(hne:dx≠x)(s:Off x (L2.upd (L2.upd H dx (.own x)) x o) H'):ah H H':=fun b u e=>by
 have h1:b≠x:=fun z=>by rw[z,hx] at e;cases e
 have a:b≠dx:=fun z=>by rw[z,hd] at e;cases e
 exact s b u h1 (by rw[aH h1,aH a];exact e)
theorem zX:∀ L:List (Bool × List Nat),PyData.eqv (.tuple (L.map gD)) (.tuple (L.map gD))=true:=fun L=>by
 have h:∀ L:List (Bool × List Nat),PyData.eqvAll (L.map gD) (L.map gD)=true:=fun L=>by
  induction L with
  | nil=>simp[PyData.eqvAll]
  | cons g r a=>simp[PyData.eqvAll,PyData.eqv,gD,eqvAll_refl,a]
 simp[PyData.eqv,h]
theorem OS:DS (aj k9) ["script","book","names","counts","web","text","desk","rows","groups","hall","cell"] ["script"] ["_law_house","sum","range","_law_mixed_lines","_law_draws","Desk","len","_law_groups","_law_texts","_law_looks","Hall","tuple","int","_law_step"]:=aO (by decide +kernel)
theorem OT (B:Bn mg)(aR:fh K mg "Hall" av ["counts","groups","worn"])(bq:fh K mg "Desk" aK ["book","hall"]){f:Addr}{fd:FuncData}(FL:Iq K "law" "law" k9 f fd)(xr:Fn P w K mg base 4 "_law_house" ["cells","most","kinds"] (sC K))(bY:Fn P w K mg base 1 "_law_draws" ["cell","count"] iY)(ll:Fn P w K mg base 1 "_law_mixed_lines" ["book","drawn"] (Bo K))(iq:Ho P w K mg base 8 aK "__init__" "self" "text" "" (BC K av aK))(bJ:nT P w K mg base 7 aK "ask" ["self","line"] (l9 K av aK))(lp:Fn P w K mg base 1 "_law_groups" ["rows","names"] (HE K))(cI:Fn P w K mg base 1 "_law_texts" ["found"] jD)(ng:Fn P w K mg base 9 "_law_looks" ["desk","book","groups"] (BL K av aK))(fo:nT P w K mg base 5 av "__init__" ["self","counts","web","groups"] (pj K av))(Ad:Fn P w K mg base 8 "_law_step" ["desk","hall","book","drawn"] (HG K av aK)):ft P w K mg base B9 10 f fd ["script"] (AX K):=by
 refine FL.gq OS (fun vs H Q E h=>?_) ?_
 ·obtain⟨a,j,rfl,_⟩:=h;rfl
 intro X S e1 e2 e3 e4 e5 hc hsc hxe Z hu H vs Q E h;subst e1 e2 e3 e4 e5;obtain⟨a,xs,rfl,ha,hl,q⟩:=h;refine⟨_,(af (bp S 1 (bZ S 0 xr Z (aa (iC S hc hsc (jE S 2 B.range (aa aq ae)) (N:=["k","script"]) (W:=["k"]) (G:=["sum"]) (fv:=[none,some 0]) (by decide +kernel) (fun cl C fp s H S2=>⟨(kg S2 0),bo,(cV S2 0 (dF rfl rfl) B.sum boot_sum (aa (Mi (kv S2 1) (kv S2 0) aq rfl) ae))⟩)) (aa aq (aa aq ae)))))
   (af (yv (kv S 1) (GA hc (K:=X.K) (n:=3) rfl (aN (kg S 2) (aN (kg S 3) (aN (kg S 4) cC)))))
   (af (bp S 5 (ir AC KE Os (bF rfl) rfl ba (aa (bZ S 3 ll Z (aa (kv S 1) (aa (bZ S 4 bY Z (aa (cV S 1 (dF hc rfl) B.sum boot_sum (aa (Mi (kv S 0) aq aq rfl) ae)) (aa aq ae))) ae))) ae)))
   (af (bp S 6 (SS S 5 bq iq df Z (aa (kv S 5) ae)))
   (af (cA (aQ aW (cV S 6 (ay rfl) B.len oD (aa (kv S 2) ae)) aq (au _)) (ai (bp S 6 (RA S 5 bq iq df Z))) ax)
   (af (bp S 7 (xN bq bJ df Z (kv S 6) (aa ba ae)))
   (af (bp S 8 (bZ S 7 lp Z (aa (kv S 7) (aa (kv S 2) ae))))
   (af (cA (yu (yt (iN (iu (bZ S 8 cI Z (aa (kv S 7) ae)))) (yt (aQ nL (kv S 8) lI (au _)) (nq (iN (iu (bZ S 9 ng Z (aa (kv S 6) (aa (kv S 1) (aa (kv S 8) ae)))))))))) (ai (aJ vF)) ax)
   (af (bp S 9 (Tb S 10 aR fo df Z (aa (fW S 11 (bu rfl) B.tuple C6 (aa (kv S 3) ae)) (aa (fW S 11 (bu rfl) B.tuple C6 (aa (kv S 4) ae)) (aa (kv S 8) ae)))))
   (af (fC hxe hc (cw (aS Nx (ou (cN rfl) (kv S 0) bC (bD aq)) (fW S 12 rf B.int boot_int (aa (fB qY (cV S 6 (ay rfl) B.len oD (aa (kv S 2) ae)) aq (au _)) ae))) rfl) (kg S 10) (ai (cA (iN (iu (bZ S 13 Ad Z (aa (kv S 6) (aa (kv S 9) (aa (kv S 1) (aa (bZ S 4 bY Z (aa (kv S 10) (aa aq ae))) ae))))))) (ai (aJ vF)) ax)))
   (ai (aJ (kK (bZ S 9 ng Z (aa (kv S 6) (aa (kv S 1) (aa (kv S 8) ae)))) (lJ (fB (iK hu rfl) (bZ S 7 lp Z (aa (xN bq bJ df Z (kv S 6) (aa ba ae)) (aa (kv S 2) ae))) (kv S 8) (au _)))))))))))))))),?_⟩
 walk_at "i";refine FQ 3 rfl (by decide) (fun _ _=>True) ?_ ?_
 ·intro i H1 A hi hS hA;walk_at "s";refine⟨_,rfl,_,rfl,a,_,rfl,hS.seq ha,by decide,fun R p hp hfit=>?_⟩
  rw[sj];exact⟨p,_,rfl,aw.of ag,hA _ _ (ah.new hp _) trivial⟩
 intro cl row H1 hcl0 s1 hcl hrow _;walk_at "s";refine⟨cl,row,8,4,rfl,aw.of hcl,hrow,by decide,by decide,by decide,by decide,fun b j m ws H2 s2 hb P _=>?_⟩
 have h8:=P.nm.eD;have I:=s1.trans s2;clear s1 s2 hcl hcl0 hrow;obtain⟨b1,b2,b3,g0,g1,g2,g3⟩:=id hb;walk_at "i";refine⟨b,_,rfl,aw.of g0,rfl,?_⟩;refine⟨_,_,rfl,⟨_,_,rfl,⟨_,_,rfl,⟨rfl,?_⟩⟩⟩⟩;walk_at "i";refine⟨rfl,_,rfl,_,rfl,a,_,rfl,I.seq ha,by decide,fun R p hp hfit=>?_⟩
 rw[sj];generalize eH:upd H2 p _=H3;obtain⟨s3,hp3⟩:=fX hp eH;clear eH;refine⟨p,_,rfl,aw.of hp3,?_⟩;refine⟨_,26,rfl,by decide,fun dr dn H4 s4 _ hdr hdn hnn=>?_⟩
 have s24:=s3.trans s4;refine⟨b,dr,j,m,ws,dn,rfl,hb.mono s24,P,hdr,hdn,hnn,fun l M H5 s5 hl5 hM hMl=>?_⟩;have en:(Str.ofString "\n")=⟨#[10]⟩:=by decide +kernel
 have hoks:=hM.pb P;have emm:M.map (eC j m)=(M.map (fH j m)).map lu:=by rw[ls];rfl
 have hlen:(M.map (fH j m)).length<=100:=by rw[b7];omega
 have hbl:=fF hoks hlen;have hsum:=et 1271 (M.map (eC j m)) fun y hy=>by
  obtain⟨x,hx,rfl⟩:=kc.mp hy;exact fE (hM.o9 P x hx)
 rw[b7] at hsum;have h16:M.length*1272<=16*1272:=A2 _ hMl;have hbig:(1000000:Nat)<=sizeLine:=by decide
 have ebt:Str.join ⟨#[10]⟩ (M.map (eC j m))=eV (M.map (fH j m)):=by rw[emm];rfl
 refine⟨_,l,M.map (eC j m),rfl,rfl,aw.of hl5,?_,?_,?_⟩
 ·rw[en];show ((M.map (eC j m)).map fun z=>z.length+1).sum<=_
  omega
 ·rw[en,ebt];omega
 rw[en,ebt];have s25:=s24.trans s5;have s15:=I.trans s25;have s02:=I;have hbook:=hM.book P (fun i hi=>hi);clear s3 s4 s24 s5 hsum h16 hbl emm ebt hdr hl5 hp3 hp;walk_at "i";intro x dx hx0 hdx0 hne;refine⟨x,dx,M.map (fH j m),j,m,ws,rfl,ag,hoks,hlen,hbook,P,fun H6 hl L o6 hhl0 hD DK=>⟨rfl,?_⟩⟩;have s56:=my hx0 hdx0 hne o6;have s16:=s15.trans s56;have s26:=s25.trans s56;clear o6 hhl0 s15 s25 s56 hbook hoks hlen;walk_at "s";refine qz (fun σ' H'=>∃ (d hl:Addr) (L:List (Bool × List Nat)),σ'=[some (.ref a),some (.ref b),some (.ref b1),some (.ref b2),some (.ref b3),some (.str (eV (M.map (fH j m)))),some (.ref d),none,none,none,none]/\ah H2 H'/\cF X.K av aK H' d hl j m ws L (List.replicate m.length 0)/\bz j m ws L (List.replicate m.length 0)) ?_ ?_
 rotate_left
 ·intro R' hR';walk_at "s";refine aV (.inl (aw.of (s26 _ _ g1))) ?_;rw[b7];walk_at "s";refine bU (fun c=>?_) (fun _=>hR' _ _ ⟨x,hl,L,rfl,s26,hD,DK⟩);have zn:j=[]:=Fk.mp (by omega)
  have zc:m=[]:=Fk.mp (by rw[P.lc,zn];rfl)
  have zw:ws=[]:=Fk.mp (by rw[P.lw,zn];rfl)
  intro x' dx' hx' hdx' hne';refine⟨x',dx',[],j,m,ws,rfl,ag,(fun _ z=>nomatch z),by decide,by rw[zn,zc,zw];rfl,P,fun H7 hl7 L7 o7 hhl7 hD7 D7=>⟨rfl,?_⟩⟩
  have s67:=my hx' hdx' hne' o7;exact hR' _ _ ⟨x',hl7,L7,rfl,s26.trans s67,hD7,D7⟩
 clear hD DK s16 s26 I;rintro σ7 H7 ⟨d,hl,L,rfl,s27,hD,DK⟩;walk_at "i";obtain⟨⟨ddx,bk,hd,_⟩,_,_,_,hHl,_⟩:=id hD;obtain⟨hlx,hln,hhl,_⟩:=hHl.ex;have hcs:=P.wM;have hwl:ws.length=(aA m).length:=by rw[P.lw,P.len]
 refine fq (hd) i6 ?_;refine i7 (.told .groups) (hD) DK trivial fun r rows H8 s8 _ hr8 T8=>?_;have T8:rows=_:=T8;subst T8;have GO:Mv j L:=⟨P.nm,fun g hg=>⟨DK.names hg,(DK.best.1.each g hg).ne⟩,DK.eD⟩;have s28:=s27.trans s8;walk_at "i";refine⟨r,b1,j,L,rfl,hr8,s28 _ _ g1,GO,fun t us H9 s9 ht O=>?_⟩;have s29:=s28.trans s9;walk_at "i";refine⟨r,_,rfl,s9 _ _ hr8,by rw[b7];have:=DK.eD;omega,fun H10 T=>?_⟩
 have s210:=s29.trans T;have s710:=s8.trans (s9.trans T);walk_at "s";refine⟨d,hl,b,t,j,m,ws,us,L,_,rfl,hD.mono s710,DK,hb.mono s210,T.aL ht,O.mono T,fun H11 s11=>?_⟩;have ab:=s210.trans s11;have aF:=s710.trans s11;have ht:=(T.trans s11).aL ht;have O:=O.mono (T.trans s11);clear s210 s710 s29 s28 hr8 s8 s9 T s11;walk_at "i";refine gj (aw.of (ab _ _ g2)) fun c1 hc1=>?_;generalize eH:upd H11 c1 _=H12;obtain⟨I,hc1'⟩:=fX hc1 eH;clear eH;refine gj (aw.of (I _ _ (ab _ _ g3))) fun w1 hw1=>?_;generalize eH:upd H12 w1 _=H13;obtain⟨s13,hw1'⟩:=fX hw1 eH;clear eH;have u:=I.trans s13;intro h2 dh hh0 hdh0 hne2;have sn:ah H13 (L2.upd (L2.upd H13 dh (.own h2)) h2 (.ins av dh [])):=(ah.new hdh0 _).trans (ah.new (by rw[aH (Ne.symm hne2)];exact hh0) _)
 have s11n:=u.trans sn;refine⟨h2,dh,c1,w1,t,aA m,ws,us,gI L,rfl,ag,aE.of (sn _ _ (s13 _ _ hc1')),aE.of (sn _ _ hw1'),s11n.aL ht,(O.mono s11n).gi,hwl,hcs.len,DK.RI,by rw[zi];have:=DK.eD;omega,fun z=>absurd (pq DK.best.1) z,fun _ H14 o14 hA=>⟨rfl,?_⟩⟩
 have s1314:=my hh0 hdh0 hne2 o14;have D:=u.trans s1314;have s714:=aF.trans D;have s214:=ab.trans D;have hA:bV X.K av H14 h2 c1 t (aA m) us (List.replicate m.length 0):=by rw[ao] at hA;exact hA
 have Y:Pair X.K av aK H14 d hl h2 c1 t us j m ws L (List.replicate m.length 0):=by
  refine⟨hD.mono s714,hA,O.mono D,fun e=>?_,fun e=>?_⟩
  ·have:=(aF.trans u) _ _ hhl
   rw[<-e,hh0] at this;cases this
  ·have:=(aF.trans u) _ _ hd
   rw[e,hh0] at this;cases this
 clear hA o14 s11n sn hne2 hdh0 hh0 hc1 hw1 hc1' hw1' I s13 u s1314 D aF ab ht O;walk_at "i";refine BF 60 ((s02.trans s214).seq ha) fun sl H15 s15 _ hsl=>?_;have Y:=Y.mono s15;have s215:=s214.trans s15;refine aV (.inl (aw.of (s215 _ _ g1))) ?_;rw[b7];walk_at "s";have hslL:((xs.map V.int).take 60).length<=60:=by rw[xx];omega
 refine .inr ⟨_,rfl,?_⟩;refine⟨sl,_,_,rfl,rfl,hsl,by split<;>decide,by split<;>decide,?_,fun rp hrp0=>?_⟩
 ·have:(if decide (0<(j.length:Int))=true then (1:Int) else 0).toNat<=1:=by split<;>decide
  have h2:=Nat.mul_le_mul hslL this;exact j5 h2 (by decide)
 generalize eH:upd H15 rp _=H16;obtain⟨s16,hrp⟩:=fX hrp0 eH;clear eH;obtain⟨ys,hrp,hys⟩:∃ ys:List Int,H16 rp=some (.lst (ys.map V.int))/\(ys≠[]->j≠[]):=by
  by_cases z:j=[]
  ·refine⟨[],?_,fun y=>absurd rfl y⟩;rw[hrp,z];rfl
  ·have hp:0<j.length:=Do.mpr z;refine⟨xs.take 60,?_,fun _=>z⟩;rw[hrp,if_pos (ea (by omega)),map_take]
   show some (HO.lst [(xs.map V.int).take 60].flatten)=_;rw[List.flatten_singleton]
 have Y:=Y.mono s16;have J:=s215.trans s16;have G0:=J _ _ g0;have G1:=J _ _ g1;have G2:=J _ _ g2;have G3:=J _ _ g3;clear s15 s16 s214 s215 J s714 hsl hslL hrp0 g0 g1 g2 g3 hb hd hD hhl hHl s27 s02 ha;obtain⟨hx16,wn16,hh16,_⟩:=Y.cu.ex;obtain⟨_,_,_,hHl16,_⟩:=Y.uS.cu;obtain⟨hlx16,hln16,U,_⟩:=hHl16.ex;refine forL (RK X.K av aK H16 [some (.ref a),some (.ref b),some (.ref b1),some (.ref b2),some (.ref b3),some (.str (eV (M.map (fH j m)))),some (.ref d),some (.ref r),some (.ref t),some (.ref h2)] d hl h2 c1 t us j m ws L) (aw.of hrp) ⟨_,_,rfl,ur.refl,Y,DK⟩ (fun k σ H' h=>by obtain⟨_,y,_,o,_⟩:=h;exact aw.of (o.lst U hh16 hrp)) ?_ ?_
 ·rintro k σ H17 hk ⟨hs,y,rfl,o17,v,D17⟩;have hyne:ys≠[]:=fun z=>by rw[z] at hk;exact absurd hk (SZ _)
  walk_at "s";refine⟨_,6,rfl,by decide,fun dr dn H18 s18 _ hdr hdl hnn=>?_⟩
  have O:∀ {x:Addr} {us:List V},H16 x=some (.lst us)->H18 x=some (.lst us):=fun h=>s18 _ _ (o17.lst U hh16 h);refine⟨d,hl,h2,c1,t,b,dr,us,j,m,ws,L,hs,dn,rfl,v.mono s18,D17,⟨b1,b2,b3,O G0,O G1,O G2,O G3⟩,hdr,hdl,hnn,hys hyne,fun H19 hs' o19 hP19 D19=>?_⟩;walk_at "s";exact⟨hs',_,rfl,fun x o n1 n2 e=>o19 x o n1 n2 (s18 _ _ (o17 x o n1 n2 e)),hP19,D19⟩
 rintro σ H17 ⟨hs,y,rfl,o17,v,D17⟩;have O:∀ {x:Addr} {us:List V},H16 x=some (.lst us)->H17 x=some (.lst us):=fun h=>o17.lst U hh16 h;walk_at "s";refine⟨d,hl,b,t,j,m,ws,us,L,hs,rfl,v.uS,D17,⟨b1,b2,b3,O G0,O G1,O G2,O G3⟩,v.cu.MC,v.gf,fun H18 s18=>?_⟩;walk_at "s";have hP18:=v.mono s18;obtain⟨⟨dx18,bk18,hd18,_⟩,_⟩:=hP18.uS;refine fq (hd18) i6 ?_;refine i7 (.told .groups) (hP18.uS) D17 trivial fun r' rows H19 s19 _ hr19 T19=>?_;have T19:rows=_:=T19;subst T19;refine⟨r',b1,j,L,rfl,hr19,s19 _ _ (s18 _ _ (O G1)),GO,fun t2 us2 H20 s20 ht2 hL2=>?_⟩;have hP20:=hP18.mono (s19.trans s20);refine⟨_,_,.tup ht2 hL2.dt,.tup hP20.cu.MC hP20.gf.dt,jM L,jM L,?_⟩;rw[zX];exact q H20
theorem all_mk {l:PySem.W.OpenLaw}{h:Heap}{fa f33 f61:Addr}(X:K.In h)(G:h.Ns mainGlobals mg)(hfa:mg "law"=some (.ref fa))
  {od33 an33 od61 an61:Option Addr} {sl33 sl61:Array (Option Value)} {oc33 kV33 dc33 pm33 cd33 ct33 oc61 kV61 dc61 pm61 cd61 ct61:Value}
  (d0:DQ K "greatest_divisor" dD)
  (d1:DQ K "share" uu)
  (d2:DQ K "sure" zF)
  (d3:DQ K "product" me)
  (d4:DQ K "circle_guess" fN)
  (d5:DQ K "ring_guess" hJ)
  (d6:DQ K "places" pw)
  (d7:DQ K "sees" zG)
  (d8:DQ K "is_circle" i9)
  (d9:DQ K "is_ring" mf)
  (d10:DQ K "first_ready" gk)
  (d11:DQ K "laid_out" jZ)
  (d12:DQ K "sight_order" gm)
  (d13:DQ K "first_seen" hV)
  (d14:DQ K "sight_ring" hX)
  (d15:DQ K "rises" uw)
  (d16:DQ K "is_group" j3)
  (d17:DQ K "group_fault" gn)
  (d18:DQ K "picked" pz)
  (d19:DQ K "group_sure" hZ)
  (d20:DQ K "made_sure" ja)
  (d21:DQ K "group_guess" gp)
  (d22:DQ K "sights_from" gr)
  (d23:DQ K "lone_group" h7)
  (d24:DQ K "lone_choices" fP)
  (d25:DQ K "parts_of" j4)
  (d26:DQ K "best_choice" gs)
  (d27:DQ K "best_groups" gu)
  (d28:DQ K "are_hats" j7)
  (d29:DQ K "is_name" mh)
  (d30:DQ K "is_count" j8)
  (d31:DQ K "is_hat_line" gw)
  (d32:DQ K "is_sees_line" fQ)
  {T33:Addr} {t33:Tok} {o33:Obj} {m33:Nat} (a33:nsIn K mainGlobals "read_line"=some (some (.ref f33))) (l33:K.lookup f33=some ⟨oc33,od33,.func (fnOf "read_line" "read_line" (bw c7) (aY c7) (aj c7) (.ref T33) kV33 dc33 pm33 an33 cd33 ct33),sl33⟩) (c33:codeIn K cd33 "read_line"=true) (k33:keepIn K (.ref f33)=true) (lt33:K.lookup T33=some o33) (ld33:o33.data=.seq #[.int 0 t33] m33)
  (d34:DQ K "add_hat" mi)
  (d35:DQ K "add_sight" jb)
  (d36:DQ K "rows_of" mj)
  (d37:DQ K "read_book" jc)
  (d38:DQ K "shown_book" ia)
  (d39:DQ K "fits" zI)
  (d40:DQ K "is_ask" pA)
  (d41:DQ K "number_of" jd)
  (d42:DQ K "named" nX)
  (d43:DQ K "shown_share" gA)
  (d44:DQ K "shown_group" gB)
  (d45:DQ K "told_of" ml)
  (d46:DQ K "_law_draws" je)
  (d47:DQ K "_law_fresh" jf)
  (d48:DQ K "_law_names" jg)
  (d49:DQ K "_law_count" jh)
  (d50:DQ K "_law_mixed_lines" ez)
  (d51:DQ K "_law_shown" ji)
  (d52:DQ K "_law_sight" jj)
  (d53:DQ K "_law_hat_count" fk)
  (d54:DQ K "_law_house" jk)
  (d55:DQ K "_law_groups" ib)
  (d56:DQ K "_law_texts" jl)
  (d57:DQ K "_law_is_order" fR)
  (d58:DQ K "_law_sight_told" eO)
  (d59:DQ K "_law_looks" jn)
  (d60:DQ K "_law_step" ke)
  (a61:nsIn K mainGlobals "law"=some (some (.ref f61))) (l61:K.lookup f61=some ⟨oc61,od61,.func (fnOf "law" "law" (bw k9) (aY k9) (aj k9) .none kV61 dc61 pm61 an61 cd61 ct61),sl61⟩) (c61:codeIn K cd61 "law"=true) (k61:keepIn K (.ref f61)=true)
  (z0:nsIn K mainGlobals "range"=some none)
  (z1:nsIn K mainGlobals "len"=some none)
  (z2:nsIn K mainGlobals "sum"=some none)
  (z3:nsIn K mainGlobals "max"=some none)
  (z4:nsIn K mainGlobals "isinstance"=some none)
  (z5:nsIn K mainGlobals "int"=some none)
  (z6:nsIn K mainGlobals "bool"=some none)
  (z7:nsIn K mainGlobals "str"=some none)
  (z8:nsIn K mainGlobals "tuple"=some none)
  (z9:nsIn K mainGlobals "list"=some none)
  (z10:nsIn K mainGlobals "sorted"=some none)
  (z11:nsIn K mainGlobals "set"=some none)
  (z12:nsIn K mainGlobals "all"=some none)
  (z13:nsIn K mainGlobals "any"=some none)
  (z14:nsIn K mainGlobals "zip"=some none)
  (z15:nsIn K mainGlobals "enumerate"=some none)
  {u0:Tok} (q0:nsIn K mainGlobals "LETTERS"=some (some (.str "abcdefghijklmnopqrstuvwxyz" u0)))
  {u1:Tok} (q1:nsIn K mainGlobals "FIGURES"=some (some (.str "0123456789" u1)))
  {u2:Tok} (q2:nsIn K mainGlobals "LONGEST_NAME"=some (some (.int 12 u2)))
  {u3:Tok} (q3:nsIn K mainGlobals "LONGEST_COUNT"=some (some (.int 30 u3)))
  {u4:Tok} (q4:nsIn K mainGlobals "MOST_PEOPLE"=some (some (.int 8 u4)))
  {fe0 fe1 fe2 fe3 fe4 fe5 fe6 fe7 fe8:Addr} {ft0 ft1 ft2 ft3 ft4 ft5 ft6 ft7 ft8 fu0 fu1 fu2:Tok} {fep fn0 fn1 fn2 fn3 fn4 fn5 fn6 fn7 fn8:Nat} {fd0 fd1 fd2 fd3 fd4 fd5 fd6 fd7 fd8:Option Addr} {fs0 fs1 fs2 fs3 fs4 fs5 fs6 fs7 fs8:Array (Option Value)} (fa0:nsIn K mainGlobals "FORMS"=some (some (.ref aF))) (fhs:(aF == sysModules)=false)
  (fa1:K.lookup aF=some ⟨.type "dict",none,.dict #[⟨PyData.keyHash w.params "sure",.str "sure" ft0,.ref fe0⟩,⟨PyData.keyHash w.params "share",.str "share" ft1,.ref fe1⟩,⟨PyData.keyHash w.params "groups",.str "groups" ft2,.ref fe2⟩,⟨PyData.keyHash w.params "ring",.str "ring" ft3,.ref fe3⟩,⟨PyData.keyHash w.params "order",.str "order" ft4,.ref fe4⟩,⟨PyData.keyHash w.params "put",.str "put" ft5,.ref fe5⟩,⟨PyData.keyHash w.params "guess",.str "guess" ft6,.ref fe6⟩,⟨PyData.keyHash w.params "right",.str "right" ft7,.ref fe7⟩,⟨PyData.keyHash w.params "book",.str "book" ft8,.ref fe8⟩] fep,#[]⟩)
  (fl0:K.lookup fe0=some ⟨.type "tuple",fd0,.seq #[] fn0,fs0⟩) (fl1:K.lookup fe1=some ⟨.type "tuple",fd1,.seq #[] fn1,fs1⟩) (fl2:K.lookup fe2=some ⟨.type "tuple",fd2,.seq #[] fn2,fs2⟩) (fl3:K.lookup fe3=some ⟨.type "tuple",fd3,.seq #[] fn3,fs3⟩) (fl4:K.lookup fe4=some ⟨.type "tuple",fd4,.seq #[] fn4,fs4⟩) (fl5:K.lookup fe5=some ⟨.type "tuple",fd5,.seq #[.str "name" fu0,.str "colour" fu1] fn5,fs5⟩) (fl6:K.lookup fe6=some ⟨.type "tuple",fd6,.seq #[.str "name" fu2] fn6,fs6⟩) (fl7:K.lookup fe7=some ⟨.type "tuple",fd7,.seq #[] fn7,fs7⟩) (fl8:K.lookup fe8=some ⟨.type "tuple",fd8,.seq #[] fn8,fs8⟩)
  (caHall:nsIn K mainGlobals "Hall"=some (some (.ref av))) (cokHall:Bs K "Hall" av ["counts","groups","worn"]=true)
  (caDesk:nsIn K mainGlobals "Desk"=some (some (.ref aK))) (cokDesk:Bs K "Desk" aK ["book","hall"]=true)
  (md0:MQ K av "__init__" "Hall.__init__" fm)
  (md1:MQ K av "put_all" "Hall.put_all" fS)
  (md2:MQ K av "put" "Hall.put" kh)
  (md3:MQ K av "guess" "Hall.guess" ic)
  (md4:MQ K av "right" "Hall.right" ie)
  {mT5:Addr} {mu5:Tok} {mO5:Obj} {mN5:Nat} {mf5:Addr} {md5 mn5:Option Addr} {ms5:Array (Option Value)} {mo5 mk5 me5 mp5 mc5 mt5:Value} (ma5:findIn K (.ref aK) "__init__"=some (some (.ref mf5))) (ml5:K.lookup mf5=some ⟨mo5,md5,.func (fnOf "__init__" "Desk.__init__" (bw bR) (aY bR) (aj bR) (.ref mT5) mk5 me5 mp5 mn5 mc5 mt5),ms5⟩) (mq5:codeIn K mc5 "Desk.__init__"=true) (mw5:keepIn K (.ref mf5)=true) (mi5:isFn K (.ref mf5)=true) (mlt5:K.lookup mT5=some mO5) (mld5:mO5.data=.seq #[.str "" mu5] mN5)
  (md6:MQ K aK "ask" "Desk.ask" kj)
  : ∃ fd:FuncData,(∀ (s:Shared) (v:Value),BindsTo s fd ⟨[v],[]⟩ [("script",v)])/\∀ base:Heap,K.In base->base.Ns mainGlobals mg->ft l.prog w K mg base B9 10 fa fd ["script"] (AX K):=by
 have e:=hfa.symm.trans (mg_of X G a61)
 cases e
 have kr:=d0.def X G;have Lb:=d1.def X G;have O0:=d2.def X G;have DF:=d3.def X G;have pX:=d4.def X G;have uY:=d5.def X G;have Il:=d6.def X G;have O1:=d7.def X G;have xt:=d8.def X G;have DG:=d9.def X G;have qL:=d10.def X G;have Ae:=d11.def X G;have qM:=d12.def X G;have uZ:=d13.def X G;have u6:=d14.def X G;have Lc:=d15.def X G;have Af:=d16.def X G;have qO:=d17.def X G;have Im:=d18.def X G;have u9:=d19.def X G;have xu:=d20.def X G;have qP:=d21.def X G;have qQ:=d22.def X G;have vc:=d23.def X G;have pY:=d24.def X G;have Ag:=d25.def X G;have qR:=d26.def X G;have qS:=d27.def X G;have Ah:=d28.def X G;have DH:=d29.def X G;have Ai:=d30.def X G;have qT:=d31.def X G;have pZ:=d32.def X G;have xw:Gf K mg "read_line" c7 0:=J9 X G a33 l33 c33 k33 lt33 ld33;have DI:=d34.def X G;have U:=d35.def X G;have DJ:=d36.def X G;have xy:=d37.def X G;have vd:=d38.def X G;have O2:=d39.def X G;have Io:=d40.def X G;have xA:=d41.def X G;have S:=d42.def X G;have qU:=d43.def X G;have qV:=d44.def X G;have DL:=d45.def X G;have xB:=d46.def X G;have xC:=d47.def X G;have xD:=d48.def X G;have xE:=d49.def X G;have lq:=d50.def X G;have xF:=d51.def X G;have xG:=d52.def X G;have Y:=d53.def X G;have Z:=d54.def X G;have ve:=d55.def X G;have xI:=d56.def X G;have p3:=d57.def X G;have mD:=d58.def X G;have xJ:=d59.def X G;have Aj:=d60.def X G;have B:Bn mg:=⟨SC X G z0,SC X G z1,SC X G z2,SC X G z3,SC X G z4,SC X G z5,SC X G z6,SC X G z7,SC X G z8,SC X G z9,SC X G z10,SC X G z11,SC X G z12,SC X G z13,SC X G z14,SC X G z15⟩;have a:=Bu X G cokHall;have d:=Bu X G cokDesk;have nG:=md0.def;have p4:=md1.def;have Ak:=md2.def;have vf:=md3.def;have vg:=md4.def;have nH:wG K aK "__init__" "Desk.__init__" bR "":=Hn ma5 ml5 mq5 mw5 mi5 mlt5 mld5;have Al:=md6.def;have E:=Hm (P:=l.prog) (w:=w) X G fa0 fhs fa1 fl0 fl1 fl2 fl3 fl4 fl5 fl6 fl7 fl8;have C:Cs mg:=⟨⟨_,mg_of X G q0⟩,⟨_,mg_of X G q1⟩,⟨_,mg_of X G q2⟩,⟨_,mg_of X G q3⟩,⟨_,mg_of X G q4⟩⟩;refine⟨fnOf "law" "law" (bw k9) (aY k9) (aj k9) .none kV61 dc61 pm61 an61 cd61 ct61,fun s v=>.of_eq rfl,fun base _ _=>?_⟩;have FL:=yk (st:=k9) l61 c61 k61;have x:=Df (P:=l.prog) (w:=w) (base:=base) B C DH;have R:=zK (P:=l.prog) (w:=w) (base:=base) B C Ai;have F3:=HJ B qT x R;have F4:=Dg B pZ x;have F5:=KO B xw F3 F4;have F6:=Dh (P:=l.prog) (w:=w) (base:=base) B C DI;have F7:=wU (P:=l.prog) (w:=w) (base:=base) B U;have N:=KP (P:=l.prog) (w:=w) (base:=base) B DJ;have F9:=KQ B xy N F5 F6 F7;have W1:=Dj (P:=l.prog) (w:=w) (base:=base) B Il;have M:=nS (P:=l.prog) (w:=w) (base:=base) O1;have I:=uC (P:=l.prog) (w:=w) (base:=base) B xt;have g:=zO B DG M;have SB:=HK B vd W1;have C1:=RL (P:=l.prog) (w:=w) (base:=base) kr;have u:=HM Lb C1;have C3:=KU O0 u;have J:=Dl (P:=l.prog) (w:=w) (base:=base) B Im;have C5:=HP u9 J C3;have j:=KW B xu C5;have W4:=pD (P:=l.prog) (w:=w) (base:=base) B qL;have L:=wW Ae W4;have W6:=qr B uZ M;have O:=pE B u6 L W6;have A:=pG B qM L;have W8:=Dm (P:=l.prog) (w:=w) (base:=base) B qQ;have W9:=qv B vc W1 I O W8;have p:=nA B pY W9 j;have n:=wY B Ag W1;have z:=pJ B qR n;have f:=pL B qS p z;have T:=HS (P:=l.prog) (w:=w) (base:=base) B Lc;have G2:=ON B Af T I g;have Q:=Dp B qO G2;have G4:=RT (P:=l.prog) (w:=w) (base:=base) uY;have G5:=zQ (P:=l.prog) (w:=w) (base:=base) DF;have G6:=RU B pX G5;have G7:=RV B qP G4 J G6;have A1:=zS (P:=l.prog) (w:=w) (base:=base) B Ah;have F:=HU B a nG Q;have A3:=zT B a p4 A1;have H:=KZ B a Ak A3;have o:=Dq B a vf G7;have D:=Dr B a vg o;have E1:=K1 O2 x R;have E2:=HV B E Io E1;have E3:=OP (P:=l.prog) (w:=w) (base:=base) B xA;have E4:=Du (P:=l.prog) (w:=w) (base:=base) B S;have E5:=Dv (P:=l.prog) (w:=w) (base:=base) B S;have E6:=K2 qU u;have E7:=OQ (P:=l.prog) (w:=w) (base:=base) B qV;have E8:=Dw B DL j E6 E7 E4 O A SB N;have E9:=HW B a d nH F9 f F;have c:=OR B a d E Al E2 E3 H o D E5 E8;have i:=Dx (P:=l.prog) (w:=w) (base:=base) B xB;have L2:=HX (P:=l.prog) (w:=w) (base:=base) B xC;have L3:=Ia B xD i L2;have L4:=Ib B xE i;have L5:=Ic (P:=l.prog) (w:=w) (base:=base) B lq;have L6:=Dy (P:=l.prog) (w:=w) (base:=base) B xF;have L7:=zV (P:=l.prog) (w:=w) (base:=base) B xG;have L8:=K4 B Y L4;have L9:=zW B Z i L3 L8 L7;have b:=Ig (P:=l.prog) (w:=w) (base:=base) B xI;have m:=K5 (P:=l.prog) (w:=w) (base:=base) B ve;have r:=Ih (P:=l.prog) (w:=w) (base:=base) B p3;have q:=Dz B a d mD c b g r;have t:=Ii B a d xJ Q j f u c b L6 q;have y:=K6 B a d Aj o D H c b;exact OT B a d FL L9 i L5 E9 c m b t F y
theorem walk {l:PySem.W.OpenLaw}{q:Program}{loose:List Str}{XP:(Str->Option Value)->Heap->Prop}{YP:World->Heap->Prop}{d:DefRec}{K:Params->Frag}(hn:l.most=some 63)(hdf:d.params.defaults=[])
  (hY:∀ (w:World) (h:Heap),YP w h->(K w.params).In h)
  (F:∀ (w:World) (mg:Str->Option Value) (fa:Addr) (h:Heap),(K w.params).In h->h.Ns mainGlobals mg->mg d.name=some (.ref fa)->
   ∃ fd:FuncData,(∀ (s:Shared) (u:Value),BindsTo s fd ⟨[u],[]⟩ [("script",u)])/\∀ base:Heap,(K w.params).In base->base.Ns mainGlobals mg->ft l.prog w (K w.params) mg base B9 10 fa fd ["script"] (AX (K w.params))) :
  PySem.W.WalkO q loose XP YP l.row.toRowW d [] (fun f vs=>PySem.call f vs):=
 L2.Jn (n:=63) (k:=10) (x:="script") (CX:=fun _=>B9) (sp:=fun w=>AX (K w.params)) hn (by decide) hdf ⟨rfl,by decide,by decide⟩ hY F (fun _ _ a c b _ e=>⟨a,c,rfl,e,b,fun _=>rfl⟩) fun _ _ _ _ _ z=>z
end K75
local macro_rules | `(tactic| walk_at "q") => `(tactic| exact ⟨_, _, _, _, _, _, _, _, _, _, by k_is, by k_is, by k_is, by k_is⟩)
local macro_rules | `(tactic| walk_at "m") => `(tactic| exact ⟨_, _, _, _, _, _, _, _, _, _, by k_is, by k_is, by k_is, by k_is, by k_is⟩)
namespace PySem.W.Fast
open PySem PySem.W PyProof.Rows
def tw12427144045514867708:=0
def tw18232174573662981618:=0
def tw15467872322169297391:=0
def tw557990412524095925:=0
def tw17234120259119685126:=0
def tw13184340216672683801:=0
def tw17637060403039026999:=0
def tw1201861247751575069:=0
def tw8359963015416033740:=0
def tw5799029049844337518:=0
def tw4402284741024514903:=0
def tw17216156736150234654:=0
def tw4608452407209491696:=0
def tw14615266968986405105:=0
def tw4124609003468168882:=0
def tw14825192992266952258:=0
def tw4668227203572787080:=0
def tw10229369953995387701:=0
def tw3360052458214569100:=0
def tw8557717334584150991:=0
def tw2982397202013110433:=0
def tw2555152517966352456:=0
def tw17562131196867606785:=0
def tw4075650455629404478:=0
def tw13960213782674186229:=0
def tw7114897890785506567:=0
def tw7352221122990124637:=0
def tw5320558963263785658:=0
def tw6700327298238739230:=0
def tw15060028980078274757:=0
def tw5338522947683966159:=0
def tw4183765150122051847:=0
def tw4071881031940536819:=0
def tw6602821847961064202:=0
def tw16488757098423920850:=0
def tw4720870490839050173:=0
def tw16546346444462338575:=0
def tw8565260912837614750:=0
def tw13318755237089993773:=0
def tw499166567602581084:=0
def tw12469152324701918752:=0
def tw1219678208329041374:=0
def tw2236032727087410320:=0
def tw13985902106515119857:=0
def tw17935076148510630114:=0
def tw8378810604670710680:=0
def tw9765965721923968467:=0
def tw18288894941004877975:=0
def tw1046756467294768572:=0
def tw12997608481049542819:=0
def tw15566777569440140507:=0
def tw13715124427632114:=0
def tw13658360386388640098:=0
def tw14980780042935652221:=0
def tw14761972642334427020:=0
def tw12006781686694306142:=0
def tw18372689200730311402:=0
def tw1781325098722070963:=0
def tw12502571916678077248:=0
def tw6761277833875243827:=0
def tw8637072863819988849:=0
def tw4918646544082183826:=0
def tw7041495373446825770:=0
def tw7266763513096924774:=0
def tw5314759838251540098:=0
def tw12953931197177417347:=0
def tw676594301741950147:=0
def tw3052480602263750201:=0
def tw17813744456663607842:=0
def tw4572071841613873808:=0
def tw4374172370656420802:=0
def tw7927855908637070840:=0
def tw18319484335503156516:=0
def tw12539816742152565021:=0
def tw17417742185103345031:=0
def tw638919311301899586:=0
def tw2608054251381665055:=0
def tw8044008807708832483:=0
def tw16200492223112474482:=0
def tw8200929919272500502:=0
def tw16486815785267073848:=0
def tw9682873022393889985:=0
def tw10578512270268894744:=0
def tw423728553842870354:=0
def tw16463814948826132185:=0
def tw11075291530996383240:=0
def tw11226562011811819606:=0
def tw15894634986228550203:=0
def tw13323189657770190419:=0
def tw14127935376156896819:=0
def tw8125864988083389349:=0
def tw7520222170412632150:=0
def tw16842830650602142195:=0
def tw2071220116381982871:=0
def tw13584526930425258348:=0
def tw9782927110519436551:=0
def tw14389447867274735706:=0
def tw7295252008925703228:=0
def tw8590491262048774296:=0
def tw1999149467559304031:=0
def tw1799441241614167077:=0
def tw13192683307049091951:=0
def tw18379389613068068609:=0
def tw12677408422543008539:=0
def tw5778174559437692215:=0
def tw8479026369368721215:=0
def tw2004437056607336551:=0
def tw17859605731698689984:=0
def tw1436118994076308448:=0
def tw1123006642151666474:=0
def tw16982956446931746061:=0
def tw3407476641655122073:=0
def tw15896319843715101285:=0
def tw642807611156981784:=0
def tw8968240735361165846:=0
def tw4413163065298486761:=0
def tw10545195690788640867:=0
def tw981636788155045061:=0
def tw15879234231269220173:=0
def tw12332970726867847524:=0
def tw15813444463031850696:=0
def tw16112603774589870426:=0
def tw10862603653534698717:=0
def tw1006514926679493823:=0
def tw4921437663635101570:=0
def tw7107337492855560885:=0
def tw4613015003374192051:=0
def tw1445550157154207590:=0
def tw2512572160382100596:=0
def tw17087417886791394323:=0
def tw9946445168095512868:=0
def tw4789621986635014236:=0
def tw13903399212629015047:=0
def tw2987920953363586805:=0
def tw141231139276707354:=0
def tw9014318422418921925:=0
def tw653803860297333696:=0
def tw3485428070456619045:=0
def tw8914516810231688027:=0
def tw14340909756607080642:=0
def tw18056864354093476097:=0
def tw7878239341315831728:=0
def tw8203855456128716529:=0
def tw3289749245264299854:=0
def tw17356727051942665760:=0
def tw11034903318204486081:=0
def tw2137560978909418956:=0
def tw14921795300859622814:=0
def tw7435226082335578156:=0
def tw1898013004419491883:=0
def tw13281103726156517840:=0
def tw14211311439874915115:=0
def tw16314353579701958767:=0
def tw6604725507736519435:=0
def tw2384040260558765702:=0
def tw9705956733939949760:=0
def tw6134986381812998485:=0
def tw1501702915740115115:=0
def tw12145838628453393567:=0
def tw10975825472231601697:=0
def tw775017793253489248:=0
def tw17846483883404335076:=0
def tw1578540099160333860:=0
def tw16448328559491582468:=0
def tw1360475548000458790:=0
def tw3953809548364578018:=0
def tw18195665551070898514:=0
def tw831991201188923287:=0
def tw1555824313333929607:=0
def tw15475246657645060678:=0
def tw7388798947744017345:=0
def tw14040983538455393148:=0
def tw15916476223829041213:=0
def tw13947919591294137932:=0
def tw2894472386312991331:=0
def tw18445269438752600896:=0
def tw10212901097423369804:=0
def tw14265426263230374800:=0
def tw12386338088166768957:=0
def tw1961218836301814097:=0
end PySem.W.Fast
open PySem PySem.W PyProof.Rows
set_option maxRecDepth 100000 in
set_option maxHeartbeats 0 in
theorem PySem.Challenge.cw_hatsight_k75_asks_holds : PySem.Challenge.rw_hatsight_k75_asks.Holds := by
 w_on;o_law;k_head;(case hw=>w_witness2)
 k_fill
 refine K75.walk (l:=PySem.Challenge.rw_hatsight_k75_asks) rfl rfl (fun w h Y=>kIn_of Y) ?F
 case F=>
  intro w mg fa h KX G hmg;refine' K75.all_mk KX G hmg (by walk_at "q") (by walk_at "q") (by walk_at "q") (by walk_at "q") (by walk_at "q") (by walk_at "q") (by walk_at "q") (by walk_at "q") (by walk_at "q") (by walk_at "q") (by walk_at "q") (by walk_at "q") (by walk_at "q") (by walk_at "q") (by walk_at "q") (by walk_at "q") (by walk_at "q") (by walk_at "q") (by walk_at "q") (by walk_at "q") (by walk_at "q") (by walk_at "q") (by walk_at "q") (by walk_at "q") (by walk_at "q") (by walk_at "q") (by walk_at "q") (by walk_at "q") (by walk_at "q") (by walk_at "q") (by walk_at "q") (by walk_at "q") (by walk_at "q") ?a33 ?l33 ?c33 ?k33 ?lt33 ?ld33 (by walk_at "q") (by walk_at "q") (by walk_at "q") (by walk_at "q") (by walk_at "q") (by walk_at "q") (by walk_at "q") (by walk_at "q") (by walk_at "q") (by walk_at "q") (by walk_at "q") (by walk_at "q") (by walk_at "q") (by walk_at "q") (by walk_at "q") (by walk_at "q") (by walk_at "q") (by walk_at "q") (by walk_at "q") (by walk_at "q") (by walk_at "q") (by walk_at "q") (by walk_at "q") (by walk_at "q") (by walk_at "q") (by walk_at "q") (by walk_at "q") ?a61 ?l61 ?c61 ?k61 ?z0 ?z1 ?z2 ?z3 ?z4 ?z5 ?z6 ?z7 ?z8 ?z9 ?z10 ?z11 ?z12 ?z13 ?z14 ?z15 ?q0 ?q1 ?q2 ?q3 ?q4 ?fa0 ?fhs ?fa1 ?fl0 ?fl1 ?fl2 ?fl3 ?fl4 ?fl5 ?fl6 ?fl7 ?fl8 ?caHall ?cokHall ?caDesk ?cokDesk ?md0 ?md1 ?md2 ?md3 ?md4 ?ma5 ?ml5 ?mq5 ?mw5 ?mi5 ?mlt5 ?mld5 ?md6
  (case a33=>k_is);(case l33=>k_is);(case c33=>k_is);(case k33=>k_is)
  (case lt33=>k_is);(case ld33=>rfl)
  (case a61=>k_is);(case l61=>k_is);(case c61=>k_is);(case k61=>k_is)
  (case q0=>k_is)
  (case q1=>k_is)
  (case q2=>k_is)
  (case q3=>k_is)
  (case q4=>k_is)
  (case fa0=>k_is);(case fhs=>rfl);(case fa1=>k_is);(case fl0=>k_is);(case fl1=>k_is);(case fl2=>k_is);(case fl3=>k_is);(case fl4=>k_is);(case fl5=>k_is);(case fl6=>k_is);(case fl7=>k_is);(case fl8=>k_is)
  (case caHall=>k_is)
  (case caDesk=>k_is)
  (case md0=>walk_at "m")
  (case md1=>walk_at "m")
  (case md2=>walk_at "m")
  (case md3=>walk_at "m")
  (case md4=>walk_at "m")
  (case ma5=>k_is);(case ml5=>k_is);(case mq5=>k_is);(case mw5=>k_is);(case mi5=>k_is);(case mlt5=>k_is);(case mld5=>rfl)
  (case md6=>walk_at "m")
  (case cokHall=>kernel_rfl)
  (case cokDesk=>kernel_rfl)
  (case z0=>k_is)
  (case z1=>k_is)
  (case z2=>k_is)
  (case z3=>k_is)
  (case z4=>k_is)
  (case z5=>k_is)
  (case z6=>k_is)
  (case z7=>k_is)
  (case z8=>k_is)
  (case z9=>k_is)
  (case z10=>k_is)
  (case z11=>k_is)
  (case z12=>k_is)
  (case z13=>k_is)
  (case z14=>k_is)
  (case z15=>k_is)
