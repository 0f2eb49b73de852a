import PyProof.Rows.All
import Wide.All
import OpenK.AllK
import Wide.FinOn
import Lean
import PyProof.EqAt
import PyProof.EqKinds
import PyProof.TupleCall
import PySem.Challenge.RW_hatsight_k79_names_turned
set_option Elab.async false
set_option linter.all false
set_option maxRecDepth 100000
set_option compiler.extract_closed false
open List (all_cons any_cons append_nil cons_append drop_zero ext_getElem filterMap_cons filter_cons filter_nil filter_sublist find?_cons flatten_cons foldl_cons forIn_cons getD_eq_getElem?_getD getElem?_drop getElem_idxOf getElem_inj getElem_take idxOf_cons length_append length_cons length_drop length_erase length_filter_le length_map length_nil length_pos_of_mem length_range length_replicate length_set length_take lookup_cons map_cons map_drop map_nil map_take mem_cons mem_cons_of_mem mem_cons_self mem_of_mem_drop mem_of_mem_take nil_append nodup_append nodup_iff_pairwise_ne nodup_nil nodup_range not_mem_nil pairwise_map range_zero reverse_perm set_cons_succ set_cons_zero sum_cons take_append_drop take_length take_of_length_le take_sublist take_succ take_zero)
open Nat (eq_of_testBit_eq le_succ log2_lt lt_log2_self lt_succ_of_lt lt_succ_self mod_eq_of_lt mod_lt mod_self not_lt_zero succ_le_succ testBit_and testBit_eq_decide_div_mod_eq testBit_or testBit_two_pow toDigits zero_le zero_testBit)
open PySem.Heap (ExtBut SameBut get?_push_of_some get?_push_size lt_size)
open Option (getD_none isSome_map isSome_none isSome_some map_some)
open Array (all_toList getElem?_toList)
open Int (ediv_le_self ediv_nonneg emod_eq_of_lt emod_lt_of_pos emod_nonneg eq_ofNat_of_zero_le mul_ediv_add_emod natAbs_natCast natCast_add natCast_emod sub_emod toNat toNat_natCast)
open PySem.F (args_tuple_add_2 entry_tuple_add plainAttrs_list plainAttrs_str slot_list_index slot_str_join slot_str_split slot_tuple_add slot_tuple_index type_list_index type_str_join type_str_split)
open PySem.W (binds_K callWith_K cellsFrom_some codeIn emptyDict findIn fnOf handedIn hasDictIn instObj isFn kIn_of keepIn lookIn makesIn methodCall_KW methodObj mg_none_of mg_of nsIn plainGet plainGet_of plainOver takerIn typeIn)
open PySem.SeqAt (EqAt list_indexAt shaped)
set_option maxHeartbeats 4000000
open PySem.W (Frag)
namespace L2
open PySem PySem.Spec PyProof.Rows
theorem b4:type_of% @List.getD_eq_getElem?_getD:=@List.getD_eq_getElem?_getD
theorem b5:type_of% @List.getElem?_eq_getElem:=@List.getElem?_eq_getElem
theorem cc:type_of% @List.length_map:=@List.length_map
theorem cv:type_of% @PySem.wpAny_bind:=@PySem.wpAny_bind
theorem dt:type_of% @decide_eq_true:=@decide_eq_true
theorem dy:type_of% @Nat.le_refl:=@Nat.le_refl
theorem ed:type_of% @decide_eq_false:=@decide_eq_false
theorem ek:type_of% @List.getElem?_map:=@List.getElem?_map
theorem ey:type_of% @PySem.Heap.get?_push_of_some:=@PySem.Heap.get?_push_of_some
theorem eG:type_of% @List.length_append:=@List.length_append
theorem eH:type_of% @List.mem_cons_of_mem:=@List.mem_cons_of_mem
theorem fz:type_of% @List.mem_singleton:=@List.mem_singleton
theorem fA:type_of% @List.mem_cons_self:=@List.mem_cons_self
theorem fO:type_of% @List.size_toArray:=@List.size_toArray
theorem gc:type_of% @List.mem_range:=@List.mem_range
theorem gd:type_of% @PySem.wpAny_pure:=@PySem.wpAny_pure
theorem gz:type_of% @Bool.and_eq_true:=@Bool.and_eq_true
theorem hI:type_of% @Bool.false_ne_true:=@Bool.false_ne_true
theorem hO:type_of% @List.map_append:=@List.map_append
theorem hU:type_of% @List.mem_cons:=@List.mem_cons
theorem h5:type_of% @List.mem_of_getElem?:=@List.mem_of_getElem?
theorem h9:type_of% @Nat.le_trans:=@Nat.le_trans
theorem ih:type_of% @List.mem_map:=@List.mem_map
theorem j5:type_of% @Nat.lt_of_lt_of_le:=@Nat.lt_of_lt_of_le
theorem j6:type_of% @List.length_range:=@List.length_range
theorem j9:type_of% @PySem.Heap.get?_push_size:=@PySem.Heap.get?_push_size
theorem ka:type_of% @List.mem_append:=@List.mem_append
theorem kb:type_of% @List.all_eq_true:=@List.all_eq_true
theorem kc:type_of% @List.map_map:=@List.map_map
theorem kf:type_of% @List.getElem?_eq_none:=@List.getElem?_eq_none
theorem ls:type_of% @PySem.F.slot_list_append:=@PySem.F.slot_list_append
theorem mo:type_of% @decide_eq_true_eq:=@decide_eq_true_eq
theorem nc:type_of% @PySem.F.type_list_append:=@PySem.F.type_list_append
theorem nt:type_of% @Nat.ne_of_lt:=@Nat.ne_of_lt
theorem oD:type_of% @List.map_cons:=@List.map_cons
theorem o5:type_of% @List.getElem?_eq_some_iff:=@List.getElem?_eq_some_iff
theorem pS:type_of% @List.mem_filter:=@List.mem_filter
theorem p0:type_of% @List.getElem_mem:=@List.getElem_mem
theorem qs:type_of% @List.length_cons:=@List.length_cons
theorem qE:type_of% @PySem.boot_len:=@PySem.boot_len
theorem qN:type_of% @PySem.F.plainAttrs_list:=@PySem.F.plainAttrs_list
theorem q5:type_of% @Nat.pow_le_pow_right:=@Nat.pow_le_pow_right
theorem q7:type_of% @Bool.true_and:=@Bool.true_and
theorem ri:type_of% @Nat.testBit_eq_decide_div_mod_eq:=@Nat.testBit_eq_decide_div_mod_eq
theorem ro:type_of% @List.append_assoc:=@List.append_assoc
theorem r3:type_of% @Int.eq_ofNat_of_zero_le:=@Int.eq_ofNat_of_zero_le
theorem r4:type_of% @Classical.byContradiction:=@Classical.byContradiction
theorem tx:type_of% @Option.some.inj:=@Option.some.inj
theorem tz:type_of% @Bool.false_and:=@Bool.false_and
theorem uF:type_of% @List.length_drop:=@List.length_drop
theorem u5:type_of% @of_decide_eq_true:=@of_decide_eq_true
theorem vr:type_of% @List.getElem?_range:=@List.getElem?_range
theorem wh:type_of% @List.length_take:=@List.length_take
theorem w6:type_of% @List.getElem?_append_right:=@List.getElem?_append_right
theorem xm:type_of% @List.mem_append_right:=@List.mem_append_right
theorem yx:type_of% @Int.toNat_natCast:=@Int.toNat_natCast
theorem zP:type_of% @PySem.F.plainAttrs_str:=@PySem.F.plainAttrs_str
theorem zS:type_of% @Nat.mul_le_mul_right:=@Nat.mul_le_mul_right
theorem AC:type_of% @Int.mul_le_mul_of_nonneg_right:=@Int.mul_le_mul_of_nonneg_right
theorem A5:type_of% @List.length_filter_le:=@List.length_filter_le
theorem A6:type_of% @Nat.lt_of_le_of_lt:=@Nat.lt_of_le_of_lt
theorem BC:type_of% @List.getElem_of_mem:=@List.getElem_of_mem
theorem C2:type_of% @List.getElem?_append_left:=@List.getElem?_append_left
theorem C3:type_of% @List.nodup_cons:=@List.nodup_cons
theorem C4:type_of% @List.filterMap_cons:=@List.filterMap_cons
theorem C6:type_of% @Int.emod_lt_of_pos:=@Int.emod_lt_of_pos
theorem Da:type_of% @List.idxOf_lt_length_of_mem:=@List.idxOf_lt_length_of_mem
theorem Do:type_of% @List.sum_cons:=@List.sum_cons
theorem Dq:type_of% @beq_eq_false_iff_ne:=@beq_eq_false_iff_ne
theorem DK:type_of% @List.take_of_length_le:=@List.take_of_length_le
theorem E4:type_of% @PySem.wpAny_mono:=@PySem.wpAny_mono
theorem E8:type_of% @PySem.F.called_set:=@PySem.F.called_set
theorem Fk:type_of% @List.pairwise_cons:=@List.pairwise_cons
theorem FB:type_of% @List.nodup_iff_pairwise_ne:=@List.nodup_iff_pairwise_ne
theorem FM:type_of% @List.range_succ:=@List.range_succ
theorem FS:type_of% @Nat.two_pow_pos:=@Nat.two_pow_pos
theorem F1:type_of% @List.idxOf_lt_length_iff:=@List.idxOf_lt_length_iff
theorem F2:type_of% @List.length_pos_iff:=@List.length_pos_iff
theorem F4:type_of% @PySem.wpAny_truthy_bool:=@PySem.wpAny_truthy_bool
theorem F8:type_of% @PyProof.Rows.callWith_type1:=@PyProof.Rows.callWith_type1
theorem Gc:type_of% @PySem.Heap.size_push:=@PySem.Heap.size_push
theorem GE:type_of% @Int.emod_nonneg:=@Int.emod_nonneg
theorem GM:type_of% @PySem.F.slot_str_join:=@PySem.F.slot_str_join
theorem GT:type_of% @PySem.mem_of_lookup:=@PySem.mem_of_lookup
theorem IR:type_of% @PySem.W.mg_none_of:=@PySem.W.mg_none_of
theorem I1:type_of% @Nat.not_lt_zero:=@Nat.not_lt_zero
theorem I3:type_of% @List.ext_getElem?:=@List.ext_getElem?
theorem KB:type_of% @List.filterMap_append:=@List.filterMap_append
theorem KE:type_of% @Nat.lt_irrefl:=@Nat.lt_irrefl
theorem KF:type_of% @Int.natAbs_natCast:=@Int.natAbs_natCast
theorem KM:type_of% @PySem.F.type_str_join:=@PySem.F.type_str_join
theorem L1:type_of% @Nat.testBit_two_pow:=@Nat.testBit_two_pow
theorem L3:type_of% @List.take_length:=@List.take_length
theorem On:type_of% @PySem.wpAny_callSpecial?_slot:=@PySem.wpAny_callSpecial?_slot
theorem Os:type_of% @Nat.pow_lt_pow_right:=@Nat.pow_lt_pow_right
theorem OD:type_of% @congrArg:=@congrArg
theorem Pi:type_of% @PySem.call_meets:=@PySem.call_meets
theorem P3:type_of% @List.all_map:=@List.all_map
theorem Re:type_of% @List.nodup_range:=@List.nodup_range
theorem SC:type_of% @Bool.eq_iff_iff:=@Bool.eq_iff_iff
theorem SL:type_of% @Bool.or_eq_true:=@Bool.or_eq_true
theorem SZ:type_of% @List.filter_append:=@List.filter_append
theorem Ta:type_of% @Nat.eq_of_testBit_eq:=@Nat.eq_of_testBit_eq
theorem Tb:type_of% @PySem.wpAny_call_entry:=@PySem.wpAny_call_entry
theorem Tc:type_of% @Int.mul_ediv_cancel_left:=@Int.mul_ediv_cancel_left
theorem Td:type_of% @List.getElem_idxOf:=@List.getElem_idxOf
theorem Te:type_of% @List.lookup_cons:=@List.lookup_cons
theorem Tf:type_of% @PySem.wpAny_pyIter_list:=@PySem.wpAny_pyIter_list
theorem Tg:type_of% @List.replicate_succ:=@List.replicate_succ
theorem Th:type_of% @List.map_eq_nil_iff:=@List.map_eq_nil_iff
theorem Ti:type_of% @Nat.lt_trans:=@Nat.lt_trans
theorem Tj:type_of% @Int.add_mul:=@Int.add_mul
theorem Tn:type_of% @List.take_append_drop:=@List.take_append_drop
theorem To:type_of% @PySem.wpAny_pyIter_tuple:=@PySem.wpAny_pyIter_tuple
theorem Tp:type_of% @Int.add_mul_emod_self_left:=@Int.add_mul_emod_self_left
theorem Tq:type_of% @PySem.wpAny_seqItems:=@PySem.wpAny_seqItems
theorem Tr:type_of% @PySem.F.slot_str_split:=@PySem.F.slot_str_split
theorem Ts:type_of% @decide_eq_true_iff:=@decide_eq_true_iff
theorem Tt:type_of% @Nat.mod_two_eq_zero_or_one:=@Nat.mod_two_eq_zero_or_one
theorem Tu:type_of% @PyProof.Rows.boot_tuple:=@PyProof.Rows.boot_tuple
theorem Tv:type_of% @PySem.wpAny_passesOwn:=@PySem.wpAny_passesOwn
theorem Tw:type_of% @List.nodup_append:=@List.nodup_append
theorem Tx:type_of% @PySem.wpAny_field:=@PySem.wpAny_field
theorem Tz:type_of% @PySem.wpAny_holding:=@PySem.wpAny_holding
theorem TB:type_of% @List.append_nil:=@List.append_nil
theorem TC:type_of% @Nat.lt_succ_of_lt:=@Nat.lt_succ_of_lt
theorem TF:type_of% @Int.emod_eq_of_lt:=@Int.emod_eq_of_lt
theorem TH:type_of% @List.map_congr_left:=@List.map_congr_left
theorem TJ:type_of% @beq_self_eq_true:=@beq_self_eq_true
theorem TL:type_of% @Bool.and_false:=@Bool.and_false
theorem TM:type_of% @List.filter_sublist:=@List.filter_sublist
theorem TN:type_of% @List.Perm.refl:=@List.Perm.refl
theorem TQ:type_of% @List.map_reverse:=@List.map_reverse
theorem TR:type_of% @List.map_drop:=@List.map_drop
theorem TU:type_of% @Nat.ne_of_gt:=@Nat.ne_of_gt
theorem TV:type_of% @PySem.codeAny_mono:=@PySem.codeAny_mono
theorem TX:type_of% @Nat.zero_testBit:=@Nat.zero_testBit
theorem TY:type_of% @List.cons.inj:=@List.cons.inj
theorem TZ:type_of% @Int.le_refl:=@Int.le_refl
theorem T3:type_of% @Nat.lt_succ_self:=@Nat.lt_succ_self
theorem T4:type_of% @Int.mul_comm:=@Int.mul_comm
theorem T7:type_of% @Nat.sub_self:=@Nat.sub_self
theorem T8:type_of% @Nat.mod_eq_of_lt:=@Nat.mod_eq_of_lt
abbrev Key:=Sum Int Str
def lQ:Key->Value->Bool
 | .inl k,v=>Value.isInt k v
 | .inr x,v=>Value.isStrOf x v
def RW (w:World):Key->Int
 | .inl k=>hashInt k
 | .inr x=>hashStr w x
theorem bL:∀ {k:Key} {v:Value},lQ k v=true->(∃ i t,k=Sum.inl i/\v=Value.int i t)∨(∃ x t,k=Sum.inr x/\v=Value.str x t)
 | .inl i,v,h=>by
  obtain⟨t,e⟩:=Value.isInt_shape (k:=i) (v:=v) h;exact .inl ⟨i,t,rfl,e⟩
 | .inr x,v,h=>by
  obtain⟨t,e⟩:=Value.isStrOf_shape (x:=x) (v:=v) h;exact .inr ⟨x,t,rfl,e⟩
theorem BD (i:Int)(t:Tok):lQ (.inl i) (.int i t)=true:=by simp[lQ,Value.isInt]
theorem BE (x:Str)(t:Tok):lQ (.inr x) (.str x t)=true:=by simp[lQ,Value.isStrOf]
theorem Mc (a b:Int):decide ((Sum.inl a:Key)=Sum.inl b)=(a == b):=by
 by_cases e:a=b
 ·subst e;simp
 ·have h:¬ (Sum.inl a:Key)=Sum.inl b:=fun q=>e (Sum.inl.inj q);rw[ed h];exact(Dq.mpr e).symm
theorem Md (a b:Str):decide ((Sum.inr a:Key)=Sum.inr b)=decide (a=b):=by
 by_cases e:a=b
 ·subst e;simp
 ·have h:¬ (Sum.inr a:Key)=Sum.inr b:=fun q=>e (Sum.inr.inj q);rw[ed h,ed e]
theorem Me (a:Int)(b:Str):decide ((Sum.inl a:Key)=Sum.inr b)=false:=ed (fun q=>nomatch q)
theorem Mf (a:Str)(b:Int):decide ((Sum.inr a:Key)=Sum.inl b)=false:=ed (fun q=>nomatch q)
def bT (prog:Program)(w:World):PySem.KeyKind prog w Key where
 is:=lQ
 hash:=RW w
 inj:=fun v a b f hb=>by
  rcases bL f with ⟨i,t,rfl,rfl⟩ | ⟨x,t,rfl,rfl⟩
  ·rcases bL hb with ⟨j,u,rfl,e⟩ | ⟨y,u,rfl,e⟩
   ·injection e with c _;rw[c]
   ·exact nomatch e
  ·rcases bL hb with ⟨j,u,rfl,e⟩ | ⟨y,u,rfl,e⟩
   ·exact nomatch e
   ·injection e with c _;rw[c]
 byValue:=fun k v h=>by
  rcases bL h with ⟨i,t,rfl,rfl⟩ | ⟨x,t,rfl,rfl⟩<;>rfl
 pyHash:=fun d h=>by
  rcases bL d with ⟨i,t,rfl,rfl⟩ | ⟨x,t,rfl,rfl⟩
  ·exact wpAny_pyHash_int h
  ·exact wpAny_pyHash_str h
 eqBool:=fun hu d h=>by
  rcases bL hu with ⟨i,t,rfl,rfl⟩ | ⟨x,t,rfl,rfl⟩
  ·rcases bL d with ⟨j,u,rfl,rfl⟩ | ⟨y,u,rfl,rfl⟩
   ·rw[Mc] at h;exact wpAny_eqBool_int h
   ·rw[Me] at h;exact SeqAt.EqAt.int_str i t y u _ _ _ _ h
  ·rcases bL d with ⟨j,u,rfl,rfl⟩ | ⟨y,u,rfl,rfl⟩
   ·rw[Mf] at h;exact SeqAt.EqAt.str_int x t j u _ _ _ _ h
   ·rw[Md] at h;exact wpAny_eqBool_str h
 «strs»:=fun k x t v h=>by
  rcases bL h with ⟨i,u,rfl,e⟩ | ⟨y,u,rfl,e⟩
  ·exact nomatch e
  ·injection e with c _
   subst c
   cases v<;>rfl
theorem uO (prog:Program)(w:World)(i:Int)(t:Tok):(bT prog w).is (.inl i) (.int i t)=true:=BD i t
theorem bM (prog:Program)(w:World)(x:Str)(t:Tok):(bT prog w).is (.inr x) (.str x t)=true:=BE x t
inductive V where
 | bE | bl (b:Bool) | int (i:Int) | str (x:Str) | DG (b:Array UInt8) | RV (b:UInt64) | ref (a:Addr) | ty (n:String)
 deriving DecidableEq
def RelV:V->Value->Prop
 | .bE,u=>u=Value.none
 | .bl b,u=>u=Value.bool b
 | .int i,u=>∃ t,u=Value.int i t
 | .str x,u=>∃ t,u=Value.str x t
 | .DG b,u=>∃ t,u=Value.bytes b t
 | .RV b,u=>∃ t,u=Value.float b t
 | .ref a,u=>u=Value.ref a
 | .ty n,u=>u=Value.type n
abbrev Vals:List V->List Value->Prop:=Paired RelV
theorem Vals.length {xs:List V}{us:List Value}(r:Vals xs us):xs.length=us.length:=Paired.length r
theorem Vals.get:∀ {xs:List V} {us:List Value} {i:Nat} {x:V},Vals xs us->xs[i]?=some x->∃ u,us[i]?=some u/\RelV x u
 | _,_,_,_,.nil,e=>by simp at e
 | _,_,0,_,.cons r _,e=>by simp at e;subst e;exact⟨_,rfl,r⟩
 | _,_,i+1,x,.cons _ t,e=>by
  obtain⟨u,h1,a⟩:=Vals.get (i:=i) (x:=x) t (by simpa using e)
  exact⟨u,by simpa using h1,a⟩
theorem Vals.set {x:V}{u:Value}(r:RelV x u):∀ {xs:List V} {us:List Value} (i:Nat),Vals xs us->Vals (xs.set i x) (us.set i u)
 | _,_,_,.nil=>.nil
 | _,_,0,.cons _ t=>.cons r t
 | _,_,i+1,.cons q t=>.cons q (Vals.set r i t)
theorem Vals.append:∀ {xs ys:List V} {us ws:List Value},Vals xs us->Vals ys ws->Vals (xs++ys) (us++ws)
 | _,_,_,_,.nil,s=>s
 | _,_,_,_,.cons r t,s=>.cons r (Vals.append t s)
theorem Vals.take:∀ {xs:List V} {us:List Value} (n:Nat),Vals xs us->Vals (xs.take n) (us.take n)
 | _,_,0,_=>.nil
 | _,_,_+1,.nil=>.nil
 | _,_,n+1,.cons r t=>.cons r (Vals.take n t)
theorem Vals.drop:∀ {xs:List V} {us:List Value} (n:Nat),Vals xs us->Vals (xs.drop n) (us.drop n)
 | _,_,0,r=>r
 | _,_,_+1,.nil=>.nil
 | _,_,n+1,.cons _ t=>Vals.drop n t
def ir:Option V->Option Value->Prop
 | some v,some u=>RelV v u
 | none,none=>True
 | _,_=>False
variable {κ:Type}
def KV:List (κ × V)->List (κ × Value)->Prop:=Paired fun (p:κ × V) (q:κ × Value)=>p.1=q.1/\RelV p.2 q.2
def kV:Key->V
 | .inl i=>.int i
 | .inr x=>.str x
inductive HO where
 | lst (xs:List V)
 | tup (xs:List V)
 | dK (kvs:List (Key × V)) | dT (kvs:List (List Key × V))
 | set (S:Int->Bool) (n:Nat)
 | ins (C dx:Addr) (fs:List (Str × V))
 | own (x:Addr)
 | xd (fs:List (Str × V))
 | met (f x:Addr)
 | KO (lo hi:Int)
 | jE (o:Obj) (u:HO)
 | OA (ps:Array Value)
 | ext (φ:Heap->Prop)
abbrev Hp:=Addr->Option HO
def upd (H:Hp)(a:Addr)(o:HO):Hp:=fun b=>if b=a then some o else H b
variable {H:Hp}{a:Addr}{o:HO}
theorem ag:upd H a o a=some o:=by unfold upd;rw[if_pos rfl]
variable {b:Addr}
theorem aG (h:b≠a):upd H a o b=H b:=by unfold upd;rw[if_neg h]
variable {u:HO}
theorem Ih:upd (upd H a o) a u=upd H a u:=by
 funext b;unfold upd;split<;>rfl
theorem gj (h:H a=some o)(h':H b=some u)(d:o≠u):a≠b:=by
 intro e;subst e;rw[h] at h';exact d (tx h')
theorem bp (h:H a=some o)(h':H b=none):a≠b:=by
 intro e;subst e;rw[h] at h';cases h'
section
variable (P:Program)(w:World)
def bS (H:Hp)(h:Heap)(a:Addr):HO->Prop
 | .lst c=>c.length<=sizeLine/\∃ (its:List Value) (n:Nat),Vals c its/\h.get? a=some {cls:=.type "list",data:=.seq its.toArray n}
 | .tup c=>c.length<=sizeLine/\∃ its:List Value,Vals c its/\IsTup h a its.toArray
 | .dK b=>b.length<=sizeLine/\(a == sysModules)=false/\∃ vs,KV b vs/\h.DictOf (bT P w) a vs
 | .dT b=>b.length<=sizeLine/\(a == sysModules)=false/\∃ c:List (List Key × Addr × Value),
   Paired (fun (p:List Key × V) (q:List Key × Addr × Value)=>p.1=q.1/\H q.2.1=some (.tup (p.1.map kV))/\RelV p.2 q.2.2) b c/\
   ∃ o es ep,h.get? a=some o/\o.ExactDict/\o.data=.dict es ep/\es.toList=c.map (entryOfKey (tupleKind (bT P w)))/\(c.map (·.1)).Nodup
 | .set S n=>h.SetOf (intKind P w) a S n
 | .ins C d fs=>H d=some (.own a)/\fs.length<=1000/\d≠a/\h.get? a=some (instObj C d)/\
   ∃ mA,h.Ns1 d mA/\(∀ f,ir (fs.lookup f) (mA f))/\PySem.Within mA (fs.map (·.1))
 | .own _=>∃ o,h.get? a=some o
 | .xd fs=>∃ mA,h.Ns1 a mA/\∀ f,ir (fs.lookup f) (mA f)
 | .KO g hi=>∃ t u v,h.get? a=some {cls:=.type "range",data:=.fields #[.int g t,.int hi u,.int 1 v]}
 | .jE o u=>h.get? a=some o/\bS H h a u
 | .OA e=>h.get? a=some {cls:=.none,data:=.fields e}
 | .met f x=>h.get? a=some (methodObj (.ref f) (.ref x))
 | .ext φ=>φ h/\(∃ o,h.get? a=some o)/\∀ h1 h2:Heap,φ h1->(∀ o,h1.get? a=some o->h2.get? a=some o)->φ h2
def jz (H:Hp)(h:Heap):Prop:=∀ a o,H a=some o->bS P w H h a o
end
variable {P:Program}{w:World}{h:Heap}
theorem bS.lt (x:bS P w H h a o):a<h.objs.size:=by
 cases o with
 | lst c=>obtain⟨_,_,_,_,e⟩:=x;exact lt_size e
 | tup c=>obtain⟨_,_,_,p⟩:=x;exact p.lt
 | dK b=>obtain⟨_,_,_,_,o,_,_,e,_⟩:=x;exact lt_size e
 | dT b=>obtain⟨_,_,_,_,o,_,_,e,_⟩:=x;exact lt_size e
 | set S n=>obtain⟨o,_,_,_,e,_⟩:=x;exact lt_size e
 | ins C g fs=>obtain⟨_,_,_,e,_⟩:=x;exact lt_size e
 | own y=>obtain⟨_,e⟩:=x;exact lt_size e
 | xd fs=>obtain⟨_,⟨_,_,_,e,_⟩,_⟩:=x;exact lt_size e
 | KO d hi=>obtain⟨_,_,_,e⟩:=x;exact lt_size e
 | jE ob u=>obtain⟨e,_⟩:=x;exact lt_size e
 | OA i=>exact lt_size (show h.get? a=some _ from x)
 | met f y=>exact lt_size (show h.get? a=some _ from x)
 | ext φ=>obtain⟨_,⟨_,e⟩,_⟩:=x;exact lt_size e
theorem Paired.Mg {α β:Type}{F G:α->β->Prop}:∀ {l₁:List α} {l₂:List β},Paired F l₁ l₂->(∀ a b,F a b->G a b)->Paired G l₁ l₂
 | _,_,.nil,_=>.nil
 | _,_,.cons r t,f=>.cons (f _ _ r) (Paired.Mg t f)
variable {H':Hp}{h':Heap}
theorem bS.xC (x:bS P w H h a o)(k:∀ b u,(b=a∨H b=some (.own a))->h.get? b=some u->h'.get? b=some u)
  (ho:∀ b,H b=some (.own a)->H' b=some (.own a)) (ht:∀ b xs,H b=some (.tup xs)->H' b=some (.tup xs)):bS P w H' h' a o:=by
 induction o with
 | lst xs=>obtain⟨z,j,n,r,e⟩:=x;exact⟨z,j,n,r,k _ _ (.inl rfl) e⟩
 | tup xs=>obtain⟨z,j,r,ob,e,c⟩:=x;exact⟨z,j,r,ob,k _ _ (.inl rfl) e,c⟩
 | dK s=>obtain⟨z,y,E,r,ob,g,i,e,c⟩:=x;exact⟨z,y,E,r,ob,g,i,k _ _ (.inl rfl) e,c⟩
 | dT s=>
  obtain⟨z,y,xs,r,ob,g,i,e,c⟩:=x;exact⟨z,y,xs,Paired.Mg r fun p q z=>⟨z.1,ht _ _ z.2.1,z.2.2⟩,ob,g,i,k _ _ (.inl rfl) e,c⟩
 | set S n=>obtain⟨ob,g,i,t,e,c⟩:=x;exact⟨ob,g,i,t,k _ _ (.inl rfl) e,c⟩
 | ins C G fs=>
  obtain⟨d,z,ne,e,m,⟨l,g,i,e2,c⟩,r⟩:=x;exact⟨ho _ d,z,ne,k _ _ (.inl rfl) e,m,⟨l,g,i,k _ _ (.inr d) e2,c⟩,r⟩
 | own y=>obtain⟨ob,e⟩:=x;exact⟨ob,k _ _ (.inl rfl) e⟩
 | xd fs=>obtain⟨m,⟨l,g,i,e,c⟩,r⟩:=x;exact⟨m,⟨l,g,i,k _ _ (.inl rfl) e,c⟩,r⟩
 | KO F hi=>obtain⟨t,u,v,e⟩:=x;exact⟨t,u,v,k _ _ (.inl rfl) e⟩
 | jE ob u D=>obtain⟨e,q⟩:=x;exact⟨k _ _ (.inl rfl) e,D q⟩
 | OA B=>
  have e:h.get? a=some {cls:=.none,data:=.fields B}:=x;show h'.get? a=some {cls:=.none,data:=.fields B};exact k a _ (.inl rfl) e
 | met f y=>
  have e:h.get? a=some (methodObj (.ref f) (.ref y)):=x;show h'.get? a=some (methodObj (.ref f) (.ref y));exact k a _ (.inl rfl) e
 | ext φ=>obtain⟨p,⟨o,e⟩,A⟩:=x;exact⟨A _ _ p fun o q=>k _ _ (.inl rfl) q,⟨o,k _ _ (.inl rfl) e⟩,A⟩
theorem jz.lt (x:jz P w H h)(e:H a=some o):a<h.objs.size:=(x a o e).lt
theorem jz.fresh (x:jz P w H h)(e:h.objs.size<=a):H a=none:=by
 cases q:H a with
 | none=>rfl
 | some u=>exact absurd (j5 (x.lt q) e) (KE _)
theorem jz.kept (x:jz P w H h)(k:∀ b u,h.get? b=some u->h'.get? b=some u):jz P w H h':=fun a o e=>
 (x a o e).xC (fun b u _ q=>k b u q) (fun _ q=>q) fun _ _ q=>q
theorem jz.laid (x:jz P w H h)(k:∀ b u,h.get? b=some u->h'.get? b=some u)(hp:h.objs.size<=a)(new:bS P w (upd H a o) h' a o):jz P w (upd H a o) h':=fun b u e=>by
 have hn:=x.fresh hp
 by_cases hb:b=a
 ·subst hb;rw[ag] at e;cases e;exact new
 ·rw[aG hb] at e;exact(x b u e).xC (fun c v _ q=>k c v q) (fun c q=>by rw[aG (bp q hn)];exact q) fun c d q=>by rw[aG (bp q hn)];exact q
def Rd (H:Hp)(a:Addr)(u:HO):Prop:=H a=some u∨∃ o,H a=some (.jE o u)
theorem Rd.ok (r:Rd H a u)(x:jz P w H h):bS P w H h a u:=by
 rcases r with r | ⟨o,r⟩
 ·exact x a u r
 ·obtain⟨_,q⟩:=x a _ r;exact q
def OW:Option HO->Prop
 | some (.lst _)=>True
 | some (.dK _)=>True
 | some (.dT _)=>True
 | some (.set _ _)=>True
 | some (.ins _ _ _)=>True
 | some (.ext _)=>True
 | _=>False
variable {x e:Addr}{o':HO}
theorem jz.write (ok:jz P w H h)(mu:OW (H x))(he:e=x∨H e=some (.own x))(k:∀ b u,b≠e->h.get? b=some u->h'.get? b=some u)(heo:∃ u,h'.get? e=some u)
  (new:bS P w (upd H x o') h' x o'):jz P w (upd H x o') h':=fun b u q=>by
 have d:∀ c y,H c=some (.own y)->c≠x:=fun c y r z=>by subst z;rw[r] at mu;exact mu
 have f:∀ c g,H c=some (.tup g)->c≠x:=fun c g r z=>by subst z;rw[r] at mu;exact mu
 by_cases hb:b=x
 ·subst hb;rw[ag] at q;cases q;exact new
 ·rw[aG hb] at q
  by_cases a:b=e
  ·have i:H b=some (.own x):=by
    rcases he with z | z
    ·exact absurd (a.trans z) hb
    ·rw[a];exact z
   rw[q] at i;cases i
   obtain⟨v,j⟩:=heo;exact⟨v,by rw[a];exact j⟩
  ·refine(ok b u q).xC (fun c v hc r=>k c v ?_ r) (fun c r=>by rw[aG (d c b r)];exact r) fun c g r=>by rw[aG (f c g r)];exact r
   rcases hc with rfl | hc
   ·exact a
   ·rintro rfl
    rcases he with z | z
    ·exact d c b hc z
    ·rw[hc] at z;cases z;exact hb rfl
structure Un (fs ex:List Addr)(H H':Hp)(h h':Heap):Prop where
 keep:∀ b o,h.get? b=some o->H b=none->b∉fs->b∉ex->h'.get? b=some o
 slot:∀ b o,h.get? b=some o->H b=none->b∈fs->b∉ex->∃ sl,h'.get? b=some {o with slots:=sl}
 free:∀ b o,h.get? b=some o->H b=none->b∉ex->H' b=none
 there:∀ b o,h.get? b=some o->b∉ex->∃ o',h'.get? b=some o'
 wZ:∀ b xs,H b=some (.tup xs)->H' b=some (.tup xs)
 ui:∀ b o u,H b=some (.jE o u)->H' b=some (.jE o u)
 wY:∀ b ps,H b=some (.OA ps)->∃ more,H' b=some (.OA (ps++more))
variable {fs ex:List Addr}{H1:Hp}{h1:Heap}
theorem Un.any (u:Un fs ex H H1 h h1){ob:Obj}(q:h.get? b=some ob)(n:H b=none)(hx:b∉ex):∃ sl,h1.get? b=some {ob with slots:=sl}:=by
 by_cases hb:b∈fs
 ·exact u.slot b ob q n hb hx
 ·exact⟨ob.slots,u.keep b ob q n hb hx⟩
theorem Un.kept (k:∀ b u,h.get? b=some u->h'.get? b=some u):Un fs ex H H h h':=
 ⟨fun b ob q _ _ _=>k b ob q,fun b ob q _ _ _=>⟨ob.slots,k b ob q⟩,fun _ _ _ n _=>n,fun b ob q _=>⟨ob,k b ob q⟩,fun _ _ q=>q,fun _ _ _ q=>q,fun _ a q=>⟨#[],by rw[q];simp⟩⟩
theorem Un.refl:Un fs ex H H h h:=Un.kept fun _ _ q=>q
theorem Un.laid (k:∀ b u,h.get? b=some u->h'.get? b=some u)(hp:h.objs.size<=a)(hn:H a=none):Un fs ex H (upd H a o) h h' where
 keep:=fun b u q _ _ _=>k b u q
 slot:=fun b u q _ _ _=>⟨u.slots,k b u q⟩
 free:=fun b u q n _=>by rw[aG (nt (j5 (lt_size q) hp))];exact n
 there:=fun b u q _=>⟨u,k b u q⟩
 wZ:=fun b c q=>by rw[aG (bp q hn)];exact q
 ui:=fun b u c q=>by rw[aG (bp q hn)];exact q
 wY:=fun b d q=>⟨#[],by rw[aG (bp q hn),q];simp⟩
theorem Un.write (mu:OW (H x))(he:e=x∨H e=some (.own x))(k:∀ b u,b≠e->h.get? b=some u->h'.get? b=some u)(heo:∃ u,h'.get? e=some u):Un fs ex H (upd H x o) h h':=by
 have hx:∀ b,H b=none->b≠x:=fun b n z=>by subst z;rw[n] at mu;exact mu
 have hb:∀ b,H b=none->b≠e:=fun b n z=>by
  subst z
  rcases he with r | r
  ·exact hx b n r
  ·rw[n] at r;cases r
 have hm:∀ b u,H b=some u->¬ OW (some u)->b≠x:=fun b u q c z=>by subst z;rw[q] at mu;exact c mu
 refine⟨fun b u q n _ _=>k b u (hb b n) q,fun b u q n _ _=>⟨u.slots,k b u (hb b n) q⟩,fun b u q n _=>by rw[aG (hx b n)];exact n,fun b u q _=>?_,
  fun b d q=>by rw[aG (hm b _ q fun z=>z)];exact q,fun b u d q=>by rw[aG (hm b _ q fun z=>z)];exact q,fun b f q=>⟨#[],by rw[aG (hm b _ q fun z=>z),q];simp⟩⟩
 by_cases a:b=e
 ·subst a;exact heo
 ·exact⟨u,k b u a q⟩
def RI (h:Heap)(H:Hp):List Addr:=(List.range h.objs.size).filter fun a=>(H a).isSome
def rJ (h:Heap)(H:Hp):Heap:=PySem.W.hideAll h (RI h H)
theorem BF (h:Heap)(H:Hp):(rJ h H).objs.size=h.objs.size:=PySem.W.hideAll_size _ _
variable {o:Obj}
theorem DH (e:h.get? b=some o)(n:H b=none):(rJ h H).get? b=some o:=
 PySem.W.hideAll_get _ e fun hm=>by
  have q:(H b).isSome=true:=(pS.mp hm).2;rw[n] at q;simp at q
theorem Ii (e:(rJ h H).get? b=some o):h.get? b=some o/\H b=none:=by
 have a:h.get? b=some o:=PySem.W.of_hideAll (RI h H) e;refine⟨a,?_⟩
 cases q:H b with
 | none=>rfl
 | some x=>
  have hm:b∈RI h H:=pS.mpr ⟨gc.mpr (lt_size a),by simp[q]⟩
  have z:(rJ h H).get? b=none:=PySem.W.hideAll_none (RI h H) hm;rw[z] at e;cases e
structure Mod (K:Frag)(mg:Str->Option Value)(base:Heap):Prop where
 OU:K.In base
 glob:base.Ns mainGlobals mg
 blt:∃ mb,base.Ns builtinsNs mb/\∀ x:Str,x≠"__name__"->mb x=bootBuiltins x
 nolimit:base.NoLimit
structure Cx where
 prog:Program
 w:World
 K:Frag
 mg:Str->Option Value
 base:Heap
 A:Around
 N:List Str
 s₀:Shared
 H₀:Hp
 env:Env
 outer:List Env
 stack:List Env
 ex:List Addr
 fn:Str->Bool
 calm:Bool
 pn:List (Addr × Obj)
 xe:Value->Shared->Prop
def Dx (l:List Env):List Addr:=l.filterMap (·.frame)
end L2
namespace L2
open PySem PySem.Spec PyProof.Rows
abbrev Cx.fs (X:Cx):List Addr:=Dx X.outer
def RJ (sc:Scope)(x:Str):Prop:=sc.names.lookup x=some .local∨sc.names.lookup x=some .cell∨sc.names.lookup x=some .free
def Loc (sc:Scope)(x:Str):Prop:=sc.names.lookup x=some .local∨sc.names.lookup x=some .cell
def Look (env:Env)(h:Heap)(m:Str->Option Value)(x:Str)(u:Value):Prop:=
 (env.kindOf x=some .local/\m x=some u)∨((env.kindOf x=some .cell∨env.kindOf x=some .free)/\∃ c,env.cells.lookup x=some c/\h.IsCell c (some u))
structure Cx.Ok (X:Cx):Prop where
 mod:Mod X.K X.mg X.base
 kind:X.env.scope.kind=.function
 glob:X.env.globals=mainGlobals
 blt:X.env.builtins=builtinsNs
 above:X.s₀.heap.objs.size<=X.env.locals
 inj:∀ x y c,X.env.cells.lookup x=some c->X.env.cells.lookup y=some c->x=y
 has:∀ x,(X.env.kindOf x=some .cell∨X.env.kindOf x=some .free)->∃ c,X.env.cells.lookup x=some c
 RH:∀ x c,X.fn x=true->X.env.cells.lookup x=some c->X.s₀.heap.objs.size<=c
 hd:X.calm=true->X.A.handled=none
 frames:X.A.frames=some X.stack
 RU:X.stack=X.outer∨(X.stack=X.env::X.outer/\X.env.frame=some X.env.locals)
 RR:∀ b∈X.ex,b≠X.env.locals/\∀ x c,X.env.cells.lookup x=some c->c≠b
 bs:∀ b o,X.base.get? b=some o->X.s₀.heap.get? b=some o/\X.H₀ b=none
 KL:X.base.objs.size<=X.s₀.heap.objs.size
 Dk:∀ b o,X.base.get? b=some o->b∉X.ex
 HU:∀ b∈X.ex,b∉X.fs
 mr:X.s₀.heap.FunFrames X.base X.outer
 OB:∀ b∈X.fs,X.H₀ b=none
structure Inv (X:Cx)(pins:List (Addr × Obj))(σ:List (Option V))(H:Hp)(s:Shared):Prop where
 ok:X.Ok
 os:s.os=X.s₀.os
 bare:AllBare s.gens
 base:Un X.fs X.ex X.H₀ H X.s₀.heap s.heap
 loc:∃ m,s.heap.Ns X.env.locals m/\∀ (i:Nat) (x:Str) (v:V),X.N[i]?=some x->σ[i]?=some (some v)->RJ X.env.scope x->∃ u,RelV v u/\Look X.env s.heap m x u
 cell:∀ x c,X.env.cells.lookup x=some c->∃ v,s.heap.IsCell c v
 free:H X.env.locals=none
 jx:∀ x c,X.env.cells.lookup x=some c->H c=none
 pin:∀ p∈X.pn++pins,s.heap.get? p.1=some p.2/\H p.1=none/\p.1≠X.env.locals/\p.1∉X.fs/\∀ v,p.2.data≠.cell v
 br:jz X.prog X.w H s.heap
 len:σ.length=X.N.length
variable {X:Cx}
theorem Cx.Ok.RX (ok:X.Ok){b:Addr}{o:Obj}(e:X.base.get? b=some o):b∉X.fs:=fun hb=>by
 have:=(ok.mr.mem hb).1
 rw[e] at this;cases this
variable {pins:List (Addr × Obj)}{σ:List (Option V)}{H:Hp}{s:Shared}
theorem Inv.bs (I:Inv X pins σ H s):∀ b o,X.base.get? b=some o->s.heap.get? b=some o/\H b=none:=fun b o e=>
 ⟨I.base.keep b o (I.ok.bs b o e).1 (I.ok.bs b o e).2 (I.ok.RX e) (I.ok.Dk b o e),I.base.free b o (I.ok.bs b o e).1 (I.ok.bs b o e).2 (I.ok.Dk b o e)⟩
theorem Inv.bk (I:Inv X pins σ H s):∀ b o,X.base.get? b=some o->s.heap.get? b=some o:=fun b o e=>(I.bs b o e).1
theorem Inv.mod (I:Inv X pins σ H s):Mod X.K X.mg X.base:=I.ok.mod
theorem Inv.uP (I:Inv X pins σ H s):X.K.In s.heap:=I.ok.mod.OU.keeps I.bk
theorem Inv.lt (I:Inv X pins σ H s):X.env.locals<s.heap.objs.size:=let ⟨_,hn,_⟩:=I.loc;hn.lt
theorem Inv.sz (I:Inv X pins σ H s):X.s₀.heap.objs.size<=s.heap.objs.size:=h9 I.ok.above (Nat.le_of_lt I.lt)
theorem Inv.RY (I:Inv X pins σ H s){a:Addr}(h:s.heap.objs.size<=a):a∉X.fs:=fun hb=>by
 obtain⟨_,o,b,_⟩:=I.ok.mr.mem hb;exact absurd (j5 (lt_size b) (h9 I.sz h)) (KE _)
theorem Inv.Mh (I:Inv X pins σ H s):∀ x c,X.env.cells.lookup x=some c->c≠X.env.locals:=fun x c e z=>by
 obtain⟨v,o,f,d⟩:=I.cell x c e;obtain⟨m,⟨i,g,h,a,b,_⟩,_⟩:=I.loc;rw[z,a] at f;cases f;rw[b] at d;cases d
theorem Inv.mr (I:Inv X pins σ H s):s.heap.FunFrames X.base X.outer:=by
 have all:∀ (l:List Env),(∀ b∈Dx l,b∈X.fs)->X.s₀.heap.FunFrames X.base l->s.heap.FunFrames X.base l:=by
  intro l
  induction l with
  | nil=>intro _ _;trivial
  | cons f r j=>
   intro d m;obtain⟨hk,⟨L,o,c,hn,h,i⟩,g⟩:=m;have a:L∈X.fs:=d L (by unfold Dx;rw[C4,c];exact fA)
   obtain⟨n,e⟩:=I.base.slot L o h (I.ok.OB L a) a fun z=>I.ok.HU L z a;exact⟨hk,⟨L,_,c,hn,e,i⟩,j (fun b hb=>d b (by unfold Dx;rw[C4,c];exact eH _ hb)) g⟩
 exact all X.outer (fun _ hb=>hb) I.ok.mr
theorem Inv.stack (I:Inv X pins σ H s):s.heap.FunFrames X.base X.stack:=by
 rcases I.ok.RU with e | ⟨e,a⟩
 ·rw[e];exact I.mr
 ·rw[e];obtain⟨m,hn,_⟩:=I.loc;refine .cons (by rw[I.ok.kind];decide) a hn ?_ I.mr
  exact Heap.get?_none_of_le (h9 I.ok.KL I.ok.above)
theorem Inv.xD (I:Inv X pins σ H s):∀ b∈Dx X.stack,b∈X.env.locals::X.fs:=fun b hb=>by
 rcases I.ok.RU with e | ⟨e,a⟩
 ·rw[e] at hb;exact eH _ hb
 ·rw[e] at hb;unfold Dx at hb;rw[C4,a] at hb;exact hb
theorem Inv.zX (I:Inv X pins σ H s):∀ b∈Dx X.stack,H b=none:=fun b hb=>by
 rcases hU.mp (I.xD b hb) with e | hb
 ·rw[e];exact I.free
 ·obtain⟨_,o,a,_⟩:=I.ok.mr.mem hb;exact I.base.free b o a (I.ok.OB b hb) fun z=>I.ok.HU b z hb
variable {H':Hp}{h':Heap}{g':Array GenState}{t':Nat}{d':Drawn}{ch:List Addr}
theorem Inv.step (I:Inv X pins σ H s)
  (hch:∀ b∈ch,(b∈X.ex∨X.s₀.heap.objs.size<=b)/\b≠X.env.locals/\(∀ x c,X.env.cells.lookup x=some c->c≠b)/\∀ p∈X.pn++pins,p.1≠b)
  (keep:∀ b o,b≠X.env.locals->b∉X.fs->b∉ch->s.heap.get? b=some o->H b=none->h'.get? b=some o)
  (slot:∀ b o,b≠X.env.locals->b∈X.fs->b∉ch->s.heap.get? b=some o->H b=none->∃ sl,h'.get? b=some {o with slots:=sl}) (free:∀ b o,b∉ch->s.heap.get? b=some o->H b=none->H' b=none)
  (there:∀ b o,b∉ch->s.heap.get? b=some o->∃ o',h'.get? b=some o')
  (wZ:∀ b xs,H b=some (.tup xs)->H' b=some (.tup xs)) (ui:∀ b o u,H b=some (.jE o u)->H' b=some (.jE o u)) (wY:∀ b ps,H b=some (.OA ps)->∃ more,H' b=some (.OA (ps++more)))
  (ns:∀ m,s.heap.Ns X.env.locals m->h'.Ns X.env.locals m) (br:jz X.prog X.w H' h') (hg:AllBare g') :
  Inv X pins σ H' {s with heap:=h',gens:=g',drawn:=d',toks:=t'}:=by
 have t:∀ b o,X.s₀.heap.get? b=some o->b≠X.env.locals:=fun b o e=>nt (j5 (lt_size e) I.ok.above);have h:∀ b o,X.s₀.heap.get? b=some o->b∉X.ex->b∉ch:=fun b o e hx hb=>by
  rcases(hch b hb).1 with z | z
  ·exact hx z
  ·exact absurd (j5 (lt_size e) z) (KE _)
 have a:∀ x c,X.env.cells.lookup x=some c->∀ v,s.heap.IsCell c v->h'.IsCell c v:=fun x c e v ⟨o,j,A⟩=>by
  have f:c∉ch:=fun z=>(hch c z).2.2.1 x c e rfl
  by_cases hc:c∈X.fs
  ·obtain⟨sl,q⟩:=slot c o (I.Mh x c e) hc f j (I.jx x c e);exact⟨_,q,A⟩
  ·exact⟨o,keep c o (I.Mh x c e) hc f j (I.jx x c e),A⟩
 refine⟨I.ok,I.os,hg,⟨fun b o e n hb hx=>?_,fun b o e n hb hx=>?_,fun b o e n hx=>?_,fun b o e hx=>?_,fun b xs e=>wZ b xs (I.base.wZ b xs e),fun b o xs e=>ui b o xs (I.base.ui b o xs e),fun b ps e=>?_⟩,?_,fun x c e=>?_,?_,fun x c e=>?_,fun p C=>?_,br,I.len⟩
 ·exact keep b o (t b o e) hb (h b o e hx) (I.base.keep b o e n hb hx) (I.base.free b o e n hx)
 ·obtain⟨sl,g⟩:=I.base.slot b o e n hb hx;obtain⟨y,e2⟩:=slot b _ (t b o e) hb (h b o e hx) g (I.base.free b o e n hx);exact⟨y,e2⟩
 ·obtain⟨o',g⟩:=I.base.there b o e hx;exact free b o' (h b o e hx) g (I.base.free b o e n hx)
 ·obtain⟨o',g⟩:=I.base.there b o e hx;exact there b o' (h b o e hx) g
 ·obtain⟨G,g⟩:=I.base.wY b ps e;obtain⟨F,e2⟩:=wY b _ g;exact⟨G++F,by rw[e2,Array.append_assoc]⟩
 ·obtain⟨m,hn,E⟩:=I.loc;refine⟨m,ns m hn,fun i x v g e2 D=>?_⟩;obtain⟨u,r,l⟩:=E i x v g e2 D;refine⟨u,r,?_⟩
  rcases l with l | ⟨k,c,e,z⟩
  ·exact .inl l
  ·exact .inr ⟨k,c,e,a x c e _ z⟩
 ·obtain⟨v,z⟩:=I.cell x c e;exact⟨v,a x c e v z⟩
 ·obtain⟨m,⟨o,_,_,j,_⟩,_⟩:=I.loc;exact free _ o (fun z=>(hch _ z).2.1 rfl) j I.free
 ·obtain⟨v,o,j,A⟩:=I.cell x c e;exact free c o (fun z=>(hch c z).2.2.1 x c e rfl) j (I.jx x c e)
 ·obtain⟨e,n,ne,B,d⟩:=I.pin p C;have f:p.1∉ch:=fun z=>(hch p.1 z).2.2.2 p C rfl;exact⟨keep p.1 p.2 ne B f e n,free p.1 p.2 f e n,ne,B,d⟩
theorem Inv.un (I:Inv X pins σ H s)(u:Un X.fs [] H H' s.heap h')(br:jz X.prog X.w H' h'):Inv X pins σ H' {s with heap:=h',toks:=t'}:=by
 obtain⟨m,⟨o,i,j,f,r⟩,_⟩:=id I.loc;obtain⟨l,g⟩:=u.any f I.free (by simp)
 exact I.step (g':=s.gens) (d':=s.drawn) (ch:=[]) (fun _ z=>nomatch z) (fun b o _ hb _ e n=>u.keep b o e n hb (by simp)) (fun b o _ hb _ e n=>u.slot b o e n hb (by simp)) (fun b o _ e n=>u.free b o e n (by simp)) (fun b o _ e=>u.there b o e (by simp)) u.wZ u.ui u.wY (fun p hm=>by
  obtain⟨q,c,d,a,h⟩:=hm;rw[f] at a;cases a
  exact⟨_,c,d,g,h⟩) br I.bare
theorem Inv.call (I:Inv X pins σ H s)(u:Un (Dx X.stack) ch H H' s.heap h')(br:jz X.prog X.w H' h')(hg:AllBare g')
  (hch:∀ b∈ch,(b∈X.ex∨X.s₀.heap.objs.size<=b)/\b≠X.env.locals/\(∀ x c,X.env.cells.lookup x=some c->c≠b)/\∀ p∈X.pn++pins,p.1≠b) :
  Inv X pins σ H' {s with heap:=h',gens:=g',drawn:=d',toks:=t'}:=by
 obtain⟨m,⟨o,j,l,h,r⟩,_⟩:=id I.loc;obtain⟨q,d⟩:=u.any h I.free fun z=>(hch _ z).2.1 rfl;exact I.step (ch:=ch) hch (fun b o d hb hc e n=>u.keep b o e n (fun z=>(hU.mp (I.xD b z)).elim d hb) hc) (fun b o _ _ hc e n=>u.any e n hc) (fun b o hc e n=>u.free b o e n hc) (fun b o hc e=>u.there b o e hc) u.wZ u.ui u.wY (fun t hm=>by
  obtain⟨v,f,g,a,i⟩:=hm;rw[h] at a;cases a
  exact⟨_,f,g,d,i⟩) br hg
variable {it:Addr}
theorem Inv.turned (I:Inv X pins σ H s)(k:∀ b o,b≠it->s.heap.get? b=some o->h'.get? b=some o)(hn:H it=none)(hL:it≠X.env.locals)
  (h1:it∈X.ex∨X.s₀.heap.objs.size<=it) (h2:∀ x c,X.env.cells.lookup x=some c->c≠it) (h3:∀ p∈X.pn++pins,p.1≠it):Inv X pins σ H {s with heap:=h',toks:=t'}:=by
 have a:∀ b u,H b=some u->b≠it:=fun b u e z=>by rw[z,hn] at e;cases e
 refine I.step (g':=s.gens) (d':=s.drawn) (ch:=[it]) (fun b hb=>?_) (fun b o _ _ hc e _=>k b o (fun z=>hc (by simp[z])) e) (fun b o _ _ hc e _=>⟨o.slots,k b o (fun z=>hc (by simp[z])) e⟩) (fun _ _ _ _ n=>n)
  (fun b o hc e=>⟨o,k b o (fun z=>hc (by simp[z])) e⟩) (fun _ _ e=>e) (fun _ _ _ e=>e) (fun b h e=>⟨#[],by rw[e];simp⟩) (fun m hm=>?_) (fun b u e=>?_) I.bare
 ·have e:b=it:=by simpa using hb
  subst e;exact⟨h1,hL,h2,h3⟩
 ·obtain⟨o,d,f,g,r⟩:=hm;exact⟨o,d,f,k _ o (Ne.symm hL) g,r⟩
 ·refine(I.br b u e).xC (fun c v hc q=>k c v ?_ q) (fun _ q=>q) fun _ _ q=>q
  rcases hc with z | z
  ·rw[z];exact a b u e
  ·exact a c _ z
theorem Inv.tok (I:Inv X pins σ H s)(t:Nat):Inv X pins σ H {s with toks:=t}:=I.un (h':=s.heap) (t':=t) Un.refl I.br
theorem Inv.kept {t':Nat}(I:Inv X pins σ H s)(k:∀ b u,s.heap.get? b=some u->h'.get? b=some u):Inv X pins σ H {s with heap:=h',toks:=t'}:=I.un (Un.kept k) (I.br.kept k)
theorem Inv.laid {a:Addr}{o:HO}{t':Nat}(I:Inv X pins σ H s)(k:∀ b u,s.heap.get? b=some u->h'.get? b=some u)(hp:s.heap.objs.size<=a)(new:bS X.prog X.w (upd H a o) h' a o) :
  Inv X pins σ (upd H a o) {s with heap:=h',toks:=t'}:=I.un (Un.laid k hp (I.br.fresh hp)) (I.br.laid k hp new)
theorem Inv.write {x e:Addr}{o:HO}{t':Nat}(I:Inv X pins σ H s)(mu:OW (H x))(he:e=x∨H e=some (.own x))(k:∀ b u,b≠e->s.heap.get? b=some u->h'.get? b=some u)(heo:∃ u,h'.get? e=some u)
  (new:bS X.prog X.w (upd H x o) h' x o):Inv X pins σ (upd H x o) {s with heap:=h',toks:=t'}:=I.un (Un.write mu he k heo) (I.br.write mu he k heo new)
theorem Inv.zY {pins':List (Addr × Obj)}(I:Inv X pins σ H s)(h:∀ p∈pins',s.heap.get? p.1=some p.2/\H p.1=none/\p.1≠X.env.locals/\p.1∉X.fs/\∀ v,p.2.data≠.cell v):Inv X pins' σ H s:=
 ⟨I.ok,I.os,I.bare,I.base,I.loc,I.cell,I.free,I.jx,fun p a=>(ka.mp a).elim (fun z=>I.pin p (List.mem_append_left _ z)) (h p),I.br,I.len⟩
variable {x:Str}{N:List Str}{i:Nat}
theorem uQ (hN:N.Nodup){j:Nat}(a:N[i]?=some x)(b:N[j]?=some x):i=j:=by
 obtain⟨h1,c⟩:=o5.mp a;obtain⟨d,e2⟩:=o5.mp b;exact(getElem_inj hN).mp (c.trans e2.symm)
variable {u:Value}{M:Model}{A:Around}{E:Value->Shared->Prop}{v:V}{Q:Unit->Shared->Prop}
theorem qj (I:Inv X pins σ H s)(hN:X.N.Nodup)(hi:X.N[i]?=some x)(hx:Loc X.env.scope x)(r:RelV v u)
  (h:∀ s',Inv X pins (σ.set i (some v)) H s'->(∃ a,SameBut a s.heap s'.heap/\(a=X.env.locals∨X.env.cells.lookup x=some a))->Q () s') (hf:X.fn x=true∨X.env.scope.names.lookup x=some .local:=by first | exact .inl rfl | exact .inr rfl | assumption):wpAny M A (storeName X.env x u) Q E s:=by
 obtain⟨m,hn,hl⟩:=id I.loc;have K:(X.env.scope.kind == .class||(X.env.scope.kind == .module&&X.env.locals != X.env.globals))=false:=by rw[I.ok.kind];rfl
 have L:i<σ.length:=by rw[I.len];exact(o5.mp hi).1
 have Mh:=I.Mh;have l:∀ {a:Addr} {C:Heap},(∃ o,s.heap.get? a=some o/\H a=none)->SameBut a s.heap C->jz X.prog X.w H C:=fun {a C} ha f b ob e=>by
  obtain⟨_,_,t⟩:=ha;refine(I.br b ob e).xC (fun c P hc q=>(f.2 c ?_).trans q) (fun _ q=>q) fun _ _ q=>q;rintro rfl
  rcases hc with rfl | hc
  ·rw[t] at e;cases e
  ·rw[t] at hc;cases hc
 rcases hx with hk | hk
 ·refine wpAny_storeName_local hk hn (fun C W f=>?_) K;obtain⟨oL,_,_,T,_⟩:=id hn;refine h _ ⟨I.ok,I.os,I.bare,⟨fun b o e n hb hx=>?_,fun b o e n hb hx=>?_,I.base.free,fun b o e hx=>?_,I.base.wZ,I.base.ui,I.base.wY⟩,⟨_,W,fun j y v' g e2 U=>?_⟩,fun y c e=>?_,I.free,I.jx,fun p hp=>?_,l ⟨oL,T,I.free⟩ f,by simpa using I.len⟩ ⟨_,f,.inl rfl⟩
  ·exact(f.2 b (nt (j5 (lt_size e) I.ok.above))).trans (I.base.keep b o e n hb hx)
  ·obtain⟨R,g⟩:=I.base.slot b o e n hb hx;exact⟨R,(f.2 b (nt (j5 (lt_size e) I.ok.above))).trans g⟩
  ·obtain⟨o',g⟩:=I.base.there b o e hx;exact⟨o',(f.2 b (nt (j5 (lt_size e) I.ok.above))).trans g⟩
  ·by_cases hj:j=i
   ·subst hj;rw[hi] at g;cases g
    rw[List.getElem?_set_self L] at e2
    cases e2
    exact⟨u,r,.inl ⟨hk,by simp⟩⟩
   ·rw[List.getElem?_set_ne (Ne.symm hj)] at e2;obtain⟨Y,Z,q⟩:=hl j y v' g e2 U;refine⟨Y,Z,?_⟩
    rcases q with ⟨k,e⟩ | ⟨k,c,e,z⟩
    ·refine .inl ⟨k,?_⟩
     have:y≠x:=fun e=>hj (uQ hN g (e ▸ hi))
     simp[this,e]
    ·exact .inr ⟨k,c,e,z.sameBut f (Mh y c e)⟩
  ·obtain⟨P,z⟩:=I.cell y c e;exact⟨P,z.sameBut f (Mh y c e)⟩
  ·obtain⟨e,n,ne,S,d⟩:=I.pin p hp;exact⟨(f.2 p.1 ne).trans e,n,ne,S,d⟩
 ·have B:X.fn x=true:=by
   rcases hf with z | z
   ·exact z
   ·rw[z] at hk;cases hk
  obtain⟨c,hc⟩:=I.ok.has x (.inl hk);obtain⟨P,z⟩:=I.cell x c hc;refine wpAny_storeName_cell I.ok.kind hk hc z (fun C J f=>?_);obtain⟨oc,F,D⟩:=id z;refine h {s with heap:=C} ⟨I.ok,I.os,I.bare,⟨fun b o e n hb hx=>?_,fun b o e n hb hx=>?_,I.base.free,fun b o e hx=>?_,I.base.wZ,I.base.ui,I.base.wY⟩,⟨m,hn.sameBut f (Ne.symm (Mh x c hc)),fun j y v' g e2 U=>?_⟩,fun y O e=>?_,I.free,I.jx,fun p hp=>?_,l ⟨oc,F,I.jx x c hc⟩ f,by simpa using I.len⟩ ⟨c,f,.inr hc⟩
  ·exact(f.2 b (nt (j5 (lt_size e) (I.ok.RH x c B hc)))).trans (I.base.keep b o e n hb hx)
  ·obtain⟨R,g⟩:=I.base.slot b o e n hb hx;exact⟨R,(f.2 b (nt (j5 (lt_size e) (I.ok.RH x c B hc)))).trans g⟩
  ·obtain⟨o',g⟩:=I.base.there b o e hx;exact⟨o',(f.2 b (nt (j5 (lt_size e) (I.ok.RH x c B hc)))).trans g⟩
  ·by_cases hj:j=i
   ·subst hj;rw[hi] at g;cases g
    rw[List.getElem?_set_self L] at e2
    cases e2
    exact⟨u,r,.inr ⟨.inl hk,c,hc,J⟩⟩
   ·rw[List.getElem?_set_ne (Ne.symm hj)] at e2;obtain⟨Y,Z,q⟩:=hl j y v' g e2 U;refine⟨Y,Z,?_⟩
    rcases q with q | ⟨k,O,e,z'⟩
    ·exact .inl q
    ·refine .inr ⟨k,O,e,z'.sameBut f ?_⟩;rintro rfl;exact hj (uQ hN g (I.ok.inj _ _ _ e hc ▸ hi))
  ·by_cases G:O=c
   ·subst G;exact⟨_,J⟩
   ·obtain⟨w2,z2⟩:=I.cell y O e;exact⟨w2,z2.sameBut f G⟩
  ·obtain⟨e,n,ne,S,d⟩:=I.pin p hp;refine⟨(f.2 p.1 ?_).trans e,n,ne,S,d⟩;intro q;rw[q,F] at e;have q':oc=p.2:=tx e;exact d P (by rw[<-q'];exact D)
theorem uR (I:Inv X pins σ H s)(hN:X.N.Nodup)(hi:X.N[i]?=some x)(hx:Loc X.env.scope x)(r:RelV v u)
  (h:∀ s',Inv X pins (σ.set i (some v)) H s'->Q () s') (hf:X.fn x=true∨X.env.scope.names.lookup x=some .local:=by first | exact .inl rfl | exact .inr rfl | assumption):wpAny M A (storeName X.env x u) Q E s:=
 qj I hN hi hx r (fun s' a _=>h s' a) hf
variable {s':Shared}
theorem Inv.OX (I:Inv X pins σ H s)(ho:s'.os=s.os)(u:Un (Dx X.stack) ch H H' s.heap s'.heap)(br:jz X.prog X.w H' s'.heap)(hg:AllBare s'.gens)
  (hch:∀ b∈ch,(b∈X.ex∨X.s₀.heap.objs.size<=b)/\b≠X.env.locals/\(∀ x c,X.env.cells.lookup x=some c->c≠b)/\∀ p∈X.pn++pins,p.1≠b):Inv X pins σ H' s':=by
 obtain⟨d,g',d',t',a⟩:=s';have e:a=s.os:=ho;subst e;exact I.call (g':=g') (t':=t') (d':=d') u br hg hch
abbrev XK:=Value->Option Addr->Hp->Prop
abbrev St:=List (Option V)
abbrev VK:=V->Hp->Prop
abbrev TE:=St->Hp->VK->Prop
abbrev TT:=St->Hp->(Bool->Hp->Prop)->Prop
abbrev TA:=St->Hp->(List V->Hp->Prop)->Prop
structure Ends where
 nx:St->Hp->Prop
 rt:VK
 bk:St->Hp->Prop:=fun _ _=>False
 ct:St->Hp->Prop:=fun _ _=>False
abbrev TS:=Ends->St->Hp->Prop
def EP (X:Cx)(pins:List (Addr × Obj))(σ:St)(Q:VK)(u:Value)(s':Shared):Prop:=∃ v H',Inv X pins σ H' s'/\RelV v u/\Q v H'
def TP (X:Cx)(pins:List (Addr × Obj))(σ:St)(Q:Bool->Hp->Prop)(b:Bool)(s':Shared):Prop:=∃ H',Inv X pins σ H' s'/\Q b H'
def AP (X:Cx)(pins:List (Addr × Obj))(σ:St)(Q:List V->Hp->Prop)(us:List Value)(s':Shared):Prop:=∃ vs H',Inv X pins σ H' s'/\Vals vs us/\Q vs H'
def SP (X:Cx)(pins:List (Addr × Obj))(D:Ends)(f:Flow)(s':Shared):Prop:=
 match f with
 | .next=>∃ σ' H',Inv X pins σ' H' s'/\D.nx σ' H'
 | .brk=>∃ σ' H',Inv X pins σ' H' s'/\D.bk σ' H'
 | .cont=>∃ σ' H',Inv X pins σ' H' s'/\D.ct σ' H'
 | .ret u=>∃ v σ' H',Inv X pins σ' H' s'/\RelV v u/\D.rt v H'
def PE (X:Cx)(e:Expr)(t:TE):Prop:=
 ∀ (pins:List (Addr × Obj)) (s:Shared) (σ:St) (H:Hp) (Q:VK),Inv X pins σ H s->t σ H Q->wpAny (model X.prog X.w) X.A (eval e X.env) (EP X pins σ Q) X.xe s
def PT (X:Cx)(e:Expr)(t:TT):Prop:=
 ∀ (pins:List (Addr × Obj)) (s:Shared) (σ:St) (H:Hp) (Q:Bool->Hp->Prop),Inv X pins σ H s->t σ H Q->wpAny (model X.prog X.w) X.A (isTrue e X.env (eval e X.env)) (TP X pins σ Q) X.xe s
def PW (X:Cx)(e:Expr)(t:TT):Prop:=
 ∀ (whole:Sem Value) (pins:List (Addr × Obj)) (s:Shared) (σ:St) (H:Hp) (Q:Bool->Hp->Prop),Inv X pins σ H s->t σ H Q->wpAny (model X.prog X.w) X.A (isTrue e X.env whole) (TP X pins σ Q) X.xe s
variable {e:Expr}
theorem PW.pt {t:TT}(h:PW X e t):PT X e t:=h _
def PA (X:Cx)(es:List Expr)(t:TA):Prop:=
 ∀ (pos:Pos) (pins:List (Addr × Obj)) (s:Shared) (σ:St) (H:Hp) (Q:List V->Hp->Prop),Inv X pins σ H s->t σ H Q->wpAny (model X.prog X.w) X.A (spliced (backTo pos (starEach es X.env))) (AP X pins σ Q) X.xe s
def PS (X:Cx)(st:Stmt)(t:TS):Prop:=
 ∀ (pins:List (Addr × Obj)) (s:Shared) (σ:St) (H:Hp) (D:Ends),Inv X pins σ H s->t D σ H->wpAny (model X.prog X.w) X.A (exec st X.env) (SP X pins D) X.xe s
def xw (X:Cx)(st:List Stmt)(t:TS):Prop:=
 ∀ (pins:List (Addr × Obj)) (s:Shared) (σ:St) (H:Hp) (D:Ends),Inv X pins σ H s->t D σ H->wpAny (model X.prog X.w) X.A (execs st X.env) (SP X pins D) X.xe s
variable {α:Type}
theorem bV {t:Sem α}{Q Q':α->Shared->Prop}(h:wpAny M A t Q E s)(hQ:∀ a s,Q a s->Q' a s):wpAny M A t Q' E s:=E4 h hQ fun _ _ x=>x
def rK (i:Nat):TE:=fun σ H Q=>∃ v,σ[i]?=some (some v)/\Q v H
def tC (v:V):TE:=fun _ H Q=>Q v H
theorem Mi {pos:Pos}(hN:X.N[i]?=some x)(hv:RJ X.env.scope x)(hd:(x == ("__debug__":Str))=false:=by decide)(hcd:(x == ("__classdict__":Str))=false:=by decide):PE X (.Name x pos) (rK i):=by
 intro d s σ H Q I h;obtain⟨v,e,h⟩:=h;obtain⟨m,hn,f⟩:=I.loc;obtain⟨u,r,l⟩:=f i x v hN e hv;have b:EP X d σ Q u s:=⟨v,H,I,r,h⟩
 rcases l with ⟨hk,hm⟩ | ⟨hk,c,hc,a⟩
 ·exact wpAny_Name (wpAny_loadName_local I.ok.kind hk hn hm b) hd
 ·rcases hk with hk | hk
  ·exact wpAny_Name (wpAny_loadName_cell I.ok.kind hk hc a b) hd
  ·exact wpAny_Name (wpAny_loadName_free I.ok.kind hk hc a b hcd) hd
theorem kP {i j pos}:PE X (.Constant (.int i) j pos) (tC (.int i)):=fun _ _ _ H _ I h=>wpAny_Constant_int ⟨.int i,H,I.tok _,⟨_,rfl⟩,h⟩
theorem OY {b j pos}:PE X (.Constant (.bool b) j pos) (tC (.bl b)):=fun _ _ _ H _ I h=>Constant_bool ⟨.bl b,H,I,rfl,h⟩
theorem Mj {j pos}:PE X (.Constant .none j pos) (tC .bE):=fun _ _ _ H _ I h=>Constant_none ⟨.bE,H,I,rfl,h⟩
theorem DI {x j pos}:PE X (.Constant (.str x) j pos) (tC (.str x)):=fun _ _ _ H _ I h=>Calls.Constant_str ⟨.str x,H,I.tok _,⟨_,rfl⟩,h⟩
def Gl (X:Cx)(x:Str):Prop:=X.env.kindOf x=some .globalImplicit
variable {Q:Value->Shared->Prop}
theorem rL {σ:St}{pos:Pos}(I:Inv X pins σ H s)(hg:Gl X x)(hm:X.mg x=some u)(h:Q u s)
  (hd:(x == ("__debug__":Str))=false:=by decide):wpAny (model X.prog X.w) X.A (eval (.Name x pos) X.env) Q E s:=
 Calls.Name_function_global I.ok.kind hg (Calls.loadGlobal_global (by rw[I.ok.glob];exact I.mod.glob.keeps I.bk) hm h) hd
theorem jA {σ:St}{pos:Pos}(I:Inv X pins σ H s)(hg:Gl X x)(hm:X.mg x=none)(hv:bootBuiltins x=some u)(h:Q u s)
  (hn:x≠"__name__":=by decide) (hd:(x == ("__debug__":Str))=false:=by decide):wpAny (model X.prog X.w) X.A (eval (.Name x pos) X.env) Q E s:=by
 obtain⟨mb,h1,a⟩:=I.mod.blt;exact Calls.Name_function_global I.ok.kind hg (Calls.loadGlobal_builtin (by rw[I.ok.glob];exact I.mod.glob.keeps I.bk) hm (by rw[I.ok.blt];exact h1.keeps I.bk) ((a x hn).trans hv) h) hd
theorem rM {pos:Pos}(hg:Gl X x)(hm:X.mg x=some u)(r:RelV v u)(hd:(x == ("__debug__":Str))=false:=by decide):PE X (.Name x pos) (tC v):=
 fun _ _ _ H _ I h=>rL I hg hm ⟨v,H,I,r,h⟩ hd
def PC (X:Cx)(op:CmpOp)(a b:Expr)(t:TE):Prop:=
 ∀ (pins:List (Addr × Obj)) (s:Shared) (σ:St) (H:Hp) (Q:VK),Inv X pins σ H s->t σ H Q->
  wpAny (model X.prog X.w) X.A (eval a X.env) (fun v d=>wpAny (model X.prog X.w) X.A (eval b X.env) (fun u c=>wpAny (model X.prog X.w) X.A (compareOp op v u) (EP X pins σ Q) X.xe c) X.xe d) X.xe s
def tB (t:TE):TT:=fun σ H Q=>t σ H fun x H1=>∃ c,x=.bl c/\Q c H1
variable {a b:Expr}{pos:Pos}{t:TE}{op:CmpOp}
theorem Ml (h:PC X op a b t)(h1:behindInMarks op b=false:=by first | exact nobehind _ (by decide) (by decide) | rfl):PE X (.Compare a [op] [b] pos) t:=fun c s σ H Q I d=>wpAny_Compare1 (h c s σ H Q I d) h1
theorem DJ (h:PC X op a b t)(h1:behindInMarks op b=false:=by first | exact nobehind _ (by decide) (by decide) | rfl):PT X (.Compare a [op] [b] pos) (tB t):=by
 intro e s σ H Q I f;refine wpAny_isTrue_Compare1 (bV (h e s σ H _ I f) fun v o h1=>bV h1 fun u m i=>bV i fun c n ⟨x,H1,j,l,g⟩=>?_) h1;obtain⟨d,rfl,q⟩:=g
 cases l
 exact F4 ⟨H1,j,q⟩
theorem Mm (h:PE X e t)(he:∀ whole,isTrue e X.env whole=(do let v<-whole;standAt e.pos;holding [v] (truthy v)):=by intro _;rfl):PT X e (tB t):=by
 intro a s σ H Q I c;refine isTrue_plain (bV (h a s σ H _ I c) fun v i ⟨x,H1,b,g,f⟩=>?_) (he _);obtain⟨d,rfl,q⟩:=f
 cases g
 exact F4 ⟨H1,b,q⟩
def Mn (t u:TT):TT:=fun σ H Q=>t σ H fun c H1=>if c=true then u σ H1 Q else Q false H1
def RZ (t u:TT):TT:=fun σ H Q=>t σ H fun c H1=>if c=true then Q true H1 else u σ H1 Q
def Mo (t:TT):TT:=fun σ H Q=>t σ H fun c H1=>Q (!c) H1
variable {tA:TT}
theorem Ij (ha:PT X a tA):PW X (.BoolOp .And [a] pos) tA:=by
 intro d b s σ H Q I h;refine isTrue_and (bV (ha b s σ H Q I h) fun c f e=>?_)
 cases c with
 | true=>exact isTrue_and_nil e
 | false=>exact e
theorem Mp (ha:PT X a tA):PW X (.BoolOp .Or [a] pos) tA:=by
 intro d b s σ H Q I h;refine isTrue_or (bV (ha b s σ H Q I h) fun c f e=>?_)
 cases c with
 | false=>exact isTrue_or_nil e
 | true=>exact e
variable {tB':TT}{rest:List Expr}
theorem Mq (ha:PT X a tA)(hb:PW X (.BoolOp .And (b::rest) pos) tB'):PW X (.BoolOp .And (a::b::rest) pos) (Mn tA tB'):=by
 intro g d s σ H Q I h;refine isTrue_and (bV (ha d s σ H _ I h) fun c i ⟨H1,e,f⟩=>?_)
 cases c with
 | true=>exact hb g d i σ H1 Q e f
 | false=>exact⟨H1,e,f⟩
theorem OZ (ha:PT X a tA)(hb:PW X (.BoolOp .Or (b::rest) pos) tB'):PW X (.BoolOp .Or (a::b::rest) pos) (RZ tA tB'):=by
 intro g d s σ H Q I h;refine isTrue_or (bV (ha d s σ H _ I h) fun c i ⟨H1,e,f⟩=>?_)
 cases c with
 | true=>exact⟨H1,e,f⟩
 | false=>exact hb g d i σ H1 Q e f
theorem Mr (ha:PT X a tA):PT X (.UnaryOp .Not a pos) (Mo tA):=by
 intro b s σ H Q I h;exact isTrue_not (ha b s σ H (fun c H1=>Q (!c) H1) I h)
def DL (ta tb:TE):TE:=fun σ H Q=>ta σ H fun x H1=>∃ c,x=.bl c/\if c=true then tb σ H1 Q else Q (.bl false) H1
def Ms (ta tb:TE):TE:=fun σ H Q=>ta σ H fun x H1=>∃ c,x=.bl c/\if c=true then Q (.bl true) H1 else tb σ H1 Q
theorem Mt {op}(h:PE X a t):PE X (.BoolOp op [a] pos) t:=fun b s σ H Q I c=>BoolOp_one (h b s σ H Q I c)
variable {ta tb:TE}
theorem Mu (ha:PE X a ta)(hb:PE X (.BoolOp .And (b::rest) pos) tb):PE X (.BoolOp .And (a::b::rest) pos) (DL ta tb):=by
 intro d s σ H Q I h;refine BoolOp_and (bV (ha d s σ H _ I h) fun v g ⟨x,H1,f,i,e⟩=>?_);obtain⟨c,rfl,e⟩:=e
 cases i
 refine F4 ?_
 cases c with
 | true=>exact hb d g σ H1 Q f e
 | false=>exact⟨.bl false,H1,f,rfl,e⟩
theorem O0 (ha:PE X a ta)(hb:PE X (.BoolOp .Or (b::rest) pos) tb):PE X (.BoolOp .Or (a::b::rest) pos) (Ms ta tb):=by
 intro d s σ H Q I h;refine BoolOp_or (bV (ha d s σ H _ I h) fun v g ⟨x,H1,f,i,e⟩=>?_);obtain⟨c,rfl,e⟩:=e
 cases i
 refine F4 ?_
 cases c with
 | false=>exact hb d g σ H1 Q f e
 | true=>exact⟨.bl true,H1,f,rfl,e⟩
def R0 (t:TT)(ta tb:TE):TE:=fun σ H Q=>t σ H fun c H1=>if c=true then ta σ H1 Q else tb σ H1 Q
variable {c:Expr}
theorem DM (hc:PT X c tA)(ha:PE X a ta)(hb:PE X b tb):PE X (.IfExp c a b pos) (R0 tA ta tb):=by
 intro e s σ H Q I h;refine wpAny_IfExp (bV (hc e s σ H _ I h) fun d i ⟨H1,f,g⟩=>?_)
 cases d with
 | true=>exact ha e i σ H1 Q f g
 | false=>exact hb e i σ H1 Q f g
def ax (K:Frag)(H:Hp)(a:Addr)(xs:List V):Prop:=
 Rd H a (.lst xs)∨
  ∃ (o:Obj) (its:Array Value) (n:Nat),K.lookup a=some o/\o.cls=.type "list"/\o.dict=none/\o.data=.seq its n/\its.size<=sizeLine/\Vals xs its.toList
def aH (K:Frag)(H:Hp)(a:Addr)(xs:List V):Prop:=
 Rd H a (.tup xs)∨
  ∃ (o:Obj) (its:Array Value) (n:Nat),K.lookup a=some o/\o.cls=.type "tuple"/\o.data=.seq its n/\its.size<=sizeLine/\Vals xs its.toList
def R3:Value->Option V
 | .none=>some .bE
 | .bool b=>some (.bl b)
 | .int i _=>some (.int i)
 | .str x _=>some (.str x)
 | .bytes b _=>some (.DG b)
 | .float b _=>some (.RV b)
 | .ref a=>some (.ref a)
 | .type n=>some (.ty n)
 | _=>none
theorem RelV.abs {x:V}(r:RelV x u):R3 u=some x:=by
 cases x with
 | bE=>cases r;rfl
 | bl _=>cases r;rfl
 | int _=>obtain⟨t,rfl⟩:=r;rfl
 | str _=>obtain⟨t,rfl⟩:=r;rfl
 | DG _=>obtain⟨t,rfl⟩:=r;rfl
 | RV _=>obtain⟨t,rfl⟩:=r;rfl
 | ref _=>cases r;rfl
 | ty _=>cases r;rfl
theorem RelV.inj {x y:V}{u:Value}(r:RelV x u)(q:RelV y u):x=y:=tx (r.abs.symm.trans q.abs)
theorem Vals.inj:∀ {xs ys:List V} {us:List Value},Vals xs us->Vals ys us->xs=ys
 | _,_,_,.nil,.nil=>rfl
 | _,_,_,.cons r t,.cons b a=>by rw[r.inj b,Vals.inj t a]
variable {a:Addr}{xs:List V}{K:Frag}
theorem ax.of (h:H a=some (.lst xs)):ax K H a xs:=.inl (.inl h)
theorem aH.of (h:H a=some (.tup xs)):aH K H a xs:=.inl (.inl h)
variable {σ:St}
theorem Inv.list (I:Inv X pins σ H s)(h:ax X.K H a xs):∃ its:List Value,Vals xs its/\PlainL s.heap a its.toArray/\xs.length<=sizeLine:=by
 rcases h with h | ⟨o,its,n,hk,hc,b,c,hz,r⟩
 ·obtain⟨z,its,n,r,e⟩:=h.ok I.br;exact⟨its,r,⟨_,n,e,rfl,rfl,rfl⟩,z⟩
 ·refine⟨its.toList,r,⟨o,n,I.uP a o hk,hc,b,by simpa using c⟩,?_⟩
  have e:=r.length;simp only[Array.length_toList] at e
  omega
theorem Inv.tuple (I:Inv X pins σ H s)(h:aH X.K H a xs):∃ its:List Value,Vals xs its/\IsTup s.heap a its.toArray/\xs.length<=sizeLine:=by
 rcases h with h | ⟨o,its,n,hk,hc,b,hz,r⟩
 ·obtain⟨z,its,r,p⟩:=h.ok I.br;exact⟨its,r,p,z⟩
 ·refine⟨its.toList,r,⟨o,I.uP a o hk,hc,n,by simpa using b⟩,?_⟩
  have e:=r.length;simp only[Array.length_toList] at e
  omega
variable {ys:List V}
theorem Inv.ni (I:Inv X pins σ H s)(h:ax X.K H a xs)(h':ax X.K H a ys):xs=ys:=by
 obtain⟨c,r,⟨o,n,e,_,_,d⟩,_⟩:=I.list h;obtain⟨b,j,⟨m,l,f,_,_,g⟩,_⟩:=I.list h';rw[e] at f;cases f
 rw[d] at g
 injection g with i _
 have:c=b:=by simpa using OD Array.toList i
 subst this;exact r.inj j
theorem Inv.kQ (I:Inv X pins σ H s)(h:aH X.K H a xs)(h':aH X.K H a ys):xs=ys:=by
 obtain⟨c,r,⟨o,e,_,n,d⟩,_⟩:=I.tuple h;obtain⟨b,j,⟨m,f,_,l,g⟩,_⟩:=I.tuple h';rw[e] at f;cases f
 rw[d] at g
 injection g with i _
 have:c=b:=by simpa using OD Array.toList i
 subst this;exact r.inj j
abbrev Cx.o9 (X:Cx)(E:Value->Shared->Prop):Cx:={X with xe:=E}
abbrev Cx.KS (X:Cx):Cx:=X.o9 fun _ _=>False
theorem Cx.Ok.o9 {X:Cx}(ok:X.Ok)(E:Value->Shared->Prop):(X.o9 E).Ok:=
 ⟨ok.mod,ok.kind,ok.glob,ok.blt,ok.above,ok.inj,ok.has,ok.RH,ok.hd,ok.frames,ok.RU,ok.RR,ok.bs,ok.KL,ok.Dk,ok.HU,ok.mr,ok.OB⟩
theorem Cx.Ok.iu (ok:(X.o9 E).Ok):X.Ok:=
 ⟨ok.mod,ok.kind,ok.glob,ok.blt,ok.above,ok.inj,ok.has,ok.RH,ok.hd,ok.frames,ok.RU,ok.RR,ok.bs,ok.KL,ok.Dk,ok.HU,ok.mr,ok.OB⟩
theorem Inv.o9 (I:Inv X pins σ H s)(E:Value->Shared->Prop):Inv (X.o9 E) pins σ H s:=⟨I.ok.o9 E,I.os,I.bare,I.base,I.loc,I.cell,I.free,I.jx,I.pin,I.br,I.len⟩
theorem Inv.iu (I:Inv (X.o9 E) pins σ H s):Inv X pins σ H s:=⟨I.ok.iu,I.os,I.bare,I.base,I.loc,I.cell,I.free,I.jx,I.pin,I.br,I.len⟩
theorem SP.iu {D:Ends}{f:Flow}{s':Shared}(h:SP (X.o9 E) pins D f s'):SP X pins D f s':=by
 cases f with
 | next=>obtain⟨a,b,I,q⟩:=h;exact⟨a,b,I.iu,q⟩
 | brk=>obtain⟨a,b,I,q⟩:=h;exact⟨a,b,I.iu,q⟩
 | cont=>obtain⟨a,b,I,q⟩:=h;exact⟨a,b,I.iu,q⟩
 | ret u=>obtain⟨v,a,b,I,r,q⟩:=h;exact⟨v,a,b,I.iu,r,q⟩
theorem xw.KS {st:List Stmt}{t:TS}(h:xw X.KS st t):xw X st t:=fun a s σ H D I b=>
 E4 (h a s σ H D (I.o9 _) b) (fun _ _ q=>q.iu) fun _ _ z=>False.elim z
def DO:TS:=fun D σ H=>D.nx σ H
def BG (t u:TS):TS:=fun D σ H=>t {D with nx:=u D} σ H
theorem Ik:xw X [] DO:=fun _ _ σ H _ I h=>wpAny_execs_nil ⟨σ,H,I,h⟩
variable {st:Stmt}{rest:List Stmt}{t u:TS}
theorem DP (h1:PS X st t)(h2:xw X rest u):xw X (st::rest) (BG t u):=by
 intro a s σ H D I h;refine wpAny_execs_cons (bV (h1 a s σ H {D with nx:=u D} I h) fun f e q=>?_)
 cases f with
 | next=>
  obtain⟨b,c,d,q⟩:=q;exact h2 a e b c D d q
 | ret v=>exact q
 | brk=>exact q
 | cont=>exact q
theorem Il (h1:PS X st t):xw X [st] t:=by
 intro a s σ H D I h;refine wpAny_execs_cons (bV (h1 a s σ H D I h) fun f b q=>?_)
 cases f with
 | next=>exact wpAny_execs_nil q
 | ret v=>exact q
 | brk=>exact q
 | cont=>exact q
theorem Inv.quiet {σ:St}(I:Inv X pins σ H s):interactive X.env=false:=by simp[interactive,I.ok.kind]
def DR (te:TE):TS:=fun D σ H=>te σ H fun _ H1=>D.nx σ H1
variable {te:TE}
theorem Im (he:PE X e te)(hs:swapsWith e none pos.line X.env=pure false:=by rfl):PS X (.Expr e pos) (DR te):=by
 intro a s σ H D I h;exact wpAny_Expr_any (bV (he a s σ H _ I h) fun v d ⟨x,H1,b,f,c⟩=>⟨σ,H1,b,c⟩) I.quiet hs
def Mv (te:TE):TS:=fun D σ H=>te σ H D.rt
theorem Mw (he:PE X e te):PS X (.Return (some e) pos) (Mv te):=by
 intro a s σ H D I h;exact wpAny_Return_some (bV (he a s σ H _ I h) fun v f ⟨x,H1,b,d,c⟩=>⟨x,σ,H1,b,d,c⟩)
def My (c:TT)(t u:TS):TS:=fun D σ H=>c σ H fun b H1=>if b=true then t D σ H1 else u D σ H1
variable {tc:TT}
theorem O1 {a b:List Stmt}(hc:PT X c tc)(ha:xw X a t)(hb:xw X b u):PS X (.If c a b pos) (My tc t u):=by
 intro e s σ H D I h;refine wpAny_If (bV (hc e s σ H _ I h) fun d i ⟨H1,f,g⟩=>?_)
 cases d with
 | true=>exact ha e i σ H1 D f g
 | false=>exact hb e i σ H1 D f g
abbrev TG:=V->St->Hp->(St->Hp->Prop)->Prop
abbrev zZ:=List V->St->Hp->(St->Hp->Prop)->Prop
def PG (X:Cx)(target:Expr)(t:TG):Prop:=
 ∀ (pins:List (Addr × Obj)) (s:Shared) (σ:St) (H:Hp) (v:V) (u:Value) (Q:St->Hp->Prop),Inv X pins σ H s->RelV v u->t v σ H Q->
  wpAny (model X.prog X.w) X.A (assign target X.env u) (fun _ a=>∃ σ' H',Inv X pins σ' H' a/\Q σ' H') X.xe s
def OG (X:Cx)(ts:List Expr)(t:zZ):Prop:=
 ∀ (pins:List (Addr × Obj)) (s:Shared) (σ:St) (H:Hp) (vs:List V) (us:List Value) (Q:St->Hp->Prop),Inv X pins σ H s->Vals vs us->t vs σ H Q->
  wpAny (model X.prog X.w) X.A (assignInOrder ((assignEach ts X.env).map (·.2)) us) (fun _ a=>∃ σ' H',Inv X pins σ' H' a/\Q σ' H') X.xe s
abbrev DT:=V->V->V->Hp->(Hp->Prop)->Prop
def Mz (X:Cx)(t:DT):Prop:=
 ∀ (pins:List (Addr × Obj)) (s:Shared) (σ:St) (H:Hp) (o i v:V) (ov iv u:Value) (Q:Hp->Prop),Inv X pins σ H s->RelV o ov->RelV i iv->RelV v u->t o i v H Q->
  wpAny (model X.prog X.w) X.A (setItem ov iv u) (fun _ a=>∃ H',Inv X pins σ H' a/\Q H') X.xe s
def bx (i:Nat):TG:=fun v σ H Q=>Q (σ.set i (some v)) H
theorem Io (hN:X.N.Nodup)(hi:X.N[i]?=some x)(hx:Loc X.env.scope x)(hf:X.fn x=true∨X.env.scope.names.lookup x=some .local:=by first | exact .inl rfl | exact .inr rfl | assumption):PG X (.Name x pos) (bx i):=by
 intro a s σ H v u Q I r h;exact wpAny_assign_Name (uR I hN hi hx r (fun c b=>⟨_,H,b,h⟩) hf)
def jY:zZ:=fun a σ H Q=>a=[]/\Q σ H
def cJ (t:TG)(u:zZ):zZ:=fun c σ H Q=>∃ v r,c=v::r/\t v σ H fun a b=>u r a b Q
theorem Ip:OG X [] jY:=by
 intro a s σ H b c Q I r h;obtain⟨e,h⟩:=h;subst e
 cases r
 exact assignInOrder_nil ⟨σ,H,I,h⟩
variable {es:List Expr}
theorem DU {t:TG}{u:zZ}(h1:PG X e t)(h2:OG X es u)
  (hs:(assignEach (e::es) X.env).map (·.2)=assign e X.env::(assignEach es X.env).map (·.2):=by rfl):OG X (e::es) (cJ t u):=by
 intro a s σ H j l Q I r h;obtain⟨v,m,b,h⟩:=h;subst b
 cases r with
 | cons r d=>
  rw[hs];refine assignInOrder_cons (bV (h1 a s σ H _ _ _ I r h) fun _ i ⟨g,H1,f,c⟩=>?_);exact h2 a i g H1 _ _ Q f d c
def jZ (K:Frag)(n:Nat)(t:zZ):TG:=fun v σ H Q=>∃ a xs,v=.ref a/\aH K H a xs/\xs.length=n/\t xs σ H Q
theorem MA {k:Nat}{t:zZ}{n:Nat}(hc:X.calm=true)(h:OG X es t)
  (hn:(assignEach es X.env).length=n:=by rfl) (hst:(assignEach es X.env).findIdx? (·.1)=none:=by rfl):PG X (.Tuple es k pos) (jZ X.K n t):=by
 intro c s σ H v u Q I r d;obtain⟨a,l,g,hq,q,d⟩:=d;subst g
 cases r
 obtain⟨i,f,p,hz⟩:=I.tuple hq;refine assign_Tuple_tuple (I.ok.hd hc) p (by simp[hn,<-q,f.length]) hst fun j hx=>?_
 have m:Inv X c σ H {s with heap:=j}:=I.kept (t':=s.toks) fun b o e=>hx b o (nt (lt_size e)) e;exact h c _ σ H l _ Q m (by simpa using f) d
def MB (to ti:TE)(t:DT):TG:=fun v σ H Q=>to σ H fun o H1=>ti σ H1 fun i a=>t o i v a fun b=>Q σ b
variable {to ti:TE}
theorem MC {o i:Expr}{t:DT}(ho:PE X o to)(hi:PE X i ti)(hs:Mz X t)
  (ha:∀ v,assign (.Subscript o i pos) X.env v=(do
   let ov<-holding [v] (eval o X.env)
   let iv<-holding [v,ov] (eval i X.env)
   standAt pos
   holding [v,ov,iv] (setItem ov iv v)
   release [v,ov,iv] []):=by intro _;rfl):PG X (.Subscript o i pos) (MB to ti t):=by
 intro a s σ H v u Q I r h;rw[ha];refine cv (Tz (bV (ho a s σ H _ I h) fun ov p ⟨x,H1,l,q,d⟩=>?_));refine cv (Tz (bV (hi a p σ H1 _ l d) fun iv j ⟨y,g,f,b,c⟩=>?_));refine cv (wpAny_standAt (cv (Tz (bV (hs a j σ g x y v ov iv u _ f q b r c) fun _ w ⟨e,n,m⟩=>?_))));exact wpAny_release ⟨σ,e,n,m⟩
def rN (te:TE)(g:TG):TS:=fun D σ H=>te σ H fun x H1=>g x σ H1 D.nx
variable {tg:Expr}{g:TG}
theorem MD (he:PE X e te)(hg:PG X tg g)(hs:swapsWithSole [tg] e pos.line X.env=pure false:=by rfl)(hw:swappedStores [tg] e X.env=pure none:=by rfl)
  (h1:(assignEach [tg] X.env).map (·.2)=[assign tg X.env]:=by rfl):PS X (.Assign [tg] e pos) (rN te g):=by
 intro a s σ H D I h;refine wpAny_Assign_stores (bV (he a s σ H _ I h) fun v d ⟨x,H1,b,f,c⟩=>?_) hs hw;rw[h1];exact bV (hg a d σ H1 x v _ b f c) fun _ i q=>q
variable {pos':Pos}
theorem ME (hN:X.N.Nodup)(hi:X.N[i]?=some x)(hx:Loc X.env.scope x)(he:PE X e te)(hs:swapsWith e (some (.Name x pos')) pos.line X.env=pure false:=by rfl)(hf:X.fn x=true∨X.env.scope.names.lookup x=some .local:=by first | exact .inl rfl | exact .inr rfl | assumption) :
  PS X (.Assign [.Name x pos'] e pos) (rN te (bx i)):=by
 intro a s σ H D I h;refine wpAny_Assign_Name (bV (he a s σ H _ I h) fun v j ⟨y,H1,b,f,d⟩=>?_) hs;exact uR b hN hi hx f (fun g c=>⟨_,H1,c,d⟩) hf
def rO (c:TT)(tb:TS):TS:=fun D σ H=>∃ W:Nat->St->Hp->Prop,(∃ m,W m σ H)/\∀ m σ H,W m σ H->
 c σ H fun b H1=>if b=true then ∃ N:St->Hp->Prop,(∀ σ' H',N σ' H'->∃ m',m' < m/\W m' σ' H')/\tb {D with nx:=N,ct:=N,bk:=D.nx} σ H1 else D.nx σ H1
variable {tb:TS}{body:List Stmt}
theorem DV (hp:PassesOwn (model X.prog X.w) X.A X.env X.xe)(hc:PT X c tc)(hb:xw X body tb):PS X (.While c body [] pos) (rO tc tb):=by
 intro a s σ H D I h;obtain⟨W,⟨B,y⟩,g⟩:=h;refine wpAny_While (codeAny_whileLoop (fun n E=>∃ σ' H',Inv X a σ' H' E/\W n σ' H') ?_ B ⟨σ,H,I,y⟩);rintro n C ⟨i,H1,z,x⟩;refine Tv hp (bV (hc a C i H1 _ z (g n i H1 x)) fun b F ⟨u,r,j⟩=>?_)
 cases b with
 | true=>
  obtain⟨N,t,j⟩:=j;rw[if_pos rfl];refine Tv hp (bV (hb a F i u _ r j) fun f G l=>?_)
  cases f with
  | next=>
   obtain⟨e,d,m,p⟩:=l;obtain⟨o,hm,q⟩:=t e d p;exact⟨o,hm,e,d,m,q⟩
  | cont=>
   obtain⟨e,d,m,p⟩:=l;obtain⟨o,hm,q⟩:=t e d p;exact⟨o,hm,e,d,m,q⟩
  | brk=>exact l
  | ret v=>exact l
 | false=>
  rw[if_neg hI];exact wpAny_execs_nil ⟨i,u,r,j⟩
structure It where
 go:Nat->Hp->Prop
 BA:Nat->Hp->V->Hp->Prop
 stop:Nat->Hp->Prop
def j1 (X:Cx)(pins:List (Addr × Obj))(H:Hp)(b:Addr):Prop:=
 H b=none/\b≠X.env.locals/\b∉X.fs/\(b∈X.ex∨X.s₀.heap.objs.size<=b)/\(∀ x c,X.env.cells.lookup x=some c->c≠b)/\∀ p∈X.pn++pins,p.1≠b
theorem Inv.uS {σ:St}{b:Addr}(I:Inv X pins σ H s)(hb:s.heap.objs.size<=b)(hn:H' b=none):j1 X pins H' b:=by
 refine⟨hn,TU (j5 I.lt hb),I.RY hb,.inr (h9 I.sz hb),fun x c e z=>?_,fun p a z=>?_⟩
 ·obtain⟨v,q⟩:=I.cell x c e;exact absurd (j5 q.lt (by rw[z];exact hb)) (KE _)
 ·exact absurd (j5 (lt_size (I.pin p a).1) (by rw[z];exact hb)) (KE _)
structure Turn (P:Program)(w:World)(K:Frag)(tg:Expr)(J:It)(fp:List Addr)(it:Addr)(tn:Nat->Heap->Prop):Prop where
 mem:it∈fp
 obj:∀ i h,tn i h->∀ b∈fp,∃ o,h.get? b=some o/\∀ v,o.data≠.cell v
 keep:∀ i h h',tn i h->(∀ b∈fp,∀ o,h.get? b=some o->h'.get? b=some o)->tn i h'
 item:∀ (X:Cx),X.prog=P->X.w=w->X.K=K->X.calm=true->∀ (i:Nat) (pins:List (Addr × Obj)) (s:Shared) (σ:St) (H:Hp) (E:Value->Shared->Prop),Inv X pins σ H s->(∀ b∈fp,j1 X pins H b)->tn i s.heap->J.go i H->
  wpAny (model P w) X.A (pyNext (.ref it)) (fun r s1=>∃ u,r=some u/\
   wpAny (model P w) X.A (letOwnedTupleGo tg (.ref it) u) (fun _ s2=>∃ x H',Inv X pins σ H' s2/\RelV x u/\J.BA i H x H'/\tn (i+1) s2.heap/\∀ b∈fp,H' b=none) E s1) E s
 done:∀ (X:Cx),X.prog=P->X.w=w->X.K=K->X.calm=true->∀ (i:Nat) (pins:List (Addr × Obj)) (s:Shared) (σ:St) (H:Hp) (E:Value->Shared->Prop),Inv X pins σ H s->(∀ b∈fp,j1 X pins H b)->tn i s.heap->J.stop i H->
  wpAny (model P w) X.A (pyNext (.ref it)) (fun r s1=>r=none/\Inv X pins σ H s1) E s
 self:∀ (A:Around) (i:Nat) (s:Shared) (Q:Value->Shared->Prop) (E:Value->Shared->Prop),tn i s.heap->Q (.ref it) s->wpAny (model P w) A (pyIter (.ref it)) Q E s
abbrev TI:=St->Hp->(It->Hp->Prop)->Prop
def SH (X:Cx)(pins:List (Addr × Obj))(σ:St)(tg:Expr)(R:It->Hp->Prop)(itv:Value)(s2:Shared):Prop:=
 ∃ (it:Addr) (fp:List Addr) (tn:Nat->Heap->Prop) (J:It) (H':Hp),itv=.ref it/\Inv X pins σ H' s2/\Turn X.prog X.w X.K tg J fp it tn/\tn 0 s2.heap/\(∀ b∈fp,j1 X pins H' b)/\R J H'
def PI (X:Cx)(tg iter:Expr)(wi:TI):Prop:=
 ∀ (pins:List (Addr × Obj)) (s:Shared) (σ:St) (H:Hp) (R:It->Hp->Prop),Inv X pins σ H s->wi σ H R->
  wpAny (model X.prog X.w) X.A (eval iter X.env) (fun v a=>wpAny (model X.prog X.w) X.A (pyIter v) (SH X pins σ tg R) X.xe a) X.xe s
theorem DW {u:Value}{o:Obj}{n:String}{vs:Array Value}{Q:Unit->Shared->Prop}(ho:s.heap.get? it=some o)(hc:o.cls=.type n)(hd:o.data=.fields vs)
  (hn:["enumerate","zip","dict_itemiterator","dict_reverseitemiterator","odict_iterator","itertools.zip_longest","itertools.pairwise"].contains n=false) (hQ:Q () s):wpAny M A (letOwnedTupleGo tg (.ref it) u) Q E s:=by
 unfold letOwnedTupleGo
 cases tg<;>first
  | exact gd hQ
  | (cases u<;>first
    | exact gd hQ
    | (refine cv (wpAny_load ho ?_);rw[hc,hd];show wpAny M A (if (["enumerate","zip","dict_itemiterator","dict_reverseitemiterator","odict_iterator","itertools.zip_longest","itertools.pairwise"].contains n&&vs[0]? == some (rawInt _))=true then _ else _) Q E s;rw[if_neg (by intro h;rw[hn,tz] at h;cases h)];exact gd hQ))
def HZ (K:Frag)(a:Addr):It:=
 ⟨fun i H=>∃ xs x,ax K H a xs/\xs[i]?=some x,fun i H x b=>b=H/\∀ xs,ax K H a xs->xs[i]?=some x,fun i H=>∃ xs,ax K H a xs/\xs.length<=i⟩
def Aa (K:Frag)(a:Addr):It:=
 ⟨fun i H=>∃ xs x,aH K H a xs/\xs[i]?=some x,fun i H x b=>b=H/\∀ xs,aH K H a xs->xs[i]?=some x,fun i H=>∃ xs,aH K H a xs/\xs.length<=i⟩
def xE (lo:Int)(n:Nat):It:=⟨fun i _=>i<n,fun i H x a=>a=H/\x=.int (lo+i),fun i _=>n<=i⟩
theorem BH {P:Program}{w:World}(a it:Addr):Turn P w K tg (HZ K a) [it] it (fun i h=>h.IsListIter it a i) where
 mem:=by simp
 obj:=fun i h f b hb=>by
  have e:b=it:=by simpa using hb
  subst e;obtain⟨o,e,c,d⟩:=f;exact⟨o,e,fun v z=>by rw[d] at z;cases z⟩
 keep:=fun i h l f k=>f.at fun o e=>k it (by simp) o e
 item:=by
  intro X n r C hc i g s σ H E I m f y;subst n r C;obtain⟨L,x,hq,hx⟩:=y;obtain⟨D,G,p,hz⟩:=I.list hq;obtain⟨u,hu,N⟩:=G.get hx;obtain⟨B,A,M,q,t,F⟩:=m it (by simp)
  refine wpAny_pyNext_list_item f p.isList (x:=u) (by simpa using hu) fun l j Q=>?_
  have O:Inv X g σ H {s with heap:=l}:=I.turned (t':=s.toks) (fun b o hb e=>(Q.2 b hb).trans e) B A q t F;obtain⟨o,e,c,d⟩:=id j;exact⟨u,rfl,DW (s:={s with heap:=l}) e c d (by decide) ⟨x,H,O,N,⟨rfl,fun S hy=>by rw[I.ni hy hq];exact hx⟩,j,fun b hb=>(m b hb).1⟩⟩
 done:=by
  intro X n r C hc i g s σ H E I m f y;subst n r C;obtain⟨L,hq,hx⟩:=y;obtain⟨D,G,p,hz⟩:=I.list hq;obtain⟨B,A,M,q,t,F⟩:=m it (by simp)
  have R:=G.length;exact wpAny_pyNext_list_end (I.ok.hd hc) f p.isList (by simp;omega) fun l J=>⟨rfl,I.turned (t':=s.toks) (fun b o hb e=>J b o hb e) B A q t F⟩
 self:=fun _ _ _ _ _ f h=>wpAny_pyIter_listiter f h
theorem xF {P:Program}{w:World}(a it:Addr):Turn P w K tg (Aa K a) [it] it (fun i h=>h.IsTupleIter it a i) where
 mem:=by simp
 obj:=fun i h f b hb=>by
  have e:b=it:=by simpa using hb
  subst e;obtain⟨o,e,c,d⟩:=f;exact⟨o,e,fun v z=>by rw[d] at z;cases z⟩
 keep:=fun i h m f k=>f.at fun o e=>k it (by simp) o e
 item:=by
  intro X q t D hc i g s σ H E I n f A;subst q t D;obtain⟨L,x,hq,hx⟩:=A;obtain⟨j,G,p,hz⟩:=I.tuple hq;obtain⟨u,hu,N⟩:=G.get hx;obtain⟨C,B,M,r,y,F⟩:=n it (by simp)
  refine wpAny_pyNext_tuple_item f (show s.heap.IsTuple a j.toArray from p) (x:=u) (by simpa using hu) fun m l Q=>?_
  have O:Inv X g σ H {s with heap:=m}:=I.turned (t':=s.toks) (fun b o hb e=>(Q.2 b hb).trans e) C B r y F;obtain⟨o,e,c,d⟩:=id l;exact⟨u,rfl,DW (s:={s with heap:=m}) e c d (by decide) ⟨x,H,O,N,⟨rfl,fun S hy=>by rw[I.kQ hy hq];exact hx⟩,l,fun b hb=>(n b hb).1⟩⟩
 done:=by
  intro X q t D hc i g s σ H E I n f A;subst q t D;obtain⟨L,hq,hx⟩:=A;obtain⟨j,G,p,hz⟩:=I.tuple hq;obtain⟨C,B,M,r,y,F⟩:=n it (by simp)
  have R:=G.length;exact wpAny_pyNext_tuple_end (I.ok.hd hc) f (show s.heap.IsTuple a j.toArray from p) (by simp;omega) fun m J=>⟨rfl,I.turned (t':=s.toks) (fun b o hb e=>J b o hb e) C B r y F⟩
 self:=fun _ _ _ _ _ f h=>wpAny_pyIter_tupleiter f h
theorem xG {P:Program}{w:World}(it:Addr)(lo:Int)(n:Nat):Turn P w K tg (xE lo n) [it] it (fun i h=>IsRangeIter h it (lo+(i:Nat)*1) ((n:Int) - (i:Nat)) 1) where
 mem:=by simp
 obj:=fun i h a b hb=>by
  have e:b=it:=by simpa using hb
  subst e;exact⟨_,a,fun v z=>by
   have J:Data.fields _=Data.cell v:=z
   cases J⟩
 keep:=fun i h f a k=>k it (by simp) _ a
 item:=by
  intro X j m x hc i c s σ H E I g a q;subst j m x;obtain⟨u,r,C,l,p,y⟩:=g it (by simp)
  have W:=Walks.range (prog:=X.prog) (w:=X.w) (I.ok.hd hc) it lo 1 n;refine W.item i s _ _ q a fun v f A F d G=>?_;obtain⟨t,rfl⟩:=F;have D:Inv X c σ H {s with heap:=f,toks:=A}:=I.turned (fun b o hb e=>G b o (by simpa using hb) e) u r l p y
  refine⟨_,rfl,DW (s:={s with heap:=f,toks:=A}) (n:="range_iterator") d rfl rfl (by decide) ⟨.int (lo+i),H,D,⟨t,?_⟩,⟨rfl,rfl⟩,d,fun b hb=>(g b hb).1⟩⟩
  rw[Int.mul_one]
 done:=by
  intro X j m x hc i c s σ H E I g a q;subst j m x;obtain⟨u,r,C,l,p,y⟩:=g it (by simp)
  exact wpAny_pyNext_range_end (I.ok.hd hc) a (by have:n<=i:=q;omega) fun f B=>⟨rfl,I.turned (t':=s.toks) (fun b o hb e=>B b o hb e) u r l p y⟩
 self:=fun _ _ _ _ _ a h=>wpAny_pyIter_rangeiter a h
def Ab (K:Frag)(tl:TE):TI:=fun σ H R=>tl σ H fun x H1=>∃ a,x=.ref a/\(∃ xs,ax K H1 a xs)/\R (HZ K a) H1
def Iq (K:Frag)(tl:TE):TI:=fun σ H R=>tl σ H fun x H1=>∃ a,x=.ref a/\(∃ xs,aH K H1 a xs)/\R (Aa K a) H1
variable {l:Expr}{tl:TE}
theorem Ir (hl:PE X l tl):PI X tg l (Ab X.K tl):=by
 intro c s σ H R I h;refine bV (hl c s σ H _ I h) fun v f ⟨x,H1,d,j,i⟩=>?_;obtain⟨a,e,⟨m,hq⟩,q⟩:=i;subst e
 cases j
 obtain⟨g,n,p,hz⟩:=d.list hq;refine Tf p.isList ?_;refine⟨f.heap.objs.size,[f.heap.objs.size],_,_,H1,rfl,d.kept (t':=f.toks) fun b o e=>ey _ e,BH a _,⟨_,j9 _ rfl,rfl,rfl⟩,fun b hb=>?_,q⟩;have e:b=f.heap.objs.size:=by simpa using hb
 subst e;exact d.uS (dy _) (d.br.fresh (dy _))
theorem MF (hl:PE X l tl):PI X tg l (Iq X.K tl):=by
 intro c s σ H R I h;refine bV (hl c s σ H _ I h) fun v d ⟨x,H1,f,j,i⟩=>?_;obtain⟨a,e,⟨m,hq⟩,q⟩:=i;subst e
 cases j
 obtain⟨g,n,p,hz⟩:=f.tuple hq;refine To (show d.heap.IsTuple a g.toArray from p) ?_
 refine⟨d.heap.objs.size,[d.heap.objs.size],_,_,H1,rfl,f.kept (t':=d.toks) fun b o e=>ey _ e,xF a _,⟨_,j9 _ rfl,rfl,rfl⟩,fun b hb=>?_,q⟩;have e:b=d.heap.objs.size:=by simpa using hb
 subst e;exact f.uS (dy _) (f.br.fresh (dy _))
variable {lo:Int}
theorem uT {σ:St}{R:It->Hp->Prop}{hi:Int}{t u v:Tok}{tk:Nat}(I:Inv X pins σ H s)(h1:-(2 ^ 62)<=lo)(h2:lo<2 ^ 62)(h3:-(2 ^ 62)<=hi)(h4:hi<2 ^ 62)
  (q:R (xE lo (hi - lo).toNat) H):wpAny (model X.prog X.w) X.A (pyIter (.ref s.heap.objs.size)) (SH X pins σ tg R) E {s with heap:=s.heap.push {cls:=.type "range",data:=.fields #[.int lo t,.int hi u,.int 1 v]},toks:=tk}:=by
 refine wpAny_pyIter_range (IsRange.new ..) (small_one h1 h2 h3 h4) ?_;have a:Inv X pins σ H {s with heap:=s.heap.push {cls:=.type "range",data:=.fields #[.int lo t,.int hi u,.int 1 v]},toks:=tk}:=I.kept fun b o e=>ey _ e;refine⟨(s.heap.push {cls:=.type "range",data:=.fields #[.int lo t,.int hi u,.int 1 v]}).objs.size,[(s.heap.push {cls:=.type "range",data:=.fields #[.int lo t,.int hi u,.int 1 v]}).objs.size],_,_,H,rfl,
  a.kept (t':=tk) fun b o e=>ey _ e,xG _ lo (hi - lo).toNat,?_,fun b hb=>?_,q⟩
 ·have c:lo+((0:Nat):Int)*1=lo:=by simp
  have e2:(((hi - lo).toNat:Nat):Int) - ((0:Nat):Int)=Builtin.Range.rangeSize lo hi 1:=by rw[rangeSize_one];split<;>omega
  show IsRangeIter _ _ (lo+((0:Nat):Int)*1) ((((hi - lo).toNat:Nat):Int) - ((0:Nat):Int)) 1;rw[c,e2];exact j9 _ rfl
 ·have e:b=(s.heap.push {cls:=.type "range",data:=.fields #[.int lo t,.int hi u,.int 1 v]}).objs.size:=by simpa using hb
  subst e;exact a.uS (dy _) (a.br.fresh (dy _))
def Ac (ta:TA):TI:=fun σ H R=>ta σ H fun a H1=>∃ j:Int,a=[.int j]/\-(2 ^ 62)<=j/\j<2 ^ 62/\R (xE 0 j.toNat) H1
def Ad (ta:TA):TI:=fun σ H R=>ta σ H fun a H1=>∃ i j:Int,a=[.int i,.int j]/\(-(2 ^ 62)<=i/\i<2 ^ 62/\-(2 ^ 62)<=j/\j<2 ^ 62)/\R (xE i (j - i).toNat) H1
variable {a:Expr}{ta:TA}{p:Pos}
theorem BI {pos:Pos}(hg:Gl X "range")(hm:X.mg "range"=none)(ha:PA X [a] ta)(hs:starEach [a] X.env=[(false,eval a X.env)]:=by rfl):PI X tg (.Call (.Name "range" p) [a] [] pos) (Ac ta):=by
 intro b s σ H R I h;refine Call_ (jA I hg hm boot_range (F8 (bV (ha pos b s σ H _ I h) fun m n ⟨l,H1,g,i,c⟩=>?_) hs rfl));obtain⟨j,e,c,d,q⟩:=c;subst e
 cases i with
 | cons r f=>
  cases f
  obtain⟨t,rfl⟩:=r;exact call_range_1 (uT g (by omega) (by omega) c d (by simpa using q))
theorem BJ {pos:Pos}(hg:Gl X "range")(hm:X.mg "range"=none)(ha:PA X [a,b] ta)(hs:starEach [a,b] X.env=[(false,eval a X.env),(false,eval b X.env)]:=by rfl)(hs2:starEach [b] X.env=[(false,eval b X.env)]:=by rfl) :
  PI X tg (.Call (.Name "range" p) [a,b] [] pos) (Ad ta):=by
 intro c s σ H R I h;refine Call_ (jA I hg hm boot_range (F8 (bV (ha pos c s σ H _ I h) fun x y ⟨w,H1,n,u,d⟩=>?_) (by rw[hs,hs2]) (by rw[hs2];rfl)))
 obtain⟨i,j,e,⟨d,g,o,m⟩,q⟩:=d;subst e
 cases u with
 | cons r f=>
  cases f with
  | cons l f=>
   cases f
   obtain⟨t,rfl⟩:=r;obtain⟨v,rfl⟩:=l;exact call_range_2 (uT n d g o m q)
def MG (wi:TI)(g:TG)(tb:TS):TS:=fun D σ H=>wi σ H fun J H1=>∃ W:Nat->Nat->St->Hp->Prop,(∃ m,W 0 m σ H1)/\∀ i m σ H,W i m σ H->
 (J.stop i H/\D.nx σ H)∨(J.go i H/\∃ N:St->Hp->Prop,(∀ σ' H',N σ' H'->∃ m',m' < m/\W (i+1) m' σ' H')/\∀ x H',J.BA i H x H'->g x σ H' fun b a=>tb {D with nx:=N,ct:=N,bk:=D.nx} b a)
def nj (fp:List Addr)(h:Heap):List (Addr × Obj):=fp.filterMap fun b=>(h.get? b).map fun o=>(b,o)
variable {fp:List Addr}
theorem gA {h:Heap}{b:Addr}{o:Obj}(hb:b∈fp)(e:h.get? b=some o):(b,o)∈nj fp h:=List.mem_filterMap.mpr ⟨b,hb,by rw[e];rfl⟩
theorem BK {h:Heap}{p:Addr × Obj}(hp:p∈nj fp h):p.1∈fp/\h.get? p.1=some p.2:=by
 obtain⟨b,hb,e⟩:=List.mem_filterMap.mp hp
 cases q:h.get? b with
 | none=>rw[q] at e;cases e
 | some o=>
  rw[q] at e;have a:(b,o)=p:=tx e;subst a;exact⟨hb,q⟩
theorem Inv.pinned {σ:St}(I:Inv X pins σ H s)(hf:∀ b∈fp,j1 X pins H b)(ho:∀ b∈fp,∃ o,s.heap.get? b=some o/\∀ v,o.data≠.cell v):Inv X (pins++nj fp s.heap) σ H s:=
 I.zY fun p c=>(ka.mp c).elim (fun z=>I.pin p (xm _ z)) fun z=>by
  obtain⟨hb,e⟩:=BK z;obtain⟨f,g,h,_⟩:=hf p.1 hb;obtain⟨o,a,d⟩:=ho p.1 hb;rw[e] at a;cases a
  exact⟨e,f,g,h,d⟩
theorem Inv.j2 {pl:List (Addr × Obj)}{σ:St}(I:Inv X (pins++pl) σ H s):Inv X pins σ H s:=I.zY fun p a=>I.pin p (xm _ (List.mem_append_left _ a))
variable {iter:Expr}
theorem MH {wi:TI}{pos:Pos}(hp:PassesOwn (model X.prog X.w) X.A X.env X.xe)(hc:X.calm=true)(hi:PI X tg iter wi)(hg:PG X tg g)(hb:xw X body tb)
  (hs:∀ x,foldedSetIterable iter X.env x=pure x:=by intro _;rfl):PS X (.For tg iter body [] pos) (MG wi g tb):=by
 intro a s σ H D I h;refine wpAny_For (bV (hi a s σ H _ I h) fun v s1 h1=>bV h1 fun itv s2 h2=>?_) hs;obtain⟨it,z,tn,J,H2,e,I2,T,P,Z,W,⟨m0,w0⟩,K⟩:=h2;subst e;have q:∀ {H':Hp},(∀ b∈z,H' b=none)->∀ b∈z,j1 X a H' b:=fun hn b hb=>⟨hn b hb,(Z b hb).2⟩;refine codeAny_forLoop_any (fun n s'=>∃ i σ' H',Inv X a σ' H' s'/\tn i s'.heap/\(∀ b∈z,H' b=none)/\W i n σ' H') ?_ m0 ⟨0,σ,H2,I2,P,fun b hb=>(Z b hb).1,w0⟩;rintro n s3 ⟨i,E,L,U,C,F,w3⟩
 rcases K i n E L w3 with ⟨G,qn⟩ | ⟨go,N,hN,step⟩
 ·refine Tv hp (bV (T.done X rfl rfl rfl hc i a s3 E L X.xe U (q F) C G) fun r s4 ⟨R,I4⟩=>?_);subst R;exact wpAny_execs_nil ⟨E,L,I4,qn⟩
 ·refine Tv hp (bV (T.item X rfl rfl rfl hc i a s3 E L X.xe U (q F) C go) fun r s4 ⟨u,R,h4⟩=>?_);subst R;refine Tv hp (bV h4 fun _ Y ⟨x,S,I5,r5,y5,y,Q⟩=>?_);have O:=I5.pinned (q Q) (T.obj _ _ y);refine Tv hp (bV (hg _ Y E S x u _ O r5 (step x S y5)) fun _ s6 ⟨σ6,H6,I6,q6⟩=>?_);refine Tv hp (bV (hb _ s6 σ6 H6 _ I6 q6) fun f M t=>?_);have c:∀ {p:St} {j:Hp},Inv X (a++nj z Y.heap) p j M->N p j->∃ m,m<n/\∃ i σ' H',Inv X a σ' H' M/\tn i M.heap/\(∀ b∈z,H' b=none)/\W i m σ' H':=fun {p j} l B=>by
   obtain⟨m',hm,w7⟩:=hN p j B;refine⟨m',hm,i+1,p,j,l.j2,T.keep _ _ _ y fun b hb o e=>(l.pin (b,o) (xm _ (xm _ (gA hb e)))).1,fun b hb=>?_,w7⟩;obtain⟨o,e,d⟩:=T.obj _ _ y b hb;exact(l.pin (b,o) (xm _ (xm _ (gA hb e)))).2.1
  cases f with
  | next=>obtain⟨p,j,l,B⟩:=t;exact c l B
  | cont=>obtain⟨p,j,l,B⟩:=t;exact c l B
  | brk=>obtain⟨p,j,l,t⟩:=t;exact⟨p,j,l.j2,t⟩
  | ret v=>obtain⟨x7,p,j,l,r7,t⟩:=t;exact⟨x7,p,j,l.j2,r7,t⟩
variable {a:Addr}{D:Ends}
theorem uU {σ:St}(Pv:Nat->St->Hp->Prop)(h0:Pv 0 σ H)(hl:∀ i σ H,i<=xs.length->Pv i σ H->ax K H a xs)
  (hs:∀ i x σ H,xs[i]?=some x->Pv i σ H->g x σ H fun σ2 H2=>tb {D with nx:=Pv (i+1),ct:=Pv (i+1),bk:=D.nx} σ2 H2) (hd:∀ σ H,Pv xs.length σ H->D.nx σ H) :
  ∃ W:Nat->Nat->St->Hp->Prop,(∃ m,W 0 m σ H)/\∀ i m σ H,W i m σ H->
   ((HZ K a).stop i H/\D.nx σ H)∨((HZ K a).go i H/\∃ N:St->Hp->Prop,(∀ σ' H',N σ' H'->∃ m',m' < m/\W (i+1) m' σ' H')/\∀ x H',(HZ K a).BA i H x H'->g x σ H' fun σ2 H2=>tb {D with nx:=N,ct:=N,bk:=D.nx} σ2 H2):=by
 refine⟨fun i m σ H=>m=xs.length - i/\i<=xs.length/\Pv i σ H,⟨xs.length,by simp,zero_le _,h0⟩,?_⟩
 rintro i m σ H ⟨rfl,hi,p⟩;have q:=hl i σ H hi p
 by_cases b:i<xs.length
 ·refine .inr ⟨⟨xs,xs[i],q,by simp[b]⟩,Pv (i+1),fun σ' H' c=>⟨xs.length - (i+1),by omega,rfl,b,c⟩,fun x H' y=>?_⟩
  obtain⟨e,y⟩:=y;subst e;exact hs i x σ _ (y xs q) p
 ·have e:i=xs.length:=by omega
  subst e;exact .inl ⟨⟨xs,q,dy _⟩,hd σ H p⟩
theorem rQ {σ:St}(Pv:Nat->St->Hp->Prop)(h0:Pv 0 σ H)(hl:∀ i σ H,i<=xs.length->Pv i σ H->aH K H a xs)
  (hs:∀ i x σ H,xs[i]?=some x->Pv i σ H->g x σ H fun σ2 H2=>tb {D with nx:=Pv (i+1),ct:=Pv (i+1),bk:=D.nx} σ2 H2) (hd:∀ σ H,Pv xs.length σ H->D.nx σ H) :
  ∃ W:Nat->Nat->St->Hp->Prop,(∃ m,W 0 m σ H)/\∀ i m σ H,W i m σ H->
   ((Aa K a).stop i H/\D.nx σ H)∨((Aa K a).go i H/\∃ N:St->Hp->Prop,(∀ σ' H',N σ' H'->∃ m',m' < m/\W (i+1) m' σ' H')/\∀ x H',(Aa K a).BA i H x H'->g x σ H' fun σ2 H2=>tb {D with nx:=N,ct:=N,bk:=D.nx} σ2 H2):=by
 refine⟨fun i m σ H=>m=xs.length - i/\i<=xs.length/\Pv i σ H,⟨xs.length,by simp,zero_le _,h0⟩,?_⟩
 rintro i m σ H ⟨rfl,hi,p⟩;have q:=hl i σ H hi p
 by_cases b:i<xs.length
 ·refine .inr ⟨⟨xs,xs[i],q,by simp[b]⟩,Pv (i+1),fun σ' H' c=>⟨xs.length - (i+1),by omega,rfl,b,c⟩,fun x H' y=>?_⟩
  obtain⟨e,y⟩:=y;subst e;exact hs i x σ _ (y xs q) p
 ·have e:i=xs.length:=by omega
  subst e;exact .inl ⟨⟨xs,q,dy _⟩,hd σ H p⟩
variable {n:Nat}
theorem qk {σ:St}(Pv:Nat->St->Hp->Prop)(h0:Pv 0 σ H)
  (hs:∀ i σ H,i<n->Pv i σ H->g (.int (lo+i)) σ H fun σ2 H2=>tb {D with nx:=Pv (i+1),ct:=Pv (i+1),bk:=D.nx} σ2 H2) (hd:∀ σ H,Pv n σ H->D.nx σ H) :
  ∃ W:Nat->Nat->St->Hp->Prop,(∃ m,W 0 m σ H)/\∀ i m σ H,W i m σ H->
   ((xE lo n).stop i H/\D.nx σ H)∨((xE lo n).go i H/\∃ N:St->Hp->Prop,(∀ σ' H',N σ' H'->∃ m',m' < m/\W (i+1) m' σ' H')/\∀ x H',(xE lo n).BA i H x H'->g x σ H' fun σ2 H2=>tb {D with nx:=N,ct:=N,bk:=D.nx} σ2 H2):=by
 refine⟨fun i m σ H=>m=n - i/\i<=n/\Pv i σ H,⟨n,by simp,zero_le _,h0⟩,?_⟩
 rintro i m σ H ⟨rfl,hi,p⟩
 by_cases a:i<n
 ·refine .inr ⟨a,Pv (i+1),fun σ' H' b=>⟨n - (i+1),by omega,rfl,a,b⟩,fun x H' y=>?_⟩
  obtain⟨e,y⟩:=y;subst e y;exact hs i σ _ a p
 ·have e:i=n:=by omega
  subst e;exact .inl ⟨dy _,hd σ H p⟩
abbrev R2:=V->V->Hp->VK->Prop
def eC (X:Cx)(f:Value->Value->Sem Value)(r:R2):Prop:=
 ∀ (pins:List (Addr × Obj)) (s:Shared) (σ:St) (H:Hp) (x y:V) (v u:Value) (Q:VK),Inv X pins σ H s->RelV x v->RelV y u->r x y H Q->
  wpAny (model X.prog X.w) X.A (f v u) (EP X pins σ Q) X.xe s
def RK (X:Cx)(f:Value->Sem Value)(r:V->Hp->VK->Prop):Prop:=
 ∀ (pins:List (Addr × Obj)) (s:Shared) (σ:St) (H:Hp) (x:V) (v:Value) (Q:VK),Inv X pins σ H s->RelV x v->r x H Q->
  wpAny (model X.prog X.w) X.A (f v) (EP X pins σ Q) X.xe s
def bX (X:Cx)(f:Value)(r:List V->Hp->VK->Prop):Prop:=
 ∀ (pins:List (Addr × Obj)) (s:Shared) (σ:St) (H:Hp) (xs:List V) (us:List Value) (Q:VK),Inv X pins σ H s->Vals xs us->r xs H Q->
  wpAny (model X.prog X.w) X.A (call f us) (EP X pins σ Q) X.xe s
def xH (r:R2)(ta tb:TE):TE:=fun σ H Q=>ta σ H fun x H1=>tb σ H1 fun y a=>r x y a Q
def R4 (r:V->Hp->VK->Prop)(ta:TE):TE:=fun σ H Q=>ta σ H fun x H1=>r x H1 Q
def rI (C:Int->Int->Prop)(g:Int->Int->V):R2:=fun x y H Q=>∃ i j,x=.int i/\y=.int j/\C i j/\Q (g i j) H
def Dy (g:Int->Int->V):R2:=fun x y H Q=>∃ i j,x=.int i/\y=.int j/\Q (g i j) H
def rU (g:Int->V):V->Hp->VK->Prop:=fun x H Q=>∃ i,x=.int i/\Q (g i) H
variable {a:Expr}{ta tb:TE}{f:Value->Value->Sem Value}
theorem MI (ha:PE X a ta)(hb:PE X b tb){σ:St}{R:V->V->Hp->Prop}(I:Inv X pins σ H s)
  (h:ta σ H fun x H1=>tb σ H1 fun y H2=>R x y H2) 
  (hf:∀ v u s2 x y H2,Inv X pins σ H2 s2->RelV x v->RelV y u->R x y H2->wpAny (model X.prog X.w) X.A (f v u) Q X.xe s2) :
  wpAny (model X.prog X.w) X.A (eval a X.env) (fun v s₁=>wpAny (model X.prog X.w) X.A (eval b X.env) (fun u s₂=>wpAny (model X.prog X.w) X.A (f v u) Q X.xe s₂) X.xe s₁) X.xe s:=by
 refine bV (ha pins s σ H _ I h) fun v j ⟨x,H1,c,l,i⟩=>?_;refine bV (hb pins j σ H1 _ c i) fun u s2 ⟨y,H2,g,d,e⟩=>?_;exact hf v u s2 x y H2 g l d e
theorem uV {op:Operator}{r:R2}(ho:eC X (binaryOp op) r)(ha:PE X a ta)(hb:PE X b tb):PE X (.BinOp a op b pos) (xH r ta tb):=by
 intro c s σ H Q I h;exact wpAny_BinOp (MI ha hb I h fun v u e x y d i g f q=>ho c e σ d x y v u Q i g f q)
theorem O2 {op:UnaryOp}{r:V->Hp->VK->Prop}(ho:RK X (unaryOp op) r)(ha:PE X a ta):PE X (.UnaryOp op a pos) (R4 r ta):=by
 intro b s σ H Q I h;exact UnaryOp_ (bV (ha b s σ H _ I h) fun v e ⟨x,H1,c,f,d⟩=>ho b e σ H1 x v Q c f d)
variable {g:Int->Int->Int}
theorem MJ {C:Int->Int->Prop} 
  (rule:∀ (i j:Int) (t u:Tok) (s:Shared) (Q:Value->Shared->Prop) (E:Value->Shared->Prop),C i j->Q (.int (g i j) s.toks) {s with toks:=s.toks+1}->wpAny (model X.prog X.w) X.A (f (.int i t) (.int j u)) Q E s) :
  eC X f (rI C fun i j=>.int (g i j)):=by
 intro a s σ H x y v u Q I d c h;obtain⟨i,j,rfl,rfl,hc,q⟩:=h;obtain⟨t,rfl⟩:=d;obtain⟨b,rfl⟩:=c;exact rule i j t b s _ _ hc ⟨.int (g i j),H,I.tok _,⟨_,rfl⟩,q⟩
theorem Iu 
  (rule:∀ (i j:Int) (t u:Tok) (s:Shared) (Q:Value->Shared->Prop) (E:Value->Shared->Prop),Q (.int (g i j) s.toks) {s with toks:=s.toks+1}->wpAny (model X.prog X.w) X.A (f (.int i t) (.int j u)) Q E s) :
  eC X f (Dy fun i j=>.int (g i j)):=by
 intro a s σ H x y v u Q I d c h;obtain⟨i,j,rfl,rfl,q⟩:=h;obtain⟨t,rfl⟩:=d;obtain⟨b,rfl⟩:=c;exact rule i j t b s _ _ ⟨.int (g i j),H,I.tok _,⟨_,rfl⟩,q⟩
theorem Iv {g:Int->Int->Bool}
  (rule:∀ (i j:Int) (t u:Tok) (s:Shared) (Q:Value->Shared->Prop) (E:Value->Shared->Prop),Q (.bool (g i j)) s->wpAny (model X.prog X.w) X.A (f (.int i t) (.int j u)) Q E s) :
  eC X f (Dy fun i j=>.bl (g i j)):=by
 intro a s σ H x y v u Q I d c h;obtain⟨i,j,rfl,rfl,q⟩:=h;obtain⟨t,rfl⟩:=d;obtain⟨b,rfl⟩:=c;exact rule i j t b s _ _ ⟨.bl (g i j),H,I,rfl,q⟩
def MK (i j:Int):Prop:=0<j/\j<1073741824
def rR (i j:Int):Prop:=0<=j/\j<=1000000/\i.natAbs<2 ^ 64
theorem xI (k:Nat):(0:Int)<=2 ^ k:=by
 rw[two_pow_cast];exact Int.natCast_nonneg _
theorem aV:eC X (binaryOp .Add) (Dy fun i j=>.int (i+j)):=Iu fun _ _ _ _ _ _ _ q=>add_int q
theorem cF:eC X (binaryOp .Sub) (Dy fun i j=>.int (i - j)):=Iu fun _ _ _ _ _ _ _ q=>sub_int q
theorem Iw:eC X (binaryOp .FloorDiv) (rI MK fun i j=>.int (i / j)):=MJ fun i j _ _ _ _ _ hc q=>by
 have h1:(0:Int)<j:=hc.1;have a:j<1073741824:=hc.2;exact floordiv_int (by omega) (by rw[Int.fdiv_eq_ediv_of_nonneg i (by omega)];exact q) (.inl (PyProof.noPylong_small (by omega)))
theorem cV:eC X (binaryOp .Mod) (rI (fun _ j=>0<j) fun i j=>.int (i % j)):=MJ fun i j _ _ _ _ _ hc q=>by
 have h1:(0:Int)<j:=hc;exact mod_int' (by omega) (by rw[Int.fmod_eq_emod_of_nonneg i (by omega)];exact q)
theorem kR:eC X (binaryOp .Pow) (rI rR fun i j=>.int (i ^ j.toNat)):=MJ fun _ _ _ _ _ _ _ hc q=>pow_int_small hc.1 hc.2.1 hc.2.2 q
theorem cK:eC X (binaryOp .LShift) (rI rR fun i j=>.int (i*2 ^ j.toNat)):=MJ fun _ _ _ _ _ _ _ hc q=>lshift_int_small hc.1 hc.2.1 hc.2.2 q
theorem xJ:eC X (binaryOp .RShift) (rI (fun _ j=>0<=j) fun i j=>.int (i / 2 ^ j.toNat)):=MJ fun i j _ _ _ _ _ hc q=>
 rshift_int hc (by rw[Int.fdiv_eq_ediv_of_nonneg i (xI _)];exact q)
theorem dR:eC X (binaryOp .BitAnd) (Dy fun i j=>.int (Builtin.bitAnd i j)):=Iu fun _ _ _ _ _ _ _ q=>and_int q
theorem Ae:eC X (binaryOp .BitOr) (Dy fun i j=>.int (Builtin.bitOr i j)):=Iu fun _ _ _ _ _ _ _ q=>or_int q
theorem SY {f:Value->Sem Value}{g:Int->Int}
  (rule:∀ (i:Int) (t:Tok) (s:Shared) (Q:Value->Shared->Prop) (E:Value->Shared->Prop),Q (.int (g i) s.toks) {s with toks:=s.toks+1}->wpAny (model X.prog X.w) X.A (f (.int i t)) Q E s) :
  RK X f (rU fun i=>.int (g i)):=by
 intro a s σ H x v Q I b h;obtain⟨i,rfl,q⟩:=h;obtain⟨t,rfl⟩:=b;exact rule i t s _ _ ⟨.int (g i),H,I.tok _,⟨_,rfl⟩,q⟩
theorem kS:RK X (unaryOp .USub) (rU fun i=>.int (-i)):=SY fun _ _ _ _ _ q=>neg_int q
def xK:V->V->Bool
 | .bE,.bE=>true | .bE,.int _=>true | .int _,.bE=>true | .bE,.bl _=>true | .bl _,.bE=>true | .bE,.str _=>true | .str _,.bE=>true
 | .int _,.int _=>true | .bl _,.bl _=>true | .str _,.str _=>true | .DG _,.DG _=>true
 | .int _,.str _=>true | .str _,.int _=>true | .bl _,.str _=>true | .str _,.bl _=>true
 | _,_=>false
def O3:R2:=fun x y H Q=>xK x y=true/\Q (.bl (decide (x=y))) H
def ML:R2:=fun x y H Q=>xK x y=true/\Q (.bl (!decide (x=y))) H
theorem Af {i j:Int}:decide (V.int i=V.int j)=(i == j):=by
 rw[SC]
 simp
theorem DX {i j:Bool}:decide (V.bl i=V.bl j)=(i == j):=by
 rw[SC]
 simp
theorem Ag {i j:Str}:decide (V.str i=V.str j)=(i == j):=by
 rw[SC]
 simp
theorem Ah {i j:Array UInt8}:decide (V.DG i=V.DG j)=(i.toList == j.toList):=by
 rw[SC]
 cases i
 cases j
 simp
theorem bu {σ:St}{Q:VK}{k k':Bool}(I:Inv X pins σ H s)(q:Q (.bl k) H)(e:k=k'):EP X pins σ Q (.bool k') s:=by
 subst e;exact⟨.bl k,H,I,rfl,q⟩
theorem aX:eC X (compareOp .Eq) O3:=by
 intro e s σ H x y v u Q I d a h;obtain⟨c,q⟩:=h
 cases x with
 | bE=>
  cases d
  cases y with
  | bE=>cases a;exact PySem.EqNone.eq_none_none (bu I q (by simp))
  | bl j=>cases a;exact PySem.EqNone.eq_none_bool (bu I q (by simp))
  | int j=>obtain⟨b,rfl⟩:=a;exact PySem.EqNone.eq_none_int (bu I q (by simp))
  | str j=>obtain⟨b,rfl⟩:=a;exact PySem.EqNone.eq_none_str (bu I q (by simp))
  | _=>exact absurd (show false=true from c) hI
 | bl i=>
  cases d
  cases y with
  | bE=>cases a;exact PySem.EqNone.eq_bool_none (bu I q (by simp))
  | bl j=>cases a;exact eq_bool (bu I q DX)
  | str j=>obtain⟨b,rfl⟩:=a;exact PySem.EqMixed.eq_bool_str (bu I q (by simp))
  | _=>exact absurd (show false=true from c) hI
 | int i=>
  obtain⟨t,rfl⟩:=d
  cases y with
  | bE=>cases a;exact PySem.EqNone.eq_int_none (bu I q (by simp))
  | int j=>obtain⟨b,rfl⟩:=a;exact eq_int (bu I q Af)
  | str j=>obtain⟨b,rfl⟩:=a;exact PySem.EqMixed.eq_int_str (bu I q (by simp))
  | _=>exact absurd (show false=true from c) hI
 | str i=>
  obtain⟨t,rfl⟩:=d
  cases y with
  | bE=>cases a;exact PySem.EqNone.eq_str_none (bu I q (by simp))
  | bl j=>cases a;exact PySem.EqMixed.eq_str_bool (bu I q (by simp))
  | int j=>obtain⟨b,rfl⟩:=a;exact PySem.EqMixed.eq_str_int (bu I q (by simp))
  | str j=>obtain⟨b,rfl⟩:=a;exact eq_str (bu I q Ag)
  | _=>exact absurd (show false=true from c) hI
 | DG i=>
  obtain⟨t,rfl⟩:=d
  cases y with
  | DG j=>obtain⟨b,rfl⟩:=a;exact PySem.W.eq_bytes (bu I q Ah)
  | _=>exact absurd (show false=true from c) hI
 | _=>cases y<;>exact absurd (show false=true from c) hI
theorem lR:eC X (compareOp .NotEq) ML:=by
 intro e s σ H x y v u Q I d a h;obtain⟨c,q⟩:=h
 cases x with
 | bE=>
  cases d
  cases y with
  | bE=>cases a;exact PySem.EqNone.ne_none_none (bu I q (by simp))
  | bl j=>cases a;exact PySem.EqNone.ne_none_bool (bu I q (by simp))
  | int j=>obtain⟨b,rfl⟩:=a;exact PySem.EqNone.ne_none_int (bu I q (by simp))
  | str j=>obtain⟨b,rfl⟩:=a;exact PySem.EqNone.ne_none_str (bu I q (by simp))
  | _=>exact absurd (show false=true from c) hI
 | bl i=>
  cases d
  cases y with
  | bE=>cases a;exact PySem.EqNone.ne_bool_none (bu I q (by simp))
  | bl j=>cases a;exact ne_bool (bu I q (OD not DX))
  | str j=>obtain⟨b,rfl⟩:=a;exact PySem.EqMixed.ne_bool_str (bu I q (by simp))
  | _=>exact absurd (show false=true from c) hI
 | int i=>
  obtain⟨t,rfl⟩:=d
  cases y with
  | bE=>cases a;exact PySem.EqNone.ne_int_none (bu I q (by simp))
  | int j=>obtain⟨b,rfl⟩:=a;exact ne_int (bu I q (OD not Af))
  | str j=>obtain⟨b,rfl⟩:=a;exact PySem.EqMixed.ne_int_str (bu I q (by simp))
  | _=>exact absurd (show false=true from c) hI
 | str i=>
  obtain⟨t,rfl⟩:=d
  cases y with
  | bE=>cases a;exact PySem.EqNone.ne_str_none (bu I q (by simp))
  | bl j=>cases a;exact PySem.EqMixed.ne_str_bool (bu I q (by simp))
  | int j=>obtain⟨b,rfl⟩:=a;exact PySem.EqMixed.ne_str_int (bu I q (by simp))
  | str j=>obtain⟨b,rfl⟩:=a;exact ne_str (bu I q (OD not Ag))
  | _=>exact absurd (show false=true from c) hI
 | DG i=>
  obtain⟨t,rfl⟩:=d
  cases y with
  | DG j=>obtain⟨b,rfl⟩:=a;exact PySem.W.ne_bytes (bu I q (OD not Ah))
  | _=>exact absurd (show false=true from c) hI
 | _=>cases y<;>exact absurd (show false=true from c) hI
theorem fG:eC X (compareOp .Lt) (Dy fun i j=>.bl (decide (i<j))):=Iv fun _ _ _ _ _ _ _ q=>lt_int q
theorem nk:eC X (compareOp .LtE) (Dy fun i j=>.bl (decide (i<=j))):=Iv fun _ _ _ _ _ _ _ q=>le_int q
theorem Ai:eC X (compareOp .Gt) (Dy fun i j=>.bl (decide (j<i))):=Iv fun _ _ _ _ _ _ _ q=>gt_int q
theorem KU:eC X (compareOp .GtE) (Dy fun i j=>.bl (decide (j<=i))):=Iv fun _ _ _ _ _ _ _ q=>ge_int q
theorem ql:eC X (compareOp .In) (fun x y H Q=>∃ i j,x=.str i/\y=.str j/\Q (.bl (!(Builtin.Str.occurrences j i 0 j.length 1).isEmpty)) H):=by
 intro a s σ H x y v u Q I c b h;obtain⟨i,j,rfl,rfl,q⟩:=h;obtain⟨t,rfl⟩:=c;obtain⟨d,rfl⟩:=b;exact in_str (bu I q rfl)
theorem MM:eC X (compareOp .Is) (fun x y H Q=>y=.bE/\Q (.bl (decide (x=.bE))) H):=by
 intro b s σ H x y v u Q I a c h;obtain⟨rfl,q⟩:=h
 cases c
 refine is_none_gen (bu I q ?_)
 cases x<;>first
  | (cases a;rfl)
  | (obtain⟨t,rfl⟩:=a;rfl)
theorem Iy:eC X (compareOp .IsNot) (fun x y H Q=>y=.bE/\Q (.bl (!decide (x=.bE))) H):=by
 intro b s σ H x y v u Q I a c h;obtain⟨rfl,q⟩:=h
 cases c
 refine isnot_none_gen (bu I q ?_)
 cases x<;>first
  | (cases a;rfl)
  | (obtain⟨t,rfl⟩:=a;rfl)
theorem au (b:Expr)(h:op≠.In:=by decide)(h2:op≠.NotIn:=by decide):behindInMarks op b=false:=by
 have a:(op == CmpOp.In)=false:=by cases op<;>first | rfl | exact absurd rfl h
 have e2:(op == CmpOp.NotIn)=false:=by cases op<;>first | rfl | exact absurd rfl h2
 cases b<;>simp[behindInMarks,a,e2]
variable {r:R2}
theorem Iz (ho:eC X (compareOp op) r)(ha:PE X a ta)(hb:PE X b tb)(hm:behindInMarks op b=false):PE X (.Compare a [op] [b] pos) (xH r ta tb):=by
 intro c s σ H Q I h;exact wpAny_Compare1 (MI ha hb I h fun v u e x y d i g f q=>ho c e σ d x y v u Q i g f q) hm
def uW (t:TE):TT:=fun σ H Q=>t σ H fun x a=>∃ k,x=.bl k/\Q k a
theorem IB (ho:eC X (compareOp op) r)(ha:PE X a ta)(hb:PE X b tb)(hm:behindInMarks op b=false):PT X (.Compare a [op] [b] pos) (uW (xH r ta tb)):=by
 intro d s σ H Q I h;refine wpAny_isTrue_Compare1 (bV (ha d s σ H _ I h) fun v w ⟨x,H1,o,A,i⟩=>bV (hb d w σ H1 _ o i) fun u n ⟨y,m,l,f,g⟩=>
  bV (ho d n σ m x y v u _ l A f g) fun c B ⟨z,j,t,p,k,e,q⟩=>?_) hm
 subst e
 cases p
 exact F4 ⟨j,t,q⟩
def nq (r r':R2)(ta tb tc:TE):TE:=fun σ H Q=>ta σ H fun x H1=>tb σ H1 fun y b=>r x y b fun z a=>∃ k,z=.bl k/\
 (if k=true then tc σ a fun c d=>r' y c d Q else Q (.bl false) a)
variable {tc:TE}{op':CmpOp}{r':R2}
theorem DY (ho:eC X (compareOp op) r)(ho':eC X (compareOp op') r')(ha:PE X a ta)(hb:PE X b tb)(hc:PE X c tc)
  (hm:lastMarks [op,op'] [b,c]=false:=by with_unfolding_all rfl):PE X (.Compare a [op,op'] [b,c] pos) (nq r r' ta tb tc):=by
 intro f s σ H Q I h;refine Compare_chain (bV (ha f s σ H _ I h) fun v A ⟨x,H1,o,B,E⟩=>chain_link (bV (hb f A σ H1 _ o E) fun u K ⟨y,G,m,j,C⟩=>
  bV (ho f K σ G x y v u _ m B j C) fun d w ⟨z,g,i,p,k,e,l⟩=>?_)) hm
 subst e
 cases p
 refine F4 ?_
 cases k with
 | false=>exact ite_ff ⟨.bl false,g,i,rfl,l⟩
 | true=>exact ite_tt (chain_last (bV (hc f w σ g _ i l) fun L n ⟨J,q,D,t,F⟩=>ho' f n σ q y J u L Q D j t F))
theorem DZ (ho:eC X (compareOp op) r)(ho':eC X (compareOp op') r')(ha:PE X a ta)(hb:PE X b tb)(hc:PE X c tc)
  (hm:lastMarks [op,op'] [b,c]=false:=by with_unfolding_all rfl):PT X (.Compare a [op,op'] [b,c] pos) (uW (nq r r' ta tb tc)):=by
 intro f s σ H Q I h;refine isTrue_chain (bV (ha f s σ H _ I h) fun v E ⟨x,H1,w,F,M⟩=>test_link (bV (hb f E σ H1 _ w M) fun u R ⟨y,O,p,j,K⟩=>
  bV (ho f R σ O x y v u _ p F j K) fun d D ⟨z,g,i,A,k,e,l⟩=>?_)) hm
 subst e
 cases A
 refine F4 ?_
 cases k with
 | false=>
  obtain⟨Z,n,G⟩:=l
  cases n
  exact ite_ff ⟨g,i,G⟩
 | true=>
  refine ite_tt (test_last (bV (hc f D σ g _ i l) fun S t ⟨P,B,L,C,N⟩=>bV (ho' f t σ B y P u S _ L j C N) fun Y T ⟨W,m,J,q,U,e2,o⟩=>?_));subst e2
  cases q
  exact F4 ⟨m,J,o⟩
theorem kT:(sizeLine:Nat)<2 ^ 63:=by rw[sizeLine_eq];decide
theorem aT:eC X (binaryOp .Add) (fun x y H Q=>∃ i j,x=.str i/\y=.str j/\i.length+j.length<=sizeLine/\Q (.str (i++j)) H):=by
 intro a s σ H x y v u Q I d c h;obtain⟨i,j,rfl,rfl,hz,q⟩:=h;obtain⟨t,rfl⟩:=d;obtain⟨b,rfl⟩:=c;exact add_str (fun b e=>⟨.str (i++j),H,I.tok _,⟨_,rfl⟩,q⟩) hz
variable {x:V}{us:List Value}
theorem vals1 (r:Vals [x] us):∃ u,us=[u]/\RelV x u:=by
 cases r with
 | cons b a=>cases a;exact⟨_,rfl,b⟩
variable {y:V}
theorem vals2 (r:Vals [x,y] us):∃ u w',us=[u,w']/\RelV x u/\RelV y w':=by
 cases r with
 | cons c b=>
  cases b with
  | cons d a=>cases a;exact⟨_,_,rfl,c,d⟩
theorem BL (hc:X.calm=true):bX X (.builtin "max") (fun xs H Q=>∃ i j,xs=[.int i,.int j]/\Q (.int (if j>i then j else i)) H):=by
 intro a s σ H xs d Q I r h;obtain⟨i,j,rfl,q⟩:=h;obtain⟨u,f,rfl,⟨t,rfl⟩,⟨b,rfl⟩⟩:=vals2 r;refine max_two_ints (I.ok.hd hc) fun c e k=>⟨_,H,I.kept k,?_,q⟩
 by_cases hj:j>i
 ·rw[if_pos hj,if_pos hj];exact⟨_,rfl⟩
 ·rw[if_neg hj,if_neg hj];exact⟨_,rfl⟩
theorem BM (hc:X.calm=true):bX X (.builtin "min") (fun xs H Q=>∃ i j,xs=[.int i,.int j]/\Q (.int (if j<i then j else i)) H):=by
 intro a s σ H xs d Q I r h;obtain⟨i,j,rfl,q⟩:=h;obtain⟨u,f,rfl,⟨t,rfl⟩,⟨b,rfl⟩⟩:=vals2 r;refine min_two_ints (I.ok.hd hc) fun c e k=>⟨_,H,I.kept k,?_,q⟩
 by_cases hj:j<i
 ·rw[if_pos hj,if_pos hj];exact⟨_,rfl⟩
 ·rw[if_neg hj,if_neg hj];exact⟨_,rfl⟩
theorem kU:bX X (.type "int") (fun xs H Q=>(∃ i,xs=[.int i]/\Q (.int i) H)∨∃ k,xs=[.bl k]/\Q (.int (if k then 1 else 0)) H):=by
 intro a s σ H xs c Q I r h
 rcases h with ⟨i,rfl,q⟩ | ⟨k,rfl,q⟩
 ·obtain⟨u,rfl,t,rfl⟩:=vals1 r;exact call_int_int ⟨.int i,H,I,⟨_,rfl⟩,q⟩
 ·obtain⟨u,rfl,b⟩:=vals1 r
  cases b
  exact call_int_bool ⟨.int (if k then 1 else 0),H,I.tok _,⟨_,rfl⟩,q⟩
theorem cL:bX X (.type "str") (fun xs H Q=>∃ i,xs=[.int i]/\i.natAbs.log2<1920/\Q (.str (toString i)) H):=by
 intro a s σ H xs b Q I r h;obtain⟨i,rfl,hz,q⟩:=h;obtain⟨u,rfl,t,rfl⟩:=vals1 r;exact PySem.P.str_of_int hz ⟨.str _,H,I.tok _,⟨_,rfl⟩,q⟩
structure xM (h:Heap)(x dx C:Addr)(mA:Str->Option Value):Prop where
 obj:h.get? x=some (instObj C dx)
 ns:h.Ns1 dx mA
 ne:dx≠x
variable {dx:Addr}{mA:Str->Option Value}
theorem BN {h:Heap}(n:h.Ns1 dx mA):∃ od,h.get? dx=some od/\∀ name,lookIn name od=some (mA name):=by
 obtain⟨o,c,i,g,d,hk,_,hm⟩:=n;refine⟨o,g,fun name=>?_⟩;have e:=hm name;unfold nsFind findBy at e;rw[<-Array.find?_toList] at e;unfold lookIn;rw[d]
 dsimp only
 split
 ·rename_i y q
  rw[q] at e;exact OD some e
 ·rename_i q
  rw[q] at e;have a:c.toList.any (·.refKey)=false:=by
   rw[List.any_eq_false];intro y hy;obtain⟨z,t,b⟩:=hk y (Array.mem_toList_iff.mp hy)
   simp[DictEntry.refKey,b]
  have f:¬ c.toList.any (·.refKey)=true:=by rw[a];exact hI
  rw[if_neg f];exact OD some e
variable {x C:Addr}
theorem xM.look {h:Heap}(I:xM h x dx C mA):∃ od,PySem.W.InstAt h x (instObj C dx) C (some od)/\∀ name,lookIn name od=some (mA name):=
 let ⟨od,ho,hl⟩:=BN I.ns
 ⟨od,⟨I.obj,rfl,rfl,ho⟩,hl⟩
variable {prog:Program}{w:World}{name:Str}{v:Value}
theorem get_map {expr:Bool}(X:K.In s.heap)(I:xM s.heap x dx C mA)(hg:plainGet K C name=true)(hh:hasDictIn K C=true)
  (ha:findIn K (.ref C) name=some none) (hv:mA name=some v) (hv':handedIn v=true) (h:Q v {s with toks:=s.toks+1}) :
  wpAny (model prog w) A (getAttr (.ref x) name expr) Q E s:=by
 obtain⟨b,J,a⟩:=I.look;exact PySem.W.get_value X J (plainGet_of hg).1 (PySem.W.findObj_own hh ha rfl (by rw[a,hv])) hv' h
variable {f:Addr}{pl:Sem Bool}
theorem D0 {Q:Value × List Value->Shared->Prop}(X:K.In s.heap)(I:xM s.heap x dx C mA)(hg:plainGet K C name=true)
  (hf:findIn K (.ref C) name=some (some (.ref f))) (ht:isFn K (.ref f)=true) (hv:mA name=none) (h:Q (.ref f,[.ref x]) s) :
  wpAny (model prog w) A (getMethod (.ref x) name pl) Q E s:=by
 obtain⟨b,J,a⟩:=I.look;exact PySem.W.method_fn X J (plainGet_of hg).1 (plainGet_of hg).2 hf (beq_iff_eq.mp ht) (by show (lookIn name b).map (·.isSome)=some false;rw[a,hv];rfl) h
theorem IC {ns:List Str}{Q:Unit->Shared->Prop}(X:K.In s.heap)(I:xM s.heap x dx C mA)
  (hs:findIn K (.ref C) "__setattr__"=some (some (.builtin "object.__setattr__"))) (hp:plainOver K C=true) (ht:takerIn K C name=some none) (hh:hasDictIn K C=true)
  (hw:PySem.Within mA ns) (hsz:ns.length<=sizeLine)
  (h:∀ h',xM h' x dx C (fun y=>if y=name then some v else mA y)->SameBut dx s.heap h'->Q () {s with heap:=h',toks:=s.toks+2}) :
  wpAny (model prog w) A (setAttr (.ref x) name v) Q E s:=by
 obtain⟨p,J,o⟩:=I.look;refine PySem.W.set_plain X J hs (PySem.W.osa_open (s:={s with toks:=s.toks+1}) (r:=none) X J hp ht fun b=>?_);obtain⟨n,hc,f⟩:=PySem.W.any_some hh;have hx:s.heap.get? x=some ⟨.ref C,some dx,.plain,#[]⟩:=I.obj;refine cv (gd (cv (cv (wpAny_loadPart hx (cv (PySem.W.Looks.here (s:={s with toks:=s.toks+1}) (PySem.W.looks_clsIn X hc) ?_))))));rw[f];refine gd (a:=some dx) (cv (gd (cv ?_)));refine wpAny_nsSet1 (s:={s with toks:=s.toks+1}) I.ns fun h' c d=>?_;obtain⟨m,j,l,g,e,i⟩:=c.count (PySem.Within.cons name v hw);refine cv (wpAny_lookBehind g (by rw[e];exact pastItsLine_dict (h9 i (by rw[qs];omega))) ?_)
 exact gd (h _ ⟨(d.2 _ (Ne.symm I.ne)).trans I.obj,c,I.ne⟩ d)
variable {R:Result->Shared->Prop}{kw:List (Str × Value)}
theorem D3 {vs:List Value}(X:K.In s.heap)(hm:makesIn K C=true)
  (hi:findIn K (.ref C) "__init__"=some (some (.ref f))) (hf:typeIn K (.ref f)=some (.type "function"))
  (h:codeAny (model prog w) (A.under (.builtin "type.__call__" ⟨.ref C::vs,kw⟩)) (.call (.ref f) ⟨.ref (s.heap.objs.size+1)::vs,kw⟩) (PySem.W.InitBack (s.heap.objs.size+1) R)
   {s with heap:=(s.heap.push emptyDict).push (instObj C s.heap.objs.size)}) :
  codeAny (model prog w) A (.call (.ref C) ⟨vs,kw⟩) R s:=by
 obtain⟨hh,g,d,t,b⟩:=s;exact PySem.W.make_core (PySem.W.makes_of X hm) (PySem.W.looks_findIn X hi) (fun a=>PySem.W.bind_fn X a hf) (.inl rfl) h
def dA (f:Str)(v:V):List (Str × V)->List (Str × V)
 | []=>[(f,v)]
 | (g,x)::r=>if g=f then (g,v)::r else (g,x)::dA f v r
theorem lS (f g:Str)(v:V):∀ fs:List (Str × V),(dA f v fs).lookup g=if g=f then some v else fs.lookup g
 | []=>by
  show List.lookup g [(f,v)]=_
  by_cases h:g=f
  ·have hb:(g == f)=true:=beq_iff_eq.mpr h;simp only[List.lookup,hb,if_pos h]
  ·have hb:(g == f)=false:=Dq.mpr h;simp only[List.lookup,hb,if_neg h]
 | (k,x)::r=>by
  have a:=lS f g v r;rw[show dA f v ((k,x)::r)=(if k=f then (k,v)::r else (k,x)::dA f v r) from rfl]
  by_cases hk:k=f
  ·rw[if_pos hk]
   by_cases h:g=k
   ·have hb:(g == k)=true:=beq_iff_eq.mpr h;simp only[List.lookup,hb,if_pos (h.trans hk)]
   ·have hb:(g == k)=false:=Dq.mpr h;simp only[List.lookup,hb,if_neg (fun e:g=f=>h (e.trans hk.symm))]
  ·rw[if_neg hk]
   by_cases h:g=k
   ·have hb:(g == k)=true:=beq_iff_eq.mpr h;simp only[List.lookup,hb,if_neg (fun e:g=f=>hk (h.symm.trans e))]
   ·have hb:(g == k)=false:=Dq.mpr h;simp only[List.lookup,hb];exact a
theorem kW (f:Str)(v:V):∀ fs:List (Str × V),f∈(dA f v fs).map (·.1)/\∀ g,g∈fs.map (·.1)->g∈(dA f v fs).map (·.1)
 | []=>⟨by simp[dA],fun g h=>by simp at h⟩
 | (k,x)::r=>by
  obtain⟨b,a⟩:=kW f v r;rw[show dA f v ((k,x)::r)=(if k=f then (k,v)::r else (k,x)::dA f v r) from rfl]
  by_cases hk:k=f
  ·rw[if_pos hk];subst hk;exact⟨by simp,fun g h=>by simpa using h⟩
  ·rw[if_neg hk];refine⟨?_,fun g h=>?_⟩
   ·rw[oD];exact eH _ b
   ·rw[oD] at h ⊢
    rcases hU.mp h with e | e
    ·exact hU.mpr (.inl e)
    ·exact eH _ (a g e)
theorem lT (f:Str)(v:V):∀ fs:List (Str × V),(dA f v fs).length<=fs.length+1
 | []=>by simp[dA]
 | (k,x)::r=>by
  have a:=lT f v r;rw[show dA f v ((k,x)::r)=(if k=f then (k,v)::r else (k,x)::dA f v r) from rfl]
  by_cases hk:k=f
  ·rw[if_pos hk,qs,qs];omega
  ·rw[if_neg hk,qs,qs];omega
variable {o:Option Value}{v:V}
theorem ir.some_of (r:ir (some v) o):∃ u,o=some u/\RelV v u:=by
 cases o with
 | none=>exact(show False from r).elim
 | some u=>exact⟨u,rfl,r⟩
theorem ir.none_of (r:ir none o):o=none:=by
 cases o with
 | none=>rfl
 | some u=>exact(show False from r).elim
variable {u:Value}
theorem BO (r:RelV v u):handedIn u=true:=by
 cases v with
 | bE=>cases (show u=Value.none from r);rfl
 | bl b=>cases (show u=Value.bool b from r);rfl
 | int i=>obtain⟨t,e⟩:=(show ∃ t,u=Value.int i t from r);cases e;rfl
 | str x=>obtain⟨t,e⟩:=(show ∃ t,u=Value.str x t from r);cases e;rfl
 | DG b=>obtain⟨t,e⟩:=(show ∃ t,u=Value.bytes b t from r);cases e;rfl
 | RV b=>obtain⟨t,e⟩:=(show ∃ t,u=Value.float b t from r);cases e;rfl
 | ref a=>cases (show u=Value.ref a from r);rfl
 | ty n=>cases (show u=Value.type n from r);rfl
variable {P:Program}{h:Heap}{a:Addr}{fs:List (Str × V)}
theorem rS (br:jz P w H h)(e:H a=some (.ins C dx fs)):∃ mA,xM h a dx C mA/\(∀ f,ir (fs.lookup f) (mA f))/\PySem.Within mA (fs.map (·.1))/\fs.length<=1000/\H dx=some (.own a):=by
 obtain⟨d,z,ne,ob,mA,n,r,q⟩:=(show bS P w H h a (.ins C dx fs) from br a _ e)
 exact⟨mA,⟨ob,n,ne⟩,r,q,z,d⟩
structure KW (K:Frag)(C:Addr):Prop where
 pg:plainGet K C Str.empty=true
 hd:hasDictIn K C=true
 po:plainOver K C=true
 sa:findIn K (.ref C) "__setattr__"=some (some (.builtin "object.__setattr__"))
theorem KW.get (c:KW K C)(f:Str):plainGet K C f=true:=c.pg
def nu (K:Frag)(C:Addr)(f:Str):Prop:=findIn K (.ref C) f=some none
variable {f:Str}
theorem nu.O4 (n:nu K C f):takerIn K C f=some none:=by
 unfold takerIn;rw[show findIn K (.ref C) f=some none from n]
 rfl
structure Meth (K:Frag)(C:Addr)(m:Str)(f:Addr):Prop where
 at_:findIn K (.ref C) m=some (some (.ref f))
 fn:isFn K (.ref f)=true
 kp:keepIn K (.ref f)=true
theorem xN {b:Bool}(I:Inv X pins σ H s)(e:H a=some (.ins C dx fs))(c:KW X.K C)(n:nu X.K C f)(l:fs.lookup f=some v)
  (h:∀ u s',Inv X pins σ H s'->RelV v u->Q u s'):wpAny (model X.prog X.w) A (getAttr (.ref a) f b) Q E s:=by
 obtain⟨g,O,r,_,_,_⟩:=rS I.br e;obtain⟨u,hu,d⟩:=ir.some_of (v:=v) (o:=g f) (by rw[<-l];exact r f)
 exact get_map I.uP O (c.get f) c.hd n hu (BO d) (h u _ (I.tok _) d)
variable {m:Str}
theorem nv {g:Addr}{Q:Value × List Value->Shared->Prop}(I:Inv X pins σ H s)(e:H a=some (.ins C dx fs))(c:KW X.K C)(k:Meth X.K C m g)(l:fs.lookup m=none)
  (h:Q (.ref g,[.ref a]) s):wpAny (model X.prog X.w) A (getMethod (.ref a) m pl) Q E s:=by
 obtain⟨b,O,r,_,_,_⟩:=rS I.br e;have hn:b m=none:=ir.none_of (by rw[<-l];exact r m)
 exact D0 I.uP O (c.get m) k.at_ k.fn hn h
theorem xO {Q:Unit->Shared->Prop}(I:Inv X pins σ H s)(e:H a=some (.ins C dx fs))(c:KW X.K C)(n:nu X.K C f)(hl:fs.length<1000)(ry:RelV y u)
  (h:∀ s',Inv X pins σ (upd H a (.ins C dx (dA f y fs))) s'->Q () s'):wpAny (model X.prog X.w) A (setAttr (.ref a) f u) Q E s:=by
 obtain⟨j,O,r,m,_,i⟩:=rS I.br e;have hz:(fs.map (·.1)).length<=sizeLine:=by rw[cc,sizeLine_eq];omega
 refine IC I.uP O c.sa c.po n.O4 c.hd m hz fun p d v=>h _ ?_;have l:∃ o,p.get? dx=some o:=let ⟨o,_,_,e',_⟩:=d.ns;⟨o,e'⟩;refine I.write (x:=a) (e:=dx) (by rw[e];exact True.intro) (.inr i) (fun b q hb z=>(v.2 b hb).trans z) l ?_
 refine⟨by rw[aG O.ne];exact i,?_,O.ne,d.obj,_,d.ns,fun g=>?_,fun g t=>?_⟩
 ·have:=lT f y fs;omega
 ·show ir ((dA f y fs).lookup g) (if g=f then some u else j g)
  rw[lS]
  by_cases q:g=f
  ·rw[if_pos q,if_pos q];exact ry
  ·rw[if_neg q,if_neg q];exact r g
 ·by_cases q:g=f
  ·rw[q];exact(kW f y fs).1
  ·refine(kW f y fs).2 g (m g fun z=>t ?_);show (if g=f then some u else j g)=none
   rw[if_neg q];exact z
theorem Inv.made (I:Inv X pins σ H s):Inv X pins σ (upd (upd H s.heap.objs.size (.own (s.heap.objs.size+1))) (s.heap.objs.size+1) (.ins C s.heap.objs.size []))
  {s with heap:=(s.heap.push emptyDict).push (instObj C s.heap.objs.size)}:=by
 have c:(s.heap.push emptyDict).get? s.heap.objs.size=some emptyDict:=j9 s.heap rfl;have e2:((s.heap.push emptyDict).push (instObj C s.heap.objs.size)).get? (s.heap.objs.size+1)=some (instObj C s.heap.objs.size):=by
  have:=j9 (s.heap.push emptyDict) (o:=instObj C s.heap.objs.size) rfl
  rwa [Gc] at this
 have f:(s.heap.push emptyDict).Ns s.heap.objs.size (fun _=>none):=⟨emptyDict,#[],_,c,rfl,(fun e he=>absurd he (by simp)),fun _=>rfl⟩
 have d:=I.laid (a:=s.heap.objs.size) (o:=.own (s.heap.objs.size+1)) (h':=s.heap.push emptyDict) (t':=s.toks) (fun b u q=>ey _ q) (dy _) ⟨_,c⟩;refine d.laid (a:=s.heap.objs.size+1) (o:=.ins C s.heap.objs.size []) (t':=s.toks) (fun b u q=>ey _ q) (Nat.le_of_eq (Gc _ _)) ?_;have ne:s.heap.objs.size≠s.heap.objs.size+1:=nt (T3 _);refine⟨by rw[aG ne,ag],zero_le _,ne,e2,fun _=>none,(Heap.Ns1.of_empty f).at fun o q=>ey _ q,fun _=>True.intro,fun y hy=>absurd rfl hy⟩
variable {env:Env}
theorem ID {pos:Pos}(hb:attributeBase e f env (eval e env)=eval e env)
  (h:wpAny (model prog w) A (eval e env) (fun o s₁=>wpAny (model prog w) A (getAttr o f true) Q E s₁) E s):wpAny (model prog w) A (eval (.Attribute e f pos) env) Q E s:=
 Attribute_any_ h (by rw[arm_eval_Attribute,hb])
structure cM (k:Nat)(A:Around):Prop where
 hd:A.handled=none
 dp:A.depth+3*k+5<recursionLimit
 un:A.units+16*k+200<cLine
variable {j:Nat}
theorem cM.mono {k:Nat}(r:cM k A)(h:j<=k):cM j A:=⟨r.hd,by have:=r.dp;omega,by have:=r.un;omega⟩
theorem cM.deeper {k:Nat}{A:Around}(r:cM (k+1) A)(env:Env):cM k (A.deeper env):=
 ⟨r.hd,by have:=r.dp;show A.depth+1+3*k+5<_;omega,by have:=r.un;show A.units+3+16*k+200<_;omega⟩
theorem xP:(A.under (.builtin "type.__call__" ⟨.ref C::us,kw⟩)).depth=A.depth+1:=by
 first | rfl | simp[Around.under,Code.weight,Code.isCreation,Code.isGuard,Code.isCaller,Code.frames,Code.isFrame,guardIds]
theorem xQ:(A.under (.builtin "type.__call__" ⟨.ref C::us,kw⟩)).units=A.units+1:=by
 first | rfl | simp[Around.under,Code.cUnits,Code.frames,Code.isFrame]
theorem cM.make {k:Nat}(r:cM (k+1) A)(C:Addr)(us:List Value)(kw:List (Str × Value)):cM k (A.under (.builtin "type.__call__" ⟨.ref C::us,kw⟩)):=
 ⟨r.hd,by have:=r.dp;rw[xP];omega,by have:=r.un;rw[xQ];omega⟩
theorem cM.depth {k:Nat}{A:Around}(r:cM k A):A.depth<recursionLimit:=by have:=r.dp;omega
theorem cM.units {k:Nat}{A:Around}(r:cM k A):A.units+64<cLine:=by have:=r.un;omega
def xR:TA:=fun _ H Q=>Q [] H
def Aj (ta:TE)(tr:TA):TA:=fun σ H Q=>ta σ H fun x H1=>tr σ H1 fun b a=>Q (x::b) a
theorem MN:PA X [] xR:=fun _ _ _ _ H Q I h=>Calls.spliced_nil ⟨[],H,I,.nil,h⟩
variable {t:TA}
theorem IE (ha:PE X e te)(hr:PA X es t)(hs:starEach (e::es) X.env=(false,eval e X.env)::starEach es X.env:=by rfl):PA X (e::es) (Aj te t):=by
 intro pos a s σ H Q I h;rw[hs];show wpAny _ _ (spliced ((false,eval e X.env)::backTo pos (starEach es X.env))) _ _ s;refine Calls.spliced_cons (bV (ha a s σ H _ I h) fun u l ⟨x,H1,j,m,f⟩=>?_);exact bV (hr pos a l σ H1 _ j f) fun n o ⟨d,i,g,b,c⟩=>⟨x::d,i,g,.cons m b,c⟩
def IF (t:TA):TE:=fun σ H Q=>t σ H fun a H1=>a.length<=sizeLine/\∀ p,H1 p=none->Q (.ref p) (upd H1 p (.tup a))
def IG (t:TA):TE:=fun σ H Q=>t σ H fun a H1=>a.length<=sizeLine/\∀ p,H1 p=none->Q (.ref p) (upd H1 p (.lst a))
theorem MO {x1}(h:PA X es t):PE X (.Tuple es x1 pos) (IF t):=by
 intro a s σ H Q I hq;refine wpAny_Tuple_spliced (bV (h pos a s σ H _ I hq) fun f c ⟨g,H1,d,r,z,q⟩=>⟨by rw[<-r.length];exact z,?_⟩)
 have i:H1 c.heap.objs.size=none:=d.br.fresh (dy _);refine⟨.ref c.heap.objs.size,upd H1 c.heap.objs.size (.tup g),d.laid (t':=c.toks) (fun b u e=>ey _ e) (dy _) ?_,rfl,q _ i⟩;exact⟨z,f,r,⟨_,j9 _ rfl,rfl,_,rfl⟩⟩
theorem MP (h:PA X es t):PE X (.List es pos) (IG t):=by
 intro a s σ H Q I hq;refine wpAny_List_spliced (bV (h pos a s σ H _ I hq) fun f c ⟨g,H1,d,r,z,q⟩=>⟨by rw[<-r.length];exact z,?_⟩)
 have i:H1 c.heap.objs.size=none:=d.br.fresh (dy _);refine⟨.ref c.heap.objs.size,upd H1 c.heap.objs.size (.lst g),d.laid (t':=c.toks) (fun b u e=>ey _ e) (dy _) ?_,rfl,q _ i⟩;exact⟨z,f,0,r,j9 _ rfl⟩
abbrev Sp:=List V->Hp->VK->XK->Prop
abbrev Dz:=List Env->Hp->Shared->XK->Value->Shared->Prop
structure xS (P:Program)(w:World)(K:Frag)(mg:Str->Option Value)(base:Heap)(A:Around)(outer:List Env)(s:Shared)(H:Hp):Prop where
 frames:A.frames=some outer
 mod:Mod K mg base
 bs:∀ b o,base.get? b=some o->s.heap.get? b=some o/\H b=none
 KL:base.objs.size<=s.heap.objs.size
 mr:s.heap.FunFrames base outer
 OB:∀ b∈Dx outer,H b=none
 br:jz P w H s.heap
 bare:AllBare s.gens
def CE (outer:List Env)(P:Program)(w:World)(H:Hp)(s:Shared)(Q:VK)(u:Value)(s':Shared):Prop:=
 ∃ v H',s'.os=s.os/\AllBare s'.gens/\Un (Dx outer) [] H H' s.heap s'.heap/\jz P w H' s'.heap/\RelV v u/\Q v H'
def CR (CX:Dz)(outer:List Env)(P:Program)(w:World)(H:Hp)(s:Shared)(Q:VK)(E:XK)(r:Result)(s':Shared):Prop:=
 match r with
 | .ok (.ret u)=>CE outer P w H s Q u s'
 | .ok _=>False
 | .error e=>CX outer H s E e s'
structure fj (P:Program)(w:World)(K:Frag)(mg:Str->Option Value)(base:Heap)(CX:Dz)(k:Nat)(f:Addr)(fd:FuncData)(ps:List Str)(sp:Sp):Prop where
 len:∀ vs H Q E,sp vs H Q E->vs.length=ps.length
 run:∀ (A:Around) (outer:List Env) (s:Shared) (H:Hp) (args:Args) (us:List Value) (vs:List V) (Q:VK) (E:XK),cM k A->xS P w K mg base A outer s H->BindsTo s fd args (ps.zip us)->Vals vs us->sp vs H Q E->
  codeAny (model P w) A (.call (.ref f) args) (CR CX outer P w H s Q E) s
variable {mg:Str->Option Value}{base:Heap}{outer:List Env}
theorem xS.make (e:xS P w K mg base A outer s H)(C:Addr)(us:List Value)(kw:List (Str × Value)) :
  xS P w K mg base (A.under (.builtin "type.__call__" ⟨.ref C::us,kw⟩)) outer s H:=⟨by first | exact e.frames | (simpa [Around.under,Code.envs,Code.isFrame,pushEnvs] using e.frames),e.mod,e.bs,e.KL,e.mr,e.OB,e.br,e.bare⟩
theorem Inv.O5 (I:Inv X pins σ H s):xS X.prog X.w X.K X.mg X.base X.A X.stack s H:=
 ⟨I.ok.frames,I.ok.mod,I.bs,h9 I.ok.KL I.sz,I.stack,I.zX,I.br,I.bare⟩
variable {Q:VK}
theorem Inv.after (I:Inv X pins σ H s)(h:CE X.stack X.prog X.w H s Q u s'):EP X pins σ Q u s':=by
 obtain⟨v,i,e,a,un,f,r,q⟩:=h;obtain⟨hh,g,d,t,c⟩:=s';obtain rfl:c=s.os:=e;exact⟨v,i,I.call (h':=hh) (g':=g) (d':=d) (t':=t) (ch:=[]) un f a (fun b z=>absurd z (by simp)),r,q⟩
def qm (sp:Sp)(ng:List V)(E:XK)(t:TA):TE:=fun σ H Q=>t σ H fun a H1=>sp (a++ng) H1 Q E
def qo (C:Addr)(m:Str)(sp:Sp)(ng:List V)(E:XK)(ta:TE)(t:TA):TE:=fun σ H Q=>ta σ H fun x H1=>∃ a dx fs,x=.ref a/\H1 a=some (.ins C dx fs)/\fs.lookup m=none/\
 t σ H1 fun c b=>sp (x::(c++ng)) b Q E
def qp (C:Addr)(sp:Sp)(ng:List V)(E:XK)(t:TA):TE:=fun σ H Q=>t σ H fun b H1=>∀ x dx,H1 x=none->H1 dx=none->dx≠x->
 sp (.ref x::(b++ng)) (upd (upd H1 dx (.own x)) x (.ins C dx [])) (fun v a=>v=.bE/\Q (.ref x) a) E
def Binds (K:Frag)(fd:FuncData)(ps:List Str)(ds:List Value):Prop:=
 ∀ (s:Shared) (us:List Value),K.In s.heap->(us++ds).length=ps.length->BindsTo s fd ⟨us,[]⟩ (ps.zip (us++ds))
variable {fd:FuncData}{ps:List Str}
theorem Binds.all (h:∀ us:List Value,us.length=ps.length->bindArgs fd ⟨us,[]⟩=pure (ps.zip us)):Binds K fd ps []:=fun s us _ a=>by
 rw[TB] at a ⊢;exact .of_eq (h us a)
def Passes (CX:Dz)(X:Cx)(E:XK):Prop:=∀ (pins:List (Addr × Obj)) (σ:St) (H:Hp) (s:Shared) (e:Value) (s':Shared),Inv X pins σ H s->CX X.stack H s E e s'->X.xe e s'
variable {CX:Dz}{k:Nat}{f:Addr}{sp:Sp}{ng vs:List V}{ds:List Value}{E:XK}
theorem xT {σ:St}(F:fj X.prog X.w X.K X.mg X.base CX k f fd ps sp)(hr:cM k X.A)(hb:Binds X.K fd ps ds)(hd:Vals ng ds)(hx:Passes CX X E)
  (I:Inv X pins σ H s) (r:Vals vs us) (h:sp (vs++ng) H Q E):wpAny (model X.prog X.w) X.A (call (.ref f) us) (EP X pins σ Q) X.xe s:=by
 have a:Vals (vs++ng) (us++ds):=r.append hd;have d:(us++ds).length=ps.length:=by rw[<-a.length];exact F.len _ _ _ _ h
 refine wpAny_call (TV (F.run X.A X.stack s H ⟨us,[]⟩ (us++ds) (vs++ng) Q E hr I.O5 (hb s us I.uP d) a h) fun r b hq=>?_)
 cases r with
 | error e=>exact hx pins σ H s e b I hq
 | ok c=>
  cases c with
  | ret u=>exact I.after hq
  | next=>exact False.elim hq
  | brk=>exact False.elim hq
  | cont=>exact False.elim hq
variable {x:Str}
theorem Ak (F:fj X.prog X.w X.K X.mg X.base CX k f fd ps sp)(hr:cM k X.A)(hg:Gl X x)(hm:X.mg x=some (.ref f))(hk:keepIn X.K (.ref f)=true)(hb:Binds X.K fd ps ds)(hd:Vals ng ds)(hx:Passes CX X E)
  (ha:PA X (e::es) t) (hdb:(x == ("__debug__":Str))=false:=by decide) (he:starEach (e::es) X.env=(false,eval e X.env)::starEach es X.env:=by rfl) (hpl:(backTo pos (starEach es X.env)).any (·.1)=false:=by rfl) :
  PE X (.Call (.Name x p) (e::es) [] pos) (qm sp ng E t):=by
 intro a s σ H Q I h;refine wpAny_Call_Name_kw (rL I hg hm ?_ hdb);refine callWith_K (h₀:=X.base) I.ok.mod.OU hk (bV (ha pos a s σ H _ I h) fun d g ⟨c,H1,b,r,q⟩=>⟨b.uP,?_⟩) he hpl;exact xT F hr hb hd hx b r q
variable {apos:Pos}{o:Expr}
theorem IH (he:PE X o ta)(c:KW X.K C)(hm:Meth X.K C m f)(F:fj X.prog X.w X.K X.mg X.base CX k f fd ps sp)(hr:cM k X.A)(hb:Binds X.K fd ps ds)(hd:Vals ng ds)(hx:Passes CX X E)(ha:PA X (e::es) t)
  (hst:starEach (e::es) X.env=(false,eval e X.env)::starEach es X.env:=by rfl) (hpl:(backTo pos (starEach es X.env)).any (·.1)=false:=by rfl)
  (ht:eval (.Call (.Attribute o m apos) (e::es) [] pos) X.env=(do
   let ov<-eval o X.env
   standAt apos.atName
   let (f,first)<-holding [ov] (getMethod ov m pl)
   callWith pos f first (backTo pos (starEach (e::es) X.env)) (backToKw pos (keywordEach [] X.env))):=by rfl) :
  PE X (.Call (.Attribute o m apos) (e::es) [] pos) (qo C m sp ng E ta t):=by
 intro b s σ H Q I h;refine methodCall_KW (pl:=pl) (bV (he b s σ H _ I h) fun u v ⟨x,H1,g,j,a,y,fs,i,p,l,q⟩=>?_) ht;subst i;obtain rfl:u=Value.ref a:=j;refine nv g p c hm l ?_;refine callWith_K (first:=[.ref a]) (h₀:=X.base) I.ok.mod.OU hm.kp (bV (ha pos b v σ H1 _ g q) fun us B ⟨vs,z,d,r,n⟩=>⟨d.uP,?_⟩) hst hpl
 exact xT (us:=.ref a::us) (vs:=.ref a::vs) F hr hb hd hx d (.cons rfl r) n
theorem D4 (he:PE X o ta)(c:KW X.K C)(hm:Meth X.K C m f)(F:fj X.prog X.w X.K X.mg X.base CX k f fd ps sp)(hr:cM k X.A)(hb:Binds X.K fd ps ds)(hd:Vals ng ds)(hx:Passes CX X E)
  (ht:eval (.Call (.Attribute o m apos) [] [] pos) X.env=(do
   let ov<-eval o X.env
   standAt apos.atName
   let (f,first)<-holding [ov] (getMethod ov m pl)
   callWith pos f first (backTo pos (starEach [] X.env)) (backToKw pos (keywordEach [] X.env))):=by rfl) :
  PE X (.Call (.Attribute o m apos) [] [] pos) (qo C m sp ng E ta xR):=by
 intro b s σ H Q I h;refine methodCall_KW (pl:=pl) (bV (he b s σ H _ I h) fun u n ⟨x,H1,d,g,a,j,fs,e,i,l,q⟩=>?_) ht;subst e;obtain rfl:u=Value.ref a:=g;refine nv d i c hm l ?_;exact PySem.W.callWith_K0 (first:=[.ref a]) d.uP hm.kp (xT (us:=[.ref a]) (vs:=[.ref a]) F hr hb hd hx d (.cons rfl .nil) q)
structure Mk (K:Frag)(C f:Addr):Prop where
 makes:makesIn K C=true
 init:findIn K (.ref C) "__init__"=some (some (.ref f))
 fn:isFn K (.ref f)=true
 kp:keepIn K (.ref C)=true
theorem D5 {σ:St}(M:Mk X.K C f)(F:fj X.prog X.w X.K X.mg X.base CX k f fd ps sp)(hr:cM (k+1) X.A)(hb:Binds X.K fd ps ds)(hd:Vals ng ds)
  (hx:Passes CX X E) (I:Inv X pins σ H s) (r:Vals vs us)
  (h:∀ x dx,H x=none->H dx=none->dx≠x->sp (.ref x::(vs++ng)) (upd (upd H dx (.own x)) x (.ins C dx [])) (fun v H2=>v=.bE/\Q (.ref x) H2) E) :
  wpAny (model X.prog X.w) X.A (call (.ref C) us) (EP X pins σ Q) X.xe s:=by
 have hq:=h (s.heap.objs.size+1) s.heap.objs.size (I.br.fresh (le_succ _)) (I.br.fresh (dy _)) (nt (T3 _));have b:=Inv.made (C:=C) I;have c:Vals (V.ref (s.heap.objs.size+1)::(vs++ng)) (Value.ref (s.heap.objs.size+1)::(us++ds)):=.cons rfl (r.append hd);have j:(Value.ref (s.heap.objs.size+1)::us++ds).length=ps.length:=by
  have e:=c.length;rw[F.len _ _ _ _ hq] at e;exact e.symm
 refine wpAny_call (D3 (f:=f) I.uP M.makes M.init (beq_iff_eq.mp M.fn) (TV (F.run _ X.stack _ _ ⟨Value.ref (s.heap.objs.size+1)::us,[]⟩ (Value.ref (s.heap.objs.size+1)::(us++ds)) _ _ E (hr.make C us [])
  (b.O5.make C us []) (hb _ (Value.ref (s.heap.objs.size+1)::us) b.uP j) c hq) fun r d a=>?_))
 cases r with
 | error e=>exact hx pins σ _ _ e d b a
 | ok m=>
  cases m with
  | ret u=>
   obtain⟨v,i,o,l,g,n⟩:=b.after a;subst g;exact⟨l,⟨V.ref (s.heap.objs.size+1),i,o,rfl,n⟩⟩
  | next=>exact False.elim a
  | brk=>exact False.elim a
  | cont=>exact False.elim a
theorem Al (M:Mk X.K C f)(F:fj X.prog X.w X.K X.mg X.base CX k f fd ps sp)(hr:cM (k+1) X.A)(hg:Gl X x)(hm:X.mg x=some (.ref C))(hb:Binds X.K fd ps ds)(hd:Vals ng ds)(hx:Passes CX X E)
  (ha:PA X (e::es) t) (hdb:(x == ("__debug__":Str))=false:=by decide) (he:starEach (e::es) X.env=(false,eval e X.env)::starEach es X.env:=by rfl) (hpl:(backTo pos (starEach es X.env)).any (·.1)=false:=by rfl) :
  PE X (.Call (.Name x p) (e::es) [] pos) (qp C sp ng E t):=by
 intro a s σ H Q I h;refine wpAny_Call_Name_kw (rL I hg hm ?_ hdb);refine callWith_K (h₀:=X.base) I.ok.mod.OU M.kp (bV (ha pos a s σ H _ I h) fun d g ⟨c,H1,b,r,q⟩=>⟨b.uP,?_⟩) he hpl;exact D5 M F hr hb hd hx b r q
variable {ks:List Str}
structure MR (K:Frag)(fd:FuncData)(ps ks:List Str)(g:List Value->List Value->List Value)(gV:List V->List V->List V):Prop where
 to:∀ (s:Shared) (us ws:List Value),K.In s.heap->(g us ws).length=ps.length->BindsTo s fd ⟨us,ks.zip ws⟩ (ps.zip (g us ws))
 rel:∀ {vs:List V} {us:List Value} {zs:List V} {ws:List Value},Vals vs us->Vals zs ws->Vals (gV vs zs) (g us ws)
structure j3 (N P:List Str)(sc:Scope):Prop where
 kind:sc.kind=.function
 co:sc.isCoroutine=false
 gen:sc.isGenerator=false
 nd:N.Nodup
 pre:N.take P.length=P
 par:∀ x∈P,sc.names.lookup x=some .local∨sc.names.lookup x=some .cell
 Oy:∀ y∈sc.names,y.2≠.free
theorem qr {kindOf:Str->Option NameKind}{x:Str}:∀ {binds:List (Str × Value)} {m:Str->Option Value},(∀ v,(x,v)∉binds)->bindL kindOf binds m x=m x
 | [],_,_=>rfl
 | (n,v)::r,m,h=>by
  unfold bindL;rw[qr fun w a=>h w (eH _ a)]
  split
  ·have:x≠n:=by rintro rfl;exact h v fA
   simp[this]
  ·rfl
theorem qt {kindOf:Str->Option NameKind}{x:Str}:∀ {binds:List (Str × Value)} {m:Str->Option Value},(∀ v,(x,v)∉binds)->bindC kindOf binds m x=m x
 | [],_,_=>rfl
 | (n,v)::r,m,h=>by
  unfold bindC;rw[qt fun w a=>h w (eH _ a)]
  split
  ·rfl
  ·have:x≠n:=by rintro rfl;exact h v fA
   simp[this]
theorem qu {kindOf:Str->Option NameKind}{x:Str}{v:Value}:∀ {P:List Str} {vs:List Value} {i:Nat} {m:Str->Option Value},P.Nodup->P[i]?=some x->vs[i]?=some v->kindOf x=some .local->
  bindL kindOf (P.zip vs) m x=some v
 | [],_,_,_,_,h,_,_=>by simp at h
 | _::_,[],_,_,_,_,h,_=>by simp at h
 | p::P,w::vs,0,m,nd,h1,a,hk=>by
  simp at h1 a;subst h1;subst a
  show bindL kindOf ((p,w)::P.zip vs) m p=_;unfold bindL;rw[qr fun v b=>(C3.mp nd).1 (List.of_mem_zip b).1,if_pos hk]
  simp
 | p::P,w::vs,i+1,m,nd,h1,a,hk=>by
  show bindL kindOf ((p,w)::P.zip vs) m x=_;unfold bindL;exact qu (i:=i) (C3.mp nd).2 (by simpa using h1) (by simpa using a) hk
theorem qv {kindOf:Str->Option NameKind}{x:Str}{v:Value}:∀ {P:List Str} {vs:List Value} {i:Nat} {m:Str->Option Value},P.Nodup->P[i]?=some x->vs[i]?=some v->kindOf x≠some .local->
  bindC kindOf (P.zip vs) m x=some v
 | [],_,_,_,_,h,_,_=>by simp at h
 | _::_,[],_,_,_,_,h,_=>by simp at h
 | p::P,w::vs,0,m,nd,h1,a,hk=>by
  simp at h1 a;subst h1;subst a
  show bindC kindOf ((p,w)::P.zip vs) m p=_;unfold bindC;rw[qt fun v b=>(C3.mp nd).1 (List.of_mem_zip b).1,if_neg hk]
  simp
 | p::P,w::vs,i+1,m,nd,h1,a,hk=>by
  show bindC kindOf ((p,w)::P.zip vs) m x=_;unfold bindC;exact qv (i:=i) (C3.mp nd).2 (by simpa using h1) (by simpa using a) hk
def start (N:List Str)(vs:List V):St:=vs.map some++List.replicate (N.length - vs.length) none
def uX (CX:Dz)(P:Program)(w:World)(K:Frag)(mg:Str->Option Value)(base:Heap)(N:List Str)(qual:Str)(scope:Scope)(f:Addr)(cd:Value)(A:Around)(outer:List Env)(s:Shared)(H:Hp)(E:XK):Cx where
 prog:=P
 w:=w
 K:=K
 mg:=mg
 base:=base
 A:=A.deeper (envOfC qual scope s.heap.objs.size f cd)
 N:=N
 s₀:=s
 H₀:=H
 env:=envOfC qual scope s.heap.objs.size f cd
 outer:=outer
 stack:=envOfC qual scope s.heap.objs.size f cd::outer
 ex:=[]
 calm:=true
 fn:=fun _=>true
 pn:=[]
 xe:=fun e c=>wpAny (model P w) (A.deeper (envOfC qual scope s.heap.objs.size f cd)) (leaving (envOfC qual scope s.heap.objs.size f cd) e) (fun _ a=>CX outer H s E e a) (fun b a=>CX outer H s E b a) c
variable {sc:Scope}
theorem uY (h:sc.names.lookup x=some .cell):∃ c,(cellsFrom n sc.names []).lookup x=some c:=by
 have q:=cellsFrom_some sc.names n [] (.inl h);exact Option.isSome_iff_exists.mp q
variable {qual:Str}{scope:Scope}
theorem BP {cd:Value}{s1:Shared} 
  (S:j3 N ps scope) (hd:A.handled=none) (e0:xS P w K mg base A outer s H) (hl:vs.length=ps.length) (r:Vals vs us)
  (x:InCallC s s.heap.objs.size (bindL (envOfC qual scope s.heap.objs.size f cd).kindOf (ps.zip us) fun _=>none) (cellsFrom (s.heap.objs.size+1) scope.names []) (bindC (envOfC qual scope s.heap.objs.size f cd).kindOf (ps.zip us) fun _=>none) s1) :
  Inv (uX CX P w K mg base N qual scope f cd A outer s H E) [] (start N vs) H s1:=by
 have o:ps.length<=N.length:=by have:=OD List.length S.pre;rw[wh] at this;omega
 obtain⟨h1,C,rfl,hk⟩:=x.done;have g:∀ b:Addr,b∉(uX CX P w K mg base N qual scope f cd A outer s H E).ex:=fun b z=>absurd (show b∈([]:List Addr) from z) (by simp)
 refine⟨⟨e0.mod,S.kind,rfl,rfl,dy _,fun y z c h1 d=>?_,fun y hy=>?_,fun y c _ h=>?_,fun _=>hd,Around.frames_deeper e0.frames,.inr ⟨rfl,rfl⟩,fun b z=>absurd z (g b),e0.bs,e0.KL,fun b _ _=>g b,fun b z=>absurd z (g b),e0.mr,e0.OB⟩,
  rfl,e0.bare,Un.kept hk,⟨_,x.toInCall.ns,fun i y v h1 d B=>?_⟩,fun y c h=>⟨_,x.cell y c h⟩,e0.br.fresh (dy _),fun y c h=>?_,fun p l=>absurd (show p∈([]:List (Addr × Obj)) from l) (by simp),e0.br.kept hk,?_⟩
 ·exact name_of_addr x.apart (GT h1) (GT d)
 ·have hy:scope.names.lookup y=some .cell∨scope.names.lookup y=some .free:=hy
  rcases hy with hy | hy
  ·exact uY hy
  ·exact absurd rfl (S.Oy _ (GT hy))
 ·exact Nat.le_of_lt (x.above y c (GT h))
 ·have hi:i<vs.length:=by
   unfold start at d
   by_cases hi:i<vs.length
   ·exact hi
   ·rw[w6 (by simpa using hi)] at d
    rw[List.getElem?_replicate] at d
    split at d<;>cases d
  have m:vs[i]?=some v:=by
   unfold start at d;rw[C2 (by simpa using hi),ek] at d
   cases e:vs[i]? with
   | none=>rw[e] at d;cases d
   | some a=>rw[e] at d;cases d;rfl
  obtain⟨u,hu,t⟩:=r.get m;have l:ps[i]?=some y:=by
   rw[<-S.pre,List.getElem?_take_of_lt (by omega)];exact h1
  have j:ps.Nodup:=by rw[<-S.pre];exact S.nd.sublist (take_sublist _ _)
  refine⟨u,t,?_⟩
  rcases S.par y (h5 l) with k | k
  ·exact .inl ⟨k,qu j l hu k⟩
  ·obtain⟨c,e⟩:=uY (n:=s.heap.objs.size+1) k;refine .inr ⟨.inl k,c,e,?_⟩;have q:=x.cell y c e;rw[qv j l hu (by show scope.names.lookup y≠_;rw[k];decide)] at q
   exact q
 ·exact e0.br.fresh (Nat.le_of_lt (x.above y c (GT h)))
 ·unfold start;show _=N.length;rw[eG,cc,length_replicate]
  omega
variable {doc pm cX oc:Value}{an od:Option Addr}{osl:Array (Option Value)}
theorem D6 {k:Nat}{params:Arguments}{dV kV ct:Value} 
  (lk:K.lookup f=some ⟨oc,od,.func (fnOf name qual params body scope dV kV doc pm an cX ct),osl⟩) (hcd:codeIn K cX qual=true) (S:j3 N ps scope)
  (len:∀ vs H Q E,sp vs H Q E->vs.length=ps.length)
  (eO:∀ (A:Around) (outer:List Env) (s:Shared) (H:Hp) (vs:List V) (Q:VK) (E:XK),cM k (A.deeper (envOfC qual scope s.heap.objs.size f cX))->sp vs H Q E->
   ∃ t,xw (uX CX P w K mg base N qual scope f cX A outer s H E) body t/\t {nx:=fun _ H'=>Q .bE H',rt:=Q} (start N vs) H) :
  fj P w K mg base CX (k+1) f (fnOf name qual params body scope dV kV doc pm an cX ct) ps sp:=by
 refine⟨len,fun A outer s H B F vs Q E l d hb r g=>?_⟩;have L:=len _ _ _ _ g;have C:K.In s.heap:=d.mod.OU.keeps fun b o e=>(d.bs b o e).1;have m:s.heap.NoLimit:=d.mod.nolimit.keeps fun b o e=>(d.bs b o e).1;have a:∀ y∈ps.zip F,scope.names.lookup y.1=some .local∨(scope.names.lookup y.1=some .cell/\((cellsFrom (s.heap.objs.size+1) scope.names []).lookup y.1).isSome=true):=fun ⟨n,v⟩ hy=>by
  rcases S.par n (List.of_mem_zip hy).1 with q | q
  ·exact .inl q
  ·exact .inr ⟨q,cellsFrom_some _ _ _ (.inl q)⟩
 refine codeAny_call_function l.depth (C _ _ lk) rfl S.co S.gen rfl (PySem.W.codeRec_of C hcd) (hb _ _ _ _ ?_);refine wpAny_newFunctionEnv_cells S.kind a fun D he z x=>?_;subst he;refine⟨m.keeps x.toInCall.keep,codeAny_func ?_⟩;obtain⟨t,M,hq⟩:=eO A outer s H vs Q E (l.deeper _) g;have I:Inv (uX CX P w K mg base N qual scope f cX A outer s H E) [] (start N vs) H z:=BP S l.hd d L r x;refine E4 (M [] z (start N vs) H _ I hq) (fun G j c=>?_) fun e j c=>c;have h:∀ {i:St} {H':Hp} {v:V} {u:Value},Inv (uX CX P w K mg base N qual scope f cX A outer s H E) [] i H' j->RelV v u->Q v H'->CE outer P w H s Q u j:=
  fun {i H' v u} J p q=>⟨v,H',J.os,J.bare,J.base,J.br,p,q⟩
 cases G with
 | ret u=>
  obtain⟨v,i,H',J,p,q⟩:=c;exact h J p q
 | next=>
  obtain⟨i,H',J,q⟩:=c;exact h (v:=V.bE) (u:=Value.none) J rfl q
 | brk=>
  obtain⟨_,_,_,q⟩:=c;exact False.elim q
 | cont=>
  obtain⟨_,_,_,q⟩:=c;exact False.elim q
def MS (r:List V->Hp->VK->Prop)(t:TA):TE:=fun σ H Q=>t σ H fun a H1=>r a H1 Q
variable {id:String}{r:List V->Hp->VK->Prop}
theorem D7 (hc:bX X (.builtin id) r)(hg:Gl X x)(hm:X.mg x=none)(hv:bootBuiltins x=some (.builtin id))(ha:PA X (e::es) t)(hn:x≠"__name__":=by decide)(hdb:(x == ("__debug__":Str))=false:=by decide)
  (he:starEach (e::es) X.env=(false,eval e X.env)::starEach es X.env:=by rfl) (hpl:(backTo pos (starEach es X.env)).any (·.1)=false:=by rfl):PE X (.Call (.Name x p) (e::es) [] pos) (MS r t):=by
 intro a s σ H Q I h;refine wpAny_Call_Name_kw (jA I hg hm hv ?_ hn hdb);exact PyProof.Rows.callWith_builtin1 (bV (ha pos a s σ H _ I h) fun d g ⟨b,H1,c,i,f⟩=>hc a g σ H1 b d Q c i f) he hpl
variable {T:String}
theorem BQ (hc:bX X (.type T) r)(hg:Gl X x)(hm:X.mg x=none)(hv:bootBuiltins x=some (.type T))(ha:PA X (e::es) t)(hn:x≠"__name__":=by decide)(hdb:(x == ("__debug__":Str))=false:=by decide)
  (he:starEach (e::es) X.env=(false,eval e X.env)::starEach es X.env:=by rfl) (hpl:(backTo pos (starEach es X.env)).any (·.1)=false:=by rfl):PE X (.Call (.Name x p) (e::es) [] pos) (MS r t):=by
 intro a s σ H Q I h;refine wpAny_Call_Name_kw (jA I hg hm hv ?_ hn hdb);exact F8 (bV (ha pos a s σ H _ I h) fun d g ⟨b,H1,c,i,f⟩=>hc a g σ H1 b d Q c i f) he hpl
end L2
namespace HT
open PySem PyProof.Rows PySem.SeqAt
open PySem.AutoSeq1 (wpAny_loadPart')
variable {prog:Program}{w:World}{A:Around}{E:Value->Shared->Prop}{s:Shared}{t:Addr}{vs:List Value}
theorem II {b:Addr}{ws:List Value}{Q:Value->Shared->Prop}(ht:IsTup s.heap t vs.toArray)(hb:IsTup s.heap b ws.toArray)(hv:vs≠[])
  (h1:ws=[]->Q (.ref t) s) (h2:ws≠[]->Q (.ref s.heap.objs.size) {s with heap:=s.heap.push {cls:=.type "tuple",data:=.seq (vs++ws).toArray}})
  (hsz:vs.length+ws.length<=sizeLine):wpAny (model prog w) A (binaryOp .Add (.ref t) (.ref b)) Q E s:=by
 obtain⟨⟨cls,o,data,p⟩,i,hc,n,m⟩:=id ht;obtain⟨⟨l,d,j,f⟩,a,g,q,c⟩:=id hb
 simp only at hc m g c
 subst hc m g c;have e:vs.toArray++ws.toArray=(vs++ws).toArray:=by simp
 by_cases h:ws=[]
 ·exact concat_meets ⟨_,i,rfl⟩ ⟨_,a,rfl⟩ noFill_tuple_add seq_tuple_add slot_tuple_add entry_tuple_add (args_tuple_add_2 _ _)
   (tuple_addW1 t b vs.toArray ws.toArray n q o d p f (by simpa using hv) (by simp[h])) ⟨i,a,h1 h⟩
 ·refine concat_meets ⟨_,i,rfl⟩ ⟨_,a,rfl⟩ noFill_tuple_add seq_tuple_add slot_tuple_add entry_tuple_add (args_tuple_add_2 _ _)
   (tuple_addW2 t b vs.toArray ws.toArray n q o d p f (by simpa using hv) (by simpa using h) (by rw[List.size_toArray,List.size_toArray];exact hsz)) ⟨i,a,?_⟩
  rw[e];exact h2 h
def eI (n d:Nat):Option Int->Nat
 | none=>d
 | some v=>if v<0 then (v+(n:Int)).toNat else min v.toNat n
theorem j4 (n d:Nat):eI n d none=d:=rfl
theorem ja (n d k:Nat):eI n d (some (k:Int))=min k n:=by
 show (if (k:Int)<0 then ((k:Int)+(n:Int)).toNat else min (k:Int).toNat n)=min k n
 rw[if_neg (by omega),toNat_natCast]
theorem MT (n d:Nat)(hd:d<=n)(o:Option Int):eI n d o<=n:=by
 cases o with
 | none=>exact hd
 | some v=>
  show (if v<0 then (v+(n:Int)).toNat else min v.toNat n)<=n
  by_cases a:v<0
  ·rw[if_pos a];omega
  ·rw[if_neg a];exact Nat.min_le_right _ _
theorem Am (v:Int)(n d:Nat):(if v<0 then max (v+(n:Int)) 0 else min v (n:Int))=((eI n d (some v):Nat):Int):=by
 show (if v<0 then max (v+(n:Int)) 0 else min v (n:Int))=(((if v<0 then (v+(n:Int)).toNat else min v.toNat n):Nat):Int)
 by_cases a:v<0
 ·simp only[if_pos a];omega
 ·simp only[if_neg a];omega
theorem xU (lo hi:Option Int)(n:Nat):Builtin.Slice.sliceAdjust lo hi 1 (n:Int)=(((eI n 0 lo:Nat):Int),((eI n n hi:Nat):Int)):=by
 have h1:¬ ((1:Int)<0):=by omega
 unfold Builtin.Slice.sliceAdjust;simp only[h1,if_false];refine Prod.ext ?_ ?_
 ·cases lo with
  | none=>rfl
  | some v=>exact Am v n 0
 ·cases hi with
  | none=>rfl
  | some v=>exact Am v n n
theorem xV (i j:Nat):Builtin.Slice.slicePlaces (i:Int) (j:Int) 1=j - i:=by
 unfold Builtin.Slice.slicePlaces;have h1:(1:Int)>0:=by omega
 simp only[h1,if_true,Int.ediv_one]
 split<;>omega
variable {v:Value}
theorem ny {o:Option Int}{Q:Option Int->Shared->Prop}(p:IsPart v o)(h:Q o s):wpAny (model prog w) A (Builtin.Slice.slicePartIndex v) Q E s:=by
 cases p with
 | none=>exact slicePart_none h
 | int i t=>exact slicePart_int h
variable {lo:Option Int}{sl:Addr}{vl vu:Value}
theorem kX {hi:Option Int}{n:Nat}{Q:Int × Int × Nat->Shared->Prop}(hs:s.heap.IsSliceOf sl vl vu .none)(pl:IsPart vl lo)(pu:IsPart vu hi)
  (h:Q (((eI n 0 lo:Nat):Int),1,eI n n hi - eI n 0 lo) s):wpAny (model prog w) A (Builtin.Slice.sliceApplied (.ref sl) (pure (n:Int))) Q E s:=by
 obtain⟨d,a,c,b⟩:=id hs;unfold Builtin.Slice.sliceApplied Builtin.Slice.sliceFields;refine wpAny_bind (wpAny_bind (wpAny_field a b (x:=vl) rfl (wpAny_bind (wpAny_field a b (x:=vu) rfl (wpAny_bind (wpAny_field a b (x:=.none) rfl (wpAny_pure ?_)))))));refine wpAny_bind (slicePart_none ?_);show wpAny _ _ (if ((1:Int) == 0)=true then _ else _) _ _ s
 rw[if_neg (by decide)]
 refine wpAny_bind (ny pl (wpAny_bind (ny pu (wpAny_bind (wpAny_pure ?_)))));show wpAny _ _ (match Builtin.Slice.sliceAdjust lo hi 1 (n:Int) with | (lo,hi)=>pure (lo,(1:Int),Builtin.Slice.slicePlaces lo hi 1)) _ _ s
 rw[xU lo hi n];show wpAny _ _ (pure (((eI n 0 lo:Nat):Int),(1:Int),Builtin.Slice.slicePlaces ((eI n 0 lo:Nat):Int) ((eI n n hi:Nat):Int) 1)) _ _ s;rw[xV];exact wpAny_pure h
theorem D8 (xs:Array Value)(i k:Nat):((List.range k).filterMap fun (m:Nat)=>xs[((i:Int)+(m:Int)*1).toNat]?).toArray=((xs.toList.drop i).take k).toArray:=by
 have e:(fun (m:Nat)=>xs[((i:Int)+(m:Int)*1).toNat]?)=fun m=>xs[i+m]?:=by
  funext m
  have:((i:Int)+(m:Int)*1).toNat=i+m:=by omega
  rw[this]
 rw[e]
 have:=pick_run xs i k
 rw[List.filterMap_map] at this;have e2:((fun x=>xs[x]?) ∘ fun x=>i+x)=fun m=>xs[i+m]?:=rfl;rw[e2] at this;rw[this]
variable {Q:Value->Shared->Prop}{items:Array Value}
theorem j7 {hi:Option Int}(ht:IsTup s.heap t items)(hs:s.heap.IsSliceOf sl vl vu .none)(pl:IsPart vl lo)(pu:IsPart vu hi)
  (hw:¬ (eI items.size 0 lo=0/\eI items.size items.size hi=items.size))
  (h:Q (.ref s.heap.objs.size) {s with heap:=s.heap.push {cls:=.type "tuple",data:=.seq ((items.toList.drop (eI items.size 0 lo)).take (eI items.size items.size hi - eI items.size 0 lo)).toArray}})
  (hsz:items.size<=sizeLine):wpAny (model prog w) A (getItem (.ref t) (.ref sl)) Q E s:=by
 have a:sizeOk (.seq ((items.toList.drop (eI items.size 0 lo)).take (eI items.size items.size hi - eI items.size 0 lo)).toArray):=by
  show ((items.toList.drop (eI items.size 0 lo)).take (eI items.size items.size hi - eI items.size 0 lo)).toArray.size<=sizeLine;rw[List.size_toArray,length_take,length_drop,Array.length_toList]
  omega
 have hj:eI items.size items.size hi<=items.size:=MT _ _ (Nat.le_refl _) hi;obtain⟨g,b,e,f⟩:=id hs;have c:s.TypeIs (.ref sl) "slice":=⟨g,b,e⟩;unfold getItem
 try with_reducible refine wpAny_holding ?_
 first | refine wpAny_bind (wpAny_pure ?_) | skip
 refine wpAny_bind (wpAny_sequenceKey ht.typeIs (by decide) ?_)
 refine wpAny_bind (wpAny_callSpecial?_slot (name:=Str.ofString "__getitem__") ht.typeIs PyProof.Rows.slot_tuple_getitem
  (wpAny_call_entry PyProof.Rows.slot_tuple_getitem ht.typeIs entry_tuple_getitem ?_ (args_tuple_getitem _ _)))
 show wpAny _ _ (Builtin.Tuple.tupleItemsOf (.ref t) >>= _) _ _ s;refine wpAny_bind (tupleItemsOf_ ht ?_);refine wpAny_bind (wpAny_typeOf c ?_);rw[if_pos (by decide)]
 refine wpAny_bind (kX hs pl pu ?_);have d:¬ ((((eI items.size 0 lo:Nat):Int) == 0&&(1:Int) == 1&&(eI items.size items.size hi - eI items.size 0 lo) == items.size)=true):=by
  intro q;rw[Bool.and_eq_true,Bool.and_eq_true] at q;have i:((eI items.size 0 lo:Nat):Int)=0:=eq_of_beq q.1.1;have j:eI items.size items.size hi - eI items.size 0 lo=items.size:=eq_of_beq q.2;exact hw ⟨by omega,by omega⟩
 show wpAny _ _ (if (((eI items.size 0 lo:Nat):Int) == 0&&(1:Int) == 1&&(eI items.size items.size hi - eI items.size 0 lo) == items.size)=true then _ else _) _ _ s
 rw[if_neg d,D8]
 first
  | exact wpAny_bind (m:=Builtin.Tuple.tupleExact _) (wpAny_newObj_type (wpAny_pure ⟨_,rfl,wpAny_pure h⟩) a)
  | exact wpAny_bind (m:=Builtin.Tuple.tupleExact _) (wpAny_newObj_type (wpAny_bind (wpAny_pure (wpAny_pure ⟨_,rfl,wpAny_pure h⟩))) a)
  | exact wpAny_bind (wpAny_bind (m:=Builtin.Tuple.tupleExact _) (wpAny_newObj_type (wpAny_pure (wpAny_pure ⟨_,rfl,wpAny_pure h⟩)) a))
  | exact wpAny_bind (wpAny_bind (m:=Builtin.Tuple.tupleExact _) (wpAny_newObj_type (wpAny_pure ⟨_,rfl,wpAny_pure h⟩) a))
end HT
namespace L2
open PySem PySem.Spec PyProof.Rows
abbrev TO:=St->Hp->(Option Int->Hp->Prop)->Prop
def PO (X:Cx)(e:Option Expr)(t:TO):Prop:=
 ∀ (pins:List (Addr × Obj)) (s:Shared) (σ:St) (H:Hp) (Q:Option Int->Hp->Prop),Inv X pins σ H s->t σ H Q->
  wpAny (model X.prog X.w) X.A (evalPart e X.env) (fun u a=>∃ o H',Inv X pins σ H' a/\IsPart u o/\Q o H') X.xe s
def rV:TO:=fun _ H Q=>Q none H
def D9 (t:TE):TO:=fun σ H Q=>t σ H fun x H1=>∃ i,x=.int i/\Q (some i) H1
variable {ns:List Int}
theorem intsAre_of:∀ {us:List Value},Vals (ns.map V.int) us->IntsAre us ns:=by
 induction ns with
 | nil=>intro us r;rw[map_nil] at r;cases r;exact .nil
 | cons n ns c=>
  intro us r;rw[oD] at r
  cases r with
  | cons a b=>
   obtain⟨t,e⟩:=a;subst e;exact .cons n t (c b)
variable {X:Cx}
theorem IJ:PO X none rV:=by
 intro a s σ H Q I h;rw[evalPart_none];exact gd ⟨none,H,I,.none,h⟩
variable {e:Expr}{te:TE}
theorem IK (h:PE X e te):PO X (some e) (D9 te):=by
 intro a s σ H Q I b;rw[evalPart_some];refine bV (h a s σ H _ I b) fun u g ⟨x,H1,d,f,c⟩=>?_;obtain⟨i,rfl,q⟩:=c;obtain⟨t,rfl⟩:=f;exact⟨some i,H1,d,.int i t,q⟩
variable {lo hi:Option Expr}
def MU (X:Cx)(r:V->Option Int->Option Int->Hp->VK->Prop):Prop:=
 ∀ (pins:List (Addr × Obj)) (s:Shared) (σ:St) (H:Hp) (x:V) (v vl vu:Value) (lo hi:Option Int) (sl:Addr) (Q:VK),Inv X pins σ H s->RelV x v->s.heap.IsSliceOf sl vl vu .none->IsPart vl lo->IsPart vu hi->r x lo hi H Q->
  ∃ T id,typeLookup (.type T) "__getitem__"=pure (some (.builtin id))/\s.TypeIs v T/\wpAny (model X.prog X.w) X.A (getItem v (.ref sl)) (EP X pins σ Q) X.xe s
def R5 (r:V->Option Int->Option Int->Hp->VK->Prop)(te:TE)(tl th:TO):TE:=fun σ H Q=>te σ H fun x H1=>tl σ H1 fun l a=>th σ a fun u b=>r x l u b Q
variable {pos p2:Pos}{tl:TO}{th:TO}
theorem Ea {r:V->Option Int->Option Int->Hp->VK->Prop}(hr:MU X r)(he:PE X e te)(hl:PO X lo tl)(hu:PO X hi th):PE X (.Subscript e (.Slice lo hi none p2) pos) (R5 r te tl th):=by
 intro a s σ H Q I h;refine Subscript_ (bV (he a s σ H _ I h) fun v G ⟨x,H1,B,C,n⟩=>?_);refine wpAny_Slice (bV (hl a G σ H1 _ B n) fun d z ⟨l,t,p,J,j⟩=>bV (hu a z σ t _ p j) fun f c ⟨u,g,F,o,E⟩=>?_);rw[evalPart_none];refine gd ?_;have m:Inv X a σ g {c with heap:=c.heap.push {cls:=.type "slice",data:=.fields #[d,f,.none]}}:=F.kept (t':=c.toks) fun b ob q=>ey _ q;obtain⟨T,id,i,D,y⟩:=hr a {c with heap:=c.heap.push {cls:=.type "slice",data:=.fields #[d,f,.none]}} σ g x v d f l u c.heap.objs.size Q m C (Heap.IsSliceOf.new ..) J o E;show wpAny (model X.prog X.w) X.A (subscriptTail e (.Slice lo hi none p2) v (.ref c.heap.objs.size)) (EP X a σ Q) X.xe {c with heap:=c.heap.push {cls:=.type "slice",data:=.fields #[d,f,.none]}};exact tail_any (ops:=[.ref c.heap.objs.size,v]) D i y (by with_unfolding_all rfl)
def j8 (xs:List V)(lo hi:Option Int):List V:=(xs.drop (HT.eI xs.length 0 lo)).take (HT.eI xs.length xs.length hi - HT.eI xs.length 0 lo)
theorem lU (xs:List V)(lo hi:Option Int):(j8 xs lo hi).length<=xs.length:=by
 unfold j8;rw[wh,uF]
 omega
def IL (K:Frag):V->Option Int->Option Int->Hp->VK->Prop:=fun x b hi H Q=>∃ a xs,x=.ref a/\aH K H a xs/\
 ¬ (HT.eI xs.length 0 b=0/\HT.eI xs.length xs.length hi=xs.length)/\∀ p,H p=none->Q (.ref p) (upd H p (.tup (j8 xs b hi)))
theorem MV:MU X (IL X.K):=by
 intro i s σ H x v t w e hi u Q I j n p m h;obtain⟨a,d,rfl,hx,l,q⟩:=h
 cases j
 obtain⟨f,r,g,hz⟩:=I.tuple hx;have c:f.toArray.size=d.length:=by rw[fO];exact r.length.symm
 refine⟨"tuple",_,PyProof.Rows.slot_tuple_getitem.lookup,g.typeIs,?_⟩;refine HT.j7 g n p m (by rw[c];exact l) ?_ (by rw[c];exact hz)
 rw[c];refine⟨.ref s.heap.objs.size,_,I.laid (t':=s.toks) (o:=.tup (j8 d e hi)) (fun b ob q=>ey _ q) (dy _) ?_,rfl,q _ (I.br.fresh (dy _))⟩;exact⟨h9 (lU d e hi) hz,_,(r.drop (HT.eI d.length 0 e)).take (HT.eI d.length d.length hi - HT.eI d.length 0 e),IsTup.new _ _⟩
def O6 (K:Frag):R2:=fun x y H Q=>∃ a b xs ys,x=.ref a/\y=.ref b/\aH K H a xs/\aH K H b ys/\xs≠[]/\xs.length+ys.length<=sizeLine/\
 (ys=[]->Q (.ref a) H)/\(ys≠[]->∀ p,H p=none->Q (.ref p) (upd H p (.tup (xs++ys))))
theorem Vals.rW {xs:List V}{us:List Value}(r:Vals xs us):us=[]↔xs=[]:=by
 cases r with
 | nil=>simp
 | cons _ _=>simp
theorem IM:eC X (binaryOp .Add) (O6 X.K):=by
 intro f s σ H x y v u Q I l j h;obtain⟨a,b,n,r,rfl,rfl,g,hb,hx,hz,p,m⟩:=h
 cases l
 cases j
 obtain⟨i,d,t,_⟩:=I.tuple g;obtain⟨e,c,A,_⟩:=I.tuple hb;refine HT.II t A (fun z=>hx (d.rW.mp z)) (fun z=>⟨.ref a,H,I,rfl,p (c.rW.mp z)⟩) (fun z=>?_) (by rw[<-d.length,<-c.length];exact hz)
 refine⟨.ref s.heap.objs.size,_,I.laid (t':=s.toks) (o:=.tup (n++r)) (fun b ob q=>ey _ q) (dy _) ?_,rfl,m (fun w=>z (c.rW.mpr w)) _ (I.br.fresh (dy _))⟩;exact⟨by rw[eG];exact hz,_,d.append c,IsTup.new _ _⟩
def Eb (n:Nat)(i:Int):Option Nat:=if 0<=i then (if i<n then some i.toNat else none) else if -(n:Int)<=i then some (i+n).toNat else none
def xW {α:Type}(xs:List α)(i:Int):Option α:=(Eb xs.length i).bind fun j=>xs[j]?
variable {i:Int}
theorem An {n:Nat}{j:Nat}(h:Eb n i=some j):seqIndex? i n=some j/\j<n/\-(n:Int)<=i/\i<n:=by
 unfold Eb at h
 by_cases a:0<=i
 ·rw[if_pos a] at h
  by_cases h1:i<n
  ·rw[if_pos h1] at h;have e:i.toNat=j:=tx h;exact⟨by rw[seqIndex_of a h1,e],by omega,by omega,h1⟩
  ·rw[if_neg h1] at h;cases h
 ·rw[if_neg a] at h
  by_cases h1:-(n:Int)<=i
  ·rw[if_pos h1] at h;have e:(i+n).toNat=j:=tx h;exact⟨by rw[seqIndex_neg (by omega) h1,e],by omega,h1,by omega⟩
  ·rw[if_neg h1] at h;cases h
theorem rX {α:Type}{xs:List α}{v:α}(h:xW xs i=some v):∃ j,seqIndex? i xs.length=some j/\xs[j]?=some v/\j<xs.length/\-(xs.length:Int)<=i/\i<xs.length:=by
 unfold xW at h
 cases e:Eb xs.length i with
 | none=>rw[e] at h;cases h
 | some j=>
  rw[e] at h;obtain⟨h1,c,a,b⟩:=An e;exact⟨j,h1,h,c,a,b⟩
theorem jb {α:Type}{xs:List α}{j:Nat}{v:α}(h:xs[j]?=some v):xW xs (j:Int)=some v:=by
 have hj:j<xs.length:=(o5.mp h).1;have e:Eb xs.length (j:Int)=some j:=by
  unfold Eb;rw[if_pos (by omega),if_pos (by omega)];simp
 unfold xW;rw[e];exact h
theorem Ec {α:Type}(xs:List α)(v:α):xW (xs++[v]) (-1)=some v:=by
 have a:(xs++[v]).length=xs.length+1:=by simp
 have e:Eb (xs++[v]).length (-1)=some xs.length:=by
  unfold Eb;rw[a,if_neg (by decide),if_pos (by omega)]
  congr 1
  omega
 unfold xW;rw[e];show (xs++[v])[xs.length]?=some v
 simp
def Ao (b:Expr):Prop:=∀ o i,subscripted b false o i=operate [o,i] (getItem o i)
def MW (X:Cx)(r:R2):Prop:=
 ∀ (value slice:Expr) (pins:List (Addr × Obj)) (s:Shared) (σ:St) (H:Hp) (x y:V) (v u:Value) (Q:VK),Inv X pins σ H s->RelV x v->RelV y u->r x y H Q->
  subscripted slice false v u=operate [v,u] (getItem v u)->wpAny (model X.prog X.w) X.A (subscriptTail value slice v u) (EP X pins σ Q) X.xe s
def xx (X:Cx)(id:String)(r:V->List V->Hp->VK->Prop):Prop:=
 ∀ (pins:List (Addr × Obj)) (s:Shared) (σ:St) (H:Hp) (x:V) (xs:List V) (v:Value) (us:List Value) (Q:VK),Inv X pins σ H s->RelV x v->Vals xs us->r x xs H Q->
  wpAny (model X.prog X.w) X.A (call (.builtin id) (v::us)) (EP X pins σ Q) X.xe s
variable {a b:Expr}{ta tb:TE}
theorem O7 {r:R2}(hr:MW X r)(ha:PE X a ta)(hb:PE X b tb)(hs:Ao b):PE X (.Subscript a b pos) (xH r ta tb):=by
 intro c s σ H Q I h;exact Subscript_ (MI ha hb I h fun v u e x y d i g f q=>hr a b c e σ d x y v u Q i g f q (hs _ _))
def BR (K:Frag):R2:=fun x y H Q=>∃ p xs i v,x=.ref p/\y=.int i/\ax K H p xs/\xW xs i=some v/\Q v H
def IP (K:Frag):R2:=fun x y H Q=>∃ p xs i v,x=.ref p/\y=.int i/\aH K H p xs/\xW xs i=some v/\Q v H
def R7:R2:=fun x y H Q=>∃ z i c,x=.str z/\y=.int i/\z.length<=sizeLine/\xW z.cps.toList i=some c/\Q (.str ⟨#[c]⟩) H
theorem IQ:MW X (BR X.K):=by
 intro c f a s σ H x y v u Q I D o h l;obtain⟨p,J,i,z,rfl,rfl,hq,he,q⟩:=h
 cases D
 obtain⟨t,rfl⟩:=o;obtain⟨d,r,g,hz⟩:=I.list hq;obtain⟨j,h1,E,G,A,F⟩:=rX he;obtain⟨w,m,e⟩:=r.get E;have B:=r.length;have hn:=kT;have b:EP X a σ Q w s:=⟨z,H,I,e,q⟩
 by_cases n:0<=i
 ·have hj:i.toNat=j:=by
   rw[seqIndex_of n F] at h1;exact tx h1
  exact item_listR g.isList n (by omega) (by rw[hj];simpa using m) b l
 ·have hj:(i+(d.toArray.size:Int)).toNat=j:=by
   rw[seqIndex_neg (by omega) A] at h1
   rw[fO,<-B];exact tx h1
  exact subscriptTail_builtinR (x:=w) g.isList.typeIs slot_list_getitem.lookup
   (wpAny_getItem_list_neg (Q:=fun r C=>r=w/\EP X a σ Q r C) g.isList (by omega) (by rw[fO]<;>omega) (by omega) (by rw[hj];simpa using m) ⟨rfl,b⟩) l
theorem MX:MW X (IP X.K):=by
 intro b d a s σ H x y v u Q I B g h l;obtain⟨p,E,i,z,rfl,rfl,hq,he,q⟩:=h
 cases B
 obtain⟨t,rfl⟩:=g;obtain⟨o,r,f,hz⟩:=I.tuple hq;obtain⟨j,h1,C,D,F,G⟩:=rX he;obtain⟨w,m,c⟩:=r.get C;have n:=r.length;have hn:=kT;have e:EP X a σ Q w s:=⟨z,H,I,c,q⟩;exact subscriptTail_builtinR (x:=w) f.typeIs slot_tuple_getitem.lookup
  (getItem_tuple (j:=j) (Q:=fun r A=>r=w/\EP X a σ Q r A) f (by omega) (by omega) (by rw[fO,<-n];exact h1) (by simpa using m) ⟨rfl,e⟩) l
theorem xX:MW X R7:=by
 intro a b d s σ H x y v u Q I g f h m;obtain⟨z,i,c,rfl,rfl,hz,he,q⟩:=h;obtain⟨t,rfl⟩:=g;obtain⟨r,rfl⟩:=f;obtain⟨j,h1,l,w,o,n⟩:=rX he;have p:z.cps.toList.length=z.length:=by simp[Str.length]
 rw[p] at h1 o n;have hn:=kT;exact tail_any (typeIs_str s z t) slot_str_getitem.lookup (getItem_str (c:=c) (by
  have e:decide (i < -(2 ^ 63:Int))=false:=ed (by omega)
  have e2:decide (i ≥ 2 ^ 63)=false:=ed (by omega)
  rw[e,e2,Bool.or_false]) (by rw[h1];simpa using l) ⟨.str ⟨#[c]⟩,H,I.tok _,⟨_,rfl⟩,q⟩) m
theorem xY (its:List Value)(n j:Nat)(u:Value):Obj.mapSeq (·.setIfInBounds j u) {cls:=.type "list",data:=.seq its.toArray n}={cls:=.type "list",data:=.seq (its.set j u).toArray n}:=by
 simp[Obj.mapSeq]
theorem Inv.lst {pins:List (Addr × Obj)}{σ:St}{H:Hp}{s:Shared}{p:Addr}{xs:List V}(I:Inv X pins σ H s)(h:H p=some (.lst xs)) :
  ∃ (its:List Value) (n:Nat),Vals xs its/\s.heap.get? p=some {cls:=.type "list",data:=.seq its.toArray n}/\xs.length<=sizeLine:=by
 obtain⟨z,its,n,r,e⟩:=I.br p _ h;exact⟨its,n,r,e,z⟩
variable {its its':List Value}
theorem Inv.MY {pins:List (Addr × Obj)}{σ:St}{H:Hp}{s:Shared}{p:Addr}{xs ys:List V}{n n':Nat}{f:Obj->Obj}(I:Inv X pins σ H s)(h:H p=some (.lst xs))
  (ho:s.heap.get? p=some {cls:=.type "list",data:=.seq its.toArray n}) (hf:f {cls:=.type "list",data:=.seq its.toArray n}={cls:=.type "list",data:=.seq its'.toArray n'}) (r:Vals ys its') (hz:ys.length<=sizeLine) (t:Nat) :
  Inv X pins σ (upd H p (.lst ys)) {s with heap:=s.heap.update p f,toks:=t}:=by
 have e:(s.heap.update p f).get? p=some {cls:=.type "list",data:=.seq its'.toArray n'}:=by
  rw[Heap.get?_update_self f ho (by rw[hf]<;>rfl),hf]
 refine I.write (x:=p) (e:=p) (by rw[h];trivial) (.inl rfl) (fun b u hb q=>(Heap.get?_update_other _ _ (Ne.symm hb)).trans q) ⟨_,e⟩ ?_
 exact⟨hz,its',n',r,e⟩
def O8:V->V->V->Hp->(Hp->Prop)->Prop:=fun o i v H Q=>∃ p xs k j,o=.ref p/\i=.int k/\H p=some (.lst xs)/\Eb xs.length k=some j/\Q (upd H p (.lst (xs.set j v)))
theorem set_list:Mz X O8:=by
 intro a s σ H o i v A B u Q I y w z h;obtain⟨p,x,k,j,rfl,rfl,g,hj,q⟩:=h
 cases y
 obtain⟨t,rfl⟩:=w;obtain⟨b,n,r,c,hz⟩:=I.lst g;obtain⟨h1,C,e,f⟩:=An hj;have d:=r.length;have hn:=kT;have m:Inv X a σ (upd H p (.lst (x.set j v))) {s with heap:=s.heap.update p (Obj.mapSeq (·.setIfInBounds j u))}:=
  I.MY g c (xY b n j u) (r.set z j) (by rw[length_set];exact hz) s.toks
 by_cases l:0<=k
 ·have hk:k.toNat=j:=by
   rw[seqIndex_of l f] at h1;exact tx h1
  exact PySem.W.ki_setAt c l (by omega) (by rw[fO,<-d];exact f) (by rw[hk];exact⟨_,m,q⟩)
 ·have hk:(k+(b.toArray.size:Int)).toNat=j:=by
   rw[seqIndex_neg (by omega) e] at h1
   rw[fO,<-d];exact tx h1
  exact PySem.W.ki_setBack c (by omega) (by rw[fO,<-d];exact e) (by omega) (by rw[hk];exact⟨_,m,q⟩)
theorem rY (lo hi:Option Int)(n:Nat):(sliceBounds lo hi none n).1=((HT.eI n 0 lo:Nat):Int)/\(sliceBounds lo hi none n).2.1=((HT.eI n n hi:Nat):Int)/\(sliceBounds lo hi none n).2.2=1:=by
 refine⟨?_,?_,rfl⟩
 ·cases lo with
  | none=>simp[sliceBounds,HT.eI]
  | some i=>
   simp only[sliceBounds,HT.eI,getD_none,show (1:Int)>0 by decide,if_true]
   by_cases h:i<0
   ·simp only[h,if_true]<;>omega
   ·simp only[h,if_false]<;>omega
 ·cases hi with
  | none=>simp[sliceBounds,HT.eI]
  | some i=>
   simp only[sliceBounds,HT.eI,getD_none,show (1:Int)>0 by decide,if_true]
   by_cases h:i<0
   ·simp only[h,if_true]<;>omega
   ·simp only[h,if_false]<;>omega
theorem pb (its:List Value)(lo hi:Option Int):slicePick its.toArray lo hi none=((its.drop (HT.eI its.length 0 lo)).take (HT.eI its.length its.length hi - HT.eI its.length 0 lo)).toArray:=by
 obtain⟨h1,a,b⟩:=rY lo hi its.toArray.size;unfold slicePick;rw[h1,a,b];simp only[sliceRange_one,pick_run,List.size_toArray]<;>rfl
def Ed (K:Frag):V->Option Int->Option Int->Hp->VK->Prop:=fun x b hi H Q=>∃ a xs,x=.ref a/\ax K H a xs/\∀ p,H p=none->Q (.ref p) (upd H p (.lst (j8 xs b hi)))
theorem IS:MU X (Ed X.K):=by
 intro g s σ H x v p u e hi t Q I j m n l h;obtain⟨a,c,rfl,hx,q⟩:=h
 cases j
 obtain⟨i,r,f,hz⟩:=I.list hx;have d:=r.length;refine⟨"list",_,slot_list_getitem.lookup,f.isList.typeIs,?_⟩;refine wpAny_getItem_list_slice f.isList m n l .none (by simp) ?_ (by rw[fO]<;>omega)
 rw[pb,<-d];refine⟨.ref s.heap.objs.size,_,I.laid (t':=s.toks) (o:=.lst (j8 c e hi)) (fun b ob q=>ey _ q) (dy _) ?_,rfl,q _ (I.br.fresh (dy _))⟩;exact⟨h9 (lU c e hi) hz,_,0,(r.drop (HT.eI c.length 0 e)).take (HT.eI c.length c.length hi - HT.eI c.length 0 e),j9 _ rfl⟩
def lV:V->Bool
 | .bE=>true
 | .bl _=>true
 | .int _=>true
 | .str _=>true
 | _=>false
def DA:V->V->Bool
 | .bE,.bE=>true
 | .bl a,.bl b=>a == b
 | .bl a,.int b=>(if a then 1 else 0) == b
 | .int a,.bl b=>a == (if b then 1 else 0)
 | .int a,.int b=>a == b
 | .str a,.str b=>a == b
 | _,_=>false
variable {x:V}
theorem MZ {A:Around}{s:Shared}{y:V}{u v:Value}(ry:RelV y u)(rx:RelV x v)(fy:lV y=true)(fx:lV x=true):EqAt A s u v (DA y x):=by
 cases y with
 | bE=>
  cases ry
  cases x with
  | bE=>cases rx;exact SeqAt.EqAt.same _
  | bl b=>cases rx;exact SeqAt.EqAt.none_bool b
  | int b=>obtain⟨t,rfl⟩:=rx;exact SeqAt.EqAt.none_int b t
  | str b=>obtain⟨t,rfl⟩:=rx;exact SeqAt.EqAt.none_str b t
  | _=>exact absurd (show false=true from fx) hI
 | bl a=>
  cases ry
  cases x with
  | bE=>cases rx;exact SeqAt.EqAt.bool_none a
  | bl b=>cases rx;exact SeqAt.EqAt.bool_bool a b
  | int b=>obtain⟨t,rfl⟩:=rx;exact SeqAt.EqAt.bool_int a b t
  | str b=>obtain⟨t,rfl⟩:=rx;exact SeqAt.EqAt.bool_str a b t
  | _=>exact absurd (show false=true from fx) hI
 | int a=>
  obtain⟨c,rfl⟩:=ry
  cases x with
  | bE=>cases rx;exact SeqAt.EqAt.int_none a c
  | bl b=>cases rx;exact SeqAt.EqAt.int_bool a c b
  | int b=>obtain⟨t,rfl⟩:=rx;exact SeqAt.EqAt.int_int a c b t
  | str b=>obtain⟨t,rfl⟩:=rx;exact SeqAt.EqAt.int_str a c b t
  | _=>exact absurd (show false=true from fx) hI
 | str a=>
  obtain⟨c,rfl⟩:=ry
  cases x with
  | bE=>cases rx;exact SeqAt.EqAt.str_none a c
  | bl b=>cases rx;exact SeqAt.EqAt.str_bool a c b
  | int b=>obtain⟨t,rfl⟩:=rx;exact SeqAt.EqAt.str_int a c b t
  | str b=>obtain⟨t,rfl⟩:=rx;exact SeqAt.EqAt.str_str a c b t
  | _=>exact absurd (show false=true from fx) hI
 | _=>exact absurd (show false=true from fy) hI
def xZ (x:V)(u:Value):Bool:=match u with
 | .none=>DA .bE x
 | .bool b=>DA (.bl b) x
 | .int i _=>DA (.int i) x
 | .str z _=>DA (.str z) x
 | _=>false
theorem Ee {y:V}{u:Value}(r:RelV y u)(f:lV y=true):xZ x u=DA y x:=by
 cases y with
 | bE=>cases r;rfl
 | bl b=>cases r;rfl
 | int i=>obtain⟨t,rfl⟩:=r;rfl
 | str z=>obtain⟨t,rfl⟩:=r;rfl
 | _=>exact absurd (show false=true from f) hI
theorem ke {x:V}:∀ {xs:List V} {us:List Value},Vals xs us->xs.all lV=true->us.any (xZ x)=xs.any fun y=>DA y x
 | _,_,.nil,_=>rfl
 | y::xs,u::us,.cons r t,f=>by
  rw[all_cons,gz] at f;rw[any_cons,any_cons,Ee r f.1,ke t f.2]
theorem iw {A:Around}{s:Shared}{x:V}{v:Value}(rx:RelV x v)(fx:lV x=true):∀ {xs:List V} {us:List Value},Vals xs us->xs.all lV=true->∀ u∈us,EqAt A s u v (xZ x u)
 | _,_,.nil,_=>fun u hu=>by cases hu
 | y::xs,u::us,.cons r t,f=>fun a hu=>by
  rw[all_cons,gz] at f
  rcases hU.mp hu with rfl | hu
  ·rw[Ee r f.1];exact MZ r rx f.1 fx
  ·exact iw rx fx t f.2 a hu
def KY (x:V)(xs:List V):Bool:=xs.any fun y=>DA y x
def OH (K:Frag)(neg:Bool):R2:=fun x y H Q=>∃ p xs,y=.ref p/\(ax K H p xs∨aH K H p xs)/\lV x=true/\xs.all lV=true/\Q (.bl (if neg then !KY x xs else KY x xs)) H
theorem BS:eC X (compareOp .In) (OH X.K false):=by
 intro e s σ H x y v u Q I d g h;obtain⟨p,i,rfl,hq,f,fs,q⟩:=h
 cases g
 rcases hq with hq | hq
 ·obtain⟨a,r,c,hz⟩:=I.list hq;refine SeqAt.in_listAt (xZ x) c.isList (fun w b=>iw d f r fs w (by simpa using b)) ⟨.bl _,H,I,rfl,?_⟩
  rw[show a.toArray.any (xZ x)=a.any (xZ x) by simp,ke r fs]
  exact q
 ·obtain⟨a,r,c,hz⟩:=I.tuple hq;refine SeqAt.in_tupleAt (xZ x) c (fun w b=>iw d f r fs w (by simpa using b)) ⟨.bl _,H,I,rfl,?_⟩
  rw[show a.toArray.any (xZ x)=a.any (xZ x) by simp,ke r fs]
  exact q
theorem rZ:eC X (compareOp .NotIn) (OH X.K true):=by
 intro e s σ H x y v u Q I d g h;obtain⟨p,i,rfl,hq,f,fs,q⟩:=h
 cases g
 rcases hq with hq | hq
 ·obtain⟨a,r,c,hz⟩:=I.list hq;refine SeqAt.notIn_listAt (xZ x) c.isList (fun w b=>iw d f r fs w (by simpa using b)) ⟨.bl _,H,I,rfl,?_⟩
  rw[show a.toArray.any (xZ x)=a.any (xZ x) by simp,ke r fs]
  exact q
 ·obtain⟨a,r,c,hz⟩:=I.tuple hq;refine SeqAt.notIn_tupleAt (xZ x) c (fun w b=>iw d f r fs w (by simpa using b)) ⟨.bl _,H,I,rfl,?_⟩
  rw[show a.toArray.any (xZ x)=a.any (xZ x) by simp,ke r fs]
  exact q
theorem r8:bX X (.builtin "len") (fun xs H Q=>∃ p ys,xs=[.ref p]/\(ax X.K H p ys∨aH X.K H p ys)/\Q (.int ys.length) H):=by
 intro e s σ H xs g Q I r h;obtain⟨p,ys,rfl,hq,q⟩:=h;obtain⟨u,rfl,f⟩:=vals1 r
 cases f
 have hn:=kT
 rcases hq with hq | hq
 ·obtain⟨b,c,d,hz⟩:=I.list hq;have a:=c.length;exact Calls.call_len_list d.isList (by simp only[List.size_toArray]<;>omega) ⟨.int ys.length,H,I.tok _,⟨s.toks+1,by rw[fO,a]⟩,q⟩
 ·obtain⟨b,c,d,hz⟩:=I.tuple hq;have a:=c.length;exact len_tuple d (by simp only[List.size_toArray]<;>omega) ⟨.int ys.length,H,I.tok _,⟨s.toks+1,by rw[fO,a]⟩,q⟩
theorem gB:bX X (.builtin "len") (fun xs H Q=>∃ z,xs=[.str z]/\z.length<=sizeLine/\Q (.int z.length) H):=by
 intro a s σ H xs b Q I r h;obtain⟨z,rfl,hz,q⟩:=h;obtain⟨u,rfl,t,rfl⟩:=vals1 r;have hn:=kT;exact len_str (by omega) ⟨.int z.length,H,I.tok _,⟨_,rfl⟩,q⟩
theorem pd:bX X (.type "tuple") (fun xs H Q=>∃ p ys,xs=[.ref p]/\((ax X.K H p ys/\∀ l,H l=none->Q (.ref l) (upd H l (.tup ys)))∨(aH X.K H p ys/\Q (.ref p) H))):=by
 intro a s σ H xs v Q I r h;obtain⟨p,ys,rfl,h⟩:=h;obtain⟨u,rfl,m⟩:=vals1 r
 cases m
 rcases h with ⟨hq,q⟩ | ⟨hq,q⟩
 ·obtain⟨c,f,g,hz⟩:=I.list hq;have j:=f.length;refine call_tuple_list g.isList (fun d t=>?_) (by simp only[List.size_toArray]<;>omega)
  have i:Inv X a σ H {s with heap:=d}:=I.kept (t':=s.toks) t;have n:Inv X a σ (upd H d.objs.size (.tup ys)) {s with heap:=d.push {cls:=.type "tuple",data:=.seq c.toArray}}:=
   i.laid (t':=s.toks) (fun b o e=>ey _ e) (dy _) (show bS X.prog X.w _ _ _ (.tup ys) from ⟨hz,c,f,IsTup.new _ _⟩)
  exact⟨.ref d.objs.size,_,n,rfl,q _ (i.br.fresh (dy _))⟩
 ·obtain⟨c,f,g,hz⟩:=I.tuple hq;exact call_tuple_same g ⟨.ref p,H,I,rfl,q⟩
def O9 (K:Frag)(T:String)(x:V)(H:Hp):Prop:=match x with
 | .str _=>T="str"
 | .int _=>T="int"
 | .ref p=>(T="list"/\∃ xs,ax K H p xs)∨(T="tuple"/\∃ o,K.lookup p=some o/\o.cls=.type "tuple"/\o.dict=none)∨
   (T="dict"/\((∃ kvs,H p=some (.dK kvs))∨∃ kvs,H p=some (.dT kvs)))∨(T="set"/\∃ S n,H p=some (.set S n))
 | _=>False
theorem Ef {pins:List (Addr × Obj)}{σ:St}{H:Hp}{s:Shared}{T:String}{v:Value}(I:Inv X pins σ H s)(r:RelV x v)(ty:O9 X.K T x H) :
  s.TypeIs v T/\∀ a,v=.ref a->∃ ob,s.heap.get? a=some ob/\ob.dict=none:=by
 cases x with
 | str z=>
  obtain⟨t,rfl⟩:=r
  cases (show T="str" from ty)
  exact⟨typeIs_str s z t,fun _ e=>nomatch e⟩
 | int i=>
  obtain⟨t,rfl⟩:=r
  cases (show T="int" from ty)
  exact⟨typeIs_int s i t,fun _ e=>nomatch e⟩
 | ref p=>
  cases r
  rcases ty with ⟨rfl,j,hq⟩ | ⟨rfl,o,hk,hc,d⟩ | ⟨rfl,hk⟩ | ⟨rfl,S,n,hk⟩
  ·obtain⟨h,_,g,_⟩:=I.list hq;refine⟨g.isList.typeIs,fun a e=>?_⟩
   cases e
   obtain⟨o,n,e,c,d,_⟩:=g;exact⟨o,e,d⟩
  ·refine⟨⟨o,I.uP p o hk,hc⟩,fun a e=>?_⟩
   cases e
   exact⟨o,I.uP _ o hk,d⟩
  ·have z:∃ o,s.heap.get? p=some o/\o.ExactDict:=by
    rcases hk with ⟨f,hk⟩ | ⟨f,hk⟩
    ·obtain⟨_,_,_,_,o,_,_,e,b,_⟩:=I.br p _ hk;exact⟨o,e,b⟩
    ·obtain⟨_,_,_,_,o,_,_,e,b,_⟩:=I.br p _ hk;exact⟨o,e,b⟩
   obtain⟨o,e,b⟩:=z;refine⟨⟨o,e,b.1⟩,fun a e2=>?_⟩
   cases e2
   exact⟨o,e,b.2.1⟩
  ·obtain⟨o,_,_,_,e,b,_⟩:=I.br p _ hk;refine⟨⟨o,e,b.1⟩,fun a e2=>?_⟩
   cases e2
   exact⟨o,e,b.2.1⟩
 | _=>exact False.elim ty
def IT (K:Frag)(T:String)(r:V->List V->Hp->VK->Prop)(to:TE):TE:=fun σ H Q=>to σ H fun x H1=>O9 K T x H1/\r x [] H1 Q
def Pa (K:Frag)(T:String)(r:V->List V->Hp->VK->Prop)(to:TE)(t:TA):TE:=fun σ H Q=>to σ H fun x H1=>O9 K T x H1/\t σ H1 fun b a=>r x b a Q
variable {o:Expr}{to:TE}{name:Str}{apos c9:Pos}{T id:String}{r:V->List V->Hp->VK->Prop}
theorem M4 (pa:PlainAttrs T)(slot:Slot T name id)(hty:typeOf (.builtin id)=pure (.type "method_descriptor"))(hm:xx X id r)(ho:PE X o to)
  (eP:attributeBase o name X.env (eval o X.env)=eval o X.env:=by rfl) (eQ:(apos.endLine == c9.line)=true:=by rfl):PE X (.Call (.Attribute o name apos) [] [] c9) (IT X.K T r to):=by
 intro a s σ H Q I h;refine wpAny_Call_method0_late eP eQ (bV (ho a s σ H _ I h) fun v f ⟨x,H1,b,c,ty,d⟩=>?_);obtain⟨h1,e⟩:=Ef b c ty;exact⟨T,id,pa,slot,hty,h1,e,Calls.callWith_builtin rfl (PySem.evalArgs_none (hm a f σ H1 x [] v [] Q b c .nil d))⟩
variable {es:List Expr}{t:TA}
theorem Pb (pa:PlainAttrs T)(slot:Slot T name id)(hty:typeOf (.builtin id)=pure (.type "method_descriptor"))(hm:xx X id r)(ho:PE X o to)(ha:PA X (e::es) t)
  (eP:attributeBase o name X.env (eval o X.env)=eval o X.env:=by rfl)
  (hfew:((backTo c9 (starEach (e::es) X.env)).all (fun x=>!x.1)&&(backToKw c9 (keywordEach [] X.env)).all (fun x=>x.1.isSome)
   &&decide ((e::es).length+([]:List Keyword).length+(if ([]:List Keyword).isEmpty then 0 else 1)<30))=true:=by rfl)
  (eQ:(apos.endLine == c9.line)=true:=by rfl) (hs:starEach (e::es) X.env=(false,eval e X.env)::starEach es X.env:=by rfl) (hplain:(backTo c9 (starEach es X.env)).any (·.1)=false:=by rfl) :
  PE X (.Call (.Attribute o name apos) (e::es) [] c9) (Pa X.K T r to t):=by
 intro a s σ H Q I h;refine wpAny_Call_method_late eP hfew eQ rfl (bV (ho a s σ H _ I h) fun v u ⟨x,H1,c,d,ty,l⟩=>?_);obtain⟨h1,m⟩:=Ef c d ty;refine⟨T,id,pa,slot,hty,h1,m,?_⟩;have b:=ha c9 a u σ H1 _ c l;rw[hs] at b ⊢;refine Calls.callWith_builtin (by show (false||(backTo c9 (starEach es X.env)).any (·.1))=false;rw[hplain]<;>rfl) (Calls.evalArgs_plain ?_)
 exact bV b fun j q ⟨f,p,n,g,i⟩=>hm a q σ p x f v j Q n d g i
def R8 (X:Cx)(id:String)(r:V->List V->Hp->VK->Prop):Prop:=
 ∀ (pins:List (Addr × Obj)) (s:Shared) (σ:St) (H:Hp) (x:V) (xs:List V) (v:Value) (us:List Value) (Q:VK),Inv X pins σ H s->RelV x v->Vals xs us->r x xs H Q->
  wpAny (model X.prog X.w) X.A (call (.builtin id) (v::us)) (EP X pins σ Q) X.xe s
theorem Vals.one:∀ {x:V} {us:List Value},Vals [x] us->∃ u,us=[u]/\RelV x u
 | _,_,.cons r .nil=>⟨_,rfl,r⟩
theorem Vals.two {y:V}{us:List Value}(h:Vals [x,y] us):∃ u v,us=[u,v]/\RelV x u/\RelV y v:=by
 cases h with
 | cons r h=>
  obtain⟨v,rfl,q⟩:=Vals.one h;exact⟨_,_,rfl,r,q⟩
theorem Vals.eraseIdx:∀ {xs:List V} {us:List Value} (i:Nat),Vals xs us->Vals (xs.eraseIdx i) (us.eraseIdx i)
 | _,_,_,.nil=>.nil
 | _,_,0,.cons _ t=>t
 | _,_,i+1,.cons r t=>.cons r (Vals.eraseIdx i t)
theorem Vals.rep {xs:List V}{us:List Value}(h:Vals xs us):∀ k:Nat,Vals (List.replicate k xs).flatten (List.replicate k us).flatten
 | 0=>.nil
 | k+1=>by
  rw[Tg,Tg,flatten_cons,flatten_cons];exact Vals.append h (Vals.rep h k)
theorem qw {α:Type}:∀ (l:List α) (i:Nat),(l.eraseIdx i).length<=l.length
 | [],_=>dy _
 | _::_,0=>le_succ _
 | _::r,i+1=>succ_le_succ (qw r i)
theorem foldl_rep (its:List Value):∀ (k:Nat) (acc:List Value),
  List.foldl (fun x1 x2=>x1++x2) acc.toArray (List.replicate k its.toArray)=(acc++(List.replicate k its).flatten).toArray
 | 0,acc=>by simp
 | k+1,acc=>by
  have e:acc.toArray++its.toArray=(acc++its).toArray:=by simp
  have e2:(acc++its)++(List.replicate k its).flatten=acc++(List.replicate (k+1) its).flatten:=by
   rw[Tg,flatten_cons,ro]
  rw[<-e2,<-foldl_rep its k (acc++its),<-e,Tg,foldl_cons]
variable {pins:List (Addr × Obj)}{H:Hp}{s:Shared}{l:Addr}{xs ys:List V}{σ:St}
theorem Inv.M5 {n:Nat}{f:Array Value->Array Value}{t':Nat}(I:Inv X pins σ H s)(hH:H l=some (.lst xs))
  (e:s.heap.get? l=some {cls:=.type "list",data:=.seq its.toArray n}) (hf:f its.toArray=its'.toArray) (hv:Vals ys its') (hz:ys.length<=sizeLine) :
  Inv X pins σ (upd H l (.lst ys)) {s with heap:=s.heap.update l (Obj.mapSeq f),toks:=t'}:=by
 have q:=PySem.IsL.update e f;rw[hf] at q;refine I.write (x:=l) (e:=l) (by rw[hH];exact trivial) (.inl rfl) (fun a u hb hu=>(Heap.get?_update_other s.heap (Obj.mapSeq f) (Ne.symm hb)).trans hu) ⟨_,q⟩ ?_
 exact⟨hz,its',_,hv,q⟩
theorem Inv.M6 {t':Nat}(I:Inv X pins σ H s)(hv:Vals ys its)(hz:ys.length<=sizeLine) :
  Inv X pins σ (upd H s.heap.objs.size (.lst ys)) {s with heap:=s.heap.push {cls:=.type "list",data:=.seq its.toArray},toks:=t'}:=
 I.laid (fun _ _ q=>ey _ q) (dy _) ⟨hz,its,0,hv,j9 _ rfl⟩
theorem Inv.fresh (I:Inv X pins σ H s):H s.heap.objs.size=none:=I.br.fresh (dy _)
theorem Inv.IU (I:Inv X pins σ H s)(hH:H l=some (.lst xs)):xs.length<=sizeLine/\∃ (its:List Value) (n:Nat),Vals xs its/\xs.length=its.length/\s.heap.get? l=some {cls:=.type "list",data:=.seq its.toArray n}:=by
 obtain⟨z,its,n,r,e⟩:=I.br l _ hH;exact⟨z,its,n,r,r.length,e⟩
theorem Eg {n:Nat}(h:n<=sizeLine):Builtin.List.listTooLong n=false:=by
 unfold Builtin.List.listTooLong;exact ed (by omega)
def IV:V->List V->Hp->VK->Prop:=fun x a H Q=>∃ l xs y,x=.ref l/\a=[y]/\H l=some (.lst xs)/\xs.length<sizeLine/\Q .bE (upd H l (.lst (xs++[y])))
theorem bA:R8 X "list.append" IV:=by
 intro c s σ H x i v j Q I d g h;obtain⟨l,m,y,rfl,rfl,b,hz,q⟩:=h
 cases d
 obtain⟨u,rfl,f⟩:=g.one;obtain⟨z,a,n,r,o,e⟩:=I.IU b;refine Pi ls ⟨_,e,rfl⟩ F.entry_list_append (F.args_list_append_2 _ _) (PySem.list_append l a.toArray n u (by rw[fO];omega)) ⟨e,?_⟩
 refine⟨.bE,_,I.M5 (its':=a++[u]) b e (by simp) (r.append (.cons f .nil)) ?_,rfl,q⟩
 rw[eG,List.length_singleton]
 omega
def Eh:V->List V->Hp->VK->Prop:=fun x a H Q=>∃ l xs i k y,x=.ref l/\a=[.int i]/\H l=some (.lst xs)/\-(2 ^ 63)<=i/\i<2 ^ 63/\seqIndex? i xs.length=some k/\xs[k]?=some y/\Q y (upd H l (.lst (xs.eraseIdx k)))
theorem Ei:R8 X "list.pop" Eh:=by
 intro d s σ H x B v C Q I f A h;obtain⟨l,g,i,k,y,rfl,rfl,c,h1,o,hk,hy,q⟩:=h
 cases f
 obtain⟨u,rfl,p⟩:=A.one;obtain⟨t,rfl⟩:=p;obtain⟨z,a,n,r,j,e⟩:=I.IU c;obtain⟨w,m,b⟩:=r.get hy;refine Pi F.slot_list_pop ⟨_,e,rfl⟩ F.entry_list_pop (F.args_list_pop_2 _ _)
  (MeetsSeq.list_pop_at l a.toArray n i t k w (fitsIndex_both h1 o) (by rw[fO,<-j];exact hk) (by rw[<-getElem?_toList];exact m) (by rw[fO];omega)) ⟨e,?_⟩
 refine⟨y,_,I.M5 (its':=a.eraseIdx k) c e ?_ (r.eraseIdx k) ?_,b,q⟩
 ·show a.toArray.eraseIdxIfInBounds k=(a.eraseIdx k).toArray;rw[List.eraseIdxIfInBounds_toArray]
 ·have:=qw g k
  omega
def R9:R2:=fun x y H Q=>∃ l k xs,x=.ref l/\y=.int k/\H l=some (.lst xs)/\-(2 ^ 63)<=k/\k<2 ^ 63/\xs.length*k.toNat<=sizeLine/\
 ∀ p,H p=none->Q (.ref p) (upd H p (.lst (List.replicate k.toNat xs).flatten))
theorem len_rep {α:Type}(xs:List α)(k:Nat):(List.replicate k xs).flatten.length=k*xs.length:=by
 induction k with
 | zero=>simp
 | succ k a=>rw[Tg,flatten_cons,eG,a,Nat.succ_mul,Nat.add_comm]
theorem M7:eC X (binaryOp .Mult) R9:=by
 intro p s σ H x y v u Q I E w h;obtain⟨l,k,J,rfl,rfl,A,h1,G,hz,q⟩:=h
 cases E
 obtain⟨t,rfl⟩:=w;obtain⟨z,b,n,r,C,e⟩:=I.IU A;have f:b.toArray.size*k.toNat<=sizeLine:=by rw[fO,<-C];exact hz
 have g:¬ b.toArray.size*k.toNat>(2 ^ 63 - 1) / 8:=by
  have:(sizeLine:Nat)<=(2 ^ 63 - 1) / 8:=by decide
  omega
 have i:¬ (!Builtin.List.listFitsIndex k)=true:=by
  rw[fitsIndex_both h1 G];exact hI
 have c:¬ Builtin.List.listTooLong (b.toArray.size*k.toNat)=true:=by
  rw[Eg f];exact hI
 have d:List.foldl (fun o j=>o++j) #[] (List.replicate (if b.toArray.isEmpty=true then 0 else k.toNat) b.toArray)=(List.replicate k.toNat b).flatten.toArray:=by
  have B:∀ m:Nat,List.foldl (fun o j=>o++j) #[] (List.replicate m b.toArray)=(List.replicate m b).flatten.toArray:=fun m=>by
   have:=foldl_rep b m []
   rw[nil_append] at this;exact this
  rw[B]
  cases b with
  | nil=>simp
  | cons a K=>rw[if_neg (by simp)]
 refine wpAny_binaryOp_repeat_ref (T:="list") (U:="int") (by decide) ⟨_,e,rfl⟩ (fun D=>typeIs_int D k t) noFill_list_mul F.fills_int_mul F.slot_int_rmul repeat_list F.slot_int_index.lookup
  (Pi F.slot_int_rmul (typeIs_int s k t) F.entry_int_rmul (F.args_int_rmul_2 _ _) (int___rmul___int_list k t l b.toArray n)
   ⟨e,rfl,⟨_,e,rfl⟩,Pi F.slot_list_mul ⟨_,e,rfl⟩ F.entry_list_mul (F.args_list_mul_2 _ _) (AutoListH.list___mul___list_int_3 l b.toArray n k t i g c) ⟨e,?_⟩⟩)
 rw[d];exact⟨.ref _,_,I.M6 (t':=s.toks) (r.rep k.toNat) (by rw[len_rep,Nat.mul_comm];exact hz),rfl,q _ I.fresh⟩
end L2
namespace Att
open PySem PySem.W PySem.Calls PyProof.Rows
variable {P:Params}
theorem mw {h:Heap}:∀ (ns:List Int) (vs:List Value),WellAll P h vs (ns.map WData.int)->IntsAre vs ns:=by
 intro ns
 induction ns with
 | nil=>
  intro vs w;rw[map_nil] at w
  cases w
  exact .nil
 | cons n ns c=>
  intro vs w;rw[map_cons] at w
  cases w with
  | cons a b=>
   cases a
   exact .cons _ _ (c _ b)
variable {l:OpenLaw}
theorem BU {n:Nat}(hn:l.most=some n){h:Heap}{args:List WData}{vals:List Value}
  (hpre:l.row.toRowW.claim.pre args=true) (hwl:WellAll P h vals args) :
  ∃ a vs ns,vals=[Value.ref a]/\args=[WData.list (ns.map WData.int)]/\h.get? a=some {cls:=.type "list",data:=.seq vs.toArray}/\IntsAre vs ns/\ns.length<=n:=by
 have f:WShape.hasAll [] args [.list .int]=true:=(pre_splitW hpre).1;have hc:l.pre.holds [] {args:=args}=true:=(pre_splitW hpre).2;obtain⟨d,r,rfl,h1,j⟩:=hasAllW_cons f;obtain rfl:=hasAllW_nil j;obtain⟨t,rfl,i⟩:=hasW_list h1;obtain⟨ns,rfl⟩:=items_int i;have b:ns.length<=n:=by
  unfold OpenLaw.pre at hc;have e:(WTm.not (.lt (.lit (.int (n:Int))) (.len (.arg 0)))).holds [] {args:=[.list (ns.map .int)]}=true:=by
   have e:=(holds_andW hc).1;rw[hn] at e;exact e
  have c:=condW_of e (w_not (w_lt w_lit (w_len_list (w_arg rfl))));rw[length_map] at c;refine Nat.le_of_not_lt fun q=>?_;have g:(n:Int)<((ns.length:Nat):Int):=by omega
  first
   | (rw[decide_eq_true g] at c;exact absurd c (by decide))
   | (simp at c;omega)
 cases hwl with
 | cons o s=>
  cases s
  cases o with
  | list m p=>exact⟨_,_,ns,rfl,rfl,m,mw ns _ p,b⟩
theorem BV (l:OpenLaw)(args:List WData):l.row.toRowW.claim.post args (.bool true) args=true:=
 postW_of (r:=l.row.toRowW) (X:=(true == true))
  (show WShape.has [] (.bool true) .bool=true by first | rfl | decide | simp[WShape.has,WShape.arms,WShape.armsAll])
  (show (WTm.eq .res (.lit (.bool true))).value [] {args:=args,res:=some (.bool true),after:=args}=some (.bool (true == true)) from w_eq_bool (w_res rfl) w_lit) rfl
variable {q:Program}{loose:List Str}{XP:(Str->Option Value)->Heap->Prop}{YP:World->Heap->Prop}{d:DefRec}
theorem uZ {n:Nat} 
  (hn:l.most=some n) (hdf:d.params.defaults=[])
  (call:∀ (w:World) (s₀ s₁:Shared) (mg mb:Str->Option Value) (fa:Addr) (o:Obj) (pm cd doc:Value) (a:Addr) (vs:List Value) (ns:List Int),
   Ground q loose [] XP w s₀ mg mb s₁.heap->YP w s₁.heap->
   s₁.heap.get? fa=some o->o.data=.func (docDef d.name d.params d.body d.scope pm cd doc)->s₁.heap.CodeRec cd d.name->mg d.name=some (.ref fa)->
   s₁.heap.get? a=some {cls:=.type "list",data:=.seq vs.toArray}->IntsAre vs ns->ns.length<=n->s₁.gens=#[]->
   codeAny (model l.prog w) callerA (.call (.ref fa) ⟨[.ref a],[]⟩) (fun r s'=>r=.ok (.ret (.bool true))/\OldK s₁.heap s'.heap/\s'.os=s₁.os/\AllBare s'.gens) s₁) :
  WalkO q loose XP YP l.row.toRowW d [] (fun f vs=>PySem.call f vs):=by
 intro w s₀ s₁ mg mb G Y fa o pm cd doc u kV x z h m i y p s E c t B j D;obtain rfl:u=.none:=Dflts.none m hdf;obtain rfl:kV=.none:=Dflts.noKw m;obtain⟨a,vs,ns,rfl,rfl,e,b,g⟩:=BU hn c j;refine enter_call (codeAny_mono (call w s₀ s₁ mg mb fa o pm cd doc a vs ns G Y x (fd_plain z) h i e b g y) fun r s' hq=>?_);obtain⟨rfl,C,v,A⟩:=hq;exact⟨.inl ⟨.bool true,.bool true,[],rfl,fun _=>rfl,.bool true,BV l _,fun _=>⟨List.Pairwise.nil,fun _ hm=>(nomatch hm)⟩⟩,C,v,A⟩
end Att
namespace L2
open PySem PySem.Spec PyProof.Rows
theorem qx:∀ {vs:List Value} {ns:List Int},IntsAre vs ns->Vals (ns.map V.int) vs
 | _,_,.nil=>.nil
 | _,_,.cons n t h=>.cons ⟨t,rfl⟩ (qx h)
def M8 (H:Hp):Prop:=∀ b,H b=none∨∃ o xs,H b=some (.jE o (.lst xs))
variable {a fa:Addr}{P:Program}{x:Str}
theorem Ej {w:World}{K:Frag}{mg mb:Str->Option Value}{CX:Dz}{k:Nat}{fd:FuncData}{sp:Sp}{s₁:Shared}{vs:List Value}{ns:List Int}
  (KX:K.In s₁.heap) (hns:s₁.heap.Ns mainGlobals mg) (hb:s₁.heap.Ns builtinsNs mb) (hbb:∀ x:Str,x≠"__name__"->mb x=bootBuiltins x) (hlim:s₁.heap.NoLimit) (hg:s₁.gens=#[])
  (ha:s₁.heap.get? a=some {cls:=.type "list",data:=.seq vs.toArray}) (hi:IntsAre vs ns) (hl:ns.length<=sizeLine) (hr:cM k callerA)
  (F:∀ base:Heap,K.In base->base.Ns mainGlobals mg->fj P w K mg base CX k fa fd [x] sp) (hbind:∀ (s:Shared) (u:Value),BindsTo s fd ⟨[u],[]⟩ [(x,u)])
  (hsp:∀ H:Hp,M8 H->ax K H a (ns.map V.int)->sp [.ref a] H (fun v _=>v=.bl true) fun _ _ _=>False)
  (hCX:∀ H e s',CX [] H s₁ (fun _ _ _=>False) e s'->False) :
  codeAny (model P w) callerA (.call (.ref fa) ⟨[.ref a],[]⟩) (fun r s'=>r=.ok (.ret (.bool true))/\OldK s₁.heap s'.heap/\s'.os=s₁.os/\AllBare s'.gens) s₁:=by
 have J:=qx hi;have l:=hi.length;have g:∀ H:Hp,M8 H->ax K H a (ns.map V.int)->jz P w H s₁.heap->(∀ b,H b≠none->b=a)->(H a≠none->K.lookup a=none)->
   codeAny (model P w) callerA (.call (.ref fa) ⟨[.ref a],[]⟩) (fun r s'=>r=.ok (.ret (.bool true))/\OldK s₁.heap s'.heap/\s'.os=s₁.os/\AllBare s'.gens) s₁:=by
  intro H G M I E Q;have c:∀ {b:Addr} {o:Obj},s₁.heap.get? b=some o->H b=none->(rJ s₁.heap H).get? b=some o:=fun e n=>DH e n;have C:∀ {b:Addr} {o:Obj} {i:Array DictEntry} {p:Nat},s₁.heap.get? b=some o->o.data=.dict i p->H b=none:=fun {b o i p} e d=>by
   cases q:H b with
   | none=>rfl
   | some u=>
    have B:b=a:=E b (by rw[q];simp)
    subst B;rw[ha] at e;cases e
    have S:Data.seq vs.toArray _=Data.dict i p:=d
    cases S
  have f:∀ {b:Addr} {m:Str->Option Value},s₁.heap.Ns b m->(rJ s₁.heap H).Ns b m:=fun {b m} ⟨o,i,p,e,d,r⟩=>⟨o,i,p,c e (C e d),d,r⟩;have j:K.In (rJ s₁.heap H):=fun b o e=>c (KX b o e) (by
   cases q:H b with
   | none=>rfl
   | some u=>
    have B:b=a:=E b (by rw[q];simp)
    subst B;rw[Q (by rw[q];simp)] at e;cases e)
  have T:Mod K mg (rJ s₁.heap H):=⟨j,f hns,⟨mb,f hb,hbb⟩,let ⟨mc,h1,h2⟩:=hlim;⟨mc,f h1,h2⟩⟩;have L:xS P w K mg (rJ s₁.heap H) callerA [] s₁ H:=⟨rfl,T,fun b o e=>Ii e,Nat.le_of_eq (BF _ _),trivial,fun b hb=>absurd (show b∈([]:List Addr) from hb) (by simp),I,.of_eq hg⟩
  refine TV ((F _ j (f hns)).run callerA [] s₁ H ⟨[.ref a],[]⟩ [.ref a] [.ref a] _ _ hr L (hbind s₁ (.ref a)) (.cons rfl .nil) (hsp H G M)) fun r s' h=>?_
  cases r with
  | error e=>exact(hCX H e s' h).elim
  | ok O=>
   cases O with
   | next=>exact False.elim h
   | brk=>exact False.elim h
   | cont=>exact False.elim h
   | ret u=>
    obtain⟨v,W,os,A,un,t,U,q⟩:=h;have R:v=.bl true:=q;subst R;obtain rfl:u=Value.bool true:=U;refine⟨rfl,OldK.of_keep fun b o e=>?_,os,A⟩
    cases q:H b with
    | none=>exact un.keep b o e q (by intro z;exact absurd (show b∈([]:List Addr) from z) (by simp)) (by simp)
    | some u=>
     rcases G b with z | ⟨ob,X,z⟩
     ·rw[q] at z;cases z
     ·have N:=un.ui b ob _ z;obtain⟨D,_⟩:=I b _ z;obtain⟨e2,_⟩:=t b _ N;rw[e] at D;cases D
      exact e2
 cases hk:K.lookup a with
 | some o=>
  have e:=KX a o hk;rw[ha] at e
  cases e
  refine g (fun _=>none) (fun _=>.inl rfl) (.inr ⟨_,vs.toArray,_,hk,rfl,rfl,rfl,by rw[fO,l];exact hl,by simpa using J⟩) (fun b u z=>by have y:(none:Option HO)=some u:=z;cases y) (fun b z=>absurd rfl z) fun z=>absurd rfl z
 | none=>
  refine g (fun b=>if b=a then some (.jE {cls:=.type "list",data:=.seq vs.toArray} (.lst (ns.map V.int))) else none) (fun b=>?_) (.inl (.inr ⟨{cls:=.type "list",data:=.seq vs.toArray},if_pos rfl⟩)) (fun b u z=>?_) (fun b z=>?_) fun _=>hk
  ·by_cases hb:b=a
   ·exact .inr ⟨_,_,if_pos hb⟩
   ·exact .inl (if_neg hb)
  ·by_cases hb:b=a
   ·have y:=(if_pos hb).symm.trans z
    cases y
    subst hb;exact⟨ha,by rw[cc];exact hl,vs,_,J,ha⟩
   ·have y:=(if_neg hb).symm.trans z
    cases y
  ·by_cases hb:b=a
   ·exact hb
   ·exact absurd (if_neg hb) z
theorem IW {l:PySem.W.OpenLaw}{n k:Nat}{q:Program}{loose:List Str}{XP:(Str->Option Value)->Heap->Prop}{YP:World->Heap->Prop}{d:DefRec}{K:Params->Frag}{CX:World->Dz}{sp:World->Sp} 
  (hn:l.most=some n) (hn2:n<=sizeLine) (hdf:d.params.defaults=[]) (hr:cM k callerA)
  (hY:∀ (w:World) (h:Heap),YP w h->(K w.params).In h)
  (F:∀ (w:World) (mg:Str->Option Value) (fa:Addr) (h:Heap),(K w.params).In h->h.Ns mainGlobals mg->mg d.name=some (.ref fa)->
   ∃ fd:FuncData,(∀ (s:Shared) (u:Value),BindsTo s fd ⟨[u],[]⟩ [(x,u)])/\
    ∀ base:Heap,(K w.params).In base->base.Ns mainGlobals mg->fj l.prog w (K w.params) mg base (CX w) k fa fd [x] (sp w))
  (hsp:∀ (w:World) (H:Hp) (a:Addr) (ns:List Int),ns.length<=n->M8 H->ax (K w.params) H a (ns.map V.int)->sp w [.ref a] H (fun v _=>v=.bl true) fun _ _ _=>False)
  (hCX:∀ (w:World) (H:Hp) (s:Shared) (e:Value) (s':Shared),CX w [] H s (fun _ _ _=>False) e s'->False) :
  PySem.W.WalkO q loose XP YP l.row.toRowW d [] (fun f vs=>PySem.call f vs):=by
 refine Att.uZ hn hdf fun w D r mg mb fa o J L B a vs ns G Y E I C m j i c z=>?_;have p:=hY w _ Y;obtain⟨fd,hb,t⟩:=F w mg fa _ p G.T.g m;exact Ej p G.T.g G.T.b G.T.builtins G.T.nolimit z j i (h9 c hn2) hr t hb (fun H A y=>hsp w H a ns c A y) fun H e s'=>hCX w H r e s'
def bB (s:Stmt):Arguments:=match s with
 | .FunctionDef _ a _ _ _ _ _ _ _ _=>a
 | _=>{posonlyargs:=[],args:=[],vararg:=none,kwonlyargs:=[],kw_defaults:=[],kwarg:=none,defaults:=[]}
def aY (s:Stmt):List Stmt:=match s with
 | .FunctionDef _ _ b _ _ _ _ _ _ _=>b
 | _=>[]
def ak (s:Stmt):Scope:=match s with
 | .FunctionDef _ _ _ _ _ _ sc _ _ _=>sc
 | _=>{kind:=.function,names:=[],isGenerator:=false,isCoroutine:=false}
abbrev BW:Dz:=fun _ _ _ _ _ _=>False
abbrev E0:XK:=fun _ _ _=>False
theorem KZ {X:Cx}:Passes BW X E0:=fun _ _ _ _ _ _ _ h=>h.elim
structure Ia (K:Frag)(x qual:Str)(st:Stmt)(f:Addr)(fd:FuncData):Prop where
 ex:∃ (oc:Value) (od:Option Addr) (kV doc pm:Value) (an:Option Addr) (cX ct:Value) (osl:Array (Option Value)),
  fd=fnOf x qual (bB st) (aY st) (ak st) .none kV doc pm an cX ct/\K.lookup f=some ⟨oc,od,.func fd,osl⟩/\codeIn K cX qual=true
 kp:keepIn K (.ref f)=true
variable {w:World}{K:Frag}{mg:Str->Option Value}{base:Heap}
theorem Ia.ok {qual:Str}{st:Stmt}{f:Addr}{fd:FuncData}{N ps:List Str}{k:Nat}{sp:Sp}(F:Ia K x qual st f fd)(S:j3 N ps (ak st))(len:∀ vs H Q E,sp vs H Q E->vs.length=ps.length)
  (eO:∀ (cX:Value) (A:Around) (outer:List Env) (s:Shared) (H:Hp) (vs:List V) (Q:VK) (E:XK),cM k (A.deeper (envOfC qual (ak st) s.heap.objs.size f cX))->sp vs H Q E->
   ∃ t,xw (uX BW P w K mg base N qual (ak st) f cX A outer s H E).KS (aY st) t/\t {nx:=fun _ H'=>Q .bE H',rt:=Q} (start N vs) H):fj P w K mg base BW (k+1) f fd ps sp:=by
 obtain⟨i,m,kV,d,l,j,cX,ct,g,rfl,e,b⟩:=F.ex;refine D6 e b S len fun A outer s H vs Q E c a=>?_;obtain⟨t,h,q⟩:=eO cX A outer s H vs Q E c a;exact⟨t,h.KS,q⟩
theorem Ia.binds {qual:Str}{st:Stmt}{f:Addr}{fd:FuncData}{ps:List Str}(F:Ia K x qual st f fd)
  (h:∀ (kV doc pm:Value) (an:Option Addr) (cX ct:Value) (us:List Value),us.length=ps.length->bindArgs (fnOf x qual (bB st) (aY st) (ak st) .none kV doc pm an cX ct) ⟨us,[]⟩=pure (ps.zip us)):Binds K fd ps []:=by
 obtain⟨c,e,kV,doc,pm,an,cX,ct,b,rfl,d,a⟩:=F.ex;exact .all (h kV doc pm an cX ct)
theorem x9 {qual:Str}{st:Stmt}{f:Addr}{oc:Value}{od an:Option Addr}{osl:Array (Option Value)}{kV doc pm cX ct:Value}(l:K.lookup f=some ⟨oc,od,.func (fnOf x qual (bB st) (aY st) (ak st) .none kV doc pm an cX ct),osl⟩)
  (c:codeIn K cX qual=true) (k:keepIn K (.ref f)=true):Ia K x qual st f (fnOf x qual (bB st) (aY st) (ak st) .none kV doc pm an cX ct):=⟨⟨oc,od,kV,doc,pm,an,cX,ct,osl,rfl,l,c⟩,k⟩
theorem aB {n:Nat}(h:n<=1000):n<sizeLine:=A6 h (by decide)
variable {B:Prop}
theorem bU {c A:Prop}[Decidable c](h1:c->A)(h2:¬ c->B):if c then A else B:=by
 by_cases h:c
 ·rw[if_pos h];exact h1 h
 ·rw[if_neg h];exact h2 h
def ah (H H':Hp):Prop:=∀ b o,H b=some o->H' b=some o
theorem ah.refl (H:Hp):ah H H:=fun _ _ h=>h
variable {H2:Hp}
theorem ah.trans {H H1:Hp}(a:ah H H1)(b:ah H1 H2):ah H H2:=fun c o h=>b c o (a c o h)
theorem ah.free {H H':Hp}(e:ah H H'){l:Addr}(h:H' l=Option.none):H l=Option.none:=by
 cases q:H l with
 | none=>rfl
 | some o=>
  rw[e l o q] at h
  cases h
theorem ah.seq {H H':Hp}{xs:List V}(e:ah H H')(h:ax K H a xs):ax K H' a xs:=by
 rcases h with (h | ⟨o,h⟩) | h
 ·exact .inl (.inl (e _ _ h))
 ·exact .inl (.inr ⟨o,e _ _ h⟩)
 ·exact .inr h
variable {κ:Type}[DecidableEq κ]
def cZ (kvs:List (κ × V))(k:κ):Option V:=(kvs.find? fun kv=>decide (kv.1=k)).map (·.2)
def putK (kvs:List (κ × V))(k:κ)(v:V):List (κ × V):=
 if (kvs.any fun kv=>decide (kv.1=k))=true then kvs.map (fun kv=>if kv.1=k then (kv.1,v) else kv) else kvs++[(k,v)]
theorem Ek {k:κ}:cZ ([]:List (κ × V)) k=none:=rfl
theorem cQ {p:κ × V}{r:List (κ × V)}{k:κ}(e:p.1=k):cZ (p::r) k=some p.2:=by simp[cZ,find?_cons,e]
theorem cR {p:κ × V}{r:List (κ × V)}{k:κ}(e:¬ p.1=k):cZ (p::r) k=cZ r k:=by simp[cZ,find?_cons,e]
theorem iy (k:κ):∀ kvs:List (κ × V),(kvs.any fun kv=>decide (kv.1=k))=(cZ kvs k).isSome
 | []=>rfl
 | p::r=>by
  rw[any_cons]
  by_cases e:p.1=k
  ·simp only[cQ e,decide_eq_true e,Bool.true_or,isSome_some]
  ·rw[cR e,ed e,Bool.false_or];exact iy k r
theorem u6 (k j:κ)(y:V):∀ kvs:List (κ × V),cZ (kvs.map fun kv=>if kv.1=k then (kv.1,y) else kv) j=(cZ kvs j).map fun x=>if j=k then y else x
 | []=>rfl
 | p::r=>by
  have a:=u6 k j y r;rw[oD]
  by_cases h:p.1=k
  ·rw[if_pos h]
   by_cases e:p.1=j
   ·rw[cQ (p:=(p.1,y)) e,cQ e,map_some,if_pos (e.symm.trans h)]
   ·rw[cR (p:=(p.1,y)) e,cR e,a]
  ·rw[if_neg h]
   by_cases e:p.1=j
   ·rw[cQ (p:=p) e,cQ e,map_some,if_neg (fun z=>h (e.trans z))]
   ·rw[cR (p:=p) e,cR e,a]
theorem qy (k j:κ)(y:V):∀ kvs:List (κ × V),cZ kvs k=none->cZ (kvs++[(k,y)]) j=if j=k then some y else cZ kvs j
 | [],_=>by
  by_cases e:k=j
  ·rw[if_pos e.symm];exact cQ (p:=(k,y)) e
  ·rw[if_neg (fun z=>e z.symm)];exact cR (p:=(k,y)) e
 | p::r,hn=>by
  rw[cons_append];have hk:¬ p.1=k:=fun z=>by rw[cQ z] at hn;cases hn
  rw[cR hk] at hn;have a:=qy k j y r hn
  by_cases e:p.1=j
  ·rw[cQ e,cQ e,if_neg (fun z=>hk (e.trans z))]
  ·rw[cR e,cR e,a]
theorem El (kvs:List (κ × V))(k j:κ)(y:V):cZ (putK kvs k y) j=if j=k then some y else cZ kvs j:=by
 unfold putK
 by_cases a:(kvs.any fun kv=>decide (kv.1=k))=true
 ·rw[if_pos a,u6];rw[iy] at a
  by_cases e:j=k
  ·obtain⟨x,hx⟩:=Option.isSome_iff_exists.mp a;rw[if_pos e,e,hx,map_some,if_pos rfl]
  ·rw[if_neg e]
   cases cZ kvs j with
   | none=>rfl
   | some x=>rw[map_some,if_neg e]
 ·rw[if_neg a];refine qy k j y kvs ?_;rw[iy] at a
  cases q:cZ kvs k with
  | none=>rfl
  | some x=>rw[q] at a;exact(a rfl).elim
theorem lW (kvs:List (κ × V))(k:κ)(v:V):(putK kvs k v).length<=kvs.length+1:=by
 unfold putK
 split
 ·rw[cc];omega
 ·rw[eG,qs,length_nil];omega
theorem Em {kvs:List (κ × V)}{k:κ}(v:V)(h:cZ kvs k=none):putK kvs k v=kvs++[(k,v)]:=by
 unfold putK;rw[iy,h];exact if_neg (by decide)
variable {o:Option V}
theorem ir.jc {u:Option Value}(r:ir o u):o.isSome=u.isSome:=by
 cases o with
 | none=>cases u with
  | none=>rfl
  | some _=>exact(show False from r).elim
 | some _=>cases u with
  | none=>exact(show False from r).elim
  | some _=>rfl
theorem KV.val {kvs:List (κ × V)}{vs:List (κ × Value)}(r:KV kvs vs)(k:κ):ir (cZ kvs k) (valueAt vs k):=by
 unfold KV at r
 induction r with
 | nil=>exact True.intro
 | @cons p q g c h t d=>
  obtain⟨h1,f⟩:=h
  by_cases e:p.1=k
  ·have a:q.1=k:=h1.symm.trans e;have b:valueAt (q::c) k=some q.2:=by simp[valueAt,find?_cons,a]
   rw[cQ e,b];exact f
  ·have a:¬ q.1=k:=fun z=>e (h1.trans z);have b:valueAt (q::c) k=valueAt c k:=by simp[valueAt,find?_cons,a]
   rw[cR e,b];exact d
theorem KV.any {kvs:List (κ × V)}{vs:List (κ × Value)}(r:KV kvs vs)(k:κ):(kvs.any fun kv=>decide (kv.1=k))=vs.any fun kv=>decide (kv.1=k):=by
 unfold KV at r
 induction r with
 | nil=>rfl
 | cons h t a=>rw[any_cons,any_cons,a,h.1]
theorem KV.M9 {kvs:List (κ × V)}{vs:List (κ × Value)}(r:KV kvs vs)(k:κ){y:V}{u:Value}(ry:RelV y u) :
  KV (kvs.map fun kv=>if kv.1=k then (kv.1,y) else kv) (vs.map fun kv=>if kv.1=k then (kv.1,u) else kv):=by
 unfold KV at r ⊢
 induction r with
 | nil=>exact .nil
 | @cons p q d c h t a=>
  rw[oD,oD];refine .cons ?_ a;obtain⟨h1,b⟩:=h
  by_cases e:p.1=k
  ·rw[if_pos e,if_pos (h1.symm.trans e)];exact⟨h1,ry⟩
  ·rw[if_neg e,if_neg (fun z=>e (h1.trans z))];exact⟨h1,b⟩
theorem KV.put {kvs:List (κ × V)}{vs:List (κ × Value)}(r:KV kvs vs)(k:κ){y:V}{u:Value}(ry:RelV y u):KV (putK kvs k y) (stored vs k u):=by
 unfold putK stored;rw[r.any k]
 by_cases e:(vs.any fun kv=>decide (kv.1=k))=true
 ·rw[if_pos e,if_pos e];exact r.M9 k ry
 ·rw[if_neg e,if_neg e];exact Paired.snoc r ⟨rfl,ry⟩
theorem KV.keys {kvs:List (κ × V)}{vs:List (κ × Value)}(r:KV kvs vs):kvs.map (·.1)=vs.map (·.1):=by
 unfold KV at r
 induction r with
 | nil=>rfl
 | cons h t a=>rw[oD,oD,a,h.1]
theorem KV.length {kvs:List (κ × V)}{vs:List (κ × Value)}(r:KV kvs vs):kvs.length=vs.length:=Paired.length r
theorem qz {k:Key}{u:Value}(r:RelV (kV k) u):(bT P w).is k u=true:=by
 cases k with
 | inl i=>obtain⟨t,e⟩:=(show ∃ t,u=Value.int i t from r);subst e;exact uO P w i t
 | inr x=>obtain⟨t,e⟩:=(show ∃ t,u=Value.str x t from r);subst e;exact bM P w x t
theorem qA {P:Program}{w:World}:∀ {ks:List Key} {us:List Value},Vals (ks.map kV) us->ItemsAre (bT P w) ks us
 | [],_,r=>by rw[map_nil] at r;cases r;exact .nil
 | k::ks,_,r=>by
  rw[oD] at r
  cases r with
  | cons h t=>exact .cons (qz h) (qA t)
abbrev KT (H:Hp):List (List Key × V)->List (List Key × Addr × Value)->Prop:=Paired fun p q=>p.1=q.1/\H q.2.1=some (.tup (p.1.map kV))/\RelV p.2 q.2.2
variable {xs:List (List Key × Addr × Value)}{kvs:List (List Key × V)}
theorem KT.val {H:Hp}(r:KT H kvs xs)(k:List Key):ir (cZ kvs k) ((atKey xs k).map (·.2)):=by
 induction r with
 | nil=>exact True.intro
 | @cons p q g c h t d=>
  obtain⟨h1,_,f⟩:=h
  by_cases e:p.1=k
  ·have a:q.1=k:=h1.symm.trans e;have b:atKey (q::c) k=some q.2:=by simp[atKey,find?_cons,a]
   rw[cQ e,b];exact f
  ·have a:¬ q.1=k:=fun z=>e (h1.trans z);have b:atKey (q::c) k=atKey c k:=by simp[atKey,find?_cons,a]
   rw[cR e,b];exact d
theorem KT.M9 {H:Hp}(r:KT H kvs xs)(k:List Key){y:V}{u:Value}(ry:RelV y u) :
  KT H (kvs.map fun kv=>if kv.1=k then (kv.1,y) else kv) (xs.map (putAt k u)):=by
 induction r with
 | nil=>exact .nil
 | @cons p q f d h t c=>
  rw[oD,oD];refine .cons ?_ c;obtain⟨h1,a,b⟩:=h;unfold putAt
  by_cases e:p.1=k
  ·rw[if_pos e,if_pos (h1.symm.trans e)];exact⟨h1,a,ry⟩
  ·rw[if_neg e,if_neg (fun z=>e (h1.trans z))];exact⟨h1,a,b⟩
theorem KT.put {H:Hp}(r:KT H kvs xs)(k:List Key){b:Addr}{y:V}{u:Value}(hb:H b=some (.tup (k.map kV)))(ry:RelV y u) :
  KT H (putK kvs k y) (storedH xs k b u):=by
 have e:(kvs.any fun kv=>decide (kv.1=k))=(atKey xs k).isSome:=by
  rw[iy,(r.val k).jc,isSome_map]
 unfold putK storedH;rw[e]
 by_cases q:(atKey xs k).isSome=true
 ·rw[if_pos q,if_pos q];exact r.M9 k ry
 ·rw[if_neg q,if_neg q];exact Paired.snoc r ⟨rfl,hb,ry⟩
theorem KT.keeps {H H':Hp}(r:KT H kvs xs)(ht:∀ b ys,H b=some (.tup ys)->H' b=some (.tup ys)):KT H' kvs xs:=
 Paired.Mg r fun _ _ z=>⟨z.1,ht _ _ z.2.1,z.2.2⟩
variable {H:Hp}{h:Heap}
theorem K0 {u:HO}(ok:jz P w H h)(e:Rd H a u):bS P w H h a u:=e.ok ok
variable {kvs:List (Key × V)}
theorem u9 (ok:jz P w H h)(e:Rd H a (.dK kvs)):kvs.length<=sizeLine/\(a == sysModules)=false/\∃ vs,KV kvs vs/\h.DictOf (bT P w) a vs:=
 show bS P w H h a (.dK kvs) from K0 ok e
theorem K1 (ok:jz P w H h)(e:H a=some (.dK kvs)):kvs.length<=sizeLine/\(a == sysModules)=false/\∃ vs,KV kvs vs/\h.DictOf (bT P w) a vs:=u9 ok (.inl e)
theorem r9 {ks:List Key}(ok:jz P w H h)(e:H a=some (.tup (ks.map kV))):(tupleKind (bT P w)).is h ks a:=by
 obtain⟨_,b,r,o,h1,d,n,c⟩:=(show bS P w H h a (.tup (ks.map kV)) from ok a _ e)
 exact⟨o,b.toArray,n,h1,d,c,by simpa using qA r⟩
variable {kvs:List (List Key × V)}
theorem Ap (ok:jz P w H h)(e:Rd H a (.dT kvs)):kvs.length<=sizeLine/\(a == sysModules)=false/\
  ∃ xs,KT H kvs xs/\h.DictOfH (tupleKind (bT P w)) a xs:=by
 obtain⟨z,y,xs,r,o,c,d,h1,f,b,j,g⟩:=(show bS P w H h a (.dT kvs) from K0 ok e)
 refine⟨z,y,xs,r,o,c,d,h1,f,b,j,fun x hx=>?_,g⟩;have all:∀ {l:List (List Key × V)} {m:List (List Key × Addr × Value)},KT H l m->∀ x∈m,(tupleKind (bT P w)).is h x.1 x.2.1:=by
  intro l m q
  induction q with
  | nil=>intro x hx;exact nomatch hx
  | @cons p q s n hq t i=>
   intro x hx
   rcases hU.mp hx with e | hx
   ·subst e;exact r9 ok (by rw[<-hq.1];exact hq.2.1)
   ·exact i x hx
 exact all r x hx
theorem Pc (ok:jz P w H h)(e:H a=some (.dT kvs)):kvs.length<=sizeLine/\(a == sysModules)=false/\
  ∃ xs,KT H kvs xs/\h.DictOfH (tupleKind (bT P w)) a xs:=Ap ok (.inl e)
def jB (H:Hp)(a:Addr)(y:V)(r:Option V):Prop:=
 (∃ kvs k,Rd H a (.dK kvs)/\y=kV k/\r=cZ kvs k)∨∃ kvs k b,Rd H a (.dT kvs)/\y=.ref b/\H b=some (.tup (k.map kV))/\r=cZ kvs k
def sf (H:Hp)(a:Addr)(y v:V)(H':Hp):Prop:=
 (∃ kvs k,H a=some (.dK kvs)/\y=kV k/\kvs.length<sizeLine/\H'=upd H a (.dK (putK kvs k v)))∨
 ∃ kvs k b,H a=some (.dT kvs)/\y=.ref b/\H b=some (.tup (k.map kV))/\kvs.length<sizeLine/\H'=upd H a (.dT (putK kvs k v))
theorem jB.k {H:Hp}{a:Addr}{kvs:List (Key × V)}{k:Key}(e:H a=some (.dK kvs)):jB H a (kV k) (cZ kvs k):=.inl ⟨kvs,k,.inl e,rfl,rfl⟩
theorem sf.k {H:Hp}{a:Addr}{kvs:List (Key × V)}{k:Key}{v:V}(e:H a=some (.dK kvs))(hl:kvs.length<sizeLine):sf H a (kV k) v (upd H a (.dK (putK kvs k v))):=.inl ⟨kvs,k,e,rfl,hl,rfl⟩
variable {X:Cx}{pins:List (Addr × Obj)}{s:Shared}{σ:St}
theorem Inv.big (I:Inv X pins σ H s):sysModules<s.heap.objs.size:=by
 have h:mainGlobals<s.heap.objs.size:=(I.mod.glob.keeps I.bk).lt;exact Ti (by decide) h
variable {y v:V}{u:Value}{A:Around}{E:Value->Shared->Prop}
theorem BX {Q:Value->Shared->Prop}(hu:A.units+1<cLine)(I:Inv X pins σ H s)(g:jB H a y (some v))(ry:RelV y u)(h:∀ w' s',Inv X pins σ H s'->RelV v w'->Q w' s') :
  wpAny (model X.prog X.w) A (getItem (.ref a) u) Q E s:=by
 rcases g with ⟨n,k,e,j,l⟩ | ⟨n,k,b,e,j,q,l⟩
 ·subst j;obtain⟨z,B,r,d,i⟩:=u9 I.br e;obtain⟨w',f,c⟩:=ir.some_of (v:=v) (o:=valueAt r k) (by rw[l];exact d.val k)
  exact wpAny_getItem_of (qz ry) i.mapOf f (h w' _ (I.tok _) c)
 ·subst j
  cases (show u=Value.ref b from ry)
  obtain⟨z,B,t,d,i⟩:=Ap I.br e;obtain⟨w',f,c⟩:=ir.some_of (v:=v) (o:=(atKey t k).map (·.2)) (by rw[l];exact d.val k)
  obtain⟨p,x,m⟩:=Option.map_eq_some_iff.mp f;refine wpAny_getItem_heap (tupleKind_room_in1 hu) (r9 I.br q) i x ?_;rw[m];exact h w' _ (I.tok _) c
theorem Sa {Q:Value->Shared->Prop}(hu:A.units+1<cLine)(I:Inv X pins σ H s)(g:jB H a y o)(ry:RelV y u)(h:∀ s',Inv X pins σ H s'->Q (.bool o.isSome) s') :
  wpAny (model X.prog X.w) A (compareOp .In u (.ref a)) Q E s:=by
 rcases g with ⟨i,k,e,j,l⟩ | ⟨i,k,b,e,j,m,l⟩
 ·subst j;obtain⟨z,d,n,c,f⟩:=u9 I.br e;refine wpAny_in_of (qz ry) d f.mapOf ?_;rw[<-(c.val k).jc,<-l];exact h _ (I.tok _)
 ·subst j
  cases (show u=Value.ref b from ry)
  obtain⟨z,d,p,c,f⟩:=Ap I.br e;refine wpAny_in_heap (tupleKind_room_in1 hu) (r9 I.br m) d f ?_;have q:=(c.val k).jc;rw[isSome_map] at q;rw[<-q,<-l];exact h _ (I.tok _)
theorem Aq {h':Heap}{t':Nat}{ob:HO}(I:Inv X pins σ H s)(mu:OW (H a))(hs:SameBut a s.heap h')(he:∃ q,h'.get? a=some q)(new:bS X.prog X.w (upd H a ob) h' a ob) :
  Inv X pins σ (upd H a ob) {s with heap:=h',toks:=t'}:=
 I.write (x:=a) (e:=a) mu (.inl rfl) (fun b q hb z=>(hs.2 b hb).trans z) he new
variable {kvs:List (Key × V)}
theorem Na {H':Hp}{h':Heap}{vs:List (Key × Value)}(z:kvs.length<=sizeLine)(hd:(a == sysModules)=false)(rel:KV kvs vs)(dd:h'.DictOf (bT P w) a vs) :
  bS P w H' h' a (.dK kvs):=⟨z,hd,vs,rel,dd⟩
variable {r:Value}
theorem BY {H':Hp}{Q:Unit->Shared->Prop}(hu:A.units+1<cLine)(I:Inv X pins σ H s)(g:sf H a y v H')(ry:RelV y u)(rv:RelV v r)(h:∀ s',Inv X pins σ H' s'->Q () s') :
  wpAny (model X.prog X.w) A (setItem (.ref a) u r) Q E s:=by
 rcases g with ⟨f,k,e,m,l,j⟩ | ⟨f,k,b,e,m,x,l,j⟩
 ·subst m j;obtain⟨z,p,G,d,t⟩:=K1 I.br e;have hz:G.length<=sizeLine:=by rw[<-d.length];exact z
  have n:(putK f k v).length<=sizeLine:=by have:=lW f k v;omega
  refine wpAny_setItem_pairs (hsz:=hz) (qz ry) t fun B i o=>h _ ?_;have he:∃ q,B.get? a=some q:=let ⟨q,_,_,hq,_⟩:=i;⟨q,hq⟩;exact Aq I (by rw[e];exact True.intro) o he (Na n p (d.put k rv) i)
 ·subst m j
  cases (show u=Value.ref b from ry)
  obtain⟨z,p,K,d,t⟩:=Pc I.br e;have hz:K.length<=sizeLine:=by rw[<-Paired.length d];exact z
  have n:(putK f k v).length<=sizeLine:=by have:=lW f k v;omega
  refine wpAny_setItem_heap (hsz:=hz) (tupleKind_room_in1 hu) (r9 I.br x) t fun B i o=>h _ ?_;obtain⟨q,F,J,hq,L,D,N,_,M⟩:=i;refine Aq I (by rw[e];exact True.intro) o ⟨q,hq⟩ ⟨n,p,_,(d.put k x rv).keeps fun c O C=>?_,q,F,J,hq,L,D,N,M⟩
  rw[aG (gj C e (fun z=>nomatch z))];exact C
theorem Pd {Q:Value->Shared->Prop}(I:Inv X pins σ H s)(e:Rd H a (.dK kvs))(h:∀ t s',Inv X pins σ H s'->Q (.int kvs.length t) s'):wpAny (model X.prog X.w) A (call (.builtin "len") [.ref a]) Q E s:=by
 obtain⟨z,c,f,b,d⟩:=u9 I.br e;refine call_len_dict c d (by rw[<-b.length];rw[sizeLine_eq] at z;omega) ?_
 rw[<-b.length];exact h _ _ (I.tok _)
def IZ (i:Expr):Prop:=∀ ov iv,subscripted i false ov iv=operate [ov,iv] (getItem ov iv)
variable {value:Expr}
theorem Ar {prog:Program}{env:Env}{slice:Expr}{pos:Pos}{T id:String}{Q:Value->Shared->Prop}
  (hl:typeLookup (.type T) "__getitem__"=pure (some (.builtin id))) (hs:IZ slice)
  (h:wpAny (model prog w) A (eval value env) (fun o s₁=>wpAny (model prog w) A (eval slice env) (fun i s₂=>s₂.TypeIs o T/\wpAny (model prog w) A (getItem o i) Q E s₂) E s₁) E s) :
  wpAny (model prog w) A (eval (.Subscript value slice pos) env) Q E s:=by
 refine Subscript_ (E4 h (fun o s₁ e=>E4 e (fun i s₂ b=>?_) fun _ _ x=>x) fun _ _ x=>x);obtain⟨c,b⟩:=b;unfold subscriptTail;refine cv ?_;rw[getitemInPython_of_ne c.not_modules];refine cv (wpAny_specialOf c hl ?_);have a:wpAny (model prog w) A (subscripted slice false o i) (fun r d=>wpAny (model prog w) A (letTemporaryGo value o r >>= fun _=>pure r) Q E d) E s₂:=by
  rw[hs o i];exact wpAny_operating (E4 b (fun r d f=>cv (wpAny_letTemporaryGo (gd f))) fun _ _ x=>x)
 first
  | exact gd (cv a)
  | exact cv (gd (cv a))
  | exact cv a
theorem vc {σ:St}(I:Inv X pins σ H s)(g:jB H a y o):s.TypeIs (.ref a) "dict":=by
 rcases g with ⟨d,k,e,_,_⟩ | ⟨d,k,b,e,_,_,_⟩
 ·obtain⟨_,_,f,_,c⟩:=u9 I.br e;exact c.typeIs
 ·obtain⟨_,_,h,_,c⟩:=Ap I.br e;exact c.typeIs
def En (td ty:TE):TE:=fun σ H Q=>td σ H fun x H1=>ty σ H1 fun y b=>∃ a v,x=.ref a/\jB b a y (some v)/\Q v b
def I0 (ty td:TE):TE:=fun σ H Q=>ty σ H fun y H1=>td σ H1 fun x b=>∃ a o,x=.ref a/\jB b a y o/\Q (.bl o.isSome) b
def Eo (td ty tv:TE):TS:=fun D σ H=>tv σ H fun v H1=>td σ H1 fun x b=>ty σ b fun y c=>∃ a H4,x=.ref a/\sf c a y v H4/\D.nx σ H4
variable {o i:Expr}{pos:Pos}{td ty:TE}
theorem Ja (hu:X.A.units+1<cLine)(ho:PE X o td)(hi:PE X i ty)(hs:IZ i):PE X (.Subscript o i pos) (En td ty):=by
 intro b s σ H Q I h;refine Ar PySem.F.slot_dict_getitem.lookup hs (bV (ho b s σ H _ I h) fun u r ⟨x,H1,q,j,n⟩=>bV (hi b r σ H1 _ q n) fun t w ⟨y,p,d,f,a,v,e,g,l⟩=>?_);subst e;obtain rfl:u=Value.ref a:=j;exact⟨vc d g,BX hu d g f fun z B m c=>⟨v,p,m,c,l⟩⟩
theorem Ep (hu:X.A.units+1<cLine)(hi:PE X i ty)(ho:PE X o td):PC X .In i o (I0 ty td):=by
 intro b s σ H Q I h;refine bV (hi b s σ H _ I h) fun t r ⟨y,H1,q,e,m⟩=>bV (ho b r σ H1 _ q m) fun u v ⟨x,p,n,f,a,c,d,g,j⟩=>?_;subst d;obtain rfl:u=Value.ref a:=f;exact Sa hu n g e fun w l=>⟨.bl c.isSome,p,l,rfl,j⟩
variable {pos':Pos}{tv:TE}
theorem Jb (hu:X.A.units+1<cLine)(ho:PE X o td)(hi:PE X i ty)(hv:PE X value tv)(hs:swapsWith value (some (.Subscript o i pos')) pos.line X.env=pure false) :
  PS X (.Assign [.Subscript o i pos'] value pos) (Eo td ty tv):=by
 intro b s σ H D I h;refine wpAny_Assign_Subscript (bV (hv b s σ H _ I h) fun r C ⟨v,H1,t,B,m⟩=>bV (ho b C σ H1 _ t m) fun u q ⟨x,p,n,e,f⟩=>bV (hi b q σ p _ n f) fun E G ⟨y,F,j,d,a,z,c,g,w⟩=>?_) hs;subst c;obtain rfl:u=Value.ref a:=e;exact BY hu j g d B fun J l=>⟨σ,z,l,w⟩
theorem Er (h:Heap)(hb:sysModules<h.objs.size):bS P w H (h.push {cls:=.type "dict",data:=.dict #[]}) h.objs.size (.dK []):=
 ⟨zero_le _,Dq.mpr (Ne.symm (nt hb)),[],.nil,Heap.DictOf.new h⟩
def ya:TE:=fun _ H Q=>∀ p,H p=none->Q (.ref p) (upd H p (.dK []))
theorem Es:PE X (.Dict [] [] pos) ya:=fun b s σ H Q I h=>
 wpAny_Dict_empty ⟨.ref s.heap.objs.size,_,I.laid (a:=s.heap.objs.size) (o:=.dK []) (t':=s.toks) (fun _ _ q=>ey _ q) (dy _) (Er s.heap I.big),rfl,h _ (I.br.fresh (dy _))⟩
def rl (scope osc:Scope):Scope:=
 {scope with names:=scope.names.map fun (n,k)=>if (k == .free&&osc.kind == .function&&osc.names.lookup n == some .cell) then (n,.cell) else (n,k)}
def fD (env:Env):List (Str × NameKind)->List (Str × Addr)->List (Str × Addr)
 | [],a=>a
 | (n,k)::r,a=>if (k == NameKind.free)=true then fD env r ((n,(env.cells.lookup n).getD 0)::a) else fD env r a
theorem js {env:Env}:∀ (names:List (Str × NameKind)) (cs:List (Str × Addr)),(∀ x∈names,x.2=.free->∃ c,env.cells.lookup x.1=some c)->
  (forIn names cs fun (x:Str × NameKind) (r:List (Str × Addr))=>if (x.2 == NameKind.free)=true then (do let y<-cellOf env x.1;pure (ForInStep.yield ((x.1,y)::r))) else (pure (ForInStep.yield r):Sem _))=(pure (fD env names cs):Sem _)
 | [],cs,_=>rfl
 | (n,k)::r,cs,h=>by
  have d:=fun b=>js (env:=env) r b fun x hx=>h x (eH _ hx);rw[forIn_cons]
  by_cases hk:(k == NameKind.free)=true
  ·obtain⟨c,hc⟩:=h (n,k) fA (by simpa using hk)
   have a:env.cells.lookup n=some c:=hc;have e:cellOf env n=(pure c:Sem Addr):=by unfold cellOf;rw[a]
   simp only[hk,if_true,e,pure_bind];rw[d];have e2:fD env ((n,k)::r) cs=fD env r ((n,c)::cs):=by
    show (if (k == NameKind.free)=true then fD env r ((n,(env.cells.lookup n).getD 0)::cs) else fD env r cs)=_
    rw[if_pos hk,a]<;>rfl
   rw[e2]
  ·simp only[hk,if_false,pure_bind];show (forIn r cs _:Sem _)=_;rw[d];have e2:fD env ((n,k)::r) cs=fD env r cs:=by
    show (if (k == NameKind.free)=true then fD env r ((n,(env.cells.lookup n).getD 0)::cs) else fD env r cs)=_
    rw[if_neg hk]
   rw[e2]
theorem pe {scope:Scope}{env:Env}(h:∀ x∈scope.names,x.2=.free->∃ c,env.cells.lookup x.1=some c):closureFor scope env=pure (fD env scope.names []):=by
 have q:=js scope.names [] h;show ((forIn scope.names ([]:List (Str × Addr)) fun (x:Str × NameKind) (r:List (Str × Addr))=>if (x.2 == NameKind.free)=true then (do let y<-cellOf env x.1;pure (ForInStep.yield ((x.1,y)::r))) else (pure (ForInStep.yield r):Sem _)) >>= fun a=>pure a)=_
 rw[q,pure_bind]
theorem nz {env:Env}:∀ (names:List (Str × NameKind)) (cs:List (Str × Addr)),(∀ x∈names,x.2=.free->∃ c,env.cells.lookup x.1=some c)->(∀ x c,cs.lookup x=some c->env.cells.lookup x=some c)->
  ∀ x c,(fD env names cs).lookup x=some c->env.cells.lookup x=some c
 | [],_,_,h,x,c,e=>h x c e
 | (n,k)::r,cs,f,h,x,c,e=>by
  have b:∀ x∈r,x.2=.free->∃ c,env.cells.lookup x.1=some c:=fun x hx=>f x (eH _ hx);unfold fD at e
  by_cases hk:(k == NameKind.free)=true
  ·rw[if_pos hk] at e;obtain⟨g,hc⟩:=f (n,k) fA (by simpa using hk)
   have a:env.cells.lookup n=some g:=hc;refine nz r _ b (fun y d q=>?_) x c e;rw[Te] at q
   cases hy:y == n with
   | true=>
    rw[hy] at q
    have:y=n:=by simpa using hy
    subst this;rw[a] at q
    cases q
    exact a
   | false=>rw[hy] at q;exact h y d q
  ·rw[if_neg hk] at e;exact nz r cs b h x c e
theorem kY {env:Env}:∀ (names:List (Str × NameKind)) (cs:List (Str × Addr)) (x:Str),(∃ c,cs.lookup x=some c)->∃ c,(fD env names cs).lookup x=some c
 | [],_,_,h=>h
 | (n,k)::r,cs,x,h=>by
  unfold fD
  split
  ·refine kY r _ x ?_;rw[Te]
   cases hy:x == n with
   | true=>exact⟨_,rfl⟩
   | false=>exact h
  ·exact kY r cs x h
theorem kh {env:Env}:∀ (names:List (Str × NameKind)) (cs:List (Str × Addr)) (x:Str),(x,NameKind.free)∈names->∃ c,(fD env names cs).lookup x=some c
 | [],_,_,h=>(nomatch h)
 | (n,k)::r,cs,x,h=>by
  unfold fD
  rcases hU.mp h with e | h
  ·cases e
   rw[if_pos (by rfl)]
   exact kY r _ _ ⟨_,by rw[Te,TJ]⟩
  ·split
   ·exact kh r _ x h
   ·exact kh r cs x h
structure OI (osc:Scope)(oN N:List Str)(scope:Scope)(fv:List (Option Nat)):Prop where
 kind:scope.kind=.function
 SX:osc.kind=.function
 zI:∀ y∈scope.names,y.2≠.cell
 loc:∀ y∈scope.names,y.2=.local->scope.names.lookup y.1=some .local
 SV:∀ y∈scope.names,y.2=.free->osc.names.lookup y.1=some .cell
 own:∀ y∈(rl scope osc).names,y.2≠.free
 len:fv.length=N.length
 up:∀ (i j:Nat),i<20->fv[i]?=some (some j)->oN[j]?=N[i]?/\∀ x,N[i]?=some x->(rl scope osc).names.lookup x=some .cell/\osc.names.lookup x=some .cell
 eU:N.length<20
def yb (fv:List (Option Nat))(σ:St):St:=fv.map fun o=>match o with
 | none=>none
 | some j=>(σ[j]?).join
def kj (X:Cx)(N:List Str)(scope:Scope)(cl:List (Str × Addr))(C:Addr)(fp:List Addr)(s:Shared)(H:Hp):Cx where
 prog:=X.prog
 w:=X.w
 K:=X.K
 mg:=X.mg
 base:=X.base
 A:=X.A
 N:=N
 s₀:=s
 H₀:=H
 env:=compEnvC scope cl C X.env
 outer:=X.stack
 stack:=X.stack
 ex:=fp
 fn:=fun _=>false
 calm:=true
 pn:=[]
 xe:=fun _ _=>False
def K2 (Y:Cx)(ifs:List Expr)(t:TT):Prop:=
 ∀ (pins:List (Addr × Obj)) (s:Shared) (σ:St) (H:Hp) (Q:Bool->Hp->Prop),Inv Y pins σ H s->t σ H Q->
  wpAny (model Y.prog Y.w) Y.A (forIn ifs true fun c r=>if r=true then do let ok<-isTrue c Y.env (eval c Y.env);pure (ForInStep.yield ok) else pure (ForInStep.yield r)) (TP Y pins σ Q) Y.xe s
def hZ:TT:=fun _ H Q=>Q true H
variable {Y:Cx}
theorem Jc:K2 Y [] hZ:=fun _ _ _ H _ I h=>wpAny_tests_nil ⟨H,I,h⟩
theorem Jd {c:Expr}{t:TT}(h:PT Y c t):K2 Y [c] t:=fun a s σ H Q I b=>wpAny_tests_one (h a s σ H Q I b)
def sh (g:TG)(tc:TT)(te:TE)(τ0:St)(Q:VK):It->Hp->Prop:=fun J H1=>∀ acc,H1 acc=none->
 ∃ W:Nat->Nat->St->Hp->Prop,(∃ m,W 0 m τ0 (upd H1 acc (.lst [])))/\∀ i m τ H,W i m τ H->
  (J.stop i H/\Q (.ref acc) H)∨(J.go i H/\∃ N:St->Hp->Prop,(∀ τ' H',N τ' H'->∃ m',m' < m/\W (i+1) m' τ' H')/\
   ∀ x H',J.BA i H x H'->g x τ H' fun a e=>tc a e fun b d=>if b=true then te a d fun v c=>∃ ys,c acc=some (.lst ys)/\ys.length<sizeLine/\N a (upd c acc (.lst (ys++[v]))) else N a d)
variable {prog:Program}{R:Result->Shared->Prop}{elt target:Expr}{ifs:List Expr}
theorem iA {iter:Expr}{scope:Scope}{pos:Pos}{it acc:Value}{env:Env}(I:Nat->Shared->Prop)
  (turn:∀ n s,I n s->wpAny (model prog w) A (pyNext it) (fun r s₁=>match r with
   | none=>R (.ok .next) s₁
   | some v=>wpAny (model prog w) A (letOwnedTupleGo target it v) (fun _ s₁'=>wpAny (model prog w) A (assign target env v) (fun _ s₂=>
     wpAny (model prog w) A (forIn ifs true fun c r=>if r=true then do let ok<-isTrue c env (eval c env);pure (ForInStep.yield ok) else pure (ForInStep.yield r)) (fun ok s₃=>
      if ok=true then wpAny (model prog w) A (eval elt env) (fun x s₄=>
       wpAny (model prog w) A (call (.builtin "list.append") [acc,x]) (fun _ s₅=>∃ m,m<n/\I m s₅) (fun _ _=>False) s₄) (fun _ _=>False) s₃
      else ∃ m,m<n/\I m s₃) (fun _ _=>False) s₂) (fun _ _=>False) s₁') (fun _ _=>False) s₁) (fun _ _=>False) s)
  (n:Nat) (h:I n s) :
  codeAny (model prog w) A (.compLoop (.ListComp elt [⟨target,iter,ifs,0⟩] scope pos) 0 it acc env) R s:=by
 refine codeAny_loop rfl I (fun n s g=>?_) n h;show wpAny _ A ((compTurn (.ListComp elt [⟨target,iter,ifs,0⟩] scope pos) 0 it acc env).onRaise (fun x=>do noteFrame x env;theTreesLotGoes x)) _ _ s
 refine wpAny_noted ?_;rw[compTurn_list];refine cv (wpAny_standAt (cv (E4 (turn n s g) (fun r s₁ d=>?_) fun _ _ a=>a.elim)))
 cases r with
 | none=>exact gd d
 | some v=>
  refine cv (E4 d (fun _ s₁' b=>?_) fun _ _ a=>a.elim);refine cv (E4 b (fun _ s₂ f=>cv (E4 f (fun ok s₃ e=>?_) fun _ _ a=>a.elim)) fun _ _ a=>a.elim)
  cases ok with
  | false=>exact gd ⟨rfl,e⟩
  | true=>
   exact cv (cv (E4 e (fun x s₄ j=>cv (E4 j (fun _ s₅ i=>gd (gd ⟨rfl,i⟩)) fun _ _ a=>a.elim)) fun _ _ a=>a.elim))
theorem vd {σ:St}{j:Nat}(h:(σ[j]?).join=some v):σ[j]?=some (some v):=by
 cases e:σ[j]? with
 | none=>rw[e] at h;cases h
 | some o=>rw[e] at h;exact OD some h
variable {scope:Scope}{N:List Str}{fv:List (Option Nat)}
theorem Je {σ:St}{s4:Shared}{fp:List Addr}{C:Addr}{m:Str->Option Value}(hc:X.calm=true)(S:OI X.env.scope X.N N scope fv)(I:Inv X pins σ H s)(hC:s.heap.objs.size<=C)
  (hf:∀ b∈fp,b<s.heap.objs.size/\j1 X pins H b) (hk:∀ b o,s.heap.get? b=some o->s4.heap.get? b=some o) (hn:s4.heap.Ns C m) (hos:s4.os=s.os) (hg:s4.gens=s.gens) :
  Inv (kj X N scope (fD X.env scope.names []) C fp s H) [] (yb fv σ) H s4:=by
 have B:∀ x∈scope.names,x.2=.free->∃ c,X.env.cells.lookup x.1=some c:=fun x hx e=>I.ok.has x.1 (.inl (S.SV x hx e));have g:=nz scope.names [] B (fun _ _ e=>nomatch e);have Q:=I.sz;have fresh:∀ a,s.heap.objs.size<=a->H a=none:=fun a Y=>I.br.fresh Y;refine⟨⟨I.ok.mod,S.kind,I.ok.glob,I.ok.blt,hC,fun x y c L e2=>I.ok.inj x y c (g x c L) (g y c e2),fun x hx=>?_,fun x c z _=>(nomatch z),fun _=>I.ok.hd hc,I.ok.frames,.inl rfl,fun b hb=>⟨?_,fun x c e=>(hf b hb).2.2.2.2.2.1 x c (g x c e)⟩,
   I.bs,h9 I.ok.KL Q,fun b o e hb=>?_,fun b hb z=>?_,I.stack,I.zX⟩,
  hos,?_,Un.kept hk,⟨m,hn,fun i x v L e2 e3=>?_⟩,fun x c e=>?_,fresh C hC,fun x c e=>I.jx x c (g x c e),fun p hp=>absurd (show p∈([]:List (Addr × Obj)) from hp) (by simp),I.br.kept hk,?_⟩
 ·have R:(rl scope X.env.scope).names.lookup x=some .cell∨(rl scope X.env.scope).names.lookup x=some .free:=hx
  rcases R with e | e
  ·have hm:=GT e;obtain⟨⟨n,k⟩,h,M⟩:=ih.mp hm;have f:(if (k == NameKind.free&&X.env.scope.kind == .function&&X.env.scope.names.lookup n == some .cell)=true then (n,NameKind.cell) else (n,k))=(x,NameKind.cell):=M
   by_cases d:(k == NameKind.free&&X.env.scope.kind == .function&&X.env.scope.names.lookup n == some .cell)=true
   ·rw[if_pos d] at f;have T:n=x:=OD Prod.fst f;have w:k=NameKind.free:=by
     rw[gz,gz] at d
     simpa using d.1.1
    subst T w;exact kh scope.names [] n h
   ·rw[if_neg d] at f;have w:k=NameKind.cell:=OD Prod.snd f;exact absurd w (S.zI _ h)
  ·exact absurd rfl (S.own _ (GT e))
 ·exact nt (j5 (hf b hb).1 hC)
 ·rcases(hf b hb).2.2.2.2.1 with z | z
  ·exact I.ok.Dk b o e z
  ·exact absurd (j5 (lt_size e) (h9 I.ok.KL z)) (KE _)
 ·rcases hU.mp (I.xD b z) with q | q
  ·exact(hf b hb).2.2.1 q
  ·exact(hf b hb).2.2.2.1 q
 ·show AllBare s4.gens;rw[hg];exact I.bare
 ·have hil:i<fv.length:=by
   have:=(o5.mp e2).1
   unfold yb at this
   rwa [cc] at this
  have J:i<20:=by have:=S.eU;have:=S.len;omega
  unfold yb at e2;rw[ek] at e2
  cases O:fv[i]? with
  | none=>rw[O] at e2;cases e2
  | some o=>
   rw[O] at e2
   cases o with
   | none=>cases e2
   | some j=>
    have P:(σ[j]?).join=some v:=tx e2;have hσ:=vd P;obtain⟨T,hx⟩:=S.up i j J O;obtain⟨E,D⟩:=hx x L;obtain⟨mX,ab,hl⟩:=I.loc;obtain⟨u,r,l⟩:=hl j x v (T.trans L) hσ (.inr (.inl D));refine⟨u,r,?_⟩
    rcases l with ⟨k,_⟩ | ⟨k,c,ec,W⟩
    ·have t:X.env.scope.names.lookup x=some .local:=k;rw[D] at t
     cases t
    ·obtain⟨F,A,K⟩:=W;have hm:(x,NameKind.free)∈scope.names:=by
      have hm:=GT E;obtain⟨⟨n,t⟩,h,M⟩:=ih.mp hm;have f:(if (t == NameKind.free&&X.env.scope.kind == .function&&X.env.scope.names.lookup n == some .cell)=true then (n,NameKind.cell) else (n,t))=(x,NameKind.cell):=M
      by_cases d:(t == NameKind.free&&X.env.scope.kind == .function&&X.env.scope.names.lookup n == some .cell)=true
      ·rw[if_pos d] at f;have U:n=x:=OD Prod.fst f;have w:t=NameKind.free:=by
        rw[gz,gz] at d
        simpa using d.1.1
       subst U w;exact h
      ·rw[if_neg d] at f;have w:t=NameKind.cell:=OD Prod.snd f;exact absurd w (S.zI _ h)
     obtain⟨Z,G⟩:=kh (env:=X.env) scope.names [] x hm
     have:=g x Z G
     rw[ec] at this
     cases this
     exact .inr ⟨.inl E,c,G,F,hk c F A,K⟩
 ·obtain⟨v,F,A,K⟩:=I.cell x c (g x c e);exact⟨v,F,hk c F A,K⟩
 ·show (yb fv σ).length=N.length;unfold yb;rw[cc];exact S.len
variable {iter:Expr}{g:TG}{tc:TT}{te:TE}{Q:VK}{wi:TI}
theorem qB (hc:X.calm=true)(hi:PI X target iter wi)(S:OI X.env.scope X.N N scope fv)
  (hB:∀ cl C fp s H,PG (kj X N scope cl C fp s H) target g/\K2 (kj X N scope cl C fp s H) ifs tc/\PE (kj X N scope cl C fp s H) elt te)
  {σ:St} (I:Inv X pins σ H s) {use:Option (Value->Sem Unit)} {Post:Value->Shared->Prop} {p2:Pos}
  (h:wi σ H (sh g tc te (yb fv σ) Q))
  (hPost:∀ (acc C:Addr) (s':Shared) (H':Hp) (m:Str->Option Value),Inv X pins σ H' s'->s'.heap.Ns C m->j1 X pins H' C->Q (.ref acc) H'->compPost (model X.prog X.w) X.A X.xe use Post (.ref acc) C (.ok .next) s')
  (hs:∀ x,foldedSetIterable iter X.env x=pure x) :
  wpAny (model X.prog X.w) X.A (comprehension (.ListComp elt [⟨target,iter,ifs,0⟩] scope pos) scope X.env p2 (newList []) false (eval iter X.env) use) Post X.xe s:=by
 have E:∀ x∈scope.names,x.2=.free->∃ c,X.env.cells.lookup x.1=some c:=fun x hx e=>I.ok.has x.1 (.inl (S.SV x hx e));refine wpAny_comprehension_free (use:=use) rfl hs (pe E) S.kind S.loc (bV (hi pins s σ H _ I h) fun xv s1 h1=>bV h1 fun itv a h2=>?_);obtain⟨it,fp,tn,J,M,e,I2,T,F,f2,rd⟩:=h2;subst e;have aP:M a.heap.objs.size=none:=I2.fresh;obtain⟨W,⟨m0,w0⟩,aA⟩:=rd a.heap.objs.size aP;refine wpAny_newObj_type (wpAny_newFunctionEnv S.zI (by intro y hy;simp at hy) (fun h₁ t l=>?_) S.kind)
 dsimp only at t l ⊢
 have IA:Inv X pins σ (upd M a.heap.objs.size (.lst [])) {a with heap:=a.heap.push {cls:=.type "list",data:=.seq ([]:List Value).toArray}}:=I2.M6 (t':=a.toks) .nil (zero_le _);generalize U:a.heap.push {cls:=.type "list",dict:=none,data:=.seq ([]:List Value).toArray}=hA at t l IA ⊢;have R:hA.objs.size=a.heap.objs.size+1:=by rw[<-U,Gc]
 have P:∀ b o,a.heap.get? b=some o->hA.get? b=some o:=fun b o e=>by rw[<-U];exact ey _ e
 have G:∀ b o,hA.get? b=some o->h₁.get? b=some o:=fun b o e=>l.extBut b o (nt (lt_size e)) (ey _ e);have Z:∀ b∈fp,b<a.heap.objs.size:=fun b hb=>by
  obtain⟨o,e,_⟩:=T.obj 0 _ F b hb;exact lt_size e
 have K:∀ b∈fp,b<hA.objs.size/\j1 X pins (upd M a.heap.objs.size (.lst [])) b:=fun b hb=>⟨by rw[R];exact TC (Z b hb),by rw[aG (nt (Z b hb))];exact(f2 b hb).1,(f2 b hb).2⟩
 let sA:Shared:={a with heap:=hA}
 let Y:Cx:=kj X N scope (fD X.env scope.names []) hA.objs.size fp sA (upd M a.heap.objs.size (.lst []))
 obtain⟨hG,hIf,hE⟩:=hB (fD X.env scope.names []) hA.objs.size fp sA (upd M a.heap.objs.size (.lst []));have B:∀ s4:Shared,s4={a with heap:=h₁,toks:=a.toks+([]:List (Str × Value)).length}->
   codeAny (model X.prog X.w) X.A (.compLoop (.ListComp elt [⟨target,iter,ifs,0⟩] scope pos) 0 (.ref it) (.ref a.heap.objs.size) (compEnvC scope (fD X.env scope.names []) hA.objs.size X.env))
    (compPost (model X.prog X.w) X.A X.xe use Post (.ref a.heap.objs.size) hA.objs.size) s4:=by
  rintro s4 rfl;have IY:Inv Y [] (yb fv σ) (upd M a.heap.objs.size (.lst [])) {a with heap:=h₁,toks:=a.toks+([]:List (Str × Value)).length}:=
   Je hc S IA (dy _) K G t rfl rfl
  have j:∀ {H':Hp},(∀ b∈fp,H' b=none)->∀ b∈fp,j1 Y [] H' b:=fun hn b hb=>
   ⟨hn b hb,(IY.ok.RR b hb).1,IY.ok.HU b hb,.inl hb,(IY.ok.RR b hb).2,fun p hp=>absurd (show p∈([]:List (Addr × Obj)) from hp) (by simp)⟩
  refine iA (fun n s'=>∃ i τ H',Inv Y [] τ H' s'/\tn i s'.heap/\(∀ b∈fp,H' b=none)/\W i n τ H') ?_ m0
   ⟨0,yb fv σ,_,IY,T.keep _ _ _ F fun b hb o e=>G b o (P b o e),fun b hb=>(K b hb).2.1,w0⟩
  rintro n s5 ⟨i,τ,H5,I5,a0,aF,w5⟩
  rcases aA i n τ H5 w5 with ⟨ab,q⟩ | ⟨go,NN,hN,step⟩
  ·refine E4 (T.done Y rfl rfl rfl rfl i [] s5 τ H5 (fun _ _=>False) I5 (j aF) a0 ab) (fun r s6 ⟨hr,L⟩=>?_) fun _ _ z=>z;subst hr;obtain⟨m6,hn6,_⟩:=id L.loc;have IX:Inv X pins σ H5 s6:=IA.OX L.os L.base L.br L.bare fun b hb=>⟨(K b hb).2.2.2.2.1,(K b hb).2.2.1,(K b hb).2.2.2.2.2.1,(K b hb).2.2.2.2.2.2⟩;exact hPost _ _ _ _ m6 IX hn6 (IA.uS (dy _) L.free) q
  ·refine E4 (T.item Y rfl rfl rfl rfl i [] s5 τ H5 (fun _ _=>False) I5 (j aF) a0 go) (fun r s6 ⟨u,hr,h6⟩=>?_) fun _ _ z=>z;subst hr;refine E4 h6 (fun _ s7 ⟨x,H7,I7,r7,y7,D,fr7⟩=>?_) fun _ _ z=>z;have I7':=I7.pinned (j fr7) (T.obj _ _ D);refine E4 (hG _ s7 τ H7 x u _ I7' r7 (step x H7 y7)) (fun _ s8 ⟨τ8,H8,I8,q8⟩=>?_) fun _ _ z=>z;refine E4 (hIf _ s8 τ8 H8 _ I8 q8) (fun b s9 ⟨H9,I9,q9⟩=>?_) fun _ _ z=>z;have f:∀ {O:St} {H':Hp} {s':Shared},Inv Y ([]++nj fp s7.heap) O H' s'->NN O H'->∃ m,m<n/\∃ i τ H',Inv Y [] τ H' s'/\tn i s'.heap/\(∀ b∈fp,H' b=none)/\W i m τ H':=fun {O H' s'} I' n'=>by
    obtain⟨m',hm,w'⟩:=hN O H' n';refine⟨m',hm,i+1,O,H',I'.j2,T.keep _ _ _ D fun b hb o e=>(I'.pin (b,o) (xm _ (xm _ (gA hb e)))).1,fun b hb=>?_,w'⟩;obtain⟨o,e,d⟩:=T.obj _ _ D b hb;exact(I'.pin (b,o) (xm _ (xm _ (gA hb e)))).2.1
   cases b with
   | false=>exact f I9 q9
   | true=>
    show wpAny _ _ _ _ _ _;refine E4 (hE _ s9 τ8 H9 _ I9 q9) (fun v s10 ⟨y,H10,I10,r10,ys,hy,hz,q10⟩=>?_) fun _ _ z=>z;refine E4 (bA (X:=Y) _ s10 τ8 H10 (.ref a.heap.objs.size) [y] (.ref a.heap.objs.size) [v] (fun _ H'=>NN τ8 H') I10 rfl (.cons r10 .nil) ⟨_,ys,y,rfl,rfl,hy,hz,q10⟩) (fun _ s11 ⟨_,H11,I11,_,q11⟩=>?_) fun _ _ z=>z;exact f I11 q11
 have st1:tn 0 h₁:=T.keep _ _ _ F fun b hb o e=>G b o (P b o e);exact codeAny_compStart_list (B _ rfl) (T.self _ 0 _ _ _ st1 (B _ rfl))
def Nb (wi:TI)(g:TG)(tc:TT)(te:TE)(fv:List (Option Nat)):TE:=fun σ H Q=>wi σ H (sh g tc te (yb fv σ) Q)
theorem Pe (hc:X.calm=true)(hi:PI X target iter wi)(S:OI X.env.scope X.N N scope fv)
  (hB:∀ cl C fp s H,PG (kj X N scope cl C fp s H) target g/\K2 (kj X N scope cl C fp s H) ifs tc/\PE (kj X N scope cl C fp s H) elt te)
  (hs:∀ x,foldedSetIterable iter X.env x=pure x:=by intro _;rfl):PE X (.ListComp elt [⟨target,iter,ifs,0⟩] scope pos) (Nb wi g tc te fv):=by
 intro c s σ H Q I h;rw[eval_ListComp];refine qB hc hi S hB I (use:=none) h (fun a C f i m u hn j q=>⟨m,hn,fun v t=>?_⟩) hs;obtain⟨p,n,w,d,l,r⟩:=j;exact⟨.ref a,i,u.turned (t':=f.toks) (fun b o hb e=>t.extBut b o hb e) p n d l r,rfl,q⟩
variable {px spos:Pos}
theorem Pf {i:Nat}(hN:X.N.Nodup)(hi':X.N[i]?=some x)(hx:X.env.scope.names.lookup x=some .local)(hc:X.calm=true)(hi:PI X target iter wi)(S:OI X.env.scope X.N N scope fv)
  (hB:∀ cl C fp s H,PG (kj X N scope cl C fp s H) target g/\K2 (kj X N scope cl C fp s H) ifs tc/\PE (kj X N scope cl C fp s H) elt te)
  (hsw:swapsWith (.ListComp elt [⟨target,iter,ifs,0⟩] scope pos) (some (.Name x px)) spos.line X.env=pure true)
  (hs:∀ x,foldedSetIterable iter X.env x=pure x:=by intro _;rfl):PS X (.Assign [.Name x px] (.ListComp elt [⟨target,iter,ifs,0⟩] scope pos) spos) (rN (Nb wi g tc te fv) (bx i)):=by
 intro d s σ H D I h;rw[exec_Assign_Name_used _ _ _ _ hsw];refine cv (wpAny_standAt (cv ?_));show wpAny _ _ (do let _<-comprehension (.ListComp elt [⟨target,iter,ifs,0⟩] scope pos) scope X.env _ (newList []) false (eval iter X.env) (some (assign (.Name x px) X.env))) _ _ s
 refine cv (E4 (qB hc hi S hB I (use:=some (assign (.Name x px) X.env)) (Post:=fun _ j=>SP X d D .next j) h (fun c C j u m F hn v q=>?_) hs) (fun _ j hq=>gd (gd hq)) fun _ _ e=>e);show wpAny _ _ (assign (.Name x px) X.env (.ref c)) _ _ _;refine wpAny_assign_Name (qj F hN hi' (.inl hx) (show RelV (.ref c) _ from rfl) (fun A w ⟨a,f,r⟩=>?_) (.inr hx))
 obtain⟨y,p,J,t,n,B⟩:=v;have l:C≠a:=by
  rcases r with z | z
  ·rw[z];exact p
  ·exact fun e=>n x a z e.symm
 refine⟨m,hn.sameBut f l,fun G E=>?_⟩;exact⟨_,u,w.turned (t':=A.toks) (fun b o hb e=>E.extBut b o hb e) y p t n B,q⟩
def Bt (k:Nat)(i:Int):Prop:=i.natAbs<2 ^ k
variable {i:Int}{m:Nat}
theorem Bt.mono {k:Nat}(h:Bt k i)(hk:k<=m):Bt m i:=j5 h (q5 (by decide) hk)
variable {a b:Nat}{j:Int}
theorem Bt.mul (h:Bt a i)(h':Bt b j):Bt (a+b) (i*j):=by
 unfold Bt at *;rw[Int.natAbs_mul,Nat.pow_add];exact Nat.mul_lt_mul'' h h'
theorem Bt.of_le (h:Bt a i)(h0:0<=j)(h1:j<=i):Bt a j:=by
 unfold Bt at *
 omega
theorem Bt.ok (h:Bt a i)(h':Bt b j)(hs:a+b<=100000):IntMulOk i j:=
 PySem.IntMulOk.of_le (PySem.intBits_le_iff.mpr h) (PySem.intBits_le_iff.mpr h') (by omega)
theorem Bt.log (h:Bt a i)(h0:0<i)(ha:a<=9000):i.natAbs.log2<9000:=
 j5 ((log2_lt (by omega)).mpr h) ha
theorem sj (h1:-(2 ^ 64)<i)(h2:i<2 ^ 64):IntMulOk i j:=.of_left (intBits_le_64 h1 h2)
theorem nA (h1:-(2 ^ 64)<j)(h2:j<2 ^ 64):IntMulOk i j:=.of_right (intBits_le_64 h1 h2)
theorem eD:eC X (binaryOp .Mult) (rI IntMulOk fun i j=>.int (i*j)):=MJ fun _ _ _ _ _ _ _ hc q=>mul_int q hc
theorem cS:eC X (binaryOp .FloorDiv) (rI (fun _ j=>0<j/\j.natAbs.log2<9000) fun i j=>.int (i / j)):=MJ fun i j _ _ _ _ _ hc q=>by
 have h1:(0:Int)<j:=hc.1;exact floordiv_int (by omega) (by rw[Int.fdiv_eq_ediv_of_nonneg i (by omega)];exact q) (.inl (PyProof.noPylong_of_log2 hc.2))
def tI (f:Int->V)(ta:TE):TE:=fun σ H Q=>ta σ H fun x H1=>∃ i,x=.int i/\Q (f i) H1
variable {a e:Expr}{ta:TE}{k:Nat}{n:Int}
theorem Jf (ha:PE X a ta)(h:0<n/\n<1073741824:=by decide):PE X (.BinOp a .FloorDiv (.Constant (.int n) k pos') pos) (tI (fun i=>.int (i / n)) ta):=by
 intro b s σ H Q I hq;refine uV Iw ha kP b s σ H Q I ?_;refine(show ∀ t:TE,PE X a t->_ from fun _ _=>?_) ta ha
 exact(show xH (rI MK fun i j=>.int (i / j)) ta (tC (.int n)) σ H Q from by
  unfold xH tC rI;unfold tI at hq
  have:(fun x H1=>∃ i,x=V.int i/\Q (.int (i / n)) H1)=(fun x H1=>∃ i j,x=V.int i/\V.int n=V.int j/\MK i j/\Q (.int (i / j)) H1):=by
   funext x H1
   apply propext
   constructor
   ·rintro⟨i,e,q⟩;exact⟨i,n,e,rfl,h,q⟩
   ·rintro⟨i,j,e,c,_,q⟩;cases c;exact⟨i,e,q⟩
  rw[this] at hq;exact hq)
theorem Jg (ha:PE X a ta)(h:0<n:=by decide):PE X (.BinOp a .Mod (.Constant (.int n) k pos') pos) (tI (fun i=>.int (i % n)) ta):=by
 intro b s σ H Q I hq;refine uV cV ha kP b s σ H Q I ?_;unfold xH tC rI;unfold tI at hq
 have:(fun x H1=>∃ i,x=V.int i/\Q (.int (i % n)) H1)=(fun x H1=>∃ i j,x=V.int i/\V.int n=V.int j/\0<j/\Q (.int (i % j)) H1):=by
  funext x H1
  apply propext
  constructor
  ·rintro⟨i,e,q⟩;exact⟨i,n,e,rfl,h,q⟩
  ·rintro⟨i,j,e,c,_,q⟩;cases c;exact⟨i,e,q⟩
 rw[this] at hq;exact hq
theorem Jh (ha:PE X a ta)(h:-(2 ^ 64)<n/\n<2 ^ 64:=by decide):PE X (.BinOp a .Mult (.Constant (.int n) k pos') pos) (tI (fun i=>.int (i*n)) ta):=by
 intro b s σ H Q I hq;refine uV eD ha kP b s σ H Q I ?_;unfold xH tC rI;unfold tI at hq
 have:(fun x H1=>∃ i,x=V.int i/\Q (.int (i*n)) H1)=(fun x H1=>∃ i j,x=V.int i/\V.int n=V.int j/\IntMulOk i j/\Q (.int (i*j)) H1):=by
  funext x H1
  apply propext
  constructor
  ·rintro⟨i,e,q⟩;exact⟨i,n,e,rfl,nA h.1 h.2,q⟩
  ·rintro⟨i,j,e,c,_,q⟩;cases c;exact⟨i,e,q⟩
 rw[this] at hq;exact hq
theorem Ji (ha:PE X a ta)(h:-(2 ^ 64)<n/\n<2 ^ 64:=by decide):PE X (.BinOp (.Constant (.int n) k pos') .Mult a pos) (tI (fun i=>.int (n*i)) ta):=by
 intro b s σ H Q I hq;refine uV eD kP ha b s σ H Q I ?_;unfold xH tC rI;unfold tI at hq
 have:(fun x H1=>∃ i,x=V.int i/\Q (.int (n*i)) H1)=(fun x H1=>∃ i j,V.int n=V.int i/\x=V.int j/\IntMulOk i j/\Q (.int (i*j)) H1):=by
  funext x H1
  apply propext
  constructor
  ·rintro⟨i,e,q⟩;exact⟨n,i,rfl,e,sj h.1 h.2,q⟩
  ·rintro⟨i,j,c,e,_,q⟩;cases c;exact⟨j,e,q⟩
 rw[this] at hq;exact hq
theorem Et (hc:X.calm=true):bX X (.builtin "sum") (fun xs H Q=>∃ (p:Addr) (ns:List Int),xs=[.ref p]/\ax X.K H p (ns.map V.int)/\Q (.int ns.sum) H):=by
 intro d s σ H xs l Q I r h;obtain⟨p,ns,rfl,hq,q⟩:=h;obtain⟨u,rfl,f⟩:=vals1 r
 cases f
 obtain⟨a,g,i,hz⟩:=I.list hq;have hi:=intsAre_of g;obtain⟨m,hn,_⟩:=I.loc;have b:s.heap.IsList p a.toArray:=i.isList;obtain⟨xs,c⟩:=hi.allInts.items;rw[c] at b;refine PySem.sum_intListG (I.ok.hd hc) b fun j n e hk=>⟨.int ns.sum,H,I.kept hk,⟨e,?_⟩,q⟩;have e2:(numsOf a.toArray.toList)=ns:=by rw[show a.toArray.toList=a from rfl,hi.numsOf]
 rw[c,nums_intItems] at e2;rw[preSum_eq,DK (by simp),<-e2]
end L2
namespace L2
open PySem PySem.Spec PyProof.Rows
mutual
inductive Dt (K:Frag)(H:Hp):V->PyData->Prop where
 | bE:Dt K H .bE .none
 | bl (b):Dt K H (.bl b) (.bool b)
 | int (i):Dt K H (.int i) (.int i)
 | str (x):Dt K H (.str x) (.str x)
 | lst {a xs ds}:ax K H a xs->eZ K H xs ds->Dt K H (.ref a) (.list ds)
 | tup {a xs ds}:aH K H a xs->eZ K H xs ds->Dt K H (.ref a) (.tuple ds)
inductive eZ (K:Frag)(H:Hp):List V->List PyData->Prop where
 | nil:eZ K H [] []
 | cons {x xs d ds}:Dt K H x d->eZ K H xs ds->eZ K H (x::xs) (d::ds)
end
variable {X:Cx}
mutual
theorem Dt.reads {pins:List (Addr × Obj)}{σ:St}{H:Hp}{s:Shared}(I:Inv X pins σ H s):∀ {x:V} {d:PyData} {u:Value},Dt X.K H x d->RelV x u->∃ as,Reads s.heap u d as
 | _,_,_,.bE,r=>by cases r;exact⟨_,.none⟩
 | _,_,_,.bl b,r=>by cases r;exact⟨_,.bool b⟩
 | _,_,_,.int i,r=>by obtain⟨t,rfl⟩:=r;exact⟨_,.int i t⟩
 | _,_,_,.str x,r=>by obtain⟨t,rfl⟩:=r;exact⟨_,.str x t⟩
 | _,_,_,.lst h f,r=>by
  cases r
  obtain⟨c,g,⟨o,n,e,j,l,a⟩,_⟩:=I.list h;obtain⟨as,q⟩:=eZ.reads I f g;exact⟨_,.list e j a (by simpa using q)⟩
 | _,_,_,.tup h f,r=>by
  cases r
  obtain⟨c,g,⟨o,e,j,n,a⟩,_⟩:=I.tuple h;obtain⟨as,q⟩:=eZ.reads I f g;exact⟨_,.tuple e j a (by simpa using q)⟩
theorem eZ.reads {pins:List (Addr × Obj)}{σ:St}{H:Hp}{s:Shared}(I:Inv X pins σ H s):∀ {xs:List V} {ds:List PyData} {us:List Value},eZ X.K H xs ds->Vals xs us->∃ as,ReadsAll s.heap us ds as
 | _,_,_,.nil,r=>by cases r;exact⟨_,.nil⟩
 | _,_,_,.cons h c,r=>by
  cases r with
  | cons r b=>
   obtain⟨as,q⟩:=Dt.reads I h r;obtain⟨bs,a⟩:=eZ.reads I c b;exact⟨_,.cons q a⟩
end
theorem Nc (hu:X.A.units+64<cLine):eC X (compareOp .Eq) (fun x y H Q=>∃ d d',Dt X.K H x d/\Dt X.K H y d'/\shaped d=true/\shaped d'=true/\Q (.bl (PyData.eqv d d')) H):=by
 intro a s σ H x y v u Q I e b h;obtain⟨d,d',h1,f,i,g,q⟩:=h;obtain⟨l,j⟩:=h1.reads I e;obtain⟨bs,c⟩:=f.reads I b;exact eq_dataH j c i g hu ⟨.bl _,H,I,rfl,q⟩
theorem Nd (hu:X.A.units+64<cLine):eC X (compareOp .NotEq) (fun x y H Q=>∃ d d',Dt X.K H x d/\Dt X.K H y d'/\shaped d=true/\shaped d'=true/\Q (.bl (!PyData.eqv d d')) H):=by
 intro a s σ H x y v u Q I e b h;obtain⟨d,d',h1,f,i,g,q⟩:=h;obtain⟨l,j⟩:=h1.reads I e;obtain⟨bs,c⟩:=f.reads I b;exact ne_dataH j c i g hu ⟨.bl _,H,I,rfl,q⟩
theorem eZ.ints {K:Frag}{H:Hp}:∀ ns:List Int,eZ K H (ns.map V.int) (ns.map PyData.int)
 | []=>.nil
 | n::r=>.cons (.int n) (eZ.ints r)
theorem lX:∀ ns ms:List Int,PyData.eqvAll (ns.map PyData.int) (ms.map PyData.int)=decide (ns=ms)
 | [],[]=>by simp[PyData.eqvAll]
 | [],_::_=>by simp[PyData.eqvAll]
 | _::_,[]=>by simp[PyData.eqvAll]
 | n::r,m::q=>by
  simp only[map_cons,PyData.eqvAll,PyData.eqv,lX r q]
  by_cases h:n=m<;>simp[h]
theorem kl (ns:List Int):shaped (.list (ns.map .int))=true:=PySem.W.shaped_ints ns
theorem Jj:eC X (binaryOp .Add) (fun x y H Q=>∃ l b xs zs,x=.ref l/\y=.ref b/\ax X.K H l xs/\ax X.K H b zs/\xs.length+zs.length<=sizeLine/\∀ p,H p=none->Q (.ref p) (upd H p (.lst (xs++zs)))):=by
 intro t s σ H x y v u Q I L D h;obtain⟨l,b,xs,zs,rfl,rfl,G,N,hz,q⟩:=h
 cases L
 cases D
 obtain⟨c,r,⟨⟨J,P,B,E⟩,n,e,m,o,z⟩,_⟩:=I.list G;obtain⟨a,A,⟨⟨w,C,i,j⟩,O,e2,f,g,d⟩,_⟩:=I.list N
 simp only at m o z f g d
 subst m o z f g d;refine concat_meets ⟨_,e,rfl⟩ ⟨_,e2,rfl⟩ noFill_list_add seq_list_add PySem.F.slot_list_add PySem.F.entry_list_add (PySem.F.args_list_add_2 _ _) (list_addW l b c.toArray a.toArray n O none none E j (by rw[fO,fO,<-r.length,<-A.length];exact hz)) ⟨e,e2,?_⟩
 have M:c.toArray++a.toArray=(c++a).toArray:=by simp
 rw[M];exact⟨.ref _,_,I.M6 (t':=s.toks) (r.append A) (by rw[eG];exact hz),rfl,q _ I.fresh⟩
structure Def (K:Frag)(mg:Str->Option Value)(x:Str)(st:Stmt):Prop where
 ex:∃ f fd,Ia K x x st f fd/\mg x=some (.ref f)
structure Fn (P:Program)(w:World)(K:Frag)(mg:Str->Option Value)(base:Heap)(k:Nat)(x:Str)(ps:List Str)(sp:Sp):Prop where
 ex:∃ f fd,fj P w K mg base BW k f fd ps sp/\mg x=some (.ref f)/\keepIn K (.ref f)=true/\Binds K fd ps []
variable {P:Program}{w:World}{K:Frag}{mg:Str->Option Value}{base:Heap}{k:Nat}{x:Str}{N ps:List Str}{sp:Sp}{st:Stmt}
theorem Def.fn (D:Def K mg x st)(S:j3 N ps (ak st))
  (hb:∀ (kV doc pm:Value) (an:Option Addr) (cX ct:Value) (us:List Value),us.length=ps.length->bindArgs (fnOf x x (bB st) (aY st) (ak st) .none kV doc pm an cX ct) ⟨us,[]⟩=pure (ps.zip us))
  (len:∀ vs H Q E,sp vs H Q E->vs.length=ps.length)
  (eO:∀ (f:Addr) (cX:Value) (A:Around) (outer:List Env) (s:Shared) (H:Hp) (vs:List V) (Q:VK) (E:XK),cM k (A.deeper (envOfC x (ak st) s.heap.objs.size f cX))->sp vs H Q E->
   ∃ t,xw (uX BW P w K mg base N x (ak st) f cX A outer s H E).KS (aY st) t/\t {nx:=fun _ H'=>Q .bE H',rt:=Q} (start N vs) H):Fn P w K mg base (k+1) x ps sp:=by
 obtain⟨f,a,F,m⟩:=D.ex;exact⟨f,a,F.ok S len fun cX A outer s H vs Q E=>eO f cX A outer s H vs Q E,m,F.kp,F.binds hb⟩
variable {m:Nat}{p pos:Pos}{e:Expr}{es:List Expr}{t:TA}
theorem Pg (F:Fn X.prog X.w X.K X.mg X.base k x ps sp)(hr:cM m X.A)(hg:Gl X x)(ha:PA X (e::es) t)(hk:k<=m:=by decide)
  (hdb:(x == ("__debug__":Str))=false:=by decide) (he:starEach (e::es) X.env=(false,eval e X.env)::starEach es X.env:=by rfl) (hpl:(backTo pos (starEach es X.env)).any (·.1)=false:=by rfl) :
  PE X (.Call (.Name x p) (e::es) [] pos) (qm sp [] E0 t):=by
 obtain⟨f,b,F,hm,a,hb⟩:=F.ex;exact Ak F (hr.mono hk) hg hm a hb .nil KZ ha hdb he hpl
theorem Nf {h:Heap}{f:Addr}{oc:Value}{od an:Option Addr}{osl:Array (Option Value)}{kV doc pm cX ct:Value}(X:K.In h)(G:h.Ns mainGlobals mg)
  (a:nsIn K mainGlobals x=some (some (.ref f))) (l:K.lookup f=some ⟨oc,od,.func (fnOf x x (bB st) (aY st) (ak st) .none kV doc pm an cX ct),osl⟩)
  (c:codeIn K cX x=true) (k:keepIn K (.ref f)=true):Def K mg x st:=⟨f,_,x9 l c k,mg_of X G a⟩
variable {H:Hp}{Q:VK}{σ:St}
theorem Ph {i:Nat}{v:V}(h:σ[i]?=some (some v)):rK i σ H Q=Q v H:=by
 unfold rK;rw[h];simp
theorem Sb {v:V}:tC v σ H Q=Q v H:=rfl
theorem Ng {r:R2}{ta tb:TE}:xH r ta tb σ H Q=ta σ H fun x H1=>tb σ H1 fun y H2=>r x y H2 Q:=rfl
theorem Pj {r:V->Hp->VK->Prop}{ta:TE}:R4 r ta σ H Q=ta σ H fun x H1=>r x H1 Q:=rfl
variable {g:Int->Int->V}
theorem K3 {i j:Int}:Dy g (.int i) (.int j) H Q=Q (g i j) H:=by unfold Dy;simp
theorem Pk {C:Int->Int->Prop}{i j:Int}:rI C g (.int i) (.int j) H Q=(C i j/\Q (g i j) H):=by unfold rI;simp
theorem Pl {g:Int->V}{i:Int}:rU g (.int i) H Q=Q (g i) H:=by unfold rU;simp
def rT (f:Int->V):V->Hp->VK->Prop:=fun x H Q=>∃ i,x=.int i/\Q (f i) H
variable {f:Int->V}
theorem Pm {ta:TE}:tI f ta σ H Q=ta σ H fun x H1=>rT f x H1 Q:=rfl
theorem Pn {i:Int}:rT f (.int i) H Q=Q (f i) H:=by unfold rT;simp
theorem As {i j:Int}:O3 (.int i) (.int j) H Q=Q (.bl (decide (i=j))) H:=by unfold O3;simp[xK]
theorem K4 {i j:Int}:ML (.int i) (.int j) H Q=Q (.bl (!decide (i=j))) H:=by unfold ML;simp[xK]
variable {i j:Str}
theorem qC:O3 (.str i) (.str j) H Q=Q (.bl (decide (i=j))) H:=by unfold O3;simp[xK]
theorem K5:ML (.str i) (.str j) H Q=Q (.bl (!decide (i=j))) H:=by unfold ML;simp[xK]
def rB (x:V)(H:Hp)(Q:Bool->Hp->Prop):Prop:=∃ k,x=.bl k/\Q k H
variable {Q:Bool->Hp->Prop}
theorem ve {b:Bool} :rB (.bl b) H Q=Q b H:=by unfold rB;simp
variable {t:TE}
theorem Eu:uW t σ H Q=t σ H fun x H'=>rB x H' Q:=rfl
theorem Po:tB t σ H Q=t σ H fun x H'=>rB x H' Q:=rfl
variable {t:TT}
theorem Ew:Mo t σ H Q=t σ H fun c H1=>Q (!c) H1:=rfl
variable {u:TT}
theorem Ex:Mn t u σ H Q=t σ H fun c H1=>if c=true then u σ H1 Q else Q false H1:=rfl
theorem K6:RZ t u σ H Q=t σ H fun c H1=>if c=true then Q true H1 else u σ H1 Q:=rfl
variable {Q:VK}{u t:TE}
theorem Ey:DL t u σ H Q=t σ H fun x H1=>rB x H1 fun c H2=>if c=true then u σ H2 Q else Q (.bl false) H2:=rfl
theorem K7:Ms t u σ H Q=t σ H fun x H1=>rB x H1 fun c H2=>if c=true then Q (.bl true) H2 else u σ H2 Q:=rfl
theorem Au {r r':R2}{ta tb tc:TE}:nq r r' ta tb tc σ H Q=ta σ H fun x H1=>tb σ H1 fun y H2=>r x y H2 fun z H3=>rB z H3 fun k H4=>if k=true then tc σ H4 fun w' H5=>r' y w' H5 Q else Q (.bl false) H4:=rfl
theorem K8 {t:TT}{ta tb:TE}:R0 t ta tb σ H Q=t σ H fun c H1=>if c=true then ta σ H1 Q else tb σ H1 Q:=rfl
variable {Q:List V->Hp->Prop}
theorem K9:xR σ H Q=Q [] H:=rfl
theorem Ez {ta:TE}{tr:TA} :Aj ta tr σ H Q=ta σ H fun x H1=>tr σ H1 fun xs H2=>Q (x::xs) H2:=rfl
variable {Q:VK}{E:XK}{t:TA}
theorem EA {ng:List V} :qm sp ng E t σ H Q=t σ H fun vs H1=>sp (vs++ng) H1 Q E:=rfl
theorem Pp {r:List V->Hp->VK->Prop} :MS r t σ H Q=t σ H fun vs H1=>r vs H1 Q:=rfl
theorem La:IF t σ H Q=t σ H fun xs H1=>xs.length<=sizeLine/\∀ p,H1 p=none->Q (.ref p) (upd H1 p (.tup xs)):=rfl
theorem Lb:IG t σ H Q=t σ H fun xs H1=>xs.length<=sizeLine/\∀ p,H1 p=none->Q (.ref p) (upd H1 p (.lst xs)):=rfl
variable {r:V->List V->Hp->VK->Prop}
theorem Pq {T:String}{to:TE} :Pa K T r to t σ H Q=to σ H fun x H1=>O9 K T x H1/\t σ H1 fun vs H2=>r x vs H2 Q:=rfl
theorem Lc {T:String}{to:TE}:IT K T r to σ H Q=to σ H fun x H1=>O9 K T x H1/\r x [] H1 Q:=rfl
theorem Pr {r:V->Option Int->Option Int->Hp->VK->Prop}{te:TE}{tl th:TO}:R5 r te tl th σ H Q=te σ H fun x H1=>tl σ H1 fun l H2=>th σ H2 fun h H3=>r x l h H3 Q:=rfl
variable {Q:Option Int->Hp->Prop}
theorem vf:rV σ H Q=Q none H:=rfl
def rP (x:V)(H:Hp)(Q:Option Int->Hp->Prop):Prop:=∃ i,x=.int i/\Q (some i) H
theorem EB {t:TE} :D9 t σ H Q=t σ H fun x H1=>rP x H1 Q:=rfl
theorem Pt {i:Int} :rP (.int i) H Q=Q (some i) H:=by unfold rP;simp
variable {Q:VK}{g:TG}
theorem Pu {wi:TI}{tc:TT}{te:TE}{fv:List (Option Nat)}:Nb wi g tc te fv σ H Q=wi σ H (sh g tc te (yb fv σ) Q):=rfl
theorem gD {Q:Bool->Hp->Prop}:hZ σ H Q=Q true H:=rfl
variable {D:Ends}
theorem EC:DO D σ H=D.nx σ H:=rfl
variable {u t:TS}
theorem Pw:BG t u D σ H=t {D with nx:=u D} σ H:=rfl
theorem ED {te:TE}:DR te D σ H=te σ H fun _ H1=>D.nx σ H1:=rfl
theorem Ld {te:TE}:Mv te D σ H=te σ H D.rt:=rfl
variable {c:TT}
theorem Le:My c t u D σ H=c σ H fun b H1=>if b=true then t D σ H1 else u D σ H1:=rfl
theorem Lf {te:TE} :rN te g D σ H=te σ H fun x H1=>g x σ H1 D.nx:=rfl
variable {i:Nat}
theorem sk {v:V}{σ:St}{Q:St->Hp->Prop}:bx i v σ H Q=Q (σ.set i (some v)) H:=rfl
theorem Lg {to ti:TE}{t:DT}{v:V}{σ:St}{Q:St->Hp->Prop}:MB to ti t v σ H Q=to σ H fun o H1=>ti σ H1 fun i H2=>t o i v H2 fun H3=>Q σ H3:=rfl
variable {tl:TE}{R:It->Hp->Prop}
theorem Av {σ:St} :Ab K tl σ H R=tl σ H fun x H1=>∃ a,x=.ref a/\(∃ xs,ax K H1 a xs)/\R (HZ K a) H1:=rfl
theorem EE {σ:St} :Iq K tl σ H R=tl σ H fun x H1=>∃ a,x=.ref a/\(∃ xs,aH K H1 a xs)/\R (Aa K a) H1:=rfl
theorem Aw {ta:TA}{σ:St} :Ac ta σ H R=ta σ H fun vs H1=>∃ j:Int,vs=[.int j]/\-(2 ^ 62)<=j/\j<2 ^ 62/\R (xE 0 j.toNat) H1:=rfl
def mx (g:TG)(tb:TS)(D:Ends)(σ:St):It->Hp->Prop:=fun J H1=>∃ W:Nat->Nat->St->Hp->Prop,(∃ m,W 0 m σ H1)/\∀ i m σ H,W i m σ H->
 (J.stop i H/\D.nx σ H)∨(J.go i H/\∃ N:St->Hp->Prop,(∀ σ' H',N σ' H'->∃ m',m' < m/\W (i+1) m' σ' H')/\∀ x H',J.BA i H x H'->g x σ H' fun a b=>tb {D with nx:=N,ct:=N,bk:=D.nx} a b)
variable {tb:TS}
theorem Lh {wi:TI}{σ:St} :MG wi g tb D σ H=wi σ H (mx g tb D σ):=rfl
variable {p:Addr}
theorem ah.new (h:H p=none)(o:HO):ah H (upd H p o):=fun b u q=>by rw[aG (bp q h)];exact q
variable {a:Addr}{xs:List V}
theorem ah.aL {H':Hp}(e:ah H H')(h:aH K H a xs):aH K H' a xs:=by
 rcases h with (h | ⟨o,h⟩) | h
 ·exact .inl (.inl (e _ _ h))
 ·exact .inl (.inr ⟨o,e _ _ h⟩)
 ·exact .inr h
theorem ah.set {H':Hp}(e:ah H H')(h:H p=none)(o:HO):ah H (upd H' p o):=fun b u q=>by rw[aG (bp q h)];exact e b u q
structure yc (J:It)(H1:Hp)(n:Nat)(item:Nat->V):Prop where
 go:∀ i H,ah H1 H->i<n->J.go i H
 stop:∀ i H,ah H1 H->n<=i->J.stop i H
 BA:∀ i H x H',ah H1 H->i<n->J.BA i H x H'->H'=H/\x=item i
theorem gk {H1:Hp}(h:aH K H1 a xs):yc (Aa K a) H1 xs.length fun i=>xs.getD i .bE where
 go:=fun i H e hi=>⟨xs,xs[i],e.aL h,by simp[hi]⟩
 stop:=fun i H e hi=>⟨xs,e.aL h,hi⟩
 BA:=fun i H x c e hi y=>by
  obtain⟨b,y⟩:=y
  have:=y xs (e.aL h)
  refine⟨b,?_⟩;show x=xs.getD i .bE;rw[b4,this];rfl
theorem cT {H1:Hp}(h:ax K H1 a xs):yc (HZ K a) H1 xs.length fun i=>xs.getD i .bE where
 go:=fun i H e hi=>⟨xs,xs[i],e.seq h,by simp[hi]⟩
 stop:=fun i H e hi=>⟨xs,e.seq h,hi⟩
 BA:=fun i H x c e hi y=>by
  obtain⟨b,y⟩:=y
  have:=y xs (e.seq h)
  refine⟨b,?_⟩;show x=xs.getD i .bE;rw[b4,this];rfl
variable {n:Nat}
theorem jC {H1:Hp}{lo:Int} :yc (xE lo n) H1 n fun i=>.int (lo+i) where
 go:=fun i H e hi=>hi
 stop:=fun i H e hi=>hi
 BA:=fun i H x a e hi y=>y
def RL (T:Nat->St->Prop)(F:Nat->List V)(H1:Hp)(acc:Addr)(i:Nat):St->Hp->Prop:=fun b a=>T (i+1) b/\ah H1 a/\a acc=some (.lst (F (i+1)))
variable {acc:Addr}
theorem Nh {T:Nat->St->Prop}{F:Nat->List V}{H1 H4:Hp}{τ:St}{v:V}(hn:H1 acc=none)(h:H4 acc=some (.lst (F i)))(hs:ah H1 H4)(hz:(F i).length<sizeLine)(hF:F (i+1)=F i++[v])(hT:T (i+1) τ) :
  ∃ ys,H4 acc=some (.lst ys)/\ys.length<sizeLine/\RL T F H1 acc i τ (upd H4 acc (.lst (ys++[v]))):=
 ⟨F i,h,hz,hT,hs.set hn _,by rw[ag,hF]⟩
variable {J:It}{item:Nat->V}
theorem Ni {tc:TT}{te:TE}{τ0:St}{H1:Hp}(ok:yc J H1 n item)(F:Nat->List V)(T:Nat->St->Prop)
  (h0:F 0=[]) (hT:T 0 τ0)
  (step:∀ i τ H acc,i<n->T i τ->H1 acc=none->ah H1 H->H acc=some (.lst (F i))->g (item i) τ H fun τ2 H2=>tc τ2 H2 fun b H3=>
   if b=true then te τ2 H3 fun v H4=>∃ ys,H4 acc=some (.lst ys)/\ys.length<sizeLine/\RL T F H1 acc i τ2 (upd H4 acc (.lst (ys++[v]))) else RL T F H1 acc i τ2 H3)
  (fin:∀ acc H,H1 acc=none->ah H1 H->H acc=some (.lst (F n))->Q (.ref acc) H):sh g tc te τ0 Q J H1:=by
 intro acc d;refine⟨fun i m τ H=>m=n - i/\i<=n/\T i τ/\ah H1 H/\H acc=some (.lst (F i)),⟨n,by simp,zero_le _,hT,ah.new d _,by rw[ag,h0]⟩,?_⟩
 rintro i m τ H ⟨rfl,hi,l,h,o⟩
 by_cases f:i<n
 ·refine .inr ⟨ok.go i H h f,RL T F H1 acc i,fun p j ⟨a,b,c⟩=>⟨n - (i+1),by omega,rfl,f,a,b,c⟩,fun x j y=>?_⟩
  obtain⟨rfl,rfl⟩:=ok.BA i H x j h f y;exact step i τ j acc f l d h o
 ·have e:i=n:=by omega
  subst e;exact .inl ⟨ok.stop i H h (dy _),fin acc H d h o⟩
theorem Jk {σ:St}(Pv:St->Hp->Prop)(μ:St->Nat)(h0:Pv σ H)
  (hs:∀ σ H,Pv σ H->c σ H fun b H1=>if b=true then ∃ N:St->Hp->Prop,(∀ σ' H',N σ' H'->∃ m',m' < μ σ/\m'=μ σ'/\Pv σ' H')/\tb {D with nx:=N,ct:=N,bk:=D.nx} σ H1 else D.nx σ H1):rO c tb D σ H:=
 ⟨fun m σ H=>m=μ σ/\Pv σ H,⟨_,rfl,h0⟩,fun m σ H ⟨e,p⟩=>by subst e;exact hs σ H p⟩
theorem Jl {Pv:St->Hp->Prop}{μ:St->Nat}{σ:St}{R:(St->Hp->Prop)->Prop}(h:R fun σ' H'=>Pv σ' H'/\μ σ' < μ σ) :
  ∃ N:St->Hp->Prop,(∀ σ' H',N σ' H'->∃ m',m' < μ σ/\m'=μ σ'/\Pv σ' H')/\R N:=⟨_,fun _ _ ⟨p,l⟩=>⟨_,l,rfl,p⟩,h⟩
theorem yd {v:V}{σ:St} :rK 0 (some v::σ) H Q=Q v H:=Ph rfl
theorem EF {o:Option V}{σ:St} :rK (i+1) (o::σ) H Q=rK i σ H Q:=rfl
def Nj (osc:Scope)(oN N:List Str)(scope:Scope)(fv:List (Option Nat)):Bool:=
 decide (scope.kind=.function)&&decide (osc.kind=.function)&&scope.names.all (fun y=>decide (y.2≠.cell))&&scope.names.all (fun y=>decide (y.2=.local->scope.names.lookup y.1=some .local))&&
 scope.names.all (fun y=>decide (y.2=.free->osc.names.lookup y.1=some .cell))&&(rl scope osc).names.all (fun y=>decide (y.2≠.free))&&decide (fv.length=N.length)&&decide (N.length<20)&&
 (List.range N.length).all (fun i=>match fv[i]? with
  | some (some j)=>decide (oN[j]?=N[i]?)&&(match N[i]? with | some x=>decide ((rl scope osc).names.lookup x=some .cell)&&decide (osc.names.lookup x=some .cell) | none=>false)
  | _=>true)
variable {osc:Scope}{oN:List Str}
theorem Nk {scope:Scope}{fv:List (Option Nat)}(h1:X.env.scope=osc)(h2:X.N=oN)(h:Nj osc oN N scope fv=true):OI X.env.scope X.N N scope fv:=by
 rw[h1,h2];unfold Nj at h;simp only[Bool.and_eq_true,List.all_eq_true,decide_eq_true_eq] at h;obtain⟨⟨⟨⟨⟨⟨⟨⟨d,c⟩,f⟩,o⟩,g⟩,l⟩,a⟩,m⟩,n⟩:=h;refine⟨d,c,f,o,g,l,a,fun i j _ e=>?_,m⟩;have hi:i<N.length:=by rw[<-a];exact(o5.mp e).1
 have q:=n i (gc.mpr hi);rw[e] at q;simp only[Bool.and_eq_true,decide_eq_true_eq] at q;refine⟨q.1,fun x hx=>?_⟩;have b:=q.2;rw[hx] at b
 simpa using b
def Ib (e:Expr):Bool:=match e with
 | .Starred _ _=>false
 | _=>true
theorem ba {env:Env}(h:Ib e=true):starEach (e::es) env=(false,eval e env)::starEach es env:=by
 cases e<;>first | rfl | cases h
theorem de {pos:Pos}{env:Env}:∀ {es:List Expr},es.all Ib=true->(backTo pos (starEach es env)).any (·.1)=false
 | [],_=>rfl
 | e::es,h=>by
  rw[all_cons,gz] at h;rw[ba h.1];show (false||(backTo pos (starEach es env)).any (·.1))=false;rw[de h.2];rfl
theorem kZ {pos:Pos}{env:Env}:∀ {es:List Expr},es.all Ib=true->(backTo pos (starEach es env)).all (fun x=>!x.1)=true
 | [],_=>rfl
 | e::es,h=>by
  rw[all_cons,gz] at h;rw[ba h.1];show (true&&(backTo pos (starEach es env)).all (fun x=>!x.1))=true;rw[kZ h.2];rfl
structure PB (X:Cx)(es:List Expr)(t:TA):Prop where
 pa:PA X es t
 ns:es.all Ib=true
theorem ye:PB X [] xR:=⟨MN,rfl⟩
variable {te:TE}{t:TA}
theorem sr (ha:PE X e te)(hr:PB X es t)(hn:Ib e=true:=by rfl):PB X (e::es) (Aj te t):=
 ⟨IE ha hr.pa (ba hn),by rw[all_cons,hn,hr.ns];rfl⟩
theorem PB.he (h:PB X (e::es) t):Ib e=true:=by have:=h.ns;rw[all_cons,gz] at this;exact this.1
theorem PB.EG (h:PB X (e::es) t):es.all Ib=true:=by have:=h.ns;rw[all_cons,gz] at this;exact this.2
theorem Px {x1}(h:PB X es t):PE X (.Tuple es x1 pos) (IF t):=MO h.pa
theorem Py (h:PB X es t):PE X (.List es pos) (IG t):=MP h.pa
structure Sc (X:Cx)(N W G:List Str):Prop where
 eN:X.N=N
 nd:N.Nodup
 SG:∀ x∈N,RJ X.env.scope x/\(x == ("__debug__":Str))=false/\(x == ("__classdict__":Str))=false
 SW:∀ x∈W,Loc X.env.scope x/\(X.fn x=true∨X.env.scope.names.lookup x=some .local)
 gl:∀ x∈G,Gl X x/\(x == ("__debug__":Str))=false/\x≠"__name__"
def EH (sc:Scope)(x:Str):Bool:=(sc.names.lookup x == some .local||sc.names.lookup x == some .cell||sc.names.lookup x == some .free)&&!(x == ("__debug__":Str))&&!(x == ("__classdict__":Str))
theorem Ax {sc:Scope}(h:EH sc x=true):RJ sc x/\(x == ("__debug__":Str))=false/\(x == ("__classdict__":Str))=false:=by
 unfold EH at h;simp only[Bool.and_eq_true,Bool.or_eq_true,beq_iff_eq,Bool.not_eq_true'] at h;obtain⟨⟨h1,a⟩,b⟩:=h;refine⟨?_,a,b⟩
 rcases h1 with (h1 | h1) | h1
 ·exact .inl h1
 ·exact .inr (.inl h1)
 ·exact .inr (.inr h1)
def Pz (sc:Scope)(x:Str):Bool:=sc.names.lookup x == some .globalImplicit&&!(x == ("__debug__":Str))&&!(x == ("__name__":Str))
theorem EI {sc:Scope}(h:Pz sc x=true):sc.names.lookup x=some .globalImplicit/\(x == ("__debug__":Str))=false/\x≠"__name__":=by
 unfold Pz at h;simp only[Bool.and_eq_true,beq_iff_eq,Bool.not_eq_true',beq_eq_false_iff_ne] at h;exact⟨h.1.1,by simpa using h.1.2,h.2⟩
def SI (sc:Scope)(N ps G:List Str):Bool:=
 decide (sc.kind=.function)&&!sc.isCoroutine&&!sc.isGenerator&&decide N.Nodup&&decide (N.take ps.length=ps)&&ps.all (fun x=>sc.names.lookup x == some .local||sc.names.lookup x == some .cell)&&
 sc.names.all (fun y=>decide (y.2≠.free))&&N.all (EH sc)&&N.all (fun x=>sc.names.lookup x == some .local||sc.names.lookup x == some .cell)&&G.all (Pz sc)
structure DS (sc:Scope)(N ps G:List Str):Prop where
 fs:j3 N ps sc
 SG:∀ x∈N,EH sc x=true
 loc:∀ x∈N,Loc sc x
 gl:∀ x∈G,Pz sc x=true
variable {G:List Str}
theorem aO {sc:Scope}(h:SI sc N ps G=true):DS sc N ps G:=by
 unfold SI at h;simp only[Bool.and_eq_true,Bool.not_eq_true',List.all_eq_true,decide_eq_true_eq,Bool.or_eq_true,beq_iff_eq] at h;obtain⟨⟨⟨⟨⟨⟨⟨⟨⟨c,b⟩,e⟩,l⟩,f⟩,g⟩,d⟩,i⟩,j⟩,a⟩:=h;exact⟨⟨c,b,e,l,f,g,d⟩,i,j,a⟩
variable {f:Addr}
theorem DS.cx {sc:Scope}{q:Str}{cX:Value}{A:Around}{outer:List Env}{s:Shared}(D:DS sc N ps G):Sc (uX BW P w K mg base N q sc f cX A outer s H E).KS N N G:=
 ⟨rfl,D.fs.nd,fun x hx=>Ax (D.SG x hx),fun x hx=>⟨D.loc x hx,.inl rfl⟩,fun x hx=>EI (D.gl x hx)⟩
theorem Def.go (D:Def K mg x st)(S:DS (ak st) N ps G)
  (hb:∀ (kV doc pm:Value) (an:Option Addr) (cX ct:Value) (us:List Value),us.length=ps.length->bindArgs (fnOf x x (bB st) (aY st) (ak st) .none kV doc pm an cX ct) ⟨us,[]⟩=pure (ps.zip us))
  (len:∀ vs H Q E,sp vs H Q E->vs.length=ps.length)
  (eO:∀ (X:Cx),Sc X N N G->X.prog=P->X.w=w->X.K=K->X.mg=mg->X.base=base->X.calm=true->X.env.scope=ak st->X.xe=(fun _ _=>False)->cM k X.A->X.A.units+64<cLine->
   ∀ (H:Hp) (vs:List V) (Q:VK) (E:XK),sp vs H Q E->∃ t,xw X (aY st) t/\t {nx:=fun _ H'=>Q .bE H',rt:=Q} (L2.start N vs) H):Fn P w K mg base (k+1) x ps sp:=by
 refine D.fn S.fs hb len fun f cX A a s H vs Q E b h=>?_;exact eO _ S.cx rfl rfl rfl rfl rfl rfl rfl rfl b b.units H vs Q E h
variable {W:List Str}
theorem vv (S:Sc X N W G)(i:Nat){pos:Pos}(h:N[i]?=some x:=by rfl):PE X (.Name x pos) (rK i):=
 have q:=S.SG x (h5 h)
 Mi (by rw[S.eN];exact h) q.1 q.2.1 q.2.2
theorem sv (S:Sc X N W G)(i:Nat){pos pos':Pos}(he:PE X e te)(h:N[i]?=some x:=by rfl)(hw:W[i]?=some x:=by rfl)(hs:swapsWith e (some (.Name x pos')) pos.line X.env=pure false:=by rfl) :
  PS X (.Assign [.Name x pos'] e pos) (rN te (bx i)):=
 have q:=S.SW x (h5 hw)
 ME (by rw[S.eN];exact S.nd) (by rw[S.eN];exact h) q.1 he hs q.2
theorem gv (S:Sc X N W G)(i:Nat){pos:Pos}(h:N[i]?=some x:=by rfl)(hw:W[i]?=some x:=by rfl):PG X (.Name x pos) (bx i):=
 have q:=S.SW x (h5 hw)
 Io (by rw[S.eN];exact S.nd) (by rw[S.eN];exact h) q.1 q.2
variable {p:Pos}
theorem ff (S:Sc X N W G)(g:Nat)(F:Fn X.prog X.w X.K X.mg X.base k x ps sp)(hr:cM m X.A)(ha:PB X (e::es) t)(hk:k<=m:=by decide)(hg:G[g]?=some x:=by rfl):PE X (.Call (.Name x p) (e::es) [] pos) (qm sp [] E0 t):=
 have q:=S.gl x (h5 hg)
 Pg F hr q.1 ha.pa hk q.2.1 (ba ha.he) (de ha.EG)
variable {id:String}{r:List V->Hp->VK->Prop}
theorem cb (S:Sc X N W G)(g:Nat)(hc:bX X (.builtin id) r)(hm:X.mg x=none)(hv:bootBuiltins x=some (.builtin id))(ha:PB X (e::es) t)(hg:G[g]?=some x:=by rfl):PE X (.Call (.Name x p) (e::es) [] pos) (MS r t):=
 have q:=S.gl x (h5 hg)
 D7 hc q.1 hm hv ha.pa q.2.2 q.2.1 (ba ha.he) (de ha.EG)
variable {T:String}
theorem ct (S:Sc X N W G)(g:Nat)(hc:bX X (.type T) r)(hm:X.mg x=none)(hv:bootBuiltins x=some (.type T))(ha:PB X (e::es) t)(hg:G[g]?=some x:=by rfl):PE X (.Call (.Name x p) (e::es) [] pos) (MS r t):=
 have q:=S.gl x (h5 hg)
 BQ hc q.1 hm hv ha.pa q.2.2 q.2.1 (ba ha.he) (de ha.EG)
theorem S0 (S:Sc X N W G)(g:Nat){tg:Expr}(hm:X.mg "range"=none)(ha:PB X [e] t)(hg:G[g]?=some "range":=by rfl):PI X tg (.Call (.Name "range" p) [e] [] pos) (Ac t):=
 BI (S.gl _ (h5 hg)).1 hm ha.pa (ba ha.he)
variable {a:Expr}
theorem S1 (S:Sc X N W G)(g:Nat){tg:Expr}(hm:X.mg "range"=none)(ha:PB X [e,a] t)(hg:G[g]?=some "range":=by rfl):PI X tg (.Call (.Name "range" p) [e,a] [] pos) (Ad t):=
 have b:Ib a=true:=by have:=ha.EG;rw[all_cons,gz] at this;exact this.1
 BJ (S.gl _ (h5 hg)).1 hm ha.pa (by rw[ba ha.he,ba b];rfl) (ba b)
variable {o:Expr}{to:TE}{name:Str}{apos c9:Pos}{rm:V->List V->Hp->VK->Prop}
theorem mb (pa:PlainAttrs T)(slot:Slot T name id)(hty:typeOf (.builtin id)=pure (.type "method_descriptor"))(hm:xx X id rm)(ho:PE X o to)(ha:PB X (e::es) t)
  (eP:attributeBase o name X.env (eval o X.env)=eval o X.env:=by rfl) (hlen:decide ((e::es).length<30)=true:=by rfl)
  (eQ:(apos.endLine == c9.line)=true:=by rfl):PE X (.Call (.Attribute o name apos) (e::es) [] c9) (Pa X.K T rm to t):=
 Pb pa slot hty hm ho ha.pa eP (by rw[kZ ha.ns];exact hlen) eQ (ba ha.he) (de ha.EG)
def Li (osc:Scope)(oN N W G:List Str)(scope:Scope)(fv:List (Option Nat)):Bool:=
 Nj osc oN N scope fv&&decide N.Nodup&&N.all (EH (rl scope osc))&&W.all (fun x=>(rl scope osc).names.lookup x == some .local)&&G.all (Pz (rl scope osc))
variable {scope:Scope}{fv:List (Option Nat)}
theorem Ay {cl:List (Str × Addr)}{C:Addr}{fp:List Addr}{s:Shared}(h1:X.env.scope=osc)(h:Li osc oN N W G scope fv=true):Sc (kj X N scope cl C fp s H) N W G:=by
 unfold Li at h;simp only[Bool.and_eq_true,List.all_eq_true,decide_eq_true_eq,beq_iff_eq] at h;obtain⟨⟨⟨⟨_,b⟩,c⟩,a⟩,d⟩:=h;have e:(kj X N scope cl C fp s H).env.scope=rl scope osc:=by rw[<-h1];rfl
 exact⟨rfl,b,fun x hx=>by rw[e];exact Ax (c x hx),fun x hx=>by rw[e];exact⟨.inl (a x hx),.inr (a x hx)⟩,fun x hx=>by unfold Gl Env.kindOf;rw[e];exact EI (d x hx)⟩
variable {oW oG:List Str}
theorem Az (S:Sc X oN oW oG)(h1:X.env.scope=osc)(h:Li osc oN N W G scope fv=true):OI X.env.scope X.N N scope fv:=by
 unfold Li at h;simp only[Bool.and_eq_true] at h;exact Nk h1 S.eN h.1.1.1.1
variable {elt target iter:Expr}{ifs:List Expr}{tc:TT}{wi:TI}
theorem S3 (S:Sc X oN oW oG)(hc:X.calm=true)(h1:X.env.scope=osc)(hi:PI X target iter wi)(h:Li osc oN N W G scope fv=true)
  (hB:∀ cl C fp s H,Sc (kj X N scope cl C fp s H) N W G->PG (kj X N scope cl C fp s H) target g/\K2 (kj X N scope cl C fp s H) ifs tc/\PE (kj X N scope cl C fp s H) elt te)
  (hs:∀ x,foldedSetIterable iter X.env x=pure x:=by intro _;rfl):PE X (.ListComp elt [⟨target,iter,ifs,0⟩] scope pos) (Nb wi g tc te fv):=
 Pe hc hi (Az S h1 h) (fun cl C fp s H=>hB cl C fp s H (Ay h1 h)) hs
theorem S4 {px spos:Pos}(S:Sc X oN oW oG)(hc:X.calm=true)(h1:X.env.scope=osc)(hi:PI X target iter wi)(h:Li osc oN N W G scope fv=true)
  (hB:∀ cl C fp s H,Sc (kj X N scope cl C fp s H) N W G->PG (kj X N scope cl C fp s H) target g/\K2 (kj X N scope cl C fp s H) ifs tc/\PE (kj X N scope cl C fp s H) elt te)
  (hx:X.env.scope.names.lookup x=some .local)
  (hsw:swapsWith (.ListComp elt [⟨target,iter,ifs,0⟩] scope pos) (some (.Name x px)) spos.line X.env=pure true) (hi':oN[i]?=some x:=by rfl)
  (hs:∀ x,foldedSetIterable iter X.env x=pure x:=by intro _;rfl):PS X (.Assign [.Name x px] (.ListComp elt [⟨target,iter,ifs,0⟩] scope pos) spos) (rN (Nb wi g tc te fv) (bx i)):=
 Pf (by rw[S.eN];exact S.nd) (by rw[S.eN];exact hi') hx hc hi (Az S h1 h) (fun cl C fp s H=>hB cl C fp s H (Ay h1 h)) hsw hs
theorem EJ (h:X.xe=fun _ _=>False):PassesOwn (model X.prog X.w) X.A X.env X.xe:=by rw[h];exact PassesOwn.never
theorem ai (h:X.K=K):MW X (BR K):=by subst h;exact IQ
theorem aI (h:X.K=K):MW X (IP K):=by subst h;exact MX
theorem cq (h:X.K=K):MU X (Ed K):=by subst h;exact IS
theorem jd (h:X.K=K):MU X (IL K):=by subst h;exact MV
theorem EK (h:X.K=K):eC X (compareOp .In) (OH K false):=by subst h;exact BS
theorem dS (h:X.K=K):eC X (compareOp .NotIn) (OH K true):=by subst h;exact rZ
def PD (K:Frag):List V->Hp->VK->Prop:=fun a H Q=>∃ p ys,a=[.ref p]/\(ax K H p ys∨aH K H p ys)/\Q (.int ys.length) H
theorem aE (h:X.K=K):bX X (.builtin "len") (PD K):=by subst h;exact r8
def PF (K:Frag):List V->Hp->VK->Prop:=fun a H Q=>∃ (p:Addr) (ns:List Int),a=[.ref p]/\ax K H p (ns.map V.int)/\Q (.int ns.sum) H
theorem c8 (hc:X.calm=true)(h:X.K=K):bX X (.builtin "sum") (PF K):=by subst h;exact Et hc
variable {l:Expr}
def EL (K:Frag):List V->Hp->VK->Prop:=fun a H Q=>∃ p ys,a=[.ref p]/\((ax K H p ys/\∀ l,H l=none->Q (.ref l) (upd H l (.tup ys)))∨(aH K H p ys/\Q (.ref p) H))
theorem dU (h:X.K=K):bX X (.type "tuple") (EL K):=by subst h;exact pd
def PH (K:Frag):R2:=fun x y H Q=>∃ d d',Dt K H x d/\Dt K H y d'/\shaped d=true/\shaped d'=true/\Q (.bl (PyData.eqv d d')) H
def PJ (K:Frag):R2:=fun x y H Q=>∃ d d',Dt K H x d/\Dt K H y d'/\shaped d=true/\shaped d'=true/\Q (.bl (!PyData.eqv d d')) H
theorem su (hu:X.A.units+64<cLine)(h:X.K=K):eC X (compareOp .Eq) (PH K):=by subst h;exact Nc hu
theorem jD (hu:X.A.units+64<cLine)(h:X.K=K):eC X (compareOp .NotEq) (PJ K):=by subst h;exact Nd hu
def Lj (K:Frag):R2:=fun x y H Q=>∃ l b xs zs,x=.ref l/\y=.ref b/\ax K H l xs/\ax K H b zs/\xs.length+zs.length<=sizeLine/\∀ p,H p=none->Q (.ref p) (upd H p (.lst (xs++zs)))
theorem dC (h:X.K=K):eC X (binaryOp .Add) (Lj K):=by subst h;exact Jj
def PK:List V->Hp->VK->Prop:=fun a H Q=>∃ i j,a=[.int i,.int j]/\Q (.int (if j>i then j else i)) H
theorem BZ (hc:X.calm=true):bX X (.builtin "max") PK:=BL hc
variable {i:Int}
theorem Lk {j:Int} :PK [.int i,.int j] H Q=Q (.int (if j>i then j else i)) H:=propext ⟨fun ⟨a,b,e,q⟩=>by cases e;exact q,fun q=>⟨i,j,rfl,q⟩⟩
variable {tg:Expr}
theorem EM (hl:PE X l tl)(h:X.K=K):PI X tg l (Ab K tl):=by subst h;exact Ir hl
theorem Jm (hl:PE X l tl)(h:X.K=K):PI X tg l (Iq K tl):=by subst h;exact MF hl
theorem S5 (pa:PlainAttrs T)(slot:Slot T name id)(hty:typeOf (.builtin id)=pure (.type "method_descriptor"))(hm:xx X id rm)(h:X.K=K)(ho:PE X o to)(ha:PB X (e::es) t)
  (eP:attributeBase o name X.env (eval o X.env)=eval o X.env:=by rfl) (hlen:decide ((e::es).length<30)=true:=by rfl)
  (eQ:(apos.endLine == c9.line)=true:=by rfl):PE X (.Call (.Attribute o name apos) (e::es) [] c9) (Pa K T rm to t):=by subst h;exact mb pa slot hty hm ho ha eP hlen eQ
theorem Sd (pa:PlainAttrs T)(slot:Slot T name id)(hty:typeOf (.builtin id)=pure (.type "method_descriptor"))(hm:xx X id rm)(h:X.K=K)(ho:PE X o to)
  (eP:attributeBase o name X.env (eval o X.env)=eval o X.env:=by rfl)
  (eQ:(apos.endLine == c9.line)=true:=by rfl):PE X (.Call (.Attribute o name apos) [] [] c9) (IT K T rm to):=by subst h;exact M4 pa slot hty hm ho eP eQ
def EN (K:Frag):R2:=fun x y H Q=>∃ a b xs ys,x=.ref a/\y=.ref b/\aH K H a xs/\aH K H b ys/\xs.length+ys.length<=sizeLine/\∀ p H',ah H H'->aH K H' p (xs++ys)->Q (.ref p) H'
theorem iB (h:X.K=K):eC X (binaryOp .Add) (EN K):=by
 subst h;intro c s σ H x y v u Q I A o h;obtain⟨a,b,r,L,rfl,rfl,i,hb,hz,q⟩:=h
 by_cases hx:r=[]
 ·subst hx
  cases A
  cases o
  obtain⟨J,G,⟨⟨E,D,B,C⟩,e,t,n,z⟩,_⟩:=I.tuple i;obtain⟨d,O,⟨⟨w,j,l,m⟩,e2,g,N,f⟩,_⟩:=I.tuple hb
  simp only at t z g f
  subst t z g f
  cases G
  refine concat_meets ⟨_,e,rfl⟩ ⟨_,e2,rfl⟩ noFill_tuple_add seq_tuple_add slot_tuple_add entry_tuple_add (args_tuple_add_2 _ _) (tuple_addW0 a b _ d.toArray n N D j C m rfl) ⟨e,e2,?_⟩;exact⟨.ref b,H,I,rfl,q b H (ah.refl _) hb⟩
 ·exact IM c s σ H _ _ v u Q I A o ⟨a,b,r,L,rfl,rfl,i,hb,hx,hz,fun e=>q a H (ah.refl _) (by rw[e,TB];exact i),fun _ p M=>q p _ (ah.new M _) (aH.of ag)⟩
def PL (sc:Scope):Env:={scope:=sc,locals:=0,globals:=0,cells:=[],qual:="",func:=none,code:=.none,frame:=none,builtins:=0}
theorem dD (v:Expr)(t:Option Expr)(l:Nat)(env:Env):swapsWith v t l env=swapsWith v t l (PL env.scope):=rfl
def AA:List Expr->Option (List Int)
 | []=>some []
 | .Constant (.int i) _ _::r=>(AA r).map (i::·)
 | _=>none
def EO (ns:List Int):TA:=fun _ H Q=>Q (ns.map V.int) H
theorem AB {X:Cx}:∀ {es:List Expr} {ns:List Int},AA es=some ns->PB X es (EO ns)
 | [],ns,h=>by cases h;exact ye
 | e::es,ns,h=>by
  unfold AA at h
  split at h
  ·rename_i h1;cases h1
  ·rename_i i k p r h1
   cases h1
   obtain⟨b,a,rfl⟩:=Option.map_eq_some_iff.mp h;exact sr kP (AB a)
  ·cases h
def AD:List Expr->Option (List Str)
 | []=>some []
 | .Constant (.str i) _ _::r=>(AD r).map (i::·)
 | _=>none
def ER (ns:List Str):TA:=fun _ H Q=>Q (ns.map V.str) H
theorem AE {X:Cx}:∀ {es:List Expr} {ns:List Str},AD es=some ns->PB X es (ER ns)
 | [],ns,h=>by cases h;exact ye
 | e::es,ns,h=>by
  unfold AD at h
  split at h
  ·rename_i h1;cases h1
  ·rename_i i k p r h1
   cases h1
   obtain⟨b,a,rfl⟩:=Option.map_eq_some_iff.mp h;exact sr DI (AE a)
  ·cases h
variable {Q:List V->Hp->Prop}
theorem ES {ns:List Int}{σ:St} :EO ns σ H Q=Q (ns.map V.int) H:=rfl
theorem ET {ns:List Str}{σ:St} :ER ns σ H Q=Q (ns.map V.str) H:=rfl
structure QE (X:Cx)(e:Expr)(t:TE):Prop where
 h:PE X e t
structure QT (X:Cx)(e:Expr)(t:TT):Prop where
 h:PT X e t
structure QW (X:Cx)(e:Expr)(t:TT):Prop where
 h:PW X e t
structure QB (X:Cx)(es:List Expr)(t:TA):Prop where
 h:PB X es t
structure QS (X:Cx)(st:Stmt)(t:TS):Prop where
 h:PS X st t
structure B0 (X:Cx)(st:List Stmt)(t:TS):Prop where
 h:xw X st t
structure QG (X:Cx)(e:Expr)(t:TG):Prop where
 h:PG X e t
structure PM (X:Cx)(e:List Expr)(t:zZ):Prop where
 h:OG X e t
structure QI (X:Cx)(tg iter:Expr)(wi:TI):Prop where
 h:PI X tg iter wi
structure RM (X:Cx)(ifs:List Expr)(t:TT):Prop where
 h:K2 X ifs t
structure QO (X:Cx)(e:Option Expr)(t:TO):Prop where
 h:PO X e t
theorem kv (S:Sc X N W G)(i:Nat)(h:N[i]?=some x:=by rfl):QE X (.Name x pos) (rK i):=⟨vv S i h⟩
variable {j:Nat}
theorem aq:QE X (.Constant (.int i) j pos) (tC (.int i)):=⟨kP⟩
theorem xy {i:Bool} :QE X (.Constant (.bool i) j pos) (tC (.bl i)):=⟨OY⟩
theorem my:QE X (.Constant .none j pos) (tC .bE):=⟨Mj⟩
theorem bc {i:Str} :QE X (.Constant (.str i) j pos) (tC (.str i)):=⟨DI⟩
variable {b:Expr}{ta tb:TE}
theorem aR {op:Operator}{r:R2}(ho:eC X (binaryOp op) r)(ha:QE X a ta)(hb:QE X b tb):QE X (.BinOp a op b pos) (xH r ta tb):=⟨uV ho ha.h hb.h⟩
variable {pos':Pos}{n:Int}
theorem qD (ha:QE X a ta)(h:0<n/\n<1073741824:=by decide):QE X (.BinOp a .FloorDiv (.Constant (.int n) k pos') pos) (tI (fun i=>.int (i / n)) ta):=⟨Jf ha.h h⟩
theorem ck (ha:QE X a ta)(h:0<n:=by decide):QE X (.BinOp a .Mod (.Constant (.int n) k pos') pos) (tI (fun i=>.int (i % n)) ta):=⟨Jg ha.h h⟩
theorem EU (ha:QE X a ta)(h:-(2 ^ 64)<n/\n<2 ^ 64:=by decide):QE X (.BinOp a .Mult (.Constant (.int n) k pos') pos) (tI (fun i=>.int (i*n)) ta):=⟨Jh ha.h h⟩
theorem EV (ha:QE X a ta)(h:-(2 ^ 64)<n/\n<2 ^ 64:=by decide):QE X (.BinOp (.Constant (.int n) k pos') .Mult a pos) (tI (fun i=>.int (n*i)) ta):=⟨Ji ha.h h⟩
theorem OJ {op:UnaryOp}{r:V->Hp->VK->Prop}(ho:RK X (unaryOp op) r)(ha:QE X a ta):QE X (.UnaryOp op a pos) (R4 r ta):=⟨O2 ho ha.h⟩
variable {r:R2}
theorem ie {op:CmpOp}(ho:eC X (compareOp op) r)(ha:QE X a ta)(hb:QE X b tb)(hm:behindInMarks op b=false):QE X (.Compare a [op] [b] pos) (xH r ta tb):=⟨Iz ho ha.h hb.h hm⟩
variable {c:Expr}{tc:TE}
theorem EW {op op':CmpOp}{r':R2}(ho:eC X (compareOp op) r)(ho':eC X (compareOp op') r')(ha:QE X a ta)(hb:QE X b tb)(hc:QE X c tc)
  (hm:lastMarks [op,op'] [b,c]=false:=by with_unfolding_all rfl):QE X (.Compare a [op,op'] [b,c] pos) (nq r r' ta tb tc):=⟨DY ho ho' ha.h hb.h hc.h hm⟩
theorem yf {op}(h:QE X a ta):QE X (.BoolOp op [a] pos) ta:=⟨Mt h.h⟩
variable {rest:List Expr}
theorem pf (ha:QE X a ta)(hb:QE X (.BoolOp .And (b::rest) pos) tb):QE X (.BoolOp .And (a::b::rest) pos) (DL ta tb):=⟨Mu ha.h hb.h⟩
theorem S6 (ha:QE X a ta)(hb:QE X (.BoolOp .Or (b::rest) pos) tb):QE X (.BoolOp .Or (a::b::rest) pos) (Ms ta tb):=⟨O0 ha.h hb.h⟩
variable {tA:TT}
theorem Se (hc:QT X c tA)(ha:QE X a ta)(hb:QE X b tb):QE X (.IfExp c a b pos) (R0 tA ta tb):=⟨DM hc.h ha.h hb.h⟩
theorem ae:QB X [] xR:=⟨ye⟩
theorem aa (ha:QE X e te)(hr:QB X es t)(hn:Ib e=true:=by rfl):QB X (e::es) (Aj te t):=⟨sr ha.h hr.h hn⟩
theorem sx {ns:List Int}(h:AA es=some ns):QB X es (EO ns):=⟨AB h⟩
theorem Jn {ns:List Str}(h:AD es=some ns):QB X es (ER ns):=⟨AE h⟩
theorem qF {x1}(h:QB X es t):QE X (.Tuple es x1 pos) (IF t):=⟨Px h.h⟩
theorem dW (h:QB X es t):QE X (.List es pos) (IG t):=⟨Py h.h⟩
theorem aU (hr:MW X r)(ha:QE X a ta)(hb:QE X b tb)(hs:Ao b):QE X (.Subscript a b pos) (xH r ta tb):=⟨O7 hr ha.h hb.h hs⟩
theorem bC:QO X none rV:=⟨IJ⟩
theorem bD (h:QE X e te):QO X (some e) (D9 te):=⟨IK h.h⟩
theorem mM {lo hi:Option Expr}{tl th:TO}{p2:Pos}{r:V->Option Int->Option Int->Hp->VK->Prop}(hr:MU X r)(he:QE X e te)(hl:QO X lo tl)(hu:QO X hi th):QE X (.Subscript e (.Slice lo hi none p2) pos) (R5 r te tl th):=⟨Ea hr he.h hl.h hu.h⟩
theorem cE (S:Sc X N W G)(g:Nat)(F:Fn X.prog X.w X.K X.mg X.base k x ps sp)(hr:cM m X.A)(ha:QB X (e::es) t)(hk:k<=m:=by decide)(hg:G[g]?=some x:=by rfl):QE X (.Call (.Name x p) (e::es) [] pos) (qm sp [] E0 t):=⟨ff S g F hr ha.h hk hg⟩
variable {r:List V->Hp->VK->Prop}
theorem c7 (S:Sc X N W G)(g:Nat)(hc:bX X (.builtin id) r)(hm:X.mg x=none)(hv:bootBuiltins x=some (.builtin id))(ha:QB X (e::es) t)(hg:G[g]?=some x:=by rfl):QE X (.Call (.Name x p) (e::es) [] pos) (MS r t):=⟨cb S g hc hm hv ha.h hg⟩
theorem jk (S:Sc X N W G)(g:Nat)(hc:bX X (.type T) r)(hm:X.mg x=none)(hv:bootBuiltins x=some (.type T))(ha:QB X (e::es) t)(hg:G[g]?=some x:=by rfl):QE X (.Call (.Name x p) (e::es) [] pos) (MS r t):=⟨ct S g hc hm hv ha.h hg⟩
theorem h7 (pa:PlainAttrs T)(slot:Slot T name id)(hty:typeOf (.builtin id)=pure (.type "method_descriptor"))(hm:xx X id rm)(h:X.K=K)(ho:QE X o to)(ha:QB X (e::es) t)
  (eP:attributeBase o name X.env (eval o X.env)=eval o X.env:=by rfl) (hlen:decide ((e::es).length<30)=true:=by rfl)
  (eQ:(apos.endLine == c9.line)=true:=by rfl):QE X (.Call (.Attribute o name apos) (e::es) [] c9) (Pa K T rm to t):=⟨S5 pa slot hty hm h ho.h ha.h eP hlen eQ⟩
theorem Sf (pa:PlainAttrs T)(slot:Slot T name id)(hty:typeOf (.builtin id)=pure (.type "method_descriptor"))(hm:xx X id rm)(h:X.K=K)(ho:QE X o to)
  (eP:attributeBase o name X.env (eval o X.env)=eval o X.env:=by rfl)
  (eQ:(apos.endLine == c9.line)=true:=by rfl):QE X (.Call (.Attribute o name apos) [] [] c9) (IT K T rm to):=⟨Sd pa slot hty hm h ho.h eP eQ⟩
variable {r:R2}
theorem aS {op:CmpOp}(ho:eC X (compareOp op) r)(ha:QE X a ta)(hb:QE X b tb)(hm:behindInMarks op b=false):QT X (.Compare a [op] [b] pos) (uW (xH r ta tb)):=⟨IB ho ha.h hb.h hm⟩
theorem yg {op op':CmpOp}{r':R2}(ho:eC X (compareOp op) r)(ho':eC X (compareOp op') r')(ha:QE X a ta)(hb:QE X b tb)(hc:QE X c tc)
  (hm:lastMarks [op,op'] [b,c]=false:=by with_unfolding_all rfl):QT X (.Compare a [op,op'] [b,c] pos) (uW (nq r r' ta tb tc)):=⟨DZ ho ho' ha.h hb.h hc.h hm⟩
theorem EX (ha:QT X a tA):QW X (.BoolOp .And [a] pos) tA:=⟨Ij ha.h⟩
theorem yh (ha:QT X a tA):QW X (.BoolOp .Or [a] pos) tA:=⟨Mp ha.h⟩
variable {tB':TT}
theorem Nl (ha:QT X a tA)(hb:QW X (.BoolOp .And (b::rest) pos) tB'):QW X (.BoolOp .And (a::b::rest) pos) (Mn tA tB'):=⟨Mq ha.h hb.h⟩
theorem Nm (ha:QT X a tA)(hb:QW X (.BoolOp .Or (b::rest) pos) tB'):QW X (.BoolOp .Or (a::b::rest) pos) (RZ tA tB'):=⟨OZ ha.h hb.h⟩
theorem Ic (h:QW X a tA):QT X a tA:=⟨h.h.pt⟩
theorem sy (ha:QT X a tA):QT X (.UnaryOp .Not a pos) (Mo tA):=⟨Mr ha.h⟩
variable {v:TS}
theorem ph (h:QE X e te)(he:∀ whole,isTrue e X.env whole=(do let v<-whole;standAt e.pos;holding [v] (truthy v)):=by intro _;rfl):QT X e (tB te):=⟨Mm h.h he⟩
theorem kg (S:Sc X N W G)(i:Nat)(h:N[i]?=some x:=by rfl)(hw:W[i]?=some x:=by rfl):QG X (.Name x pos) (bx i):=⟨gv S i h hw⟩
theorem cA:PM X [] jY:=⟨Ip⟩
variable {tgs:zZ}
theorem aJ (h1:QG X e g)(h2:PM X es tgs)(hs:(assignEach (e::es) X.env).map (·.2)=assign e X.env::(assignEach es X.env).map (·.2):=by rfl):PM X (e::es) (cJ g tgs):=⟨DU h1.h h2.h hs⟩
variable {n kk:Nat}
theorem jl (hc:X.calm=true)(hK:X.K=K)(h:PM X es tgs)(hn:(assignEach es X.env).length=n:=by rfl)(hst:(assignEach es X.env).findIdx? (·.1)=none:=by rfl):QG X (.Tuple es kk pos) (jZ K n tgs):=⟨by subst hK;exact MA hc h.h hn hst⟩
theorem Sg {ti:TE}{i:Expr}{tS:DT}(ho:QE X o to)(hi:QE X i ti)(hs:Mz X tS)
  (ha:∀ v,assign (.Subscript o i pos) X.env v=(do
   let ov<-holding [v] (eval o X.env)
   let iv<-holding [v,ov] (eval i X.env)
   standAt pos
   holding [v,ov,iv] (setItem ov iv v)
   release [v,ov,iv] []):=by intro _;rfl):QG X (.Subscript o i pos) (MB to ti tS):=⟨MC ho.h hi.h hs ha⟩
theorem ig (S:Sc X N W G)(g:Nat)(hm:X.mg "range"=none)(ha:QB X [e] t)(hg:G[g]?=some "range":=by rfl):QI X tg (.Call (.Name "range" p) [e] [] pos) (Ac t):=⟨S0 S g hm ha.h hg⟩
theorem PN (S:Sc X N W G)(g:Nat)(hm:X.mg "range"=none)(ha:QB X [e,a] t)(hg:G[g]?=some "range":=by rfl):QI X tg (.Call (.Name "range" p) [e,a] [] pos) (Ad t):=⟨S1 S g hm ha.h hg⟩
theorem cB (hl:QE X e te)(h:X.K=K):QI X tg e (Ab K te):=⟨EM hl.h h⟩
theorem du (hl:QE X e te)(h:X.K=K):QI X tg e (Iq K te):=⟨Jm hl.h h⟩
theorem bg:RM X [] hZ:=⟨Jc⟩
theorem eV (h:QT X e tA):RM X [e] tA:=⟨Jd h.h⟩
theorem bw (S:Sc X N W G)(i:Nat)(he:QE X e te)(h:N[i]?=some x:=by rfl)(hw:W[i]?=some x:=by rfl)(hs:swapsWith e (some (.Name x pos')) pos.line X.env=pure false:=by rfl) :
  QS X (.Assign [.Name x pos'] e pos) (rN te (bx i)):=⟨sv S i he.h h hw hs⟩
theorem B1 (he:QE X e te)(hg:QG X tg g)(hs:swapsWithSole [tg] e pos.line X.env=pure false:=by rfl)(hw:swappedStores [tg] e X.env=pure none:=by rfl)
  (h1:(assignEach [tg] X.env).map (·.2)=[assign tg X.env]:=by rfl):QS X (.Assign [tg] e pos) (rN te g):=⟨MD he.h hg.h hs hw h1⟩
theorem aK (he:QE X e te):QS X (.Return (some e) pos) (Mv te):=⟨Mw he.h⟩
theorem df (he:QE X e te)(hs:swapsWith e none pos.line X.env=pure false:=by rfl):QS X (.Expr e pos) (DR te):=⟨Im he.h hs⟩
theorem cN {l l':List Stmt}(hc:QT X c tA)(ha:B0 X l u)(hb:B0 X l' v):QS X (.If c l l' pos) (My tA u v):=⟨O1 hc.h ha.h hb.h⟩
variable {sts:List Stmt}
theorem yi (hxe:X.xe=fun _ _=>False)(hc:QT X c tA)(hb:B0 X sts u):QS X (.While c sts [] pos) (rO tA u):=⟨DV (EJ hxe) hc.h hb.h⟩
theorem dO (hxe:X.xe=fun _ _=>False)(hc:X.calm=true)(hi:QI X tg iter wi)(hg:QG X tg g)(hb:B0 X sts u)(hs:∀ x,foldedSetIterable iter X.env x=pure x:=by intro _;rfl):QS X (.For tg iter sts [] pos) (MG wi g u):=⟨MH (EJ hxe) hc hi.h hg.h hb.h hs⟩
theorem ay:B0 X [] DO:=⟨Ik⟩
theorem af (h1:QS X st u)(h2:B0 X sts v):B0 X (st::sts) (BG u v):=⟨DP h1.h h2.h⟩
theorem aj (h1:QS X st u):B0 X [st] u:=⟨Il h1.h⟩
theorem ij (S:Sc X oN oW oG)(hc:X.calm=true)(h1:X.env.scope=osc)(hi:QI X target iter wi)(h:Li osc oN N W G scope fv=true)
  (hB:∀ cl C fp s H,Sc (kj X N scope cl C fp s H) N W G->QG (kj X N scope cl C fp s H) target g/\RM (kj X N scope cl C fp s H) ifs tA/\QE (kj X N scope cl C fp s H) elt te)
  (hs:∀ x,foldedSetIterable iter X.env x=pure x:=by intro _;rfl):QE X (.ListComp elt [⟨target,iter,ifs,0⟩] scope pos) (Nb wi g tA te fv):=
 ⟨S3 S hc h1 hi.h h (fun cl C fp s H a=>⟨(hB cl C fp s H a).1.h,(hB cl C fp s H a).2.1.h,(hB cl C fp s H a).2.2.h⟩) hs⟩
variable {i:Nat}
theorem EY {px spos:Pos}(S:Sc X oN oW oG)(hc:X.calm=true)(h1:X.env.scope=osc)(hi:QI X target iter wi)(h:Li osc oN N W G scope fv=true)
  (hB:∀ cl C fp s H,Sc (kj X N scope cl C fp s H) N W G->QG (kj X N scope cl C fp s H) target g/\RM (kj X N scope cl C fp s H) ifs tA/\QE (kj X N scope cl C fp s H) elt te)
  (hx:X.env.scope.names.lookup x=some .local)
  (hsw:swapsWith (.ListComp elt [⟨target,iter,ifs,0⟩] scope pos) (some (.Name x px)) spos.line X.env=pure true) (hi':oN[i]?=some x:=by rfl)
  (hs:∀ x,foldedSetIterable iter X.env x=pure x:=by intro _;rfl):QS X (.Assign [.Name x px] (.ListComp elt [⟨target,iter,ifs,0⟩] scope pos) spos) (rN (Nb wi g tA te fv) (bx i)):=
 ⟨S4 S hc h1 hi.h h (fun cl C fp s H a=>⟨(hB cl C fp s H a).1.h,(hB cl C fp s H a).2.1.h,(hB cl C fp s H a).2.2.h⟩) hx hsw hi' hs⟩
theorem Def.gq (D:Def K mg x st)(S:DS (ak st) N ps G)
  (hb:∀ (kV doc pm:Value) (an:Option Addr) (cX ct:Value) (us:List Value),us.length=ps.length->bindArgs (fnOf x x (bB st) (aY st) (ak st) .none kV doc pm an cX ct) ⟨us,[]⟩=pure (ps.zip us))
  (len:∀ vs H Q E,sp vs H Q E->vs.length=ps.length)
  (eO:∀ (X:Cx),Sc X N N G->X.prog=P->X.w=w->X.K=K->X.mg=mg->X.base=base->X.calm=true->X.env.scope=ak st->X.xe=(fun _ _=>False)->cM k X.A->X.A.units+64<cLine->
   ∀ (H:Hp) (vs:List V) (Q:VK) (E:XK),sp vs H Q E->∃ t,B0 X (aY st) t/\t {nx:=fun _ H'=>Q .bE H',rt:=Q} (L2.start N vs) H):Fn P w K mg base (k+1) x ps sp:=
 D.go S hb len fun X a b c d e f g h i j l H vs Q E q=>by
  obtain⟨t,z,y⟩:=eO X a b c d e f g h i j l H vs Q E q;exact⟨t,z.h,y⟩
def pr:List Int->Int
 | []=>1
 | c::r=>c*pr r
theorem sC (xs:List Int)(c:Int):pr (xs++[c])=pr xs*c:=by
 induction xs with
 | nil=>simp[pr]
 | cons a r b=>rw[cons_append,pr,b,pr,Int.mul_assoc]
def bP (W:Int)(cs:List Int):Int:=(cs.map (W / ·)).sum
theorem sum_append (xs ys:List Int):(xs++ys).sum=xs.sum+ys.sum:=by
 induction xs with
 | nil=>simp
 | cons a r b=>rw[cons_append,Do,b,Do,Int.add_assoc]
theorem qG (W:Int)(xs:List Int)(c:Int):bP W (xs++[c])=bP W xs+W / c:=by
 unfold bP;rw[hO,sum_append];simp
theorem nB {c:Int}:∀ {cs:List Int},c∈cs->c∣pr cs
 | a::r,h=>by
  rcases hU.mp h with rfl | h
  ·exact⟨pr r,rfl⟩
  ·obtain⟨d,e⟩:=nB h;exact⟨a*d,by rw[pr,e,<-Int.mul_assoc,<-Int.mul_assoc,T4 a c]⟩
theorem fK:∀ {cs:List Int},(∀ c∈cs,1<=c)->1<=pr cs
 | [],_=>by decide
 | a::r,h=>by
  have h1:=h a (fA ..);have b:=fK (cs:=r) fun c hc=>h c (eH _ hc)
  have:=Int.mul_le_mul h1 b (by decide) (by omega)
  rw[pr];omega
theorem vg {W d:Int}:∀ {cs:List Int},(∀ c∈cs,c∣W)->bP (W*d) cs=bP W cs*d
 | [],_=>by simp[bP]
 | a::r,h=>by
  have b:=vg (W:=W) (d:=d) (cs:=r) fun c hc=>h c (eH _ hc);unfold bP at b ⊢;rw[oD,oD,Do,Do,b,Tj,T4 W d,Int.mul_ediv_assoc d (h a (fA ..)),T4 d]
theorem iC {W:Int}(hW:0<=W):∀ {cs:List Int},(∀ c∈cs,1<=c)->0<=bP W cs
 | [],_=>by simp[bP]
 | a::r,h=>by
  have b:=iC hW (cs:=r) fun c hc=>h c (eH _ hc);have h1:=h a (fA ..)
  have:0<=W / a:=ediv_nonneg hW (by omega)
  unfold bP at b ⊢;rw[oD,Do];omega
variable {c:Int}
theorem B2 {xs:List Int}(hc:1<=c):bP (pr (xs++[c])) (xs++[c])=bP (pr xs) xs*c+pr xs:=by
 rw[qG,sC,vg fun c hc=>nB hc,Int.mul_ediv_cancel _ (by omega)]
theorem AF {W:Int}(hW:0<=W):∀ {cs:List Int},(∀ c∈cs,1<=c)->bP W cs<=cs.length*W
 | [],_=>by simp[bP]
 | a::r,h=>by
  have b:=AF hW (cs:=r) fun c hc=>h c (eH _ hc);have h1:=h a (fA ..);have d:W / a<=W:=ediv_le_self _ hW;unfold bP at b ⊢;rw[oD,Do,qs,Int.natCast_succ,Tj];omega
theorem EZ (m n:Nat):Nat.gcd n (m % n)=Nat.gcd m n:=by
 rw[Nat.gcd_comm m n,Nat.gcd_rec n m,Nat.gcd_comm]
variable {a b g:Int}
theorem Jo (hg:0<g)(h1:g∣a)(h2:g∣b):(a / g) / (b / g)=a / b:=by
 obtain⟨x,rfl⟩:=h1;obtain⟨y,rfl⟩:=h2;rw[Tc _ (by omega),Tc _ (by omega),Int.mul_ediv_mul_of_pos _ _ hg]
theorem Jp (hg:0<g)(hb:0<b)(h2:g∣b):1<=b / g:=by
 obtain⟨y,rfl⟩:=h2;rw[Tc _ (by omega)]
 have:=Int.pos_of_mul_pos_right hb (by omega)
 omega
def ia (W c start seen:Int):Int:=((start - seen) % W+W / c - 1) / (W / c) % c
variable {W seen:Int}
theorem Fb {start:Int}(hc:1<=c):0<=ia W c start seen:=GE _ (by omega)
theorem Fc {start:Int}(hc:1<=c):ia W c start seen<c:=C6 _ (by omega)
variable {x:Int}
theorem RN {y:Int}(ha:1<=a)(h1:x*a<y*a+a)(h2:y*a<x*a+a):x=y:=by
 rcases Int.lt_trichotomy x y with h | h | h
 ·have:(x+1)*a<=y*a:=AC (by omega) (by omega)
  rw[Tj] at this;omega
 ·exact h
 ·have:(y+1)*a<=x*a:=AC (by omega) (by omega)
  rw[Tj] at this;omega
theorem B3 {start h:Int}(hW:1<=W)(hc:1<=c)(hd:c∣W)(h0:0<=h)(h1:h<c) :
  ia W c start seen=h↔(h*(W / c)+seen - start) % W<W / c:=by
 obtain⟨a,rfl⟩:=hd;have g:1<=a:=by
  have:=Int.pos_of_mul_pos_right (show 0<c*a by omega) (by omega)
  omega
 unfold ia;rw[Tc _ (by omega)]
 have j:=GE (start - seen) (show c*a≠0 by omega)
 have m:=C6 (start - seen) (show 0<c*a by omega)
 have hm:(h*a+seen - start) % (c*a)=(h*a - (start - seen) % (c*a)) % (c*a):=by
  rw[show h*a+seen - start=h*a - (start - seen) by omega]
  rw[sub_emod,sub_emod (h*a) ((start - seen) % (c*a)),Int.emod_emod_of_dvd (start - seen) (Int.dvd_refl (c*a))]
 rw[hm];generalize (start - seen) % (c*a)=L at j m ⊢;have l:=mul_ediv_add_emod (L+a - 1) a;have p:=GE (L+a - 1) (show a≠0 by omega)
 have u:=C6 (L+a - 1) (show 0<a by omega)
 have f:0<=(L+a - 1) / a:=ediv_nonneg (by omega) (by omega)
 generalize (L+a - 1) / a=q at l f ⊢;generalize (L+a - 1) % a=r at l p u;rw[T4 a q] at l;have v:q<=c:=by
  rcases Int.lt_or_le c q with hh | hh
  ·have:(c+1)*a<=q*a:=AC (by omega) (by omega)
   rw[Tj] at this;omega
  ·exact hh
 have t:1*a<=c*a:=AC hc (by omega)
 have s:h*a+a<=c*a:=by
  have:(h+1)*a<=c*a:=AC (by omega) (by omega)
  rw[Tj] at this;omega
 have o:0<=h*a:=Int.mul_nonneg h0 (by omega)
 by_cases n:q=c
 ·subst n;rw[Int.emod_self]
  constructor
  ·rintro rfl
   have:(0*a - L) % (q*a)=q*a - L:=by
    rw[show 0*a - L=(q*a - L)+(q*a)*(-1) by rw[Int.zero_mul];omega,Tp]
    exact TF (by omega) (by omega)
   rw[this];omega
  ·intro b
   rcases Int.lt_or_le (h*a) L with hh | hh
   ·have:(h*a - L) % (q*a)=h*a - L+q*a:=by
     have z:h*a - L=(h*a - L+q*a)+(q*a)*(-1):=by omega
     have d:=Tp (h*a - L+q*a) (q*a) (-1);rw[<-z] at d;rw[d];exact TF (by omega) (by omega)
    rw[this] at b;have e:h+q=q:=RN g (x:=h+q) (y:=q) (by rw[Tj];omega) (by rw[Tj];omega)
    omega
   ·rw[TF (by omega) (by omega)] at b
    have e:h=q:=RN g (by omega) (by omega)
    omega
 ·have i:q % c=q:=TF f (by omega)
  rw[i]
  constructor
  ·rintro rfl;rw[TF (by omega) (by omega)];omega
  ·intro b
   rcases Int.lt_or_le (h*a) L with hh | hh
   ·have:(h*a - L) % (c*a)=h*a - L+c*a:=by
     have z:h*a - L=(h*a - L+c*a)+(c*a)*(-1):=by omega
     have d:=Tp (h*a - L+c*a) (c*a) (-1);rw[<-z] at d;rw[d];exact TF (by omega) (by omega)
    rw[this] at b;have e:h+c=q:=RN g (x:=h+c) (y:=q) (by rw[Tj];omega) (by rw[Tj];omega)
    omega
   ·rw[TF (by omega) (by omega)] at b
    exact RN g (by omega) (by omega)
theorem Nn {t:Int}(hW:1<=W)(ha0:0<=a)(haW:a<=W):(x+a - t+W - 1) / W=(x - t+W - 1) / W+(if (t - x) % W<a then 1 else 0):=by
 have b:=mul_ediv_add_emod (x - t+W - 1) W;have c:=GE (x - t+W - 1) (show W≠0 by omega)
 have d:=C6 (x - t+W - 1) (show 0<W by omega)
 generalize (x - t+W - 1) / W=q at b ⊢;generalize (x - t+W - 1) % W=r at b c d;have e:(t - x) % W=W - 1 - r:=by
  rw[show t - x=(W - 1 - r)+W*(-q) by rw[Int.mul_neg];omega,Tp]
  exact TF (by omega) (by omega)
 rw[e,show x+a - t+W - 1=(r+a)+W*q by omega,Int.add_mul_ediv_left _ _ (by omega)]
 split
 ·have:(r+a) / W=1:=by
   rw[show r+a=(r+a - W)+W*1 by omega,Int.add_mul_ediv_left _ _ (by omega),Int.ediv_eq_zero_of_lt (by omega) (by omega)];rfl
  omega
 ·rw[Int.ediv_eq_zero_of_lt (by omega) (by omega)];omega
def dE (W:Int)(cs hs:List Int):Int:=((List.range cs.length).map fun j=>hs.getD j 0*(W / cs.getD j 0)).sum
def others (n i:Nat):List Nat:=(List.range n).filter fun j=>decide (¬ j=i)
def seenOf (W:Int)(cs hs:List Int)(i:Nat):Int:=((others cs.length i).map fun j=>hs.getD j 0*(W / cs.getD j 0)).sum
def cg (cs hs:List Int)(i:Nat):Int:=ia (pr cs) (cs.getD i 0) (bP (pr cs) (cs.take i)) (seenOf (pr cs) cs hs i)
theorem qH (f:Nat->Int)(i:Nat):∀ n,((List.range n).map f).sum=(((List.range n).filter fun j=>decide (¬ j=i)).map f).sum+(if i<n then f i else 0)
 | 0=>by simp
 | n+1=>by
  rw[FM,hO,sum_append,qH f i n,SZ,hO,sum_append]
  by_cases h:n=i
  ·subst h
   simp
  ·by_cases b:i<n
   ·have a:i<n+1:=by omega
    simp[h,b,a];omega
   ·have a:¬ i<n+1:=by omega
    simp[h,b,a]
variable {cs hs:List Int}
theorem pj (hi:i<cs.length):dE W cs hs=seenOf W cs hs i+hs.getD i 0*(W / cs.getD i 0):=by
 unfold dE seenOf others;rw[qH _ i,if_pos hi]
structure Jq (cs hs:List Int):Prop where
 pos:∀ c∈cs,1<=c
 len:hs.length=cs.length
 lo:∀ i,i<cs.length->0<=hs.getD i 0
 hi:∀ i,i<cs.length->hs.getD i 0<cs.getD i 0
theorem getD_mem (hi:i<cs.length):cs.getD i 0∈cs:=by
 rw[b4,b5 hi];exact p0 hi
theorem PQ (h:∀ c∈cs,1<=c)(hi:i<cs.length):0<=cg cs hs i:=Fb (h _ (getD_mem hi))
theorem PR (h:∀ c∈cs,1<=c)(hi:i<cs.length):cg cs hs i<cs.getD i 0:=Fc (h _ (getD_mem hi))
theorem Fd (h:Jq cs hs)(hi:i<cs.length) :
  cg cs hs i=hs.getD i 0↔(dE (pr cs) cs hs - bP (pr cs) (cs.take i)) % pr cs<pr cs / cs.getD i 0:=by
 have hc:=h.pos _ (getD_mem hi);unfold cg;rw[B3 (fK h.pos) hc (nB (getD_mem hi)) (h.lo i hi) (h.hi i hi),pj hi,Int.add_comm (seenOf _ _ _ _)]
theorem take_snoc {α:Type}(d:α){xs:List α}(h:n<xs.length):xs.take (n+1)=xs.take n++[xs.getD n d]:=by
 rw[take_succ,b5 h,b4,b5 h];rfl
theorem yj (h:∀ c∈cs,1<=c)(hi:i<cs.length):pr cs / cs.getD i 0<=pr cs/\1<=pr cs / cs.getD i 0:=by
 have a:=fK h;have hc:=h _ (getD_mem hi);refine⟨ediv_le_self _ (by omega),?_⟩
 obtain⟨d,e⟩:=nB (getD_mem hi);rw[e,Tc _ (by omega)]
 have:=Int.pos_of_mul_pos_right (show 0<cs.getD i 0*d by omega) (by omega)
 omega
def dg (cs hs:List Int)(n:Nat):List Nat:=(List.range n).filter fun i=>decide (cg cs hs i=hs.getD i 0)
theorem km {cs hs:List Int}(h:Jq cs hs):∀ n,n<=cs.length->
  ((dg cs hs n).length:Int)=(bP (pr cs) (cs.take n) - dE (pr cs) cs hs % pr cs+pr cs - 1) / pr cs
 | 0,_=>by
  have a:=fK h.pos;have h1:=GE (dE (pr cs) cs hs) (show pr cs≠0 by omega)
  have e:=C6 (dE (pr cs) cs hs) (show 0<pr cs by omega)
  have:bP (pr cs) (cs.take 0)=0:=by simp[bP]
  rw[this,Int.ediv_eq_zero_of_lt (by omega) (by omega)]
  simp[dg]
 | n+1,hn=>by
  have d:=km h n (by omega)
  have a:=fK h.pos;have c:=yj h.pos (i:=n) (by omega)
  have b:=Fd h (i:=n) (by omega)
  have hm:(dE (pr cs) cs hs % pr cs - bP (pr cs) (cs.take n)) % pr cs=(dE (pr cs) cs hs - bP (pr cs) (cs.take n)) % pr cs:=by
   rw[sub_emod,Int.emod_emod_of_dvd _ (Int.dvd_refl _),<-sub_emod]
  rw[take_snoc 0 (by omega),qG,Nn a (by omega) c.1,<-d,hm]
  unfold dg;rw[FM,SZ,eG]
  by_cases hc:cg cs hs n=hs.getD n 0
  ·rw[if_pos (b.mp hc)];simp only[filter_cons,hc,decide_true,if_true,filter_nil,length_cons,length_nil]
   omega
  ·rw[if_neg (fun z=>hc (b.mpr z))];simp only[filter_cons,hc,decide_false,filter_nil]
   simp
theorem yk (h:Jq cs hs) :
  (bP (pr cs) cs - bP (pr cs) cs % pr cs<=((dg cs hs cs.length).length:Int)*pr cs)/\(((dg cs hs cs.length).length:Int) - 1)*pr cs<bP (pr cs) cs:=by
 have e:=km h cs.length (dy _);have b:=fK h.pos;rw[L3] at e;have h1:=GE (dE (pr cs) cs hs) (show pr cs≠0 by omega)
 have a:=C6 (dE (pr cs) cs hs) (show 0<pr cs by omega)
 generalize dE (pr cs) cs hs % pr cs=t at e h1 a;generalize ((dg cs hs cs.length).length:Int)=R at e ⊢;generalize bP (pr cs) cs=O at e ⊢;generalize pr cs=W at e b h1 a ⊢;subst e;have g:=mul_ediv_add_emod O W;have d:=GE O (show W≠0 by omega)
 have j:=C6 O (show 0<W by omega)
 have i:=mul_ediv_add_emod (O - t+W - 1) W;have l:=GE (O - t+W - 1) (show W≠0 by omega)
 have f:=C6 (O - t+W - 1) (show 0<W by omega)
 have c:O / W<=(O - t+W - 1) / W:=Int.ediv_le_ediv (by omega) (by omega)
 have m:W*(O / W)<=W*((O - t+W - 1) / W):=Int.mul_le_mul_of_nonneg_left c (by omega)
 rw[Int.sub_mul,T4 _ W]
 omega
variable {A:Prop}
theorem yl {B:Prop}[Decidable (true=true)]:(if true=true then A else B)=A:=if_pos rfl
theorem kn {B:Prop}[Decidable True]:(if True then A else B)=A:=if_pos trivial
theorem Ll {B:Prop}[Decidable False]:(if False then A else B)=B:=if_neg id
theorem PU [i:Decidable True]:@decide True i=true:=by cases i with
 | isTrue _=>rfl
 | isFalse h=>exact absurd trivial h
theorem Lm {σ:St}:yb [] σ=[]:=rfl
theorem Lo {σ:St}:yb (none::fv) σ=none::yb fv σ:=rfl
def Jr (σ:St)(i:Nat):Option V:=(σ[i]?).join
theorem Lp {σ:St}:yb (some i::fv) σ=Jr σ i::yb fv σ:=rfl
variable {o:Option V}
theorem PV {σ:St}:Jr (o::σ) 0=o:=rfl
theorem PX {σ:St}:Jr (o::σ) (i+1)=Jr σ i:=rfl
variable {Q:VK}{p:Addr}
theorem aZ {ys:List V}(h:ax K H p ys∨aH K H p ys)(q:Q (.int ys.length) H):PD K [.ref p] H Q:=⟨p,ys,rfl,h,q⟩
theorem k7 {ns:List Int}(h:ax K H p (ns.map V.int))(q:Q (.int ns.sum) H):PF K [.ref p] H Q:=⟨p,ns,rfl,h,q⟩
variable {i:Int}
theorem iD {α:Type}{xs:List α}{k:Nat}(e:i=(k:Int))(d:α)(h1:k<xs.length):xW xs i=some (xs.getD k d):=by
 subst e;rw[jb (b5 h1),b4,b5 h1];rfl
theorem getD_ints {ns:List Int}{k:Nat}(h:k<ns.length):(ns.map V.int).getD k .bE=.int (ns.getD k 0):=by
 rw[b4,ek,b5 h,b4,b5 h];rfl
theorem cu {ns:List Int}{k:Nat}(h:ax K H p (ns.map V.int))(e:i=(k:Int))(h1:k<ns.length)(q:Q (.int (ns.getD k 0)) H):BR K (.ref p) (.int i) H Q:=
 ⟨p,_,i,_,rfl,rfl,h,iD e .bE (by rw[cc];exact h1),by rw[getD_ints h1];exact q⟩
theorem dF {ns:List Int}{k:Nat}(h:aH K H p (ns.map V.int))(e:i=(k:Int))(h1:k<ns.length)(q:Q (.int (ns.getD k 0)) H):IP K (.ref p) (.int i) H Q:=
 ⟨p,_,i,_,rfl,rfl,h,iD e .bE (by rw[cc];exact h1),by rw[getD_ints h1];exact q⟩
variable {a:Addr}{ns:List Int}{g:TG}{tb:TS}
theorem Js (I:Nat->St->Hp->Prop)(h:aH K H a (ns.map V.int))(h0:I 0 σ H)(hl:∀ i σ H,I i σ H->aH K H a (ns.map V.int))
  (step:∀ i σ H,i<ns.length->I i σ H->g (.int (ns.getD i 0)) σ H fun σ2 H2=>tb {D with nx:=I (i+1),ct:=I (i+1),bk:=D.nx} σ2 H2)
  (fin:∀ σ H,I ns.length σ H->D.nx σ H):∃ b,V.ref a=.ref b/\(∃ xs,aH K H b xs)/\mx g tb D σ (Aa K b) H:=by
 refine⟨a,rfl,⟨_,h⟩,rQ (xs:=ns.map V.int) I h0 (fun i σ H _ p=>hl i σ H p) (fun i x σ H e p=>?_) fun σ H p=>fin σ H (by rw[cc] at p;exact p)⟩
 have hi:i<ns.length:=by have:=(o5.mp e).1;rw[cc] at this;exact this
 have e2:x=.int (ns.getD i 0):=by
  rw[<-getD_ints hi,b4,e];rfl
 rw[e2];exact step i σ H hi p
theorem forL (I:Nat->St->Hp->Prop)(h:ax K H a (ns.map V.int))(h0:I 0 σ H)(hl:∀ i σ H,I i σ H->ax K H a (ns.map V.int))
  (step:∀ i σ H,i<ns.length->I i σ H->g (.int (ns.getD i 0)) σ H fun σ2 H2=>tb {D with nx:=I (i+1),ct:=I (i+1),bk:=D.nx} σ2 H2)
  (fin:∀ σ H,I ns.length σ H->D.nx σ H):∃ b,V.ref a=.ref b/\(∃ xs,ax K H b xs)/\mx g tb D σ (HZ K b) H:=by
 refine⟨a,rfl,⟨_,h⟩,uU (xs:=ns.map V.int) I h0 (fun i σ H _ p=>hl i σ H p) (fun i x σ H e p=>?_) fun σ H p=>fin σ H (by rw[cc] at p;exact p)⟩
 have hi:i<ns.length:=by have:=(o5.mp e).1;rw[cc] at this;exact this
 have e2:x=.int (ns.getD i 0):=by
  rw[<-getD_ints hi,b4,e];rfl
 rw[e2];exact step i σ H hi p
variable {j:Int}
theorem forR (n:Nat)(I:Nat->St->Hp->Prop)(e:j=(n:Int))(hn:n<=1000000)(h0:I 0 σ H)
  (step:∀ i σ H,i<n->I i σ H->g (.int (i:Int)) σ H fun σ2 H2=>tb {D with nx:=I (i+1),ct:=I (i+1),bk:=D.nx} σ2 H2)
  (fin:∀ σ H,I n σ H->D.nx σ H):∃ k:Int,[V.int j]=[.int k]/\-(2 ^ 62)<=k/\k<2 ^ 62/\mx g tb D σ (xE 0 k.toNat) H:=by
 subst e;refine⟨_,rfl,by omega,by omega,qk (n:=((n:Nat):Int).toNat) I h0 (fun i σ H hi p=>?_) fun σ H p=>fin σ H (by rw[yx] at p;exact p)⟩
 rw[yx] at hi
 have:=step i σ H hi p
 rw[<-Int.zero_add ((i:Nat):Int)] at this;exact this
variable {tc:TT}
theorem qI {rest:St}{H1:Hp}(ok:yc J H1 n item)(keep:Nat->Bool)(val:Nat->V)(hn:n<sizeLine)
  (step:∀ i H (A:V->Hp->Prop) (B:Hp->Prop),i<n->ah H1 H->(keep i=true->∀ H',ah H H'->A (val i) H')->(keep i=false->∀ H',ah H H'->B H')->
   tc (some (item i)::rest) H fun b H3=>if b=true then te (some (item i)::rest) H3 A else B H3)
  (fin:∀ acc H,H1 acc=none->ah H1 H->H acc=some (.lst (((List.range n).filter keep).map val))->Q (.ref acc) H):sh (bx 0) tc te (none::rest) Q J H1:=by
 have c:∀ i,i<n->(((List.range i).filter keep).map val).length<sizeLine:=fun i hi=>by
  have:=A5 keep (List.range i)
  rw[j6] at this;rw[cc];omega
 refine Ni ok (fun i=>((List.range i).filter keep).map val) (fun _ τ=>∃ y,τ=y::rest) rfl ⟨_,rfl⟩ ?_ fin;rintro i τ H acc hi ⟨y,rfl⟩ d e f;show tc (some (item i)::rest) H _;refine step i H _ _ hi e (fun hk H' a=>?_) fun hk H' a=>?_
 ·refine Nh d (a _ _ f) (e.trans a) (c i hi) ?_ ⟨_,rfl⟩
  simp[List.range_succ,List.filter_append,List.map_append,hk]
 ·refine⟨⟨_,rfl⟩,e.trans a,?_⟩;rw[a _ _ f]
  simp[List.range_succ,List.filter_append,List.map_append,hk]
theorem PY {rest:St}{H1:Hp}(keep:Nat->Bool)(val:Nat->Int)(h:aH K H1 a (ns.map V.int))(hn:ns.length<sizeLine)
  (step:∀ i H (A:V->Hp->Prop) (B:Hp->Prop),i<ns.length->ah H1 H->(keep i=true->∀ H',ah H H'->A (.int (val i)) H')->(keep i=false->∀ H',ah H H'->B H')->
   tc (some (.int (ns.getD i 0))::rest) H fun b H3=>if b=true then te (some (.int (ns.getD i 0))::rest) H3 A else B H3)
  (fin:∀ acc H,H1 acc=none->ah H1 H->H acc=some (.lst ((((List.range ns.length).filter keep).map val).map V.int))->Q (.ref acc) H) :
  ∃ b,V.ref a=.ref b/\(∃ xs,aH K H1 b xs)/\sh (bx 0) tc te (none::rest) Q (Aa K b) H1:=by
 refine⟨a,rfl,⟨_,h⟩,qI (gk h) keep (fun i=>.int (val i)) (by rw[cc];exact hn) (fun i H A B hi f d e=>?_) fun acc H h1 g c=>fin acc H h1 g (by rw[c,kc,cc];rfl)⟩
 rw[cc] at hi;rw[getD_ints hi];exact step i H A B hi f d e
theorem RO {rest:St}{H1:Hp}(keep:Nat->Bool)(val:Nat->Int)(h:ax K H1 a (ns.map V.int))(hn:ns.length<sizeLine)
  (step:∀ i H (A:V->Hp->Prop) (B:Hp->Prop),i<ns.length->ah H1 H->(keep i=true->∀ H',ah H H'->A (.int (val i)) H')->(keep i=false->∀ H',ah H H'->B H')->
   tc (some (.int (ns.getD i 0))::rest) H fun b H3=>if b=true then te (some (.int (ns.getD i 0))::rest) H3 A else B H3)
  (fin:∀ acc H,H1 acc=none->ah H1 H->H acc=some (.lst ((((List.range ns.length).filter keep).map val).map V.int))->Q (.ref acc) H) :
  ∃ b,V.ref a=.ref b/\(∃ xs,ax K H1 b xs)/\sh (bx 0) tc te (none::rest) Q (HZ K b) H1:=by
 refine⟨a,rfl,⟨_,h⟩,qI (cT h) keep (fun i=>.int (val i)) (by rw[cc];exact hn) (fun i H A B hi f d e=>?_) fun acc H h1 g c=>fin acc H h1 g (by rw[c,kc,cc];rfl)⟩
 rw[cc] at hi;rw[getD_ints hi];exact step i H A B hi f d e
theorem OK {rest:St}{H1:Hp}(n:Nat)(keep:Nat->Bool)(val:Nat->Int)(e:j=(n:Int))(hn:n<=1000000)
  (step:∀ i H (A:V->Hp->Prop) (B:Hp->Prop),i<n->ah H1 H->(keep i=true->∀ H',ah H H'->A (.int (val i)) H')->(keep i=false->∀ H',ah H H'->B H')->
   tc (some (.int (i:Int))::rest) H fun b H3=>if b=true then te (some (.int (i:Int))::rest) H3 A else B H3)
  (fin:∀ acc H,H1 acc=none->ah H1 H->H acc=some (.lst ((((List.range n).filter keep).map val).map V.int))->Q (.ref acc) H) :
  ∃ k:Int,[V.int j]=[.int k]/\-(2 ^ 62)<=k/\k<2 ^ 62/\sh (bx 0) tc te (none::rest) Q (xE 0 k.toNat) H1:=by
 subst e;refine⟨_,rfl,by omega,by omega,?_⟩
 rw[yx];refine qI jC keep (fun i=>.int (val i)) (A6 hn (by decide)) (fun i H A B hi f c d=>?_) fun acc H h1 g a=>fin acc H h1 g (by rw[a,kc];rfl)
 rw[Int.zero_add];exact step i H A B hi f c d
theorem bG (n:Nat):(List.range n).filter (fun _=>true)=List.range n:=by simp
variable {β:Type}
theorem map_getD (ns:List Int)(f:Int->β):(List.range ns.length).map (fun i=>f (ns.getD i 0))=ns.map f:=by
 apply ext_getElem
 ·simp
 ·intro i h1 a
  simp at h1
  simp[h1]
theorem Bt.pr {k:Nat}:∀ {cs:List Int},(∀ c∈cs,Bt k c)->Bt (cs.length*k+1) (L2.pr cs)
 | [],_=>by unfold Bt;simp[L2.pr]
 | c::r,h=>by
  have h1:=h c (fA ..);have b:=Bt.pr (k:=k) (cs:=r) fun d a=>h d (eH _ a)
  have:=h1.mul b
  rw[L2.pr];exact this.mono (by rw[qs,Nat.succ_mul];omega)
theorem Ia.gq {k:Nat}{x:Str}{fd:FuncData}(F:Ia K x x st f fd)(S:DS (ak st) N ps G)
  (len:∀ vs H Q E,sp vs H Q E->vs.length=ps.length)
  (eO:∀ (X:Cx),Sc X N N G->X.prog=P->X.w=w->X.K=K->X.mg=mg->X.base=base->X.calm=true->X.env.scope=ak st->X.xe=(fun _ _=>False)->cM k X.A->X.A.units+64<cLine->
   ∀ (H:Hp) (vs:List V) (Q:VK) (E:XK),sp vs H Q E->∃ t,B0 X (aY st) t/\t {nx:=fun _ H'=>Q .bE H',rt:=Q} (L2.start N vs) H):fj P w K mg base BW (k+1) f fd ps sp:=
 F.ok S.fs len fun c A a s H vs Q E b h=>by
  obtain⟨t,z,y⟩:=eO _ S.cx rfl rfl rfl rfl rfl rfl rfl rfl b b.units H vs Q E h;exact⟨t,z.h,y⟩
theorem Fe {k:Nat}(h:k<=xs.length):j8 xs none (some (k:Int))=xs.take k:=by
 unfold j8;rw[HT.j4,HT.ja,drop_zero,Nat.sub_zero,Nat.min_eq_left h]
theorem Ff {k:Nat}(h:k<=xs.length):j8 xs (some (k:Int)) none=xs.drop k:=by
 unfold j8;rw[HT.j4,HT.ja,Nat.min_eq_left h,DK];rw[uF];exact dy _
theorem dv {k:Nat}:j8 xs (some (k:Int)) none=xs.drop k:=by
 by_cases h:k<=xs.length
 ·exact Ff h
 ·unfold j8;rw[HT.j4,HT.ja,Nat.min_eq_right (by omega),List.drop_eq_nil_of_le (dy _),List.drop_eq_nil_of_le (by omega),List.take_nil]
theorem k8 {k:Nat}:j8 xs none (some (k:Int))=xs.take k:=by
 by_cases h:k<=xs.length
 ·exact Fe h
 ·unfold j8;rw[HT.j4,HT.ja,drop_zero,Nat.sub_zero,Nat.min_eq_right (by omega),DK (dy _),DK (by omega)]
theorem sD (k:Nat)(h:aH K H a (ns.map V.int))(e:i=(k:Int))(hk:k<ns.length)(q:∀ p,H p=none->Q (.ref p) (upd H p (.tup ((ns.take k).map V.int)))):IL K (.ref a) none (some i) H Q:=by
 subst e;refine⟨a,_,rfl,h,?_,fun p b=>?_⟩
 ·rw[cc,HT.ja];omega
 ·rw[k8,<-map_take];exact q p b
theorem sE (k:Nat)(h:aH K H a (ns.map V.int))(e:i=((k+1:Nat):Int))(hk:k<ns.length)(q:∀ p,H p=none->Q (.ref p) (upd H p (.tup ((ns.drop (k+1)).map V.int)))):IL K (.ref a) (some i) none H Q:=by
 subst e;refine⟨a,_,rfl,h,?_,fun p b=>?_⟩
 ·rw[cc,HT.ja];omega
 ·rw[dv,<-TR];exact q p b
theorem Jt (k:Nat)(h:ax K H a (ns.map V.int))(e:i=(k:Int))(q:∀ p,H p=none->Q (.ref p) (upd H p (.lst ((ns.drop k).map V.int)))):Ed K (.ref a) (some i) none H Q:=by
 subst e;refine⟨a,_,rfl,h,fun p b=>?_⟩;rw[dv,<-TR];exact q p b
variable {b:Addr}{ms:List Int}
theorem sF (h:ax K H a (ns.map V.int))(h':ax K H b (ms.map V.int))(hz:ns.length+ms.length<=sizeLine)(q:∀ p,H p=none->Q (.ref p) (upd H p (.lst ((ns++ms).map V.int)))):Lj K (.ref a) (.ref b) H Q:=
 ⟨a,b,_,_,rfl,rfl,h,h',by rw[cc,cc];exact hz,fun p c=>by rw[<-hO];exact q p c⟩
theorem sG (h:aH K H a (ns.map V.int))(h':aH K H b (ms.map V.int))(hz:ns.length+ms.length<=sizeLine)(q:∀ p H',ah H H'->aH K H' p ((ns++ms).map V.int)->Q (.ref p) H'):EN K (.ref a) (.ref b) H Q:=
 ⟨a,b,_,_,rfl,rfl,h,h',by rw[cc,cc];exact hz,fun p H' d c=>by rw[<-hO] at c;exact q p H' d c⟩
theorem bY (h:n<=100):n<=sizeLine:=h9 h (by decide)
variable {v:V}
theorem bh (h:aH K H p xs)(e:xW xs i=some v)(q:Q v H):IP K (.ref p) (.int i) H Q:=⟨p,_,i,_,rfl,rfl,h,e,q⟩
structure Cn (c:Int):Prop where
 lo:1<=c
 hi:c<=1000000000000000000000000000000
def Lq:Sp:=fun a H Q _=>∃ m n:Nat,a=[.int m,.int n]/\Q (.int (Nat.gcd m n)) H
def PZ (H0:Hp)(g:Nat)(r:St)(σ:St)(H:Hp):Prop:=H=H0/\∃ (m n:Nat) (y:St),σ=some (.int m)::some (.int n)::y/\y.length=r.length/\Nat.gcd m n=g
def SJ (σ:St):Nat:=match σ with
 | _::some (.int n)::_=>n.toNat
 | _=>0
theorem Sh {α:Type}{y:List α}(h:y.length=1):∃ a,y=[a]:=by
 match y,h with
 | [a],_=>exact⟨a,rfl⟩
theorem Si (m n:Nat):(m:Int) % (n:Int)=((m % n:Nat):Int):=(natCast_emod m n).symm
structure cp (cs:List Int):Prop where
 cn:∀ c∈cs,Cn c
 len:cs.length<=8
end L2
namespace L2
open PySem PySem.Spec PyProof.Rows
theorem cp.pos {cs:List Int}(h:cp cs):∀ c∈cs,1<=c:=fun c hc=>(h.cn c hc).lo
theorem cp.take {cs:List Int}(h:cp cs)(i:Nat):cp (cs.take i):=⟨fun c hc=>h.cn c (mem_of_mem_take hc),by rw[wh];have:=h.len;omega⟩
theorem Cn.bt {c:Int}(h:Cn c):Bt 100 c:=by
 unfold Bt;have h1:=h.lo;have a:=h.hi
 have:(2:Nat) ^ 100=1267650600228229401496703205376:=by decide
 omega
theorem cp.B4 {cs:List Int}(h:cp cs):Bt 801 (pr cs):=(Bt.pr fun c hc=>(h.cn c hc).bt).mono (by have:=h.len;omega)
theorem cp.jt {cs:List Int}(h:cp cs):1<=pr cs:=fK h.pos
theorem cp.P0 {cs:List Int}(h:cp cs):0<=bP (pr cs) cs:=iC (by have:=h.jt;omega) h.pos
theorem cp.P1 {cs:List Int}(h:cp cs):Bt 805 (bP (pr cs) cs):=by
 have h1:=AF (W:=pr cs) (by have:=h.jt;omega) h.pos
 have b:(cs.length:Int)*pr cs<=8*pr cs:=AC (by have:=h.len;omega) (by have:=h.jt;omega)
 have a:Bt (4+801) (8*pr cs):=Bt.mul (by unfold Bt;decide) h.B4
 exact a.of_le h.P0 (by omega)
theorem cp.get {cs:List Int}(h:cp cs){i:Nat}(hi:i<cs.length):Cn (cs.getD i 0):=h.cn _ (L2.getD_mem hi)
def gC (cs:List Int):Nat:=Nat.gcd (bP (pr cs) cs).toNat (pr cs).toNat
theorem ym {cs:List Int}(h:cp cs):0<gC cs:=Nat.gcd_pos_of_pos_right _ (by have:=h.jt;omega)
theorem toN {i:Int}(h:0<=i):((i.toNat:Nat):Int)=i:=Int.toNat_of_nonneg h
theorem P2 {cs:List Int}(h:cp cs):(gC cs:Int)∣bP (pr cs) cs:=by
 have:=Int.natCast_dvd_natCast.mpr (Nat.gcd_dvd_left (bP (pr cs) cs).toNat (pr cs).toNat)
 rw[toN h.P0] at this;exact this
theorem Fg {cs:List Int}(h:cp cs):(gC cs:Int)∣pr cs:=by
 have:=Int.natCast_dvd_natCast.mpr (Nat.gcd_dvd_right (bP (pr cs) cs).toNat (pr cs).toNat)
 rw[toN (show 0<=pr cs by have:=h.jt;omega)] at this
 exact this
def OL (cs:List Int):Int:=bP (pr cs) cs / gC cs
def Np (cs:List Int):Int:=pr cs / gC cs
theorem yn {cs:List Int}(h:cp cs):0<=OL cs:=ediv_nonneg h.P0 (by omega)
theorem nC {cs:List Int}(h:cp cs):1<=Np cs:=Jp (by have:=ym h;omega) (by have:=h.jt;omega) (Fg h)
theorem Nq {cs:List Int}(h:cp cs):Bt 805 (OL cs):=h.P1.of_le (yn h) (ediv_le_self _ h.P0)
theorem Fh {cs:List Int}(h:cp cs):Bt 801 (Np cs):=h.B4.of_le (by have:=nC h;omega) (ediv_le_self _ (by have:=h.jt;omega))
theorem P4 {cs:List Int}(h:cp cs):Bt 801 (gC cs):=h.B4.of_le (by omega) (Int.le_of_dvd (by have:=h.jt;omega) (Fg h))
theorem Nr {cs:List Int}(h:cp cs):OL cs / Np cs=bP (pr cs) cs / pr cs:=Jo (by have:=ym h;omega) (P2 h) (Fg h)
def sH (K:Frag):Sp:=fun a H Q _=>∃ (p:Addr) (cs:List Int),a=[.ref p]/\aH K H p (cs.map V.int)/\cp cs/\∀ (q:Addr) (H':Hp),ah H H'->H' q=some (.tup [.int (OL cs),.int (Np cs)])->Q (.ref q) H'
def Sj (H0:Hp)(p:Addr)(cs:List Int)(i:Nat)(σ:St)(H:Hp):Prop:=H=H0/\∃ y,σ=[some (.ref p),some (.int (bP (pr (cs.take i)) (cs.take i))),some (.int (pr (cs.take i))),y,none]
def yo (K:Frag):Sp:=fun a H Q _=>∃ (p:Addr) (cs:List Int),a=[.ref p]/\aH K H p (cs.map V.int)/\cp cs/\∀ (H':Hp),ah H H'->Q (.int (bP (pr cs) cs / pr cs)) H'
theorem Nt {i j:Int}(h:i=j):(!decide (i=j))=false:=by rw[dt h];rfl
def AG (K:Frag):Sp:=fun b H Q _=>∃ (a:Addr) (ns:List Int),b=[.ref a]/\ax K H a (ns.map V.int)/\ns.length<=63/\∀ H',Q (.bl true) H'
def Fi (K:Frag):Sp:=fun a H Q _=>∃ (p:Addr) (cs:List Int),a=[.ref p]/\aH K H p (cs.map V.int)/\cp cs/\Q (.int (pr cs)) H
def P5 (H0:Hp)(p:Addr)(cs:List Int)(i:Nat)(σ:St)(H:Hp):Prop:=H=H0/\∃ y,σ=[some (.ref p),some (.int (pr (cs.take i))),y]
structure P6 (cs hs:List Int):Prop where
 len:hs.length=cs.length
 bt:∀ j,j<cs.length->Bt 100 (hs.getD j 0)
def P7 (K:Frag):Sp:=fun a H Q _=>∃ (p h:Addr) (cs hs:List Int) (i:Nat),a=[.ref p,.ref h,.int i]/\aH K H p (cs.map V.int)/\aH K H h (hs.map V.int)/\cp cs/\P6 cs hs/\i<cs.length/\∀ H',ah H H'->Q (.int (cg cs hs i)) H'
variable {i:Nat}
theorem Nu {cs:List Int}(hcs:cp cs)(hi:i<cs.length):(0:Int)<cs.getD i 0/\(cs.getD i 0).natAbs.log2<9000:=by
 have h1:=hcs.get hi;exact⟨by have:=h1.lo;omega,h1.bt.log (by have:=h1.lo;omega) (by decide)⟩
theorem Lr {cs:List Int}(hcs:cp cs)(hi:i<cs.length):Bt 801 (pr cs / cs.getD i 0):=by
 have h:=yj hcs.pos hi;exact hcs.B4.of_le (by omega) h.1
variable {j:Nat}
theorem Nv:(!decide ((j:Int)=(i:Int)))=decide (¬ j=i):=by
 by_cases h:j=i
 ·subst h;simp
 ·have a:¬ (j:Int)=(i:Int):=by omega
  rw[ed a,dt h];rfl
def putAt (hs:List Int)(i:Nat)(o:Int):List Int:=hs.take i++[o]++hs.drop (i+1)
variable {h:List Int}
theorem sI {x:Int}(hj:j<h.length):(h++[x]).getD j 0=h.getD j 0:=by
 rw[b4,C2 hj,<-b4]
theorem sL {x:Int}:(h++[x]).getD h.length 0=x:=by
 rw[b4,w6 (dy _),T7];rfl
def HN (cs h:List Int)(n:Nat):Prop:=h.length=n/\∀ i,i<n->0<=h.getD i 0/\h.getD i 0<cs.getD i 0
def cnt {α:Type}(p:α->Bool)(L:List α):Nat:=(L.map fun x=>if p x then 1 else 0).sum
theorem yp {n:Nat}(h:n<=1000):n<=sizeLine:=Nat.le_of_lt (aB h)
variable {o:HO}
theorem aH.c5 {K:Frag}{H:Hp}{r acc:Addr}{xs ys:List V}(h:aH K H r xs)(ha:H acc=some (.lst ys)):aH K (upd H acc o) r xs:=by
 rcases h with (h | ⟨u,h⟩) | h
 ·exact .inl (.inl (by rw[aG (gj h ha (by intro z;cases z))];exact h))
 ·exact .inl (.inr ⟨u,by rw[aG (gj h ha (by intro z;cases z))];exact h⟩)
 ·exact .inr h
theorem Ju {n k:Nat}(h:k<n):Eb n (k:Int)=some k:=by
 unfold Eb;rw[if_pos (by omega),if_pos (by omega),yx]
theorem Fj (ns ms:List Int):PyData.eqv (.list (ns.map PyData.int)) (.list (ms.map PyData.int))=decide (ns=ms):=by
 simp only[PyData.eqv,lX]
theorem dX {L:List Nat}{k:Nat}(h:k<L.length):L.getD k 0∈L:=by
 rw[b4,b5 h];exact p0 h
def dc (ws:List Nat)(i j:Nat):Bool:=(ws.getD i 0).testBit j
structure eK (ws:List Nat):Prop where
 lt:∀ i,i<ws.length->ws.getD i 0<2 ^ ws.length
 self:∀ i,i<ws.length->dc ws i i=false
variable {ws:List Nat}
theorem eK.inside (h:eK ws)(hi:i<ws.length)(s:dc ws i j=true):j<ws.length:=by
 by_cases c:j<ws.length
 ·exact c
 ·unfold dc at s
  have:=Nat.testBit_lt_two_pow (x:=ws.getD i 0) (i:=j) (j5 (h.lt i hi) (q5 (by decide) (by omega)))
  rw[this] at s;cases s
def ready (ws:List Nat)(laid i:Nat):Bool:=!laid.testBit i&&decide (ws.getD i 0||| laid=laid)
def bQ (ws:List Nat)(laid:Nat):Option Nat:=(List.range ws.length).find? (ready ws laid)
theorem Nw {a b:Nat}:a||| b=b↔∀ j,a.testBit j=true->b.testBit j=true:=by
 constructor
 ·intro h j hj;rw[<-h,testBit_or,hj];rfl
 ·intro h
  apply Ta
  intro j;rw[testBit_or]
  cases e:a.testBit j with
  | false=>rfl
  | true=>rw[h j e];rfl
theorem iE {m:Nat}:(m||| 2 ^ i).testBit j=(m.testBit j||decide (i=j)):=by
 rw[testBit_or,L1]
def fL (ws:List Nat):Nat->List Nat->Nat->List Nat
 | 0,order,_=>order
 | f+1,order,laid=>match bQ ws laid with
  | none=>order
  | some i=>fL ws f (order++[i]) (laid||| 2 ^ i)
def laidOut (ws:List Nat):List Nat:=fL ws (ws.length+1) [] 0
structure Laid (ws order:List Nat)(laid:Nat):Prop where
 bits:∀ j,laid.testBit j=true↔j∈order
 nd:order.Nodup
 lt:∀ i∈order,i<ws.length
 ok:∀ k,k<order.length->∀ j,dc ws (order.getD k 0) j=true->j∈order.take k
theorem Laid.nil (ws:List Nat):Laid ws [] 0:=⟨by simp,nodup_nil,by simp,by simp⟩
theorem k9 {laid:Nat}:ready ws laid i=true↔laid.testBit i=false/\∀ j,dc ws i j=true->laid.testBit j=true:=by
 unfold ready dc;rw[gz,Bool.not_eq_true',mo,Nw]
theorem ib {laid:Nat}(h:bQ ws laid=some i):i<ws.length/\laid.testBit i=false/\∀ j,dc ws i j=true->laid.testBit j=true:=by
 have h1:=List.find?_some h;have a:=List.mem_of_find?_eq_some h;exact⟨gc.mp a,k9.mp h1⟩
variable {h:List Nat}{x d:Nat}
theorem eE (hj:j<h.length):(h++[x]).getD j d=h.getD j d:=by
 rw[b4,C2 hj,<-b4]
theorem fM:(h++[x]).getD h.length d=x:=by
 rw[b4,w6 (dy _),T7];rfl
variable {order:List Nat}
theorem Laid.put {laid:Nat}(h:Laid ws order laid)(hf:bQ ws laid=some i):Laid ws (order++[i]) (laid||| 2 ^ i):=by
 obtain⟨h1,f,g⟩:=ib hf;have d:i∉order:=fun z=>by rw[(h.bits i).mpr z] at f;cases f
 refine⟨fun j=>?_,?_,?_,?_⟩
 ·rw[iE,SL,h.bits,ka,fz,mo]
  constructor
  ·rintro(a | a)
   ·exact .inl a
   ·exact .inr a.symm
  ·rintro(a | a)
   ·exact .inl a
   ·exact .inr a.symm
 ·rw[Tw];refine⟨h.nd,by simp,?_⟩
  intro a l b hb e;rw[fz] at hb;subst hb;subst e;exact d l
 ·intro j hj
  rcases ka.mp hj with hj | hj
  ·exact h.lt j hj
  ·rw[fz.mp hj];exact h1
 ·intro k hk j hj;rw[eG] at hk
  by_cases e:k=order.length
  ·subst e;rw[fM] at hj;rw[List.take_append_of_le_length (dy _),L3];exact(h.bits j).mp (g j hj)
  ·have c:k<order.length:=by simp at hk;omega
   rw[eE c] at hj;rw[List.take_append_of_le_length (by omega)]
   exact h.ok k c j hj
theorem cG:∀ {n:Nat} {order:List Nat},order.Nodup->(∀ i∈order,i<n)->order.length<=n
 | 0,[],_,_=>dy _
 | 0,a::r,_,h=>absurd (h a (fA ..)) (I1 a)
 | n+1,order,b,h=>by
  have h1:(order.erase n).Nodup:=b.erase n;have d:=cG (n:=n) h1 fun i hi=>by
   have:=(b.mem_erase_iff).mp hi
   have:=h i this.2
   omega
  have c:=length_erase (a:=n) (l:=order)
  split at c<;>omega
theorem je:∀ {xs ys:List Nat},xs.Nodup->(∀ i∈xs,i∈ys)->xs.length<=ys.length
 | [],_,_,_=>zero_le _
 | a::r,ys,c,h=>by
  have b:=C3.mp c;have h1:=je (xs:=r) (ys:=ys.erase a) b.2 fun i hi=>by
   have:i≠a:=fun z=>b.1 (z ▸ hi)
   exact(List.mem_erase_of_ne this).mpr (h i (eH _ hi))
  have d:=length_erase (a:=a) (l:=ys);rw[if_pos (h a (fA ..))] at d
  have:0<ys.length:=length_pos_of_mem (h a (fA ..))
  rw[qs];omega
theorem nD {ws:List Nat}:∀ (f:Nat) (order:List Nat) (laid:Nat),Laid ws order laid->ws.length<f+order.length->∃ l,Laid ws (fL ws f order laid) l/\bQ ws l=none
 | 0,order,l,h,a=>by
  have:=cG h.nd h.lt
  omega
 | f+1,order,laid,h,a=>by
  unfold fL
  cases e:bQ ws laid with
  | none=>exact⟨_,h,e⟩
  | some i=>exact nD f _ _ (h.put e) (by rw[eG];simp;omega)
variable {f:Nat}
theorem vh {laid:Nat}(e:bQ ws laid=some i):fL ws (f+1) order laid=fL ws f (order++[i]) (laid||| 2 ^ i):=by
 rw[fL,e]
theorem vi {laid:Nat}(e:bQ ws laid=none):fL ws f order laid=order:=by
 cases f with
 | zero=>rfl
 | succ f=>rw[fL,e]
theorem fe (ws:List Nat):∃ l,Laid ws (laidOut ws) l/\bQ ws l=none:=nD _ _ _ (Laid.nil ws) (by simp)
theorem qJ (hw:eK ws)(hi:i<ws.length)(hn:i∉laidOut ws):∃ j,j<ws.length/\dc ws i j=true/\j∉laidOut ws:=by
 obtain⟨l,h,e⟩:=fe ws;have h1:ready ws l i=false:=by
  have:=List.find?_eq_none.mp e i (gc.mpr hi)
  simpa using this
 have b:l.testBit i=false:=by
  cases q:l.testBit i with
  | false=>rfl
  | true=>exact absurd ((h.bits i).mp q) hn
 have a:¬ ∀ j,dc ws i j=true->l.testBit j=true:=fun z=>by
  have:=k9.mpr ⟨b,z⟩
  rw[this] at h1;cases h1
 have c:∃ j,dc ws i j=true/\¬ l.testBit j=true:=by
  apply r4
  intro q
  apply a
  intro j hj
  apply r4
  intro r;exact q ⟨j,hj,r⟩
 obtain⟨j,hj,d⟩:=c;exact⟨j,hw.inside hi hj,hj,fun z=>d ((h.bits j).mpr z)⟩
theorem nE:(laidOut ws).length<ws.length↔∃ i,i<ws.length/\i∉laidOut ws:=by
 obtain⟨l,h,e⟩:=fe ws
 constructor
 ·intro a
  apply r4
  intro q
  have:∀ i,i<ws.length->i∈laidOut ws:=fun i hi=>r4 fun z=>q ⟨i,hi,z⟩
  have h1:=je (Re (n:=ws.length)) fun i hi=>this i (gc.mp hi);rw[j6] at h1
  omega
 ·rintro⟨i,hi,hn⟩;have h1:(i::laidOut ws).Nodup:=C3.mpr ⟨hn,h.nd⟩;have b:=cG h1 fun j hj=>by
   rcases hU.mp hj with rfl | hj
   ·exact hi
   ·exact h.lt j hj
  rw[qs] at b
  omega
structure Ring (ws r:List Nat):Prop where
 two:2<=r.length
 nd:r.Nodup
 lt:∀ i∈r,i<ws.length
 next:∀ k,k+1<r.length->dc ws (r.getD k 0) (r.getD (k+1) 0)=true
 last:dc ws (r.getD (r.length - 1) 0) (r.getD 0 0)=true
structure Path (ws left path:List Nat)(i:Nat):Prop where
 nd:path.Nodup
 sub:∀ j∈path,j∈left
 here:i∈left
 next:∀ k,k+1<path.length->dc ws (path.getD k 0) (path.getD (k+1) 0)=true
 last:path≠[]->dc ws (path.getD (path.length - 1) 0) i=true
variable {left:List Nat}
theorem Path.nil (h:i∈left):Path ws left [] i:=⟨nodup_nil,by simp,h,by simp,by simp⟩
variable {path:List Nat}
theorem Path.put (h:Path ws left path i)(hn:i∉path)(hj:j∈left)(hs:dc ws i j=true):Path ws left (path++[i]) j:=by
 refine⟨?_,?_,hj,?_,?_⟩
 ·rw[Tw];refine⟨h.nd,by simp,?_⟩
  intro a c b hb e;rw[fz] at hb;subst hb;subst e;exact hn c
 ·intro k hk
  rcases ka.mp hk with hk | hk
  ·exact h.sub k hk
  ·rw[fz.mp hk];exact h.here
 ·intro k hk;rw[eG] at hk
  simp at hk
  by_cases e:k+1=path.length
  ·rw[e,fM,eE (by omega)]
   have:=h.last (fun z=>by subst z;simp at e)
   rw[<-e] at this
   simpa using this
  ·rw[eE (by omega),eE (by omega)]
   exact h.next k (by omega)
 ·intro _;rw[eG];show dc ws ((path++[i]).getD (path.length+1 - 1) 0) j=true;rw[Nat.add_sub_cancel,fM];exact hs
variable {l:List Nat}
theorem gE {n k:Nat}:(l.drop n).getD k d=l.getD (n+k) d:=by
 rw[b4,getElem?_drop,<-b4]
theorem Path.ring (hw:eK ws)(hl:∀ j∈left,j<ws.length)(h:Path ws left path i)(hi:i∈path):Ring ws (path.drop (path.idxOf i)):=by
 have d:=Da hi;have b:path.getD (path.idxOf i) 0=i:=by
  rw[b4,b5 d];exact Td d
 have a:=h.last (List.ne_nil_of_mem hi);generalize path.idxOf i=n at d b;have c:(path.drop n).length=path.length - n:=uF;refine⟨?_,h.nd.sublist (List.drop_sublist _ _),fun j hj=>hl j (h.sub j (mem_of_mem_drop hj)),fun k hk=>?_,?_⟩
 ·rw[c]
  apply r4
  intro q;have e:path.length - 1=n:=by omega
  rw[e,b] at a;rw[hw.self i (hl i h.here)] at a
  cases a
 ·rw[gE,gE];rw[c] at hk;exact h.next (n+k) (by omega)
 ·rw[gE,gE,c,Nat.add_zero,b,show n+(path.length - n - 1)=path.length - 1 by omega]
  exact a
theorem Jv (m n:Nat):Builtin.bitAnd (m:Int) (n:Int)=((m&&& n:Nat):Int):=by
 have h1:decide (0<=(m:Int))=true:=dt (by omega)
 have a:decide (0<=(n:Int))=true:=dt (by omega)
 unfold Builtin.bitAnd;rw[h1,a];simp only[toNat_natCast]
theorem Jw (m n:Nat):Builtin.bitAnd (Builtin.bitNot (m:Int)) (Builtin.bitNot (n:Int))=Builtin.bitNot ((m||| n:Nat):Int):=by
 have h1:decide (0<=Builtin.bitNot (m:Int))=false:=ed (by unfold Builtin.bitNot;omega)
 have a:decide (0<=Builtin.bitNot (n:Int))=false:=ed (by unfold Builtin.bitNot;omega)
 have e:∀ k:Nat,(Builtin.bitNot (Builtin.bitNot (k:Int))).toNat=k:=fun k=>by unfold Builtin.bitNot;omega
 unfold Builtin.bitAnd;rw[h1,a];simp only[e]
theorem Sk (m n:Nat):Builtin.bitOr (m:Int) (n:Int)=((m||| n:Nat):Int):=by
 unfold Builtin.bitOr;rw[Jw];unfold Builtin.bitNot
 omega
theorem sM (m n:Nat):Builtin.bitAnd (m:Int) (Builtin.bitNot (n:Int))=((m - (m&&& n):Nat):Int):=by
 have h1:decide (0<=(m:Int))=true:=dt (by omega)
 have a:decide (0<=Builtin.bitNot (n:Int))=false:=ed (by unfold Builtin.bitNot;omega)
 have e:(Builtin.bitNot (Builtin.bitNot (n:Int))).toNat=n:=by unfold Builtin.bitNot;omega
 unfold Builtin.bitAnd;rw[h1,a];simp only[e,toNat_natCast]
 have:=Nat.and_le_left (n:=m) (m:=n)
 omega
def Jx (K:Frag):V->List V->Hp->VK->Prop:=fun x a H Q=>∃ (l:Addr) (ns:List Int) (k:Int),x=.ref l/\a=[.int k]/\ax K H l (ns.map V.int)/\k∈ns/\Q (.int (ns.idxOf k:Nat)) H
variable {X:Cx}
theorem B5 {K:Frag}(hK:X.K=K):xx X "list.index" (Jx K):=by
 subst hK;intro p s σ H x O v N Q I J L h;obtain⟨l,e,k,rfl,rfl,G,hk,q⟩:=h
 cases J
 obtain⟨u,rfl,C⟩:=L.one;obtain⟨t,rfl⟩:=C;obtain⟨g,r,M,hz⟩:=I.list G;have hi:=intsAre_of r;obtain⟨⟨E,D,A,B⟩,i,m,n,o⟩:=id M.isList
 simp only at m o
 subst m o;have d:=hi.length;have c:e.idxOf k<e.length:=F1.mpr hk;rw[cc] at hz;have w:sizeLine<2 ^ 62:=by decide
 refine Pi slot_list_index ⟨_,i,rfl⟩ PySem.F.entry_list_index (PySem.F.args_list_index_2 _ _) (list_indexAt l g.toArray n D B (.int k t) (isInt k) (e.idxOf k) (by rw[fO,d];exact c) (by omega) ?a ?b) ⟨i,fun y hy=>(eq_isInt k t hi y (by simpa using hy)).at _ _,?_⟩
 case a=>
  have z:=isInt_at k hi (e.idxOf k) (by rw[d];exact c) c
  rw[Td c,TJ] at z;exact z
 case b=>
  intro j hj f;have z:=isInt_at k hi j (by simpa using hj) (by omega)
  rw[ne_of_lt_idxOf f] at z;exact z
 exact⟨.int _,H,I.tok _,⟨_,rfl⟩,q⟩
def yq:List V->Hp->VK->Prop:=fun a H Q=>∃ (p:Addr) (n:Nat),a=[.ref p]/\H p=some (.KO 0 n)/\n<=1000000/\∀ l,H l=none->Q (.ref l) (upd H l (.lst (((List.range n).map fun i=>((i:Nat):Int)).map V.int)))
def Jy:List V->Hp->VK->Prop:=fun a H Q=>∃ n:Nat,a=[.int n]/\n<=1000000/\∀ l,H l=none->Q (.ref l) (upd H l (.KO 0 n))
theorem gF:bX X (.type "range") Jy:=by
 intro a s σ H f d Q I r h;obtain⟨n,rfl,hn,q⟩:=h;obtain⟨u,rfl,c⟩:=vals1 r;obtain⟨t,rfl⟩:=c;refine call_range_1 ?_;exact⟨.ref _,_,I.laid (fun b o e=>ey _ e) (dy _) (show bS X.prog X.w _ _ _ (.KO 0 n) from ⟨_,_,_,j9 _ rfl⟩),rfl,q _ I.fresh⟩
theorem yr {n:Nat}{acc:Array Value}(h:ItemsOf (fun i v=>∃ t,v=Value.int ((0:Int)+i*1) t) acc n):Vals (((List.range n).map fun i=>((i:Nat):Int)).map V.int) acc.toList:=by
 obtain⟨h1,d⟩:=h;have b:∀ (l:List Value) (k:Nat),(∀ i v,l[i]?=some v->∃ t,v=Value.int (((k+i:Nat):Int)) t)->Vals ((List.range' k l.length).map fun i=>V.int ((i:Nat):Int)) l:=by
  intro l
  induction l with
  | nil=>intro k _;exact .nil
  | cons a r c=>
   intro k h;rw[qs,List.range'_succ,oD];refine .cons ?_ (c (k+1) fun i v e=>?_)
   ·obtain⟨t,e⟩:=h 0 a rfl;exact⟨t,by rw[e,Nat.add_zero]⟩
   ·obtain⟨t,e⟩:=h (i+1) v (by simpa using e)
    exact⟨t,by rw[e,show k+(i+1)=k+1+i by omega]⟩
 have z:=b acc.toList 0 fun i v e=>by
  obtain⟨t,q⟩:=d i v (by rw[<-getElem?_toList];exact e)
  exact⟨t,by rw[q];congr 1;omega⟩
 rw[kc];rw[Array.length_toList,h1] at z;rw[List.range_eq_range'];exact z
theorem dY (hc:X.calm=true):bX X (.type "list") yq:=by
 intro c s σ H t o Q I r h;obtain⟨p,n,rfl,i,hn,q⟩:=h;obtain⟨u,rfl,l⟩:=vals1 r
 cases l
 obtain⟨m,x,y,f⟩:=I.br p _ i;refine PySem.call_list_range (n:=n) (I.ok.hd hc) f (small_one (by omega) (by omega) (by omega) (by omega)) (by rw[rangeSize_one];split<;>omega) (by omega) fun g v a d j e b=>?_
 refine⟨.ref _,_,I.laid j (dy _) (show bS X.prog X.w _ g _ (.lst _) from ⟨?_,a.toList,d,yr b,by simpa using e⟩),rfl,q _ I.fresh⟩
 rw[cc,cc,j6];exact h9 hn (by decide)
abbrev ik (led:Bool):Obj:={cls:=.type "set",dict:=none,data:=.set #[] 0 (.fresh 0 0 led)}
def jn (ns:List Int)(n:Nat):List Int:=firstMet (fun i=>ns.getD i 0) n
variable {prog:Program}{w:World}{A:Around}{E Q:Value->Shared->Prop}{s:Shared}{vs:Array Value}
theorem sN {p:Addr}{ns:List Int}(hA:A.handled=none)(hp:s.heap.IsTuple p vs)(hi:IntsAre vs.toList ns)(hb:vs.size+1<scanBound)
  (h:∀ (h1:Heap) (k:Nat),h1.SetOf (intKind prog w) s.heap.objs.size (fun j=>(jn ns vs.size).any (· == j)) (jn ns vs.size).length->(∀ b o,b<s.heap.objs.size->s.heap.get? b=some o->h1.get? b=some o)->Q (.ref s.heap.objs.size) {s with heap:=h1,toks:=k}) :
  wpAny (model prog w) A (call (.type "set") [.ref p]) Q E s:=by
 obtain⟨c0,t0,m0⟩:=E8.mro;have m1:=E8.made;have m2:=E8.sub;have m3:=E8.notType;have m4:=E8.canCreate;have m5:=F.typeCall_set_1 (.ref p);refine wpAny_call (codeAny_of_tree (show wpAny _ _ (callAny (.type "set") _) _ _ _ from gd ⟨Code.quiet_builtin _ (by decide +kernel),codeAny_builtin F.entry_type_call ?_⟩))
 rw[Around.under_plain (weight_type_call_type "set" [.ref p] []) rfl]
 repeat (any_goals (first | assumption | wp_step))
 refine TV (code_set_new_1 (.ref p) (E:=E) (Q₁:=fun o C=>∃ a:Bool,o=.ref s.heap.objs.size/\C={s with heap:=s.heap.push (ik a)}) fun a=>⟨a,rfl,rfl⟩) fun r C f=>?_
 cases r with
 | error e=>exact f
 | ok O=>
  cases O with
  | ret obj=>
   obtain⟨a,rfl,rfl⟩:=f;have G:(s.heap.push (ik a)).get? s.heap.objs.size=some (ik a):=j9 _ rfl;have J:Shared.TypeIs {s with heap:=s.heap.push (ik a)} (.ref s.heap.objs.size) "set":=⟨_,G,rfl⟩;have k3:=E8.init.lookup;have k4:=E8.init.bind (.ref s.heap.objs.size)
   repeat (any_goals (first | assumption | wp_step))
   refine TV (codeAny_call_builtin (R:=wants (fun r I=>r=.none/\∃ h1 k,I={s with heap:=h1,toks:=k}/\h1.SetOf (intKind prog w) s.heap.objs.size (fun j=>(jn ns vs.size).any (· == j)) (jn ns vs.size).length/\
     (∀ b o,b<s.heap.objs.size->s.heap.get? b=some o->h1.get? b=some o)) E) E8.init.plain F.entry_set_init (check_set_init_1 J ?_)) fun W I l=>?_
   ·obtain⟨S,u,z,Z,B⟩:=hp;obtain⟨u1,u2,u3,u4⟩:=S
    simp only at z B
    subst z;subst B;have T:=ey (ik a) u;have z1:=F.sub_tuple_set;have z2:=F.sub_tuple_frozenset;have z3:(Value.type "tuple" == Value.type "dict")=false:=by decide
    have D:(s.heap.push (ik a)).IsTuple p vs:=⟨_,T,rfl,Z,rfl⟩;unfold Builtin.«set.__init__» noKeywords Builtin.Frozenset.updateFrom;generalize d:pyIter=PI
    wp_walk
    subst d;refine To D (cv (wpAny_runValue ?_));have H:p<s.heap.objs.size:=lt_size u;have a3:A.in1.in1.in1.handled=none:=by simp[hA]
    have g:(s.heap.push (ik a)).objs.size=s.heap.objs.size+1:=Gc ..;have K:p≠(s.heap.push (ik a)).objs.size:=by rw[g];exact nt (TC H)
    have M:s.heap.objs.size∉[(s.heap.push (ik a)).objs.size,p]:=by
     rw[g];simp only[mem_cons,not_mem_nil,or_false,not_or];exact⟨nt (T3 _),TU H⟩
    have Y:∀ (i:Nat) (v:Value),vs[i]?=some v->∃ t,v=.int ((fun i=>ns.getD i 0) i) t:=fun i v P=>IntsAre.int_at hi i v (by rw[getElem?_toList];exact P)
    refine codeAny_set_update_loopS ((Walks.tuple a3 _ p K vs).toS) s.heap.objs.size M (fun i=>ns.getD i 0) Y hb (vs.size - 0) 0 _ (by omega) (zero_le _) ⟨⟨_,j9 _ rfl,rfl,rfl⟩,(D.push _)⟩ ?x ?y
    case x=>
     exact SetOf_congr ((setObjOf_fresh (knd:=intKind prog w) a).setOf (ey _ G) (by unfold scanBound;omega)) (fun _=>rfl) rfl
    case y=>
     intro X hm c;obtain⟨h1,L,U,m,n⟩:=X;obtain rfl:L=s.gens:=hm.gens;obtain rfl:U=s.drawn:=hm.drawn;obtain rfl:n=s.os:=hm.os;show wpAny _ _ _ _ _ _;refine gd (show wpAny _ _ (ret Value.none) _ _ _ from gd ⟨rfl,h1,m,rfl,c,fun b o hb e=>?_⟩)
     refine hm.heap b o ?_ (ey _ (ey _ e));rw[g];simp only[mem_cons,not_mem_nil,or_false,not_or];exact⟨nt hb,nt (TC hb)⟩
   ·cases W with
    | error e=>exact l
    | ok N=>
     cases N with
     | ret r=>
      obtain⟨rfl,h1,k,rfl,c,q⟩:=l
      repeat (any_goals (first | assumption | wp_step))
      exact h _ _ c q
     | _=>exact l.elim
  | _=>exact f.elim
def unlike (ns:List Int):Nat:=(jn ns ns.length).length
def Nx (K:Frag):List V->Hp->VK->Prop:=fun a H Q=>∃ (p:Addr) (ns:List Int),a=[.ref p]/\(ax K H p (ns.map V.int)∨aH K H p (ns.map V.int))/\ns.length<1000/\∀ l,H l=none->Q (.ref l) (upd H l (.set (fun j=>(jn ns ns.length).any (· == j)) (unlike ns)))
theorem B6 {K:Frag}(hc:X.calm=true)(hK:X.K=K):bX X (.type "set") (Nx K):=by
 subst hK;intro f s σ H x v Q I r h;obtain⟨p,ns,rfl,hq,y,q⟩:=h;obtain⟨u,rfl,t⟩:=vals1 r
 cases t
 have n:(1001:Nat)<scanBound:=by decide
 have g:∀ (h1:Heap) (k:Nat),h1.SetOf (intKind X.prog X.w) s.heap.objs.size (fun j=>(jn ns ns.length).any (· == j)) (jn ns ns.length).length->(∀ b o,b<s.heap.objs.size->s.heap.get? b=some o->h1.get? b=some o)->EP X f σ Q (.ref s.heap.objs.size) {s with heap:=h1,toks:=k}:=fun h1 k c d=>
  ⟨.ref _,_,I.laid (fun b o e=>d b o (lt_size e) e) (dy _) (show bS X.prog X.w _ h1 _ (.set _ _) from c),rfl,q _ I.fresh⟩
 rcases hq with hq | hq
 ·obtain⟨a,i,m,hz⟩:=I.list hq;have hi:=intsAre_of i;have l:=hi.length;refine call_set_list (items:=a.toArray) (ns:=ns) (I.ok.hd hc) m.isList (by simpa using hi) (by rw[fO];omega) fun h1 k c d=>?_
  rw[show a.toArray.size=ns.length by rw[fO];exact l] at c
  exact g h1 k c d
 ·obtain⟨a,i,m,hz⟩:=I.tuple hq;have hi:=intsAre_of i;have l:=hi.length;refine sN (vs:=a.toArray) (ns:=ns) (I.ok.hd hc) (show s.heap.IsTuple p a.toArray from m) (by simpa using hi) (by rw[fO];omega) fun h1 k c d=>?_
  rw[show a.toArray.size=ns.length by rw[fO];exact l] at c
  exact g h1 k c d
theorem Inv.Jz {pins:List (Addr × Obj)}{σ:St}{H:Hp}{h':Heap}{t':Nat}{ch:List Addr}(I:Inv X pins σ H s)(k:∀ b o,b∉ch->s.heap.get? b=some o->h'.get? b=some o)(hf:∀ b∈ch,j1 X pins H b):Inv X pins σ H {s with heap:=h',toks:=t'}:=by
 have a:∀ b u,H b=some u->b∉ch:=fun b u e z=>by rw[(hf b z).1] at e;cases e
 refine I.step (g':=s.gens) (d':=s.drawn) (ch:=ch) (fun b hb=>⟨(hf b hb).2.2.2.1,(hf b hb).2.1,(hf b hb).2.2.2.2.1,(hf b hb).2.2.2.2.2⟩) (fun b o _ _ hc e _=>k b o hc e) (fun b o _ _ hc e _=>⟨o.slots,k b o hc e⟩) (fun _ _ _ _ n=>n)
  (fun b o hc e=>⟨o,k b o hc e⟩) (fun _ _ e=>e) (fun _ _ _ e=>e) (fun b h e=>⟨#[],by rw[e];simp⟩) (fun m hm=>?_) (fun b u e=>?_) I.bare
 ·obtain⟨o,d,f,g,r⟩:=hm;exact⟨o,d,f,k _ o (fun z=>(hf _ z).2.1 rfl) g,r⟩
 ·refine(I.br b u e).xC (fun c v hc q=>k c v ?_ q) (fun _ q=>q) fun _ _ q=>q
  rcases hc with z | z
  ·rw[z];exact a b u e
  ·exact a c _ z
theorem vj {it p:Addr}{x:Value}(h1:s.heap.IsTupleIter it p i)(h2:s.heap.IsTuple p vs)(hx:vs[i]?=some x)
  (q:∀ h',h'.IsTupleIter it p (i+1)->SameBut it s.heap h'->Q x {s with heap:=h'}):wpAny (model prog w) A (Builtin.SmallTypes.nextOf (.ref it)) Q E s:=by
 obtain⟨o,b,e,a⟩:=id h1;obtain⟨f,d,_,g,c⟩:=h2;unfold Builtin.SmallTypes.nextOf;refine cv (On (name:=Str.ofString "__next__") h1.typeIs F.slot_tuple_iterator_next (Tb F.slot_tuple_iterator_next h1.typeIs F.entry_tuple_iterator_next ?_ (F.args_tuple_iterator_next_1 _)));refine cv (m:=field (.ref it) 0) (Tx b a (x:=.ref p) rfl ?_);rw[if_neg (id hI:¬ ((Value.ref p == Value.none)=true))];refine cv (m:=field (.ref it) 1) (Tx b a (x:=.int i 0) rfl (cv (m:=seqItems? (.ref p)) (Tq d c ?_)));simp only[toNat_natCast,hx];refine cv (wpAny_setField b a (by simp) (gd ⟨x,rfl,gd (q _ ⟨_,Heap.get?_update_self _ b (Obj.isFreed_of_fields (Obj.data_mapFields a _)),(Obj.cls_mapFields ..).trans e,?_⟩ (Heap.SameBut.update ..))⟩))
 rw[Obj.data_mapFields a]
 simp[rawInt]
theorem gG {it p:Addr}(hA:A.handled=none)(h1:s.heap.IsTupleIter it p i)(h2:s.heap.IsTuple p vs)(hx:vs[i]?=none)
  (q:∀ h' e,ExtBut it s.heap h'->(∃ o,h'.get? e=some o/\o.cls=.type "StopIteration")->E (.ref e) {s with heap:=h'}):wpAny (model prog w) A (Builtin.SmallTypes.nextOf (.ref it)) Q E s:=by
 obtain⟨o,c,g,d⟩:=id h1;obtain⟨h,f,_,j,b⟩:=h2;unfold Builtin.SmallTypes.nextOf;refine cv (On (name:=Str.ofString "__next__") h1.typeIs F.slot_tuple_iterator_next (Tb F.slot_tuple_iterator_next h1.typeIs F.entry_tuple_iterator_next ?_ (F.args_tuple_iterator_next_1 _)));refine cv (m:=field (.ref it) 0) (Tx c d (x:=.ref p) rfl ?_);rw[if_neg (id hI:¬ ((Value.ref p == Value.none)=true))];refine cv (m:=field (.ref it) 1) (Tx c d (x:=.int i 0) rfl (cv (m:=seqItems? (.ref p)) (Tq f b ?_)));simp only[toNat_natCast,hx];refine cv (wpAny_rule (cv (wpAny_setField c d (by simp) (cv (m:=newExc (.type "StopIteration") []) ?_))))
 simp only[newExc,newTuple];refine cv (wpAny_newObj_type (cv (m:=firstArgMember _ _) (wpAny_of_eq (a:=Value.none) (by first | rfl | (simp only[firstArgMember];rfl)) (wpAny_newObj_type ?_ (by size_fits)))) (by size_fits))
 simp only[raiseNew];refine cv (wpAny_handled ?_)
 first | rw[show A.in1.handled=none from hA] | rw[hA]
 exact cv (gd (wpAny_throw (q _ _ (((Heap.SameBut.update ..).extBut.push _).push _) ⟨_,j9 _ rfl,rfl⟩)))
theorem Ny (hA:A.handled=none)(it p:Addr)(hne:p≠it)(vs:Array Value):Draws prog w A it [it,p] vs.size (fun i v=>vs[i]?=some v) (fun i h=>h.IsTupleIter it p i/\h.IsTuple p vs) where
 live:=fun _ _ c=>⟨_,c.1.choose_spec.1⟩
 frame:=fun _ _ _ c hk=>⟨c.1.at fun o e=>hk it (by simp) o e,c.2.at fun o e=>hk p (by simp) o e⟩
 item:=fun i s Q E hi c g=>vj c.1 c.2 (x:=vs[i]) (by simp[hi]) fun f a b=>g _ f s.toks (by simp[hi]) ⟨a,c.2.extBut b.extBut hne⟩ b
 done:=fun s Q E c d=>gG hA c.1 c.2 (by simp) d
theorem B7 (p:Addr)(vs:Array Value)(n:Nat)(OT:Option Addr)(sl:Array (Option Value)) :
  Meets (Builtin.«enumerate.__new__» ⟨[.type "enumerate",.ref p],[]⟩) (fun _ R s=>s.heap.get? p=some {cls:=.type "tuple",dict:=OT,data:=.seq vs n,slots:=sl}/\
   R (.ok (.ret (.ref (s.heap.push {cls:=.type "tuple_iterator",data:=.fields #[.ref p,.int 0 0]}).objs.size)))
    {s with heap:=(s.heap.push {cls:=.type "tuple_iterator",data:=.fields #[.ref p,.int 0 0]}).push {cls:=.type "enumerate",data:=.fields #[.none,.bool false,.ref s.heap.objs.size,rawInt 0,.none,.none]}}):=
 .of_wp fun e w A R s h=>by
  obtain⟨f,g,d,j,i⟩:=s;obtain⟨a,h⟩:=h;have z:=sub_enumerate;have b:Heap.IsTuple (Shared.heap ⟨f,g,d,j,i⟩) p vs:=⟨_,a,rfl,n,rfl⟩
  wp_walk using PySem.AutoSeq1.wpAny_loadPart' a
  refine wpAny_stack_any fun l=>gd ?_
  split
  ·rename_i c _ _ _ _ _
   cases (c == Value.type "enumerate")<;>(wp_walk using PySem.AutoSeq1.wpAny_loadPart' a,To b;exact⟨_,rfl,h⟩)
  ·wp_walk using PySem.AutoSeq1.wpAny_loadPart' a,To b
   exact⟨_,rfl,h⟩
theorem yt {p:Addr}(hT:s.heap.IsTuple p vs)
  (q:∀ h',IsEnum h' (s.heap.objs.size+1) s.heap.objs.size 0 .none->h'.IsTupleIter s.heap.objs.size p 0->(∀ b o,s.heap.get? b=some o->h'.get? b=some o)->Q (.ref (s.heap.objs.size+1)) {s with heap:=h'}) :
  wpAny (model prog w) A (call (.type "enumerate") [.ref p]) Q E s:=by
 obtain⟨⟨c,d,h,i⟩,f,e,n,g⟩:=hT;obtain rfl:c=.type "tuple":=e;obtain rfl:h=.seq vs n:=g;have hz:(s.heap.push {cls:=.type "tuple_iterator",data:=.fields #[.ref p,.int 0 0]}).objs.size=s.heap.objs.size+1:=Gc ..;have a:=j9 (s.heap.push {cls:=.type "tuple_iterator",data:=.fields #[.ref p,.int 0 0]}) (o:={cls:=.type "enumerate",data:=.fields #[.none,.bool false,.ref s.heap.objs.size,rawInt 0,.none,.none]}) rfl;refine callType_new F.called_enumerate (by decide) (F.typeCall_enumerate_1 _) (F.newCall_enumerate_1 _) (fun obj=>F.args_object_init_2 obj _) F.entry_enumerate_new (B7 p vs n d i) ⟨f,?_⟩
 rw[hz] at a;show _/\_;rw[hz];exact⟨⟨_,a,rfl⟩,q _ a ⟨_,ey _ (j9 _ rfl),rfl,rfl⟩ fun b o x=>ey _ (ey _ x)⟩
theorem Inv.lg {pins:List (Addr × Obj)}{σ:St}{H:Hp}{h':Heap}{t':Nat}{ch:List Addr}{a:Addr}(I:Inv X pins σ H s)(k:∀ b u,b∉ch->s.heap.get? b=some u->h'.get? b=some u)(hf:∀ b∈ch,j1 X pins H b)
  (ha:s.heap.objs.size<=a) (new:bS X.prog X.w (upd H a o) h' a o):Inv X pins σ (upd H a o) {s with heap:=h',toks:=t'}:=by
 have f:∀ b u,H b=some u->b∉ch:=fun b u e z=>by rw[(hf b z).1] at e;cases e
 have hn:H a=none:=I.br.fresh ha;have d:∀ b u,H b=some u->upd H a o b=some u:=fun b u e=>by rw[aG (bp e hn)];exact e
 refine I.step (g':=s.gens) (d':=s.drawn) (ch:=ch) (fun b hb=>⟨(hf b hb).2.2.2.1,(hf b hb).2.1,(hf b hb).2.2.2.2.1,(hf b hb).2.2.2.2.2⟩) (fun b u _ _ hc e _=>k b u hc e) (fun b u _ _ hc e _=>⟨u.slots,k b u hc e⟩) (fun b u _ e n=>?_)
  (fun b u hc e=>⟨u,k b u hc e⟩) (fun b i e=>d b _ e) (fun b v u e=>d b _ e) (fun b l e=>⟨#[],by rw[d b _ e];simp⟩) (fun m hm=>?_) (fun b u e=>?_) I.bare
 ·rw[aG (nt (j5 (lt_size e) ha))];exact n
 ·obtain⟨v,g,h,j,r⟩:=hm;exact⟨v,g,h,k _ v (fun z=>(hf _ z).2.1 rfl) j,r⟩
 ·by_cases hb:b=a
  ·subst hb;rw[ag] at e
   cases e
   exact new
  ·rw[aG hb] at e;refine(I.br b u e).xC (fun c v hc q=>k c v ?_ q) (fun c q=>d c _ q) fun c i q=>d c _ q
   rcases hc with z | z
   ·rw[z];exact f b u e
   ·exact f c _ z
def OM (K:Frag)(a:Addr):It:=
 ⟨fun i H=>∃ xs x,aH K H a xs/\xs[i]?=some x,fun i H x b=>∃ p v,H p=none/\x=.ref p/\b=upd H p (.tup [.int i,v])/\∀ xs,aH K H a xs->xs[i]?=some v,fun i H=>∃ xs,aH K H a xs/\xs.length<=i⟩
variable {elts:List Expr}{x1:Nat}
theorem B8 {P:Program}{K:Frag}{pos:Pos}(a e it:Addr)(hei:e≠it):Turn P w K (.Tuple elts x1 pos) (OM K a) [e,it] e (fun i h=>(∃ old,IsEnum h e it i old)/\h.IsTupleIter it a i) where
 mem:=by simp
 obj:=fun i h g b hb=>by
  obtain⟨⟨old,he⟩,o,eo,c,d⟩:=g
  rcases hU.mp hb with rfl | hb
  ·exact⟨_,he,fun v z=>by cases z⟩
  ·have:b=it:=by simpa using hb
   subst this;exact⟨o,eo,fun v z=>by rw[d] at z;cases z⟩
 keep:=fun i h h' g k=>by
  obtain⟨⟨old,he⟩,g⟩:=g;exact⟨⟨old,k e (by simp) _ he⟩,g.at fun o q=>k it (by simp) o q⟩
 item:=by
  intro X Q S J hc i n s σ H E I D g G;subst Q S J;obtain⟨xs,x,hq,hx⟩:=G;obtain⟨f,W,p,hz⟩:=I.tuple hq;obtain⟨u,hu,ru⟩:=W.get hx;obtain⟨⟨old,he⟩,si⟩:=g;have C:a≠it:=fun z=>by
   subst z;obtain⟨Y,t,l,_⟩:=p;obtain⟨o2,r,y,_⟩:=si;rw[t] at r;cases r
   rw[l] at y;exact absurd y (by decide)
  have R:a≠e:=fun z=>by
   subst z;obtain⟨Y,t,l,_⟩:=p;have he:s.heap.get? a=some _:=he;rw[t] at he;cases he
   exact absurd (show Value.type "enumerate"=Value.type "tuple" from l) (by decide)
  have M:i<f.toArray.size:=by
   rw[fO];exact(o5.mp hu).1
  refine wpAny_pyNext_enum_itemD (Ny (by simpa using I.ok.hd hc) it a C f.toArray) he ⟨si,show s.heap.IsTuple a f.toArray from p⟩ M hei (by simp only[mem_cons,not_mem_nil,or_false,not_or];exact⟨hei,Ne.symm R⟩) fun v h1 tk hv ho O ht hsz hk=>?_
  refine⟨_,rfl,wpAny_letOwnedTupleGo_enum ho fun h2 L j=>?_⟩;have A:e<s.heap.objs.size:=lt_size he;have ev:v=u:=by
   have B:f[i]?=some v:=by simpa using hv
   rw[hu] at B;cases B;rfl
  subst ev;refine⟨.ref s.heap.objs.size,upd H s.heap.objs.size (.tup [.int i,x]),I.lg (ch:=[e,it]) (fun b o hb q=>?_) D (dy _) (show bS X.prog X.w _ h2 _ (.tup _) from ⟨by show 2<=sizeLine;decide,[.int i tk,v],.cons ⟨_,rfl⟩ (.cons ru .nil),?_⟩),rfl,⟨_,x,I.fresh,rfl,rfl,fun ys hy=>by rw[I.kQ hy hq];exact hx⟩,⟨⟨v,?_⟩,?_⟩,fun b hb=>?_⟩
  ·simp only[mem_cons,not_mem_nil,or_false,not_or] at hb;exact(j.2 b hb.1).trans (hk b o hb.1 hb.2 q)
  ·exact⟨_,(j.2 _ (TU A)).trans ht,rfl,_,rfl⟩
  ·have:=L
   rw[show ((i:Int)+1)=((i+1:Nat):Int) by omega] at this
   exact this
  ·exact O.1.at fun o q=>(j.2 it (Ne.symm hei)).trans q
  ·rw[aG (fun z=>?_)]
   ·exact(D b hb).1
   ·obtain⟨_,U,_⟩:=si
    rcases hU.mp hb with rfl | hb
    ·exact absurd z (nt A)
    ·have:b=it:=by simpa using hb
     subst this;exact absurd z (nt (lt_size U))
 done:=by
  intro X Q S J hc i n s σ H E I D g G;subst Q S J;obtain⟨xs,hq,hx⟩:=G;obtain⟨f,W,p,hz⟩:=I.tuple hq;obtain⟨⟨old,he⟩,si⟩:=g;have C:a≠it:=fun z=>by
   subst z;obtain⟨Y,t,l,_⟩:=p;obtain⟨o2,r,y,_⟩:=si;rw[t] at r;cases r
   rw[l] at y;exact absurd y (by decide)
  have hl:=W.length;have Z:s.TypeIs (.ref e) "enumerate":=⟨_,he,rfl⟩;unfold pyNext;refine cv (wpAny_attempt (On (name:=Str.ofString "__next__") Z F.slot_enumerate_next (Tb F.slot_enumerate_next Z F.entry_enumerate_next ?_ (F.args_enumerate_next_1 _))));refine cv (m:=field (.ref e) 2) (Tx he rfl (x:=.ref it) rfl (cv (gG (by simpa using I.ok.hd hc) si (show s.heap.IsTuple a f.toArray from p) (by simp;omega) fun h' x eb N=>?_)))
  obtain⟨o,q,c⟩:=N;refine cv (wpAny_isInstance (T:="StopIteration") (b:=true) ⟨o,q,c⟩ isSubtype_stop ?_);obtain⟨f0,f1,f2,f3,f4,f5⟩:=D it (by simp)
  exact gd ⟨rfl,I.turned (t':=s.toks) (fun b o hb z=>eb b o hb z) f0 f1 f3 f4 f5⟩
 self:=fun _ _ _ _ _ g h=>by
  obtain⟨⟨old,he⟩,_⟩:=g;exact wpAny_pyIter_enum he h
def Nz (K:Frag)(ta:TA):TI:=fun σ H R=>ta σ H fun b H1=>∃ a,b=[.ref a]/\(∃ xs,aH K H1 a xs)/\R (OM K a) H1
variable {N W G:List Str}{K:Frag}{e:Expr}{t:TA}{p pos tpos:Pos}
theorem NA (S:Sc X N W G)(g:Nat)(hm:X.mg "enumerate"=none)(hK:X.K=K)(ha:PB X [e] t)(hg:G[g]?=some "enumerate":=by rfl):PI X (.Tuple elts x1 tpos) (.Call (.Name "enumerate" p) [e] [] pos) (Nz K t):=by
 subst hK;intro f s σ H R I h;have q:=S.gl _ (h5 hg);refine Call_ (jA I q.1 hm boot_enumerate (F8 (bV (ha.pa pos f s σ H _ I h) fun A c ⟨y,H1,i,x,r⟩=>?_) (ba ha.he) rfl));obtain⟨a,rfl,⟨B,hq⟩,q⟩:=r;obtain⟨u,rfl,o⟩:=vals1 x
 cases o
 obtain⟨j,C,w,hz⟩:=i.tuple hq;refine yt (show c.heap.IsTuple a j.toArray from w) fun z m n v=>?_
 have l:c.heap.objs.size+1≠c.heap.objs.size:=Nat.succ_ne_self _;refine wpAny_pyIter_enum m ?_;refine⟨c.heap.objs.size+1,[c.heap.objs.size+1,c.heap.objs.size],_,_,H1,rfl,i.kept (t':=c.toks) v,B8 a _ _ l,⟨⟨_,m⟩,n⟩,fun b hb=>?_,q⟩;have d:c.heap.objs.size<=b:=by
  rcases hU.mp hb with rfl | hb
  ·exact le_succ _
  ·have:b=c.heap.objs.size:=by simpa using hb
   rw[this];exact dy _
 exact i.uS d (i.br.fresh d)
theorem Fo (S:Sc X N W G)(g:Nat)(hm:X.mg "enumerate"=none)(hK:X.K=K)(ha:QB X [e] t)(hg:G[g]?=some "enumerate":=by rfl):QI X (.Tuple elts x1 tpos) (.Call (.Name "enumerate" p) [e] [] pos) (Nz K t):=⟨NA S g hm hK ha.h hg⟩
variable {ta:TA}
theorem Fp {σ:St}{H:Hp}{R:It->Hp->Prop}:Nz K ta σ H R=ta σ H fun vs H1=>∃ a,vs=[.ref a]/\(∃ xs,aH K H1 a xs)/\R (OM K a) H1:=rfl
theorem P8 {a:Addr}{ns:List Int}{tb:TS}{D:Ends}{σ:St}{H:Hp}(I:Nat->St->Hp->Prop)(h:aH K H a (ns.map V.int))(h0:I 0 σ H)(hl:∀ i σ H,I i σ H->aH K H a (ns.map V.int))
  (step:∀ k σ H H2,k<ns.length->I k σ H->ah H H2->tb {D with nx:=I (k+1),ct:=I (k+1),bk:=D.nx} ((σ.set i (some (.int k))).set j (some (.int (ns.getD k 0)))) H2)
  (fin:∀ σ H,I ns.length σ H->D.nx σ H):∃ b,[V.ref a]=[.ref b]/\(∃ xs,aH K H b xs)/\mx (jZ K 2 (cJ (bx i) (cJ (bx j) jY))) tb D σ (OM K b) H:=by
 refine⟨a,rfl,⟨_,h⟩,fun k m σ H=>m=ns.length - k/\k<=ns.length/\I k σ H,⟨ns.length,by simp,zero_le _,h0⟩,?_⟩
 rintro k m σ H ⟨rfl,hk,p⟩;have q:=hl k σ H p
 by_cases c:k<ns.length
 ·have hx:(ns.map V.int)[k]?=some (.int (ns.getD k 0)):=by
   rw[ek,b5 c,b4,b5 c];rfl
  refine .inr ⟨⟨_,_,q,hx⟩,I (k+1),fun l f d=>⟨ns.length - (k+1),by omega,rfl,c,d⟩,fun x f y=>?_⟩
  obtain⟨t,v,hn,rfl,rfl,g⟩:=y
  have:=g _ q
  rw[hx] at this;cases this
  refine⟨t,[.int k,.int (ns.getD k 0)],rfl,aH.of ag,rfl,?_⟩;exact⟨_,_,rfl,_,_,rfl,rfl,step k σ H _ c p (ah.new hn _)⟩
 ·have e:k=ns.length:=by omega
  subst e;exact .inl ⟨⟨_,q,by rw[cc];exact dy _⟩,fin σ H p⟩
def Fq:R2:=fun x y H Q=>y=.bE/\Q (.bl (decide (x=.bE))) H
def nF:R2:=fun x y H Q=>y=.bE/\Q (.bl (!decide (x=.bE))) H
theorem mN:eC X (compareOp .Is) Fq:=MM
theorem vk:eC X (compareOp .IsNot) nF:=Iy
variable {H:Hp}{Q:VK}
theorem Fs:Fq .bE .bE H Q=Q (.bl true) H:=by unfold Fq;simp
theorem Ft {a:Addr}:Fq (.ref a) .bE H Q=Q (.bl false) H:=by unfold Fq;simp
theorem Fu:nF .bE .bE H Q=Q (.bl false) H:=by unfold nF;simp
theorem Fv {i:Int}:nF (.int i) .bE H Q=Q (.bl true) H:=by unfold nF;simp
theorem Ls {a b:Bool}:ML (.bl a) (.bl b) H Q=Q (.bl (!decide (a=b))) H:=by unfold ML;simp[xK]
def JA:List V->Hp->VK->Prop:=fun a H Q=>∃ p S n,a=[.ref p]/\H p=some (.set S n)/\Q (.int n) H
theorem vm:bX X (.builtin "len") JA:=by
 intro b s σ H m l Q I r h;obtain⟨p,S,n,rfl,g,q⟩:=h;obtain⟨u,rfl,e⟩:=vals1 r
 cases e
 obtain⟨o,j,v,t,d,c,i,_,_,hb,f,hn⟩:=I.br p _ g;have a:scanBound<2 ^ 62:=by decide
 refine PySem.call_len_set d c i f (by omega) ⟨.int n,H,I.tok _,⟨_,by rw[hn]⟩,q⟩
theorem P9 {k:Nat}:(1:Int)*2 ^ ((k:Nat):Int).toNat=((2 ^ k:Nat):Int):=by rw[yx,Int.one_mul,Int.natCast_pow];rfl
theorem Qa {m k:Nat}:((m:Nat):Int) / 2 ^ ((k:Nat):Int).toNat=((m / 2 ^ k:Nat):Int):=by rw[yx,Int.natCast_ediv,Int.natCast_pow];rfl
theorem dG {k:Nat}(h:k<=1000):rR 1 (k:Int):=⟨by omega,by omega,by decide⟩
theorem Qb {m k:Nat}:decide (((m / 2 ^ k:Nat):Int) % 2=1)=m.testBit k:=by
 rw[ri]
 congr 1
 apply propext
 omega
theorem Qc {m k:Nat}:decide (((m / 2 ^ k:Nat):Int) % 2=0)=!m.testBit k:=by
 rw[ri]
 by_cases h:m / 2 ^ k % 2=1
 ·rw[dt h,ed (by omega)];rfl
 ·rw[ed h,dt (by omega)];rfl
theorem Lu {a b:Nat}:decide (((a||| b:Nat):Int)=(b:Int))=decide (a||| b=b):=by
 congr 1
 apply propext
 omega
def az (ws:List Nat):List Int:=ws.map fun m=>((m:Nat):Int)
theorem ao (ws:List Nat):(az ws).length=ws.length:=cc _
theorem aM (ws:List Nat)(i:Nat):(az ws).getD i 0=((ws.getD i 0:Nat):Int):=by
 unfold az;rw[b4,ek,b4]
 cases ws[i]?<;>rfl
theorem dZ (a b:List Nat):az (a++b)=az a++az b:=hO
theorem Fw (a:List Nat)(n:Nat):(az a).take n=az (a.take n):=List.map_take.symm
theorem vn (a:List Nat)(n:Nat):(az a).drop n=az (a.drop n):=TR.symm
variable {a:List Nat}
theorem mO {k:Nat}:(k:Int)∈az a↔k∈a:=by
 unfold az;rw[ih]
 constructor
 ·rintro⟨m,h,e⟩
  rwa [show k=m by omega]
 ·exact fun h=>⟨k,h,rfl⟩
theorem JB {b:List Nat}:az a=az b↔a=b:=by
 constructor
 ·intro h
  apply I3
  intro i
  have:=OD (fun l=>l[i]?) h
  unfold az at this;simp only[List.getElem?_map] at this
  cases p:a[i]?<;>cases q:b[i]?<;>rw[p,q] at this<;>simp at this
  ·rename_i u v
   rw[show u=v by omega]
 ·rintro rfl;rfl
theorem AH {k:Nat}:(az a).idxOf (k:Int)=a.idxOf k:=by
 unfold az
 induction a with
 | nil=>rfl
 | cons m r c=>
  rw[oD,idxOf_cons,idxOf_cons,c]
  by_cases e:m=k
  ·have b:((m:Int) == (k:Int))=true:=by rw[e];exact TJ _
   have e2:(m == k)=true:=by rw[e];exact TJ _
   rw[b,e2]
  ·have b:((m:Int) == (k:Int))=false:=Dq.mpr (by omega)
   have e2:(m == k)=false:=Dq.mpr e;rw[b,e2]
theorem Fx (k:Int)(ns:List Int):KY (.int k) (ns.map V.int)=decide (k∈ns):=by
 induction ns with
 | nil=>simp[KY]
 | cons a r b=>
  unfold KY at b ⊢;rw[oD,any_cons,b]
  by_cases e:a=k
  ·subst e;simp[DA]
  ·have:¬ k=a:=fun z=>e z.symm
   simp[DA,e,this]
variable {neg:Bool}
theorem AI {p:Addr}{k:Nat}(h:ax K H p ((az a).map V.int)∨aH K H p ((az a).map V.int))(q:Q (.bl (if neg then !decide (k∈a) else decide (k∈a))) H):OH K neg (.int k) (.ref p) H Q:=by
 refine⟨p,_,rfl,h,rfl,?_,?_⟩
 ·rw[P3];exact kb.mpr fun _ _=>rfl
 ·rw[Fx,show decide ((k:Int)∈az a)=decide (k∈a) by congr 1;exact propext mO]
  exact q
theorem AJ {c:TT}{tb:TS}{D:Ends}{σ:St}(P:Nat->St->Hp->Prop)(m0:Nat)(h0:P m0 σ H)
  (hs:∀ m σ H,P m σ H->c σ H fun b H1=>if b=true then ∃ N:St->Hp->Prop,(∀ σ' H',N σ' H'->∃ m',m' < m/\P m' σ' H')/\tb {D with nx:=N,ct:=N,bk:=D.nx} σ H1 else D.nx σ H1):rO c tb D σ H:=⟨P,⟨m0,h0⟩,hs⟩
theorem AL {P:Nat->St->Hp->Prop}{m:Nat}{R:(St->Hp->Prop)->Prop}(h:R fun σ' H'=>∃ m',m' < m/\P m' σ' H'):∃ N:St->Hp->Prop,(∀ σ' H',N σ' H'->∃ m',m' < m/\P m' σ' H')/\R N:=⟨_,fun _ _ h=>h,h⟩
variable {p:Nat->Bool}
theorem find_some {n k:Nat}(h:∀ j,j<k->p j=false)(hk:p k=true)(hn:k<n):(List.range n).find? p=some k:=by
 rw[List.find?_eq_some_iff_getElem];refine⟨hk,k,by rw[j6];exact hn,by simp,fun j hj=>?_⟩
 simp[h j hj]
theorem find_none {n:Nat}(h:∀ j,j<n->p j=false):(List.range n).find? p=none:=by
 rw[List.find?_eq_none];intro j hj;rw[h j (gc.mp hj)];exact hI
theorem nG {ns:List Int}:∀ n,n<=ns.length->ns.Nodup->jn ns n=ns.take n
 | 0,_,_=>by unfold jn;rw[firstMet_zero,take_zero]
 | n+1,hn,a=>by
  have b:=nG n (by omega) a
  unfold jn at b ⊢;rw[firstMet_succ,b,take_snoc 0 (by omega)]
  unfold step_dedup;rw[if_neg];intro z;obtain⟨y,hy,e⟩:=List.any_eq_true.mp z;have e:y=ns.getD n 0:=by simpa using e
  subst e;have h1:=a.sublist (take_sublist (n+1) _);rw[take_snoc 0 (by omega),Tw] at h1
  exact h1.2.2 _ hy _ (fz.mpr rfl) rfl
theorem B9 {ns:List Int}(h:ns.Nodup):unlike ns=ns.length:=by
 unfold unlike;rw[nG _ (dy _) h,L3]
theorem vo {ns:List Int}:∀ n,n<=ns.length->(jn ns n).Nodup/\∀ x,x∈jn ns n↔x∈ns.take n
 | 0,_=>by unfold jn;rw[firstMet_zero,take_zero];exact⟨nodup_nil,fun _=>Iff.rfl⟩
 | n+1,hn=>by
  obtain⟨f,d⟩:=vo (ns:=ns) n (by omega)
  unfold jn at f d ⊢;rw[firstMet_succ,take_snoc 0 (by omega)]
  unfold step_dedup
  by_cases c:((firstMet (fun i=>ns.getD i 0) n).any fun x=>x == ns.getD n 0)=true
  ·rw[if_pos c];obtain⟨y,hy,e⟩:=List.any_eq_true.mp c;have e:y=ns.getD n 0:=by simpa using e
   refine⟨f,fun x=>?_⟩;rw[ka,fz,d]
   constructor
   ·exact .inl
   ·rintro(z | z)
    ·exact z
    ·rw[z,<-e];exact(d y).mp hy
  ·rw[if_neg c];refine⟨?_,fun x=>by rw[ka,ka,d]⟩
   rw[Tw];refine⟨f,by simp,fun a g b hb e=>c ?_⟩
   rw[fz] at hb;subst hb;subst e;exact List.any_eq_true.mpr ⟨_,g,by simp⟩
def yu (K:Frag):Sp:=fun a H Q _=>∃ (w:Addr) (ws:List Nat) (i j:Nat),a=[.ref w,.int i,.int j]/\aH K H w ((az ws).map V.int)/\i<ws.length/\Q (.bl (dc ws i j)) H
def NB (K:Frag):Sp:=fun a H Q _=>∃ (w:Addr) (ws:List Nat) (laid:Nat),a=[.ref w,.int laid]/\aH K H w ((az ws).map V.int)/\ws.length<=8/\∀ H',ah H H'->(bQ ws laid=none->Q .bE H')/\∀ i:Nat,bQ ws laid=some i->Q (.int i) H'
def Lv (H0:Hp)(w:Addr)(ws:List Nat)(laid k:Nat)(σ:St)(H:Hp):Prop:=ah H0 H/\(∀ j,j<k->ready ws laid j=false)/\∃ y1 y2:Option V,σ=[some (.ref w),some (.int laid),y1,y2]
def NC (K:Frag):Sp:=fun a H Q _=>∃ (w:Addr) (ws:List Nat),a=[.ref w]/\aH K H w ((az ws).map V.int)/\ws.length<=8/\∀ (l:Addr) (H':Hp),ah H H'->H l=none->H' l=some (.lst ((az (laidOut ws)).map V.int))->Q (.ref l) H'
def Lw (ws:List Nat)(laid:Nat):V:=match bQ ws laid with
 | none=>.bE
 | some i=>.int i
def Qd (H0:Hp)(w l:Addr)(ws:List Nat)(f:Nat)(σ:St)(H:Hp):Prop:=∃ (order:List Nat) (laid:Nat),σ=[some (.ref w),some (.ref l),some (.int laid),some (Lw ws laid)]/\ah H0 H/\H l=some (.lst ((az order).map V.int))/\Laid ws order laid/\fL ws f order laid=laidOut ws/\ws.length<f+order.length
def Qe (K:Frag):Sp:=fun a H Q _=>∃ (w:Addr) (ws:List Nat),a=[.ref w]/\aH K H w ((az ws).map V.int)/\ws.length<=8/\∀ (H':Hp),ah H H'->((laidOut ws).length<ws.length->Q .bE H')/\(¬ (laidOut ws).length<ws.length->∀ p,H' p=some (.tup ((az (laidOut ws)).map V.int))->Q (.ref p) H')
def Qf (K:Frag):Sp:=fun a H Q _=>∃ (w l:Addr) (ws left:List Nat) (i:Nat),a=[.ref w,.int i,.ref l]/\aH K H w ((az ws).map V.int)/\ax K H l ((az left).map V.int)/\i<ws.length/\left.length<=8/\(∃ j∈left,dc ws i j=true)/\∀ (H':Hp) (j:Nat),ah H H'->j∈left->dc ws i j=true->Q (.int j) H'
def cW (ws:List Nat):List Nat:=(List.range ws.length).filter fun i=>!decide (i∈laidOut ws)
theorem iF:i∈cW ws↔i<ws.length/\i∉laidOut ws:=by
 unfold cW;rw[pS,gc]
 simp
theorem vp:cW ws=[]↔¬ (laidOut ws).length<ws.length:=by
 rw[nE]
 constructor
 ·rintro h ⟨i,h1,b⟩
  have:i∈cW ws:=iF.mpr ⟨h1,b⟩
  rw[h] at this;cases this
 ·intro h
  cases e:cW ws with
  | nil=>rfl
  | cons a r=>
   have:a∈cW ws:=by rw[e];exact fA ..
   exact absurd ⟨a,iF.mp this⟩ h
theorem Fy (ws:List Nat):(cW ws).length<=ws.length:=by
 have:=A5 (fun i=>!decide (i∈laidOut ws)) (List.range ws.length)
 rw[j6] at this;exact this
def Qg (K:Frag)(H0:Hp)(w o lf pa:Addr)(ws:List Nat)(m:Nat)(σ:St)(H:Hp):Prop:=∃ (path:List Nat) (i:Nat),σ=[some (.ref w),some (.ref o),some (.ref lf),some (.ref pa),some (.int i)]/\ah H0 H/\ax K H lf ((az (cW ws)).map V.int)/\H pa=some (.lst ((az path).map V.int))/\Path ws (cW ws) path i/\m=ws.length - path.length
theorem nH:∀ m n:Nat,m+n=(m||| n)+(m&&& n):=by
 intro m
 induction m using Nat.strongRecOn with
 | _ m e=>
  intro n
  by_cases f:m=0
  ·subst f;simp
  have c:=e (m / 2) (by omega) (n / 2)
  rw[<-Nat.and_div_two,<-Nat.or_div_two] at c;have a:=Nat.and_mod_two_pow (a:=m) (b:=n) (n:=1);have b:=Nat.or_mod_two_pow (a:=m) (b:=n) (n:=1);have d:m % 2 ^ 1+n % 2 ^ 1=(m % 2 ^ 1||| n % 2 ^ 1)+(m % 2 ^ 1&&& n % 2 ^ 1):=by
   have hm:m % 2 ^ 1=0∨m % 2 ^ 1=1:=by omega
   have hn:n % 2 ^ 1=0∨n % 2 ^ 1=1:=by omega
   rcases hm with hm | hm<;>rcases hn with hn | hn<;>rw[hm,hn]<;>decide
  rw[<-a,<-b] at d
  omega
variable {a:Nat}
theorem AM {k:Nat}(h:a.testBit k=false):a+2 ^ k=a||| 2 ^ k:=by
 have z:a&&& 2 ^ k=0:=by
  apply Ta
  intro j;rw[testBit_and,L1,TX]
  by_cases e:k=j
  ·subst e;rw[h];rfl
  ·rw[ed e,TL]
 have:=nH a (2 ^ k)
 omega
theorem iG (m n j:Nat):(m - (m&&& n)).testBit j=(m.testBit j&&!n.testBit j):=by
 have h:m ^^^ (m&&& n)=m - (m&&& n):=by
  have f:∀ a b:Nat,(a ^^^ b)+(a&&& b)=a||| b:=by
   intro a
   induction a using Nat.strongRecOn with
   | _ m i=>
    intro n
    by_cases o:m=0
    ·subst o;simp
    have d:=i (m / 2) (by omega) (n / 2)
    rw[<-Nat.and_div_two,<-Nat.or_div_two,<-Nat.xor_div_two] at d;have a:=Nat.and_mod_two_pow (a:=m) (b:=n) (n:=1);have b:=Nat.or_mod_two_pow (a:=m) (b:=n) (n:=1);have c:=Nat.xor_mod_two_pow (a:=m) (b:=n) (n:=1);have e:(m % 2 ^ 1 ^^^ n % 2 ^ 1)+(m % 2 ^ 1&&& n % 2 ^ 1)=(m % 2 ^ 1||| n % 2 ^ 1):=by
     have hm:m % 2 ^ 1=0∨m % 2 ^ 1=1:=by omega
     have hn:n % 2 ^ 1=0∨n % 2 ^ 1=1:=by omega
     rcases hm with hm | hm<;>rcases hn with hn | hn<;>rw[hm,hn]<;>decide
    rw[<-a,<-b,<-c] at e
    omega
  have e2:=f m (m&&& n);have l:m&&& (m&&& n)=m&&& n:=by rw[<-Nat.and_assoc,Nat.and_self]
  have g:m||| (m&&& n)=m:=by
   apply Ta
   intro j;rw[testBit_or,testBit_and]
   cases m.testBit j<;>rfl
  rw[l,g] at e2
  omega
 rw[<-h,Nat.testBit_xor,testBit_and]
 cases m.testBit j<;>cases n.testBit j<;>rfl
theorem sub_zero {m:Nat}(h:∀ j,m.testBit j=true->a.testBit j=true):m - (m&&& a)=0:=by
 apply Ta
 intro j;rw[iG,TX]
 cases e:m.testBit j with
 | false=>rfl
 | true=>rw[h j e];rfl
theorem yv {m n:Nat}(h:∀ j,n<=j->m.testBit j=false):m<2 ^ n:=by
 apply Nat.lt_pow_two_of_testBit
 exact fun j hj=>h j hj
theorem gH {m n:Nat}(h:m<2 ^ n)(hj:n<=j):m.testBit j=false:=Nat.testBit_lt_two_pow (j5 h (q5 (by decide) hj))
theorem yw {n:Nat}(h:order.Perm (List.range n)):order.Nodup/\order.length=n/\∀ i,i∈order↔i<n:=by
 refine⟨h.nodup_iff.mpr Re,by rw[h.length_eq,j6],fun i=>by rw[h.mem_iff,gc]⟩
theorem JC (l:List Nat):(az l).sum=((l.sum:Nat):Int):=by
 unfold az
 induction l with
 | nil=>rfl
 | cons a r b=>rw[oD,Do,b,Do,natCast_add]
theorem Qh {m:Nat}:((m:Nat):Int) / ((2 ^ j:Nat):Int)=((m / 2 ^ j:Nat):Int):=(Int.natCast_ediv _ _).symm
def ahead (n k:Nat):Nat:=if k=0 then n - 1 else k - 1
variable {r:List Nat}
theorem qK (h:r.Nodup):(az r).Nodup:=by
 unfold az;rw[FB,pairwise_map];exact(FB.mp h).imp fun h=>by omega
abbrev DB (a b:Value):Obj:={cls:=.type "tuple",data:=.seq #[a,b]}
theorem gJ {h:Heap}{a b:Addr}{o u:Obj}{n m:String}(ha:h.get? a=some o)(hn:o.cls=.type n)(hb:h.get? b=some u)(hm:u.cls=.type m)(hc:n≠m):a≠b:=fun z=>by
 subst z;rw[ha] at hb;cases hb
 rw[hn] at hm;exact hc (by injection hm)
def Qi (K:Frag):List V->Hp->VK->Prop:=fun a H Q=>∃ (p:Addr) (bs:List Bool),a=[.ref p]/\ax K H p (bs.map V.bl)/\Q (.bl (bs.all id)) H
theorem sO:∀ {bs:List Bool} {its:List Value},Vals (bs.map V.bl) its->its=bs.map Value.bool
 | [],_,.nil=>rfl
 | b::r,_,.cons h t=>by rw[sO t,show _=Value.bool b from h];rfl
theorem cU (hc:X.calm=true)(hK:X.K=K):bX X (.builtin "all") (Qi K):=by
 subst hK;intro j s σ H C B Q I r h;obtain⟨p,bs,rfl,hq,q⟩:=h;obtain⟨u,rfl,n⟩:=vals1 r
 cases n
 obtain⟨a,w,f,hz⟩:=I.list hq;have g:=sO w;have x:p<s.heap.objs.size:=by obtain⟨o,e,_⟩:=f.isList;exact lt_size e
 refine PySem.call_all_walk (Tf f.isList ?_);refine⟨s.heap.objs.size,_,_,_,_,_,fun i=>bs.getD i false,rfl,Walks.list (by simpa using I.ok.hd hc) s.heap.objs.size p (nt x) a.toArray,⟨⟨_,j9 _ rfl,rfl,rfl⟩,f.isList.push _⟩,?_,fun A E hk=>?_⟩
 ·intro i v m y D c d;have c:a[i]?=some v:=by simpa using c
  rw[g,ek] at c
  cases e:bs[i]? with
  | none=>rw[e] at c;cases c
  | some b=>
   rw[e] at c
   cases c
   have d:y (bs.getD i false) m:=d;rw[b4,e] at d;exact F4 d
 ·have l:a.toArray.size=bs.length:=by rw[fO,g,cc]
  have t:(List.range a.toArray.size).all (fun i=>bs.getD i false)=bs.all id:=by
   rw[l]
   apply SC.mpr
   simp only[List.all_eq_true,List.mem_range,id_eq]
   constructor
   ·intro h b hb;obtain⟨k,hk,e⟩:=BC hb
    have:=h k hk
    rw[b4,b5 hk] at this;rw[<-e];exact this
   ·intro h k hk;rw[b4,b5 hk];exact h _ (p0 hk)
  rw[t];refine⟨.bl _,H,I.kept fun b o e=>hk b o ?_ (ey _ e),rfl,q⟩
  have:=lt_size e
  intro z
  have:b=s.heap.objs.size:=by simpa using z
  subst this;exact KE _ (lt_size e)
def JD:V->List V->Hp->VK->Prop:=fun x a H Q=>∃ m:Nat,x=.int m/\a=[]/\∀ n:Nat,m<2 ^ n->(∀ k,m<2 ^ k->n<=k)->Q (.int n) H
theorem Cc:xx X "int.bit_length" JD:=by
 intro b s σ H x e v f Q I c d h;obtain⟨m,rfl,rfl,q⟩:=h;obtain⟨t,rfl⟩:=c
 cases d
 refine call_int_bit_length ⟨.int (Builtin.Int.intBits (m:Int):Nat),H,I.tok _,⟨_,rfl⟩,?_⟩;unfold Builtin.Int.intBits
 by_cases a:m=0
 ·subst a;exact q 0 (by decide) fun k _=>zero_le k
 ·have h1:((m:Int) == 0)=false:=Dq.mpr (by omega)
  rw[h1];simp only[Bool.false_eq_true,if_false,natAbs_natCast];refine q _ (lt_log2_self) fun k hk=>?_
  have:=(log2_lt a).mpr hk
  omega
def aC (m:Nat):List Nat:=(List.range (m.log2+1)).filter m.testBit
theorem iH {p:Nat->Bool}:∀ (d n:Nat),(∀ j,n<=j->p j=false)->(List.range (n+d)).filter p=(List.range n).filter p
 | 0,n,_=>rfl
 | d+1,n,h=>by
  rw[<-Nat.add_assoc,FM,SZ,iH d n h]
  simp[h (n+d) (by omega)]
theorem qL {m n:Nat}(h:m<2 ^ n):(List.range n).filter m.testBit=aC m:=by
 unfold aC;have a:m<2 ^ (m.log2+1):=lt_log2_self
 rcases Nat.le_total n (m.log2+1) with c | c
 ·have:=iH (p:=m.testBit) (m.log2+1 - n) n fun j hj=>gH h hj
  rw[show n+(m.log2+1 - n)=m.log2+1 by omega] at this
  exact this.symm
 ·have:=iH (p:=m.testBit) (n - (m.log2+1)) (m.log2+1) fun j hj=>gH a hj
  rw[show m.log2+1+(n - (m.log2+1))=n by omega] at this
  exact this
def mask (l:List Nat):Nat:=(l.map fun j=>2 ^ j).sum
theorem bZ:∀ {l:List Nat},l.Nodup->∀ j,(mask l).testBit j=decide (j∈l)
 | [],_,j=>by simp[mask]
 | a::r,h,j=>by
  have b:=C3.mp h;have c:=bZ b.2;have d:(mask r).testBit a=false:=by rw[c];simp[b.1]
  show (2 ^ a+mask r).testBit j=_;rw[Nat.add_comm,AM d,iE,c]
  by_cases e:a=j
  ·subst e;simp
  ·have:¬ j=a:=fun z=>e z.symm
   simp[e,this]
theorem sP {n:Nat}(h:l.Nodup)(hl:∀ i∈l,i<n):mask l<2 ^ n:=yv fun j hj=>by
 rw[bZ h,ed];exact fun z=>absurd (hl j z) (by omega)
theorem lY:∀ {a b:List Nat},a.Pairwise (· < ·)->b.Pairwise (· < ·)->(∀ x,x∈a↔x∈b)->a=b
 | [],[],_,_,_=>rfl
 | [],y::_,_,_,h=>by have:=(h y).mpr (fA ..);cases this
 | x::_,[],_,_,h=>by have:=(h x).mp (fA ..);cases this
 | x::r,y::q,f,hb,h=>by
  have c:=Fk.mp f;have d:=Fk.mp hb;have e:x=y:=by
   rcases hU.mp ((h x).mp (fA ..)) with e | e
   ·exact e
   ·rcases hU.mp ((h y).mpr (fA ..)) with e2 | e2
    ·exact e2.symm
    ·have:=d.1 x e
     have:=c.1 y e2
     omega
  subst e;rw[lY c.2 d.2 fun z=>?_]
  constructor
  ·intro hz
   rcases hU.mp ((h z).mp (eH _ hz)) with e | e
   ·subst e;exact absurd (c.1 z hz) (by omega)
   ·exact e
  ·intro hz
   rcases hU.mp ((h z).mpr (eH _ hz)) with e | e
   ·subst e;exact absurd (d.1 z hz) (by omega)
   ·exact e
theorem Cd (h:l.Pairwise (· < ·)):aC (mask l)=l:=by
 have a:l.Nodup:=h.imp fun h=>by omega
 refine lY (List.pairwise_lt_range.sublist TM) h fun x=>?_;have b:mask l<2 ^ ((mask l).log2+1):=lt_log2_self;unfold aC;rw[pS,gc,bZ a,mo]
 constructor
 ·exact fun z=>z.2
 ·intro hx;refine⟨?_,hx⟩
  apply r4
  intro q
  have:=gH b (j:=x) (by omega)
  rw[bZ a,dt hx] at this
  cases this
def bN (ws l:List Nat):Bool:=l.all fun i=>l.all fun j=>decide (j=i)||dc ws i j
variable {b:Nat}
theorem sQ:a&&& b=b↔∀ j,b.testBit j=true->a.testBit j=true:=by
 constructor
 ·intro h j hj
  have:(a&&& b).testBit j=true:=by rw[h];exact hj
  rw[testBit_and,gz] at this;exact this.1
 ·intro h
  apply Ta
  intro j;rw[testBit_and]
  cases e:b.testBit j with
  | false=>rw[TL]
  | true=>rw[h j e];rfl
theorem nI (h:l.Nodup)(hi:i∈l):∀ j,(mask l - 2 ^ i).testBit j=decide (j∈l/\j≠i):=by
 intro j;have e:mask l&&& 2 ^ i=2 ^ i:=sQ.mpr fun j hj=>by
  rw[L1,mo] at hj;subst hj;rw[bZ h,dt hi]
 have:=iG (mask l) (2 ^ i) j
 rw[e] at this;rw[this,bZ h,L1]
 by_cases c:j∈l<;>by_cases a:i=j
 ·subst a;simp
 ·have:¬ j=i:=fun z=>a z.symm
  simp[c,a,this]
 ·simp[c]
 ·simp[c]
theorem vq (hi:i∈l):2 ^ i<=mask l:=by
 unfold mask
 induction l with
 | nil=>cases hi
 | cons a r b=>
  rw[oD,Do]
  rcases hU.mp hi with rfl | h
  ·omega
  ·exact h9 (b h) (Nat.le_add_left _ _)
theorem yy (h:l.Nodup)(hi:i∈l):decide (ws.getD i 0&&& (mask l - 2 ^ i)=mask l - 2 ^ i)=l.all fun j=>decide (j=i)||dc ws i j:=by
 apply SC.mpr
 rw[mo,sQ,kb]
 constructor
 ·intro z j hj
  by_cases e:j=i
  ·rw[dt e];rfl
  ·have:=z j (by rw[nI h hi,dt ⟨hj,e⟩])
   unfold dc;rw[this,Bool.or_true]
 ·intro z j hj;rw[nI h hi,mo] at hj
  have:=z j hj.1
  rw[ed hj.2,Bool.false_or] at this;exact this
def ko:Sp:=fun a H Q _=>∃ m:Nat,a=[.int m]/\m<2 ^ 64/\∀ (l:Addr) (H':Hp),ah H H'->H l=none->H' l=some (.lst ((az (aC m)).map V.int))->Q (.ref l) H'
def ND (K:Frag):Sp:=fun a H Q _=>∃ (w p:Addr) (ws l:List Nat),a=[.ref w,.ref p]/\aH K H w ((az ws).map V.int)/\aH K H p ((az l).map V.int)/\ws.length<=8/\l.Nodup/\(∀ i∈l,i<ws.length)/\∀ H',ah H H'->Q (.bl (bN ws l)) H'
def Qj (H0:Hp)(w p:Addr)(ws l:List Nat)(k:Nat)(σ:St)(H:Hp):Prop:=H=H0/\(∀ j,j<k->(l.all fun x=>decide (x=l.getD j 0)||dc ws (l.getD j 0) x)=true)/\∃ y1 y2:Option V,σ=[some (.ref w),some (.ref p),some (.int (mask l:Nat)),y1,y2]
theorem AN (l:List Nat):((List.range (az l).length).map fun j=>((2 ^ l.getD j 0:Nat):Int)).sum=((mask l:Nat):Int):=by
 have e:(List.range (az l).length).map (fun j=>((2 ^ l.getD j 0:Nat):Int))=az (l.map fun j=>2 ^ j):=by
  unfold az
  apply I3
  intro i;rw[cc,ek,ek,ek]
  by_cases h:i<l.length
  ·rw[vr h,b5 h];show some (((2 ^ l.getD i 0:Nat):Int))=some (((2 ^ l[i]:Nat):Int));rw[b4,b5 h];rfl
  ·rw[kf (by rw[j6];omega),kf (by omega)];rfl
 rw[e,JC];rfl
theorem JE (h:2 ^ i<=a):(a:Int) - ((2 ^ i:Nat):Int)=((a - 2 ^ i:Nat):Int):=by omega
theorem Qk:(((a:Nat):Int)=((b:Nat):Int))=(a=b):=propext ⟨fun h=>by omega,fun h=>by rw[h]⟩
def ju (ws r:List Nat):Bool:=decide (2<=r.length)&&(decide r.Nodup&&(List.range r.length).all fun k=>dc ws (r.getD (ahead r.length k) 0) (r.getD k 0))
def pq (r:List Nat):List Nat:=r.drop 1++r.take 1
theorem Fz (h:1<=r.length):(pq r).length=r.length:=by unfold pq;rw[eG,uF,wh];omega
theorem nJ {k:Nat}(hk:k<r.length):(pq r).getD k 0=r.getD (if k+1<r.length then k+1 else 0) 0:=by
 unfold pq;rw[b4,b4]
 by_cases c:k+1<r.length
 ·rw[if_pos c,C2 (by rw[uF];omega),getElem?_drop,Nat.add_comm]
 ·rw[if_neg c,w6 (by rw[uF];omega),uF,show k - (r.length - 1)=0 by omega,List.getElem?_take_of_lt (by decide)]
theorem Ce:((List.range r.length).map fun k=>dc ws (r.getD k 0) ((pq r).getD k 0)).all id=(List.range r.length).all fun k=>dc ws (r.getD (ahead r.length k) 0) (r.getD k 0):=by
 apply SC.mpr
 rw[P3];simp only[List.all_eq_true,List.mem_range,Function.comp,id_eq]
 constructor
 ·intro h k hk;unfold ahead
  by_cases c:k=0
  ·subst c;rw[if_pos rfl]
   have:=h (r.length - 1) (by omega)
   rw[nJ (by omega),if_neg (by omega)] at this
   exact this
  ·rw[if_neg c]
   have:=h (k - 1) (by omega)
   rw[nJ (by omega),if_pos (by omega),show k - 1+1=k by omega] at this
   exact this
 ·intro h k hk;rw[nJ hk]
  by_cases c:k+1<r.length
  ·rw[if_pos c]
   have:=h (k+1) c
   unfold ahead at this;rw[if_neg (by omega),Nat.add_sub_cancel] at this
   exact this
  ·rw[if_neg c]
   have:=h 0 (by omega)
   unfold ahead at this;rw[if_pos rfl,show r.length - 1=k by omega] at this
   exact this
theorem pv:(az r).Nodup↔r.Nodup:=by
 constructor
 ·intro h;unfold az at h;rw[FB,pairwise_map] at h;rw[FB];exact h.imp fun h=>by omega
 ·exact qK
theorem qM:∀ {ns:List Int},¬ ns.Nodup->∃ x∈ns,x∈ns.erase x
 | [],h=>absurd nodup_nil h
 | a::r,h=>by
  by_cases c:a∈r
  ·exact⟨a,fA ..,by rw[List.erase_cons_head];exact c⟩
  ·have d:¬ r.Nodup:=fun z=>h (C3.mpr ⟨c,z⟩);obtain⟨x,h1,e⟩:=qM d;refine⟨x,eH _ h1,?_⟩;have b:a≠x:=fun z=>c (z ▸ h1);rw[List.erase_cons_tail (by simpa using b)]
   exact eH _ e
theorem nK:∀ {xs ys:List Int},xs.Nodup->(∀ i∈xs,i∈ys)->xs.length<=ys.length
 | [],_,_,_=>zero_le _
 | a::r,ys,c,h=>by
  have b:=C3.mp c;have h1:=nK (xs:=r) (ys:=ys.erase a) b.2 fun i hi=>by
   have:i≠a:=fun z=>b.1 (z ▸ hi)
   exact(List.mem_erase_of_ne this).mpr (h i (eH _ hi))
  have d:=length_erase (a:=a) (l:=ys);rw[if_pos (h a (fA ..))] at d
  have:0<ys.length:=length_pos_of_mem (h a (fA ..))
  rw[qs];omega
theorem Cf {ns:List Int}(h:¬ ns.Nodup):unlike ns<ns.length:=by
 obtain⟨x,h1,d⟩:=qM h;obtain⟨f,b⟩:=vo (ns:=ns) ns.length (dy _);have g:=nK (ys:=ns.erase x) f fun i hi=>by
  have hi:=(b i).mp hi;rw[L3] at hi
  by_cases e:i=x
  ·rw[e];exact d
  ·exact(List.mem_erase_of_ne e).mpr hi
 have c:=length_erase (a:=x) (l:=ns);rw[if_pos h1] at c
 have:0<ns.length:=length_pos_of_mem h1
 unfold unlike
 omega
def Ql (K:Frag):Sp:=fun a H Q _=>∃ (w p:Addr) (ws r:List Nat),a=[.ref w,.ref p]/\aH K H w ((az ws).map V.int)/\aH K H p ((az r).map V.int)/\ws.length<=8/\r.length<=90/\(∀ i∈r,i<ws.length)/\∀ H',ah H H'->Q (.bl (ju ws r)) H'
def Off (wb:Addr)(H H':Hp):Prop:=∀ b o,b≠wb->H b=some o->H' b=some o
variable {wb:Addr}
theorem Off.trans {H1 H2:Hp}(a:Off wb H H1)(b:Off wb H1 H2):Off wb H H2:=fun c o n h=>b c o n (a c o n h)
theorem ah.vt {H':Hp}(s:ah H H'):Off wb H H':=fun b o _ h=>s b o h
theorem Off.upd {wb:Addr}{H:Hp}{o:HO}:Off wb H (L2.upd H wb o):=fun b u n h=>by rw[aG n];exact h
variable {p:Addr}
theorem av {xs:List V}{i:Int}{v:V}(h:ax K H p xs)(e:xW xs i=some v)(q:Q v H):BR K (.ref p) (.int i) H Q:=⟨p,_,i,_,rfl,rfl,h,e,q⟩
theorem AO {ds:List PyData}:PyData.eqv (.list ds) (.list [])=decide (ds=[]):=by
 cases ds with
 | nil=>rfl
 | cons a r=>simp[PyData.eqv,PyData.eqvAll]
theorem lcAny {j:Int}{te:TE}{rest:St}{H1:Hp}(n:Nat)(e:j=(n:Int))(hn:n<=1000000)(Ok:Nat->Prop)
  (step:∀ i H (A:V->Hp->Prop),i<n->ah H1 H->(∀ (x:Nat) H',ah H H'->Ok x->A (.int (x:Int)) H')->te (some (.int (i:Int))::rest) H A)
  (fin:∀ acc (row:List Nat) H,H1 acc=none->ah H1 H->H acc=some (.lst ((az row).map V.int))->row.length=n->(∀ x∈row,Ok x)->Q (.ref acc) H) :
  ∃ k:Int,[V.int j]=[.int k]/\-(2 ^ 62)<=k/\k<2 ^ 62/\sh (bx 0) hZ te (none::rest) Q (xE 0 k.toNat) H1:=by
 subst e;refine⟨_,rfl,by omega,by omega,?_⟩
 rw[yx];intro acc d;refine⟨fun i m τ H=>m=n - i/\i<=n/\(∃ y,τ=y::rest)/\ah H1 H/\∃ row:List Nat,H acc=some (.lst ((az row).map V.int))/\row.length=i/\∀ x∈row,Ok x,⟨n,by simp,zero_le _,⟨_,rfl⟩,ah.new d _,[],ag,rfl,(fun _ h=>nomatch h)⟩,?_⟩
 rintro i m τ H ⟨rfl,hi,⟨y,rfl⟩,l,row,q,p,r⟩
 by_cases f:i<n
 ·refine .inr ⟨f,fun s H'=>(∃ y,s=y::rest)/\ah H1 H'/\∃ row:List Nat,H' acc=some (.lst ((az row).map V.int))/\row.length=i+1/\∀ x∈row,Ok x,fun s H' ⟨a,b,c⟩=>⟨n - (i+1),by omega,rfl,f,a,b,c⟩,fun x H' y=>?_⟩
  obtain⟨rfl,rfl⟩:=y;rw[Int.zero_add];simp only[sk,gD,set_cons_zero,yl,kn];refine step i H' _ f l fun x t g hx=>?_;have o:=g _ _ q;refine⟨_,o,?_,⟨_,rfl⟩,(l.trans g).set d _,row++[x],?_,by rw[eG,p];rfl,fun z hz=>?_⟩
  ·rw[cc,ao,p];exact j5 (j5 f hn) (by decide)
  ·rw[ag,dZ,hO];rfl
  ·rcases ka.mp hz with z1 | z1
   ·exact r z z1
   ·rw[fz.mp z1];exact hx
 ·have e:i=n:=by omega
  subst e;exact .inl ⟨dy _,fin acc row H d l q p r⟩
def iI (ws:List Nat):Prop:=∃ r:Nat->Nat,∀ i j,i<ws.length->dc ws i j=true->r j<r i
def full (ws:List Nat):Prop:=¬ (laidOut ws).length<ws.length
theorem vw {k:Nat}(hd:l.Nodup)(h:x∈l.take k):l.idxOf x<k:=by
 obtain⟨i,hi,e⟩:=BC h;rw[wh] at hi;rw[getElem_take] at e;rw[<-e,hd.idxOf_getElem i (by omega)]
 omega
theorem lZ (h:full ws):iI ws:=by
 obtain⟨l,b,_⟩:=fe ws;have all:∀ i,i<ws.length->i∈laidOut ws:=fun i hi=>r4 fun z=>h (nE.mpr ⟨i,hi,z⟩);refine⟨fun x=>(laidOut ws).idxOf x,fun i j hi c=>?_⟩;have hm:=all i hi;have a:=Da hm;have e:(laidOut ws).getD ((laidOut ws).idxOf i) 0=i:=by
  rw[b4,b5 a];exact Td a
 have:=b.ok _ a j (by rw[e];exact c)
 exact vw b.nd this
theorem vx (hw:eK ws)(h:iI ws):full ws:=by
 obtain⟨r,e⟩:=h;intro b;obtain⟨i,hi,hn⟩:=nE.mp b;have a:∀ n i,i<ws.length->i∉laidOut ws->r i<n->False:=by
  intro n
  induction n with
  | zero=>intro i _ _ h;exact I1 _ h
  | succ n f=>
   intro i hi hn d;obtain⟨j,h1,g,c⟩:=qJ hw hi hn;exact f j h1 c (by have:=e i j hi g;omega)
 exact a (r i+1) i hi hn (by omega)
theorem vy (hw:eK ws):full ws↔iI ws:=⟨lZ,vx hw⟩
structure yz (ws ts names:List Nat):Prop where
 len:ts.length=ws.length
 ok:eK ts
 dc:∀ i j,i<ws.length->j<ws.length->L2.dc ts (names.getD i 0) (names.getD j 0)=L2.dc ws i j
theorem yz.NF {ts names:List Nat}(hw:eK ws)(hP:names.Perm (List.range ws.length))(t:yz ws ts names):iI ts↔iI ws:=by
 obtain⟨g,l,hm⟩:=yw hP;have get:∀ i,i<ws.length->names.getD i 0<ws.length:=fun i hi=>(hm _).mp (by rw[b4,b5 (by omega)];exact p0 _)
 have a:∀ x,x<ws.length->names.idxOf x<ws.length/\names.getD (names.idxOf x) 0=x:=fun x hx=>by
  have h1:=Da ((hm x).mpr hx);refine⟨by omega,?_⟩
  rw[b4,b5 h1];exact Td h1
 constructor
 ·rintro⟨r,h⟩;refine⟨fun i=>r (names.getD i 0),fun i j hi b=>?_⟩;have hj:=hw.inside hi b;exact h _ _ (by rw[t.len];exact get i hi) (by rw[t.dc i j hi hj];exact b)
 ·rintro⟨r,h⟩;refine⟨fun x=>r (names.idxOf x),fun x y hx b=>?_⟩;have hy:=t.ok.inside hx b;rw[t.len] at hx hy;obtain⟨c,d⟩:=a x hx;obtain⟨e,f⟩:=a y hy;refine h _ _ c ?_;rw[<-t.dc _ _ c e,d,f];exact b
variable {a:Addr}
theorem FA {xs:List V}{g:TG}{tb:TS}{D:Ends}{σ:St}(I:Nat->St->Hp->Prop)(h:ax K H a xs)(h0:I 0 σ H)(hl:∀ i σ H,I i σ H->ax K H a xs)
  (step:∀ i x σ H,xs[i]?=some x->I i σ H->g x σ H fun σ2 H2=>tb {D with nx:=I (i+1),ct:=I (i+1),bk:=D.nx} σ2 H2)
  (fin:∀ σ H,I xs.length σ H->D.nx σ H):∃ b,V.ref a=.ref b/\(∃ xs,ax K H b xs)/\mx g tb D σ (HZ K b) H:=
 ⟨a,rfl,⟨_,h⟩,uU (xs:=xs) I h0 (fun i σ H _ p=>hl i σ H p) step fin⟩
def rat (g:Nat->List Int->Int)(n:Nat)(h:List Int):Nat:=((List.range n).filter fun i=>decide (g i h=h.getD i 0)).length
theorem Cg {ms:List Int}{k:Nat}{v:Int}:(ms.set j v).getD k 0=if j=k/\j<ms.length then v else ms.getD k 0:=by
 rw[b4,List.getElem?_set,b4]
 by_cases e:j=k
 ·by_cases h:j<ms.length
  ·rw[if_pos e,if_pos h,if_pos ⟨e,h⟩];rfl
  ·rw[if_pos e,if_neg h,if_neg (fun z=>h z.2),kf (by omega)]
 ·rw[if_neg e,if_neg (fun z=>e z.1)]
theorem HN.set {cs ms:List Int}{n j:Nat}{v:Int}(h:HN cs ms n)(h0:0<=v)(h1:v<cs.getD j 0):HN cs (ms.set j v) n:=by
 refine⟨by rw[length_set,h.1],fun i hi=>?_⟩
 rw[Cg]
 by_cases e:j=i/\j<ms.length
 ·rw[if_pos e,<-e.1];exact⟨h0,h1⟩
 ·rw[if_neg e];exact h.2 i hi
theorem FC {j:Int}{te:TE}{rest:St}{H1:Hp}(n:Nat)(e:j=(n:Int))(hn:n<=1000000)(Ok:Nat->Int->Prop)
  (step:∀ i H (A:V->Hp->Prop),i<n->ah H1 H->(∀ (x:Int) H',ah H H'->Ok i x->A (.int x) H')->te (some (.int (i:Int))::rest) H A)
  (fin:∀ acc (row:List Int) H,H1 acc=none->ah H1 H->H acc=some (.lst (row.map V.int))->row.length=n->(∀ i,i<n->Ok i (row.getD i 0))->Q (.ref acc) H) :
  ∃ k:Int,[V.int j]=[.int k]/\-(2 ^ 62)<=k/\k<2 ^ 62/\sh (bx 0) hZ te (none::rest) Q (xE 0 k.toNat) H1:=by
 subst e;refine⟨_,rfl,by omega,by omega,?_⟩
 rw[yx];intro acc d;refine⟨fun i m τ H=>m=n - i/\i<=n/\(∃ y,τ=y::rest)/\ah H1 H/\∃ row:List Int,H acc=some (.lst (row.map V.int))/\row.length=i/\∀ k,k<i->Ok k (row.getD k 0),⟨n,by simp,zero_le _,⟨_,rfl⟩,ah.new d _,[],ag,rfl,fun k hk=>absurd hk (I1 k)⟩,?_⟩
 rintro i m τ H ⟨rfl,hi,⟨y,rfl⟩,l,row,p,h,q⟩
 by_cases f:i<n
 ·refine .inr ⟨f,fun r H'=>(∃ y,r=y::rest)/\ah H1 H'/\∃ row:List Int,H' acc=some (.lst (row.map V.int))/\row.length=i+1/\∀ k,k<i+1->Ok k (row.getD k 0),fun r H' ⟨a,b,c⟩=>⟨n - (i+1),by omega,rfl,f,a,b,c⟩,fun x H' y=>?_⟩
  obtain⟨rfl,rfl⟩:=y;rw[Int.zero_add];simp only[sk,gD,set_cons_zero,yl,kn];refine step i H' _ f l fun x s g hx=>?_;have o:=g _ _ p;refine⟨_,o,?_,⟨_,rfl⟩,(l.trans g).set d _,row++[x],?_,by rw[eG,h];rfl,fun k hk=>?_⟩
  ·rw[cc,h];exact j5 (j5 f hn) (by decide)
  ·rw[ag,hO];rfl
  ·by_cases e:k=i
   ·subst e;rw[<-h,sL,h];exact hx
   ·rw[sI (by omega)];exact q k (by omega)
 ·have e:i=n:=by omega
  subst e;exact .inl ⟨dy _,fin acc row H d l p h q⟩
variable {us:List V}
theorem aw {v:V}(h:us[i]?=some v):xW us (i:Int)=some v:=by
 have a:=(o5.mp h).1
 have:=iD (xs:=us) (i:=(i:Int)) (k:=i) rfl .bE a
 rw[this,b4,h];rfl
def Sl (K:Frag):List V->Hp->VK->Prop:=fun a H Q=>∃ (p:Addr) (bs:List Bool),a=[.ref p]/\ax K H p (bs.map V.bl)/\Q (.bl (bs.any id)) H
def Qm (K:Frag):List V->Hp->VK->Prop:=fun a H Q=>∃ (p:Addr) (ns:List Int),a=[.ref p]/\(ax K H p (ns.map V.int)∨aH K H p (ns.map V.int))/\ns≠[]/\∀ m∈ns,(∀ n∈ns,n<=m)->Q (.int m) H
theorem nL:∀ {ns:List Int} {its:List Value} {i:Nat} {v:Value},Vals (ns.map V.int) its->its[i]?=some v->∃ t,v=.int (ns.getD i 0) t/\i<ns.length
 | [],_,i,v,.nil,h=>by simp at h
 | n::r,_,0,v,.cons h _,e=>by
  obtain⟨t,h⟩:=h
  simp at e
  exact⟨t,by rw[<-e,h];rfl,by simp⟩
 | n::r,_,i+1,v,.cons _ t,e=>by
  obtain⟨a,h1,b⟩:=nL t (i:=i) (v:=v) (by simpa using e)
  exact⟨a,by rw[h1];simp,by simp;exact b⟩
theorem vz:∀ {xs:List V} {its:List Value},Vals xs its->Vals xs.reverse its.reverse
 | [],_,.nil=>.nil
 | _::_,_,.cons h t=>by rw[List.reverse_cons,List.reverse_cons];exact(vz t).append (.cons h .nil)
theorem Ci (hc:X.calm=true)(hK:X.K=K):bX X (.builtin "any") (Sl K):=by
 subst hK;intro j s σ H C B Q I r h;obtain⟨p,bs,rfl,hq,q⟩:=h;obtain⟨u,rfl,n⟩:=vals1 r
 cases n
 obtain⟨a,w,f,hz⟩:=I.list hq;have g:=sO w;have x:p<s.heap.objs.size:=by obtain⟨o,e,_⟩:=f.isList;exact lt_size e
 refine PySem.call_any_walk (Tf f.isList ?_);refine⟨s.heap.objs.size,_,_,_,_,_,fun i=>bs.getD i false,rfl,Walks.list (by simpa using I.ok.hd hc) s.heap.objs.size p (nt x) a.toArray,⟨⟨_,j9 _ rfl,rfl,rfl⟩,f.isList.push _⟩,?_,fun A E hk=>?_⟩
 ·intro i v m y D c d;have c:a[i]?=some v:=by simpa using c
  rw[g,ek] at c
  cases e:bs[i]? with
  | none=>rw[e] at c;cases c
  | some b=>
   rw[e] at c
   cases c
   have d:y (bs.getD i false) m:=d;rw[b4,e] at d;exact F4 d
 ·have l:a.toArray.size=bs.length:=by rw[fO,g,cc]
  have t:(List.range a.toArray.size).any (fun i=>bs.getD i false)=bs.any id:=by
   rw[l]
   apply SC.mpr
   simp only[List.any_eq_true,List.mem_range,id_eq]
   constructor
   ·rintro⟨k,hk,h⟩;rw[b4,b5 hk] at h;exact⟨_,p0 hk,h⟩
   ·rintro⟨b,hb,h⟩;obtain⟨k,hk,e⟩:=BC hb;refine⟨k,hk,?_⟩;rw[b4,b5 hk];show bs[k]=true;rw[e];exact h
  rw[t];refine⟨.bl _,H,I.kept fun b o e=>hk b o ?_ (ey _ e),rfl,q⟩;intro z
  have:b=s.heap.objs.size:=by simpa using z
  subst this;exact KE _ (lt_size e)
theorem Cj {pins:List (Addr × Obj)}{σ:St}{ns:List Int}(hc:X.calm=true)(I:Inv X pins σ H s)(hq:ax X.K H p (ns.map V.int)∨aH X.K H p (ns.map V.int)){R:Value->Shared->Prop}
  (h:∀ (J:Addr) (fp wr:List Addr) (Pv:Nat->Value->Prop) (St:Nat->Heap->Prop) (s2:Shared),Walks X.prog X.w X.A.in1 J fp wr ns.length Pv St->St 0 s2.heap->(∀ b∈fp,b<s2.heap.objs.size)->(∀ i v,Pv i v->∃ t,v=.int (ns.getD i 0) t)->
   (∀ h' tk,(∀ b o,b∉wr->s2.heap.get? b=some o->h'.get? b=some o)->Inv X pins σ H {s2 with heap:=h',toks:=tk})->R (.ref J) s2):wpAny (model X.prog X.w) X.A.in1 (pyIter (.ref p)) R E s:=by
 have kept:∀ {o:Obj} {h':Heap} {tk:Nat},(∀ b u,b∉[s.heap.objs.size]->(s.heap.push o).get? b=some u->h'.get? b=some u)->Inv X pins σ H {s with heap:=h',toks:=tk}:=fun hk=>I.kept fun b u e=>hk b u (fun z=>by
  have:b=s.heap.objs.size:=by simpa using z
  subst this;exact KE _ (lt_size e)) (ey _ e)
 rcases hq with hq | hq
 ·obtain⟨a,c,f,hz⟩:=I.list hq;have j:a.toArray.size=ns.length:=by rw[fO,<-c.length,cc]
  have d:p<s.heap.objs.size:=by obtain⟨o,e,_⟩:=f.isList;exact lt_size e
  refine Tf f.isList ?_;have W:=Walks.list (prog:=X.prog) (w:=X.w) (A:=X.A.in1) (by simpa using I.ok.hd hc) s.heap.objs.size p (nt d) a.toArray
  rw[j] at W;refine h _ _ _ _ _ _ W ⟨⟨_,j9 _ rfl,rfl,rfl⟩,f.isList.push _⟩ (fun b hb=>?_) (fun i v g=>?_) fun h' tk hk=>kept hk
  ·show b<(s.heap.push _).objs.size;rw[Gc]
   rcases hU.mp hb with rfl | hb
   ·exact T3 _
   ·have:b=p:=by simpa using hb
    rw[this];exact TC d
  ·obtain⟨t,e,_⟩:=nL c (by simpa using g)
   exact⟨t,e⟩
 ·obtain⟨a,c,f,hz⟩:=I.tuple hq;have pt:s.heap.IsTuple p a.toArray:=f;have j:a.toArray.size=ns.length:=by rw[fO,<-c.length,cc]
  have d:p<s.heap.objs.size:=by obtain⟨o,e,_⟩:=pt;exact lt_size e
  refine To pt ?_;have W:=Walks.tuple (prog:=X.prog) (w:=X.w) (A:=X.A.in1) (by simpa using I.ok.hd hc) s.heap.objs.size p (nt d) a.toArray
  rw[j] at W;refine h _ _ _ _ _ _ W ⟨⟨_,j9 _ rfl,rfl,rfl⟩,pt.at fun o e=>ey _ e⟩ (fun b hb=>?_) (fun i v g=>?_) fun h' tk hk=>kept hk
  ·show b<(s.heap.push _).objs.size;rw[Gc]
   rcases hU.mp hb with rfl | hb
   ·exact T3 _
   ·have:b=p:=by simpa using hb
    rw[this];exact TC d
  ·obtain⟨t,e,_⟩:=nL c (by simpa using g)
   exact⟨t,e⟩
theorem yA (hc:X.calm=true)(hK:X.K=K):bX X (.builtin "max") (Qm K):=by
 subst hK;intro l s σ H D C Q I r h;obtain⟨p,c,rfl,hq,d,q⟩:=h;obtain⟨u,rfl,A⟩:=vals1 r
 cases A
 have hn:0<c.length:=F2.mpr d;refine PySem.call_max_walk (Cj hc I hq fun J x y Pv St F W w f a b=>?_);refine⟨J,x,y,_,Pv,St,_,rfl,W,w,f,hn,CmpOf.ints_gt (fun i=>c.getD i 0) a,fun v o B m hk=>?_⟩;obtain⟨t,rfl⟩:=a _ _ m;obtain⟨E,z⟩:=argBest_gt (fun i=>c.getD i 0) (c.length - 1);refine⟨.int _,H,b o B hk,⟨t,rfl⟩,q _ (L2.getD_mem (by omega)) fun n g=>?_⟩
 obtain⟨k,j,e⟩:=BC g
 have:=z k (by omega)
 rw[b4,b5 j] at this;rw[<-e];exact this
def Lx:TS:=fun _ _ _=>False
theorem iJ {st:Stmt}:QS X st Lx:=⟨fun _ _ _ _ _ _ h=>h.elim⟩
theorem FD {D:Ends}{σ:St} :Lx D σ H=False:=rfl
def Qn (K:Frag):V->Hp->VK->Prop:=fun x H Q=>∃ a xs,x=.ref a/\ax K H a xs/\∀ p,H p=none->Q (.ref p) (upd H p (.lst xs.reverse))
def Sm (K:Frag)(te ts:TE):TE:=fun σ H Q=>te σ H fun x H1=>ts σ H1 fun y a=>y=.int (-1)/\Qn K x a Q
variable {st:Expr}{te ts:TE}{p2:Pos}{ops:Value->Value->List Value}
theorem NG (he:PE X e te)(hs:PE X st ts)(hsub:∀ o i,subscripted (.Slice none none (some st) p2) false o i=operate (ops o i) (getItem o i)):PE X (.Subscript e (.Slice none none (some st) p2) pos) (Sm X.K te ts):=by
 intro c s σ H Q I h;refine Subscript_ (bV (he c s σ H _ I h) fun v D ⟨x,H1,z,E,p⟩=>?_);refine wpAny_Slice ?_;rw[evalPart_none];refine gd (gd ?_);rw[evalPart_some];refine bV (hs c D σ H1 _ z p) fun F d ⟨y,u,m,B,C⟩=>?_;obtain⟨rfl,a,n,rfl,hx,q⟩:=C
 cases E
 obtain⟨t,rfl⟩:=B;have g:Inv X c σ u {d with heap:=d.heap.push {cls:=.type "slice",data:=.fields #[.none,.none,.int (-1) t]}}:=m.kept (t':=d.toks) fun b ob q=>ey _ q;obtain⟨f,r,j,hz⟩:=g.list hx;have l:=r.length;show wpAny (model X.prog X.w) X.A (subscriptTail e (.Slice none none (some st) p2) (.ref a) (.ref d.heap.objs.size)) (EP X c σ Q) X.xe {d with heap:=d.heap.push {cls:=.type "slice",data:=.fields #[.none,.none,.int (-1) t]}};refine tail_any (T:="list") (ops:=ops (.ref a) (.ref d.heap.objs.size)) j.isList.typeIs slot_list_getitem.lookup ?_ (hsub _ _);refine wpAny_getItem_list_slice j.isList (Heap.IsSliceOf.new ..) .none .none (.int (-1) t) (by simp) ?_ (by rw[fO]<;>omega)
 rw[PySem.W.krv_pick];refine⟨.ref _,_,g.laid (t':=d.toks) (o:=.lst n.reverse) (fun b ob q=>ey _ q) (dy _) ?_,rfl,q _ (g.br.fresh (dy _))⟩;exact⟨by rw[List.length_reverse];exact hz,f.reverse,0,vz r,j9 _ rfl⟩
theorem NH (he:QE X e te)(hs:QE X st ts)(h:X.K=K)(hsub:∀ o i,subscripted (.Slice none none (some st) p2) false o i=operate (ops o i) (getItem o i):=by intro _ _;with_unfolding_all rfl):QE X (.Subscript e (.Slice none none (some st) p2) pos) (Sm K te ts):=⟨by subst h;exact NG he.h hs.h hsub⟩
theorem Qo {σ:St} :Sm K te ts σ H Q=te σ H fun x H1=>ts σ H1 fun y H2=>y=.int (-1)/\Qn K x H2 Q:=rfl
def rg (n i:Nat)(s:Int):Int:=if i=n - 1 then s else 1 - s
theorem yB {n:Nat}(hn:2<=n){h:Nat->Int}(hb:∀ i,i<n->h i=0∨h i=1):∃ i,i<n/\rg n i (h ((i+1) % n))=h i:=by
 refine r4 fun z=>?_;have a:∀ i,i<n->rg n i (h ((i+1) % n))≠h i:=fun i hi e=>z ⟨i,hi,e⟩;have all:∀ i,i<n->h i=h 0:=by
  intro i
  induction i with
  | zero=>intro _;rfl
  | succ i b=>
   intro hi;have h1:=a i (by omega)
   unfold rg at h1;rw[if_neg (by omega),T8 hi] at h1
   have:=b (by omega)
   have c:=hb i (by omega)
   have d:=hb (i+1) hi
   omega
 have h1:=a (n - 1) (by omega)
 unfold rg at h1;rw[if_pos rfl,show n - 1+1=n by omega,mod_self,all (n - 1) (by omega)] at h1
 exact h1 rfl
def Qp:Sp:=fun a H Q _=>∃ (n i:Nat) (s:Int),a=[.int n,.int i,.int s]/\1<=n/\Q (.int (rg n i s)) H
theorem Qq {ns:List Int}{tc:TT}{rest:St}{H1:Hp}(keep:Nat->Bool)(val:Nat->Int)(h:aH K H1 a (ns.map V.int))(hn:ns.length<sizeLine)
  (step:∀ i H (A:V->Hp->Prop) (B:Hp->Prop),i<ns.length->ah H1 H->(keep i=true->∀ H',ah H H'->A (.int (val i)) H')->(keep i=false->∀ H',ah H H'->B H')->
   tc (some (.int (i:Int))::some (.int (ns.getD i 0))::rest) H fun b H3=>if b=true then te (some (.int (i:Int))::some (.int (ns.getD i 0))::rest) H3 A else B H3)
  (fin:∀ acc H,H1 acc=none->ah H1 H->H acc=some (.lst ((((List.range ns.length).filter keep).map val).map V.int))->Q (.ref acc) H) :
  ∃ b,[V.ref a]=[.ref b]/\(∃ xs,aH K H1 b xs)/\sh (jZ K 2 (cJ (bx 0) (cJ (bx 1) jY))) tc te (none::none::rest) Q (OM K b) H1:=by
 refine⟨a,rfl,⟨_,h⟩,fun acc c=>?_⟩;refine⟨fun i m τ H=>m=ns.length - i/\i<=ns.length/\(∃ y z,τ=y::z::rest)/\ah H1 H/\H acc=some (.lst ((((List.range i).filter keep).map val).map V.int)),⟨ns.length,by simp,zero_le _,⟨_,_,rfl⟩,ah.new c _,ag⟩,?_⟩
 rintro i m τ H ⟨rfl,hi,⟨y,z,rfl⟩,j,n⟩;have o:=j.aL h
 by_cases f:i<ns.length
 ·have hx:(ns.map V.int)[i]?=some (.int (ns.getD i 0)):=by
   rw[ek,b5 f,b4,b5 f];rfl
  refine .inr ⟨⟨_,_,o,hx⟩,fun q H'=>(∃ y z,q=y::z::rest)/\ah H1 H'/\H' acc=some (.lst ((((List.range (i+1)).filter keep).map val).map V.int)),fun q H' ⟨u,v,w⟩=>⟨ns.length - (i+1),by omega,rfl,f,u,v,w⟩,fun x H' y=>?_⟩
  obtain⟨t,v,l,rfl,rfl,C⟩:=y
  have:=C _ o
  rw[hx] at this;cases this
  have g:=ah.new l (.tup [.int (i:Int),.int (ns.getD i 0)]);refine⟨t,_,rfl,aH.of ag,rfl,_,_,rfl,_,_,rfl,rfl,?_⟩;simp only[set_cons_zero,set_cons_succ];have r:(((List.range i).filter keep).map val).length<=i:=by
   have:=A5 keep (List.range i)
   rw[j6] at this;rw[cc];exact this
  refine step i _ _ _ f (j.trans g) (fun hk s d=>?_) fun hk s d=>?_
  ·have p:=d _ _ (g _ _ n);refine⟨_,p,?_,⟨_,_,rfl⟩,((j.trans g).trans d).set c _,?_⟩
   ·rw[cc];omega
   ·rw[ag,FM,SZ,hO,hO]
    simp[hk]
  ·refine⟨⟨_,_,rfl⟩,(j.trans g).trans d,?_⟩;rw[d _ _ (g _ _ n),FM,SZ,hO,hO]
   simp[hk]
 ·have e:i=ns.length:=by omega
  subst e;exact .inl ⟨⟨_,o,by rw[cc];exact dy _⟩,fin acc H c j n⟩
def kd (b:Bool):Str:=if b then "ring" else "circle"
theorem sR (b:Bool):decide (kd b="ring")=b:=by cases b<;>decide
def GL (K:Frag)(H:Hp):List V->List (Bool × List Nat)->Prop
 | [],[]=>True
 | v::a,g::L=>(∃ r p,v=.ref r/\aH K H r [.str (kd g.1),.ref p]/\aH K H p ((az g.2).map V.int))/\GL K H a L
 | _,_=>False
variable {H':Hp}
theorem GL.mono (s:ah H H'):∀ {vs:List V} {L:List (Bool × List Nat)},GL K H vs L->GL K H' vs L
 | [],[],h=>h
 | _::_,_::_,⟨⟨r,p,e,h,a⟩,t⟩=>⟨⟨r,p,e,s.aL h,s.aL a⟩,GL.mono s t⟩
 | [],_::_,h=>h.elim
 | _::_,[],h=>h.elim
theorem GL.length:∀ {vs:List V} {L:List (Bool × List Nat)},GL K H vs L->vs.length=L.length
 | [],[],_=>rfl
 | _::_,_::_,⟨_,t⟩=>by rw[qs,qs,GL.length t]
 | [],_::_,h=>h.elim
 | _::_,[],h=>h.elim
theorem GL.get:∀ {vs:List V} {L:List (Bool × List Nat)} {i:Nat} {v:V},GL K H vs L->vs[i]?=some v->∃ g r p,L[i]?=some g/\v=.ref r/\aH K H r [.str (kd g.1),.ref p]/\aH K H p ((az g.2).map V.int)
 | [],[],i,v,_,e=>by simp at e
 | _::_,g::_,0,v,⟨⟨r,p,e,h,c⟩,_⟩,e2=>by simp at e2;subst e2;exact⟨g,r,p,rfl,e,h,c⟩
 | _::_,_::_,i+1,v,⟨_,t⟩,e2=>by
  obtain⟨g,r,p,a,b⟩:=GL.get (i:=i) (v:=v) t (by simpa using e2)
  exact⟨g,r,p,by simpa using a,b⟩
 | [],_::_,_,_,h,_=>h.elim
 | _::_,[],_,_,h,_=>h.elim
variable {L:List (Bool × List Nat)}
theorem S7 {rest:St}{H1:Hp}(val:(Bool × List Nat)->Int)(h:aH K H1 a us)(hg:GL K H1 us L)(hn:L.length<sizeLine)
  (step:∀ (i:Nat) g p H (A:V->Hp->Prop),L[i]?=some g->ah H1 H->aH K H p ((az g.2).map V.int)->(∀ H',ah H H'->A (.int (val g)) H')->te (some (.str (kd g.1))::some (.ref p)::rest) H A)
  (fin:∀ acc H,H1 acc=none->ah H1 H->H acc=some (.lst ((L.map val).map V.int))->Q (.ref acc) H) :
  ∃ b,V.ref a=.ref b/\(∃ xs,aH K H1 b xs)/\sh (jZ K 2 (cJ (bx 0) (cJ (bx 1) jY))) hZ te (none::none::rest) Q (Aa K b) H1:=by
 have F:=hg.length;refine⟨a,rfl,⟨_,h⟩,fun acc c=>?_⟩;refine⟨fun i m τ H=>m=L.length - i/\i<=L.length/\(∃ y z,τ=y::z::rest)/\ah H1 H/\H acc=some (.lst (((L.take i).map val).map V.int)),⟨L.length,by simp,zero_le _,⟨_,_,rfl⟩,ah.new c _,ag⟩,?_⟩
 rintro i m τ H ⟨rfl,hi,⟨y,z,rfl⟩,d,s⟩;have l:=d.aL h
 by_cases q:i<L.length
 ·have hx:us[i]?=some (us[i]'(by omega)):=b5 _
  refine .inr ⟨⟨_,_,l,hx⟩,fun t H'=>(∃ y z,t=y::z::rest)/\ah H1 H'/\H' acc=some (.lst (((L.take (i+1)).map val).map V.int)),fun t H' ⟨u,v,w⟩=>⟨L.length - (i+1),by omega,rfl,q,u,v,w⟩,fun x H' y=>?_⟩
  obtain⟨rfl,D⟩:=y;have n:=D _ l;obtain⟨g,r,p,j,rfl,B,C⟩:=(hg.mono d).get n;refine⟨r,_,rfl,B,rfl,_,_,rfl,_,_,rfl,rfl,?_⟩;simp only[gD,yl,kn,set_cons_zero,set_cons_succ];refine step i g p _ _ j d C fun E f=>?_;have o:=f _ _ s;refine⟨_,o,?_,⟨_,_,rfl⟩,(d.trans f).set c _,?_⟩
  ·rw[cc,cc,wh];omega
  ·rw[ag]
   have:L.take (i+1)=L.take i++[g]:=by rw[take_succ,j];rfl
   rw[this,hO,hO];rfl
 ·have e:i=L.length:=by omega
  subst e;refine .inl ⟨⟨_,l,by omega⟩,fin acc H c d ?_⟩
  rw[s,L3]
def pk (cs:List Int)(l:List Nat):List Int:=l.map fun i=>cs.getD i 0
def vA (cs:List Int)(g:Bool × List Nat):Int:=if g.1 then 1 else bP (pr (pk cs g.2)) (pk cs g.2) / pr (pk cs g.2)
structure FE (n:Nat)(g:Bool × List Nat):Prop where
 lt:∀ i∈g.2,i<n
 len:g.2.length<=8
variable {g:Bool × List Nat}
theorem FF {cs:List Int}(h:cp cs)(hg:FE cs.length g):cp (pk cs g.2):=by
 refine⟨fun c hc=>?_,by unfold pk;rw[cc];exact hg.len⟩
 obtain⟨i,hi,e⟩:=ih.mp hc;rw[<-e];exact h.get (hg.lt i hi)
theorem sS {cs:List Int} :(pk cs l).length=l.length:=by unfold pk;rw[cc]
theorem NI {cs:List Int}{k:Nat}(h:k<l.length):(pk cs l).getD k 0=cs.getD (l.getD k 0) 0:=by
 unfold pk;rw[b4,ek,b5 h,b4 (l:=l),b5 h];rfl
def nM (K:Frag):Sp:=fun a H Q _=>∃ (c p:Addr) (cs:List Int) (l:List Nat),a=[.ref c,.ref p]/\aH K H c (cs.map V.int)/\aH K H p ((az l).map V.int)/\(∀ i∈l,i<cs.length)/\l.length<=8/\∀ (t:Addr) (H':Hp),ah H H'->H' t=some (.tup ((pk cs l).map V.int))->Q (.ref t) H'
def AQ (K:Frag):Sp:=fun a H Q _=>∃ (c p:Addr) (cs:List Int) (g:Bool × List Nat),a=[.ref c,.str (kd g.1),.ref p]/\aH K H c (cs.map V.int)/\aH K H p ((az g.2).map V.int)/\cp cs/\FE cs.length g/\∀ (H':Hp),ah H H'->Q (.int (vA cs g)) H'
def yC (K:Frag):Sp:=fun a H Q _=>∃ (c g:Addr) (cs:List Int) (us:List V) (L:List (Bool × List Nat)),a=[.ref c,.ref g]/\aH K H c (cs.map V.int)/\aH K H g us/\GL K H us L/\cp cs/\(∀ g∈L,FE cs.length g)/\L.length<=100/\∀ (H':Hp),ah H H'->Q (.int (L.map (vA cs)).sum) H'
def eW (cs:List Int)(l:List Nat):List Int:=l.map fun i=>cs.getD i 0
theorem gK {cs:List Int} :(eW cs l).length=l.length:=by unfold eW;rw[cc]
theorem kq {cs:List Int}{k:Nat}(h:k<l.length):(eW cs l).getD k 0=cs.getD (l.getD k 0) 0:=by
 unfold eW;rw[b4,ek,b5 h,b4 (l:=l),b5 h];rfl
def FG (cs hs:List Int)(g:Bool × List Nat)(i:Nat):Int:=if g.1 then rg g.2.length (g.2.idxOf i) (hs.getD (g.2.getD ((g.2.idxOf i+1) % g.2.length) 0) 0) else cg (eW cs g.2) (eW hs g.2) (g.2.idxOf i)
def sT (cs:List Int)(L:List (Bool × List Nat))(hs:List Int)(i:Nat):Int:=match L.find? (fun g=>decide (i∈g.2)) with
 | none=>0
 | some g=>FG cs hs g i
structure ON (cs:List Int)(ws:List Nat)(g:Bool × List Nat):Prop where
 lt:∀ x∈g.2,x<cs.length
 nd:g.2.Nodup
 ring:g.1=true->2<=g.2.length/\(∀ x∈g.2,cs.getD x 0=2)/\∀ k,k<g.2.length->dc ws (g.2.getD k 0) (g.2.getD ((k+1) % g.2.length) 0)=true
 fh:g.1=false->∀ x∈g.2,∀ y∈g.2,x≠y->dc ws x y=true
structure yD (cs:List Int)(ws:List Nat)(L:List (Bool × List Nat)):Prop where
 each:∀ g∈L,ON cs ws g
 pP:L.Pairwise fun g h=>∀ x∈g.2,x∉h.2
theorem fN {k:Nat}(h:k<l.length):l.getD k 0∈l:=by
 rw[b4,b5 h];exact p0 h
theorem NJ {k:Nat}(hd:l.Nodup)(h:k<l.length):l.idxOf (l.getD k 0)=k:=by
 rw[b4,b5 h];exact hd.idxOf_getElem k h
theorem getIdx (h:x∈l):l.getD (l.idxOf x) 0=x:=by
 have a:=Da h;rw[b4,b5 a];exact Td a
theorem yE (h:L.find? (fun g=>decide (i∈g.2))=some g):g∈L/\i∈g.2:=⟨List.mem_of_find?_eq_some h,by have:=List.find?_some h;exact u5 this⟩
theorem JF {cs hs:List Int}(hp:∀ c∈cs,1<=c)(hn:HN cs hs cs.length)(h:ON cs ws g)(hi:i∈g.2):0<=FG cs hs g i/\FG cs hs g i<cs.getD i 0:=by
 have f:=Da hi;unfold FG
 cases hb:g.1 with
 | true=>
  obtain⟨n,hc,_⟩:=h.ring hb;have d:=fN (l:=g.2) (k:=(g.2.idxOf i+1) % g.2.length) (mod_lt _ (by omega))
  have m:=hn.2 _ (h.lt _ d);rw[hc _ d] at m;rw[hc i hi];simp only[if_true];unfold rg
  split<;>omega
 | false=>
  simp only[Bool.false_eq_true,if_false];have a:∀ c∈eW cs g.2,1<=c:=fun c hc=>by
   obtain⟨x,hx,e⟩:=ih.mp hc;rw[<-e];exact hp _ (getD_mem (h.lt x hx))
  have j:g.2.idxOf i<(eW cs g.2).length:=by rw[gK];exact f
  have b:=PR (hs:=eW hs g.2) a j;rw[kq f,getIdx hi] at b;exact⟨PQ a j,b⟩
theorem JG {cs hs:List Int}(hp:∀ c∈cs,1<=c)(hn:HN cs hs cs.length)(h:yD cs ws L)(hi:i<cs.length):0<=sT cs L hs i/\sT cs L hs i<cs.getD i 0:=by
 unfold sT
 cases a:L.find? (fun g=>decide (i∈g.2)) with
 | none=>have:=hp _ (getD_mem hi);exact⟨by show (0:Int)<=0;decide,by show (0:Int)<_;omega⟩
 | some g=>
  obtain⟨h1,b⟩:=yE a;exact JF hp hn (h.each g h1) b
def e9 (cs:List Int)(g:Bool × List Nat):Int:=if g.1 then 1 else bP (pr (eW cs g.2)) (eW cs g.2) / pr (eW cs g.2)
def vB (cs hs:List Int)(g:Bool × List Nat):List Nat:=g.2.filter fun x=>decide (FG cs hs g x=hs.getD x 0)
theorem yF (hd:l.Nodup)(p:Nat->Nat->Bool):(l.filter fun x=>p (l.idxOf x) x).length=((List.range l.length).filter fun k=>p k (l.getD k 0)).length:=by
 have e:l=(List.range l.length).map fun k=>l.getD k 0:=by
  apply ext_getElem
  ·simp
  ·intro i h1 a;simp[h1]
 have:=List.filter_map (f:=fun k=>l.getD k 0) (p:=fun x=>p (l.idxOf x) x) (l:=List.range l.length)
 rw[<-e] at this;rw[this,cc]
 congr 1
 apply List.filter_congr
 intro k hk;show p (l.idxOf (l.getD k 0)) (l.getD k 0)=_;rw[NJ hd (gc.mp hk)]
theorem JH {cs hs:List Int}(hp:∀ c∈cs,1<=c)(hn:HN cs hs cs.length)(h:ON cs ws g):e9 cs g<=((vB cs hs g).length:Int):=by
 unfold e9 vB
 cases hb:g.1 with
 | true=>
  simp only[if_true];obtain⟨d,hc,_⟩:=h.ring hb;obtain⟨k,hk,e⟩:=yB d (h:=fun k=>hs.getD (g.2.getD k 0) 0) fun k hk=>by
   have i:=hn.2 _ (h.lt _ (fN hk));rw[hc _ (fN hk)] at i
   omega
  have hm:g.2.getD k 0∈g.2.filter fun x=>decide (FG cs hs g x=hs.getD x 0):=by
   rw[pS];refine⟨fN hk,dt ?_⟩;unfold FG;rw[hb,if_pos rfl,NJ h.nd hk];exact e
  have:=length_pos_of_mem hm
  omega
 | false=>
  simp only[Bool.false_eq_true,if_false];have a:∀ c∈eW cs g.2,1<=c:=fun c hc=>by
   obtain⟨x,hx,e⟩:=ih.mp hc;rw[<-e];exact hp _ (getD_mem (h.lt x hx))
  have f:Jq (eW cs g.2) (eW hs g.2):=by
   refine⟨a,by rw[gK,gK],fun k hk=>?_,fun k hk=>?_⟩
   ·rw[gK] at hk;rw[kq hk];exact(hn.2 _ (h.lt _ (fN hk))).1
   ·rw[gK] at hk;rw[kq hk,kq hk];exact(hn.2 _ (h.lt _ (fN hk))).2
  have m:=(yk f).1;have j:=fK a;have e:(g.2.filter fun x=>decide (FG cs hs g x=hs.getD x 0)).length=(dg (eW cs g.2) (eW hs g.2) (eW cs g.2).length).length:=by
   have:=yF h.nd fun k x=>decide (cg (eW cs g.2) (eW hs g.2) k=hs.getD x 0)
   unfold dg;rw[gK];have b:(g.2.filter fun x=>decide (FG cs hs g x=hs.getD x 0))=g.2.filter fun x=>decide (cg (eW cs g.2) (eW hs g.2) (g.2.idxOf x)=hs.getD x 0):=by
    apply List.filter_congr
    intro x _;unfold FG;rw[hb]
    rfl
   rw[b,this]
   congr 1
   apply List.filter_congr
   intro k hk;rw[kq (gc.mp hk)]
  rw[e]
  have:pr (eW cs g.2)*(bP (pr (eW cs g.2)) (eW cs g.2) / pr (eW cs g.2))<=pr (eW cs g.2)*((dg (eW cs g.2) (eW hs g.2) (eW cs g.2).length).length:Int):=by
   have l:=mul_ediv_add_emod (bP (pr (eW cs g.2)) (eW cs g.2)) (pr (eW cs g.2));rw[T4 (pr (eW cs g.2)) ((dg (eW cs g.2) (eW hs g.2) (eW cs g.2).length).length:Int)];omega
  exact Int.le_of_mul_le_mul_left this (by omega)
theorem qO {cs:List Int}{ws:List Nat}:∀ {L:List (Bool × List Nat)},(L.Pairwise fun g h=>∀ x∈g.2,x∉h.2)->∀ {g:Bool × List Nat} {x:Nat},g∈L->x∈g.2->L.find? (fun g=>decide (x∈g.2))=some g
 | [],_,_,_,h,_=>nomatch h
 | a::L,b,g,x,c,hx=>by
  rw[Fk] at b
  rcases hU.mp c with z | z
  ·subst z;rw[find?_cons,dt hx]
  ·have:x∉a.2:=fun w=>b.1 g z x w hx
   rw[find?_cons,ed this];exact qO (cs:=cs) (ws:=ws) b.2 z hx
theorem l9 {cs hs:List Int}(hp:∀ c∈cs,1<=c)(hn:HN cs hs cs.length)(h:yD cs ws L):(L.map (e9 cs)).sum<=((rat (fun i h=>sT cs L h i) cs.length hs:Nat):Int):=by
 have h1:∀ M:List (Bool × List Nat),(∀ g∈M,g∈L)->(M.map (e9 cs)).sum<=((M.flatMap (vB cs hs)).length:Int):=by
  intro M f
  induction M with
  | nil=>simp
  | cons a r m=>
   rw[oD,Do,List.flatMap_cons,eG,natCast_add]
   have:=JH hp hn (h.each a (f a (fA ..)))
   have:=m fun g b=>f g (eH _ b)
   omega
 have q:=h1 L fun g b=>b;have p:(L.flatMap (vB cs hs)).length<=rat (fun i h=>sT cs L h i) cs.length hs:=by
  unfold rat;refine je ?_ fun x hx=>?_
  ·have l:∀ M:List (Bool × List Nat),(∀ g∈M,g∈L)->(M.Pairwise fun g h=>∀ x∈g.2,x∉h.2)->(M.flatMap (vB cs hs)).Nodup:=by
    intro M f j
    induction M with
    | nil=>exact nodup_nil
    | cons a r m=>
     rw[Fk] at j;rw[List.flatMap_cons,Tw];refine⟨(h.each a (f a (fA ..))).nd.sublist TM,m (fun g b=>f g (eH _ b)) j.2,fun x hx y hy e=>?_⟩;subst e;obtain⟨g,b,d⟩:=List.mem_flatMap.mp hy;exact j.1 g b x (pS.mp hx).1 (pS.mp d).1
   exact l L (fun g b=>b) h.pP
  ·obtain⟨g,b,d⟩:=List.mem_flatMap.mp hx;obtain⟨n,o⟩:=pS.mp d;rw[pS,gc];refine⟨(h.each g b).lt x n,?_⟩;rw[mo];show sT cs L hs x=_;unfold sT;rw[qO (cs:=cs) (ws:=ws) h.pP b n];exact u5 o
 omega
theorem ma:∀ {vs:List Value} {ns:List Int},IntsAre vs ns->∀ i,i<ns.length->∃ u,vs[i]?=some (.int (ns.getD i 0) u)
 | _,_,.nil,i,h=>absurd h (I1 i)
 | _,_,.cons n t _,0,_=>⟨t,rfl⟩
 | _,_,.cons n t r,i+1,h=>by
  obtain⟨u,e⟩:=ma r i (by simpa using h)
  exact⟨u,by simpa using e⟩
theorem lh {vs:List Value}{ns:List Int}{k:Int}{t:Tok}{Q:Value->Shared->Prop}(hp:s.heap.IsTuple p vs.toArray)(hi:IntsAre vs ns)(hk:k∈ns)(q:∀ tk,Q (.int (ns.idxOf k:Nat) tk) {s with toks:=s.toks+1}) :
  wpAny (model prog w) A (call (.builtin "tuple.index") [.ref p,.int k t]) Q E s:=by
 obtain⟨o,l,B,n,v⟩:=id hp;refine Tb slot_tuple_index hp.typeIs F.entry_tuple_index ?_ (F.args_tuple_index_2 _ _);unfold Builtin.«tuple.index»;refine cv (wpAny_of_eq (a:=(Value.ref p,[Value.int k t])) rfl ?_)
 dsimp only
 have h:=hi.length;have c:ns.idxOf k<ns.length:=F1.mpr hk;have dq:=ma hi;unfold Builtin.Tuple.tupleItemsOf;refine cv (cv (Tq l v (gd (cv (gd (cv (gd (cv ?_))))))));rw[Std.Legacy.Range.forIn_eq_forIn_range'];have b:∀ (m i:Nat) (R:Option Fin × Unit->Shared->Prop),i+m=vs.length->i<=ns.idxOf k->R (some (.done (.ret (.int (ns.idxOf k:Nat) s.toks))),()) {s with toks:=s.toks+1}->
   wpAny (model prog w) A.in1 (forIn (List.range' i m) ((none,()):Option Fin × Unit) fun (i:Nat) __s=>
    match vs.toArray[i]? with
    | some y=>do
     let __do_lift<-eqBool y (Value.int k t)
     if __do_lift=true then do
       let __do_lift<-retInt ((i:Nat):Int)
       pure (ForInStep.done (some __do_lift,()))
      else pure (ForInStep.yield (none,()))
    | x=>pure (ForInStep.yield (none,()))) R E s:=by
  intro m
  induction m with
  | zero=>intro i R h1 r _;omega
  | succ m z=>
   intro i R h1 r j;obtain⟨u,hu⟩:=dq i (by omega)
   rw[List.range'_succ,forIn_cons];have d:vs.toArray[i]?=some (.int (ns.getD i 0) u):=by simpa using hu
   simp only[d];refine cv (cv (wpAny_eqBool_int ?_))
   by_cases e:i=ns.idxOf k
   ·have f:(ns.getD i 0 == k)=true:=by
     rw[e,b4,b5 c];show (ns[ns.idxOf k] == k)=true;rw[Td c,TJ]
    rw[f,if_pos rfl];unfold retInt;refine cv (cv (wpAny_mkInt (gd (gd (gd ?_)))));rw[e];exact j
   ·have f:(ns.getD i 0 == k)=false:=by
     rw[b4,b5 (by omega)]
     exact ne_of_lt_idxOf (show i<ns.idxOf k by omega) (by omega)
    rw[f,if_neg (by decide)]
    exact gd (z (i+1) R (by omega) (by omega) j)
 have g:(([: min vs.toArray.size vs.toArray.size]:Std.Legacy.Range)).size=vs.length:=by simp[Std.Legacy.Range.size]
 rw[g];exact b vs.length 0 _ (by omega) (zero_le _) (gd ⟨_,rfl,q _⟩)
def JI (K:Frag):V->List V->Hp->VK->Prop:=fun x a H Q=>∃ (l:Addr) (ns:List Int) (k:Int),x=.ref l/\a=[.int k]/\aH K H l (ns.map V.int)/\k∈ns/\Q (.int (ns.idxOf k:Nat)) H
theorem yG (hK:X.K=K):xx X "tuple.index" (JI K):=by
 subst hK;intro a s σ H x i v j Q I c f h;obtain⟨l,n,k,rfl,rfl,d,hk,q⟩:=h
 cases c
 obtain⟨u,rfl,e⟩:=f.one;obtain⟨t,rfl⟩:=e;obtain⟨b,r,g,hz⟩:=I.tuple d;exact lh (show s.heap.IsTuple l b.toArray from g) (intsAre_of r) hk (Q:=EP X a σ Q) fun m=>⟨.int _,H,I.tok _,⟨_,rfl⟩,q⟩
def Qr (K:Frag)(H0:Hp)(c g h:Addr)(L:List (Bool × List Nat))(i:Nat)(k:Nat)(σ:St)(H:Hp):Prop:=ah H0 H/\(∀ t,t<k->∀ x,L[t]?=some x->i∉x.2)/\∃ y1 y2 y3:Option V,σ=[some (.ref c),some (.ref g),some (.ref h),some (.int (i:Int)),y1,y2,y3]
variable {i0 j0:Nat}
theorem Qs {tb:TS}{D:Ends}{σ:St}(I:Nat->St->Hp->Prop)(h:aH K H a us)(hL:GL K H us L)(h0:I 0 σ H)(hl:∀ i σ H,I i σ H->aH K H a us/\GL K H us L)
  (step:∀ (i:Nat) g p σ H,L[i]?=some g->aH K H p ((az g.2).map V.int)->I i σ H->tb {D with nx:=I (i+1),ct:=I (i+1),bk:=D.nx} ((σ.set i0 (some (.str (kd g.1)))).set j0 (some (.ref p))) H)
  (fin:∀ σ H,I L.length σ H->D.nx σ H):∃ b,V.ref a=.ref b/\(∃ xs,aH K H b xs)/\mx (jZ K 2 (cJ (bx i0) (cJ (bx j0) jY))) tb D σ (Aa K b) H:=by
 refine⟨a,rfl,⟨_,h⟩,rQ (xs:=us) I h0 (fun i σ H _ p=>(hl i σ H p).1) (fun i x σ H e p=>?_) fun σ H p=>fin σ H (by rw[hL.length] at p;exact p)⟩
 obtain⟨g,r,d,c,rfl,j,f⟩:=(hl i σ H p).2.get e;exact⟨r,_,rfl,j,rfl,_,_,rfl,_,_,rfl,rfl,step i g d σ H c f p⟩
theorem yH (h:∀ t,t<L.length->∀ x,L[t]?=some x->i∉x.2):L.find? (fun g=>decide (i∈g.2))=none:=by
 rw[List.find?_eq_none];intro g b;obtain⟨t,a,e⟩:=BC b;rw[mo];exact h t a g (by rw[b5 a,e])
theorem yI {k:Nat}(h:∀ t,t<k->∀ x,L[t]?=some x->i∉x.2)(hk:L[k]?=some g)(hi:i∈g.2):L.find? (fun g=>decide (i∈g.2))=some g:=by
 induction L generalizing k with
 | nil=>simp at hk
 | cons a r b=>
  cases k with
  | zero=>
   simp at hk
   subst hk;rw[find?_cons,dt hi]
  | succ k=>
   have c:=h 0 (Nat.succ_pos k) a rfl;rw[find?_cons,ed c];exact b (k:=k) (fun t d x hx=>h (t+1) (by omega) x (by simpa using hx)) (by simpa using hk)
theorem JJ {cs hs:List Int}(hcs:cp cs)(hn:HN cs hs cs.length)(hl:∀ x∈l,x<cs.length):P6 (pk cs l) (pk hs l):=by
 refine⟨by rw[sS,sS],fun j hj=>?_⟩
 rw[sS] at hj;rw[NI hj];have hx:=hl _ (dX hj);have a:=hn.2 _ hx;exact(hcs.get hx).bt.of_le a.1 (by omega)
def vC (K:Frag)(H:Hp)(p:Addr):Prop:=(∃ o,K.lookup p=some o/\o.cls=.type "tuple"/\o.dict=none)∨∃ o u,H p=some (.jE o u)/\o.cls=.type "tuple"/\o.dict=none
theorem vC.mono (s:ah H H'):vC K H p->vC K H' p
 | .inl h=>.inl h
 | .inr ⟨o,u,h,c⟩=>.inr ⟨o,u,s _ _ h,c⟩
theorem vC.c5 {acc:Addr}{ys:List V}(ha:H acc=some (.lst ys)):vC K H p->vC K (upd H acc o) p
 | .inl h=>.inl h
 | .inr ⟨ob,u,h,c⟩=>.inr ⟨ob,u,by rw[aG (gj h ha fun z=>nomatch z)];exact h,c⟩
theorem NK {pins:List (Addr × Obj)}{σ:St}(I:Inv X pins σ H s)(ty:vC X.K H p):s.TypeIs (.ref p) "tuple"/\∀ a,Value.ref p=.ref a->∃ ob,s.heap.get? a=some ob/\ob.dict=none:=by
 rcases ty with ⟨o,hk,hc,b⟩ | ⟨o,u,hk,hc,b⟩
 ·refine⟨⟨o,I.uP p o hk,hc⟩,fun a e=>?_⟩
  cases e
  exact⟨o,I.uP _ o hk,b⟩
 ·obtain⟨c,_⟩:=I.br p _ hk;refine⟨⟨o,c,hc⟩,fun a e=>?_⟩
  cases e
  exact⟨o,c,b⟩
def NL (K:Frag)(r:V->List V->Hp->VK->Prop)(to:TE)(t:TA):TE:=fun σ H Q=>to σ H fun x H1=>(∃ p,x=.ref p/\vC K H1 p)/\t σ H1 fun b a=>r x b a Q
variable {r:V->List V->Hp->VK->Prop}
theorem Ly {to:TE}{σ:St} :NL K r to t σ H Q=to σ H fun x H1=>(∃ p,x=.ref p/\vC K H1 p)/\t σ H1 fun xs H2=>r x xs H2 Q:=rfl
variable {o:Expr}{es:List Expr}{to:TE}{name:Str}{apos c9:Pos}{id:String}
theorem NM (pa:PlainAttrs "tuple")(slot:Slot "tuple" name id)(hty:typeOf (.builtin id)=pure (.type "method_descriptor"))(hm:xx X id r)(ho:PE X o to)(ha:PA X (e::es) t)
  (eP:attributeBase o name X.env (eval o X.env)=eval o X.env:=by rfl)
  (hfew:((backTo c9 (starEach (e::es) X.env)).all (fun x=>!x.1)&&(backToKw c9 (keywordEach [] X.env)).all (fun x=>x.1.isSome)
   &&decide ((e::es).length+([]:List Keyword).length+(if ([]:List Keyword).isEmpty then 0 else 1)<30))=true:=by rfl)
  (eQ:(apos.endLine == c9.line)=true:=by rfl) (hs:starEach (e::es) X.env=(false,eval e X.env)::starEach es X.env:=by rfl) (hplain:(backTo c9 (starEach es X.env)).any (·.1)=false:=by rfl) :
  PE X (.Call (.Attribute o name apos) (e::es) [] c9) (NL X.K r to t):=by
 intro a s σ H Q I h;refine wpAny_Call_method_late eP hfew eQ rfl (bV (ho a s σ H _ I h) fun v w ⟨x,H1,c,y,⟨p,i,ty⟩,l⟩=>?_);subst i
 cases y
 obtain⟨h1,m⟩:=NK c ty;refine⟨"tuple",id,pa,slot,hty,h1,m,?_⟩;have b:=ha c9 a w σ H1 _ c l;rw[hs] at b ⊢;refine Calls.callWith_builtin (by show (false||(backTo c9 (starEach es X.env)).any (·.1))=false;rw[hplain]<;>rfl) (Calls.evalArgs_plain ?_)
 exact bV b fun j u ⟨d,q,n,f,g⟩=>hm a u σ q (.ref p) d (.ref p) j Q n rfl f g
theorem SK (pa:PlainAttrs "tuple")(slot:Slot "tuple" name id)(hty:typeOf (.builtin id)=pure (.type "method_descriptor"))(hm:xx X id r)(h:X.K=K)(ho:QE X o to)(ha:QB X (e::es) t)
  (eP:attributeBase o name X.env (eval o X.env)=eval o X.env:=by rfl) (hlen:decide ((e::es).length<30)=true:=by rfl)
  (eQ:(apos.endLine == c9.line)=true:=by rfl):QE X (.Call (.Attribute o name apos) (e::es) [] c9) (NL K r to t):=by
 subst h;exact⟨NM pa slot hty hm ho.h ha.h.pa eP (by rw[kZ ha.h.ns];exact hlen) eQ (ba ha.h.he) (de ha.h.EG)⟩
def Qt (K:Frag):List V->Hp->VK->Prop:=fun a H Q=>∃ p ys,a=[.ref p]/\ax K H p ys/\∀ l o,H l=none->o.cls=.type "tuple"->o.dict=none->Q (.ref l) (upd H l (.jE o (.tup ys)))
theorem gL (hK:X.K=K):bX X (.type "tuple") (Qt K):=by
 subst hK;intro a s σ H x v Q I r h;obtain⟨p,g,rfl,hq,q⟩:=h;obtain⟨u,rfl,l⟩:=vals1 r
 cases l
 obtain⟨c,f,t,hz⟩:=I.list hq;have j:=f.length;refine call_tuple_list t.isList (fun d n=>?_) (by simp only[List.size_toArray]<;>omega)
 have i:Inv X a σ H {s with heap:=d}:=I.kept (t':=s.toks) n;have m:Inv X a σ (upd H d.objs.size (.jE {cls:=.type "tuple",data:=.seq c.toArray} (.tup g))) {s with heap:=d.push {cls:=.type "tuple",data:=.seq c.toArray}}:=
  i.laid (t':=s.toks) (fun b o e=>ey _ e) (dy _) (show bS X.prog X.w _ _ _ (.jE _ (.tup g)) from ⟨j9 _ rfl,hz,c,f,IsTup.new _ _⟩)
 exact⟨.ref d.objs.size,_,m,rfl,q _ _ (i.br.fresh (dy _)) rfl rfl⟩
theorem aH.jE {K:Frag}{H:Hp}{a:Addr}{o:Obj}{xs:List V}(h:H a=some (.jE o (.tup xs))):aH K H a xs:=.inl (.inr ⟨o,h⟩)
def GF (K:Frag)(H:Hp):List V->List (Bool × List Nat)->Prop
 | [],[]=>True
 | v::a,g::L=>(∃ r p,v=.ref r/\aH K H r [.str (kd g.1),.ref p]/\aH K H p ((az g.2).map V.int)/\vC K H p)/\GF K H a L
 | _,_=>False
theorem GF.gl:∀ {vs:List V} {L:List (Bool × List Nat)},GF K H vs L->GL K H vs L
 | [],[],h=>h
 | _::_,_::_,⟨⟨r,p,e,h,a,_⟩,t⟩=>⟨⟨r,p,e,h,a⟩,GF.gl t⟩
 | [],_::_,h=>h.elim
 | _::_,[],h=>h.elim
theorem GF.mono (s:ah H H'):∀ {vs:List V} {L:List (Bool × List Nat)},GF K H vs L->GF K H' vs L
 | [],[],h=>h
 | _::_,_::_,⟨⟨r,p,e,h,b,a⟩,t⟩=>⟨⟨r,p,e,s.aL h,s.aL b,a.mono s⟩,GF.mono s t⟩
 | [],_::_,h=>h.elim
 | _::_,[],h=>h.elim
theorem GF.c5 {acc:Addr}{ys:List V}{o:HO}(ha:H acc=some (.lst ys)):∀ {vs:List V} {L:List (Bool × List Nat)},GF K H vs L->GF K (upd H acc o) vs L
 | [],[],h=>h
 | _::_,_::_,⟨⟨r,p,e,h,b,a⟩,t⟩=>⟨⟨r,p,e,h.c5 ha,b.c5 ha,a.c5 ha⟩,GF.c5 ha t⟩
 | [],_::_,h=>h.elim
 | _::_,[],h=>h.elim
theorem GF.append:∀ {vs ws:List V} {L M:List (Bool × List Nat)},GF K H vs L->GF K H ws M->GF K H (vs++ws) (L++M)
 | [],_,[],_,_,h=>h
 | _::_,_,_::_,_,⟨a,t⟩,h=>⟨a,GF.append t h⟩
 | [],_,_::_,_,h,_=>h.elim
 | _::_,_,[],_,h,_=>h.elim
theorem GF.length {vs:List V}{L:List (Bool × List Nat)}(h:GF K H vs L):vs.length=L.length:=h.gl.length
theorem GF.get:∀ {vs:List V} {L:List (Bool × List Nat)} {i:Nat} {v:V},GF K H vs L->vs[i]?=some v->∃ g r p,L[i]?=some g/\v=.ref r/\aH K H r [.str (kd g.1),.ref p]/\aH K H p ((az g.2).map V.int)/\vC K H p
 | [],[],i,v,_,e=>by simp at e
 | _::_,g::_,0,v,⟨⟨r,p,e,h,c⟩,_⟩,e2=>by simp at e2;subst e2;exact⟨g,r,p,rfl,e,h,c⟩
 | _::_,_::_,i+1,v,⟨_,t⟩,e2=>by
  obtain⟨g,r,p,a,b⟩:=GF.get (i:=i) (v:=v) t (by simpa using e2)
  exact⟨g,r,p,by simpa using a,b⟩
 | [],_::_,_,_,h,_=>h.elim
 | _::_,[],_,_,h,_=>h.elim
theorem NO {tb:TS}{D:Ends}{σ:St}(I:Nat->St->Hp->Prop)(h:aH K H a us)(hL:GF K H us L)(h0:I 0 σ H)(hl:∀ i σ H,I i σ H->aH K H a us/\GF K H us L)
  (step:∀ (i:Nat) g p σ H,L[i]?=some g->aH K H p ((az g.2).map V.int)->vC K H p->I i σ H->tb {D with nx:=I (i+1),ct:=I (i+1),bk:=D.nx} ((σ.set i0 (some (.str (kd g.1)))).set j0 (some (.ref p))) H)
  (fin:∀ σ H,I L.length σ H->D.nx σ H):∃ b,V.ref a=.ref b/\(∃ xs,aH K H b xs)/\mx (jZ K 2 (cJ (bx i0) (cJ (bx j0) jY))) tb D σ (Aa K b) H:=by
 refine⟨a,rfl,⟨_,h⟩,rQ (xs:=us) I h0 (fun i σ H _ p=>(hl i σ H p).1) (fun i x σ H e p=>?_) fun σ H p=>fin σ H (by rw[hL.length] at p;exact p)⟩
 obtain⟨g,r,d,c,rfl,j,f,l⟩:=(hl i σ H p).2.get e;exact⟨r,_,rfl,j,rfl,_,_,rfl,_,_,rfl,rfl,step i g d σ H c f l p⟩
def Qu (K:Frag):Sp:=fun a H Q _=>∃ (c g h:Addr) (cs hs:List Int) (ws:List Nat) (us:List V) (L:List (Bool × List Nat)) (i:Nat),a=[.ref c,.ref g,.ref h,.int i]/\aH K H c (cs.map V.int)/\aH K H g us/\GF K H us L/\aH K H h (hs.map V.int)/\cp cs/\HN cs hs cs.length/\yD cs ws L/\i<cs.length/\∀ (H':Hp),ah H H'->Q (.int (sT cs L hs i)) H'
theorem Lz:QE X (.Dict [] [] pos) ya:=⟨Es⟩
variable {i:Expr}{td ty:TE}
theorem Qv (hu:X.A.units+1<cLine)(hi:QE X i ty)(ho:QE X o td)(hm:behindInMarks .In o=false):QE X (.Compare i [.In] [o] pos) (I0 ty td):=⟨Ml (Ep hu hi.h ho.h) hm⟩
variable {value:Expr}{pos':Pos}{tv:TE}
theorem LA (hu:X.A.units+1<cLine)(hv:QE X value tv)(ho:QE X o td)(hi:QE X i ty)(hs:swapsWith value (some (.Subscript o i pos')) pos.line X.env=pure false:=by rfl):QS X (.Assign [.Subscript o i pos'] value pos) (Eo td ty tv):=⟨Jb hu ho.h hi.h hv.h hs⟩
variable {σ:St}
theorem FH:ya σ H Q=∀ p,H p=none->Q (.ref p) (upd H p (.dK [])):=rfl
theorem LB:I0 ty td σ H Q=ty σ H fun y H1=>td σ H1 fun x H2=>∃ a o,x=.ref a/\jB H2 a y o/\Q (.bl o.isSome) H2:=rfl
variable {D:Ends}
theorem FI:Eo td ty tv D σ H=tv σ H fun v H1=>td σ H1 fun x H2=>ty σ H2 fun y H3=>∃ a H4,x=.ref a/\sf H3 a y v H4/\D.nx σ H4:=rfl
theorem u1 (hu:X.A.units+64<cLine):X.A.units+1<cLine:=by omega
def FJ (H:Hp)(d:Addr)(ns:List Int):Prop:=∃ kvs:List (Key × V),H d=some (.dK kvs)/\kvs.length<=ns.length/\∀ k:Int,(cZ kvs (Sum.inl k)).isSome=decide (k∈ns)
variable {d:Addr}
theorem FJ.nil (h:H d=some (.dK [])):FJ H d []:=⟨[],h,dy _,fun k=>by rw[Ek];rfl⟩
theorem FJ.same {ns:List Int}(s:ah H H'):FJ H d ns->FJ H' d ns
 | ⟨a,h,l,v⟩=>⟨a,s _ _ h,l,v⟩
theorem NP {ns:List Int}{k:Int}(h:FJ H d ns)(q:Q (.bl (decide (k∈ns))) H):∃ a o,V.ref d=.ref a/\jB H a (.int k) o/\Q (.bl o.isSome) H:=by
 obtain⟨b,e,_,v⟩:=h;exact⟨d,_,rfl,jB.k (k:=Sum.inl k) e,by rw[v];exact q⟩
theorem FK (kvs:List (Key × V))(k:Key)(y:V):(putK kvs k y).length<=kvs.length+1:=by
 unfold putK
 split
 ·rw[cc];omega
 ·rw[eG];exact dy _
theorem JK {ns:List Int}{k:Int}{y:V}{Q:Hp->Prop}(h:FJ H d ns)(hl:ns.length<sizeLine)(q:∀ o,FJ (upd H d o) d (ns++[k])->Q (upd H d o)):∃ a H4,V.ref d=.ref a/\sf H a (.int k) y H4/\Q H4:=by
 obtain⟨b,e,l,v⟩:=h;refine⟨d,_,rfl,sf.k (k:=Sum.inl k) e (A6 l hl),q _ ⟨_,ag,?_,fun j=>?_⟩⟩
 ·rw[eG];exact h9 (FK _ _ _) (succ_le_succ l)
 ·rw[El]
  by_cases c:j=k
  ·subst c;rw[if_pos rfl]
   simp
  ·rw[if_neg (fun z=>c (Sum.inl.inj z)),v]
   congr 1
   simp[c]
theorem Qw {i:Nat}{tb:TS}{σ:St}(I:Nat->St->Hp->Prop)(h:aH K H a us)(h0:I 0 σ H)(hl:∀ i σ H,I i σ H->aH K H a us)
  (step:∀ k v σ H H2,us[k]?=some v->I k σ H->ah H H2->tb {D with nx:=I (k+1),ct:=I (k+1),bk:=D.nx} ((σ.set i (some (.int k))).set j (some v)) H2)
  (fin:∀ σ H,I us.length σ H->D.nx σ H):∃ b,[V.ref a]=[.ref b]/\(∃ xs,aH K H b xs)/\mx (jZ K 2 (cJ (bx i) (cJ (bx j) jY))) tb D σ (OM K b) H:=by
 refine⟨a,rfl,⟨_,h⟩,fun k m σ H=>m=us.length - k/\k<=us.length/\I k σ H,⟨us.length,by simp,zero_le _,h0⟩,?_⟩
 rintro k m σ H ⟨rfl,hk,p⟩;have q:=hl k σ H p
 by_cases c:k<us.length
 ·obtain⟨v,hx⟩:∃ v,us[k]?=some v:=⟨_,b5 c⟩;refine .inr ⟨⟨_,_,q,hx⟩,I (k+1),fun l f d=>⟨us.length - (k+1),by omega,rfl,c,d⟩,fun x f y=>?_⟩
  obtain⟨t,n,hn,rfl,rfl,g⟩:=y
  have:=g _ q
  rw[hx] at this;cases this
  refine⟨t,[.int k,v],rfl,aH.of ag,rfl,?_⟩;exact⟨_,_,rfl,_,_,rfl,rfl,step k v σ H _ hx p (ah.new hn _)⟩
 ·have e:k=us.length:=by omega
  subst e;exact .inl ⟨⟨_,q,dy _⟩,fin σ H p⟩
def nN (l:List Nat):Bool:=(List.range (l.length - 1)).all fun k=>decide (l.getD k 0<l.getD (k+1) 0)
theorem vD (h:nN l=true):l.Nodup:=by
 have a:∀ k,k+1<l.length->l.getD k 0<l.getD (k+1) 0:=fun k hk=>by
  have:=kb.mp h k (gc.mpr (by omega))
  simpa using this
 have lt:∀ d i,i+d+1<l.length->l.getD i 0<l.getD (i+d+1) 0:=by
  intro d
  induction d with
  | zero=>intro i hi;exact a i hi
  | succ d f=>intro i hi;exact Ti (f i (by omega)) (a (i+d+1) (by omega))
 rw[FB,List.pairwise_iff_getElem];intro i j hi hj c e
 have:=lt (j - i - 1) i (by omega)
 rw[show i+(j - i - 1)+1=j by omega,b4,b4,b5 hi,b5 hj] at this
 exact KE _ (by have b:l[i]<l[j]:=this;rw[e] at b;exact b)
def nats (ns:List Int):List Nat:=ns.map toNat
def Ie (n:Nat)(ns:List Int):Bool:=ns.all fun i=>decide (0<=i)&&decide (i<(n:Int))
theorem JL {n:Nat}{ns:List Int}(h:Ie n ns=true):ns=az (nats ns)/\∀ x∈nats ns,x<n:=by
 have hb:∀ i∈ns,0<=i/\i<(n:Int):=fun i hi=>by
  have:=kb.mp h i hi
  simpa using this
 refine⟨?_,fun x hx=>?_⟩
 ·unfold az nats;rw[kc]
  apply ext_getElem
  ·simp
  ·intro i h1 a
   have:=hb _ (p0 h1)
   simp
   omega
 ·obtain⟨i,hi,rfl⟩:=ih.mp hx
  have:=hb i hi
  omega
def Ck (cs:List Int)(ws:List Nat)(b:Bool)(l:List Nat):Bool:=if b then ju ws l&&l.all (fun x=>decide (cs.getD x 0=2)) else nN l&&bN ws l
def DC (cs:List Int)(ws:List Nat)(g:Bool × List Int):Bool:=decide (1<=g.2.length)&&(Ie cs.length g.2&&Ck cs ws g.1 (nats g.2))
def DE (cs:List Int)(ws:List Nat):List Int->Nat->List (Bool × List Int)->Option Nat
 | _,_,[]=>none
 | gone,k,g::r=>if (DC cs ws g&&!(g.2.any fun i=>decide (i∈gone)))=true then DE cs ws (gone++g.2) (k+1) r else some k
def oV:Option Nat->V
 | none=>.bE
 | some k=>.int (k:Int)
def GI (K:Frag)(H:Hp):List V->List (Bool × List Int)->Prop
 | [],[]=>True
 | v::a,g::L=>(∃ r p,v=.ref r/\aH K H r [.str (kd g.1),.ref p]/\aH K H p (g.2.map V.int))/\GI K H a L
 | _,_=>False
theorem GI.length:∀ {vs:List V} {L:List (Bool × List Int)},GI K H vs L->vs.length=L.length
 | [],[],_=>rfl
 | _::_,_::_,⟨_,t⟩=>by rw[qs,qs,GI.length t]
 | [],_::_,h=>h.elim
 | _::_,[],h=>h.elim
theorem GI.get:∀ {vs:List V} {L:List (Bool × List Int)} {i:Nat} {v:V},GI K H vs L->vs[i]?=some v->∃ g r p,L[i]?=some g/\v=.ref r/\aH K H r [.str (kd g.1),.ref p]/\aH K H p (g.2.map V.int)
 | [],[],i,v,_,e=>by simp at e
 | _::_,g::_,0,v,⟨⟨r,p,e,h,c⟩,_⟩,e2=>by simp at e2;subst e2;exact⟨g,r,p,rfl,e,h,c⟩
 | _::_,_::_,i+1,v,⟨_,t⟩,e2=>by
  obtain⟨g,r,p,a,b⟩:=GI.get (i:=i) (v:=v) t (by simpa using e2)
  exact⟨g,r,p,by simpa using a,b⟩
 | [],_::_,_,_,h,_=>h.elim
 | _::_,[],_,_,h,_=>h.elim
def AR (K:Frag):Sp:=fun a H Q _=>∃ (p:Addr) (l:List Nat),a=[.ref p]/\aH K H p ((az l).map V.int)/\1<=l.length/\l.length<=90/\∀ H',ah H H'->Q (.bl (nN l)) H'
def LC (K:Frag):Sp:=fun a H Q _=>∃ (c w p:Addr) (cs:List Int) (ws:List Nat) (g:Bool × List Int),a=[.ref c,.ref w,.str (kd g.1),.ref p]/\aH K H c (cs.map V.int)/\aH K H w ((az ws).map V.int)/\aH K H p (g.2.map V.int)/\ws.length=cs.length/\cs.length<=8/\g.2.length<=90/\∀ H',ah H H'->Q (.bl (DC cs ws g)) H'
def vE (K:Frag):Sp:=fun a H Q _=>∃ (c w g:Addr) (cs:List Int) (ws:List Nat) (us:List V) (L:List (Bool × List Int)),a=[.ref c,.ref w,.ref g]/\aH K H c (cs.map V.int)/\aH K H w ((az ws).map V.int)/\aH K H g us/\GI K H us L/\ws.length=cs.length/\cs.length<=8/\(∀ g∈L,g.2.length<=30)/\L.length<=30/\∀ H',ah H H'->Q (oV (DE cs ws [] 0 L)) H'
theorem FN (l:List Nat):nats (az l)=l:=by
 unfold nats az;rw[kc]
 conv=>rhs;rw[<-List.map_id l]
 apply TH
 intro x _;exact yx x
theorem md (L:List Nat):(List.range L.length).map (fun k=>L.getD k 0)=L:=by
 apply I3
 intro k
 by_cases hk:k<L.length
 ·rw[ek,vr hk,b5 hk];show some (L.getD k 0)=_;rw[b4,b5 hk];rfl
 ·rw[kf (by rw[cc,j6];omega),kf (by omega)]
theorem AS {σ:St}{R:It->Hp->Prop}:Ad t σ H R=t σ H fun vs H1=>∃ i j:Int,vs=[.int i,.int j]/\(-(2 ^ 62)<=i/\i<2 ^ 62/\-(2 ^ 62)<=j/\j<2 ^ 62)/\R (xE i (j - i).toNat) H1:=rfl
theorem LD {i j:Int}{lo n:Nat}{g:TG}{tb:TS}{σ:St}(I:Nat->St->Hp->Prop)(ei:i=(lo:Int))(ej:j=((lo+n:Nat):Int))(hn:lo+n<=1000000)(h0:I 0 σ H)
  (step:∀ k σ H,k<n->I k σ H->g (.int ((lo+k:Nat):Int)) σ H fun σ2 H2=>tb {D with nx:=I (k+1),ct:=I (k+1),bk:=D.nx} σ2 H2)
  (fin:∀ σ H,I n σ H->D.nx σ H):∃ i' j':Int,[V.int i,V.int j]=[.int i',.int j']/\(-(2 ^ 62)<=i'/\i' < 2 ^ 62/\-(2 ^ 62)<=j'/\j' < 2 ^ 62)/\mx g tb D σ (xE i' (j' - i').toNat) H:=by
 subst ei ej;refine⟨_,_,rfl,⟨by omega,by omega,by omega,by omega⟩,?_⟩
 rw[show (((lo+n:Nat):Int) - (lo:Int)).toNat=n by omega]
 refine qk (n:=n) I h0 (fun k σ H hk p=>?_) fun σ H p=>fin σ H p;rw[show (lo:Int)+(k:Nat)=((lo+k:Nat):Int) by omega]
 exact step k σ H hk p
variable {z:Str}
theorem qP {m:Made}{pins:List (Addr × Obj)}{σ:St}(I:Inv X pins σ H s)(hm:(∃ t,m=.val (.str z t))∨m=.str z)(hz:z.length<=sizeLine)(q:Q (.str z) H):m.post (EP X pins σ Q) s:=by
 rcases hm with ⟨t,rfl⟩ | rfl
 ·exact⟨.str z,H,I,⟨_,rfl⟩,q⟩
 ·exact⟨hz,.str z,H,I.tok _,⟨_,rfl⟩,q⟩
def Sn:V->Option Int->Option Int->Hp->VK->Prop:=fun x l u H Q=>∃ z,x=.str z/\(StrLaws.sliceText z l u).length<=sizeLine/\Q (.str (StrLaws.sliceText z l u)) H
theorem sV:MU X Sn:=by
 intro d s σ H x v n y b hi r Q I f i m g h;obtain⟨z,rfl,hz,q⟩:=h;obtain⟨t,rfl⟩:=f;refine⟨"str",_,slot_str_getitem.lookup,typeIs_str s z t,?_⟩;have a:∀ {w:Value} {o:Option Int},IsPart w o->∃ p:Option (Int × Tok),w=partValue p/\p.map (·.1)=o:=fun {w o} h=>by
  cases h with
  | none=>exact⟨none,rfl,rfl⟩
  | int=>exact⟨some (_,_),rfl,rfl⟩
 obtain⟨l,rfl,j⟩:=a m;obtain⟨u,rfl,hu⟩:=a g;refine wpAny_getItem_str_slice (st:=none) i rfl ?_;refine qP I ?_ hz q;have e:sliceMade z t l u none=if ((Builtin.Str.strSliceIndices b hi 1 z.length).length == z.length)=true then Made.val (Value.str z t) else Made.str ⟨((Builtin.Str.strSliceIndices b hi 1 z.length).filterMap (fun x=>z.cps[x]?)).toArray⟩:=by
  unfold sliceMade slicePicked;rw[j,hu]
  rfl
 have e2:StrLaws.sliceText z b hi=if ((Builtin.Str.strSliceIndices b hi 1 z.length).length == z.length)=true then z else ⟨((Builtin.Str.strSliceIndices b hi 1 z.length).filterMap (fun x=>z.cps[x]?)).toArray⟩:=by
  unfold StrLaws.sliceText
  rfl
 rw[e,e2]
 by_cases c:((Builtin.Str.strSliceIndices b hi 1 z.length).length == z.length)=true
 ·rw[if_pos c,if_pos c];exact .inl ⟨t,rfl⟩
 ·rw[if_neg c,if_neg c];exact .inr rfl
def Qx (z:Str):It:=⟨fun i _=>i<z.cps.size,fun i H x a=>a=H/\∃ c,z.cps[i]?=some c/\x=.str ⟨#[c]⟩,fun i _=>z.cps.size<=i⟩
def NQ (te:TE):TI:=fun σ H R=>te σ H fun x H1=>∃ z,x=.str z/\R (Qx z) H1
theorem qQ {P:Program}(hA:A.handled=none)(I:Addr)(x:Str)(t:Tok):Walks P w A I [I] [I] x.cps.size (SignAt x) fun i h=>h.IsStrIter I (strIterType x) x t i:=by
 unfold strIterType
 split
 ·exact Walks.strAscii hA I x t
 ·exact Walks.strWide hA I x t
variable {x:Str}{Q:Value->Shared->Prop}{t:Tok}
theorem FO {P:Program}{it:Addr}{i:Nat}(st:s.heap.IsStrIter it (strIterType x) x t i)(h:Q (.ref it) s):wpAny (model P w) A (pyIter (.ref it)) Q E s:=by
 unfold strIterType at st
 split at st
 ·exact wpAny_pyIter_striter_ascii st h
 ·exact wpAny_pyIter_striter_wide st h
theorem FP {P:Program}{tg:Expr}(z:Str)(t:Tok)(it:Addr):Turn P w K tg (Qx z) [it] it (fun i h=>i<=z.cps.size/\h.IsStrIter it (strIterType z) z t i) where
 mem:=by simp
 obj:=fun i h f b hb=>by
  have e:b=it:=by simpa using hb
  subst e;obtain⟨_,o,e,c,d⟩:=f;exact⟨o,e,fun v z=>by rw[d] at z;cases z⟩
 keep:=fun i h l f k=>by
  obtain⟨a,o,e,c,d⟩:=f;exact⟨a,o,k it (by simp) o e,c,d⟩
 item:=by
  intro X p r D hc i g s σ H E I n f m;subst p r D;obtain⟨B,y,L,q,x,J⟩:=n it (by simp)
  refine(qQ (I.ok.hd hc) it z t).item i s _ E m f.2 fun v l j N C G=>?_;obtain⟨c,u,F,rfl⟩:=N;have M:Inv X g σ H {s with heap:=l,toks:=j}:=I.turned (t':=j) (fun b o hb e=>G b o (by simpa using hb) e) B y q x J
  have go:∀ {Q:Unit->Shared->Prop},Q () {s with heap:=l,toks:=j}->wpAny (model X.prog X.w) X.A (letOwnedTupleGo tg (.ref it) (.str ⟨#[c]⟩ u)) Q E {s with heap:=l,toks:=j}:=fun hq=>by
   unfold letOwnedTupleGo
   cases tg<;>exact gd hq
  exact⟨_,rfl,go ⟨.str ⟨#[c]⟩,H,M,⟨_,rfl⟩,⟨rfl,c,F,rfl⟩,⟨m,C⟩,fun b hb=>(n b hb).1⟩⟩
 done:=by
  intro X p r D hc i g s σ H E I n f m;subst p r D;obtain⟨B,y,L,q,x,J⟩:=n it (by simp)
  have e:i=z.cps.size:=Nat.le_antisymm f.1 m;subst e;exact(qQ (I.ok.hd hc) it z t).done s _ E f.2 fun l j G=>⟨rfl,I.turned (t':=j) (fun b o hb e=>G b o (by simpa using hb) e) B y q x J⟩
 self:=fun A i s Q E f h=>FO f.2 h
variable {tg:Expr}
theorem JM (he:PE X e te):PI X tg e (NQ te):=by
 intro a s σ H R I h;refine bV (he a s σ H _ I h) fun v c ⟨x,H1,d,g,f⟩=>?_;obtain⟨z,rfl,q⟩:=f;obtain⟨t,rfl⟩:=g;refine wpAny_pyIter_strU ?_;refine⟨c.heap.objs.size,[c.heap.objs.size],_,_,H1,rfl,d.kept (t':=c.toks) fun b o e=>ey _ e,FP z t _,⟨zero_le _,_,j9 _ rfl,rfl,rfl⟩,fun b hb=>?_,q⟩;have e:b=c.heap.objs.size:=by simpa using hb
 subst e;exact d.uS (dy _) (d.br.fresh (dy _))
theorem FQ (he:QE X e te)(hK:X.K=K):QI X tg e (NQ te):=⟨JM he.h⟩
theorem FR {σ:St}{R:It->Hp->Prop}:NQ te σ H R=te σ H fun x H1=>∃ z,x=.str z/\R (Qx z) H1:=rfl
theorem vF {H1:Hp}:yc (Qx z) H1 z.cps.size fun i=>.str ⟨#[(z.cps[i]?).getD 0]⟩ where
 go:=fun i H _ hi=>hi
 stop:=fun i H _ hi=>hi
 BA:=fun i H x a _ _ y=>by
  obtain⟨rfl,c,e,rfl⟩:=y;exact⟨rfl,by rw[e];rfl⟩
def NR:V->List V->Hp->VK->Prop:=fun x a H Q=>∃ z y,x=.str z/\a=[.str y]/\y.length≠0/\z.length+2<=sizeLine/\(Txt.split z y).length<=sizeLine/\∀ l,H l=none->Q (.ref l) (upd H l (.lst ((Txt.split z y).map V.str)))
theorem qR:∀ (k:Nat) (l:List Str),Vals (l.map V.str) (strsFrom k l)
 | _,[]=>.nil
 | k,x::r=>.cons ⟨_,rfl⟩ (qR _ r)
theorem dH:xx X "str.split" NR:=by
 intro f s σ H x p v r Q I m n h;obtain⟨z,y,rfl,rfl,hy,hz,l,q⟩:=h;obtain⟨t,rfl⟩:=m;obtain⟨u,rfl,t',rfl⟩:=vals1 n;have d:(y.length == 0)=false:=by simpa using hy
 have one:Txt.split z y=[z]->EP X f σ Q (.ref s.heap.objs.size) {s with heap:=s.heap.push {cls:=.type "list",data:=.seq #[.str z t]}}:=fun e=>by
  rw[e] at q;exact⟨.ref _,_,I.laid (t':=s.toks) (fun b o i=>ey _ i) (dy _) (show bS X.prog X.w _ _ _ (.lst [V.str z]) from ⟨by show 1<=sizeLine;decide,[.str z t],0,.cons (show RelV (.str z) _ from ⟨t,rfl⟩) .nil,j9 _ rfl⟩),rfl,q _ (I.br.fresh (dy _))⟩
 by_cases a:(decide (z.length<y.length)||decide (Builtin.Str.strKind z<Builtin.Str.strKind y))=true
 ·refine Pi Tr (typeIs_str s z t) F.entry_str_split (F.args_str_split_2 _ _) (meets_str_split_cannot_occur z y t t' a) ?_;exact one (by unfold Txt.split;rw[if_pos a])
 ·have c:(decide (z.length<y.length)||decide (Builtin.Str.strKind z<Builtin.Str.strKind y))=false:=by simpa using a
  by_cases g:(Builtin.Str.occurrences z y 0 z.length (z.length+1)).isEmpty=true
  ·refine Pi Tr (typeIs_str s z t) F.entry_str_split (F.args_str_split_2 _ _) (meets_str_split_not_found z y t t' c d g) ?_;exact one (by unfold Txt.split;rw[if_neg a,if_pos g])
  ·have j:(Builtin.Str.occurrences z y 0 z.length (z.length+1)).isEmpty=false:=by simpa using g
   have e:Txt.split z y=Builtin.Str.partsBetween z (Builtin.Str.occurrences z y 0 z.length (z.length+1)) y.length:=by unfold Txt.split;rw[if_neg a,if_neg g]
   refine Pi Tr (typeIs_str s z t) F.entry_str_split (F.args_str_split_2 _ _) (meets_str_split_sep z y t t' c d j (by omega) (by rw[<-e];exact l)) ?_
   rw[<-e];exact⟨.ref _,_,I.laid (fun b o i=>ey _ i) (dy _) (show bS X.prog X.w _ _ _ (.lst _) from ⟨by rw[cc];exact l,_,0,qR _ _,j9 _ rfl⟩),rfl,q _ (I.br.fresh (dy _))⟩
def rJoin (K:Frag):V->List V->Hp->VK->Prop:=fun x a H Q=>∃ y p l,x=.str y/\a=[.ref p]/\ax K H p (l.map V.str)/\(l.map fun z=>z.length+y.length).sum<=sizeLine/\(y.join l).length<=sizeLine/\Q (.str (y.join l)) H
theorem lj:∀ {l:List Str} {us:List Value},Vals (l.map V.str) us->∃ m:List (Str × Tok),us=strValues m/\m.map (·.1)=l
 | [],_,.nil=>⟨[],rfl,rfl⟩
 | x::r,_,.cons ⟨t,rfl⟩ h=>by
  obtain⟨m,rfl,e⟩:=lj h;exact⟨(x,t)::m,rfl,by rw[oD,e]⟩
theorem qS (k:Nat):∀ (l:List Str) (a:Nat),l.foldl (fun x1 x2=>x1+x2.length+k) a=a+(l.map fun z=>z.length+k).sum
 | [],a=>by simp
 | x::r,a=>by rw[foldl_cons,qS k r,oD,Do];omega
theorem bH (hK:X.K=K):xx X "str.join" (rJoin K):=by
 subst hK;intro e s σ H x A v B Q I g o h;obtain⟨y,p,l,rfl,rfl,i,hz,hj,q⟩:=h;obtain⟨t,rfl⟩:=g;obtain⟨u,rfl,j⟩:=vals1 o
 cases j
 obtain⟨f,r,w,n⟩:=I.list i;obtain⟨m,rfl,d⟩:=lj r;refine Pi GM (typeIs_str s y t) F.entry_str_join (F.args_str_join_2 _ _) (meets_str_join_list y t p m ?_) ⟨w.isList,?_⟩
 ·rw[d,<-Array.foldl_toList,qS,Nat.zero_add,show l.toArray.toList=l from rfl]
  unfold Builtin.Str.tooLong;exact ed (by omega)
 ·refine qP I (z:=y.join l) ?_ hj q;unfold joinMade
  match m,d with
  | [],d=>exact .inr (by
    show Made.str (Builtin.Str.glued y [])=_;rw[StrLaws.glued_eq_join,<-d];rfl)
  | [a],d=>exact .inl ⟨a.2,by rw[<-d];rfl⟩
  | a::b::c,d=>exact .inr (by
    show Made.str (Builtin.Str.glued y ((a::b::c).map (·.1)))=_;rw[StrLaws.glued_eq_join,<-d])
def Qy:List V->Hp->VK->Prop:=fun a H Q=>∃ x n,a=[.str x]/\intText? x=some n/\x.length<=640/\Q (.int n) H
theorem gM:bX X (.type "int") Qy:=by
 intro a s σ H c b Q I r h;obtain⟨x,n,rfl,hx,hz,q⟩:=h;obtain⟨u,rfl,t,rfl⟩:=vals1 r;exact PySem.W.KIN.call_text hx hz ⟨.int n,H,I.tok _,⟨_,rfl⟩,q⟩
def pw (val:Nat->Str):Nat->Nat->(Str->Bool)->Nat->(Str->Bool) × Nat
 | 0,_,F,m=>(F,m)
 | k+1,i,F,m=>pw val k (i+1) (fun x=>F x||decide (x=val i)) (if F (val i)=true then m else m+1)
variable {R:Result->Shared->Prop}{I:Addr}{fp wr:List Addr}{G:Array GenState->Array GenState->Prop}{n:Nat}{P:Nat->Value->Prop}{St:Nat->Shared->Prop}
theorem sW (Wk:WalksS prog w A.in1 I fp wr G n P St)(S:Addr)(hS:S∉fp)(val:Nat->Str)(hv:∀ i v,P i v->∃ t,v=.str (val i) t)(hn:n+1<scanBound) :
  ∀ (k i:Nat) (s:Shared) (Fm:Str->Bool) (m:Nat),n - i=k->i<=n->m<=i->St i s->s.heap.SetOf (PySem.strKind prog w) S Fm m->
   (∀ s',Moved (S::wr) G s s'->s'.heap.SetOf (PySem.strKind prog w) S (pw val k i Fm m).1 (pw val k i Fm m).2->R (.ok (.ret .none)) s')->
   codeAny (model prog w) A (.builtin "set.update.loop" ⟨[.ref S,.ref I],[]⟩) R s:=by
 intro k
 induction k with
 | zero=>
  intro i s Fm m hk hi hm q l h;have e:i=n:=by omega
  subst e;refine codeAny_builtin F.entry_set_update_loop ?_;rw[Around.under_plainId F.plain_set_update_loop _];show wpAny _ A.in1 (pyNext (.ref I) >>= _) _ _ s;refine cv (Wk.done s _ _ q fun s' mv=>?_);refine gd ?_;refine h s' (mv.mono fun b hb=>eH _ hb) ?_;obtain⟨o,f,C,t,j,r⟩:=l;exact⟨o,f,C,t,mv.heap S o (fun z=>hS (Wk.sub S z)) j,r⟩
 | succ k L=>
  intro i s Fm m hk hi hm q l h;refine codeAny_builtin F.entry_set_update_loop ?_;rw[Around.under_plainId F.plain_set_update_loop _];show wpAny _ A.in1 (pyNext (.ref I) >>= _) _ _ s;refine cv (Wk.item i s _ _ (by omega) q fun v a K E c=>?_)
  obtain⟨t,rfl⟩:=hv i v K;have D:a.heap.SetOf (PySem.strKind prog w) S Fm m:=by
   obtain⟨o,f,C,t,j,r⟩:=l;exact⟨o,f,C,t,c.heap S o (fun z=>hS (Wk.sub S z)) j,r⟩
  have d:(PySem.strKind prog w).is (val i) (.str (val i) t)=true:=by
   show Value.isStrOf (val i) (.str (val i) t)=true
   simp[Value.isStrOf]
  show wpAny _ A.in1 (holding [.str (val i) t] (setAdd S (.str (val i) t)) >>= _) _ _ a;refine cv ?_;show wpAny _ A.in1 (setAdd S (.str (val i) t)) _ _ a;unfold setAdd;show wpAny _ A.in1 (pyHash (.str (val i) t) >>= fun x=>setAddHashed S (.str (val i) t) x) _ _ a;refine cv ((PySem.strKind prog w).pyHash d ?_);refine wpAny_setAddHashed_of (knd:=PySem.strKind prog w) (s:={a with toks:=a.toks+1}) d rfl D (by omega) fun H J p=>?_
  refine gd ⟨plainId_quiet F.plain_set_update_loop _,?_⟩;have y:Moved (S::wr) G a {a with heap:=H,toks:=a.toks+1}:=⟨fun b o hb e=>(J.2 b (fun z=>hb (by rw[z];exact fA))).trans e,Wk.grefl _,rfl,rfl,le_succ _⟩
  have B:=Wk.frame (i+1) a H (a.toks+1) E (le_succ _) fun b hb o e=>(J.2 b (fun z=>hS (by rw[<-z];exact hb))).trans e
  refine L (i+1) _ _ _ (by omega) (by omega) (by split<;>omega) B p fun s' g u=>?_
  exact h s' (Moved.trans Wk.gtrans (Moved.trans Wk.gtrans (c.mono fun b hb=>eH _ hb) y) g) u
theorem pz (val:Nat->Str)(hA:A.handled=none)(hp:s.heap.IsList p vs)(vl:∀ (i:Nat) (v:Value),vs[i]?=some v->∃ t,v=.str (val i) t)(hb:vs.size+1<scanBound)
  (h:∀ (h1:Heap) (k:Nat),h1.SetOf (PySem.strKind prog w) s.heap.objs.size (pw val vs.size 0 (fun _=>false) 0).1 (pw val vs.size 0 (fun _=>false) 0).2->(∀ b o,b<s.heap.objs.size->s.heap.get? b=some o->h1.get? b=some o)->Q (.ref s.heap.objs.size) {s with heap:=h1,toks:=k}) :
  wpAny (model prog w) A (call (.type "set") [.ref p]) Q E s:=by
 obtain⟨c0,t0,m0⟩:=E8.mro;have m1:=E8.made;have m2:=E8.sub;have m3:=E8.notType;have Y:=E8.canCreate;have m5:=F.typeCall_set_1 (.ref p);refine wpAny_call (codeAny_of_tree (show wpAny _ _ (callAny (.type "set") _) _ _ _ from gd ⟨Code.quiet_builtin _ (by decide +kernel),codeAny_builtin F.entry_type_call ?_⟩))
 rw[Around.under_plain (weight_type_call_type "set" [.ref p] []) rfl]
 repeat (any_goals (first | assumption | wp_step))
 refine TV (code_set_new_1 (.ref p) (E:=E) (Q₁:=fun o B=>∃ a:Bool,o=.ref s.heap.objs.size/\B={s with heap:=s.heap.push (ik a)}) fun a=>⟨a,rfl,rfl⟩) fun r B f=>?_
 cases r with
 | error e=>exact f
 | ok N=>
  cases N with
  | ret obj=>
   obtain⟨a,rfl,rfl⟩:=f;have D:(s.heap.push (ik a)).get? s.heap.objs.size=some (ik a):=j9 _ rfl;have I:Shared.TypeIs {s with heap:=s.heap.push (ik a)} (.ref s.heap.objs.size) "set":=⟨_,D,rfl⟩;have k3:=E8.init.lookup;have k4:=E8.init.bind (.ref s.heap.objs.size)
   repeat (any_goals (first | assumption | wp_step))
   refine TV (codeAny_call_builtin (R:=wants (fun r H=>r=.none/\∃ h1 k,H={s with heap:=h1,toks:=k}/\h1.SetOf (PySem.strKind prog w) s.heap.objs.size (pw val vs.size 0 (fun _=>false) 0).1 (pw val vs.size 0 (fun _=>false) 0).2/\
     (∀ b o,b<s.heap.objs.size->s.heap.get? b=some o->h1.get? b=some o)) E) E8.init.plain F.entry_set_init (check_set_init_1 I ?_)) fun T H j=>?_
   ·obtain⟨O,q,u,W,z⟩:=hp;obtain⟨u1,u2,Z,u4⟩:=O
    simp only at u z
    subst u;subst z;have P:=ey (ik a) q;have z1:=F.sub_list_set;have z2:=F.sub_list_frozenset;have z3:(Value.type "list" == Value.type "dict")=false:=by decide
    have C:(s.heap.push (ik a)).IsList p vs:=⟨_,P,rfl,W,rfl⟩;unfold Builtin.«set.__init__» noKeywords Builtin.Frozenset.updateFrom;generalize d:pyIter=PI
    wp_walk
    subst d;refine Tf C (cv (wpAny_runValue ?_));have G:p<s.heap.objs.size:=lt_size q;have X:A.in1.in1.in1.handled=none:=by simp[hA]
    have g:(s.heap.push (ik a)).objs.size=s.heap.objs.size+1:=Gc ..;have J:p≠(s.heap.push (ik a)).objs.size:=by rw[g];exact nt (TC G)
    have L:s.heap.objs.size∉[(s.heap.push (ik a)).objs.size,p]:=by
     rw[g];simp only[mem_cons,not_mem_nil,or_false,not_or];exact⟨nt (T3 _),TU G⟩
    refine sW ((Walks.list X _ p J vs).toS) s.heap.objs.size L val vl hb (vs.size - 0) 0 _ (fun _=>false) 0 (by omega) (zero_le _) (dy _) ⟨⟨_,j9 _ rfl,rfl,rfl⟩,(C.push _)⟩ ?x ?y
    case x=>
     exact SetOf_congr ((setObjOf_fresh (knd:=PySem.strKind prog w) a).setOf (ey _ D) (by unfold scanBound;omega)) (fun _=>rfl) rfl
    case y=>
     intro U hm c;obtain⟨h1,K,S,l,m⟩:=U;obtain rfl:K=s.gens:=hm.gens;obtain rfl:S=s.drawn:=hm.drawn;obtain rfl:m=s.os:=hm.os;show wpAny _ _ _ _ _ _;refine gd (show wpAny _ _ (ret Value.none) _ _ _ from gd ⟨rfl,h1,l,rfl,c,fun b o hb e=>?_⟩)
     refine hm.heap b o ?_ (ey _ (ey _ e));rw[g];simp only[mem_cons,not_mem_nil,or_false,not_or];exact⟨nt hb,nt (TC hb)⟩
   ·cases T with
    | error e=>exact j
    | ok M=>
     cases M with
     | ret r=>
      obtain⟨rfl,h1,k,rfl,c,n⟩:=j
      repeat (any_goals (first | assumption | wp_step))
      exact h _ _ c n
     | _=>exact j.elim
  | _=>exact f.elim
def vG (P:Program)(w:World)(a:Addr)(n:Nat):HO:=.ext fun h=>∃ Fm,h.SetOf (PySem.strKind P w) a Fm n
def sX (l:List Str):Nat:=(pw (fun i=>l.getD i ⟨#[]⟩) l.length 0 (fun _=>false) 0).2
theorem Cm (l:List Str):∀ (k i:Nat) (Fm:Str->Bool) (m:Nat),l.length - i=k->i<=l.length->(∀ x,Fm x=true↔x∈l.take i)->m<=i->(m=i↔(l.take i).Nodup)->(pw (fun i=>l.getD i ⟨#[]⟩) k i Fm m).2<=l.length/\((pw (fun i=>l.getD i ⟨#[]⟩) k i Fm m).2=l.length↔l.Nodup):=by
 intro k
 induction k with
 | zero=>
  intro i Fm m hk hi f hm hn;have e:i=l.length:=by omega
  subst e;rw[L3] at hn;exact⟨hm,hn⟩
 | succ k n=>
  intro i Fm m hk hi f hm hn;have d:i<l.length:=by omega
  have g:l.take (i+1)=l.take i++[l.getD i ⟨#[]⟩]:=by rw[take_succ,b5 d,b4,b5 d];rfl
  refine n (i+1) _ _ (by omega) (by omega) (fun x=>?_) ?_ ?_
  ·rw[g,ka,fz,SL,f x,mo]
  ·split<;>omega
  ·rw[g,Tw]
   by_cases c:Fm (l.getD i ⟨#[]⟩)=true
   ·rw[if_pos c]
    constructor
    ·intro e;omega
    ·intro h;exact absurd rfl (h.2.2 _ ((f _).mp c) _ (fz.mpr rfl))
   ·rw[if_neg c]
    constructor
    ·intro e;refine⟨hn.mp (by omega),by simp,fun a j b hb=>?_⟩
     rw[fz.mp hb];intro z;exact c ((f _).mpr (by rw[<-z];exact j))
    ·intro h
     have:=hn.mpr h.1
     omega
theorem JN (l:List Str):sX l<=l.length/\(sX l=l.length↔l.Nodup):=
 Cm l l.length 0 (fun _=>false) 0 (by omega) (zero_le _) (fun x=>by simp) (dy _) (by simp)
def JO (K:Frag):List V->Hp->VK->Prop:=fun b H Q=>∃ p l,b=[.ref p]/\ax K H p (l.map V.str)/\l.length<1000/\∀ (P:Program) (w:World) a,H a=none->Q (.ref a) (upd H a (vG P w a (sX l)))
theorem sY (hc:X.calm=true)(hK:X.K=K):bX X (.type "set") (JO K):=by
 subst hK;intro x s σ H M L Q I r h;obtain⟨p,l,rfl,hq,O,q⟩:=h;obtain⟨u,rfl,D⟩:=vals1 r
 cases D
 obtain⟨C,E,G,hz⟩:=I.list hq;obtain⟨m,rfl,A⟩:=lj E;have j:m.length=l.length:=by rw[<-A,cc]
 have d:(strValues m).toArray.size=l.length:=by rw[fO];unfold strValues;rw[cc,j]
 have y:(1001:Nat)<scanBound:=by decide
 refine pz (vs:=(strValues m).toArray) (fun i=>l.getD i ⟨#[]⟩) (I.ok.hd hc) G.isList (fun i v c=>?_) (by rw[d];omega) fun h1 k f F=>?_
 ·rw[List.getElem?_toArray] at c;unfold strValues at c;rw[ek] at c
  cases e:m[i]? with
  | none=>rw[e] at c;cases c
  | some a=>
   rw[e] at c
   cases c
   refine⟨a.2,?_⟩;rw[<-A,b4,ek,e];rfl
 ·rw[d] at f;refine⟨.ref _,_,I.laid (fun b o e=>F b o (lt_size e) e) (dy _) (show bS X.prog X.w _ h1 _ (vG X.prog X.w _ (sX l)) from ⟨⟨_,f⟩,?_,fun h1 N ⟨J,B⟩ k=>?_⟩),rfl,q X.prog X.w _ I.fresh⟩
  ·obtain⟨o,n,z,t,g,_⟩:=f;exact⟨o,g⟩
  ·obtain⟨o,n,z,t,g,r⟩:=B;exact⟨J,o,n,z,t,k o g,r⟩
def NT:List V->Hp->VK->Prop:=fun a H Q=>∃ p n P w,a=[.ref p]/\H p=some (vG P w p n)/\Q (.int n) H
theorem yJ:bX X (.builtin "len") NT:=by
 intro b s σ H m l Q I r h;obtain⟨p,n,P,w,rfl,g,q⟩:=h;obtain⟨u,rfl,e⟩:=vals1 r
 cases e
 obtain⟨⟨x,o,j,v,t,d,c,i,_,_,hb,f,hn⟩,_,_⟩:=I.br p _ g;have a:scanBound<2 ^ 62:=by decide
 refine PySem.call_len_set d c i f (by omega) ⟨.int n,H,I.tok _,⟨_,by rw[hn]⟩,q⟩
variable {G:List Str}
theorem Qz (S:Sc X N W G)(g:Nat)(h:∃ t,X.mg x=some (.str z t))(hg:G[g]?=some x:=by rfl):QE X (.Name x pos) (tC (.str z)):=by
 obtain⟨t,h⟩:=h;have q:=S.gl _ (h5 hg);exact⟨rM q.1 h ⟨t,rfl⟩ q.2.1⟩
theorem NU (S:Sc X N W G)(g:Nat){z:Int}(h:∃ t,X.mg x=some (.int z t))(hg:G[g]?=some x:=by rfl):QE X (.Name x pos) (tC (.int z)):=by
 obtain⟨t,h⟩:=h;have q:=S.gl _ (h5 hg);exact⟨rM q.1 h ⟨t,rfl⟩ q.2.1⟩
structure QA (K:Frag)(x qual:Str)(st:Stmt)(f:Addr)(fd:FuncData)(d:List Value):Prop where
 ex:∃ (oc:Value) (od:Option Addr) (T:Addr) (kV doc pm:Value) (an:Option Addr) (cX ct:Value) (osl:Array (Option Value)) (o:Obj) (n:Nat),
  fd=fnOf x qual (bB st) (aY st) (ak st) (.ref T) kV doc pm an cX ct/\K.lookup f=some ⟨oc,od,.func fd,osl⟩/\codeIn K cX qual=true/\K.lookup T=some o/\o.data=.seq d.toArray n
 kp:keepIn K (.ref f)=true
structure FU (K:Frag)(mg:Str->Option Value)(x:Str)(st:Stmt)(i:Int):Prop where
 ex:∃ f fd t,QA K x x st f fd [.int i t]/\mg x=some (.ref f)
variable {h:Heap}{i:Int}{st:Stmt}{f T:Addr}
theorem JP {mg:Str->Option Value}{o:Obj}{m:Nat}{oc:Value}{od an:Option Addr}{osl:Array (Option Value)}{kV doc pm cX ct:Value}(X:K.In h)(G:h.Ns mainGlobals mg)
  (a:nsIn K mainGlobals x=some (some (.ref f))) (l:K.lookup f=some ⟨oc,od,.func (fnOf x x (bB st) (aY st) (ak st) (.ref T) kV doc pm an cX ct),osl⟩)
  (c:codeIn K cX x=true) (k:keepIn K (.ref f)=true) (lt:K.lookup T=some o) (ld:o.data=.seq #[.int i t] m):FU K mg x st i:=
 ⟨f,_,t,⟨⟨oc,od,T,kV,doc,pm,an,cX,ct,osl,o,m,rfl,l,c,lt,ld⟩,k⟩,mg_of X G a⟩
def RP {α:Type}:List α->List α->List α
 | [a],[b]=>[a,b]
 | _,_=>[]
theorem FV {vs:List V}{us:List Value}{zs:List V}{ws:List Value}(h:Vals vs us)(k:Vals zs ws):Vals (RP vs zs) (RP us ws):=by
 cases h with
 | nil=>exact .nil
 | cons a t=>
  cases t with
  | cons _ _=>exact .nil
  | nil=>
   cases k with
   | nil=>exact .nil
   | cons b s=>
    cases s with
    | nil=>exact .cons a (.cons b .nil)
    | cons _ _=>exact .nil
structure RQ (P:Program)(w:World)(K:Frag)(mg:Str->Option Value)(base:Heap)(k:Nat)(x p1 p2:Str)(i:Int)(sp:Sp):Prop where
 ex:∃ f fd t,fj P w K mg base BW k f fd [p1,p2] sp/\mg x=some (.ref f)/\keepIn K (.ref f)=true/\Binds K fd [p1,p2] []/\Binds K fd [p1,p2] [.int i t]/\MR K fd [p1,p2] [p2] RP RP
variable {k:Nat}
def LF (x:Str)(st:Stmt)(p1 p2:Str):Prop:=∀ (T:Addr) (kV doc pm:Value) (an:Option Addr) (cX ct u v:Value),
 (∃ k,bindArgs (fnOf x x (bB st) (aY st) (ak st) (.ref T) kV doc pm an cX ct) ⟨[u],[]⟩=(seqItems? (.ref T) >>= k)/\∀ d,k (some #[d])=pure [(p1,u),(p2,d)])/\
 (∃ k,bindArgs (fnOf x x (bB st) (aY st) (ak st) (.ref T) kV doc pm an cX ct) ⟨[u,v],[]⟩=(seqItems? (.ref T) >>= k)/\∀ d,k (some #[d])=pure [(p1,u),(p2,v)])/\
 (∃ k,bindArgs (fnOf x x (bB st) (aY st) (ak st) (.ref T) kV doc pm an cX ct) ⟨[u],[(p2,v)]⟩=(seqItems? (.ref T) >>= k)/\∀ d,k (some #[d])=pure [(p1,u),(p2,v)])
variable {P:Program}{mg:Str->Option Value}{base:Heap}{p1 p2:Str}{sp:Sp}
theorem FU.gq (D:FU K mg x st i)(S:DS (ak st) N [p1,p2] G)(hb:LF x st p1 p2)
  (len:∀ vs H Q E,sp vs H Q E->vs.length=2)
  (eO:∀ (X:Cx),Sc X N N G->X.prog=P->X.w=w->X.K=K->X.mg=mg->X.base=base->X.calm=true->X.env.scope=ak st->X.xe=(fun _ _=>False)->cM k X.A->X.A.units+64<cLine->
   ∀ (H:Hp) (vs:List V) (Q:VK) (E:XK),sp vs H Q E->∃ t,B0 X (aY st) t/\t {nx:=fun _ H'=>Q .bE H',rt:=Q} (L2.start N vs) H):RQ P w K mg base (k+1) x p1 p2 i sp:=by
 obtain⟨f,M,t,F,hm⟩:=D.ex;obtain⟨R,O,T,kV,d,y,l,m,ct,L,o,n,rfl,J,p,lt,B⟩:=F.ex;refine⟨f,_,t,D6 J p S.fs len fun A z s H vs Q E I r=>?_,hm,F.kp,fun s c g e=>?_,fun s c g e=>?_,fun s c C g e=>?_,fun a b=>FV a b⟩
 ·obtain⟨t,h,q⟩:=eO _ S.cx rfl rfl rfl rfl rfl rfl rfl rfl I I.units H vs Q E r;exact⟨t,h.h.KS,q⟩
 ·rw[TB] at e ⊢
  match c,e with
  | [u,v],_=>
   obtain⟨k,j,e2⟩:=(hb T kV d y l m ct u v).2.1;exact binds_K g rfl lt B j (e2 _)
 ·obtain⟨u,rfl⟩:∃ u,c=[u]:=by
   rw[eG] at e
   have:c.length=1:=by simpa using e
   exact List.length_eq_one_iff.mp this
  obtain⟨k,j,e2⟩:=(hb T kV d y l m ct u u).1;exact binds_K g rfl lt B j (e2 _)
 ·obtain⟨u,v,rfl,rfl⟩:∃ u v,c=[u]/\C=[v]:=by
   match c,C,e with
   | [u],[v],_=>exact⟨u,v,rfl,rfl⟩
  obtain⟨k,j,e2⟩:=(hb T kV d y l m ct u v).2.2;exact binds_K g rfl lt B j (e2 _)
variable {m:Nat}{p:Pos}{e2:Expr}{t:TA}
theorem So (S:Sc X N W G)(g:Nat)(F:RQ X.prog X.w X.K X.mg X.base k x p1 p2 i sp)(hr:cM m X.A)(ha:QB X [e,e2] t)(hk:k<=m:=by decide)(hg:G[g]?=some x:=by rfl):QE X (.Call (.Name x p) [e,e2] [] pos) (qm sp [] E0 t):=by
 obtain⟨f,c,b,F,hm,a,hb,_⟩:=F.ex;have q:=S.gl _ (h5 hg);exact⟨Ak F (hr.mono hk) q.1 hm a hb .nil KZ ha.h.pa q.2.1 (ba ha.h.he) (de ha.h.EG)⟩
abbrev cz (x:Str):List Nat:=x.cps.toList
variable {b:Str}
theorem kr {a:Str}(h:cz a=cz b):a=b:=by
 obtain⟨a⟩:=a;obtain⟨b⟩:=b
 congr 1
 exact Array.toList_inj.mp h
theorem bW (a b:Str):cz (a++b)=cz a++cz b:=by show (a.cps++b.cps).toList=_;rw[Array.toList_append]
theorem aN (a:Str):a.length=(cz a).length:=by show a.cps.size=_;rw[Array.length_toList]
theorem FW (c:Nat):cz ⟨#[c]⟩=[c]:=rfl
theorem b6 (s x y:Str)(r:List Str):cz (s.join (x::y::r))=cz x++cz s++cz (s.join (y::r)):=by
 show cz (x++s++s.join (y::r))=_;rw[bW,bW]
theorem FX {c:Nat}:∀ {p p' q q':List Nat},c∉p->c∉p'->p++c::q=p'++c::q'->p=p'/\q=q'
 | [],[],_,_,_,_,e=>⟨rfl,(TY e).2⟩
 | [],a::p',_,_,_,d,e=>absurd (hU.mpr (.inl (TY e).1)) d
 | a::p,[],_,_,h,_,e=>absurd (hU.mpr (.inl (TY e).1.symm)) h
 | a::p,b::p',_,_,h,d,e=>by
  obtain⟨f,e2⟩:=TY e;obtain⟨i,g⟩:=FX (fun z=>h (eH _ z)) (fun z=>d (eH _ z)) e2;exact⟨by rw[f,i],g⟩
theorem vH (c:Nat):∀ {a b:List Str},a≠[]->b≠[]->(∀ x∈a,c∉cz x)->(∀ x∈b,c∉cz x)->cz (Str.join ⟨#[c]⟩ a)=cz (Str.join ⟨#[c]⟩ b)->a=b
 | [],_,h,_,_,_,_=>absurd rfl h
 | _::_,[],_,h,_,_,_=>absurd rfl h
 | [x],[y],_,_,_,_,e=>by rw[kr (show cz x=cz y from e)]
 | [x],y::z::r,_,_,d,_,e=>by
  rw[b6] at e;have e:cz x=cz y++[c]++_:=e;refine absurd ?_ (d x fA);rw[e];simp
 | x::y::r,[z],_,_,_,hb,e=>by
  rw[b6] at e;have e:cz x++[c]++_=cz z:=e;refine absurd ?_ (hb z fA);rw[<-e];simp
 | x::y::r,g::j::i,_,_,d,hb,e=>by
  rw[b6,b6,FW,ro,ro] at e;obtain⟨f,e2⟩:=FX (d x fA) (hb g fA) e;rw[kr f,vH c (by simp) (by simp) (fun x hx=>d x (eH _ hx)) (fun x hx=>hb x (eH _ hx)) e2]
theorem FY (x:Str)(c:Nat):Txt.split x ⟨#[c]⟩≠[]:=by
 unfold Txt.split
 split
 ·simp
 split
 ·simp
 ·unfold Builtin.Str.partsBetween
  cases Builtin.Str.occurrences x ⟨#[c]⟩ 0 x.length (x.length+1)<;>simp
variable {a:List Str}
theorem ee (c:Nat)(h:a≠[])(hf:∀ x∈a,c∉cz x):Txt.split (Str.join ⟨#[c]⟩ a) ⟨#[c]⟩=a:=
 vH c (FY _ c) h (fun p b=>StrLaws.split_free _ c p b) hf (by rw[StrLaws.join_split])
def ku:Str:="abcdefghijklmnopqrstuvwxyz"
def QC:Str:="0123456789"
def FZ (c:Nat):Bool:=decide (c∈cz ku)
def JQ (c:Nat):Bool:=decide (c∈cz QC)
def bI (x:Str):Bool:=decide (1<=x.length/\x.length<=12)&&(cz x).all FZ
def di (x:Str):Bool:=decide (1<=x.length/\x.length<=30)&&(decide ((cz x).getD 0 0≠48)&&(cz x).all JQ)
def vI (l:List Str):Bool:=decide (l.length=3)&&(decide (l.getD 0 ⟨#[]⟩="hat")&&(bI (l.getD 1 ⟨#[]⟩)&&di (l.getD 2 ⟨#[]⟩)))
def qT (l:List Str):Bool:=decide (3<=l.length)&&(decide (l.getD 0 ⟨#[]⟩="sees")&&(l.drop 1).all bI)
variable {c:Nat}
theorem AU (h:FZ c=true):c≠32/\c≠10:=by
 have a:=u5 h
 have:∀ c∈cz ku,c≠32/\c≠10:=by decide +kernel
 exact this c a
theorem nO:JQ c=true↔48<=c/\c<=57:=by
 unfold JQ;rw[Ts,show cz QC=List.range' 48 10 by decide +kernel,List.mem_range'_1]
 omega
theorem eg (h:bI x=true):32∉cz x/\10∉cz x:=by
 unfold bI at h;rw[gz,kb] at h;exact⟨fun z=>(AU (h.2 _ z)).1 rfl,fun z=>(AU (h.2 _ z)).2 rfl⟩
theorem iK (h:di x=true):32∉cz x/\10∉cz x:=by
 unfold di at h;rw[gz,gz,kb] at h;exact⟨fun z=>by have:=nO.mp (h.2.2 _ z);omega,fun z=>by have:=nO.mp (h.2.2 _ z);omega⟩
theorem vJ (n:Nat):cz (Str.ofString (toString ((n:Nat):Int)))=(toDigits 10 n).map Char.toNat:=by
 show (Str.ofString (toString (Int.ofNat n))).cps.toList=_;rw[text_ofNat n]
theorem vK:∀ (n:Nat),0<n->∃ c r,toDigits 10 n=c::r/\c≠'0':=by
 intro n
 induction n using Nat.strongRecOn with
 | _ n b=>
  intro h;rw[Nat.toDigits_eq_if (by decide)]
  by_cases c:n<10
  ·rw[if_pos c];refine⟨_,_,rfl,?_⟩
   have:∀ n,n<10->0<n->Nat.digitChar n≠'0':=by decide
   exact this n c h
  ·rw[if_neg c];obtain⟨d,r,e,a⟩:=b (n / 10) (by omega) (by omega)
   exact⟨d,r++[Nat.digitChar (n % 10)],by rw[e];rfl,a⟩
theorem dj (h0:0<n)(h30:n<10 ^ 30):di (Str.ofString (toString ((n:Nat):Int)))=true/\intText? (Str.ofString (toString ((n:Nat):Int)))=some (n:Int):=by
 have e:=vJ n;have a:∀ c∈(toDigits 10 n).map Char.toNat,48<=c/\c<=57:=fun c hc=>by
  obtain⟨d,a,rfl⟩:=ih.mp hc
  have:=Nat.isDigit_of_mem_toDigits (by decide) (by decide) a
  simp only[Char.isDigit,Bool.and_eq_true,decide_eq_true_eq] at this;exact this
 have h:(toDigits 10 n).length<=30:=(Nat.length_toDigits_le_iff (by decide) (by decide)).mpr h30
 have g:0<(toDigits 10 n).length:=Nat.length_toDigits_pos;obtain⟨c,r,f,hc⟩:=vK n h0
 constructor
 ·unfold di;rw[aN,e,cc,dt (show 1<=(toDigits 10 n).length/\(toDigits 10 n).length<=30 from ⟨g,h⟩),q7,gz]
  refine⟨dt ?_,kb.mpr fun c hc=>nO.mpr (a c hc)⟩;rw[f];show c.toNat≠48;intro z;exact hc (Char.toNat_inj.mp z)
 ·have b:(Str.ofString (toString ((n:Nat):Int))).cps.toList=(toDigits 10 n).map Char.toNat:=e;rw[intText_digits (by rw[b];exact a) (by rw[b,f];simp) (by rw[aN,e,cc];omega),b,PySem.W.KIN.val_back]
theorem bq:(Str.ofString " ")=⟨#[32]⟩:=by decide +kernel
theorem lp (c:Nat):∀ {l:List Str} {x:Str},x∈l->x.length<=(Str.join ⟨#[c]⟩ l).length
 | [y],x,h=>by rw[fz.mp h];exact dy _
 | y::z::r,x,h=>by
  have e:(Str.join ⟨#[c]⟩ (y::z::r)).length=y.length+1+(Str.join ⟨#[c]⟩ (z::r)).length:=by
   rw[aN,b6,eG,eG,<-aN,<-aN];rfl
  rcases hU.mp h with rfl | h
  ·omega
  ·have:=lp c h
   omega
theorem yK (h:x∈Txt.split z ⟨#[32]⟩):x.length<=z.length:=by
 have:=lp 32 h
 rw[StrLaws.join_split] at this;exact this
abbrev aW:Str:=⟨#[]⟩
def kx:Sp:=fun a H Q _=>∃ z:Str,a=[.str z]/\z.length<=1000000/\∀ H',ah H H'->Q (.bl (bI z)) H'
def lq:Sp:=fun a H Q _=>∃ z:Str,a=[.str z]/\z.length<=1000000/\∀ H',ah H H'->Q (.bl (di z)) H'
structure Ws (K:Frag)(H:Hp)(p:Addr)(l:List Str):Prop where
 sq:ax K H p (l.map V.str)
 eU:l.length<=900
 short:∀ x∈l,x.length<=1000000
def AV (K:Frag):Sp:=fun a H Q _=>∃ (p:Addr) (l:List Str),a=[.ref p]/\Ws K H p l/\∀ H',ah H H'->Q (.bl (vI l)) H'
def vL (K:Frag):Sp:=fun a H Q _=>∃ (p:Addr) (l:List Str),a=[.ref p]/\Ws K H p l/\∀ H',ah H H'->Q (.bl (qT l)) H'
def yL (K:Frag):Sp:=fun a H Q _=>∃ (z:Str) (i:Int) (l:List Str),a=[.str z,.int i]/\z.length<=1000000/\Txt.split z ⟨#[32]⟩=l/\l.length<=900/\
 ((vI l=true/\∃ c:Int,intText? (l.getD 2 aW)=some c/\∀ (t:Addr) (H':Hp),ah H H'->H' t=some (.tup [.str "hat",.str (l.getD 1 aW),.int c])->Q (.ref t) H')∨
  (vI l=false/\qT l=true/\(l.drop 1).Nodup/\∀ (t u:Addr) (H':Hp),ah H H'->H' t=some (.tup [.str "sees",.str (l.getD 1 aW),.ref u])->H' u=some (.tup ((l.drop 2).map V.str))->Q (.ref t) H'))
theorem mP (h:n<=1000000):n<=sizeLine:=h9 h (by decide)
variable {l:List Str}
theorem aQ {k:Nat}(h:k<l.length):(l.map V.str)[k]?=some (.str (l.getD k aW)):=by
 rw[ek,b5 h,b4,b5 h];rfl
theorem getD_memS {k:Nat}(h:k<l.length):l.getD k aW∈l:=by
 rw[b4,b5 h];exact p0 h
end L2
namespace L2
open PySem PySem.Spec PyProof.Rows
theorem Co (z:Str)(p:Nat->Bool):((List.range z.cps.size).map fun i=>p ((z.cps[i]?).getD 0)).all id=(cz z).all p:=by
 rw[P3];have e:cz z=(List.range z.cps.size).map fun i=>(z.cps[i]?).getD 0:=by
  apply I3
  intro i
  by_cases hi:i<z.cps.size
  ·rw[ek,vr hi,getElem?_toList,Array.getElem?_eq_getElem hi];show some z.cps[i]=some ((z.cps[i]?).getD 0);rw[Array.getElem?_eq_getElem hi];rfl
  ·rw[kf (by rw[Array.length_toList];omega),kf (by rw[cc,j6];omega)]
 rw[e,P3]
 rfl
variable {Q:VK}{y:Str}
theorem vM {K:Frag}{z:Str}{H:Hp}(hz:z.length<=1000000)(q:∀ H',ah H H'->Q (.bl ((cz z).all fun c=>decide (c∈cz y))) H') :
  sh (bx 0) hZ (xH (fun x y H Q=>∃ i j,x=V.str i/\y=V.str j/\Q (V.bl !(Builtin.Str.occurrences j i 0 j.length 1).isEmpty) H) (rK 0) (tC (.str y))) [none] (fun x H1=>Qi K [x] H1 Q) (Qx z) H:=by
 refine qI vF (fun _=>true) (fun i=>.bl (decide ((z.cps[i]?).getD 0∈cz y))) (A6 hz (by decide)) ?_ ?_
 ·intro i H1 A B hi f d _;simp only[gD,yl,kn,Ng,yd,Sb];refine⟨_,_,rfl,rfl,?_⟩;rw[StrLaws.found_one];exact d rfl _ (ah.refl _)
 ·intro b H1 hn e a;rw[bG] at a;refine⟨b,(List.range z.cps.size).map fun i=>decide ((z.cps[i]?).getD 0∈cz y),rfl,ax.of (by rw[a,kc];rfl),?_⟩
  rw[Co z fun c=>decide (c∈cz y)];exact q H1 e
theorem F0 (k:Str)(ns:List Str):KY (.str k) (ns.map V.str)=decide (k∈ns):=by
 induction ns with
 | nil=>simp[KY]
 | cons a r b=>
  unfold KY at b ⊢;rw[oD,any_cons,b]
  by_cases e:a=k
  ·subst e;simp[DA]
  ·have:¬ k=a:=fun z=>e z.symm
   simp[DA,e,this]
theorem nP {K:Frag}{neg:Bool}{H:Hp}{p:Addr}{k:Str}{a:List Str}(h:ax K H p (a.map V.str)∨aH K H p (a.map V.str))(q:Q (.bl (if neg then !decide (k∈a) else decide (k∈a))) H):OH K neg (.str k) (.ref p) H Q:=by
 refine⟨p,_,rfl,h,rfl,?_,?_⟩
 ·rw[P3];exact kb.mpr fun _ _=>rfl
 ·rw[F0];exact q
def gm (x:Str):Prop:=∀ c∈cz x,FZ c=true
theorem gm.append {a b:Str}(ha:gm a)(hb:gm b):gm (a++b):=fun c hc=>by
 rw[bW] at hc
 rcases ka.mp hc with z | z
 ·exact ha c z
 ·exact hb c z
theorem aD (a b:Str):(a++b).length=a.length+b.length:=by rw[aN,bW,eG,<-aN,<-aN]
theorem mQ {x:Str}(h:gm x)(h1:1<=x.length)(h2:x.length<=12):bI x=true:=by
 unfold bI;rw[dt (show 1<=x.length/\x.length<=12 from ⟨h1,h2⟩),q7]
 exact kb.mpr h
theorem dI {x:Str}(h:bI x=true):gm x/\1<=x.length/\x.length<=12:=by
 unfold bI at h;rw[gz,kb] at h;exact⟨h.2,(u5 h.1).1,(u5 h.1).2⟩
theorem vN {x:Str}{k:Nat}(h:k<=x.length):cz (StrLaws.sliceText x none (some (k:Int)))=(cz x).take k:=by
 have a:k<=x.cps.toList.length:=by rw[aN] at h;exact h
 rw[StrLaws.sliceText_to ⟨by omega,by omega⟩]
 show List.take ((k:Int) - 0).toNat (List.drop 0 _)=_;rw[drop_zero,show ((k:Int) - 0).toNat=k by omega]
theorem yM {x:Str}{k:Nat}(h:k<=x.length):cz (StrLaws.sliceText x (some (k:Int)) none)=(cz x).drop k:=by
 have a:k<=x.cps.toList.length:=by rw[aN] at h;exact h
 rw[StrLaws.sliceText_from ⟨by omega,by omega⟩]
 show List.take _ (List.drop ((k:Int)).toNat _)=_;rw[yx,DK (by rw[uF];omega)]
theorem yN {x:Str}{k:Nat}(h0:1<=k)(h:k<=x.length):cz (StrLaws.sliceText x (some (-(k:Int))) none)=(cz x).drop ((cz x).length - k):=by
 have e:=aN x;rw[StrLaws.sliceText_from_neg (by omega) (by omega)]
 show List.take _ (List.drop (-(k:Int)+(x.length:Nat)).toNat _)=_;rw[show (-(k:Int)+(x.length:Nat)).toNat=(cz x).length - k by omega,DK (by rw[uF];show (cz x).length - _<=(((cz x).length:Int) - _).toNat;omega)]
theorem vO {x:Str}{k:Nat}(h:gm x)(e:cz y=(cz x).take k):gm y:=fun c hc=>h c (mem_of_mem_take (by rw[<-e];exact hc))
theorem vP {x:Str}{k:Nat}(h:gm x)(e:cz y=(cz x).drop k):gm y:=fun c hc=>h c (mem_of_mem_drop (by rw[<-e];exact hc))
theorem JR {c:Nat}{i:Nat}(h:(cz ku)[i]?=some c):gm ⟨#[c]⟩:=fun d a=>by
 have e:d=c:=by simpa using a
 subst e;unfold FZ;exact dt (h5 h)
theorem Ga:(cz ku).length=26:=by decide +kernel
theorem Gb {i:Int}(h0:0<=i)(h1:i<26):∃ c,xW (cz ku) i=some c/\gm ⟨#[c]⟩:=by
 obtain⟨n,rfl⟩:=r3 h0;have hn:n<(cz ku).length:=by rw[Ga];omega
 refine⟨(cz ku).getD n 0,iD rfl 0 hn,JR (i:=n) ?_⟩;rw[b4,b5 hn];rfl
def iL:Sp:=fun a H Q _=>∃ (cell:Int) (n:Nat),a=[.int cell,.int n]/\n<=100/\∀ (l:Addr) (ns:List Int) (H':Hp),ah H H'->H l=none->H' l=some (.lst (ns.map V.int))->ns.length=n->(∀ x∈ns,0<=x)->Q (.ref l) H'
def QD (H0:Hp)(cell:Int)(n:Nat)(l:Addr)(k:Nat)(σ:St)(H:Hp):Prop:=∃ (num:Int) (ns:List Int) (y:Option V),σ=[some (.int cell),some (.int n),some (.int num),some (.ref l),y]/\ah H0 H/\H l=some (.lst (ns.map V.int))/\ns.length=k/\∀ x∈ns,0<=x
def AW:Sp:=fun a H Q _=>∃ (num:Int) (k:Nat),a=[.int num,.int k]/\k<=12/\∀ z:Str,z.length=k->gm z->Q (.str z) H
def QF (H0:Hp)(n:Nat)(k:Nat)(σ:St)(H:Hp):Prop:=∃ (num:Int) (z:Str) (y:Option V),σ=[some (.int num),some (.int n),some (.str ku),some (.str z),y]/\H=H0/\z.length=k/\gm z
structure Gd (ns:List Str)(n:Nat):Prop where
 eU:ns.length<=n
 nd:ns.Nodup
 nm:∀ x∈ns,bI x=true
def me:List Str:=["hat","sees","put","guess","right","ring","order","book","sure","share","groups","circle","hats"]
theorem Ge:∀ x∈me,bI x=true:=by decide +kernel
def QH (H0:Hp)(cell:Int)(n:Nat)(sm dr:Addr)(base:Str)(a:Nat)(l:Addr)(dn:List Int)(k:Nat)(σ:St)(H:Hp):Prop:=∃ (ns:List Str) (y1 y2 y3 y4:Option V),σ=[some (.int cell),some (.int n),some (.str ku),some (.ref sm),some (.ref dr),some (.str base),some (.int a),some (.ref l),y1,y2,y3,y4]/\ah H0 H/\H l=some (.lst (ns.map V.str))/\H sm=some (.lst (me.map V.str))/\H dr=some (.lst (dn.map V.int))/\Gd ns k/\(1<=k->ns≠[])
def vQ:Sp:=fun a H Q _=>∃ (cell:Int) (k:Int),a=[.int cell,.int k]/\∀ (c:Nat) (H':Hp),0<c->c<10 ^ 30->ah H H'->Q (.int (c:Int)) H'
theorem jf {K:Frag}{H:Hp}:∀ l:List Str,eZ K H (l.map V.str) (l.map PyData.str)
 | []=>.nil
 | x::r=>.cons (.str x) (jf r)
theorem jF:∀ l:List Str,PyData.depthAll (l.map PyData.str)<=1
 | []=>by simp[PyData.depthAll]
 | x::r=>by
  have:=jF r
  simp only[map_cons,PyData.depthAll,PyData.depth]
  omega
theorem NV {x:Str}(h:gm x):PyData.strOk x=true:=by
 show (x.cps.all fun x=>decide (x<1114112))=true;rw[<-all_toList,kb];intro c hc;have a:=u5 (h c hc)
 have:∀ c∈cz ku,c<1114112:=by decide +kernel
 exact dt (this c a)
theorem vR:∀ l:List Str,(∀ x∈l,gm x)->PyData.canLayAll0 (l.map PyData.str)=true
 | [],_=>by simp[PyData.canLayAll0]
 | x::r,h=>by simp[PyData.canLayAll0,PyData.canLay0,vR r fun x hx=>h x (mem_cons_of_mem _ hx),NV (h x mem_cons_self)]
theorem qU {d:PyData}(h1:PyData.canLay0 d=true)(h2:PyData.depth d<=64):shaped d=true:=by
 show (PyData.canLay0 d&&decide (PyData.depth d<=64))=true;rw[h1,dt h2];rfl
def NW (H:Hp)(f:Addr)(n:Str)(l:List Str):Prop:=∃ p,H f=some (.tup [.str "sees",.str n,.ref p])/\H p=some (.tup (l.map V.str))
def QK (H:Hp)(f:Addr)(n:Str)(c:Int):Prop:=H f=some (.tup [.str "hat",.str n,.int c])
abbrev jo (c:Nat):Str:=Str.ofString (toString ((c:Nat):Int))
structure Sq (l:List Str):Prop where
 two:2<=l.length
 eU:l.length<=40
 nd:l.Nodup
 nm:∀ x∈l,bI x=true
theorem nQ (c:Nat):∀ l:List Str,(Str.join ⟨#[c]⟩ l).length<=(l.map fun z=>z.length+1).sum
 | []=>by show (0:Nat)<=_;omega
 | [x]=>by show x.length<=(x.length+1)+0;omega
 | x::y::r=>by
  have a:=nQ c (y::r);have e:(Str.join ⟨#[c]⟩ (x::y::r)).length=x.length+1+(Str.join ⟨#[c]⟩ (y::r)).length:=by
   rw[aN,b6,eG,eG,<-aN,<-aN];rfl
  rw[e,oD,Do]
  omega
theorem eh (b:Nat):∀ l:List Str,(∀ x∈l,x.length<=b)->(l.map fun z=>z.length+1).sum<=l.length*(b+1)
 | [],_=>by simp
 | x::r,h=>by
  have a:=eh b r fun x hx=>h x (eH _ hx)
  have:=h x fA
  rw[oD,Do,qs,Nat.add_mul]
  omega
theorem gn {x:Str}(h:di x=true):x.length<=30:=by
 unfold di at h;rw[gz] at h;exact(u5 h.1).2
variable {n:Str}
theorem Cp {c:Nat}(hn:bI n=true)(h0:0<c)(h30:c<10 ^ 30):∀ x∈[Str.ofString "hat",n,jo c],32∉cz x/\10∉cz x/\x.length<=30:=by
 intro x hx;have h1:32∉cz (Str.ofString "hat")/\10∉cz (Str.ofString "hat")/\(Str.ofString "hat").length<=30:=by decide +kernel
 have b:=eg hn;have a:=(dj h0 h30).1
 rcases hU.mp hx with rfl | hx
 ·exact h1
 rcases hU.mp hx with rfl | hx
 ·exact⟨b.1,b.2,h9 (dI hn).2.2 (by decide)⟩
 rw[fz.mp hx];exact⟨(iK a).1,(iK a).2,gn a⟩
theorem yO {l:List Str}(h:∀ x∈l,bI x=true):∀ x∈(Str.ofString "sees"::l),32∉cz x/\10∉cz x/\x.length<=30:=by
 intro x hx;have h1:32∉cz (Str.ofString "sees")/\10∉cz (Str.ofString "sees")/\(Str.ofString "sees").length<=30:=by decide +kernel
 rcases hU.mp hx with rfl | hx
 ·exact h1
 ·exact⟨(eg (h x hx)).1,(eg (h x hx)).2,h9 (dI (h x hx)).2.2 (by decide)⟩
theorem NX {c:Nat}(hn:bI n=true)(h0:0<c)(h30:c<10 ^ 30):vI [Str.ofString "hat",n,jo c]=true:=by
 show (decide (3=3)&&(decide (Str.ofString "hat"=Str.ofString "hat")&&(bI n&&di (jo c))))=true;rw[hn,(dj h0 h30).1,dt (rfl:Str.ofString "hat"=Str.ofString "hat")];rfl
theorem Gf (l:List Str):vI (Str.ofString "sees"::l)=false:=by
 unfold vI;show (_&&(decide (Str.ofString "sees"=Str.ofString "hat")&&_))=false;rw[show decide (Str.ofString "sees"=Str.ofString "hat")=false by decide +kernel,tz,TL]
theorem JS {l:List Str}(h2:2<=l.length)(h:∀ x∈l,bI x=true):qT (Str.ofString "sees"::l)=true:=by
 unfold qT;show (decide (3<=l.length+1)&&(decide (Str.ofString "sees"=Str.ofString "sees")&&l.all bI))=true;rw[dt (show 3<=l.length+1 by omega),dt rfl,kb.mpr h];rfl
theorem ky (n c:Str):(((Str.ofString "hat "++n)++Str.ofString " ")++c)=Str.join ⟨#[32]⟩ [Str.ofString "hat",n,c]:=by
 apply kr
 rw[bW,bW,bW,b6,b6,show cz (Str.ofString "hat ")=cz (Str.ofString "hat")++[32] by decide +kernel,show cz (Str.ofString " ")=[32] by decide +kernel]
 show _=cz (Str.ofString "hat")++[32]++(cz n++[32]++cz c);simp only[List.append_assoc]
variable {prog:Program}{w:World}{κ:Type}{a:Addr}[DecidableEq κ]{knd:KeyKind prog w κ}
theorem Cq {h:Heap}{kvs:List (κ × Value)}(x:h.DictOf knd a kvs):∃ ep,h.DictAt knd a kvs ep:=by
 obtain⟨o,b,ep,r⟩:=x;exact⟨ep,o,b,r⟩
variable {A:Around}{E:Value->Shared->Prop}{s:Shared}{ep:Nat}
theorem jq {d:Addr}{kvs:List (κ × Value)}{Q₁:Value->Shared->Prop}(lo:(d == sysModules)=false)(hh:A.handled=none)(hd:s.heap.DictAt knd d kvs ep)(hn:kvs.length<=sizeLine)
  (h:∀ (h':Heap) (tk:Nat) (acc:Array Value),(∀ b o,s.heap.get? b=some o->h'.get? b=some o)->ItemsOf (fun i v=>∃ k x,kvs[i]?=some (k,x)/\knd.is k v=true) acc kvs.length->Q₁ (.ref h'.objs.size) {s with heap:=h'.push {cls:=.type "tuple",data:=.seq acc},toks:=tk}) :
  codeAny (model prog w) A (.call (.builtin "tuple.__new__") ⟨[.type "tuple",.ref d],[]⟩) (wants Q₁ E) s:=by
 refine codeAny_of_tree ?_;show wpAny _ A.in1 (do checkBuiltinCall "tuple.__new__" ⟨[.type "tuple",.ref d],[]⟩;again (.builtin "tuple.__new__" ⟨[.type "tuple",.ref d],[]⟩)) _ _ s
 refine cv (wpAny_of_eq (F.newCall_tuple_1 _) (gd ⟨plainId_quiet F.plain_tuple_new _,codeAny_builtin F.entry_tuple_new ?_⟩));rw[Around.under_plainId F.plain_tuple_new _];have g:=sub_tuple_self;have c:=init_tuple_lookup;have j:=madeHere_tuple;have f:=hd.dictOf.typeIs
 wp_walk using wpAny_typeOf f,PySem.W.kdu_collect (A:=A.in1) (PySem.W.kdl_dict (knd:=knd) (ep:=ep) lo) hh hd hn
 intro h' tk acc hm a;show wpAny _ _ (Builtin.Tuple.tupleExact acc.toList.toArray >>= fun v=>ret v) _ _ _;unfold Builtin.Tuple.tupleExact;refine cv (wpAny_newObj_type ?_ (by show acc.toList.toArray.size<=sizeLine;simp only[Array.toArray_toList];rw[a.1];exact hn))
 refine gd ?_;have e:acc.toList.toArray=acc:=by simp
 rw[e];exact h h' tk acc hm a
theorem mz {d:Addr}{kvs:List (κ × Value)}{Q:Value->Shared->Prop}(lo:(d == sysModules)=false)(hh:A.handled=none)(hd:s.heap.DictAt knd d kvs ep)(hn:kvs.length<=sizeLine)
  (h:∀ (h':Heap) (tk:Nat) (acc:Array Value),(∀ b o,s.heap.get? b=some o->h'.get? b=some o)->ItemsOf (fun i v=>∃ k x,kvs[i]?=some (k,x)/\knd.is k v=true) acc kvs.length->Q (.ref h'.objs.size) {s with heap:=h'.push {cls:=.type "tuple",data:=.seq acc},toks:=tk}) :
  wpAny (model prog w) A (call (.type "tuple") [.ref d]) Q E s:=by
 refine callType_codes (Q₁:=fun obj c=>c.TypeIs obj "tuple"/\Q obj c) F.called_tuple (F.typeCall_tuple_1 _) F.entry_object_init
  (jq lo hh hd hn fun h' tk acc hm a=>⟨⟨_,j9 _ rfl,rfl⟩,h h' tk acc hm a⟩) fun obj c e=>?_
 exact⟨e.1,F.args_object_init_2 obj _,object_init_meets F.called_tuple.init.lookup F.called_tuple.made (by decide) prog w A.in1 _ c ⟨e.1,rfl,e.2⟩⟩
variable {X:Cx}{o i:Expr}{pos:Pos}{td ty:TE}
theorem Gg (hu:X.A.units+1<cLine)(ho:QE X o td)(hi:QE X i ty)(hs:IZ i:=by intro _ _;rfl):QE X (.Subscript o i pos) (En td ty):=⟨Ja hu ho.h hi.h hs⟩
def LG:List V->Hp->VK->Prop:=fun b H Q=>∃ a kvs,b=[.ref a]/\H a=some (.dK kvs)/\Q (.int kvs.length) H
theorem qV:bX X (.builtin "len") LG:=by
 intro c s σ H j i Q I r h;obtain⟨a,b,rfl,e,q⟩:=h;obtain⟨u,rfl,d⟩:=vals1 r
 cases d
 exact Pd I (.inl e) fun t g f=>⟨.int b.length,H,f,⟨_,rfl⟩,q⟩
variable {u:Value}
theorem NY {P:Program}{i:Int}(h:(bT P w).is (Sum.inl i) u=true):RelV (.int i) u:=by
 rcases bL (show lQ (Sum.inl i) u=true from h) with ⟨j,t,e,rfl⟩ | ⟨x,t,e,rfl⟩
 ·cases e;exact⟨t,rfl⟩
 ·cases e
theorem NZ {P:Program}{x:Str}(h:(bT P w).is (Sum.inr x) u=true):RelV (.str x) u:=by
 rcases bL (show lQ (Sum.inr x) u=true from h) with ⟨j,t,e,rfl⟩ | ⟨y,t,e,rfl⟩
 ·cases e
 ·cases e;exact⟨t,rfl⟩
theorem qW {α β:Type}{F:α->β->Prop}:∀ {l₁:List α} {l₂:List β},l₁.length=l₂.length->(∀ (i:Nat) a b,l₁[i]?=some a->l₂[i]?=some b->F a b)->Paired F l₁ l₂
 | [],[],_,_=>.nil
 | a::l₁,b::l₂,e,h=>.cons (h 0 a b rfl rfl) (qW (Nat.succ.inj e) fun i a b h1 c=>h (i+1) a b h1 c)
theorem JT {P:Program}{k:Key}(h:(bT P w).is k u=true):RelV (kV k) u:=by
 cases k with
 | inl i=>exact NY h
 | inr x=>exact NZ h
theorem Cr {P:Program}{kvs:List (Key × V)}{vs:List (Key × Value)}{acc:Array Value}(rel:KV kvs vs)(h:ItemsOf (fun i v=>∃ k x,vs[i]?=some (k,x)/\(bT P w).is k v=true) acc vs.length):Vals (kvs.map fun p=>kV p.1) acc.toList:=by
 have hk:=rel.keys;have f:=rel.length;refine qW (by rw[cc,f,<-h.1];exact(Array.length_toList (xs:=acc)).symm) fun i a b h1 g=>?_
 obtain⟨k,x,e,hi⟩:=h.2 i b (by rw[<-getElem?_toList];exact g)
 rw[ek] at h1;obtain⟨p,d,rfl⟩:=Option.map_eq_some_iff.mp h1;have c:(kvs.map (·.1))[i]?=some p.1:=by rw[ek,d];rfl
 have e2:(vs.map (·.1))[i]?=some k:=by rw[ek,e];rfl
 rw[hk,e2] at c
 cases c
 exact JT hi
variable {H:Hp}{σ:St}
theorem Gh:En td ty σ H Q=td σ H fun x H1=>ty σ H1 fun y H2=>∃ a v,x=.ref a/\jB H2 a y (some v)/\Q v H2:=rfl
def JU (K:Frag)(a:Addr):It:=
 ⟨fun i H=>∃ xs x,ax K H a xs/\xs[i]?=some x,fun i H x b=>∃ p v,H p=none/\x=.ref p/\b=upd H p (.tup [.int i,v])/\∀ xs,ax K H a xs->xs[i]?=some v,fun i H=>∃ xs,ax K H a xs/\xs.length=i⟩
theorem yP {P:Program}{K:Frag}{elts:List Expr}{x1:Nat}{pos:Pos}(a e it:Addr)(hei:e≠it):Turn P w K (.Tuple elts x1 pos) (JU K a) [e,it] e (fun i h=>(∃ old,IsEnum h e it i old)/\h.IsListIter it a i) where
 mem:=by simp
 obj:=fun i h g b hb=>by
  obtain⟨⟨old,he⟩,o,eo,c,d⟩:=g
  rcases hU.mp hb with rfl | hb
  ·exact⟨_,he,fun v z=>by cases z⟩
  ·have:b=it:=by simpa using hb
   subst this;exact⟨o,eo,fun v z=>by rw[d] at z;cases z⟩
 keep:=fun i h h' g k=>by
  obtain⟨⟨old,he⟩,g⟩:=g;exact⟨⟨old,k e (by simp) _ he⟩,g.at fun o q=>k it (by simp) o q⟩
 item:=by
  intro X R U L hc i r s σ H E I D g G;subst R U L;obtain⟨xs,x,hq,hx⟩:=G;obtain⟨f,Y,J,hz⟩:=I.list hq;have p:=J.isList;obtain⟨u,hu,ru⟩:=Y.get hx;obtain⟨⟨old,he⟩,si⟩:=g;have l:a≠it:=fun z=>by
   subst z;obtain⟨Z,y,n,_⟩:=p;obtain⟨o2,t,A,_⟩:=si;rw[y] at t;cases t
   rw[n] at A;exact absurd A (by decide)
  have S:a≠e:=fun z=>by
   subst z;obtain⟨Z,y,n,_⟩:=p;have he:s.heap.get? a=some _:=he;rw[y] at he;cases he
   exact absurd (show Value.type "enumerate"=Value.type "list" from n) (by decide)
  have N:i<f.toArray.size:=by
   rw[fO];exact(o5.mp hu).1
  refine wpAny_pyNext_enum_itemD (Draws.list (by simpa using I.ok.hd hc) it a l f.toArray) he ⟨si,show s.heap.IsList a f.toArray from p⟩ N hei (by simp only[mem_cons,not_mem_nil,or_false,not_or];exact⟨hei,Ne.symm S⟩) fun v h1 tk hv ho Q ht hsz hk=>?_
  refine⟨_,rfl,wpAny_letOwnedTupleGo_enum ho fun h2 M j=>?_⟩;have B:e<s.heap.objs.size:=lt_size he;have ev:v=u:=by
   have C:f[i]?=some v:=by simpa using hv
   rw[hu] at C;cases C;rfl
  subst ev;refine⟨.ref s.heap.objs.size,upd H s.heap.objs.size (.tup [.int i,x]),I.lg (ch:=[e,it]) (fun b o hb q=>?_) D (dy _) (show bS X.prog X.w _ h2 _ (.tup _) from ⟨by show 2<=sizeLine;decide,[.int i tk,v],.cons ⟨_,rfl⟩ (.cons ru .nil),?_⟩),rfl,⟨_,x,I.fresh,rfl,rfl,fun ys hy=>by rw[I.ni hy hq];exact hx⟩,⟨⟨v,?_⟩,?_⟩,fun b hb=>?_⟩
  ·simp only[mem_cons,not_mem_nil,or_false,not_or] at hb;exact(j.2 b hb.1).trans (hk b o hb.1 hb.2 q)
  ·exact⟨_,(j.2 _ (TU B)).trans ht,rfl,_,rfl⟩
  ·have:=M
   rw[show ((i:Int)+1)=((i+1:Nat):Int) by omega] at this
   exact this
  ·exact Q.1.at fun o q=>(j.2 it (Ne.symm hei)).trans q
  ·rw[aG (fun z=>?_)]
   ·exact(D b hb).1
   ·obtain⟨_,W,_⟩:=si
    rcases hU.mp hb with rfl | hb
    ·exact absurd z (nt B)
    ·have:b=it:=by simpa using hb
     subst this;exact absurd z (nt (lt_size W))
 done:=by
  intro X R U L hc i r s σ H E I D g G;subst R U L;obtain⟨xs,hq,hx⟩:=G;obtain⟨f,Y,J,hz⟩:=I.list hq;have p:=J.isList;obtain⟨⟨old,he⟩,si⟩:=g;have l:a≠it:=fun z=>by
   subst z;obtain⟨Z,y,n,_⟩:=p;obtain⟨o2,t,A,_⟩:=si;rw[y] at t;cases t
   rw[n] at A;exact absurd A (by decide)
  have hl:=Y.length;have hT:s.TypeIs (.ref e) "enumerate":=⟨_,he,rfl⟩;unfold pyNext;refine cv (wpAny_attempt (On (name:=Str.ofString "__next__") hT F.slot_enumerate_next (Tb F.slot_enumerate_next hT F.entry_enumerate_next ?_ (F.args_enumerate_next_1 _))));refine cv (m:=field (.ref e) 2) (Tx he rfl (x:=.ref it) rfl (cv ((Draws.list (by simpa using I.ok.hd hc) it a l f.toArray).done _ _ _ ⟨by rw[fO,<-hl,hx];exact si,p⟩ fun h' x eb O=>?_)))
  obtain⟨o,q,c⟩:=O;refine cv (wpAny_isInstance (T:="StopIteration") (b:=true) ⟨o,q,c⟩ isSubtype_stop ?_);obtain⟨f0,f1,f2,f3,f4,f5⟩:=D it (by simp)
  exact gd ⟨rfl,I.turned (t':=s.toks) (fun b o hb z=>eb b o hb z) f0 f1 f3 f4 f5⟩
 self:=fun _ _ _ _ _ g h=>by
  obtain⟨⟨old,he⟩,_⟩:=g;exact wpAny_pyIter_enum he h
def N0 (K:Frag)(ta:TA):TI:=fun σ H R=>ta σ H fun b H1=>∃ a,b=[.ref a]/\(∃ xs,ax K H1 a xs)/\R (JU K a) H1
variable {N W G:List Str}{K:Frag}{e:Expr}{t:TA}{p tpos:Pos}{elts:List Expr}{x1:Nat}
theorem N1 (S:Sc X N W G)(g:Nat)(hm:X.mg "enumerate"=none)(hK:X.K=K)(ha:PB X [e] t)(hg:G[g]?=some "enumerate":=by rfl):PI X (.Tuple elts x1 tpos) (.Call (.Name "enumerate" p) [e] [] pos) (N0 K t):=by
 subst hK;intro f s σ H R I h;have q:=S.gl _ (h5 hg);refine Call_ (jA I q.1 hm boot_enumerate (F8 (bV (ha.pa pos f s σ H _ I h) fun A c ⟨y,H1,i,x,r⟩=>?_) (ba ha.he) rfl));obtain⟨a,rfl,⟨B,hq⟩,q⟩:=r;obtain⟨u,rfl,o⟩:=vals1 x
 cases o
 obtain⟨m,C,w,hz⟩:=i.list hq;refine call_enumerate_list w.isList fun z l n _ v=>?_;have j:c.heap.objs.size+1≠c.heap.objs.size:=Nat.succ_ne_self _;refine wpAny_pyIter_enum l ?_;refine⟨c.heap.objs.size+1,[c.heap.objs.size+1,c.heap.objs.size],_,_,H1,rfl,i.kept (t':=c.toks) v,yP a _ _ j,⟨⟨_,l⟩,n⟩,fun b hb=>?_,q⟩;have d:c.heap.objs.size<=b:=by
  rcases hU.mp hb with rfl | hb
  ·exact le_succ _
  ·have:b=c.heap.objs.size:=by simpa using hb
   rw[this];exact dy _
 exact i.uS d (i.br.fresh d)
theorem Sr (S:Sc X N W G)(g:Nat)(hm:X.mg "enumerate"=none)(hK:X.K=K)(ha:QB X [e] t)(hg:G[g]?=some "enumerate":=by rfl):QI X (.Tuple elts x1 tpos) (.Call (.Name "enumerate" p) [e] [] pos) (N0 K t):=⟨N1 S g hm hK ha.h hg⟩
variable {R:It->Hp->Prop}
theorem Gi {ta:TA}{σ:St} :N0 K ta σ H R=ta σ H fun vs H1=>∃ a,vs=[.ref a]/\(∃ xs,ax K H1 a xs)/\R (JU K a) H1:=rfl
theorem QL {us:List V}{i j:Nat}{tb:TS}{D:Ends}{σ:St}(I:Nat->St->Hp->Prop)(h:ax K H a us)(h0:I 0 σ H)(hl:∀ i σ H,I i σ H->ax K H a us)
  (step:∀ k v σ H H2,us[k]?=some v->I k σ H->ah H H2->tb {D with nx:=I (k+1),ct:=I (k+1),bk:=D.nx} ((σ.set i (some (.int k))).set j (some v)) H2)
  (fin:∀ σ H,I us.length σ H->D.nx σ H):∃ b,[V.ref a]=[.ref b]/\(∃ xs,ax K H b xs)/\mx (jZ K 2 (cJ (bx i) (cJ (bx j) jY))) tb D σ (JU K b) H:=by
 refine⟨a,rfl,⟨_,h⟩,fun k m σ H=>m=us.length - k/\k<=us.length/\I k σ H,⟨us.length,by simp,zero_le _,h0⟩,?_⟩
 rintro k m σ H ⟨rfl,hk,p⟩;have q:=hl k σ H p
 by_cases c:k<us.length
 ·obtain⟨v,hx⟩:∃ v,us[k]?=some v:=⟨_,b5 c⟩;refine .inr ⟨⟨_,_,q,hx⟩,I (k+1),fun l f d=>⟨us.length - (k+1),by omega,rfl,c,d⟩,fun x f y=>?_⟩
  obtain⟨t,n,hn,rfl,rfl,g⟩:=y
  have:=g _ q
  rw[hx] at this;cases this
  refine⟨t,[.int k,v],rfl,aH.of ag,rfl,?_⟩;exact⟨_,_,rfl,_,_,rfl,rfl,step k v σ H _ hx p (ah.new hn _)⟩
 ·have e:k=us.length:=by omega
  subst e;exact .inl ⟨⟨_,q,rfl⟩,fin σ H p⟩
theorem QM {pos:Pos}(hu:X.A.units+1<cLine)(hi:QE X i ty)(ho:QE X o td)(hm:behindInMarks .In o=false):QT X (.Compare i [.In] [o] pos) (tB (I0 ty td)):=⟨DJ (Ep hu hi.h ho.h) hm⟩
def nR:Nat->List Str->List (Key × V)
 | _,[]=>[]
 | k,x::r=>(Sum.inr x,.int (k:Int))::nR (k+1) r
theorem sZ:∀ (k:Nat) (ns:List Str),(nR k ns).length=ns.length
 | _,[]=>rfl
 | k,x::r=>by rw[nR,qs,sZ,qs]
theorem vS:∀ (k:Nat) (ns:List Str),(nR k ns).map (fun p=>kV p.1)=ns.map V.str
 | _,[]=>rfl
 | k,x::r=>by rw[nR,oD,vS,oD];rfl
theorem vT:∀ (k:Nat) (ns:List Str) (x:Str),nR k (ns++[x])=nR k ns++[(Sum.inr x,.int ((k+ns.length:Nat):Int))]
 | k,[],x=>rfl
 | k,y::r,x=>by
  rw[cons_append,nR,vT,nR,qs,show k+1+r.length=k+(r.length+1) by omega]
  rfl
theorem mR (x:Str):∀ (k:Nat) (ns:List Str),cZ (nR k ns) (Sum.inr x)=if x∈ns then some (.int ((k+ns.idxOf x:Nat):Int)) else none
 | _,[]=>rfl
 | k,y::r=>by
  rw[nR]
  by_cases e:y=x
  ·subst e;rw[cQ rfl,if_pos fA,List.idxOf_cons_self]
   rfl
  ·rw[cR (fun z=>e (Sum.inr.inj z)),mR x (k+1) r]
   by_cases m:x∈r
   ·have a:List.idxOf x (y::r)=List.idxOf x r+1:=by
     rw[idxOf_cons,show (y == x)=false from Dq.mpr e];rfl
    rw[if_pos m,if_pos (eH _ m),a,show k+1+List.idxOf x r=k+(List.idxOf x r+1) by omega]
   ·rw[if_neg m,if_neg (fun z=>(hU.mp z).elim (fun z=>e z.symm) m)]
def DN (H:Hp)(d:Addr)(ns:List Str):Prop:=H d=some (.dK (nR 0 ns))
variable {ns:List Str}
theorem vU {d:Addr}{x:Str}(h:DN H d ns)(m:x∈ns):jB H d (.str x) (some (.int (ns.idxOf x:Nat))):=by
 have:=jB.k (k:=Sum.inr x) h
 rw[mR,if_pos m,Nat.zero_add] at this;exact this
theorem N2 {d:Addr}{x:Str}(h:DN H d ns)(m:x∉ns):jB H d (.str x) none:=by
 have:=jB.k (k:=Sum.inr x) h
 rw[mR,if_neg m] at this;exact this
theorem Gj {Q:Hp->Prop}{d:Addr}{x:Str}{k:Int}(h:DN H d ns)(hk:k=(ns.length:Nat))(m:x∉ns)(hl:ns.length<sizeLine)(q:Q (upd H d (.dK (nR 0 (ns++[x]))))):∃ a H4,V.ref d=.ref a/\sf H a (.str x) (.int k) H4/\Q H4:=by
 subst hk;refine⟨d,_,rfl,sf.k (k:=Sum.inr x) h (by rw[sZ];exact hl),?_⟩
 rw[Em _ (by rw[mR,if_neg m]),show ((ns.length:Nat):Int)=((0+ns.length:Nat):Int) by rw[Nat.zero_add],<-vT]
 exact q
theorem vV {d:Addr}(h:DN H d ns)(q:Q (.int (ns.length:Nat)) H):LG [.ref d] H Q:=⟨d,_,rfl,h,by rw[sZ];exact q⟩
inductive Ln where
 | dq (n:Str) (c:Nat)
 | sees (n:Str) (l:List Str)
def kM:Ln->List Str
 | .dq n c=>[Str.ofString "hat",n,jo c]
 | .sees n l=>Str.ofString "sees"::n::l
def kN (x:Ln):Str:=Str.join ⟨#[32]⟩ (kM x)
def jG:Ln->Prop
 | .dq n c=>bI n=true/\0<c/\c<10 ^ 30
 | .sees n l=>Sq (n::l)
structure Bk where
 ns:List Str
 cs:List Nat
 ws:List Nat
def mf (ns l:List Str):Nat:=(l.map fun y=>2 ^ ns.idxOf y).sum
def jv (b:Bk):Ln->Option Bk
 | .dq n c=>if n∉b.ns/\b.ns.length<8 then some ⟨b.ns++[n],b.cs++[c],b.ws++[0]⟩ else none
 | .sees n l=>if n∈b.ns/\b.ws.getD (b.ns.idxOf n) 0=0/\∀ y∈l,y∈b.ns then some ⟨b.ns,b.cs,b.ws.set (b.ns.idxOf n) (mf b.ns l)⟩ else none
variable {b b2:Bk}
theorem Ct {c:Nat}(h:jv b (.dq n c)=some b2):n∉b.ns/\b.ns.length<8/\b2=⟨b.ns++[n],b.cs++[c],b.ws++[0]⟩:=by
 have h:(if n∉b.ns/\b.ns.length<8 then some (⟨b.ns++[n],b.cs++[c],b.ws++[0]⟩:Bk) else none)=some b2:=h
 by_cases a:n∉b.ns/\b.ns.length<8
 ·rw[if_pos a] at h;exact⟨a.1,a.2,(tx h).symm⟩
 ·rw[if_neg a] at h;cases h
theorem yQ {l:List Str}(h:jv b (.sees n l)=some b2):n∈b.ns/\b.ws.getD (b.ns.idxOf n) 0=0/\(∀ y∈l,y∈b.ns)/\b2=⟨b.ns,b.cs,b.ws.set (b.ns.idxOf n) (mf b.ns l)⟩:=by
 have h:(if n∈b.ns/\b.ws.getD (b.ns.idxOf n) 0=0/\∀ y∈l,y∈b.ns then some (⟨b.ns,b.cs,b.ws.set (b.ns.idxOf n) (mf b.ns l)⟩:Bk) else none)=some b2:=h
 by_cases a:n∈b.ns/\b.ws.getD (b.ns.idxOf n) 0=0/\∀ y∈l,y∈b.ns
 ·rw[if_pos a] at h;exact⟨a.1,a.2.1,a.2.2,(tx h).symm⟩
 ·rw[if_neg a] at h;cases h
def dw:Bk->List Ln->Option Bk
 | b,[]=>some b
 | b,x::r=>(jv b x).bind fun a=>dw a r
theorem gN:∀ (b:Bk) (l r:List Ln),dw b (l++r)=(dw b l).bind fun b'=>dw b' r
 | b,[],r=>rfl
 | b,x::l,r=>by
  rw[cons_append,dw,dw]
  cases jv b x with
  | none=>rfl
  | some b'=>exact gN b' l r
variable {x:Ln}{L:List Ln}
theorem yR {b0:Bk}{k:Nat}(h:dw b0 L=some b)(hx:L[k]?=some x):∃ b1 b2,dw b0 (L.take k)=some b1/\jv b1 x=some b2/\dw b0 (L.take (k+1))=some b2:=by
 have e:L=L.take k++x::L.drop (k+1):=by
  have hk:k<L.length:=(o5.mp hx).1
  have:=Tn k L
  rw[List.drop_eq_getElem_cons hk] at this;rw[(o5.mp hx).2] at this;exact this.symm
 rw[e,gN] at h
 cases h1:dw b0 (L.take k) with
 | none=>rw[h1] at h;cases h
 | some b1=>
  rw[h1] at h;have h:(jv b1 x).bind (fun a=>dw a (L.drop (k+1)))=some b:=h
  cases c:jv b1 x with
  | none=>rw[c] at h;cases h
  | some b2=>
   refine⟨b1,b2,rfl,c,?_⟩;rw[List.take_add_one,hx,Option.toList_some,gN,h1];show (jv b1 x).bind (fun a=>dw a [])=_;rw[c];rfl
theorem yS {α:Type}(g:Str->α)(l:List Str):((List.range l.length).map fun i=>g (l.getD i aW))=l.map g:=by
 apply I3
 intro i
 by_cases hi:i<l.length
 ·rw[ek,vr hi,ek,b5 hi];show some (g (l.getD i aW))=some (g l[i]);rw[b4,b5 hi];rfl
 ·rw[kf (by rw[cc,j6];omega),kf (by rw[cc];omega)]
theorem qX {α:Type}(f:α->Nat):∀ l:List α,(l.map fun i=>((f i:Nat):Int)).sum=((l.map f).sum:Nat)
 | []=>rfl
 | x::r=>by rw[oD,Do,qX f r,oD,Do];rfl
theorem Gk (ns l:List Str):((List.range l.length).map fun i=>((2 ^ ns.idxOf (l.getD i aW):Nat):Int)).sum=(mf ns l:Nat):=by
 rw[qX (fun i=>2 ^ ns.idxOf (l.getD i aW)),yS (fun y=>2 ^ ns.idxOf y)];rfl
theorem Gm (ws:List Nat)(i m:Nat):((az ws).map V.int).set i (.int (m:Int))=(az (ws.set i m)).map V.int:=by
 unfold az;rw[List.map_set,List.map_set]
theorem iM (ws:List Nat)(m:Nat):(az ws).map V.int++[.int (m:Int)]=(az (ws++[m])).map V.int:=by
 unfold az;rw[hO,hO];rfl
theorem gO (h:jG x):(∀ y∈kM x,32∉cz y/\10∉cz y/\y.length<=30)/\(kM x).length<=41/\3<=(kM x).length:=by
 cases x with
 | dq n c=>exact⟨Cp h.1 h.2.1 h.2.2,by show 3<=41;decide,dy 3⟩
 | sees n l=>exact⟨yO h.nm,succ_le_succ h.eU,succ_le_succ h.two⟩
theorem qY {c d:Nat}(hcd:d≠c):∀ {l:List Str},(∀ y∈l,d∉cz y)->d∉cz (Str.join ⟨#[c]⟩ l)
 | [],_=>by show d∉([]:List Nat);simp
 | [x],h=>h x fA
 | x::y::r,h=>by
  rw[b6];intro z
  rcases ka.mp z with z | z
  ·rcases ka.mp z with z | z
   ·exact h x fA z
   ·exact hcd (by simpa using z)
  ·exact qY hcd (fun y hy=>h y (eH _ hy)) z
theorem Gn (h:jG x):10∉cz (kN x):=qY (by decide) fun y hy=>((gO h).1 y hy).2.1
theorem fg (h:jG x):(kN x).length<=1271:=by
 have h1:=nQ 32 (kM x);have c:=eh 30 (kM x) fun y hy=>((gO h).1 y hy).2.2;have a:=(gO h).2.1;have b:(kM x).length*31<=41*31:=zS _ a;unfold kN
 omega
theorem JV (x:Ln):0<(kN x).length:=by
 cases x with
 | dq n c=>
  have e:(kN (.dq n c)).length=(cz (Str.join ⟨#[32]⟩ [Str.ofString "hat",n,jo c])).length:=aN _;rw[e,b6,eG,eG];show 0<_+1+_
  omega
 | sees n l=>
  have e:(kN (.sees n l)).length=(cz (Str.join ⟨#[32]⟩ (Str.ofString "sees"::n::l))).length:=aN _;rw[e,b6,eG,eG];show 0<_+1+_
  omega
def fk (L:List Ln):Str:=Str.join ⟨#[10]⟩ (L.map kN)
def kA (z:Str):List Str:=if z=Str.ofString "" then [] else Txt.split z ⟨#[10]⟩
theorem jH (h:∀ x∈L,jG x):kA (fk L)=L.map kN:=by
 cases L with
 | nil=>rfl
 | cons x r=>
  have a:0<(fk (x::r)).length:=by
   have h1:=lp 10 (l:=(x::r).map kN) (x:=kN x) (by simp)
   have b:=JV x;unfold fk
   omega
  unfold kA;rw[if_neg (fun z=>by rw[z] at a;exact absurd a (by decide +kernel))]
  exact ee 10 (by simp) fun y hy=>by
   obtain⟨u,hu,rfl⟩:=ih.mp hy;exact Gn (h u hu)
theorem fi (h:∀ x∈L,jG x)(hl:L.length<=100):(fk L).length<=127200:=by
 have h1:=nQ 10 (L.map kN);have a:=eh 1271 (L.map kN) fun y hy=>by
  obtain⟨u,hu,rfl⟩:=ih.mp hy;exact fg (h u hu)
 rw[cc] at a;have b:L.length*1272<=100*1272:=zS _ hl;unfold fk
 omega
def vW:Sp:=fun a H Q _=>∃ (d:Addr) (ns:List Str) (x:Str) (i:Int),a=[.ref d,.str x,.int i]/\DN H d ns/\x∉ns/\ns.length<8/\Q .bE (upd H d (.dK (nR 0 (ns++[x]))))
def nS (K:Frag):Sp:=fun a H Q _=>∃ (d w t:Addr) (ns l:List Str) (ws:List Nat) (x:Str) (i:Int),a=[.ref d,.ref w,.str x,.ref t,.int i]/\DN H d ns/\H w=some (.lst ((az ws).map V.int))/\ws.length=ns.length/\ns.length<=8/\x∈ns/\ws.getD (ns.idxOf x) 0=0/\H t=some (.tup (l.map V.str))/\(∀ y∈l,y∈ns)/\l.length<=40/\
 ∀ H1,ah H H1->Q .bE (upd H1 w (.lst ((az (ws.set (ns.idxOf x) (mf ns l))).map V.int)))
def yT:Sp:=fun a H Q _=>∃ z:Str,a=[.str z]/\z.length<=1000000/\(kA z).length<=900/\∀ l H',ah H H'->H l=none->H' l=some (.lst ((kA z).map V.str))->Q (.ref l) H'
structure SM (H:Hp)(d c w:Addr)(b:Bk):Prop where
 hd:DN H d b.ns
 hc:H c=some (.lst ((az b.cs).map V.int))
 hw:H w=some (.lst ((az b.ws).map V.int))
 lw:b.ws.length=b.ns.length
 lc:b.cs.length=b.ns.length
 eU:b.ns.length<=8
def QN (H0:Hp)(z:Str)(d c w r:Addr)(L:List Ln)(k:Nat)(σ:St)(H:Hp):Prop:=∃ (b:Bk) (y1 y2 y3:Option V),σ=[some (.str z),some (.ref d),some (.ref c),some (.ref w),y1,y2,y3]/\ah H0 H/\H r=some (.lst ((L.map kN).map V.str))/\dw ⟨[],[],[]⟩ (L.take k)=some b/\SM H d c w b
theorem JW {i:Int}{E:XK}(h:jG x)(q1:∀ n c f H',x=.dq n c->ah H H'->QK H' f n (c:Int)->Q (.ref f) H')(q2:∀ n l f H',x=.sees n l->ah H H'->NW H' f n l->Q (.ref f) H'):yL K [.str (kN x),.int i] H Q E:=by
 have e:=fg h;have a:=gO h;have d:Txt.split (kN x) ⟨#[32]⟩=kM x:=ee 32 (by intro z;rw[z] at a;exact absurd a.2.2 (by decide)) fun y hy=>(a.1 y hy).1
 refine⟨_,i,_,rfl,by omega,d,by omega,?_⟩
 cases x with
 | dq n c=>exact .inl ⟨NX h.1 h.2.1 h.2.2,c,(dj h.2.1 h.2.2).2,fun f H' s b=>q1 n c f H' rfl s b⟩
 | sees n l=>exact .inr ⟨Gf _,JS h.two h.nm,h.nd,fun f u H' s b hu=>q2 n l f H' rfl s ⟨u,b,hu⟩⟩
theorem LH {it t:Addr}{items:Array Value}(hne:t≠it):∀ (n i:Nat) (s:Shared) (Q:List Value->Shared->Prop),s.heap.IsListIter it t i->s.heap.IsList t items->i+n<=items.size->
  (∀ h',h'.IsListIter it t (i+n)->SameBut it s.heap h'->Q ((items.toList.drop i).take n) {s with heap:=h'})->wpAny (model prog w) A (draw (.ref it) n) Q E s
 | 0,i,s,Q,a,_,_,f=>by
  show wpAny _ _ (pure []) Q E s;exact gd (by simpa using f s.heap a (Heap.SameBut.refl ..))
 | n+1,i,s,Q,a,h,l,f=>by
  have d:i<items.size:=by omega
  show wpAny _ _ (pyNext (.ref it) >>= _) Q E s;refine cv (wpAny_pyNext_list_item a h (x:=items[i]) (by simp[d]) fun o b c=>?_)
  refine cv (Tz (LH hne n (i+1) _ _ b (h.extBut c.extBut hne) (by omega) fun j e g=>gd ?_))
  have m:items.toList.drop i=items[i]::items.toList.drop (i+1):=by simp[List.drop_eq_getElem_cons,d]
  have:=f j (by rw[show i+(n+1)=i+1+n by omega];exact e) (c.trans g)
  rw[m,List.take_succ_cons] at this;exact this
variable {t:Addr}
theorem tf {items:Array Value}{Q:List Value->Shared->Prop}(hh:A.handled=none)(ht:s.heap.IsList t items)
  (hQ:∀ h',ExtBut s.heap.objs.size s.heap h'->Q items.toList {s with heap:=h'}):wpAny (model prog w) A (unpackItems (.ref t) items.size none) Q E s:=by
 have c:t≠s.heap.objs.size:=by obtain⟨o,l,_⟩:=ht;exact nt (lt_size l)
 unfold unpackItems;refine cv ?_
 ·unfold notIterableAtAll;refine cv (wpAny_specialOf ht.typeIs F.slot_list_iter.lookup ?_);refine gd ?_;simp only[Bool.false_eq_true,if_false];refine cv (Tz (Tf ht ?_));refine cv (Tz (LH c items.size 0 _ _ ⟨_,j9 _ rfl,rfl,rfl⟩ (ht.push _) (by omega) fun j d a=>?_))
  have i:List.take items.size (List.drop 0 items.toList)=items.toList:=by
   rw[drop_zero];exact DK (by simp)
  rw[i];rw[if_neg (by simp)]
  have f:j.IsList t items:=(ht.push _).extBut a.extBut c;refine cv (Tz (wpAny_pyNext_list_end hh d f (by simp) fun h g=>?_))
  simp only[isSome_none,Bool.false_eq_true,if_false];refine gd (hQ h fun b o hb e=>g b o hb (a.extBut b o hb (ey _ e)))
theorem JX {env:Env}{x1}{pos:Pos}{items:Array Value}{Q:Unit->Shared->Prop}(hh:A.handled=none)(ht:s.heap.IsList t items)
  (hn:(assignEach elts env).length=items.size) (hstar:(assignEach elts env).findIdx? (·.1)=none)
  (h:∀ h',ExtBut s.heap.objs.size s.heap h'->wpAny (model prog w) A (assignInOrder ((assignEach elts env).map (·.2)) items.toList) Q E {s with heap:=h'}) :
  wpAny (model prog w) A (assign (.Tuple elts x1 pos) env (.ref t)) Q E s:=by
 rw[assign_Tuple];refine cv (wpAny_standAt ?_);unfold unpack;rw[hn,hstar];exact cv (Tz (tf hh ht h))
def N3 (K:Frag)(n:Nat)(t:zZ):TG:=fun v σ H Q=>∃ a xs,v=.ref a/\ax K H a xs/\xs.length=n/\t xs σ H Q
variable {t:zZ}{n:Nat}
theorem N4 {es:List Expr}{k:Nat}(hc:X.calm=true)(h:OG X es t)
  (hn:(assignEach es X.env).length=n:=by rfl) (hst:(assignEach es X.env).findIdx? (·.1)=none:=by rfl):PG X (.Tuple es k pos) (N3 X.K n t):=by
 intro c s σ H v u Q I r d;obtain⟨a,l,g,hq,q,d⟩:=d;subst g
 cases r
 obtain⟨i,f,p,hz⟩:=I.list hq;refine JX (I.ok.hd hc) p.isList (by simp[hn,<-q,f.length]) hst fun j hx=>?_
 have m:Inv X c σ H {s with heap:=j}:=I.kept (t':=s.toks) fun b o e=>hx b o (nt (lt_size e)) e;exact h c _ σ H l _ Q m (by simpa using f) d
theorem Gp {es:List Expr}{kk:Nat}{tgs:zZ}(hc:X.calm=true)(hK:X.K=K)(h:PM X es tgs)(hn:(assignEach es X.env).length=n:=by rfl)(hst:(assignEach es X.env).findIdx? (·.1)=none:=by rfl):QG X (.Tuple es kk pos) (N3 K n tgs):=⟨by subst hK;exact N4 hc h.h hn hst⟩
theorem Gq {v:V}{σ:St}{Q:St->Hp->Prop}:N3 K n t v σ H Q=∃ a xs,v=.ref a/\ax K H a xs/\xs.length=n/\t xs σ H Q:=rfl
def dz {α:Type}(l:List α)(k:Nat)(x:α):List α:=l.take k++x::l.drop k
def JY:V->List V->Hp->VK->Prop:=fun x a H Q=>∃ (l:Addr) (xs:List V) (k:Nat) (y:V),x=.ref l/\a=[.int (k:Int),y]/\H l=some (.lst xs)/\xs.length<1000000/\k<=xs.length/\Q .bE (upd H l (.lst (dz xs k y)))
theorem JZ {x y:V}{us:List Value}(r:Vals [x,y] us):∃ u v,us=[u,v]/\RelV x u/\RelV y v:=by
 cases r with
 | cons a r=>cases r with
  | cons b r=>cases r;exact⟨_,_,rfl,a,b⟩
theorem Gr {k:Nat}(h:k<=1000000):¬(!Builtin.List.listFitsIndex (k:Int))=true:=by
 have:Builtin.List.listFitsIndex (k:Int)=true:=by
  unfold Builtin.List.listFitsIndex;rw[gz];have a:(2:Int) ^ 63=9223372036854775808:=by decide
  exact⟨dt (by rw[a];omega),dt (by rw[a];omega)⟩
 rw[this];decide
theorem AX {α β:Type}{F:α->β->Prop}{a:α}{b:β}:∀ {l₁:List α} {l₂:List β} (k:Nat),Paired F l₁ l₂->F a b->Paired F (dz l₁ k a) (dz l₂ k b)
 | _,_,0,r,h=>.cons h r
 | [],_,k+1,.nil,h=>.cons h .nil
 | _::_,_::_,k+1,.cons c r,h=>.cons c (AX k r h)
theorem Cu:R8 X "list.insert" JY:=by
 intro i s σ H x D v A Q I m p h;obtain⟨l,B,k,y,rfl,rfl,g,hz,hk,q⟩:=h
 cases m
 obtain⟨u,w,rfl,⟨t,rfl⟩,f⟩:=JZ p;obtain⟨z,a,n,r,C,e⟩:=I.IU g;have j:=r.length;have o:(1000002:Nat)<=sizeLine:=by decide
 have d:a.toArray.size<=sizeLine:=by rw[fO];omega
 have b:=Gr (k:=k) (by omega)
 generalize c:(k:Int)=ki at b ⊢;have M:=PySem.AutoSeq1.list_insert_list_int_val_1 l a.toArray n ki t w b d;refine Pi F.slot_list_insert ⟨_,e,rfl⟩ F.entry_list_insert (F.args_list_insert_3 _ _ _) M ⟨e,?_⟩;refine⟨.bE,_,I.M5 (its':=dz a k w) g e ?_ (AX k r f) ?_,rfl,q⟩
 ·subst c;show (a.toArray.extract 0 (if (k:Int)<0 then ((k:Int)+(a.toArray.size:Int)).toNat else min (k:Int).toNat a.toArray.size)).push w++a.toArray.extract (if (k:Int)<0 then ((k:Int)+(a.toArray.size:Int)).toNat else min (k:Int).toNat a.toArray.size)=_
  rw[if_neg (by omega),yx,fO,Nat.min_eq_left (by omega)]
  apply Array.toList_inj.mp
  simp[dz]
  exact DK (by rw[uF];omega)
 ·unfold dz;rw[eG,qs,wh,uF]
  omega
def isStr (k:Str):Value->Bool
 | .str x _=>x == k
 | _=>false
theorem nT (k:Str):∀ {xs:List Str} {vs:List Value},Vals (xs.map V.str) vs->∀ (j:Nat) (h1:j<vs.length) (h2:j<xs.length),isStr k vs[j]=(xs[j] == k)
 | x::xs,_,.cons ⟨t,rfl⟩ r,0,_,_=>rfl
 | x::xs,_,.cons ⟨t,rfl⟩ r,j+1,h1,h2=>nT k r j (Nat.lt_of_succ_lt_succ h1) (Nat.lt_of_succ_lt_succ h2)
theorem vX (k:Str)(t:Tok){A:Around}{s:Shared}:∀ {xs:List Str} {vs:List Value},Vals (xs.map V.str) vs->∀ y,y∈vs->EqAt A s y (.str k t) (isStr k y)
 | [],_,.nil,_,hy=>nomatch hy
 | x::xs,_,.cons ⟨u,rfl⟩ r,y,hy=>by
  rcases hU.mp hy with rfl | hy
  ·exact PySem.SeqAt.EqAt.str_str x u k t
  ·exact vX k t r y hy
theorem AY {k:Str}{j:Nat}(h:j<ns.idxOf k)(h2:j<ns.length):(ns[j] == k)=false:=by
 have:=List.not_of_lt_findIdx (p:=(· == k)) h
 simpa using this
def J0 (K:Frag):V->List V->Hp->VK->Prop:=fun x a H Q=>∃ (l:Addr) (ns:List Str) (k:Str),x=.ref l/\a=[.str k]/\ax K H l (ns.map V.str)/\k∈ns/\Q (.int (ns.idxOf k:Nat)) H
theorem qZ (hK:X.K=K):xx X "list.index" (J0 K):=by
 subst hK;intro p s σ H x O v N Q I J L h;obtain⟨l,e,k,rfl,rfl,G,hk,q⟩:=h
 cases J
 obtain⟨u,rfl,C⟩:=L.one;obtain⟨t,rfl⟩:=C;obtain⟨g,r,M,hz⟩:=I.list G;obtain⟨⟨E,D,A,B⟩,i,m,n,o⟩:=id M.isList
 simp only at m o
 subst m o;have c:=r.length;rw[cc] at c;have d:e.idxOf k<e.length:=F1.mpr hk;rw[cc] at hz;have w:sizeLine<2 ^ 62:=by decide
 refine Pi slot_list_index ⟨_,i,rfl⟩ PySem.F.entry_list_index (PySem.F.args_list_index_2 _ _) (list_indexAt l g.toArray n D B (.str k t) (isStr k) (e.idxOf k) (by rw[fO,<-c];exact d) (by omega) ?a ?b) ⟨i,fun y hy=>vX k t r y (by simpa using hy),?_⟩
 case a=>
  have z:=nT k r (e.idxOf k) (by rw[<-c];exact d) d
  rw[Td d,TJ] at z;exact z
 case b=>
  intro j hj f;have z:=nT k r j (by simpa using hj) (by omega)
  rw[AY f] at z;exact z
 exact⟨.int _,H,I.tok _,⟨_,rfl⟩,q⟩
structure fP (ns:List Str)(cs ws:List Nat):Prop where
 nm:Gd ns 8
 lc:cs.length=ns.length
 lw:ws.length=ns.length
 RT:∀ c∈cs,0<c/\c<10 ^ 30
 RG:∀ j,j<ns.length->ws.getD j 0<2 ^ ns.length
 Mb:∀ j,j<ns.length->ws.getD j 0 / 2 ^ j % 2=0
def iN (H:Hp)(b:Addr)(ns:List Str)(cs ws:List Nat):Prop:=∃ a1 a2 a3,H b=some (.lst [.ref a1,.ref a2,.ref a3])/\H a1=some (.lst (ns.map V.str))/\H a2=some (.lst ((az cs).map V.int))/\H a3=some (.lst ((az ws).map V.int))
variable {b:Addr}{cs:List Nat}
theorem iN.mono {H':Hp}{ws:List Nat}(h:iN H b ns cs ws)(s:ah H H'):iN H' b ns cs ws:=by
 obtain⟨d,a,f,c,h1,g,e⟩:=h;exact⟨d,a,f,s _ _ c,s _ _ h1,s _ _ g,s _ _ e⟩
theorem getD_snoc (ws:List Nat)(x j:Nat):(ws++[x]).getD j 0=if j<ws.length then ws.getD j 0 else if j=ws.length then x else 0:=by
 rw[b4,b4]
 by_cases h:j<ws.length
 ·rw[if_pos h,C2 h]
 ·rw[if_neg h,w6 (by omega)]
  by_cases e:j=ws.length
  ·rw[if_pos e,e,T7];rfl
  ·rw[if_neg e,kf (by simp;omega)];rfl
def il (n w:Nat):List Nat:=(List.range n).filter fun j=>decide (w / 2 ^ j % 2=1)
theorem mS (w:Nat):∀ n,((il n w).map fun j=>2 ^ j).sum=w % 2 ^ n
 | 0=>by show 0=_;rw[Nat.pow_zero,Nat.mod_one]
 | n+1=>by
  have a:=mS w n;unfold il at a ⊢;rw[FM,SZ,hO,List.sum_append,a,Nat.mod_pow_succ]
  congr 1
  rcases Tt (w / 2 ^ n) with e | e
  ·rw[List.filter_cons_of_neg (by simp[e]),e];simp
  ·rw[List.filter_cons_of_pos (by simp[e]),e];simp
variable {w:Nat}
theorem jg {j:Nat}:j∈il n w↔j<n/\w / 2 ^ j % 2=1:=by
 unfold il;rw[pS,gc,Ts]
theorem N5 (n w:Nat):(il n w).Nodup:=Re.sublist TM
inductive Mx where
 | dq (j:Nat)
 | sees (i:Nat) (l:List Nat)
def Mx.hi:Mx->Option Nat
 | .dq j=>some j
 | .sees _ _=>none
def Mx.si:Mx->Option Nat
 | .dq _=>none
 | .sees i _=>some i
def fE (ns:List Str)(cs:List Nat):Mx->Ln
 | .dq j=>.dq (ns.getD j aW) (cs.getD j 0)
 | .sees i l=>.sees (ns.getD i aW) (l.map fun j=>ns.getD j aW)
def tj:List Nat->List Mx->Prop
 | _,[]=>True
 | S,.dq j::r=>tj (S++[j]) r
 | S,.sees i l::r=>(i∈S/\∀ j∈l,j∈S)/\tj S r
theorem fm:∀ (S:List Nat) (A B:List Mx),tj S (A++B)↔tj S A/\tj (S++A.filterMap Mx.hi) B
 | S,[],B=>by simp[tj]
 | S,.dq j::A,B=>by
  show tj (S++[j]) (A++B)↔tj (S++[j]) A/\_;rw[fm,C4];show _↔_/\tj (S++(j::A.filterMap Mx.hi)) B;rw[ro];rfl
 | S,.sees i l::A,B=>by
  show (_/\tj S (A++B))↔(_/\tj S A)/\tj (S++(Mx.sees i l::A).filterMap Mx.hi) B;rw[fm,C4];exact and_assoc.symm
variable {i q:Nat}{M:List Mx}{l:List Nat}
theorem J1 (h:tj [] M)(hi:i∈(M.take q).filterMap Mx.hi)(hl:∀ j∈l,j∈(M.take q).filterMap Mx.hi):tj [] (dz M q (.sees i l)):=by
 have a:=(fm [] (M.take q) (M.drop q)).mp (by rw[Tn];exact h)
 unfold dz;refine(fm _ _ _).mpr ⟨a.1,⟨?_,a.2⟩⟩;rw[nil_append];exact⟨hi,hl⟩
theorem N6:(dz M q (.sees i l)).filterMap Mx.hi=M.filterMap Mx.hi:=by
 unfold dz;rw[KB,C4];show _++(M.drop q).filterMap Mx.hi=_;rw[<-KB,Tn]
theorem Gs:((dz M q (.sees i l)).filterMap Mx.si).Perm (i::M.filterMap Mx.si):=by
 unfold dz;rw[KB,C4];show ((M.take q).filterMap Mx.si++i::(M.drop q).filterMap Mx.si).Perm _;refine List.perm_middle.trans (List.Perm.cons _ ?_);rw[<-KB,Tn]
theorem J4 {α:Type}{M:List α}{x y:α}:y∈dz M q x↔y=x∨y∈M:=by
 unfold dz;rw[ka,hU]
 constructor
 ·rintro(h | h | h)
  ·exact .inr (mem_of_mem_take h)
  ·exact .inl h
  ·exact .inr (mem_of_mem_drop h)
 ·rintro(h | h)
  ·exact .inr (.inl h)
  ·rw[<-Tn q M] at h
   rcases ka.mp h with z | z
   ·exact .inl z
   ·exact .inr (.inr z)
theorem AZ {α β:Type}(f:α->β)(M:List α)(q:Nat)(x:α):(dz M q x).map f=dz (M.map f) q (f x):=by
 unfold dz;rw[hO,oD,map_take,TR]
def stM (ns:List Str)(cs ws:List Nat)(h:Nat)(U:List Nat):Bk:=⟨ns.take h,cs.take h,(List.range h).map fun i=>if i∈U then ws.getD i 0 else 0⟩
variable {ws:List Nat}{h:Nat}
theorem tm (P:fP ns cs ws){j:Nat}(hj:j<h)(hh:h<=ns.length):ns.getD j aW∈ns.take h/\(ns.take h).idxOf (ns.getD j aW)=j:=by
 have a:(ns.take h).length=h:=by rw[wh];omega
 have e:ns.getD j aW=(ns.take h)[j]'(by omega):=by
  rw[getElem_take,b4,b5 (by omega)];rfl
 rw[e];exact⟨p0 _,(P.nm.nd.sublist (take_sublist _ _)).idxOf_getElem _ _⟩
theorem lr {α:Type}{l:List α}(d:α)(hh:h<l.length):l.take (h+1)=l.take h++[l.getD h d]:=by
 rw[List.take_add_one,b5 hh,b4,b5 hh];rfl
theorem J5 (P:fP ns cs ws)(hl:∀ j∈l,j<h)(hh:h<=ns.length)(hp:l.Perm (il ns.length (ws.getD i 0)))(hi:i<ns.length):mf (ns.take h) (l.map fun j=>ns.getD j aW)=ws.getD i 0:=by
 unfold mf;rw[kc];have e:l.map ((fun y=>2 ^ (ns.take h).idxOf y) ∘ fun j=>ns.getD j aW)=l.map fun j=>2 ^ j:=TH fun j hj=>by
  show 2 ^ _=_;rw[(tm P (hl j hj) hh).2]
 rw[e,(hp.map _).sum_nat,mS,T8 (P.RG i hi)]
theorem lu (P:fP ns cs ws):∀ (r:List Mx) (h:Nat) (U:List Nat),tj (List.range h) r->List.range h++r.filterMap Mx.hi=List.range ns.length->(U++r.filterMap Mx.si).Nodup->(∀ i∈U,i<h)->
  (∀ i l,Mx.sees i l∈r->l.Perm (il ns.length (ws.getD i 0)))->dw (stM ns cs ws h U) (r.map (fE ns cs))=some (stM ns cs ws ns.length (U++r.filterMap Mx.si))
 | [],h,U,_,f,_,_,_=>by
  have e:h=ns.length:=by
   have:=OD List.length f
   simpa using this
  rw[map_nil,List.filterMap_nil,TB,e];rfl
 | .dq j::r,h,U,ok,f,nd,o,p=>by
  have a:List.range h++j::r.filterMap Mx.hi=List.range ns.length:=f;have d:=OD List.length a;rw[eG,qs,j6,j6] at d;have x:j=h:=by
   have this:(List.range h++j::r.filterMap Mx.hi)[h]?=(List.range ns.length)[h]?:=by rw[a]
   rw[w6 (by simp),j6,T7,vr (by omega)] at this
   exact tx this
  subst x;have b:j<ns.length:=by omega
  have C:=P.nm.eU;have s:=lu P r (j+1) U (by rw[FM];exact ok) (by rw[FM,ro];exact a) nd (fun i hi=>TC (o i hi)) (fun i l hm=>p i l (eH _ hm))
  have A:(ns.take j).length=j:=by rw[wh];omega
  have c:ns.getD j aW∉ns.take j:=fun z=>by
   have e:ns.getD j aW=ns[j]:=by rw[b4,b5 b];rfl
   rw[e] at z;obtain⟨k,hk,v⟩:=BC z;rw[getElem_take] at v
   have:=(getElem_inj P.nm.nd).mp v
   omega
  have q:jv (stM ns cs ws j U) (fE ns cs (.dq j))=some (stM ns cs ws (j+1) U):=by
   show (if ns.getD j aW∉ns.take j/\(ns.take j).length<8 then some (⟨ns.take j++[ns.getD j aW],cs.take j++[cs.getD j 0],((List.range j).map fun i=>if i∈U then ws.getD i 0 else 0)++[0]⟩:Bk) else none)=_
   rw[if_pos ⟨c,by omega⟩,<-lr aW b,<-lr 0 (by rw[P.lc];exact b)]
   unfold stM;rw[FM,hO];have hj:j∉U:=fun z=>KE _ (o j z);show some (⟨_,_,_++[0]⟩:Bk)=some ⟨_,_,_++[if j∈U then ws.getD j 0 else 0]⟩
   rw[if_neg hj]
  rw[oD,dw,q];exact s
 | .sees i l::r,h,U,ok,f,nd,o,p=>by
  obtain⟨⟨hi,n⟩,t⟩:=ok;have hi:i<h:=gc.mp hi;have n:∀ j∈l,j<h:=fun j hj=>gc.mp (n j hj);have a:List.range h++r.filterMap Mx.hi=List.range ns.length:=f;have hh:h<=ns.length:=by
   have:=OD List.length a
   rw[eG,j6,j6] at this
   omega
  have g:(U++i::r.filterMap Mx.si).Nodup:=nd;have u:i∉U:=fun z=>by
   have:=(Tw.mp g).2.2 i z i fA
   exact this rfl
  have s:=lu P r h (U++[i]) t a (by rw[ro];exact g) (fun k hk=>by
   rcases ka.mp hk with z | z
   ·exact o k z
   ·rw[fz.mp z];exact hi) (fun k m hm=>p k m (eH _ hm))
  have hn:=tm P hi hh;have q:jv (stM ns cs ws h U) (fE ns cs (.sees i l))=some (stM ns cs ws h (U++[i])):=by
   show (if ns.getD i aW∈ns.take h/\((List.range h).map fun i=>if i∈U then ws.getD i 0 else 0).getD ((ns.take h).idxOf (ns.getD i aW)) 0=0/\∀ y∈l.map (fun j=>ns.getD j aW),y∈ns.take h then some (⟨ns.take h,cs.take h,((List.range h).map fun i=>if i∈U then ws.getD i 0 else 0).set ((ns.take h).idxOf (ns.getD i aW)) (mf (ns.take h) (l.map fun j=>ns.getD j aW))⟩:Bk) else none)=_
   rw[hn.2,J5 P n hh (p i l fA) (by omega)]
   have w:((List.range h).map fun i=>if i∈U then ws.getD i 0 else 0).getD i 0=0:=by
    rw[b4,ek,vr hi];show (if i∈U then _ else 0)=0
    rw[if_neg u]
   have B:∀ y∈l.map (fun j=>ns.getD j aW),y∈ns.take h:=by
    intro y hy;obtain⟨j,hj,rfl⟩:=ih.mp hy;exact(tm P (n j hj) hh).1
   rw[if_pos ⟨hn.1,w,B⟩];unfold stM
   congr 2
   apply I3
   intro k;rw[List.getElem?_set,ek,cc,j6]
   by_cases e:i=k
   ·subst e;rw[if_pos rfl,if_pos hi,ek,vr hi];show _=some (if i∈U++[i] then _ else _)
    rw[if_pos (by simp)]
   ·rw[if_neg e,ek]
    by_cases hk:k<h
    ·rw[vr hk];show some (if k∈U then _ else _)=some (if k∈U++[i] then _ else _)
     have:k∈U↔k∈U++[i]:=by
      rw[ka,fz];exact⟨.inl,fun z=>z.elim id fun z=>absurd z.symm e⟩
     simp only[this]
    ·rw[kf (by rw[j6];omega)]
     first | rfl | (rw[ek,kf (by rw[j6];omega)];rfl)
  rw[oD,dw,q];show dw _ _=some (stM ns cs ws ns.length (U++i::r.filterMap Mx.si));rw[show U++i::r.filterMap Mx.si=(U++[i])++r.filterMap Mx.si by rw[ro];rfl]
  exact s
structure dh (ns:List Str)(ws:List Nat)(done:Nat->Prop)(M:List Mx):Prop where
 ok:tj [] M
 gh:M.filterMap Mx.hi=List.range ns.length
 nd:(M.filterMap Mx.si).Nodup
 pm:∀ i l,Mx.sees i l∈M->l.Perm (il ns.length (ws.getD i 0))/\i<ns.length/\l≠[]
 al:∀ i,i∈M.filterMap Mx.si↔done i/\i<ns.length/\il ns.length (ws.getD i 0)≠[]
variable {done:Nat->Prop}
theorem dh.book (P:fP ns cs ws)(h:dh ns ws done M)(hd:∀ i,i<ns.length->done i):dw ⟨[],[],[]⟩ (M.map (fE ns cs))=some ⟨ns,cs,ws⟩:=by
 have:=lu P M 0 [] h.ok (by rw[range_zero,nil_append];exact h.gh) (by rw[nil_append];exact h.nd) (fun _ z=>nomatch z) (fun i l hm=>(h.pm i l hm).1)
 rw[nil_append] at this;have b:stM ns cs ws 0 []=⟨[],[],[]⟩:=by unfold stM;simp
 rw[b] at this;rw[this];unfold stM
 congr 2
 ·exact DK (dy _)
 ·exact DK (by rw[P.lc];exact dy _)
 ·apply I3
  intro k;rw[ek]
  by_cases hk:k<ns.length
  ·have c:k<ws.length:=by rw[P.lw];exact hk
   rw[vr hk,b5 (by rw[P.lw];exact hk)]
   show some (if k∈M.filterMap Mx.si then ws.getD k 0 else 0)=some ws[k]
   have a:ws.getD k 0=ws[k]'(by rw[P.lw];exact hk):=by rw[b4,b5 (by rw[P.lw];exact hk)];rfl
   by_cases hb:il ns.length (ws.getD k 0)=[]
   ·rw[if_neg (fun z=>((h.al k).mp z).2.2 hb)]
    have:=mS (ws.getD k 0) ns.length
    rw[hb,T8 (P.RG k hk)] at this;rw[<-a,<-this];rfl
   ·rw[if_pos ((h.al k).mpr ⟨hd k hk,hk,hb⟩),a]
  ·rw[kf (by rw[j6];omega),kf (by rw[P.lw];omega)]
   rfl
abbrev dP (ns:List Str)(cs:List Nat)(x:Mx):Str:=kN (fE ns cs x)
theorem getD_inj (P:fP ns cs ws){j:Nat}(hi:i<ns.length)(hj:j<ns.length)(e:ns.getD i aW=ns.getD j aW):i=j:=by
 rw[b4,b4,b5 hi,b5 hj] at e;exact(getElem_inj P.nm.nd).mp e
theorem nU (P:fP ns cs ws){j:Nat}(hj:j<ns.length):jG (fE ns cs (.dq j)):=by
 have hc:cs.getD j 0∈cs:=by
  rw[b4,b5 (by rw[P.lc];exact hj)];exact p0 _
 exact⟨P.nm.nm _ (getD_memS hj),P.RT _ hc⟩
theorem Gu (P:fP ns cs ws):∀ {l:List Nat},l.Nodup->(∀ j∈l,j<ns.length)->(l.map fun j=>ns.getD j aW).Nodup
 | [],_,_=>.nil
 | x::r,h,a=>by
  have b:=C3.mp h;rw[oD,C3];refine⟨fun z=>?_,Gu P b.2 fun j hj=>a j (eH _ hj)⟩;obtain⟨j,hj,e⟩:=ih.mp z
  have:=getD_inj P (a j (eH _ hj)) (a x fA) e
  exact b.1 (this ▸ hj)
theorem mT (P:fP ns cs ws)(hi:i<ns.length)(hp:l.Perm (il ns.length (ws.getD i 0)))(hl:l≠[]):jG (fE ns cs (.sees i l)):=by
 have hm:∀ j∈l,j<ns.length/\ws.getD i 0 / 2 ^ j % 2=1:=fun j hj=>jg.mp (hp.mem_iff.mp hj);have b:l.Nodup:=hp.nodup_iff.mpr (N5 _ _);have a:i∉l:=fun z=>by have:=(hm i z).2;rw[P.Mb i hi] at this;cases this
 have d:l.length<=ns.length:=by
  rw[hp.length_eq];unfold il
  have:=A5 (fun j=>decide (ws.getD i 0 / 2 ^ j % 2=1)) (List.range ns.length)
  rw[j6] at this;exact this
 have f:=P.nm.eU;have c:0<l.length:=F2.mpr hl;have e:(ns.getD i aW::l.map fun j=>ns.getD j aW)=(i::l).map fun j=>ns.getD j aW:=rfl;show Sq (ns.getD i aW::l.map fun j=>ns.getD j aW);rw[e];refine⟨by rw[cc,qs];omega,by rw[cc,qs];omega,Gu P (C3.mpr ⟨a,b⟩) ?_,?_⟩
 ·intro j hj
  rcases hU.mp hj with z | z
  ·rw[z];exact hi
  ·exact(hm j z).1
 ·intro x hx;obtain⟨j,hj,rfl⟩:=ih.mp hx
  rcases hU.mp hj with z | z
  ·rw[z];exact P.nm.nm _ (getD_memS hi)
  ·exact P.nm.nm _ (getD_memS (hm j z).1)
theorem tp {j:Nat}:Mx.dq j∈M↔j∈M.filterMap Mx.hi:=by
 rw[List.mem_filterMap]
 constructor
 ·intro h;exact⟨_,h,rfl⟩
 ·rintro⟨x,hx,e⟩
  cases x with
  | dq k=>cases e;exact hx
  | sees i l=>cases e
theorem dh.nV (P:fP ns cs ws)(h:dh ns ws done M):∀ x∈M,jG (fE ns cs x):=by
 intro x hx
 cases x with
 | dq j=>
  have:=tp.mp hx
  rw[h.gh] at this;exact nU P (gc.mp this)
 | sees i l=>exact mT P (h.pm i l hx).2.1 (h.pm i l hx).1 (h.pm i l hx).2.2
theorem dh.rf (P:fP ns cs ws)(h:dh ns ws done M):∀ x∈M.map (fE ns cs),jG x:=by
 intro x hx;obtain⟨y,hy,rfl⟩:=ih.mp hx;exact h.nV P y hy
theorem Gv {y:Ln}(hx:jG x)(hy:jG y)(e:kN x=kN y):kM x=kM y:=by
 have f:∀ {z:Ln},jG z->Txt.split (kN z) ⟨#[32]⟩=kM z:=fun {z} hz=>ee 32 (by intro w;have:=(gO hz).2.2;rw[w] at this;exact absurd this (by decide)) fun y hy=>((gO hz).1 y hy).1
 rw[<-f hx,<-f hy,e]
theorem N7 (P:fP ns cs ws)(h:dh ns ws done M){x:Mx}{j:Nat}(hx:x∈M)(hj:j<ns.length)(e:dP ns cs x=dP ns cs (.dq j)):x=.dq j:=by
 have w:=Gv (h.nV P x hx) (nU P hj) e
 cases x with
 | dq k=>
  have hk:k<ns.length:=by
   have:=tp.mp hx
   rw[h.gh] at this;exact gc.mp this
  have w:[Str.ofString "hat",ns.getD k aW,jo (cs.getD k 0)]=[Str.ofString "hat",ns.getD j aW,jo (cs.getD j 0)]:=w;have e2:ns.getD k aW=ns.getD j aW:=(TY (TY w).2).1;rw[getD_inj P hk hj e2]
 | sees i l=>
  have w:Str.ofString "sees"::_=Str.ofString "hat"::_:=w;exact absurd (TY w).1 (by decide +kernel)
theorem dh.idx (P:fP ns cs ws)(h:dh ns ws done M){j:Nat}(hj:j<ns.length):dP ns cs (.dq j)∈M.map (dP ns cs)/\(M.map (dP ns cs)).idxOf (dP ns cs (.dq j))<M.length/\∀ q,(M.map (dP ns cs)).idxOf (dP ns cs (.dq j))<q->j∈(M.take q).filterMap Mx.hi:=by
 have hm:Mx.dq j∈M:=tp.mpr (by rw[h.gh];exact gc.mpr hj)
 have h1:dP ns cs (.dq j)∈M.map (dP ns cs):=ih.mpr ⟨_,hm,rfl⟩;have a:=F1.mpr h1;rw[cc] at a;refine⟨h1,a,fun q hq=>?_⟩;have e:=Td (xs:=M.map (dP ns cs)) (x:=dP ns cs (.dq j)) (by rw[cc];exact a)
 rw[List.getElem_map] at e;have hx:=N7 P h (p0 a) hj e;refine tp.mp ?_;rw[<-hx];refine h5 (i:=(M.map (dP ns cs)).idxOf (dP ns cs (.dq j))) ?_;rw[List.getElem?_take_of_lt hq];exact b5 a
theorem dh.start:dh ns ws (fun _=>False) ((List.range ns.length).map Mx.dq):=by
 have hh:∀ l:List Nat,(l.map Mx.dq).filterMap Mx.hi=l:=fun l=>by
  induction l with
  | nil=>rfl
  | cons a r b=>rw[oD,C4];show a::_=_;rw[b]
 have c:∀ l:List Nat,(l.map Mx.dq).filterMap Mx.si=[]:=fun l=>by
  induction l with
  | nil=>rfl
  | cons a r b=>rw[oD,C4];exact b
 have d:∀ (l S:List Nat),tj S (l.map Mx.dq):=fun l=>by
  induction l with
  | nil=>intro S;trivial
  | cons a r b=>intro S;exact b (S++[a])
 refine⟨d _ _,hh _,by rw[c];exact .nil,fun i l hm=>?_,fun i=>?_⟩
 ·obtain⟨k,_,e⟩:=ih.mp hm;cases e
 ·rw[c];exact⟨(fun z=>nomatch z),fun z=>z.1.elim⟩
variable {done':Nat->Prop}
theorem dh.ins (h:dh ns ws done M)(hi:i<ns.length)(hd:¬ done i)(hp:l.Perm (il ns.length (ws.getD i 0)))(hl:l≠[])(hq:∀ j∈i::l,j∈(M.take q).filterMap Mx.hi)(hdd:∀ x,done' x↔done x∨x=i) :
  dh ns ws done' (dz M q (.sees i l)) where
 ok:=J1 h.ok (hq i fA) fun j hj=>hq j (eH _ hj)
 gh:=by rw[N6];exact h.gh
 nd:=Gs.nodup_iff.mpr (C3.mpr ⟨fun z=>hd ((h.al i).mp z).1,h.nd⟩)
 pm:=fun k m hm=>by
  rcases J4.mp hm with e | e
  ·cases e;exact⟨hp,hi,hl⟩
  ·exact h.pm k m e
 al:=fun k=>by
  rw[Gs.mem_iff,hU,h.al k,hdd]
  constructor
  ·rintro(rfl | ⟨a,b,c⟩)
   ·exact⟨.inr rfl,hi,fun z=>hl (by rw[z] at hp;exact hp.eq_nil)⟩
   ·exact⟨.inl a,b,c⟩
  ·rintro⟨a | a,b,c⟩
   ·exact .inr ⟨a,b,c⟩
   ·exact .inl a
theorem dh.skip (h:dh ns ws done M)(hb:il ns.length (ws.getD i 0)=[])(hdd:∀ x,done' x↔done x∨x=i):dh ns ws done' M where
 ok:=h.ok
 gh:=h.gh
 nd:=h.nd
 pm:=h.pm
 al:=fun k=>by
  rw[h.al k,hdd]
  constructor
  ·rintro⟨a,b,c⟩;exact⟨.inl a,b,c⟩
  ·rintro⟨a | a,b,c⟩
   ·exact⟨a,b,c⟩
   ·rw[a] at c;exact absurd hb c
theorem et {k:Nat}(h:k<l.length):((az l).map V.int).getD k .bE=.int ((l.getD k 0:Nat):Int):=by
 unfold az;rw[b4,ek,ek,b5 h,b4,b5 h];rfl
theorem b9 {α:Type}(g:Nat->α)(l:List Nat):((List.range l.length).map fun i=>g (l.getD i 0))=l.map g:=by
 apply I3
 intro i
 by_cases hi:i<l.length
 ·rw[ek,vr hi,ek,b5 hi];show some (g (l.getD i 0))=some (g l[i]);rw[b4,b5 hi];rfl
 ·rw[kf (by rw[cc,j6];omega),kf (by rw[cc];omega)]
theorem ez {k:Nat}(h:k<l.length):l.getD k 0∈l:=by
 rw[b4,b5 h];exact p0 h
def QP (H0:Hp)(b dr a1 a2 a3 l:Addr)(ns:List Str)(cs:List Nat)(k:Nat)(σ:St)(H:Hp):Prop:=∃ y6 y7 y8 y9 y10 y11 y12:Option V,σ=[some (.ref b),some (.ref dr),some (.ref a1),some (.ref a2),some (.ref a3),some (.ref l),y6,y7,y8,y9,y10,y11,y12]/\ah H0 H/\H l=some (.lst ((((List.range k).map Mx.dq).map (dP ns cs)).map V.str))
def QQ (H0:Hp)(b dr a1 a2 a3 l o:Addr)(ns:List Str)(cs ws od:List Nat)(k:Nat)(σ:St)(H:Hp):Prop:=∃ (M:List Mx) (y6 y8 y9 y10 y11 y12:Option V),σ=[some (.ref b),some (.ref dr),some (.ref a1),some (.ref a2),some (.ref a3),some (.ref l),y6,some (.ref o),y8,y9,y10,y11,y12]/\ah H0 H/\H o=some (.lst ((az od).map V.int))/\H l=some (.lst ((M.map (dP ns cs)).map V.str))/\dh ns ws (fun i=>i∈od.take k) M/\M.length<=ns.length+k
def QR (H0:Hp)(b dr a1 a2 a3 l:Addr)(ns:List Str)(cs:List Nat)(σ:St)(H:Hp):Prop:=∃ (o:Addr) (od:List Nat) (y6 y8 y9 y10 y11 y12:Option V),σ=[some (.ref b),some (.ref dr),some (.ref a1),some (.ref a2),some (.ref a3),some (.ref l),y6,some (.ref o),y8,y9,y10,y11,y12]/\ah H0 H/\H l=some (.lst ((((List.range ns.length).map Mx.dq).map (dP ns cs)).map V.str))/\H o=some (.lst ((az od).map V.int))/\od.Perm (List.range ns.length)/\l≠o
def A0 (H0:Hp)(b dr a1 a2 a3 l o:Addr)(i:Nat)(bt:List Nat)(σ:St)(H:Hp):Prop:=∃ (s:Addr) (sm:List Nat) (y6 y10 y11 y12:Option V),σ=[some (.ref b),some (.ref dr),some (.ref a1),some (.ref a2),some (.ref a3),some (.ref l),y6,some (.ref o),some (.int (i:Int)),some (.ref s),y10,y11,y12]/\ah H0 H/\H s=some (.lst ((az sm).map V.int))/\sm.Perm bt
variable {od:List Nat}
theorem Cv {k:Nat}(hk:k<od.length)(x:Nat):x∈od.take (k+1)↔x∈od.take k∨x=od.getD k 0:=by
 rw[lr 0 hk,ka,fz]
theorem Gw (nd:od.Nodup){k:Nat}(hk:k<od.length):od.getD k 0∉od.take k:=fun z=>by
 have e:od.getD k 0=od[k]:=by rw[b4,b5 hk];rfl
 rw[e] at z;obtain⟨j,hj,a⟩:=BC z;rw[getElem_take] at a;rw[wh] at hj
 have:=(getElem_inj nd).mp a
 omega
theorem QU {tc:TT}{te:TE}{rest:St}{J:It}{H1:Hp}{item:Nat->V}(ok:yc J H1 n item)(hn:n<sizeLine)
  (step:∀ i H (B:Hp->Prop) (A:V->Hp->Prop),i<n->ah H1 H->B H->tc (some (item i)::rest) H fun b H3=>if b=true then te (some (item i)::rest) H3 A else B H3)
  (fin:∀ acc H,ah H1 H->H acc=some (.lst [])->Q (.ref acc) H):sh (bx 0) tc te (none::rest) Q J H1:=
 qI ok (fun _=>false) (fun _=>.bE) hn (fun i H A B hi c _ d=>step i H B A hi c (d rfl _ (ah.refl _))) fun acc H _ c a=>fin acc H c (by rw[a];simp)
def QV:V->Hp->VK->Prop:=fun x H Q=>(∃ y,x=.str y/\y.length<=sizeLine/\Q (.str y) H)∨(∃ i:Int,x=.int i/\i.natAbs.log2<1920/\Q (.str (Str.ofString (toString i))) H)
def QX (tv:TE):TE:=fun σ H Q=>tv σ H fun x H1=>QV x H1 Q
variable {v:Expr}{tv:TE}
theorem J6 (hv:QE X v tv):QE X (.FormattedValue v (-1) none pos) (QX tv):=⟨by
 intro a s σ H Q I h;refine FormattedValue_plain (bV (hv.h a s σ H _ I h) fun u g ⟨x,H1,b,c,d⟩=>?_)
 rcases d with ⟨y,rfl,hy,q⟩ | ⟨i,rfl,hi,q⟩
 ·obtain⟨t,rfl⟩:=c;exact formatField_str (fun t' f=>⟨.str y,H1,b.kept (t':=f) fun _ _ e=>e,⟨_,rfl⟩,q⟩) hy
 ·obtain⟨t,rfl⟩:=c;exact formatField_int_small hi ⟨.str _,H1,b.kept (t':=_) fun _ _ e=>e,⟨_,rfl⟩,q⟩⟩
def OO:List TE->Str->TE
 | [],a=>fun _ H Q=>a.length<=sizeLine/\Q (.str a) H
 | t::r,a=>fun σ H Q=>t σ H fun x H1=>∃ y,x=.str y/\(a++y).length<=sizeLine/\OO r (a++y) σ H1 Q
structure QJ (X:Cx)(es:List Expr)(ts:List TE):Prop where
 h:∀ (acc:Str) (pins:List (Addr × Obj)) (s:Shared) (σ:St) (H:Hp) (Q:VK),Inv X pins σ H s->OO ts acc σ H Q->wpAny (model X.prog X.w) X.A (joinParts acc (evalEach es X.env)) (EP X pins σ Q) X.xe s
theorem Gx:QJ X [] []:=⟨fun a b s σ H Q I h=>joinParts_nil ⟨.str a,H,I.tok _,⟨_,rfl⟩,h.2⟩ h.1⟩
variable {t:TE}{ts:List TE}
theorem gP {es:List Expr}(he:QE X e t)(hr:QJ X es ts):QJ X (e::es) (t::ts):=⟨fun c a s σ H Q I h=>by
 refine joinParts_cons (x:=eval e X.env) (rest:=evalEach es X.env) (bV (he.h a s σ H _ I h) fun u f ⟨x,H1,d,g,b⟩=>?_);obtain⟨y,rfl,hy,q⟩:=b;obtain⟨i,rfl⟩:=g;exact⟨hy,hr.h _ a f σ H1 Q d q⟩⟩
theorem LI {e2:Expr}{es:List Expr}(h:QJ X (e::e2::es) ts):QE X (.JoinedStr (e::e2::es) pos) (OO ts Str.empty):=⟨fun a s σ H Q I q=>JoinedStr_many (h.h Str.empty a s σ H Q I q)⟩
theorem LJ {σ:St} :QX tv σ H Q=tv σ H fun x H1=>QV x H1 Q:=rfl
variable {acc:Str}
theorem LK {σ:St} :OO [] acc σ H Q=(acc.length<=sizeLine/\Q (.str acc) H):=rfl
theorem LM {r:List TE}{σ:St} :OO (t::r) acc σ H Q=t σ H fun x H1=>∃ y,x=.str y/\(acc++y).length<=sizeLine/\OO r (acc++y) σ H1 Q:=rfl
def LN (K:Frag):V->Int->Int->Hp->VK->Prop:=fun x a b H Q=>∃ l xs,x=.ref l/\ax K H l xs/\b≠0/\∀ (R:List Nat) p,H p=none->(R.filterMap fun i=>xs[i]?).length<=sizeLine->Q (.ref p) (upd H p (.lst (R.filterMap fun i=>xs[i]?)))
def Gy (K:Frag)(te tl ts:TE):TE:=fun σ H Q=>te σ H fun x H1=>tl σ H1 fun y c=>∃ a,y=.int a/\ts σ c fun z d=>∃ b,z=.int b/\LN K x a b d Q
theorem rh {xs:List V}{its:List Value}(r:Vals xs its):∀ R:List Nat,Vals (R.filterMap fun i=>xs[i]?) (R.filterMap fun i=>its[i]?)
 | []=>.nil
 | k::R=>by
  have a:=rh r R;have c:=r.length;rw[C4,C4]
  by_cases hk:k<xs.length
  ·obtain⟨u,hu,b⟩:=r.get (b5 hk);rw[b5 hk,hu];exact .cons b a
  ·rw[kf (by omega),kf (by omega)]
   exact a
variable {lo st:Expr}{te tl ts:TE}{p2:Pos}
theorem J7 {ops:Value->Value->List Value}(he:PE X e te)(hlo:PE X lo tl)(hs:PE X st ts)(hsub:∀ o i,subscripted (.Slice (some lo) none (some st) p2) false o i=operate (ops o i) (getItem o i)):PE X (.Subscript e (.Slice (some lo) none (some st) p2) pos) (Gy X.K te tl ts):=by
 intro c s σ H Q I h;refine Subscript_ (bV (he c s σ H _ I h) fun v P ⟨x,H1,M,S,W⟩=>?_);refine wpAny_Slice ?_;rw[evalPart_some];refine bV (hlo c P σ H1 _ M W) fun vl Z ⟨y,Y,J,U,p⟩=>?_;obtain⟨g,rfl,p⟩:=p;rw[evalPart_none];refine gd ?_;rw[evalPart_some];refine bV (hs c Z σ Y _ J p) fun vs f ⟨z,G,O,N,q3⟩=>?_;obtain⟨j,rfl,a,B,rfl,hx,hb,q⟩:=q3
 cases S
 obtain⟨m,rfl⟩:=U;obtain⟨t,rfl⟩:=N;have u:Inv X c σ G {f with heap:=f.heap.push {cls:=.type "slice",data:=.fields #[.int g m,.none,.int j t]}}:=O.kept (t':=f.toks) fun b ob q=>ey _ q;obtain⟨d,r,E,hz⟩:=u.list hx;have D:=r.length;show wpAny (model X.prog X.w) X.A (subscriptTail e (.Slice (some lo) none (some st) p2) (.ref a) (.ref f.heap.objs.size)) (EP X c σ Q) X.xe {f with heap:=f.heap.push {cls:=.type "slice",data:=.fields #[.int g m,.none,.int j t]}};refine tail_any (T:="list") (ops:=ops (.ref a) (.ref f.heap.objs.size)) E.isList.typeIs slot_list_getitem.lookup ?_ (hsub _ _);refine wpAny_getItem_list_slice E.isList (Heap.IsSliceOf.new ..) (.int g m) .none (.int j t) (by simpa using hb) ?_ (by rw[fO]<;>omega)
 obtain⟨R,eR⟩:∃ R:List Nat,slicePick d.toArray (some g) none (some j)=(R.filterMap fun i=>d[i]?).toArray:=by
  unfold slicePick;refine⟨sliceRange (sliceBounds (some g) none (some j) d.toArray.size).1 (sliceBounds (some g) none (some j) d.toArray.size).2.1 (sliceBounds (some g) none (some j) d.toArray.size).2.2,?_⟩;have F:(fun k=>d.toArray[k]?)=(fun k:Nat=>d[k]?):=by funext k;simp
  rw[F]
 have n:=slicePick_size_le d.toArray (some g) none (some j);rw[eR] at n ⊢;rw[fO,fO] at n;have C:=rh r R;have L:=C.length;have l:(R.filterMap fun i=>B[i]?).length<=sizeLine:=by omega
 exact⟨.ref _,_,u.laid (t':=f.toks) (o:=.lst (R.filterMap fun i=>B[i]?)) (fun b ob q=>ey _ q) (dy _) ⟨l,_,0,C,j9 _ rfl⟩,rfl,q R _ (u.br.fresh (dy _)) l⟩
theorem LO {ops:Value->Value->List Value}(he:QE X e te)(hlo:QE X lo tl)(hs:QE X st ts)(h:X.K=K)(hsub:∀ o i,subscripted (.Slice (some lo) none (some st) p2) false o i=operate (ops o i) (getItem o i):=by intro _ _;with_unfolding_all rfl):QE X (.Subscript e (.Slice (some lo) none (some st) p2) pos) (Gy K te tl ts):=⟨by subst h;exact J7 he.h hlo.h hs.h hsub⟩
theorem Gz {σ:St} :Gy K te tl ts σ H Q=te σ H fun x H1=>tl σ H1 fun y H2=>∃ a,y=.int a/\ts σ H2 fun z H3=>∃ b,z=.int b/\LN K x a b H3 Q:=rfl
theorem rj (ns:List Int)(R:List Nat):(R.filterMap fun i=>(ns.map V.int)[i]?)=(R.filterMap fun i=>ns[i]?).map V.int:=by
 rw[List.map_filterMap];have a:(fun i=>(ns.map V.int)[i]?)=(fun i:Nat=>Option.map V.int ns[i]?):=by funext k;rw[ek]
 rw[a]
def bj (ns:List Str)(ws:List Nat):List Mx:=(List.range ns.length).map Mx.dq++((List.range ns.length).filter fun i=>decide (ws.getD i 0≠0)).map fun i=>.sees i (il ns.length (ws.getD i 0))
theorem vY (P:fP ns cs ws)(hi:i<ns.length):il ns.length (ws.getD i 0)≠[]↔ws.getD i 0≠0:=by
 have a:=mS (ws.getD i 0) ns.length;rw[T8 (P.RG i hi)] at a
 constructor
 ·intro h z;refine h ?_
  apply List.eq_nil_iff_forall_not_mem.mpr
  intro j hj
  have:=(jg.mp hj).2
  rw[z,Nat.zero_div] at this
  cases this
 ·intro h z;rw[z] at a;exact h a.symm
theorem tq:∀ l:List Nat,(l.map Mx.dq).filterMap Mx.hi=l
 | []=>rfl
 | a::r=>by rw[oD,C4];show a::_=_;rw[tq r]
theorem tw:∀ l:List Nat,(l.map Mx.dq).filterMap Mx.si=[]
 | []=>rfl
 | a::r=>by rw[oD,C4];exact tw r
theorem A7 (g:Nat->List Nat):∀ l:List Nat,(l.map fun i=>Mx.sees i (g i)).filterMap Mx.hi=[]
 | []=>rfl
 | a::r=>by rw[oD,C4];exact A7 g r
theorem tD (g:Nat->List Nat):∀ l:List Nat,(l.map fun i=>Mx.sees i (g i)).filterMap Mx.si=l
 | []=>rfl
 | a::r=>by rw[oD,C4];show a::_=_;rw[tD g r]
theorem mU (g:Nat->List Nat)(S:List Nat):∀ l:List Nat,(∀ i∈l,i∈S/\∀ j∈g i,j∈S)->tj S (l.map fun i=>Mx.sees i (g i))
 | [],_=>trivial
 | a::r,h=>⟨h a fA,mU g S r fun i hi=>h i (eH _ hi)⟩
theorem A8:∀ (l S:List Nat),tj S (l.map Mx.dq)
 | [],_=>trivial
 | a::r,S=>A8 r (S++[a])
theorem fH (P:fP ns cs ws):dh ns ws (fun i=>i<ns.length) (bj ns ws) where
 ok:=by
  refine(fm _ _ _).mpr ⟨A8 _ _,?_⟩;rw[tq,nil_append];refine mU _ _ _ fun i hi=>⟨(pS.mp hi).1,fun j hj=>gc.mpr (jg.mp hj).1⟩
 gh:=by unfold bj;rw[KB,tq,A7,TB]
 nd:=by unfold bj;rw[KB,tw,tD,nil_append];exact Re.sublist TM
 pm:=fun i l hm=>by
  unfold bj at hm
  rcases ka.mp hm with z | z
  ·obtain⟨k,_,e⟩:=ih.mp z;cases e
  ·obtain⟨k,hk,e⟩:=ih.mp z
   cases e
   have:=pS.mp hk
   exact⟨TN _,gc.mp this.1,(vY P (gc.mp this.1)).mpr (u5 this.2)⟩
 al:=fun i=>by
  unfold bj;rw[KB,tw,tD,nil_append,pS,gc,Ts]
  constructor
  ·intro ⟨a,b⟩;exact⟨a,a,(vY P a).mpr b⟩
  ·intro ⟨_,a,b⟩;exact⟨a,(vY P a).mp b⟩
theorem jh:(bj ns ws).length<=2*ns.length:=by
 unfold bj
 have:=A5 (fun i=>decide (ws.getD i 0≠0)) (List.range ns.length)
 rw[j6] at this;rw[eG,cc,cc,j6]
 omega
def vZ:Sp:=fun a H Q _=>∃ (b:Addr) (ns:List Str) (cs ws:List Nat),a=[.ref b]/\iN H b ns cs ws/\fP ns cs ws/\∀ H',ah H H'->Q (.str (fk ((bj ns ws).map (fE ns cs)))) H'
def A9 (ns:List Str)(ws:List Nat)(k:Nat):List Mx:=(List.range ns.length).map Mx.dq++((List.range k).filter fun i=>decide (ws.getD i 0≠0)).map fun i=>.sees i (il ns.length (ws.getD i 0))
theorem kB (ns:List Str)(ws:List Nat)(k:Nat):A9 ns ws (k+1)=if ws.getD k 0≠0 then A9 ns ws k++[.sees k (il ns.length (ws.getD k 0))] else A9 ns ws k:=by
 unfold A9;rw[FM,SZ,hO]
 by_cases c:ws.getD k 0≠0
 ·have e:(List.filter (fun i=>decide (ws.getD i 0≠0)) [k])=[k]:=by
   rw[filter_cons,if_pos (dt c)];rfl
  rw[if_pos c,e,<-ro];rfl
 ·have e:(List.filter (fun i=>decide (ws.getD i 0≠0)) [k])=[]:=by
   rw[filter_cons,if_neg (by rw[ed c];exact hI)];rfl
  rw[if_neg c,e,map_nil,TB]
theorem J8 (h:w<2 ^ n):aC w=il n w:=by
 rw[<-qL h];unfold il;have a:w.testBit=fun j=>decide (w / 2 ^ j % 2=1):=by funext j;exact ri
 rw[a]
theorem tE {l:List Str}(h:∀ x∈l,gm x):shaped (.list (l.map PyData.str))=true:=qU
 (by simp[PyData.canLay0,vR l h])
 (by have:=jF l;simp only[PyData.depth];omega)
def QY (H0:Hp)(b a1 a2 a3 r:Addr)(ns:List Str)(cs ws:List Nat)(k:Nat)(σ:St)(H:Hp):Prop:=∃ y5 y6:Option V,σ=[some (.ref b),some (.ref a1),some (.ref a2),some (.ref a3),some (.ref r),y5,y6]/\ah H0 H/\H r=some (.lst (((A9 ns ws k).map (dP ns cs)).map V.str))
def QZ (H0:Hp)(t a1 r:Addr)(ns:List Str)(cs ws:List Nat)(k:Nat)(σ:St)(H:Hp):Prop:=∃ y3 y4 y5:Option V,σ=[some (.ref t),some (.ref a1),some (.ref r),y3,y4,y5]/\ah H0 H/\H r=some (.lst (((A9 ns ws k).map (dP ns cs)).map V.str))
def Fl (h:Heap)(a T C:Addr)(d:Option Addr)(fl:Value):Prop:=
 ∃ oe vs oT ts,h.get? a=some oe/\oe.cls=.ref C/\oe.dict=d/\oe.data=.fields vs/\vs[1]?=some (.ref T)/\T≠a/\h.get? T=some oT/\oT.data=.fields ts/\ts[3]?=some fl
def Q0 (h:Heap)(H:Hp)(a T C:Addr)(d:Option Addr):Prop:=Fl h a T C d .none/\H a=none/\H T=none
def LP (P:Program)(w:World):Dz:=fun b H s E e c=>
 ∃ a T C d H',e=.ref a/\c.os=s.os/\AllBare c.gens/\Un (Dx b) [] H H' s.heap c.heap/\jz P w H' c.heap/\s.heap.get? a=none/\s.heap.get? T=none/\Q0 c.heap H' a T C d/\E (.ref C) d H'
variable {w:World}
theorem dQ {P:Program} :Passes (LP P w) X E0:=fun _ _ _ _ _ _ _ h=>by
 obtain⟨_,_,_,_,_,_,_,_,_,_,_,_,_,q⟩:=h;exact q.elim
theorem lx:fillsNumberSlot (.type "tuple") "mul"=pure false:=by
 first | (unfold fillsNumberSlot;kernel_rfl) | kernel_rfl
theorem tF:seqRepeat? (.type "tuple")=pure (some (.builtin "tuple.__mul__")):=by
 first | (unfold seqRepeat?;kernel_rfl) | kernel_rfl
theorem yU (a:Int)(t:Tok)(l:Addr)(dd:Option Addr)(items:Array Value)(n:Nat)(sl:Array (Option Value)) :
  Meets (Builtin.«int.__rmul__» ⟨[.int a t,.ref l],[]⟩) (fun _ R s=>s.heap.get? l=some ⟨.type "tuple",dd,.seq items n,sl⟩/\R (.ok (.ret Value.notImplemented)) s):=
 .of_wp fun b w A R s h=>by obtain⟨c,g,d,i,e⟩:=s;obtain⟨f,h⟩:=h;wp_walk;exact⟨_,rfl,h⟩
section
variable {k:Int}(t:Tok)(l:Addr)(dd:Option Addr)(it:Value)(n:Nat)(sl:Array (Option Value))
theorem GA (m:Nat):List.foldl (fun x1 x2=>x1++x2) #[] (List.replicate m #[it])=(List.replicate m it).toArray:=by
 have:∀ (m:Nat) (a:List Value),List.foldl (fun x1 x2=>x1++x2) a.toArray (List.replicate m #[it])=(a++List.replicate m it).toArray:=by
  intro m
  induction m with
  | zero=>intro a;simp
  | succ m b=>
   intro a;rw[Tg,foldl_cons,show a.toArray++#[it]=(a++[it]).toArray from by simp,b,ro]
   simp[List.replicate_succ]
 simpa using this m []
theorem Cw (h1:1<k)(h2:k<=1000) :
  Meets (Builtin.«tuple.__mul__» ⟨[.ref l,.int k t],[]⟩) (fun _ R s=>s.heap.get? l=some ⟨.type "tuple",dd,.seq #[it] n,sl⟩/\R (.ok (.ret (.ref s.heap.objs.size))) {s with heap:=s.heap.push {cls:=.type "tuple",data:=.seq (List.replicate k.toNat it).toArray}}):=
 .of_wp fun b w A R s h=>by
  obtain⟨o,g,d,m,p⟩:=s;obtain⟨q,h⟩:=h;have f:(decide (k < -(2 ^ 63))||decide (k ≥ 2 ^ 63))=false:=by rw[ed (by omega),ed (by omega)];rfl
  have c:((#[it]:Array Value).isEmpty||k == 1)=false:=by rw[show (k == 1)=false from Dq.mpr (by omega)];rfl
  have j:(decide (k<=0)||(#[it]:Array Value).isEmpty)=false:=by rw[ed (by omega)];rfl
  have e:¬ (((#[it]:Array Value).size:Int)*k>(2 ^ 63 - 1) / 8):=by show ¬ ((1:Int)*k>_);omega
  have sl:(sizeLine:Int) ≥ 1000:=by decide
  have i:Builtin.Tuple.tupleTooMany (((#[it]:Array Value).size:Int)*k)=false:=by
   unfold Builtin.Tuple.tupleTooMany;exact ed (by show ¬ ((1:Int)*k>_);omega)
  have a:(List.replicate k.toNat it).toArray.size<=sizeLine:=by rw[fO,length_replicate];omega
  unfold Builtin.«tuple.__mul__»
  k_delta "repeated"
  wp_walk
  rw[if_neg (by rw[f];exact hI)]
  wp_walk
  rw[if_neg (by rw[c];exact hI)]
  wp_walk
  rw[if_neg (by rw[j];exact hI)]
  rw[if_neg e,if_neg (by rw[i];exact hI),GA]
  unfold Builtin.Tuple.tupleExact;refine cv (wpAny_newObj_type ?_ a);exact gd ⟨_,rfl,h⟩
theorem yV :
  Meets (Builtin.«tuple.__mul__» ⟨[.ref l,.int 1 t],[]⟩) (fun _ R s=>s.heap.get? l=some ⟨.type "tuple",dd,.seq #[it] n,sl⟩/\R (.ok (.ret (.ref l))) s):=
 .of_wp fun a w A R s h=>by
  obtain⟨b,g,d,f,c⟩:=s;obtain⟨e,h⟩:=h;unfold Builtin.«tuple.__mul__»
  k_delta "repeated"
  wp_walk
  exact⟨_,rfl,h⟩
theorem yW :
  Meets (Builtin.«tuple.__mul__» ⟨[.ref l,.int 0 t],[]⟩) (fun _ R s=>s.heap.get? l=some ⟨.type "tuple",dd,.seq #[it] n,sl⟩/\R (.ok (.ret (.ref s.heap.objs.size))) {s with heap:=s.heap.push {cls:=.type "tuple",data:=.seq #[]}}):=
 .of_wp fun a w A R s h=>by
  obtain⟨b,g,d,f,c⟩:=s;obtain⟨e,h⟩:=h;unfold Builtin.«tuple.__mul__»
  k_delta "repeated"
  wp_walk
  exact⟨_,rfl,h⟩
end
def LQ (K:Frag):R2:=fun x y H Q=>∃ (l:Addr) (k:Nat) (v:V),x=.ref l/\y=.int (k:Int)/\aH K H l [v]/\k<=1000/\∀ p H',ah H H'->aH K H' p (List.replicate k v)->Q (.ref p) H'
theorem v7 {v:V}{u:Value}(r:RelV v u):∀ k:Nat,Vals (List.replicate k v) (List.replicate k u)
 | 0=>.nil
 | k+1=>.cons r (v7 r k)
theorem GB (h:X.K=K):eC X (binaryOp .Mult) (LQ K):=by
 subst h;intro p s σ H x y v u Q I C A h;obtain⟨l,k,w,rfl,rfl,j,hk,q⟩:=h
 cases C
 obtain⟨t,rfl⟩:=A;obtain⟨g,r,⟨⟨cls,f,data,d⟩,e,m,n,z⟩,_⟩:=I.tuple j
 simp only at m z
 subst m z;obtain⟨c,rfl,D⟩:∃ c,g=[c]/\RelV w c:=by
  cases r with
  | cons a b=>cases b;exact⟨_,rfl,a⟩
 have hz:(List.replicate k w).length<=sizeLine:=by
  have:1000<=sizeLine:=by decide
  rw[length_replicate];omega
 refine wpAny_binaryOp_repeat_ref (T:="tuple") (U:="int") (by decide) ⟨_,e,rfl⟩ (fun B=>typeIs_int B k t) lx F.fills_int_mul F.slot_int_rmul tF F.slot_int_index.lookup
  (Pi F.slot_int_rmul (typeIs_int s k t) F.entry_int_rmul (F.args_int_rmul_2 _ _) (yU k t l f [c].toArray n d) ⟨e,rfl,⟨_,e,rfl⟩,?_⟩)
 rcases Nat.lt_or_ge 1 k with h1 | h1
 ·refine Pi F.slot_tuple_mul ⟨_,e,rfl⟩ F.entry_tuple_mul (F.args_tuple_mul_2 _ _) (Cw t l f c n d (k:=(k:Int)) (by omega) (by omega)) ⟨e,?_⟩
  rw[yx];have i:=I.laid (t':=s.toks) (a:=s.heap.objs.size) (o:=.tup (List.replicate k w)) (h':=s.heap.push {cls:=.type "tuple",data:=.seq (List.replicate k c).toArray}) (fun _ _ q=>ey _ q) (dy _) ⟨hz,_,v7 D k,_,j9 _ rfl,rfl,0,rfl⟩;exact⟨.ref _,_,i,rfl,q _ _ (ah.new I.fresh _) (aH.of ag)⟩
 ·have hc:k=0∨k=1:=by omega
  rcases hc with rfl | rfl
  ·refine Pi F.slot_tuple_mul ⟨_,e,rfl⟩ F.entry_tuple_mul (F.args_tuple_mul_2 _ _) (yW t l f c n d) ⟨e,?_⟩;have i:=I.laid (t':=s.toks) (a:=s.heap.objs.size) (o:=.tup []) (h':=s.heap.push {cls:=.type "tuple",data:=.seq #[]}) (fun _ _ q=>ey _ q) (dy _) ⟨zero_le _,[],.nil,_,j9 _ rfl,rfl,0,rfl⟩;exact⟨.ref _,_,i,rfl,q _ _ (ah.new I.fresh _) (aH.of ag)⟩
  ·refine Pi F.slot_tuple_mul ⟨_,e,rfl⟩ F.entry_tuple_mul (F.args_tuple_mul_2 _ _) (yV t l f c n d) ⟨e,?_⟩;exact⟨.ref l,H,I,rfl,q _ _ (ah.refl _) j⟩
theorem GC {x y:V} :LQ K x y H Q=∃ (l:Addr) (k:Nat) (v:V),x=.ref l/\y=.int (k:Int)/\aH K H l [v]/\k<=1000/\∀ p H',ah H H'->aH K H' p (List.replicate k v)->Q (.ref p) H':=rfl
def Ba (K:Frag)(x:Str)(C:Addr)(fields:List Str):Bool:=
 nsIn K mainGlobals x == some (some (.ref C))&&plainGet K C Str.empty&&hasDictIn K C&&plainOver K C&&findIn K (.ref C) "__setattr__" == some (some (.builtin "object.__setattr__"))&&
 makesIn K C&&keepIn K (.ref C)&&fields.all fun f=>findIn K (.ref C) f == some none
structure gp (K:Frag)(mg:Str->Option Value)(x:Str)(C:Addr)(fields:List Str):Prop where
 gl:mg x=some (.ref C)
 cls:KW K C
 makes:makesIn K C=true
 kp:keepIn K (.ref C)=true
 no:∀ f∈fields,nu K C f
variable {h:Heap}{x:Str}{fields:List Str}
theorem Bb {mg:Str->Option Value}{C:Addr}(X:K.In h)(G:h.Ns mainGlobals mg)(e:Ba K x C fields=true):gp K mg x C fields:=by
 unfold Ba at e;simp only[Bool.and_eq_true,beq_iff_eq,List.all_eq_true] at e;obtain⟨⟨⟨⟨⟨⟨⟨a,b⟩,c⟩,d⟩,f⟩,g⟩,i⟩,j⟩:=e;exact⟨mg_of X G a,⟨b,c,d,f⟩,g,i,j⟩
structure pA (K:Frag)(C:Addr)(m qual:Str)(st:Stmt):Prop where
 ex:∃ f fd,Ia K m qual st f fd/\Meth K C m f
variable {st:Stmt}{m:Str}{od:Option Addr}
theorem J9 {C:Addr}{qual:Str}{f:Addr}{oc:Value}{an:Option Addr}{osl:Array (Option Value)}{kV doc pm cX ct:Value}
  (a:findIn K (.ref C) m=some (some (.ref f))) (l:K.lookup f=some ⟨oc,od,.func (fnOf m qual (bB st) (aY st) (ak st) .none kV doc pm an cX ct),osl⟩)
  (c:codeIn K cX qual=true) (k:keepIn K (.ref f)=true) (i:isFn K (.ref f)=true):pA K C m qual st:=⟨f,_,x9 l c k,a,i,k⟩
def mh (s:Stmt)(j:Nat):Stmt:=match s with
 | .ClassDef _ _ _ a _ _ _ _ _ _ _=>a.getD j (.Pass ⟨0,0,0,0⟩)
 | _=>.Pass ⟨0,0,0,0⟩
structure uK (P:Program)(w:World)(K:Frag)(mg:Str->Option Value)(base:Heap)(k:Nat)(C:Addr)(m:Str)(ps:List Str)(sp:Sp):Prop where
 ex:∃ f fd,fj P w K mg base (LP P w) k f fd ps sp/\Meth K C m f/\Binds K fd ps []
variable {P:Program}{mg:Str->Option Value}{base:Heap}{k:Nat}{ps:List Str}{sp:Sp}
theorem fj.lift {f:Addr}{fd:FuncData}(F:fj P w K mg base BW k f fd ps sp):fj P w K mg base (LP P w) k f fd ps sp:=
 ⟨F.len,fun A a s H b h c Q E g d hb l i=>TV (F.run A a s H b h c Q E g d hb l i) fun r m z=>by
  cases r with
  | error e=>exact False.elim z
  | ok j=>cases j<;>exact z⟩
variable {qual:Str}{C:Addr}
theorem pA.gq (D:pA K C m qual st)(S:DS (ak st) N ps G)
  (hb:∀ (kV doc pm:Value) (an:Option Addr) (cX ct:Value) (us:List Value),us.length=ps.length->bindArgs (fnOf m qual (bB st) (aY st) (ak st) .none kV doc pm an cX ct) ⟨us,[]⟩=pure (ps.zip us))
  (len:∀ vs H Q E,sp vs H Q E->vs.length=ps.length)
  (eO:∀ (X:Cx),Sc X N N G->X.prog=P->X.w=w->X.K=K->X.mg=mg->X.base=base->X.calm=true->X.env.scope=ak st->X.xe=(fun _ _=>False)->cM k X.A->X.A.units+64<cLine->
   ∀ (H:Hp) (vs:List V) (Q:VK) (E:XK),sp vs H Q E->∃ t,B0 X (aY st) t/\t {nx:=fun _ H'=>Q .bE H',rt:=Q} (L2.start N vs) H):uK P w K mg base (k+1) C m ps sp:=by
 obtain⟨f,c,F,M⟩:=D.ex;refine⟨f,c,fj.lift ?_,M,F.binds hb⟩;refine F.ok S.fs len fun cX A a s H vs Q E b h=>?_;obtain⟨t,z,y⟩:=eO _ S.cx rfl rfl rfl rfl rfl rfl rfl rfl b b.units H vs Q E h;exact⟨t,z.h,y⟩
def SN (C:Addr)(f:Str)(ta:TE):TE:=fun σ H Q=>ta σ H fun x H1=>∃ a dx fs v,x=.ref a/\H1 a=some (.ins C dx fs)/\fs.lookup f=some v/\Q v H1
def SO (C:Addr)(f:Str)(ta tv:TE):TS:=fun D σ H=>tv σ H fun y H1=>ta σ H1 fun x b=>∃ a dx fs,x=.ref a/\b a=some (.ins C dx fs)/\fs.length<1000/\D.nx σ (upd b a (.ins C dx (dA f y fs)))
variable {f:Str}{ta:TE}
theorem v9 (T:gp X.K X.mg x C fields)(he:QE X e ta)(hf:f∈fields:=by decide)(hb:attributeBase e f X.env (eval e X.env)=eval e X.env:=by rfl):QE X (.Attribute e f pos) (SN C f ta):=by
 refine⟨fun b s σ H Q I h=>ID hb (bV (he.h b s σ H _ I h) fun u r ⟨x,H1,j,d,a,o,fs,v,c,g,l,q⟩=>?_)⟩;subst c;obtain rfl:u=Value.ref a:=d;exact xN j g T.cls (T.no f hf) l fun n p i m=>⟨v,H1,i,m,q⟩
variable {pos':Pos}{value:Expr}
theorem OP (T:gp X.K X.mg x C fields)(ha:QE X o ta)(hv:QE X value tv)(hf:f∈fields:=by decide)(hs:swapsWith value (some (.Attribute o f pos')) pos.line X.env=pure false:=by rfl):QS X (.Assign [.Attribute o f pos'] value pos) (SO C f ta tv):=by
 refine⟨fun b s σ H D I h=>plainObj_wpAny_Assign_Attribute (bV (hv.h b s σ H _ I h) fun u r ⟨y,H1,p,e,q⟩=>bV (ha.h b r σ H1 _ p q) fun c w ⟨x,v,n,g,a,t,fs,d,m,l,i⟩=>?_) hs⟩;subst d;obtain rfl:c=Value.ref a:=g;exact xO n m T.cls (T.no f hf) l e fun z j=>⟨σ,_,j,i⟩
variable {apos:Pos}{es:List Expr}{t:TA}{E:XK}
theorem Bc {pl:Sem Bool}(T:gp X.K X.mg x C fields)(F:uK X.prog X.w X.K X.mg X.base k C m ps sp)(hx:Passes (LP X.prog X.w) X E)(hr:cM n X.A)(he:QE X o ta)(ha:QB X (e::es) t)(hk:k<=n:=by decide)
  (ht:eval (.Call (.Attribute o m apos) (e::es) [] pos) X.env=(do
   let ov<-eval o X.env
   standAt apos.atName
   let (f,first)<-holding [ov] (getMethod ov m pl)
   callWith pos f first (backTo pos (starEach (e::es) X.env)) (backToKw pos (keywordEach [] X.env))):=by rfl) :
  QE X (.Call (.Attribute o m apos) (e::es) [] pos) (qo C m sp [] E ta t):=by
 obtain⟨f,a,F,M,hb⟩:=F.ex;exact⟨IH he.h T.cls M F (hr.mono hk) hb .nil hx ha.h.pa (ba ha.h.he) (de ha.h.EG) ht⟩
theorem Ss {pl:Sem Bool}(T:gp X.K X.mg x C fields)(F:uK X.prog X.w X.K X.mg X.base k C m ps sp)(hx:Passes (LP X.prog X.w) X E)(hr:cM n X.A)(he:QE X o ta)(hk:k<=n:=by decide)
  (ht:eval (.Call (.Attribute o m apos) [] [] pos) X.env=(do
   let ov<-eval o X.env
   standAt apos.atName
   let (f,first)<-holding [ov] (getMethod ov m pl)
   callWith pos f first (backTo pos (starEach [] X.env)) (backToKw pos (keywordEach [] X.env))):=by rfl) :
  QE X (.Call (.Attribute o m apos) [] [] pos) (qo C m sp [] E ta xR):=by
 obtain⟨f,a,F,M,hb⟩:=F.ex;exact⟨D4 he.h T.cls M F (hr.mono hk) hb .nil hx ht⟩
theorem S8 (S:Sc X N W G)(g:Nat)(T:gp X.K X.mg x C fields)(F:uK X.prog X.w X.K X.mg X.base k C "__init__" ps sp)(hx:Passes (LP X.prog X.w) X E)(hr:cM n X.A)(ha:QB X (e::es) t)(hk:k+1<=n:=by decide)(hg:G[g]?=some x:=by rfl) :
  QE X (.Call (.Name x p) (e::es) [] pos) (qp C sp [] E t):=by
 obtain⟨f,a,F,M,hb⟩:=F.ex;have q:=S.gl x (h5 hg);exact⟨Al ⟨T.makes,M.at_,M.fn,T.kp⟩ F (hr.mono hk) q.1 T.gl hb .nil hx ha.h.pa q.2.1 (ba ha.h.he) (de ha.h.EG)⟩
theorem Q1:SN C f ta σ H Q=ta σ H fun x H1=>∃ a dx fs v,x=.ref a/\H1 a=some (.ins C dx fs)/\fs.lookup f=some v/\Q v H1:=rfl
variable {D:Ends}
theorem LR:SO C f ta tv D σ H=tv σ H fun y H1=>ta σ H1 fun x H2=>∃ a dx fs,x=.ref a/\H2 a=some (.ins C dx fs)/\fs.length<1000/\D.nx σ (upd H2 a (.ins C dx (dA f y fs))):=rfl
theorem GD:qo C m sp [] E ta t σ H Q=ta σ H fun x H1=>∃ a dx fs,x=.ref a/\H1 a=some (.ins C dx fs)/\fs.lookup m=none/\t σ H1 fun vs H2=>sp (x::vs) H2 Q E:=by
 unfold qo;simp only[append_nil]
theorem GH:qp C sp [] E t σ H Q=t σ H fun vs H1=>∀ x dx,H1 x=none->H1 dx=none->dx≠x->sp (.ref x::vs) (upd (upd H1 dx (.own x)) x (.ins C dx [])) (fun v H2=>v=.bE/\Q (.ref x) H2) E:=by
 unfold qp;simp only[append_nil]
def gs (cs hs:List Int):Bool:=decide (hs.length=cs.length)&&(List.range cs.length).all fun k=>decide (0<=hs.getD k 0)&&decide (hs.getD k 0<cs.getD k 0)
def LS (K:Frag):Sp:=fun a H Q _=>∃ (c h:Addr) (cs hs:List Int),a=[.ref c,.ref h]/\aH K H c (cs.map V.int)/\aH K H h (hs.map V.int)/\cs.length<=90/\∀ H',ah H H'->Q (.bl (gs cs hs)) H'
def xA (c g n:Addr):List (Str × V):=[("counts",.ref c),("groups",.ref g),("worn",.ref n)]
structure cC (K:Frag)(C:Addr)(H:Hp)(a:Addr)(c g:Addr)(cs:List Int)(us:List V)(hs:List Int):Prop where
 ex:∃ dx n,H a=some (.ins C dx (xA c g n))/\aH K H n (hs.map V.int)
 Oz:aH K H c (cs.map V.int)
 OV:aH K H g us
def Ka (K:Frag)(C:Addr)(er:Str->Addr):Sp:=fun a H Q E=>∃ (x dx c w g:Addr) (cs:List Int) (ws:List Nat) (us:List V) (L:List (Bool × List Int)),a=[.ref x,.ref c,.ref w,.ref g]/\H x=some (.ins C dx [])/\aH K H c (cs.map V.int)/\aH K H w ((az ws).map V.int)/\aH K H g us/\GI K H us L/\ws.length=cs.length/\cs.length<=8/\(∀ g∈L,g.2.length<=30)/\L.length<=30/\
 (DE cs ws [] 0 L≠none->∀ H',ah H H'->E (.ref (er "NoGroups")) none H')/\(DE cs ws [] 0 L=none->∀ H',Off x H H'->cC K C H' x c g cs us (List.replicate cs.length 0)->Q .bE H')
def LU (c:Addr):List (Str × V):=[("counts",.ref c)]
def Bd (c g:Addr):List (Str × V):=[("counts",.ref c),("groups",.ref g)]
variable {c:Addr}
theorem Cy:dA "counts" (.ref c) []=LU c:=rfl
variable {g:Addr}
theorem Cz:dA "groups" (.ref g) (LU c)=Bd c g:=by
 unfold LU dA;rw[if_neg (by decide)];rfl
variable {n:Addr}
theorem Kb:dA "worn" (.ref n) (Bd c g)=xA c g n:=by
 unfold Bd dA;rw[if_neg (by decide)];unfold dA;rw[if_neg (by decide)];rfl
theorem GJ {m:Addr}:dA "worn" (.ref m) (xA c g n)=xA c g m:=by
 unfold xA dA;rw[if_neg (by decide)];unfold dA;rw[if_neg (by decide)];unfold dA;rw[if_pos rfl]
theorem ly:(xA c g n).lookup ("counts":Str)=some (.ref c):=rfl
theorem rk:(xA c g n).lookup ("groups":Str)=some (.ref g):=by
 unfold xA;rw[Te,show (("groups":Str) == ("counts":Str))=false from by decide];rfl
theorem mV:(xA c g n).lookup ("worn":Str)=some (.ref n):=by
 unfold xA;rw[Te,show (("worn":Str) == ("counts":Str))=false from by decide];dsimp only;rw[Te,show (("worn":Str) == ("groups":Str))=false from by decide];rfl
theorem we (h1:(m == ("counts":Str))=false:=by decide)(h2:(m == ("groups":Str))=false:=by decide)(h3:(m == ("worn":Str))=false:=by decide):(xA c g n).lookup m=none:=by
 unfold xA;rw[Te,h1];dsimp only;rw[Te,h2];dsimp only;rw[Te,h3];rfl
variable {r dx:Addr}{fs:List (Str × V)}{H':Hp}{xs:List V}
theorem aH.dk (s:Off a H H')(ha:H a=some (.ins C dx fs))(h:aH K H r xs):aH K H' r xs:=by
 rcases h with (h | ⟨o,h⟩) | h
 ·exact .inl (.inl (s r _ (gj h ha fun z=>nomatch z) h))
 ·exact .inl (.inr ⟨o,s r _ (gj h ha fun z=>nomatch z) h⟩)
 ·exact .inr h
theorem vC.dk {p:Addr}(s:Off a H H')(ha:H a=some (.ins C dx fs)):vC K H p->vC K H' p
 | .inl h=>.inl h
 | .inr ⟨o,u,h,c⟩=>.inr ⟨o,u,s p _ (gj h ha fun z=>nomatch z) h,c⟩
theorem GF.dk (s:Off a H H')(ha:H a=some (.ins C dx fs)):∀ {vs:List V} {L:List (Bool × List Nat)},GF K H vs L->GF K H' vs L
 | [],[],h=>h
 | _::_,_::_,⟨⟨r,p,e,h,b,t⟩,q⟩=>⟨⟨r,p,e,h.dk s ha,b.dk s ha,t.dk s ha⟩,GF.dk s ha q⟩
 | [],_::_,h=>h.elim
 | _::_,[],h=>h.elim
variable {cs hs':List Int}
theorem cC.off {n':Addr}{hs:List Int}{us:List V}(h:cC K C H a c g cs us hs)(s:Off a H H')(e:∃ dx,H' a=some (.ins C dx (xA c g n')))(hn:aH K H' n' (hs'.map V.int)):cC K C H' a c g cs us hs':=by
 obtain⟨dx,n,d,_⟩:=h.ex;obtain⟨b,e⟩:=e;exact⟨⟨b,n',e,hn⟩,h.Oz.dk s d,h.OV.dk s d⟩
theorem cC.mono {hs:List Int}{us:List V}(h:cC K C H a c g cs us hs)(s:ah H H'):cC K C H' a c g cs us hs:=by
 obtain⟨b,n,d,hn⟩:=h.ex;exact⟨⟨b,n,s _ _ d,s.aL hn⟩,s.aL h.Oz,s.aL h.OV⟩
def GK (K:Frag)(C:Addr)(er:Str->Addr):Sp:=fun b H Q E=>∃ (a hb c g:Addr) (cs hs0 hs:List Int) (us:List V),b=[.ref a,.ref hb]/\cC K C H a c g cs us hs0/\aH K H hb (hs.map V.int)/\cs.length<=90/\
 (gs cs hs=false->∀ H',ah H H'->E (.ref (er "NoHats")) none H')/\(gs cs hs=true->∀ H',Off a H H'->cC K C H' a c g cs us hs->Q .bE H')
def N8 (K:Frag)(C:Addr)(er:Str->Addr):Sp:=fun b H Q E=>∃ (a c g:Addr) (cs hs0:List Int) (us:List V) (i col:Int),b=[.ref a,.int i,.int col]/\cC K C H a c g cs us hs0/\hs0.length=cs.length/\cs.length<=90/\
 (¬ (0<=i/\i<(cs.length:Int))->∀ H',ah H H'->E (.ref (er "NoName")) none H')/\(0<=i/\i<(cs.length:Int)->gs cs (hs0.set i.toNat col)=false->∀ H',ah H H'->E (.ref (er "NoHats")) none H')/\
 (0<=i/\i<(cs.length:Int)->gs cs (hs0.set i.toNat col)=true->∀ H',Off a H H'->cC K C H' a c g cs us (hs0.set i.toNat col)->Q .bE H')
def nW (K:Frag)(C:Addr):Sp:=fun b H Q _=>∃ (a c g:Addr) (cs hs:List Int) (ws:List Nat) (us:List V) (L:List (Bool × List Nat)) (i:Nat),b=[.ref a,.int i]/\cC K C H a c g cs us hs/\GF K H us L/\cp cs/\HN cs hs cs.length/\yD cs ws L/\i<cs.length/\∀ H',ah H H'->Q (.int (sT cs L hs i)) H'
structure SQ (cs:List Int)(g:Bool × List Nat):Prop where
 lt:∀ x∈g.2,x<cs.length
 nd:g.2.Nodup
 ne:1<=g.2.length
 ring:g.1=true->2<=g.2.length/\∀ x∈g.2,cs.getD x 0=2
 fh:g.1=false->nN g.2=true
def gI (L:List (Bool × List Nat)):List (Bool × List Int):=L.map fun g=>(g.1,az g.2)
theorem GF.gi {K:Frag}{H:Hp}:∀ {vs:List V} {L:List (Bool × List Nat)},GF K H vs L->GI K H vs (gI L)
 | [],[],h=>h
 | _::_,_::_,⟨⟨r,p,e,h,a,_⟩,q⟩=>⟨⟨r,p,e,h,a⟩,GF.gi q⟩
 | [],_::_,h=>h.elim
 | _::_,[],h=>h.elim
variable {g:Bool × List Nat}
theorem N9 (h:ON cs ws g)(a:SQ cs g):DC cs ws (g.1,az g.2)=true:=by
 unfold DC;have b:decide (1<=(az g.2).length)=true:=dt (by rw[ao];exact a.ne)
 have e2:Ie cs.length (az g.2)=true:=by
  unfold Ie az;rw[P3,kb];intro x hx
  have:=a.lt x hx
  simp only[Function.comp,Bool.and_eq_true,decide_eq_true_eq]
  omega
 show (decide (1<=(az g.2).length)&&(Ie cs.length (az g.2)&&Ck cs ws g.1 (nats (az g.2))))=true;rw[b,e2,FN,q7,q7];unfold Ck
 cases hb:g.1 with
 | true=>
  obtain⟨c,hc,d⟩:=h.ring hb;rw[if_pos rfl,gz];refine⟨?_,?_⟩
  ·unfold ju;rw[dt c,dt h.nd,q7,q7,kb];intro k hk;have hk:=gc.mp hk
   have:=d (ahead g.2.length k) (by unfold ahead;split<;>omega)
   have e:(ahead g.2.length k+1) % g.2.length=k:=by
    unfold ahead
    split
    ·rename_i z;rw[show g.2.length - 1+1=g.2.length by omega,mod_self,z]
    ·rw[show k - 1+1=k by omega,T8 hk]
   rw[e] at this;exact this
  ·rw[kb];exact fun x hx=>dt (hc x hx)
 | false=>
  rw[if_neg hI,a.fh hb,q7];unfold bN;rw[kb];intro x hx;rw[kb];intro y hy
  by_cases e:y=x
  ·rw[dt e];rfl
  ·rw[h.fh hb x hx y hy (Ne.symm e),Bool.or_true]
theorem Be {cs:List Int}{ws:List Nat}:∀ {L:List (Bool × List Nat)} {gone:List Nat} {k:Nat},(∀ g∈L,ON cs ws g/\SQ cs g)->(L.Pairwise fun g h=>∀ x∈g.2,x∉h.2)->(∀ g∈L,∀ x∈g.2,x∉gone)->DE cs ws (az gone) k (gI L)=none
 | [],_,_,_,_,_=>rfl
 | g::L,gone,k,h,d,n=>by
  have h1:=h g fA;show (if (DC cs ws (g.1,az g.2)&&!((az g.2).any fun i=>decide (i∈az gone)))=true then DE cs ws (az gone++az g.2) (k+1) (gI L) else some k)=none
  have e:((az g.2).any fun i=>decide (i∈az gone))=false:=by
   rw[List.any_eq_false];intro i hi;obtain⟨x,hx,rfl⟩:=ih.mp hi;rw[mo];exact fun z=>n g fA x hx (mO.mp z)
  rw[N9 h1.1 h1.2,e,if_pos (by decide),<-dZ]
  obtain⟨f,c⟩:=Fk.mp d;refine Be (fun b a=>h b (eH _ a)) c fun b a x hx z=>?_
  rcases ka.mp z with z | z
  ·exact n b (eH _ a) x hx z
  ·exact f b a x z hx
theorem GN (row:List Nat)(p:Nat->Bool):(((List.range (az row).length).filter fun j=>p (row.getD j 0)).map fun j=>((row.getD j 0:Nat):Int))=az (row.filter p):=by
 have e:row=(List.range row.length).map fun k=>row.getD k 0:=by
  apply ext_getElem
  ·simp
  ·intro i h1 a;simp[h1]
 have f:=List.filter_map (f:=fun k=>row.getD k 0) (p:=p) (l:=List.range row.length);rw[<-e] at f;rw[ao,f];unfold az;rw[kc]
 rfl
def eL (cs hs:List Int)(L:List (Bool × List Nat)):List Nat:=(List.range cs.length).filter fun i=>decide (sT cs L hs i=hs.getD i 0)
theorem GP {hs:List Int}(h:HN cs hs cs.length):gs cs hs=true:=by
 unfold gs;rw[dt h.1,q7,kb];intro k hk
 have:=h.2 k (gc.mp hk)
 rw[dt this.1,dt this.2]
 rfl
theorem HN.Oa (h:∀ c∈cs,1<=c):HN cs (List.replicate cs.length 0) cs.length:=by
 refine⟨length_replicate,fun i hi=>?_⟩
 have:=h _ (L2.getD_mem hi)
 rw[show (List.replicate cs.length (0:Int)).getD i 0=0 by rw[b4,List.getElem?_replicate,if_pos hi];rfl]
 omega
variable {A B:TS}
theorem Su {σ:L2.St}(I:L2.St->Hp->Prop)(h2:∀ σ' H',I σ' H'->B D σ' H')(h1:∀ R:L2.St->Hp->Prop,(∀ σ' H',I σ' H'->R σ' H')->A {D with nx:=R} σ H):BG A B D σ H:=h1 (B D) h2
theorem Ob (L:List (Bool × List Nat)):(gI L).length=L.length:=cc _
theorem ah.GQ (s:ah H H')(h:H' b=none):H b=none:=by
 cases e:H b with
 | none=>rfl
 | some o=>rw[s _ _ e] at h;cases h
def Sub (a m:Nat):Prop:=∀ j,a.testBit j=true->m.testBit j=true
def GR (a b:Nat):Prop:=∀ j,a.testBit j=true->b.testBit j=false
variable {a b:Nat}
theorem GR.symm (h:GR a b):GR b a:=fun j hj=>by
 cases e:a.testBit j with
 | false=>rfl
 | true=>rw[h j e] at hj;cases hj
theorem Sub.trans {c:Nat}(h:Sub a b)(k:Sub b c):Sub a c:=fun j hj=>k j (h j hj)
variable {m:Nat}
theorem Sub.and (h:Sub a m):m&&& a=a:=sQ.mpr h
theorem Kc (a b:Nat):a&&& b=2*(a / 2&&& b / 2)+(a % 2)*(b % 2):=by
 have h1:(a&&& b) / 2=a / 2&&& b / 2:=Nat.and_div_two;have c:(a&&& b) % 2=(a % 2)*(b % 2):=by
  have:=Nat.and_mod_two_pow (a:=a) (b:=b) (n:=1)
  rw[Nat.pow_one] at this;rw[this]
  rcases Tt a with e | e<;>rcases Tt b with f | f<;>rw[e,f]<;>decide
 omega
theorem Sub.le (h:Sub a m):a<=m:=by
 have:=h.and
 rw[<-this];exact Nat.and_le_left
theorem Kd:∀ (m:Nat),0<m->∃ i,m.testBit i=true/\m - (m&&& (m - 1))=2 ^ i:=by
 intro m
 induction m using Nat.strongRecOn with
 | _ m b=>
  intro c;have hm:=Kc m (m - 1)
  rcases Tt m with e | e
  ·obtain⟨i,h1,d⟩:=b (m / 2) (by omega) (by omega)
   refine⟨i+1,by rw[Nat.testBit_succ];exact h1,?_⟩
   have a:(m - 1) / 2=m / 2 - 1:=by omega
   rw[a,e,Nat.zero_mul] at hm;rw[Nat.pow_succ]
   omega
  ·refine⟨0,by rw[Nat.testBit_zero,e];rfl,?_⟩
   have a:(m - 1) / 2=m / 2:=by omega
   have e2:(m - 1) % 2=0:=by omega
   rw[a,e2,Nat.and_self] at hm;rw[Nat.pow_zero]
   omega
theorem ji (h:Sub a m)(j:Nat):(m - a).testBit j=(m.testBit j&&!a.testBit j):=by
 have:=iG m a j
 rwa [h.and] at this
theorem tG (h:GR a b)(j:Nat):(a+b).testBit j=(a.testBit j||b.testBit j):=by
 have z:a&&& b=0:=by
  apply Ta
  intro j;rw[testBit_and,TX]
  cases e:a.testBit j with
  | false=>rfl
  | true=>rw[h j e];rfl
 rw[nH,z,Nat.add_zero,testBit_or]
theorem gQ (h:m.testBit i=true):Sub (2 ^ i) m:=fun j hj=>by
 rw[L1,mo] at hj;rw[<-hj];exact h
theorem cw (h:m.testBit i=true)(j:Nat):(m - 2 ^ i).testBit j=(m.testBit j&&!decide (i=j)):=by
 rw[ji (gQ h),L1]
def Ke (m:Nat)(l:List Nat):Prop:=(∀ a∈l,Sub a m)/\l.Pairwise GR
def val (v:Nat->Nat)(l:List Nat):Nat:=(l.map v).sum
theorem Kf {part:Nat}(hi:m.testBit i=true)(hp:Sub part (m - 2 ^ i))(h:Ke ((m - 2 ^ i) - part) l):Ke m ((2 ^ i+part)::l):=by
 have d:GR (2 ^ i) part:=fun j hj=>by
  rw[L1,mo] at hj
  cases e:part.testBit j with
  | false=>rfl
  | true=>
   have:=hp j e
   rw[cw hi,hj] at this
   simp at this
 have b:Sub (2 ^ i+part) m:=fun j hj=>by
  rw[tG d,SL] at hj
  rcases hj with hj | hj
  ·exact gQ hi j hj
  ·have:=hp j hj
   rw[cw hi,gz] at this;exact this.1
 have c:Sub (m - 2 ^ i - part) m:=fun j hj=>by
  rw[ji hp,cw hi,gz,gz] at hj;exact hj.1.1
 refine⟨fun a f=>?_,Fk.mpr ⟨fun a f j hj=>?_,h.2⟩⟩
 ·rcases hU.mp f with e | e
  ·rw[e];exact b
  ·exact(h.1 a e).trans c
 ·cases e:a.testBit j with
  | false=>rfl
  | true=>
   have:=h.1 a f j e
   rw[ji hp,cw hi] at this;rw[tG d,SL,L1,mo] at hj
   rcases hj with hj | hj
   ·rw[hj] at this;simp at this
   ·rw[hj] at this;simp at this
variable {v:Nat->Nat}
theorem GS {l':List Nat}(h:l.Perm l'):val v l=val v l':=by
 unfold val;exact(h.map v).sum_nat
theorem Oc {X:Nat}(hi:m.testBit i=true)(f:Nat->Nat)(hf:∀ k,k<m->∀ l,Ke k l->val v l<=f k)(h1:f (m - 2 ^ i)<=X)
  (h2:∀ part,Sub part (m - 2 ^ i)->v (2 ^ i+part)+f ((m - 2 ^ i) - part)<=X):∀ l,Ke m l->val v l<=X:=by
 intro l s;have x:2 ^ i<=m:=(gQ hi).le;have A:0<2 ^ i:=FS i
 by_cases c:∃ a∈l,a.testBit i=true
 ·obtain⟨a,p,g⟩:=c;have n:l.Perm (a::l.erase a):=List.perm_cons_erase p;have t:(a::l.erase a).Pairwise GR:=n.pairwise s.2 (fun h=>GR.symm h);obtain⟨B,q⟩:=Fk.mp t;have u:=s.1 a p;have r:Sub (2 ^ i) a:=gQ g;have d:Sub (a - 2 ^ i) (m - 2 ^ i):=fun j hj=>by
   rw[cw g,gz] at hj;rw[cw hi,u j hj.1,hj.2];rfl
  have e:2 ^ i+(a - 2 ^ i)=a:=by have:=r.le;omega
  have y:=h2 (a - 2 ^ i) d;rw[e] at y;have C:=hf ((m - 2 ^ i) - (a - 2 ^ i)) (by omega) (l.erase a) ⟨fun b hb j hj=>?_,q⟩
  ·rw[GS n];show v a+val v (l.erase a)<=X
   omega
  ·have w:=s.1 b (List.mem_of_mem_erase hb) j hj;have o:=(B b hb).symm j hj;rw[ji d,cw hi,cw g,w,o]
   have:i≠j:=fun z=>by rw[z] at g;rw[g] at o;cases o
   simp[this]
 ·refine h9 (hf (m - 2 ^ i) (by omega) l ⟨fun a p j hj=>?_,s.2⟩) h1
  rw[cw hi,s.1 a p j hj]
  have:i≠j:=fun z=>c ⟨a,p,by rw[z];exact hj⟩
  simp[this]
theorem GU (h0:v 0=0):∀ l,Ke 0 l->val v l<=0:=by
 intro l d
 have:∀ a∈l,a=0:=fun a b=>Nat.eq_zero_of_le_zero (d.1 a b).le
 unfold val;have e:l.map v=l.map fun _=>0:=TH fun a b=>by rw[this a b,h0]
 rw[e]
 have:∀ k:List Nat,(k.map fun _=>0).sum=0:=fun k=>by
  induction k with
  | nil=>rfl
  | cons x r c=>rw[oD,Do,c]
 rw[this];exact dy _
variable {x n:Nat}
theorem bO (h:m<2 ^ n)(hx:m.testBit x=true):x<n:=r4 fun q=>by
 rw[gH h (by omega)] at hx;cases hx
theorem bz:x∈aC m↔m.testBit x=true:=by
 unfold aC;rw[pS,gc];exact⟨fun h=>h.2,fun h=>⟨bO lt_log2_self h,h⟩⟩
theorem mi (m:Nat):(aC m).Pairwise (· < ·):=List.pairwise_lt_range.sublist TM
theorem cO (m:Nat):(aC m).Nodup:=(mi m).imp fun h=>by omega
theorem CA (m:Nat):mask (aC m)=m:=by
 apply Ta
 intro j;rw[bZ (cO m)]
 by_cases c:m.testBit j=true
 ·rw[c,dt (bz.mpr c)]
 ·rw[ed (fun z=>c (bz.mp z))]
  cases e:m.testBit j with
  | false=>rfl
  | true=>exact absurd e c
def gR (cs:List Int)(l:List Nat):Int:=bP (pr (eW cs l)) (eW cs l) / pr (eW cs l)
def fh (cs:List Int)(ws:List Nat)(m:Nat):Int:=if bN ws (aC m)=true then gR cs (aC m) else 0
def nX (cs:List Int)(ws:List Nat)(m:Nat):Prop:=∃ r:List Nat,r.Nodup/\(∀ x,x∈r↔m.testBit x=true)/\2<=r.length/\(∀ x∈r,cs.getD x 0=2)/\∀ k,k<r.length->dc ws (r.getD k 0) (r.getD ((k+1) % r.length) 0)=true
open Classical in
noncomputable def worth (cs:List Int)(ws:List Nat)(m:Nat):Nat:=if fh cs ws m=0 then (if nX cs ws m then 1 else 0) else (fh cs ws m).toNat
theorem Od (hp:∀ c∈cs,1<=c)(hl:∀ x∈l,x<cs.length):∀ c∈eW cs l,1<=c:=fun c hc=>by
 unfold eW at hc;obtain⟨x,hx,e⟩:=ih.mp hc;rw[<-e];exact hp _ (getD_mem (hl x hx))
theorem fQ (hp:∀ c∈cs,1<=c)(hl:∀ x∈l,x<cs.length):0<=gR cs l:=by
 have h:=Od hp hl;have h1:=fK h;exact ediv_nonneg (iC (by omega) h) (by omega)
theorem iO (hp:∀ c∈cs,1<=c)(hm:m<2 ^ cs.length):0<=fh cs ws m:=by
 unfold fh
 split
 ·exact fQ hp fun x hx=>bO hm (bz.mp hx)
 ·omega
theorem yX (cs:List Int)(ws:List Nat):worth cs ws 0=0:=by
 have e:fh cs ws 0=0:=by
  unfold fh;rw[show aC 0=[] from rfl]
  rfl
 unfold worth;rw[if_pos e,if_neg];rintro⟨r,_,h,b,_⟩
 have:r=[]:=by
  cases r with
  | nil=>rfl
  | cons a q=>have:=(h a).mp fA;rw[TX] at this;cases this
 rw[this] at b;simp at b
theorem yY (hp:∀ c∈cs,1<=c)(hm:m<2 ^ cs.length):fh cs ws m<=(worth cs ws m:Int):=by
 have:=iO (ws:=ws) hp hm
 unfold worth
 split
 ·omega
 ·omega
theorem yZ (hp:∀ c∈cs,1<=c)(hm:m<2 ^ cs.length)(h:nX cs ws m):1<=worth cs ws m:=by
 have:=iO (ws:=ws) hp hm
 unfold worth
 split
 ·first | (rw[if_pos h];exact dy _) | exact dy _
 ·omega
structure GG (cs:List Int)(ws:List Nat)(m:Nat)(g:Bool × List Nat):Prop where
 ok:ON cs ws g
 ne:g.2≠[]
 rise:g.1=false->g.2.Pairwise (· < ·)
 RS:∀ x∈g.2,m.testBit x=true
theorem GG.mono {k:Nat}(h:GG cs ws k g)(s:Sub k m):GG cs ws m g:=⟨h.ok,h.ne,h.rise,fun x hx=>s x (h.RS x hx)⟩
theorem y0 (h:∀ x∈l,∀ y∈l,x≠y->dc ws x y=true):bN ws l=true:=by
 unfold bN;rw[kb];intro x hx;rw[kb];intro y hy;rw[SL,mo]
 by_cases c:y=x
 ·exact .inl c
 ·exact .inr (h x hx y hy fun z=>c z.symm)
theorem za (h:bN ws l=true):∀ x∈l,∀ y∈l,x≠y->dc ws x y=true:=fun x hx y hy n=>by
 unfold bN at h;rw[kb] at h
 have:=h x hx
 rw[kb] at this
 have:=this y hy
 rw[SL,mo] at this
 rcases this with e | e
 ·exact absurd e.symm n
 ·exact e
theorem nY (cs:List Int)(l:List Nat):e9 cs (false,l)=gR cs l:=rfl
theorem GV (hp:∀ c∈cs,1<=c)(h:GG cs ws m g):e9 cs g<=(worth cs ws (mask g.2):Int):=by
 obtain⟨b,l⟩:=g;have d:∀ x∈l,x<cs.length:=h.ok.lt;have a:l.Nodup:=h.ok.nd;have hm:mask l<2 ^ cs.length:=sP a d
 cases b with
 | true=>
  obtain⟨e,hc,f⟩:=h.ok.ring rfl
  have:=yZ (ws:=ws) hp hm ⟨l,a,fun x=>by rw[bZ a,mo],e,hc,f⟩
  show (1:Int)<=(worth cs ws (mask l):Int)
  omega
 | false=>
  refine Int.le_trans ?_ (yY hp hm);rw[nY];unfold fh;rw[Cd (h.rise rfl),if_pos (y0 (h.ok.fh rfl))];exact TZ _
theorem GW {a b:List Nat}(ha:a.Nodup)(hb:b.Nodup)(h:∀ x∈a,x∉b):GR (mask a) (mask b):=fun j hj=>by
 rw[bZ ha,mo] at hj;rw[bZ hb,ed (h j hj)]
theorem GX {cs:List Int}{ws:List Nat}{m:Nat}(hp:∀ c∈cs,1<=c):∀ {L:List (Bool × List Nat)},(∀ g∈L,GG cs ws m g)->(L.Pairwise fun g h=>∀ x∈g.2,x∉h.2)->Ke m (L.map fun g=>mask g.2)/\(L.map (e9 cs)).sum<=(val (worth cs ws) (L.map fun g=>mask g.2):Int)
 | [],_,_=>⟨⟨(fun _ h=>nomatch h),List.Pairwise.nil⟩,TZ _⟩
 | g::L,h,o=>by
  obtain⟨r,n⟩:=Fk.mp o;obtain⟨⟨p,q⟩,l⟩:=GX hp (fun g b=>h g (eH _ b)) n;have b:=h g fA;have w:=GV hp b;refine⟨⟨fun a f=>?_,Fk.mpr ⟨fun a f=>?_,q⟩⟩,?_⟩
  ·rcases hU.mp f with e | e
   ·rw[e];intro j hj;rw[bZ b.ok.nd,mo] at hj;exact b.RS j hj
   ·exact p a e
  ·obtain⟨i,d,e⟩:=ih.mp f;rw[<-e];exact GW b.ok.nd (h i (eH _ d)).ok.nd (r i d)
  ·unfold val at l ⊢;rw[oD,oD,oD,Do,Do]
   omega
def zb (cs:List Int)(l:List Nat):List Nat:=l.filter fun i=>decide (cs.getD i 0=2)
def jI (ws l:List Nat):List Nat:=(List.range ws.length).map fun i=>if i∈l then ws.getD i 0 else 0
theorem fo (ws l:List Nat):(jI ws l).length=ws.length:=by unfold jI;rw[cc,j6]
theorem nZ (hi:i<ws.length):(jI ws l).getD i 0=if i∈l then ws.getD i 0 else 0:=by
 unfold jI;rw[b4,ek,vr hi];rfl
theorem mW {j:Nat}(hi:i<ws.length):dc (jI ws l) i j=(decide (i∈l)&&dc ws i j):=by
 unfold dc;rw[nZ hi]
 by_cases c:i∈l
 ·rw[if_pos c,dt c];rfl
 ·rw[if_neg c,ed c,TX];rfl
theorem Kg (h:eK ws):eK (jI ws l):=by
 refine⟨fun i hi=>?_,fun i hi=>?_⟩
 ·rw[fo] at hi;rw[nZ hi,fo]
  split
  ·exact h.lt i hi
  ·exact FS _
 ·rw[fo] at hi;rw[mW hi,h.self i hi,TL]
variable {r:List Nat}
theorem mB (h2:1<=r.length)(hl:∀ x∈r,x<ws.length)(hs:∀ k,k<r.length->dc ws (r.getD k 0) (r.getD ((k+1) % r.length) 0)=true):¬ iI ws:=by
 rintro⟨f,c⟩;have a:∀ k,k<r.length->r.getD k 0∈r:=fun k hk=>fN hk;have b:∀ k,k<r.length->f (r.getD k 0)+k<=f (r.getD 0 0):=by
  intro k
  induction k with
  | zero=>intro _;omega
  | succ k e=>
   intro hk;have h:=e (by omega)
   have g:=c _ _ (hl _ (a k (by omega))) (hs k (by omega))
   rw[T8 hk] at g
   omega
 have i:=b (r.length - 1) (by omega)
 have d:=c _ _ (hl _ (a (r.length - 1) (by omega))) (hs (r.length - 1) (by omega))
 rw[show r.length - 1+1=r.length by omega,mod_self] at d
 omega
theorem pB (hn:ws.length=cs.length)(hm:m<2 ^ cs.length)(h:nX cs ws m):¬ iI (jI ws (zb cs (aC m))):=by
 obtain⟨r,nd,b,d,hc,c⟩:=h;have a:∀ x∈r,x<ws.length:=fun x hx=>by rw[hn];exact bO hm ((b x).mp hx)
 refine mB (r:=r) (by omega) (fun x hx=>by rw[fo];exact a x hx) fun k hk=>?_
 have hx:=fN hk;rw[mW (a _ hx),c k hk,dt]
 ·rfl
 ·exact pS.mpr ⟨bz.mpr ((b _).mp hx),dt (hc _ hx)⟩
theorem wg:∀ {W:Int} {p:List Int},(∀ c∈p,c=2)->bP W p=p.length*(W / 2)
 | W,[],_=>by simp[bP]
 | W,a::p,h=>by
  have b:=wg (W:=W) (p:=p) fun c hc=>h c (eH _ hc);unfold bP at b ⊢;rw[oD,Do,b,h a fA,qs]
  have:((p.length+1:Nat):Int)=(p.length:Int)+1:=by omega
  rw[this,Tj,Int.one_mul,Int.add_comm]
theorem GY (h2:2<=l.length)(hc:∀ x∈l,cs.getD x 0=2):1<=gR cs l:=by
 have f:∀ c∈eW cs l,c=2:=fun c d=>by
  unfold eW at d;obtain⟨x,hx,e⟩:=ih.mp d;rw[<-e];exact hc x hx
 have b:2<=(eW cs l).length:=by rw[gK];exact h2
 unfold gR;rw[wg f];generalize eW cs l=p at f b;have g:1<=pr p:=fK fun c hc=>by rw[f c hc];omega
 have i:(2:Int)∣pr p:=by
  cases p with
  | nil=>simp at b
  | cons a q=>
   have e:=f a fA;subst e;exact nB fA
 obtain⟨w,h⟩:=i;have e:pr p / 2=w:=by rw[h];omega
 rw[e];have j:1<=w:=by omega
 refine(Int.le_ediv_iff_mul_le (by omega)).mpr ?_
 rw[h,Int.one_mul];exact AC (by omega) (by omega)
structure Oe (cs:List Int)(ws:List Nat)(m:Nat)(s:Int):Prop where
 fh:bN ws (aC m)=true->s=gR cs (aC m)
 ring:bN ws (aC m)=false->¬ iI (jI ws (zb cs (aC m)))->s=1
 nn:0<=s
theorem Oe.ge {s:Int}(hp:∀ c∈cs,1<=c)(hn:ws.length=cs.length)(hm:m<2 ^ cs.length)(h:Oe cs ws m s):(worth cs ws m:Int)<=s:=by
 have f:=iO (ws:=ws) hp hm;have d:=h.nn
 cases cb:bN ws (aC m) with
 | true=>
  have e:=h.fh cb;have b:L2.fh cs ws m=gR cs (aC m):=by unfold L2.fh;rw[if_pos cb]
  unfold worth
  split
  ·rename_i z
   split
   ·rename_i a
    obtain⟨r,nd,a,i,hc,j⟩:=a;have g:r.length<=(aC m).length:=je nd fun x hx=>bz.mpr ((a x).mp hx)
    have:=GY (cs:=cs) (l:=aC m) (by omega) fun x hx=>hc x ((a x).mpr (bz.mp hx))
    omega
   ·omega
  ·omega
 | false=>
  have b:L2.fh cs ws m=0:=by unfold L2.fh;rw[if_neg (by rw[cb];exact hI)]
  unfold worth;rw[if_pos b]
  split
  ·rename_i a
   have:=h.ring cb (pB hn hm a)
   omega
  ·omega
theorem zc {k:Nat}{ps:List Nat}(hk:k<(aC m).length)(hi:i=(aC m).getD k 0)(h:∀ q,q∈ps↔(Sub q m/\∀ j,q.testBit j=true->j∈(aC m).take k)) :
  ∀ q,q∈ps++ps.map (fun x=>x+2 ^ i)↔(Sub q m/\∀ j,q.testBit j=true->j∈(aC m).take (k+1)):=by
 have o:(aC m).take (k+1)=(aC m).take k++[i]:=by rw[hi];exact take_snoc 0 hk
 have n:m.testBit i=true:=by rw[hi];exact bz.mp (fN hk)
 have l:i∉(aC m).take k:=fun z=>by
  have h1:=vw (cO m) z;rw[hi,NJ (cO m) hk] at h1
  omega
 have f:∀ q,q∈ps->∀ j,(q+2 ^ i).testBit j=(q.testBit j||decide (i=j)):=fun q hq j=>by
  have hb:q.testBit i=false:=by
   cases e:q.testBit i with
   | false=>rfl
   | true=>exact absurd (((h q).mp hq).2 i e) l
  rw[AM hb,iE]
 intro q;rw[ka,o]
 constructor
 ·rintro(hq | hq)
  ·obtain⟨a,b⟩:=(h q).mp hq;exact⟨a,fun j hj=>List.mem_append_left _ (b j hj)⟩
  ·obtain⟨g,d,rfl⟩:=ih.mp hq;obtain⟨a,b⟩:=(h g).mp d;refine⟨fun j hj=>?_,fun j hj=>?_⟩
   ·rw[f g d,SL,mo] at hj
    rcases hj with hj | hj
    ·exact a j hj
    ·rw[<-hj];exact n
   ·rw[f g d,SL,mo] at hj
    rcases hj with hj | hj
    ·exact List.mem_append_left _ (b j hj)
    ·rw[<-hj];exact xm _ fA
 ·rintro⟨a,b⟩
  by_cases c:q.testBit i=true
  ·refine .inr (ih.mpr ⟨q - 2 ^ i,(h _).mpr ⟨fun j hj=>?_,fun j hj=>?_⟩,?_⟩)
   ·rw[cw c,gz] at hj;exact a j hj.1
   ·rw[cw c,gz] at hj
    rcases ka.mp (b j hj.1) with z | z
    ·exact z
    ·rw[fz.mp z] at hj;simp at hj
   ·have:=(gQ c).le
    omega
  ·refine .inl ((h q).mpr ⟨a,fun j hj=>?_⟩)
   rcases ka.mp (b j hj) with z | z
   ·exact z
   ·rw[fz.mp z] at hj;exact absurd hj c
abbrev mj:=Int × List (Bool × List Nat)
def Ch (K:Frag)(H:Hp)(v:V)(x:mj):Prop:=∃ r g us,v=.ref r/\aH K H r [.int x.1,.ref g]/\aH K H g us/\GF K H us x.2
def lA (K:Frag)(H:Hp):List V->List mj->Prop
 | [],[]=>True
 | v::b,x::a=>Ch K H v x/\lA K H b a
 | _,_=>False
theorem Ch.mono {v:V}{x:mj}(s:ah H H')(h:Ch K H v x):Ch K H' v x:=by
 obtain⟨r,g,b,e,h1,c,a⟩:=h;exact⟨r,g,b,e,s.aL h1,s.aL c,a.mono s⟩
theorem Ch.c5 {v:V}{x:mj}{acc:Addr}{ys:List V}{o:HO}(ha:H acc=some (.lst ys))(h:Ch K H v x):Ch K (upd H acc o) v x:=by
 obtain⟨r,g,b,e,h1,c,a⟩:=h;exact⟨r,g,b,e,h1.c5 ha,c.c5 ha,a.c5 ha⟩
theorem lA.mono (s:ah H H'):∀ {vs:List V} {xs:List mj},lA K H vs xs->lA K H' vs xs
 | [],[],h=>h
 | _::_,_::_,⟨a,t⟩=>⟨a.mono s,lA.mono s t⟩
 | [],_::_,h=>h.elim
 | _::_,[],h=>h.elim
theorem lA.c5 {acc:Addr}{ys:List V}{o:HO}(ha:H acc=some (.lst ys)):∀ {vs:List V} {xs:List mj},lA K H vs xs->lA K (upd H acc o) vs xs
 | [],[],h=>h
 | _::_,_::_,⟨a,t⟩=>⟨a.c5 ha,lA.c5 ha t⟩
 | [],_::_,h=>h.elim
 | _::_,[],h=>h.elim
theorem lA.length:∀ {vs:List V} {xs:List mj},lA K H vs xs->vs.length=xs.length
 | [],[],_=>rfl
 | _::_,_::_,⟨_,t⟩=>by rw[qs,qs,lA.length t]
 | [],_::_,h=>h.elim
 | _::_,[],h=>h.elim
theorem lA.get:∀ {vs:List V} {xs:List mj} {i:Nat},lA K H vs xs->i<xs.length->∃ v,vs[i]?=some v/\Ch K H v (xs.getD i (0,[]))
 | [],[],i,_,h=>by simp at h
 | v::_,x::_,0,⟨a,_⟩,_=>⟨v,rfl,a⟩
 | _::_,_::xs,i+1,⟨_,t⟩,h=>by
  obtain⟨v,e,c⟩:=lA.get (i:=i) t (by simpa using h)
  exact⟨v,by simpa using e,by simpa using c⟩
 | [],_::_,_,h,_=>h.elim
 | _::_,[],_,h,_=>h.elim
theorem lA.append:∀ {vs ws:List V} {xs ys:List mj},lA K H vs xs->lA K H ws ys->lA K H (vs++ws) (xs++ys)
 | [],_,[],_,_,h=>h
 | _::_,_,_::_,_,⟨a,t⟩,h=>⟨a,lA.append t h⟩
 | [],_,_::_,_,h,_=>h.elim
 | _::_,_,[],_,h,_=>h.elim
structure xB (cs:List Int)(ws:List Nat)(m:Nat)(x:mj):Prop where
 each:∀ g∈x.2,GG cs ws m g
 pP:x.2.Pairwise fun g h=>∀ x∈g.2,x∉h.2
 sum:(x.2.map (e9 cs)).sum=x.1
 nn:0<=x.1
theorem xB.mono {cs:List Int}{ws:List Nat}{k m:Nat}{x:mj}(h:xB cs ws k x)(s:Sub k m):xB cs ws m x:=⟨fun g a=>(h.each g a).mono s,h.pP,h.sum,h.nn⟩
variable {x:mj}
theorem xB.len (h:xB cs ws m x):x.2.length<=cs.length:=by
 have i:∀ {L:List (Bool × List Nat)},(∀ g∈L,GG cs ws m g)->(L.Pairwise fun g h=>∀ x∈g.2,x∉h.2)->(L.map fun g=>g.2.getD 0 0).Nodup/\∀ y∈L.map fun g=>g.2.getD 0 0,y<cs.length/\∃ g∈L,y∈g.2:=fun {L} h1 n=>by
  induction L with
  | nil=>exact⟨nodup_nil,fun _ h=>nomatch h⟩
  | cons g L q=>
   obtain⟨r,o⟩:=Fk.mp n;obtain⟨p,l⟩:=q (fun g d=>h1 g (eH _ d)) o;have d:=h1 g fA;have hm:g.2.getD 0 0∈g.2:=fN (F2.mpr d.ne);refine⟨?_,fun y hy=>?_⟩
   ·rw[oD,C3];refine⟨fun z=>?_,p⟩;obtain⟨_,f,j,hy⟩:=l _ z;exact r f j _ hm hy
   ·rcases hU.mp hy with e | e
    ·rw[e];exact⟨d.ok.lt _ hm,g,fA,hm⟩
    ·obtain⟨a,f,b,c⟩:=l y e;exact⟨a,f,eH _ b,c⟩
 obtain⟨a,b⟩:=i h.each h.pP
 have:=cG a fun y hy=>(b y hy).1
 rwa [cc] at this
theorem xB.add {y:mj}(h:xB cs ws a x)(k:xB cs ws b y)(d:GR a b)(s1:Sub a m)(s2:Sub b m):xB cs ws m (x.1+y.1,x.2++y.2):=by
 refine⟨fun g i=>?_,List.pairwise_append.mpr ⟨h.pP,k.pP,fun g i l c z hz f=>?_⟩,?_,?_⟩
 ·rcases ka.mp i with e | e
  ·exact(h.each g e).mono s1
  ·exact(k.each g e).mono s2
 ·have h1:=(h.each g i).RS z hz;have j:=(k.each l c).RS z f;rw[d z h1] at j;cases j
 ·show ((x.2++y.2).map (e9 cs)).sum=x.1+y.1;rw[hO,L2.sum_append,h.sum,k.sum]
 ·show 0<=x.1+y.1
  have:=h.nn;have:=k.nn;omega
def lB (cs:List Int)(ws:List Nat)(m:Nat)(x:mj):Prop:=xB cs ws m x/\x.2.length<=1/\Oe cs ws m x.1
def dJ (cs:List Int)(ws:List Nat)(m:Nat)(x:mj):Prop:=xB cs ws m x/\∀ l,Ke m l->val (worth cs ws) l<=x.1.toNat
theorem tH (cs:List Int)(ws:List Nat)(m:Nat):xB cs ws m (0,[]):=⟨(fun _ h=>nomatch h),.nil,rfl,TZ _⟩
theorem CB (cs:List Int)(ws:List Nat):lB cs ws 0 (0,[]):=by
 refine⟨tH cs ws 0,zero_le _,⟨fun _=>?_,fun h=>?_,TZ _⟩⟩
 ·rw[show aC 0=[] from rfl];rfl
 ·rw[show aC 0=[] from rfl] at h;cases h
theorem CC (cs:List Int)(ws:List Nat):dJ cs ws 0 (0,[]):=⟨tH cs ws 0,GU (yX cs ws)⟩
theorem CD {fl fb:List mj}(hp:∀ c∈cs,1<=c)(hn:ws.length=cs.length)(hm:m<2 ^ cs.length)(hi:m.testBit i=true)
  (hl:∀ k,k<2 ^ cs.length->lB cs ws k (fl.getD k (0,[]))) (hb:∀ k,k<m->dJ cs ws k (fb.getD k (0,[]))) (hx:xB cs ws m x) (h1:(fb.getD (m - 2 ^ i) (0,[])).1<=x.1)
  (h2:∀ part,Sub part (m - 2 ^ i)->(fl.getD (2 ^ i+part) (0,[])).1+(fb.getD ((m - 2 ^ i) - part) (0,[])).1<=x.1):dJ cs ws m x:=by
 have b:2 ^ i<=m:=(gQ hi).le;have d:0<2 ^ i:=FS i;refine⟨hx,Oc hi (fun k=>(fb.getD k (0,[])).1.toNat) (fun k hk=>(hb k hk).2) ?_ fun part a=>?_⟩
 ·show (fb.getD (m - 2 ^ i) (0,[])).1.toNat<=x.1.toNat
  omega
 ·have f:=h2 part a;have e:=a.le;have w:=(hl (2 ^ i+part) (by omega)).2.2.ge hp hn (by omega)
  have g:=(hb ((m - 2 ^ i) - part) (by omega)).1.nn
  show worth cs ws (2 ^ i+part)+(fb.getD ((m - 2 ^ i) - part) (0,[])).1.toNat<=x.1.toNat
  omega
def GZ (K:Frag):Sp:=fun a H Q _=>∃ (w:Addr) (ws:List Nat),a=[.ref w]/\aH K H w ((az ws).map V.int)/\ws.length<=8/\eK ws/\∀ (H':Hp),ah H H'->(¬ (laidOut ws).length<ws.length->Q .bE H')/\((laidOut ws).length<ws.length->∀ p r o,H' p=some (.jE o (.tup ((az r).map V.int)))->o.cls=.type "tuple"->o.dict=none->Ring ws r->Q (.ref p) H')
def Q2 (K:Frag):Sp:=fun a H Q _=>∃ (w p:Addr) (ws l:List Nat),a=[.ref w,.ref p]/\aH K H w ((az ws).map V.int)/\ax K H p ((az l).map V.int)/\ws.length<=8/\l.length<=8/\∀ (t:Addr) (H':Hp),ah H H'->aH K H' t ((az (jI ws l)).map V.int)->Q (.ref t) H'
def Q3 (K:Frag):Sp:=fun a H Q _=>∃ (c w:Addr) (cs:List Int) (ws:List Nat) (m:Nat),a=[.ref c,.ref w,.int (m:Int)]/\aH K H c (cs.map V.int)/\aH K H w ((az ws).map V.int)/\cp cs/\ws.length=cs.length/\eK ws/\0<m/\m<2 ^ cs.length/\
 ∀ (t:Addr) (us:List V) (L:List (Bool × List Nat)) (H':Hp),ah H H'->aH K H' t us->GF K H' us L->lB cs ws m ((L.map (e9 cs)).sum,L)->Q (.ref t) H'
def LV (K:Frag):Sp:=fun a H Q _=>∃ (c w:Addr) (cs:List Int) (ws:List Nat),a=[.ref c,.ref w]/\aH K H c (cs.map V.int)/\aH K H w ((az ws).map V.int)/\cp cs/\ws.length=cs.length/\eK ws/\
 ∀ (l:Addr) (us:List V) (fl:List mj) (H':Hp),ah H H'->H l=none->H' l=some (.lst us)->lA K H' us fl->fl.length=2 ^ cs.length->(∀ k,k<2 ^ cs.length->lB cs ws k (fl.getD k (0,[])))->Q (.ref l) H'
def Q4:Sp:=fun a H Q _=>∃ (m:Nat),a=[.int (m:Int)]/\m<256/\∀ (l:Addr) (ps:List Nat) (H':Hp),ah H H'->H l=none->H' l=some (.lst ((az ps).map V.int))->(∀ q,q∈ps↔Sub q m)->ps.length<=256->Q (.ref l) H'
def Q5 (K:Frag):Sp:=fun a H Q _=>∃ (lo be:Addr) (cs:List Int) (ws:List Nat) (ul ub:List V) (fl fb:List mj) (m:Nat),a=[.ref lo,.ref be,.int (m:Int)]/\ax K H lo ul/\ax K H be ub/\lA K H ul fl/\lA K H ub fb/\cp cs/\ws.length=cs.length/\fl.length=2 ^ cs.length/\fb.length=m/\0<m/\m<2 ^ cs.length/\
 (∀ k,k<2 ^ cs.length->lB cs ws k (fl.getD k (0,[])))/\(∀ k,k<m->dJ cs ws k (fb.getD k (0,[])))/\∀ (v:V) (x:mj) (H':Hp),ah H H'->Ch K H' v x->dJ cs ws m x->Q v H'
def Q6 (K:Frag):Sp:=fun a H Q _=>∃ (c w:Addr) (cs:List Int) (ws:List Nat),a=[.ref c,.ref w]/\aH K H c (cs.map V.int)/\aH K H w ((az ws).map V.int)/\cp cs/\ws.length=cs.length/\eK ws/\
 ∀ (t:Addr) (us:List V) (L:List (Bool × List Nat)) (H':Hp),ah H H'->aH K H' t us->GF K H' us L->dJ cs ws (2 ^ cs.length - 1) ((L.map (e9 cs)).sum,L)->Q (.ref t) H'
variable {us:List Value}
theorem G0 (h:us.length=n+1):∃ a t,us=a::t/\t.length=n:=by
 cases us with
 | nil=>cases h
 | cons a t=>exact⟨a,t,rfl,Nat.succ.inj h⟩
theorem fR (h:us.length=1):∃ a0,us=[a0]:=by
 obtain⟨a,t,rfl,k⟩:=G0 h
 cases t with
 | nil=>exact⟨a,rfl⟩
 | cons _ _=>cases k
theorem eA (h:us.length=2):∃ a0 a1,us=[a0,a1]:=by
 obtain⟨a,t,rfl,k⟩:=G0 h;obtain⟨b,rfl⟩:=fR k;exact⟨a,b,rfl⟩
theorem jJ (h:us.length=3):∃ a0 a1 a2,us=[a0,a1,a2]:=by
 obtain⟨a,t,rfl,k⟩:=G0 h;obtain⟨c,b,rfl⟩:=eA k;exact⟨a,c,b,rfl⟩
theorem G8 (h:us.length=4):∃ a0 a1 a2 a3,us=[a0,a1,a2,a3]:=by
 obtain⟨a,t,rfl,k⟩:=G0 h;obtain⟨c,b,d,rfl⟩:=jJ k;exact⟨a,c,b,d,rfl⟩
theorem Sv (h:us.length=5):∃ a0 a1 a2 a3 a4,us=[a0,a1,a2,a3,a4]:=by
 obtain⟨a,t,rfl,k⟩:=G0 h;obtain⟨d,c,e,b,rfl⟩:=G8 k;exact⟨a,d,c,e,b,rfl⟩
theorem Sw {σ:St}(h:∀ R:St->Hp->Prop,(∀ σ' H',B D σ' H'->R σ' H')->A {D with nx:=R} σ H):BG A B D σ H:=h (B D) fun _ _ z=>z
structure CF (P:Program)(w:World)(K:Frag)(a:Addr)(kvs:List (Key × V)):Prop where
 ns:(a == sysModules)=false
 ex:∃ o vs,K.lookup a=some o/\o.IsDictOf (bT P w) vs/\KV kvs vs
def LW (kvs:List (Key × V))(a:Addr)(td ty:TE):TE:=fun σ H Q=>td σ H fun x H1=>ty σ H1 fun y b=>∃ k v,x=.ref a/\y=kV k/\cZ kvs k=some v/\Q v b
def G9 (kvs:List (Key × V))(a:Addr)(ty td:TE):TE:=fun σ H Q=>ty σ H fun y H1=>td σ H1 fun x b=>∃ k,x=.ref a/\y=kV k/\Q (.bl (!(cZ kvs k).isSome)) b
variable {x:Str}{a:Addr}
theorem Q7 (S:Sc X N W G)(g:Nat)(h:X.mg x=some (.ref a))(hg:G[g]?=some x:=by rfl):QE X (.Name x pos) (tC (.ref a)):=by
 have q:=S.gl _ (h5 hg);exact⟨rM q.1 h rfl q.2.1⟩
variable {kvs:List (Key × V)}
theorem CF.at_ {pins:List (Addr × Obj)}{σ:St}(D:CF X.prog X.w X.K a kvs)(I:Inv X pins σ H s):∃ vs,KV kvs vs/\s.heap.DictOf (bT X.prog X.w) a vs:=by
 obtain⟨o,vs,hk,b,r⟩:=D.ex;exact⟨vs,r,Heap.dictOf_iff.mpr ⟨o,I.uP a o hk,b⟩⟩
variable {i:Expr}
theorem Q8 (D:CF X.prog X.w X.K a kvs)(ho:QE X o td)(hi:QE X i ty)(hs:IZ i:=by intro _ _;rfl):QE X (.Subscript o i pos) (LW kvs a td ty):=by
 refine⟨fun b s σ H Q I h=>Ar PySem.F.slot_dict_getitem.lookup hs (bV (ho.h b s σ H _ I h) fun u B ⟨x,H1,z,n,r⟩=>bV (hi.h b B σ H1 _ z r) fun C E ⟨y,t,e,j,k,v,g,A,l,p⟩=>?_)⟩;subst g A;obtain rfl:u=Value.ref a:=n;obtain⟨m,d,f⟩:=D.at_ e;obtain⟨G,q,c⟩:=ir.some_of (v:=v) (o:=valueAt m k) (by rw[<-l];exact d.val k)
 exact⟨f.typeIs,wpAny_getItem_of (qz j) f.mapOf q ⟨v,t,e.tok _,c,p⟩⟩
theorem Kh (D:CF X.prog X.w X.K a kvs)(hi:PE X i ty)(ho:PE X o td):PC X .NotIn i o (G9 kvs a ty td):=by
 intro b s σ H Q I h;refine bV (hi b s σ H _ I h) fun v r ⟨y,H1,n,f,l⟩=>bV (ho b r σ H1 _ n l) fun u z ⟨x,m,d,g,k,e,q,j⟩=>?_;subst e q;obtain rfl:u=Value.ref a:=g;obtain⟨t,c,p⟩:=D.at_ d;refine wpAny_notIn_of (qz f) D.ns p.mapOf ?_;rw[<-(c.val k).jc];exact⟨.bl (!(cZ kvs k).isSome),m,d.tok _,rfl,j⟩
theorem Q9 (D:CF X.prog X.w X.K a kvs)(hi:QE X i ty)(ho:QE X o td)(hm:behindInMarks .NotIn o=false):QT X (.Compare i [.NotIn] [o] pos) (tB (G9 kvs a ty td)):=⟨DJ (Kh D hi.h ho.h) hm⟩
theorem Ha {σ:St} :LW kvs a td ty σ H Q=td σ H fun x H1=>ty σ H1 fun y H2=>∃ k v,x=.ref a/\y=kV k/\cZ kvs k=some v/\Q v H2:=rfl
theorem Hb {σ:St} :G9 kvs a ty td σ H Q=ty σ H fun y H1=>td σ H1 fun x H2=>∃ k,x=.ref a/\y=kV k/\Q (.bl (!(cZ kvs k).isSome)) H2:=rfl
def n9 (e:Nat->Addr):List (Key × V):=[(.inr "sure",.ref (e 0)),(.inr "share",.ref (e 1)),(.inr "groups",.ref (e 2)),(.inr "ring",.ref (e 3)),(.inr "order",.ref (e 4)),(.inr "put",.ref (e 5)),(.inr "guess",.ref (e 6)),(.inr "right",.ref (e 7)),(.inr "book",.ref (e 8))]
structure tJ (P:Program)(w:World)(K:Frag)(mg:Str->Option Value)(a:Addr)(e:Nat->Addr):Prop where
 gl:mg "FORMS"=some (.ref a)
 OT:CF P w K a (n9 e)
 t0:∀ k,k<9->k≠5->k≠6->∀ H,aH K H (e k) []
 t5:∀ H,aH K H (e 5) [.str "name",.str "colour"]
 t6:∀ H,aH K H (e 6) [.str "name"]
def Sx (e0 e1 e2 e3 e4 e5 e6 e7 e8:Addr):Nat->Addr
 | 0=>e0
 | 1=>e1
 | 2=>e2
 | 3=>e3
 | 4=>e4
 | 5=>e5
 | 6=>e6
 | 7=>e7
 | _=>e8
variable {u0 u2:Tok}{n1 n2:Nat}
theorem Hc {e0 e1 e2 e3 e4 e5 e6 e7 e8:Addr}{t0 t1 t2 t3 t4 t5 t6 t7 t8 u1:Tok}{n0 n3 n4 n5 n6 n7 n8:Nat}{d0 d1 d2 d3 d4 d5 d6 d7 d8:Option Addr}{s0 s1 s2 s3 s4 s5 s6 s7 s8:Array (Option Value)}(X:K.In h)(G:h.Ns mainGlobals mg)
  (a0:nsIn K mainGlobals "FORMS"=some (some (.ref a))) (hs:(a == sysModules)=false)
  (a1:K.lookup a=some ⟨.type "dict",none,.dict #[⟨PyData.keyHash w.params "sure",.str "sure" t0,.ref e0⟩,⟨PyData.keyHash w.params "share",.str "share" t1,.ref e1⟩,⟨PyData.keyHash w.params "groups",.str "groups" t2,.ref e2⟩,⟨PyData.keyHash w.params "ring",.str "ring" t3,.ref e3⟩,⟨PyData.keyHash w.params "order",.str "order" t4,.ref e4⟩,⟨PyData.keyHash w.params "put",.str "put" t5,.ref e5⟩,⟨PyData.keyHash w.params "guess",.str "guess" t6,.ref e6⟩,⟨PyData.keyHash w.params "right",.str "right" t7,.ref e7⟩,⟨PyData.keyHash w.params "book",.str "book" t8,.ref e8⟩] ep,#[]⟩)
  (l0:K.lookup e0=some ⟨.type "tuple",d0,.seq #[] n0,s0⟩) (l1:K.lookup e1=some ⟨.type "tuple",d1,.seq #[] n1,s1⟩) (l2:K.lookup e2=some ⟨.type "tuple",d2,.seq #[] n2,s2⟩) (l3:K.lookup e3=some ⟨.type "tuple",d3,.seq #[] n3,s3⟩) (l4:K.lookup e4=some ⟨.type "tuple",d4,.seq #[] n4,s4⟩) (l5:K.lookup e5=some ⟨.type "tuple",d5,.seq #[.str "name" u0,.str "colour" u1] n5,s5⟩) (l6:K.lookup e6=some ⟨.type "tuple",d6,.seq #[.str "name" u2] n6,s6⟩) (l7:K.lookup e7=some ⟨.type "tuple",d7,.seq #[] n7,s7⟩) (l8:K.lookup e8=some ⟨.type "tuple",d8,.seq #[] n8,s8⟩):tJ P w K mg a (Sx e0 e1 e2 e3 e4 e5 e6 e7 e8):=by
 refine⟨mg_of X G a0,⟨hs,_,[(.inr "sure",.ref e0),(.inr "share",.ref e1),(.inr "groups",.ref e2),(.inr "ring",.ref e3),(.inr "order",.ref e4),(.inr "put",.ref e5),(.inr "guess",.ref e6),(.inr "right",.ref e7),(.inr "book",.ref e8)],a1,⟨_,_,⟨rfl,rfl,rfl⟩,rfl,?_,?_,?_⟩,?_⟩,fun k hk b c H=>?_,fun H=>.inr ⟨_,_,_,l5,rfl,rfl,by show 2<=sizeLine;decide,.cons ⟨_,rfl⟩ (.cons ⟨_,rfl⟩ .nil)⟩,fun H=>.inr ⟨_,_,_,l6,rfl,rfl,by show 1<=sizeLine;decide,.cons ⟨_,rfl⟩ .nil⟩⟩
 ·intro e he;simp only[List.mem_toArray,mem_cons,not_mem_nil,or_false] at he
  rcases he with rfl | rfl | rfl | rfl | rfl | rfl | rfl | rfl | rfl<;>exact⟨.inr _,bM P w _ _,rfl⟩
 ·exact .cons (bM P w _ _) rfl (.cons (bM P w _ _) rfl (.cons (bM P w _ _) rfl (.cons (bM P w _ _) rfl (.cons (bM P w _ _) rfl (.cons (bM P w _ _) rfl (.cons (bM P w _ _) rfl (.cons (bM P w _ _) rfl (.cons (bM P w _ _) rfl .nil))))))))
 ·show ([.inr "sure",.inr "share",.inr "groups",.inr "ring",.inr "order",.inr "put",.inr "guess",.inr "right",.inr "book"]:List Key).Nodup
  decide +kernel
 ·exact .cons ⟨rfl,rfl⟩ (.cons ⟨rfl,rfl⟩ (.cons ⟨rfl,rfl⟩ (.cons ⟨rfl,rfl⟩ (.cons ⟨rfl,rfl⟩ (.cons ⟨rfl,rfl⟩ (.cons ⟨rfl,rfl⟩ (.cons ⟨rfl,rfl⟩ (.cons ⟨rfl,rfl⟩ .nil))))))))
 ·match k,hk,b,c with
  | 0,_,_,_=>exact .inr ⟨_,_,_,l0,rfl,rfl,by decide,.nil⟩
  | 1,_,_,_=>exact .inr ⟨_,_,_,l1,rfl,rfl,by decide,.nil⟩
  | 2,_,_,_=>exact .inr ⟨_,_,_,l2,rfl,rfl,by decide,.nil⟩
  | 3,_,_,_=>exact .inr ⟨_,_,_,l3,rfl,rfl,by decide,.nil⟩
  | 4,_,_,_=>exact .inr ⟨_,_,_,l4,rfl,rfl,by decide,.nil⟩
  | 7,_,_,_=>exact .inr ⟨_,_,_,l7,rfl,rfl,by decide,.nil⟩
  | 8,_,_,_=>exact .inr ⟨_,_,_,l8,rfl,rfl,by decide,.nil⟩
structure wj (K:Frag)(C:Addr)(m qual:Str)(st:Stmt)(z:Str):Prop where
 ex:∃ f fd t,QA K m qual st f fd [.str z t]/\Meth K C m f
variable {m:Str}
theorem Hd {z:Str}{f T:Addr}{t:Tok}{o:Obj}{oc:Value}{an:Option Addr}{osl:Array (Option Value)}{kV doc pm cX ct:Value}
  (a:findIn K (.ref C) m=some (some (.ref f))) (l:K.lookup f=some ⟨oc,od,.func (fnOf m qual (bB st) (aY st) (ak st) (.ref T) kV doc pm an cX ct),osl⟩)
  (c:codeIn K cX qual=true) (k:keepIn K (.ref f)=true) (i:isFn K (.ref f)=true) (lt:K.lookup T=some o) (ld:o.data=.seq #[.str z t] n):wj K C m qual st z:=
 ⟨f,_,t,⟨⟨oc,od,T,kV,doc,pm,an,cX,ct,osl,o,n,rfl,l,c,lt,ld⟩,k⟩,a,i,k⟩
structure Ki (P:Program)(w:World)(K:Frag)(mg:Str->Option Value)(base:Heap)(k:Nat)(C:Addr)(m p1 p2:Str)(z:Str)(sp:Sp):Prop where
 ex:∃ f fd t,fj P w K mg base (LP P w) k f fd [p1,p2] sp/\Meth K C m f/\Binds K fd [p1,p2] []/\Binds K fd [p1,p2] [.str z t]
def bindM (m qual:Str)(st:Stmt)(p1 p2:Str):Prop:=∀ (T:Addr) (kV doc pm:Value) (an:Option Addr) (cX ct u v:Value),
 (∃ k,bindArgs (fnOf m qual (bB st) (aY st) (ak st) (.ref T) kV doc pm an cX ct) ⟨[u],[]⟩=(seqItems? (.ref T) >>= k)/\∀ d,k (some #[d])=pure [(p1,u),(p2,d)])/\
 (∃ k,bindArgs (fnOf m qual (bB st) (aY st) (ak st) (.ref T) kV doc pm an cX ct) ⟨[u,v],[]⟩=(seqItems? (.ref T) >>= k)/\∀ d,k (some #[d])=pure [(p1,u),(p2,v)])
variable {z p1 p2:Str}
theorem wj.gq (D:wj K C m qual st z)(S:DS (ak st) N [p1,p2] G)(hb:bindM m qual st p1 p2)
  (len:∀ vs H Q E,sp vs H Q E->vs.length=2)
  (eO:∀ (X:Cx),Sc X N N G->X.prog=P->X.w=w->X.K=K->X.mg=mg->X.base=base->X.calm=true->X.env.scope=ak st->X.xe=(fun _ _=>False)->cM k X.A->X.A.units+64<cLine->
   ∀ (H:Hp) (vs:List V) (Q:VK) (E:XK),sp vs H Q E->∃ t,B0 X (aY st) t/\t {nx:=fun _ H'=>Q .bE H',rt:=Q} (L2.start N vs) H):Ki P w K mg base (k+1) C m p1 p2 z sp:=by
 obtain⟨f,J,t,F,M⟩:=D.ex;obtain⟨O,L,T,kV,a,x,l,p,ct,I,o,n,rfl,B,d,lt,y⟩:=F.ex;refine⟨f,_,t,fj.lift (D6 B d S.fs len fun A j s H vs Q E r g=>?_),M,fun s c e b=>?_,fun s c e b=>?_⟩
 ·obtain⟨t,h,q⟩:=eO _ S.cx rfl rfl rfl rfl rfl rfl rfl rfl r r.units H vs Q E g;exact⟨t,h.h.KS,q⟩
 ·rw[TB] at b ⊢
  match c,b with
  | [u,v],_=>
   obtain⟨k,i,e2⟩:=(hb T kV a x l p ct u v).2;exact binds_K e rfl lt y i (e2 _)
 ·obtain⟨u,rfl⟩:∃ u,c=[u]:=by
   rw[eG] at b
   have:c.length=1:=by simpa using b
   exact List.length_eq_one_iff.mp this
  obtain⟨k,i,e2⟩:=(hb T kV a x l p ct u u).1;exact binds_K e rfl lt y i (e2 _)
theorem Ra (S:Sc X N W G)(g:Nat)(T:gp X.K X.mg x C fields)(F:Ki X.prog X.w X.K X.mg X.base k C "__init__" p1 p2 z sp)(hx:Passes (LP X.prog X.w) X E)(hr:cM n X.A)(ha:QB X (e::es) t)(hk:k+1<=n:=by decide)(hg:G[g]?=some x:=by rfl) :
  QE X (.Call (.Name x p) (e::es) [] pos) (qp C sp [] E t):=by
 obtain⟨f,a,_,F,M,hb,_⟩:=F.ex;have q:=S.gl x (h5 hg);exact⟨Al ⟨T.makes,M.at_,M.fn,T.kp⟩ F (hr.mono hk) q.1 T.gl hb .nil hx ha.h.pa q.2.1 (ba ha.h.he) (de ha.h.EG)⟩
theorem Bf:qp C sp [.str z] E xR σ H Q=∀ x dx,H x=none->H dx=none->dx≠x->sp [.ref x,.str z] (upd (upd H dx (.own x)) x (.ins C dx [])) (fun v H2=>v=.bE/\Q (.ref x) H2) E:=rfl
abbrev uL (k:Bool)(h:Heap)(i l:Addr)(n:Nat):Prop:=cond k (h.IsListIter i l n) (h.IsTupleIter i l n)
abbrev uM (k:Bool)(h:Heap)(l:Addr)(ys:Array Value):Prop:=cond k (h.IsList l ys) (h.IsTuple l ys)
abbrev fF (k:Bool)(K:Frag)(H:Hp)(l:Addr)(ys:List V):Prop:=cond k (ax K H l ys) (aH K H l ys)
theorem uL.at {k:Bool}{h h':Heap}{i l:Addr}{n:Nat}(t:uL k h i l n)(q:∀ o,h.get? i=some o->h'.get? i=some o):uL k h' i l n:=by
 cases k
 ·exact Heap.IsTupleIter.at t q
 ·exact Heap.IsListIter.at t q
theorem uM.at {k:Bool}{h h':Heap}{l:Addr}{ys:Array Value}(t:uM k h l ys)(q:∀ o,h.get? l=some o->h'.get? l=some o):uM k h' l ys:=by
 cases k
 ·exact Heap.IsTuple.at t q
 ·exact Heap.IsList.at t q
variable {i l:Addr}
theorem uL.ob {k:Bool}(t:uL k h i l n):∃ o m,h.get? i=some o/\o.cls=.type m/\"zip"≠m/\"tuple"≠m/\∃ d,o.data=.fields d:=by
 cases k
 ·obtain⟨o,e,c,d⟩:=t;exact⟨o,_,e,c,by decide,by decide,_,d⟩
 ·obtain⟨o,e,c,d⟩:=t;exact⟨o,_,e,c,by decide,by decide,_,d⟩
variable {A:Around}{E Q:Value->Shared->Prop}{ys:Array Value}
theorem SR {k:Bool}{y:Value}(t:uL k s.heap i l n)(p:uM k s.heap l ys)(e:ys[n]?=some y)
  (q:∀ h',uL k h' i l (n+1)->h'.objs.size=s.heap.objs.size/\(∀ c,c≠i->h'.get? c=s.heap.get? c)->Q y {s with heap:=h'}):wpAny (model prog w) A (Builtin.SmallTypes.nextOf (.ref i)) Q E s:=by
 cases k
 ·exact vj t p e fun h' a b=>q h' a b
 ·exact wpAny_nextOf_list_item t p e fun h' a b=>q h' a b
theorem SS {k:Bool}(hA:A.handled=none)(t:uL k s.heap i l n)(p:uM k s.heap l ys)(e:ys[n]?=none)
  (q:∀ h' e,ExtBut i s.heap h'->(∃ o,h'.get? e=some o/\o.cls=.type "StopIteration")->E (.ref e) {s with heap:=h'}):wpAny (model prog w) A (Builtin.SmallTypes.nextOf (.ref i)) Q E s:=by
 cases k
 ·exact gG hA t p e q
 ·exact wpAny_nextOf_list_end hA t p e q
variable {j:Bool}{xs:Array Value}{z i1 i2:Addr}
theorem Rb {k:Bool}{TI TO l1 l2:Addr}{a b:Value}(hA:A.handled=none)(D:ZipApart z TI TO i1 i2 l1 l2)(kz:IsZip s.heap z TI TO .none)(kI:IsPair s.heap TI (.ref i1) (.ref i2))(kO:IsPair s.heap TO a b)
  (t1:uL j s.heap i1 l1 n1) (t2:uL k s.heap i2 l2 n2) (p1:uM j s.heap l1 xs) (p2:uM k s.heap l2 ys)
  (q:∀ x y h',xs[n1]?=some x->ys[n2]?=some y->IsZip h' z TI TO (rawInt s.heap.objs.size)->IsPair h' TO x y->uL j h' i1 l1 (n1+1)->uL k h' i2 l2 (n2+1)->IsPair h' s.heap.objs.size x y->
   (∀ c o,c≠z->c≠TO->c≠i1->c≠i2->s.heap.get? c=some o->h'.get? c=some o)->Q (.ref s.heap.objs.size) {s with heap:=h'})
  (qe:∀ h' e,xs[n1]?=none∨ys[n2]?=none->(∀ c o,c≠z->c≠TO->c≠i1->c≠i2->s.heap.get? c=some o->h'.get? c=some o)->(∃ o,h'.get? e=some o/\o.cls=.type "StopIteration")->E (.ref e) {s with heap:=h'}) :
  wpAny (model prog w) A (Builtin.«zip.__next__» ⟨[.ref z],[]⟩) (fun f s'=>∃ v,f=.done (.ret v)/\Q v s') E s:=by
 refine cv (m:=field (.ref z) 2) (Tx kz rfl (x:=.bool false) rfl (cv (m:=field (.ref z) 3) (Tx kz rfl (x:=.ref TI) rfl (cv (Tq kI rfl (cv (m:=Builtin.SmallTypes.ownedTupleIsFree (.ref z)) ?_))))));unfold Builtin.SmallTypes.ownedTupleIsFree;refine cv (Tx kz rfl (x:=.none) rfl (gd ?_));simp only[if_true];refine cv (wpAny_rule (cv (Tx kz rfl (x:=.ref TO) rfl (cv (wpAny_setField_rec kz (by simp) fun u1 z1 t=>?_)))))
 have z1:IsZip u1 z TI TO .ellipsis:=z1;refine cv ?_;simp only[List.zipIdx_cons,List.zipIdx_nil,forIn_cons,List.forIn_nil];have G:∀ (i:Addr) (v u:Heap) (e:Addr),i=i1∨i=i2->xs[n1]?=none∨ys[n2]?=none->i≠z->IsZip v z TI TO .ellipsis->(∀ c o,c≠z->c≠i1->c≠TO->s.heap.get? c=some o->v.get? c=some o)->ExtBut i v u->(∃ o,u.get? e=some o/\o.cls=.type "StopIteration")->
   IsZip u z TI TO .ellipsis/\∀ d,SameBut z u d->E (.ref e) {s with heap:=d}:=by
  intro i v u e hi hn iz zv kv l ⟨oe,ge,ce⟩;have Y:u.get? z=some _:=l _ _ iz.symm zv;have ne:e≠z:=gJ ge ce Y rfl (by decide)
  exact⟨Y,fun d h=>qe d e hn (fun c o g B p H x=>(h.2 c g).trans (l c o (fun q=>hi.elim (fun r=>p (q.trans r)) fun r=>H (q.trans r)) (kv c o g p B x))) ⟨oe,(h.2 e ne).trans ge,ce⟩⟩
 cases L:xs[n1]? with
 | none=>
  refine cv (cv (wpAny_onRaise (cv (m:=Builtin.SmallTypes.nextOf (.ref i1)) (SS hA (t1.at fun o e=>(t.2 _ D.i1z).trans e) (p1.at fun o e=>(t.2 _ D.l1z).trans e) L fun U e F he=>?_))));have f:=G i1 u1 U e (.inl rfl) (.inl L) D.i1z z1 (fun c o g _ _ e=>(t.2 c g).trans e) F he;exact wpAny_setField_rec f.1 (by simp) fun d _ h=>f.2 d h
 | some x=>
 refine cv (cv (wpAny_onRaise (cv (m:=Builtin.SmallTypes.nextOf (.ref i1)) (SR (t1.at fun o e=>(t.2 _ D.i1z).trans e) (p1.at fun o e=>(t.2 _ D.l1z).trans e) L fun U s1 F=>gd ?_))));have Z:IsPair U TO a b:=(F.2 _ D.TOi1).trans ((t.2 _ D.TOz).trans kO);refine cv (Tq Z rfl (cv (wpAny_updateSeq_pair Z fun I R M=>?_)));have R:IsPair I TO x b:=R;have C:∀ c o,c≠z->c≠i1->c≠TO->s.heap.get? c=some o->I.get? c=some o:=fun c o g B p e=>(M.2 c p).trans ((F.2 c B).trans ((t.2 c g).trans e));have z3:IsZip I z TI TO .ellipsis:=(M.2 _ D.TOz.symm).trans ((F.2 _ D.i1z.symm).trans z1);refine cv (wpAny_letGo (gd ?_))
 cases P:ys[n2]? with
 | none=>
  refine cv (cv (wpAny_onRaise (cv (m:=Builtin.SmallTypes.nextOf (.ref i2)) (SS hA (t2.at fun o e=>C _ o D.i2z D.i12.symm D.TOi2.symm e) (p2.at fun o e=>C _ o D.l2z D.l2i1 D.l2TO e) P fun S e l he=>?_))));have f:=G i2 I S e (.inr rfl) (.inr P) D.i2z z3 C l he;exact wpAny_setField_rec f.1 (by simp) fun d _ h=>f.2 d h
 | some y=>
 refine cv (cv (wpAny_onRaise (cv (m:=Builtin.SmallTypes.nextOf (.ref i2)) (SR (t2.at fun o e=>C _ o D.i2z D.i12.symm D.TOi2.symm e) (p2.at fun o e=>C _ o D.l2z D.l2i1 D.l2TO e) P fun S s2 l=>gd ?_))));have W:IsPair S TO x b:=(l.2 _ D.TOi2).trans R;refine cv (Tq W rfl (cv (wpAny_updateSeq_pair W fun d N h=>?_)));have N:IsPair d TO x y:=N;refine cv (wpAny_letGo (gd (gd (cv (Tq N rfl (cv (wpAny_newTuple ?_)))))));have n5:d.objs.size=s.heap.objs.size:=by rw[h.1,l.1,M.1,F.1,t.1]
 have k5:∀ c o,c≠z->c≠TO->c≠i1->c≠i2->s.heap.get? c=some o->d.get? c=some o:=fun c o g B p H e=>(h.2 c B).trans ((l.2 c H).trans (C c o g p B e));have z5:IsZip d z TI TO .ellipsis:=(h.2 _ D.TOz.symm).trans ((l.2 _ D.i2z.symm).trans z3);have r1:uL j d i1 l1 (n1+1):=s1.at fun o e=>(h.2 _ D.TOi1.symm).trans ((l.2 _ D.i12).trans ((M.2 _ D.TOi1.symm).trans e));have r2:uL k d i2 l2 (n2+1):=s2.at fun o e=>(h.2 _ D.TOi2.symm).trans e;have X:z<d.objs.size:=lt_size z5;refine cv (m:=Builtin.SmallTypes.ownedTupleHandOut (.ref z) (.ref d.objs.size)) ?_;unfold Builtin.SmallTypes.ownedTupleHandOut;have z6:IsZip (d.push {cls:=.type "tuple",data:=.seq #[x,y]}) z TI TO .ellipsis:=ey _ z5;refine cv (wpAny_setField_rec z6 (by simp) fun u7 T b7=>?_)
 have T:IsZip u7 z TI TO (rawInt d.objs.size):=T;refine wpAny_setField_rec T (by simp) fun J O b8=>?_
 have O:IsZip J z TI TO (rawInt d.objs.size):=O;have K:∀ c o,c≠z->d.get? c=some o->J.get? c=some o:=fun c o g e=>(b8.2 c g).trans ((b7.2 c g).trans (ey _ e));have new:IsPair J d.objs.size x y:=(b8.2 _ (TU X)).trans ((b7.2 _ (TU X)).trans (j9 _ rfl));rw[n5] at O new;refine gd ⟨_,rfl,(show ∀ n:Nat,n=s.heap.objs.size->Q (.ref n) _ from fun n en=>?_) d.objs.size n5⟩
 subst en;exact q x y J L P O (K _ _ D.TOz N) (r1.at fun o e=>K _ o D.i1z e) (r2.at fun o e=>K _ o D.i2z e) new fun c o g B p H e=>K c o g (k5 c o g B p H e)
abbrev uN (k:Bool)(p:Addr):Obj:={cls:=.type (cond k "list_iterator" "tuple_iterator"),data:=.fields #[.ref p,.int 0 0]}
def OQ (j k:Bool)(h:Heap)(p1 p2:Addr):Heap:=(h.push (uN j p1)).push (uN k p2)
def Sy (j k:Bool)(h:Heap)(p1 p2:Addr):Heap:=
 (((OQ j k h p1 p2).push (DB (.ref h.objs.size) (.ref (h.push (uN j p1)).objs.size))).push (DB .none .none)).push {cls:=.type "zip",data:=.fields #[.none,.bool false,.bool false,.ref (OQ j k h p1 p2).objs.size,.ref ((OQ j k h p1 p2).push (DB (.ref h.objs.size) (.ref (h.push (uN j p1)).objs.size))).objs.size]}
theorem Rc {k:Bool}{p:Addr}(h:uM k s.heap p ys)(q:Q (.ref s.heap.objs.size) {s with heap:=s.heap.push (uN k p)}):wpAny (model prog w) A (pyIter (.ref p)) Q E s:=by
 cases k
 ·exact To h q
 ·exact Tf h q
theorem uM.push {k:Bool}{h:Heap}{p:Addr}{ys:Array Value}(t:uM k h p ys)(o:Obj):uM k (h.push o) p ys:=t.at fun _ e=>ey _ e
theorem He (j k:Bool)(p1 p2:Addr)(xs ys:Array Value) :
  Meets (Builtin.«zip.__new__» ⟨[.type "zip",.ref p1,.ref p2],[]⟩) (fun _ R s=>uM j s.heap p1 xs/\uM k s.heap p2 ys/\R (.ok (.ret (.ref (((OQ j k s.heap p1 p2).push (DB (.ref s.heap.objs.size) (.ref (s.heap.push (uN j p1)).objs.size))).push (DB .none .none)).objs.size))) {s with heap:=Sy j k s.heap p1 p2}):=
 .of_wp fun c w A R s h=>by
  obtain⟨a,g,d,e,b⟩:=s;obtain⟨f,e2,h⟩:=h;have z:=sub_zip;have l:uM j (Shared.heap ⟨a,g,d,e,b⟩) p1 xs:=f;have i:uM k (Shared.heap ⟨a.push (uN j p1),g,d,e,b⟩) p2 ys:=e2.push _
  wp_walk using Rc l,Rc i
  exact⟨_,rfl,h⟩
theorem CG {k:Bool}{p1 p2:Addr}(e1:uM j s.heap p1 xs)(e2:uM k s.heap p2 ys)
  (q:∀ h',IsZip h' (s.heap.objs.size+4) (s.heap.objs.size+2) (s.heap.objs.size+3) .none->IsPair h' (s.heap.objs.size+2) (.ref s.heap.objs.size) (.ref (s.heap.objs.size+1))->IsPair h' (s.heap.objs.size+3) .none .none->
   uL j h' s.heap.objs.size p1 0->uL k h' (s.heap.objs.size+1) p2 0->(∀ c o,s.heap.get? c=some o->h'.get? c=some o)->Q (.ref (s.heap.objs.size+4)) {s with heap:=h'}) :
  wpAny (model prog w) A (call (.type "zip") [.ref p1,.ref p2]) Q E s:=by
 refine callType_new F.called_zip (by decide) (F.typeCall_zip_2 _ _) (F.newCall_zip_2 _ _) (fun obj=>F.args_object_init_3 obj _ _) F.entry_zip_new (He j k p1 p2 xs ys) ⟨e1,e2,?_⟩
 generalize f:s.heap.push (uN j p1)=a;have i:a.objs.size=s.heap.objs.size+1:=by rw[<-f];exact Gc ..
 have z:a.get? s.heap.objs.size=some (uN j p1):=by rw[<-f];exact j9 _ rfl
 have y:∀ c o,s.heap.get? c=some o->a.get? c=some o:=fun c o e=>by rw[<-f];exact ey _ e
 have hb:OQ j k s.heap p1 p2=a.push (uN k p2):=by unfold OQ;rw[f]
 have h:(a.push (uN k p2)).objs.size=s.heap.objs.size+2:=by rw[Gc,i]
 have v:(a.push (uN k p2)).get? (s.heap.objs.size+1)=some (uN k p2):=by rw[<-i];exact j9 _ rfl
 have l:∀ c o,a.get? c=some o->(a.push (uN k p2)).get? c=some o:=fun c o e=>ey _ e;have C:Sy j k s.heap p1 p2=(((a.push (uN k p2)).push (DB (.ref s.heap.objs.size) (.ref a.objs.size))).push (DB .none .none)).push {cls:=.type "zip",data:=.fields #[.none,.bool false,.bool false,.ref (a.push (uN k p2)).objs.size,.ref ((a.push (uN k p2)).push (DB (.ref s.heap.objs.size) (.ref a.objs.size))).objs.size]}:=by
  unfold Sy;rw[hb,f]
 rw[C,hb];generalize a.push (uN k p2)=b at h v l;generalize hc:b.push (DB (.ref s.heap.objs.size) (.ref a.objs.size))=c;have r:c.objs.size=s.heap.objs.size+3:=by rw[<-hc,Gc,h]
 have t:c.get? (s.heap.objs.size+2)=some (DB (.ref s.heap.objs.size) (.ref a.objs.size)):=by rw[<-hc,<-h];exact j9 _ rfl
 have m:∀ x o,b.get? x=some o->c.get? x=some o:=fun x o e=>by rw[<-hc];exact ey _ e
 generalize p:c.push (DB .none .none)=d;have nd:d.objs.size=s.heap.objs.size+4:=by rw[<-p,Gc,r]
 have B:d.get? (s.heap.objs.size+3)=some (DB .none .none):=by rw[<-p,<-r];exact j9 _ rfl
 have kd:∀ x o,c.get? x=some o->d.get? x=some o:=fun x o e=>by rw[<-p];exact ey _ e
 have g:∀ x o u,d.get? x=some o->(d.push u).get? x=some o:=fun x o u e=>ey _ e;rw[i] at t;rw[h,r];have n:=j9 d (o:={cls:=.type "zip",data:=.fields #[.none,.bool false,.bool false,.ref (s.heap.objs.size+2),.ref (s.heap.objs.size+3)]}) rfl;rw[nd] at n;show _/\_;rw[nd];exact⟨⟨_,n,rfl⟩,q _ n (g _ _ _ (kd _ _ t)) (g _ _ _ B) (by cases j<;>exact⟨_,g _ _ _ (kd _ _ (m _ _ (l _ _ z))),rfl,rfl⟩) (by cases k<;>exact⟨_,g _ _ _ (kd _ _ (m _ _ v)),rfl,rfl⟩) fun x o e=>g _ _ _ (kd _ _ (m _ _ (l _ _ (y _ _ e))))⟩
def Of (j k:Bool)(K:Frag)(a b:Addr):It:=
 ⟨fun i H=>∃ xs ys x y,fF j K H a xs/\fF k K H b ys/\xs[i]?=some x/\ys[i]?=some y,fun i H v c=>∃ p x y,H p=none/\v=.ref p/\c=upd H p (.tup [x,y])/\∀ xs ys,fF j K H a xs->fF k K H b ys->xs[i]?=some x/\ys[i]?=some y,fun i H=>∃ xs ys,fF j K H a xs/\fF k K H b ys/\(xs.length<=i∨ys.length<=i)⟩
structure Rf (j k:Bool)(z TI TO i1 i2 a b:Addr)(i:Nat)(h:Heap):Prop where
 zz:IsZip h z TI TO .none
 ti:IsPair h TI (.ref i1) (.ref i2)
 to:∃ u v,IsPair h TO u v
 t1:uL j h i1 a i
 t2:uL k h i2 b i
variable {pins:List (Addr × Obj)}{xs:List V}{k:Bool}
theorem fF.ar (I:Inv X pins σ H s)(h:fF k X.K H a xs):∃ its,Vals xs its/\uM k s.heap a its.toArray:=by
 cases k
 ·obtain⟨its,r,p,_⟩:=I.tuple h;exact⟨its,r,show s.heap.IsTuple a its.toArray from p⟩
 ·obtain⟨its,r,p,_⟩:=I.list h;exact⟨its,r,p.isList⟩
variable {ys:List V}
theorem fF.inj (I:Inv X pins σ H s)(h:fF k X.K H a xs)(h':fF k X.K H a ys):xs=ys:=by
 cases k
 ·exact I.kQ h h'
 ·exact I.ni h h'
variable {b:Addr}
theorem iP (I:Inv X pins σ H s)(h:fF k X.K H a xs)(f:j1 X pins H b):a≠b:=fun z=>by
 subst z
 cases k
 all_goals
  rcases h with (h | ⟨o,h⟩) | ⟨o,c,n,hk,_⟩
  ·rw[f.1] at h;cases h
  ·rw[f.1] at h;cases h
  ·have e:=I.mod.OU a o hk
   rcases f.2.2.2.1 with z | z
   ·exact I.ok.Dk a o e z
   ·exact absurd (j5 (lt_size (I.ok.bs a o e).1) z) (KE _)
variable {TI TO:Addr}{i:Nat}
theorem Rf.apart (I:Inv X pins σ H s)(hTT:TI≠TO)(hii:i1≠i2)(st:Rf j k z TI TO i1 i2 a b i s.heap)(ha:fF j X.K H a xs)(hb:fF k X.K H b ys)
  (f:∀ c∈[z,TI,TO,i1,i2],j1 X pins H c):ZipApart z TI TO i1 i2 a b:=by
 obtain⟨d,h,⟨u,v,l⟩,w,y⟩:=st;obtain⟨B,D,e,g,A,q,_⟩:=w.ob;obtain⟨E,C,e2,m,x,o,_⟩:=y.ob;have n:=f z (by simp)
 have r:=f TO (by simp)
 have p:=f i1 (by simp)
 have t:=f i2 (by simp)
 exact⟨gJ h rfl d rfl (by decide),gJ l rfl d rfl (by decide),gJ e g d rfl A.symm,gJ e2 m d rfl x.symm,hTT,gJ h rfl e g q,gJ h rfl e2 m o,gJ l rfl e g q,gJ l rfl e2 m o,hii,
  iP I ha n,iP I ha r,iP I ha p,iP I ha t,iP I hb n,iP I hb r,iP I hb p,iP I hb t⟩
theorem Rf.obj (st:Rf j k z TI TO i1 i2 a b i h)(c:Addr)(hc:c∈[z,TI,TO,i1,i2]):∃ o,h.get? c=some o/\∀ v,o.data≠.cell v:=by
 obtain⟨p,g,⟨u,v,l⟩,f,m⟩:=st;obtain⟨s,_,d,_,_,_,_,n⟩:=f.ob;obtain⟨r,_,e2,_,_,_,_,e⟩:=m.ob;simp only[mem_cons,not_mem_nil,or_false] at hc
 rcases hc with rfl | rfl | rfl | rfl | rfl
 ·exact⟨_,p,fun v q=>by cases q⟩
 ·exact⟨_,g,fun v q=>by cases q⟩
 ·exact⟨_,l,fun v q=>by cases q⟩
 ·exact⟨_,d,fun v q=>by rw[n] at q;cases q⟩
 ·exact⟨_,e2,fun v q=>by rw[e] at q;cases q⟩
theorem CH {k:Bool}{pos:Pos}(z TI TO i1 i2 a b:Addr)(hTT:TI≠TO)(hii:i1≠i2):Turn P w K (.Tuple elts x1 pos) (Of j k K a b) [z,TI,TO,i1,i2] z (Rf j k z TI TO i1 i2 a b) where
 mem:=by simp
 obj:=fun _ _ m=>m.obj
 keep:=fun i h h' m k=>by
  obtain⟨t,C,⟨u,v,N⟩,M,J⟩:=m;exact⟨k z (by simp) _ t,k TI (by simp) _ C,⟨u,v,k TO (by simp) _ N⟩,M.at fun o q=>k i1 (by simp) o q,J.at fun o q=>k i2 (by simp) o q⟩
 item:=by
  intro X U Y S hc i L s σ H E I B m R;subst U Y S;obtain⟨xs,ys,x,y,hq,l,hx,hy⟩:=R;obtain⟨r,rv,p⟩:=fF.ar I hq;obtain⟨f,A,p2⟩:=fF.ar I l;obtain⟨u,hu,ru⟩:=rv.get hx;obtain⟨v,hv,ab⟩:=A.get hy;have eu:r.toArray[i]?=some u:=by simpa using hu
  have ev:f.toArray[i]?=some v:=by simpa using hv
  have W:r.toArray[i]?=none∨f.toArray[i]?=none->False:=fun hn=>by
   rw[eu,ev] at hn
   rcases hn with hn | hn<;>cases hn
  have D:=m.apart I hTT hii hq l B;have ob:=m.obj;obtain⟨t,C,⟨c,d,N⟩,M,J⟩:=m;have O:s.TypeIs (.ref z) "zip":=⟨_,t,rfl⟩;unfold pyNext;refine cv (wpAny_attempt (On (name:=Str.ofString "__next__") O F.slot_zip_next (Tb F.slot_zip_next O F.entry_zip_next
   (Rb (by simpa using I.ok.hd hc) D t C N M J p p2 (fun x' y' h1 gx gy z1 Z r1 r2 new k1=>gd ?_) (fun _ _ hn=>(W hn).elim)) (F.args_zip_next_1 _))))
  rw[eu] at gx;cases gx
  rw[ev] at gy;cases gy
  refine⟨_,rfl,wpAny_letOwnedTupleGo_zip z1 fun n z2 Q=>?_⟩;have lz:z<s.heap.objs.size:=lt_size t;have G:∀ c o,c≠z->c≠TO->c≠i1->c≠i2->s.heap.get? c=some o->n.get? c=some o:=fun c o a1 a2 a3 a4 e=>(Q.2 c a1).trans (k1 c o a1 a2 a3 a4 e);refine⟨.ref s.heap.objs.size,upd H s.heap.objs.size (.tup [x,y]),I.lg (ch:=[z,TI,TO,i1,i2]) (fun c o hc q=>?_) B (dy _) (show bS X.prog X.w _ n _ (.tup _) from ⟨by show 2<=sizeLine;decide,[u,v],.cons ru (.cons ab .nil),?_⟩),rfl,⟨_,x,y,I.fresh,rfl,rfl,fun xs' ys' h1 n=>by rw[fF.inj I h1 hq,fF.inj I n l];exact⟨hx,hy⟩⟩,⟨z2,?_,⟨u,v,?_⟩,?_,?_⟩,fun c hc=>?_⟩
  ·simp only[mem_cons,not_mem_nil,or_false,not_or] at hc;exact G c o hc.1 hc.2.2.1 hc.2.2.2.1 hc.2.2.2.2 q
  ·exact⟨_,(Q.2 _ (TU lz)).trans new,rfl,_,rfl⟩
  ·exact G _ _ D.TIz hTT D.TIi1 D.TIi2 C
  ·exact(Q.2 _ D.TOz).trans Z
  ·exact r1.at fun o q=>(Q.2 _ D.i1z).trans q
  ·exact r2.at fun o q=>(Q.2 _ D.i2z).trans q
  ·obtain⟨o,e,_⟩:=ob c hc;rw[aG (nt (lt_size e))];exact(B c hc).1
 done:=by
  intro X U Y S hc i L s σ H E I B m R;subst U Y S;obtain⟨xs,ys,hq,l,hx⟩:=R;obtain⟨r,rv,p⟩:=fF.ar I hq;obtain⟨f,A,p2⟩:=fF.ar I l;have hl:=rv.length;have hl2:=A.length;have D:=m.apart I hTT hii hq l B;obtain⟨t,C,⟨c,d,N⟩,M,J⟩:=m;have O:s.TypeIs (.ref z) "zip":=⟨_,t,rfl⟩;have W:∀ x y,r.toArray[i]?=some x->f.toArray[i]?=some y->False:=fun x y h1 n=>by
   have h1:=(Array.getElem?_eq_some_iff.mp h1).1;have n:=(Array.getElem?_eq_some_iff.mp n).1
   simp at h1 n
   omega
  unfold pyNext;refine cv (wpAny_attempt (On (name:=Str.ofString "__next__") O F.slot_zip_next (Tb F.slot_zip_next O F.entry_zip_next
   (Rb (by simpa using I.ok.hd hc) D t C N M J p p2 (fun x y _ h1 n _ _ _ _ _ _=>(W x y h1 n).elim) fun h' e _ k he=>?_) (F.args_zip_next_1 _))))
  obtain⟨o,g,ce⟩:=he;refine cv (wpAny_isInstance (T:="StopIteration") (b:=true) ⟨o,g,ce⟩ isSubtype_stop (gd ⟨rfl,I.Jz (t':=s.toks) (ch:=[z,TI,TO,i1,i2]) (fun c o hc q=>?_) B⟩));simp only[mem_cons,not_mem_nil,or_false,not_or] at hc;exact k c o hc.1 hc.2.2.1 hc.2.2.2.1 hc.2.2.2.2 q
 self:=fun _ _ _ _ _ m h=>wpAny_pyIter_zip m.zz h
end L2
namespace L2
open PySem PySem.Spec PyProof.Rows
def SU (j k:Bool)(K:Frag)(ta:TA):TI:=fun σ H R=>ta σ H fun c H1=>∃ a b,c=[.ref a,.ref b]/\(∃ xs,fF j K H1 a xs)/\(∃ ys,fF k K H1 b ys)/\R (Of j k K a b) H1
variable {X:Cx}{N W G:List Str}{K:Frag}{e f:Expr}{t:TA}{p pos tpos:Pos}{elts:List Expr}{x1:Nat}
theorem OR (j k:Bool)(S:Sc X N W G)(g:Nat)(hm:X.mg "zip"=none)(hK:X.K=K)(ha:QB X [e,f] t)(hg:G[g]?=some "zip":=by rfl):QI X (.Tuple elts x1 tpos) (.Call (.Name "zip" p) [e,f] [] pos) (SU j k K t):=by
 subst hK;refine⟨fun i s σ H R I h=>?_⟩;have ha:=ha.h;have q:=S.gl _ (h5 hg);have y:Ib f=true:=by have:=ha.EG;rw[all_cons,gz] at this;exact this.1
 refine Call_ (jA I q.1 hm boot_zip (F8 (bV (ha.pa pos i s σ H _ I h) fun U m ⟨Z,H1,d,F,O⟩=>?_) (by rw[ba ha.he,ba y]) (by rw[ba y];rfl)))
 obtain⟨a,b,rfl,⟨Y,hq⟩,⟨ys,o⟩,q⟩:=O;obtain⟨u,v,rfl,M,B⟩:=F.two
 cases M
 cases B
 obtain⟨J,rv,Q⟩:=fF.ar d hq;obtain⟨w,L,r⟩:=fF.ar d o;refine CG Q r fun T x C E P D A=>wpAny_pyIter_zip x ?_;generalize hn:m.heap.objs.size=n at *;refine⟨n+4,[n+4,n+2,n+3,n,n+1],_,_,H1,rfl,d.kept (t':=m.toks) A,CH _ _ _ _ _ a b (fun z=>by have z:n+2=n+3:=z;omega) (fun z=>by have z:n=n+1:=z;omega),⟨x,C,⟨_,_,E⟩,P,D⟩,fun c hc=>?_,q⟩
 have l:m.heap.objs.size<=c:=by
  simp only[mem_cons,not_mem_nil,or_false] at hc;rw[hn]
  rcases hc with rfl | rfl | rfl | rfl | rfl
  all_goals first | exact dy _ | exact Nat.le_add_right _ _
 exact d.uS l (d.br.fresh l)
theorem LX {j k:Bool}{ta:TA}{σ:St}{H:Hp}{R:It->Hp->Prop}:SU j k K ta σ H R=ta σ H fun vs H1=>∃ a b,vs=[.ref a,.ref b]/\(∃ xs,fF j K H1 a xs)/\(∃ ys,fF k K H1 b ys)/\R (Of j k K a b) H1:=rfl
theorem fF.mono {k:Bool}{H H':Hp}{l:Addr}{ys:List V}(h:fF k K H l ys)(s:ah H H'):fF k K H' l ys:=by
 cases k
 ·exact s.aL h
 ·exact s.seq h
variable {j k:Bool}{a b:Addr}{te:TE}{Q:VK}{H1:Hp}{vs us:List V}{rest:St}
theorem Rg (n:Nat)(val:Nat->V)(h:fF j K H1 a us)(h':fF k K H1 b vs)(hu:n<=us.length)(hv:n<=vs.length)(hl:us.length<=n∨vs.length<=n)(hn:n<sizeLine)
  (step:∀ i H (A:V->Hp->Prop),i<n->ah H1 H->(∀ H',ah H H'->A (val i) H')->te (some (us.getD i .bE)::some (vs.getD i .bE)::rest) H A)
  (fin:∀ acc H,H1 acc=none->ah H1 H->H acc=some (.lst ((List.range n).map val))->Q (.ref acc) H) :
  ∃ c d,[V.ref a,V.ref b]=[.ref c,.ref d]/\(∃ xs,fF j K H1 c xs)/\(∃ ys,fF k K H1 d ys)/\sh (jZ K 2 (cJ (bx 0) (cJ (bx 1) jY))) hZ te (none::none::rest) Q (Of j k K c d) H1:=by
 refine⟨a,b,rfl,⟨_,h⟩,⟨_,h'⟩,fun acc f=>?_⟩;refine⟨fun i m τ H=>m=n - i/\i<=n/\(∃ y z,τ=y::z::rest)/\ah H1 H/\H acc=some (.lst ((List.range i).map val)),⟨n,by simp,zero_le _,⟨_,_,rfl⟩,ah.new f _,ag⟩,?_⟩
 rintro i m τ H ⟨rfl,hi,⟨y,z,rfl⟩,l,F⟩;have D:=h.mono l;have C:=h'.mono l
 by_cases g:i<n
 ·have J:∀ q:List V,n<=q.length->q[i]?=some (q.getD i .bE):=fun q M=>by
   rw[b4,b5 (j5 g M)];rfl
  have I:=J us hu;have L:=J vs hv;refine .inr ⟨⟨_,_,_,_,D,C,I,L⟩,fun G H'=>(∃ y z,G=y::z::rest)/\ah H1 H'/\H' acc=some (.lst ((List.range (i+1)).map val)),fun G H' ⟨u,v,w⟩=>⟨n - (i+1),by omega,rfl,g,u,v,w⟩,fun x H' y=>?_⟩
  obtain⟨p,P,N,O,rfl,rfl,r⟩:=y;obtain⟨B,t⟩:=r _ _ D C;have B:P=us.getD i .bE:=tx (B.symm.trans I);have t:N=vs.getD i .bE:=tx (t.symm.trans L);subst B t;have s:=ah.new O (.tup [us.getD i .bE,vs.getD i .bE]);refine⟨p,_,rfl,aH.of ag,rfl,_,_,rfl,_,_,rfl,rfl,?_⟩;simp only[gD,yl,kn,set_cons_zero,set_cons_succ];refine step i _ _ g (l.trans s) fun R o=>?_;have E:=o _ _ (s _ _ F);refine⟨_,E,?_,⟨_,_,rfl⟩,((l.trans s).trans o).set f _,?_⟩
  ·rw[cc,j6];omega
  ·rw[ag,FM,hO];rfl
 ·have e:i=n:=by omega
  subst e;exact .inl ⟨⟨_,_,D,C,hl⟩,fin acc H f l F⟩
theorem Rh (val:Nat->V)(h:fF j K H1 a us)(h':fF k K H1 b vs)(hl:us.length=vs.length)(hn:us.length<sizeLine)
  (step:∀ i H (A:V->Hp->Prop),i<us.length->ah H1 H->(∀ H',ah H H'->A (val i) H')->te (some (us.getD i .bE)::some (vs.getD i .bE)::rest) H A)
  (fin:∀ acc H,H1 acc=none->ah H1 H->H acc=some (.lst ((List.range us.length).map val))->Q (.ref acc) H) :
  ∃ c d,[V.ref a,V.ref b]=[.ref c,.ref d]/\(∃ xs,fF j K H1 c xs)/\(∃ ys,fF k K H1 d ys)/\sh (jZ K 2 (cJ (bx 0) (cJ (bx 1) jY))) hZ te (none::none::rest) Q (Of j k K c d) H1:=
 Rg us.length val h h' (dy _) (Nat.le_of_eq hl) (.inl (dy _)) hn step fin
theorem Og {ns ms:List Int}(n:Nat)(val:Nat->V)(h:aH K H1 a (ns.map V.int))(h':aH K H1 b (ms.map V.int))(hu:n<=ns.length)(hv:n<=ms.length)(hl:ns.length<=n∨ms.length<=n)(hn:n<sizeLine)
  (step:∀ i H (A:V->Hp->Prop),i<n->ah H1 H->(∀ H',ah H H'->A (val i) H')->te (some (.int (ns.getD i 0))::some (.int (ms.getD i 0))::rest) H A)
  (fin:∀ acc H,H1 acc=none->ah H1 H->H acc=some (.lst ((List.range n).map val))->Q (.ref acc) H) :
  ∃ c d,[V.ref a,V.ref b]=[.ref c,.ref d]/\(∃ xs,fF false K H1 c xs)/\(∃ ys,fF false K H1 d ys)/\sh (jZ K 2 (cJ (bx 0) (cJ (bx 1) jY))) hZ te (none::none::rest) Q (Of false false K c d) H1:=by
 have f:∀ (e:List Int) i,i<e.length->(e.map V.int).getD i .bE=.int (e.getD i 0):=fun e i hi=>by
  rw[b4,b4,ek,b5 hi];rfl
 refine Rg (j:=false) (k:=false) n val h h' (by rw[cc];exact hu) (by rw[cc];exact hv) (by rw[cc,cc];exact hl) hn (fun i H A hi g q=>?_) fin
 rw[f ns i (by omega),f ms i (by omega)]
 exact step i H A hi g q
theorem ml:∀ {vs:List Value} {ns:List Str},Vals (ns.map V.str) vs->∀ i,i<ns.length->∃ u,vs[i]?=some (.str (ns.getD i aW) u)
 | _,[],.nil,i,h=>absurd h (I1 i)
 | _,_::_,.cons ⟨t,rfl⟩ _,0,_=>⟨t,rfl⟩
 | _,_::_,.cons ⟨t,rfl⟩ r,i+1,h=>by
  obtain⟨u,e⟩:=ml r i (by simpa using h)
  exact⟨u,by simpa using e⟩
variable {prog:Program}{w:World}{A:Around}{E:Value->Shared->Prop}{s:Shared}{p:Addr}
theorem kC {vs:List Value}{ns:List Str}{k:Str}{t:Tok}{Q:Value->Shared->Prop}(hp:s.heap.IsTuple p vs.toArray)(hi:Vals (ns.map V.str) vs)(hk:k∈ns)(q:∀ tk,Q (.int (ns.idxOf k:Nat) tk) {s with toks:=s.toks+1}) :
  wpAny (model prog w) A (call (.builtin "tuple.index") [.ref p,.str k t]) Q E s:=by
 obtain⟨o,l,B,n,v⟩:=id hp;refine Tb slot_tuple_index hp.typeIs F.entry_tuple_index ?_ (F.args_tuple_index_2 _ _);unfold Builtin.«tuple.index»;refine cv (wpAny_of_eq (a:=(Value.ref p,[Value.str k t])) rfl ?_)
 dsimp only
 have d:=hi.length;rw[cc] at d;have c:ns.idxOf k<ns.length:=F1.mpr hk;have dq:=ml hi;unfold Builtin.Tuple.tupleItemsOf;refine cv (cv (Tq l v (gd (cv (gd (cv (gd (cv ?_))))))));rw[Std.Legacy.Range.forIn_eq_forIn_range'];have b:∀ (m i:Nat) (R:Option Fin × Unit->Shared->Prop),i+m=vs.length->i<=ns.idxOf k->R (some (.done (.ret (.int (ns.idxOf k:Nat) s.toks))),()) {s with toks:=s.toks+1}->
   wpAny (model prog w) A.in1 (forIn (List.range' i m) ((none,()):Option Fin × Unit) fun (i:Nat) __s=>
    match vs.toArray[i]? with
    | some y=>do
     let __do_lift<-eqBool y (Value.str k t)
     if __do_lift=true then do
       let __do_lift<-retInt ((i:Nat):Int)
       pure (ForInStep.done (some __do_lift,()))
      else pure (ForInStep.yield (none,()))
    | x=>pure (ForInStep.yield (none,()))) R E s:=by
  intro m
  induction m with
  | zero=>intro i R h1 r _;omega
  | succ m z=>
   intro i R h1 r j;obtain⟨u,hu⟩:=dq i (by omega)
   rw[List.range'_succ,forIn_cons];have f:vs.toArray[i]?=some (.str (ns.getD i aW) u):=by simpa using hu
   simp only[f];refine cv (cv (wpAny_eqBool_str ?_))
   by_cases e:i=ns.idxOf k
   ·have g:decide (ns.getD i aW=k)=true:=by
     rw[e,b4,b5 c];show decide (ns[ns.idxOf k]=k)=true;rw[Td c];exact dt rfl
    rw[g,if_pos rfl];unfold retInt;refine cv (cv (wpAny_mkInt (gd (gd (gd ?_)))));rw[e];exact j
   ·have g:decide (ns.getD i aW=k)=false:=by
     rw[b4,b5 (by omega)]
     show decide (ns[i]=k)=false
     have:=AY (show i<ns.idxOf k by omega) (by omega)
     exact ed (by simpa using this)
    rw[g,if_neg (by decide)]
    exact gd (z (i+1) R (by omega) (by omega) j)
 have h:(([: min vs.toArray.size vs.toArray.size]:Std.Legacy.Range)).size=vs.length:=by simp[Std.Legacy.Range.size]
 rw[h];exact b vs.length 0 _ (by omega) (zero_le _) (gd ⟨_,rfl,q _⟩)
def Hf (K:Frag):V->List V->Hp->VK->Prop:=fun x a H Q=>∃ (l:Addr) (ns:List Str) (k:Str),x=.ref l/\a=[.str k]/\aH K H l (ns.map V.str)/\k∈ns/\Q (.int (ns.idxOf k:Nat)) H
theorem zd (hK:X.K=K):xx X "tuple.index" (Hf K):=by
 subst hK;intro a s σ H x i v j Q I c f h;obtain⟨l,n,k,rfl,rfl,d,hk,q⟩:=h
 cases c
 obtain⟨u,rfl,e⟩:=f.one;obtain⟨t,rfl⟩:=e;obtain⟨b,r,g,hz⟩:=I.tuple d;exact kC (show s.heap.IsTuple l b.toArray from g) r hk (Q:=EP X a σ Q) fun m=>⟨.int _,H,I.tok _,⟨_,rfl⟩,q⟩
def Hg:List V->Hp->VK->Prop:=fun b H Q=>∃ a kvs,b=[.ref a]/\H a=some (.dK kvs)/\∀ l o,H l=none->o.cls=.type "tuple"->o.dict=none->Q (.ref l) (upd H l (.jE o (.tup (kvs.map fun p=>kV p.1))))
theorem ze (hc:X.calm=true):bX X (.type "tuple") Hg:=by
 intro d s σ H C B Q I r h;obtain⟨a,i,rfl,e,q⟩:=h;obtain⟨u,rfl,v⟩:=vals1 r
 cases v
 obtain⟨z,n,A,g,m⟩:=K1 I.br e;obtain⟨D,m⟩:=Cq m;refine mz n (I.ok.hd hc) m (by rw[<-g.length];exact z) fun j l c hk f=>?_
 have t:Inv X d σ H {s with heap:=j,toks:=l}:=I.kept (t':=l) hk;have y:Vals (i.map fun p=>kV p.1) c.toList:=Cr g f;have x:Inv X d σ (upd H j.objs.size (.jE {cls:=.type "tuple",data:=.seq c} (.tup (i.map fun p=>kV p.1)))) {s with heap:=j.push {cls:=.type "tuple",data:=.seq c},toks:=l}:=
  t.laid (t':=l) (fun b o e=>ey _ e) (dy _) (show bS X.prog X.w _ _ _ (.jE _ (.tup _)) from ⟨j9 _ rfl,by rw[cc];exact z,c.toList,y,IsTup.new _ _⟩)
 exact⟨.ref j.objs.size,_,x,rfl,q _ _ (t.br.fresh (dy _)) rfl rfl⟩
variable {L:List (Bool × List Nat)}
theorem Sz {rest:St}(val:(Bool × List Nat)->Str)(h:aH K H1 a us)(hg:GL K H1 us L)(hn:L.length<sizeLine)
  (step:∀ (i:Nat) g p H (A:V->Hp->Prop),L[i]?=some g->ah H1 H->aH K H p ((az g.2).map V.int)->(∀ H',ah H H'->A (.str (val g)) H')->te (some (.str (kd g.1))::some (.ref p)::rest) H A)
  (fin:∀ acc H,H1 acc=none->ah H1 H->H acc=some (.lst ((L.map val).map V.str))->Q (.ref acc) H) :
  ∃ b,V.ref a=.ref b/\(∃ xs,aH K H1 b xs)/\sh (jZ K 2 (cJ (bx 0) (cJ (bx 1) jY))) hZ te (none::none::rest) Q (Aa K b) H1:=by
 have F:=hg.length;refine⟨a,rfl,⟨_,h⟩,fun acc c=>?_⟩;refine⟨fun i m τ H=>m=L.length - i/\i<=L.length/\(∃ y z,τ=y::z::rest)/\ah H1 H/\H acc=some (.lst (((L.take i).map val).map V.str)),⟨L.length,by simp,zero_le _,⟨_,_,rfl⟩,ah.new c _,ag⟩,?_⟩
 rintro i m τ H ⟨rfl,hi,⟨y,z,rfl⟩,d,s⟩;have l:=d.aL h
 by_cases q:i<L.length
 ·have hx:us[i]?=some (us[i]'(by omega)):=b5 _
  refine .inr ⟨⟨_,_,l,hx⟩,fun t H'=>(∃ y z,t=y::z::rest)/\ah H1 H'/\H' acc=some (.lst (((L.take (i+1)).map val).map V.str)),fun t H' ⟨u,v,w⟩=>⟨L.length - (i+1),by omega,rfl,q,u,v,w⟩,fun x H' y=>?_⟩
  obtain⟨rfl,D⟩:=y;have n:=D _ l;obtain⟨g,r,p,j,rfl,B,C⟩:=(hg.mono d).get n;refine⟨r,_,rfl,B,rfl,_,_,rfl,_,_,rfl,rfl,?_⟩;simp only[gD,yl,kn,set_cons_zero,set_cons_succ];refine step i g p _ _ j d C fun E f=>?_;have o:=f _ _ s;refine⟨_,o,?_,⟨_,_,rfl⟩,(d.trans f).set c _,?_⟩
  ·rw[cc,cc,wh];omega
  ·rw[ag]
   have:L.take (i+1)=L.take i++[g]:=by rw[take_succ,j];rfl
   rw[this,hO,hO];rfl
 ·have e:i=L.length:=by omega
  subst e;refine .inl ⟨⟨_,l,by omega⟩,fin acc H c d ?_⟩
  rw[s,L3]
def CI (K:Frag)(H:Hp)(t:Addr)(b:Bk):Prop:=∃ a1 a2 a3,aH K H t [.ref a1,.ref a2,.ref a3]/\aH K H a1 (b.ns.map V.str)/\vC K H a1/\aH K H a2 ((az b.cs).map V.int)/\aH K H a3 ((az b.ws).map V.int)
variable {H H':Hp}{t:Addr}{b:Bk}
theorem CI.mono (s:ah H H')(h:CI K H t b):CI K H' t b:=by
 obtain⟨c,a,f,i,h1,e,d,g⟩:=h;exact⟨c,a,f,s.aL i,s.aL h1,e.mono s,s.aL d,s.aL g⟩
variable {C dx:Addr}{fs:List (Str × V)}
theorem CI.dk (s:Off a H H')(ha:H a=some (.ins C dx fs))(h:CI K H t b):CI K H' t b:=by
 obtain⟨d,c,g,j,h1,f,e,i⟩:=h;exact⟨d,c,g,j.dk s ha,h1.dk s ha,f.dk s ha,e.dk s ha,i.dk s ha⟩
variable {acc:Addr}{ys:List V}{o:HO}
theorem CI.c5 (ha:H acc=some (.lst ys))(h:CI K H t b):CI K (upd H acc o) t b:=by
 obtain⟨c,a,f,i,h1,e,d,g⟩:=h;exact⟨c,a,f,i.c5 ha,h1.c5 ha,e.c5 ha,d.c5 ha,g.c5 ha⟩
theorem CJ {d:Addr}{ns:List Str}(h:DN H d ns)(q:∀ l o,H l=none->o.cls=.type "tuple"->o.dict=none->Q (.ref l) (upd H l (.jE o (.tup (ns.map V.str))))):Hg [.ref d] H Q:=⟨d,_,rfl,h,by rw[vS];exact q⟩
def Bg (K:Frag):Sp:=fun a H Q _=>∃ (L:List Ln) (b:Bk),a=[.str (fk L)]/\(∀ x∈L,jG x)/\L.length<=100/\dw ⟨[],[],[]⟩ L=some b/\∀ t H',ah H H'->CI K H' t b->Q (.ref t) H'
def wk (K:Frag):Sp:=fun a H Q _=>∃ (t:Addr) (ns:List Str) (cs ws:List Nat),a=[.ref t]/\CI K H t ⟨ns,cs,ws⟩/\fP ns cs ws/\∀ H',ah H H'->Q (.str (fk ((bj ns ws).map (fE ns cs)))) H'
def Kj (b h:Addr):List (Str × V):=[("book",.ref b),("hall",.ref h)]
def wm (b:Addr):List (Str × V):=[("book",.ref b)]
variable {b:Addr}
theorem Kk:dA "book" (.ref b) []=wm b:=rfl
variable {h:Addr}
theorem Kl:dA "hall" (.ref h) (wm b)=Kj b h:=by
 unfold wm dA;rw[if_neg (by decide)];rfl
theorem wo:(wm b).lookup ("book":Str)=some (.ref b):=rfl
theorem Bh:(Kj b h).lookup ("book":Str)=some (.ref b):=rfl
theorem mY:(Kj b h).lookup ("hall":Str)=some (.ref h):=by
 unfold Kj;rw[Te,show (("hall":Str) == ("book":Str))=false from by decide];rfl
theorem jw {m:Str}(h1:(m == ("book":Str))=false:=by decide)(h2:(m == ("hall":Str))=false:=by decide):(Kj b h).lookup m=none:=by
 unfold Kj;rw[Te,h1];dsimp only;rw[Te,h2];rfl
structure bK (K:Frag)(cH cD:Addr)(H:Hp)(d hl:Addr)(ns:List Str)(cs ws:List Nat)(L:List (Bool × List Nat))(hs:List Int):Prop where
 ex:∃ dx b,H d=some (.ins cD dx (Kj b hl))/\CI K H b ⟨ns,cs,ws⟩
 dB:∃ c g us,cC K cH H hl c g (az cs) us hs/\GF K H us L
structure bJ (ns:List Str)(cs ws:List Nat)(L:List (Bool × List Nat))(hs:List Int):Prop where
 BB:fP ns cs ws
 best:dJ (az cs) ws (2 ^ (az cs).length - 1) ((L.map (e9 (az cs))).sum,L)
 gh:HN (az cs) hs (az cs).length
theorem cC.c5 {K:Frag}{C a c g acc:Addr}{H:Hp}{cs hs:List Int}{us ys:List V}{o:HO}(h:cC K C H a c g cs us hs)(ha:H acc=some (.lst ys)):cC K C (upd H acc o) a c g cs us hs:=by
 obtain⟨b,n,h1,d⟩:=h.ex;exact⟨⟨b,n,by rw[aG (gj h1 ha fun z=>nomatch z)];exact h1,d.c5 ha⟩,h.Oz.c5 ha,h.OV.c5 ha⟩
variable {x:Addr}
theorem cC.Hh {C' c g:Addr}{cs hs:List Int}{fs:List (Str × V)}(h:cC K C H a c g cs us hs)(s:Off x H H')(hx:H x=some (.ins C' dx fs))(ne:a≠x):cC K C H' a c g cs us hs:=by
 obtain⟨d,n,h1,b⟩:=h.ex;exact⟨⟨d,n,s _ _ ne h1,b.dk s hx⟩,h.Oz.dk s hx,h.OV.dk s hx⟩
variable {cH cD d hl:Addr}{ns:List Str}{cs ws:List Nat}{hs:List Int}
theorem bK.mono (h:bK K cH cD H d hl ns cs ws L hs)(s:ah H H'):bK K cH cD H' d hl ns cs ws L hs:=by
 obtain⟨⟨a,b,h1,j⟩,c,g,f,e,i⟩:=h;exact⟨⟨a,b,s _ _ h1,j.mono s⟩,c,g,f,e.mono s,i.mono s⟩
theorem bK.c5 (h:bK K cH cD H d hl ns cs ws L hs)(ha:H acc=some (.lst ys)):bK K cH cD (upd H acc o) d hl ns cs ws L hs:=by
 obtain⟨⟨a,b,h1,j⟩,c,g,f,e,i⟩:=h;exact⟨⟨a,b,by rw[aG (gj h1 ha fun z=>nomatch z)];exact h1,j.c5 ha⟩,c,g,f,e.c5 ha,i.c5 ha⟩
theorem bK.Hh (h:bK K cH cD H d hl ns cs ws L hs)(s:Off x H H')(hx:H x=some (.ins C dx fs))(n1:d≠x)(n2:hl≠x):bK K cH cD H' d hl ns cs ws L hs:=by
 obtain⟨⟨dx,b,h1,i⟩,c,g,e,a,f⟩:=h;exact⟨⟨dx,b,s _ _ n1 h1,i.dk s hx⟩,c,g,e,a.Hh s hx n2,f.dk s hx⟩
theorem bK.ne (h:bK K cH cD H d hl ns cs ws L hs):d≠hl:=fun e=>by
 obtain⟨⟨j,b,h1,_⟩,c,g,l,a,_⟩:=h;obtain⟨i,n,f,_⟩:=a.ex;rw[e,f] at h1
 injection h1 with h1
 injection h1 with _ _ h1
 have:=OD List.length h1
 cases this
def fS (i:Int):Str:=Str.ofString (toString i)
def gS (ns:List Str)(l:List Nat):Str:=Str.join ⟨#[32]⟩ (l.map fun i=>ns.getD i aW)
def eM (ns:List Str)(l:List Nat):List Str:=if l=[] then [] else [gS ns l]
def zf (ns:List Str)(g:Bool × List Nat):Str:=Str.join ⟨#[32]⟩ (kd g.1::g.2.map fun i=>ns.getD i aW)
def jK (cs:List Int):Str:=fS (OL cs)++Str.ofString "/"++fS (Np cs)
inductive TK where
 | sure | share | groups | ring | order | book
def ip:TK->Str
 | .sure=>"sure"
 | .share=>"share"
 | .groups=>"groups"
 | .ring=>"ring"
 | .order=>"order"
 | .book=>"book"
def wq (ns:List Str)(cs ws:List Nat)(L:List (Bool × List Nat)):TK->List Str->Prop
 | .sure,a=>a=[fS (L.map (e9 (az cs))).sum]
 | .share,a=>a=[jK (az cs)]
 | .groups,a=>a=L.map (zf ns)
 | .ring,a=>(¬ (laidOut ws).length<ws.length/\a=[])∨((laidOut ws).length<ws.length/\∃ r,Ring ws r/\a=eM ns r)
 | .order,a=>((laidOut ws).length<ws.length/\a=[])∨(¬ (laidOut ws).length<ws.length/\a=eM ns (laidOut ws))
 | .book,a=>a=kA (fk ((bj ns ws).map (fE ns cs)))
inductive AK where
 | told (k:TK)
 | right
 | ia (i:Nat)
 | put (i c:Nat)
def kD (ns:List Str):AK->List Str
 | .told k=>[ip k]
 | .right=>["right"]
 | .ia i=>["guess",ns.getD i aW]
 | .put i c=>["put",ns.getD i aW,jo c]
def Bi (ns:List Str):AK->Prop
 | .told _=>True
 | .right=>True
 | .ia i=>i<ns.length
 | .put i c=>i<ns.length/\c<10 ^ 30
def rn (p z:Str):Bool:=if p="name" then bI z else decide (z="0")||di z
def Hi:Sp:=fun a H Q _=>∃ p z:Str,a=[.str p,.str z]/\z.length<=1000000/\∀ H',ah H H'->Q (.bl (rn p z)) H'
def Bj (K:Frag)(e:Nat->Addr):Sp:=fun a H Q _=>∃ (p x:Addr) (w0:Str) (f b:List Str),a=[.ref p]/\ax K H p ((w0::b).map V.str)/\cZ (n9 e) (.inr w0)=some (.ref x)/\aH K H x (f.map V.str)/\b.length=f.length/\b.length<=8/\(∀ z∈b,z.length<=1000000)/\(∀ k,k<f.length->rn (f.getD k aW) (b.getD k aW)=true)/\(∀ H':Hp,aH K H' x (f.map V.str))/\∀ H',ah H H'->Q (.bl true) H'
def Ri (K:Frag)(er:Str->Addr):Sp:=fun a H Q E=>∃ (p:Addr) (ns:List Str) (z:Str),a=[.ref p,.str z]/\aH K H p (ns.map V.str)/\vC K H p/\(z∉ns->∀ H',ah H H'->E (.ref (er "NoName")) none H')/\(z∈ns->∀ H',ah H H'->Q (.int (ns.idxOf z:Nat)) H')
structure dM (ns:List Str)(l:List Nat):Prop where
 nm:∀ x∈ns,x.length<=12
 lt:∀ i∈l,i<ns.length
 eU:l.length<=8
def wt (K:Frag):Sp:=fun b H Q _=>∃ (p:Addr) (ns:List Str) (v:V) (l:List Nat),b=[.ref p,v]/\aH K H p (ns.map V.str)/\((v=.bE/\l=[])∨∃ q,v=.ref q/\aH K H q ((az l).map V.int))/\dM ns l/\∀ a H',ah H H'->H a=none->H' a=some (.lst ((eM ns l).map V.str))->Q (.ref a) H'
def wu (K:Frag):Sp:=fun b H Q _=>∃ (p q:Addr) (ns:List Str) (l:List Nat),b=[.ref p,.ref q]/\aH K H p (ns.map V.str)/\ax K H q ((az l).map V.int)/\dM ns l/\∀ a H',ah H H'->H a=none->H' a=some (.lst ((eM ns l).map V.str))->Q (.ref a) H'
def Hj (K:Frag):Sp:=fun a H Q _=>∃ (p:Addr) (cs:List Int),a=[.ref p]/\aH K H p (cs.map V.int)/\cp cs/\∀ H',ah H H'->Q (.str (jK cs)) H'
def LY (K:Frag):Sp:=fun a H Q _=>∃ (p q:Addr) (ns:List Str) (g:Bool × List Nat),a=[.ref p,.str (kd g.1),.ref q]/\aH K H p (ns.map V.str)/\aH K H q ((az g.2).map V.int)/\dM ns g.2/\∀ H',ah H H'->Q (.str (zf ns g)) H'
def Hk (K:Frag):Sp:=fun a H Q _=>∃ (b g:Addr) (ns:List Str) (cs ws:List Nat) (us:List V) (L:List (Bool × List Nat)) (hs:List Int) (k:TK),a=[.ref b,.ref g,.str (ip k)]/\CI K H b ⟨ns,cs,ws⟩/\aH K H g us/\GF K H us L/\bJ ns cs ws L hs/\∀ l rows H',ah H H'->H l=none->H' l=some (.lst (rows.map V.str))->wq ns cs ws L k rows->Q (.ref l) H'
def tK (K:Frag)(cH cD:Addr):Sp:=fun a H Q _=>∃ (x dx:Addr) (M:List Ln) (ns:List Str) (cs ws:List Nat),a=[.ref x,.str (fk M)]/\H x=some (.ins cD dx [])/\(∀ y∈M,jG y)/\M.length<=100/\dw ⟨[],[],[]⟩ M=some ⟨ns,cs,ws⟩/\fP ns cs ws/\
 ∀ H' hl L,Off x H H'->H hl=none->bK K cH cD H' x hl ns cs ws L (List.replicate cs.length 0)->bJ ns cs ws L (List.replicate cs.length 0)->Q .bE H'
def Bl (K:Frag)(cH cD:Addr)(er:Str->Addr)(d hl:Addr)(ns:List Str)(cs ws:List Nat)(L:List (Bool × List Nat))(hs:List Int)(H:Hp)(Q:VK)(E:XK):AK->Prop
 | .told k=>∀ l rows H',ah H H'->H l=none->H' l=some (.lst (rows.map V.str))->wq ns cs ws L k rows->Q (.ref l) H'
 | .right=>∀ l H',ah H H'->H l=none->H' l=some (.lst ((eM ns (eL (az cs) hs L)).map V.str))->Q (.ref l) H'
 | .ia i=>∀ l H',ah H H'->H l=none->H' l=some (.lst [.str (fS (sT (az cs) L hs i))])->Q (.ref l) H'
 | .put i c=>(gs (az cs) (hs.set i (c:Int))=false->∀ H',ah H H'->E (.ref (er "NoHats")) none H')/\(gs (az cs) (hs.set i (c:Int))=true->∀ l H',Off hl H H'->H l=none->H' l=some (.lst [])->bK K cH cD H' d hl ns cs ws L (hs.set i (c:Int))->Q (.ref l) H')
def LZ (K:Frag)(cH cD:Addr)(er:Str->Addr):Sp:=fun b H Q E=>∃ (d hl:Addr) (ns:List Str) (cs ws:List Nat) (L:List (Bool × List Nat)) (hs:List Int) (a:AK),b=[.ref d,.str (Str.join ⟨#[32]⟩ (kD ns a))]/\bK K cH cD H d hl ns cs ws L hs/\bJ ns cs ws L hs/\Bi ns a/\Bl K cH cD er d hl ns cs ws L hs H Q E a
def wx (K:Frag)(C:Addr):Sp:=fun a H Q _=>Ka K C (fun _=>0) a H Q fun _ _ _=>False
def rq (K:Frag)(C:Addr):Sp:=fun a H Q _=>GK K C (fun _=>0) a H Q fun _ _ _=>False
def Bm (K:Frag)(C:Addr):Sp:=fun a H Q _=>N8 K C (fun _=>0) a H Q fun _ _ _=>False
def Hl (K:Frag):Sp:=fun a H Q _=>Ri K (fun _=>0) a H Q fun _ _ _=>False
def tL (K:Frag)(cH cD:Addr):Sp:=fun a H Q _=>LZ K cH cD (fun _=>0) a H Q fun _ _ _=>False
theorem fP.len (P:fP ns cs ws):(az cs).length=ns.length:=by rw[ao,P.lc]
theorem fP.lC (P:fP ns cs ws):cp (az cs):=by
 refine⟨fun c hc=>?_,by rw[P.len];exact P.nm.eU⟩
 unfold az at hc;obtain⟨n,hn,rfl⟩:=ih.mp hc;have h:=P.RT n hn;have e:(10:Nat) ^ 30=1000000000000000000000000000000:=by decide
 rw[e] at h;refine⟨?_,?_⟩
 ·show (1:Int)<=((n:Nat):Int)
  omega
 ·show ((n:Nat):Int)<=_
  omega
theorem fP.wy (P:fP ns cs ws):eK ws:=by
 refine⟨fun i hi=>?_,fun i hi=>?_⟩
 ·rw[P.lw] at hi ⊢;exact P.RG i hi
 ·rw[P.lw] at hi
  have:=P.Mb i hi
  unfold dc;rw[ri,this];rfl
theorem bJ.Hm (D:bJ ns cs ws L hs):yD (az cs) ws L:=⟨fun g a=>(D.best.1.each g a).ok,D.best.1.pP⟩
variable {l:List Nat}
theorem zg {n:Nat}(nd:l.Nodup)(h:∀ x∈l,x<n):l.length<=n:=cG nd h
theorem bJ.g8 (D:bJ ns cs ws L hs):∀ g∈L,g.2.length<=8:=fun g a=>by
 have h:=(D.best.1.each g a).ok
 have:=zg h.nd h.lt
 rw[D.BB.len] at this
 have:=D.BB.nm.eU
 omega
theorem bJ.eU (D:bJ ns cs ws L hs):L.length<=8:=by
 have:=D.best.1.len
 rw[D.BB.len] at this
 have:=D.BB.nm.eU
 show L.length<=8;have h:((L.map (e9 (az cs))).sum,L).2.length<=ns.length:=by assumption
 exact h9 h this
theorem Km (h:l.Pairwise (· < ·)):nN l=true:=by
 unfold nN;refine kb.mpr fun k hk=>dt ?_;rw[gc] at hk;rw[b4,b4,b5 (by omega),b5 (by omega)]
 exact List.pairwise_iff_getElem.mp h k (k+1) (by omega) (by omega) (by omega)
variable {m:Nat}
theorem Hn {cs:List Int}{x:Int × List (Bool × List Nat)}(h:xB cs ws m x):DE cs ws [] 0 (gI x.2)=none:=by
 refine Be (gone:=[]) (fun g a=>?_) h.pP (fun _ _ _ _ z=>nomatch z);have G:=h.each g a;exact⟨G.ok,G.ok.lt,G.ok.nd,F2.mpr G.ne,fun e=>⟨(G.ok.ring e).1,(G.ok.ring e).2.1⟩,fun e=>Km (G.rise e)⟩
theorem bJ.Bo (D:bJ ns cs ws L hs):(L.map (e9 (az cs))).sum<=8:=by
 have h:=l9 D.BB.lC.pos D.gh D.Hm;have a:rat (fun i h=>sT (az cs) L h i) (az cs).length hs<=8:=by
  unfold rat;refine h9 (A5 _ _) ?_;rw[j6];exact D.BB.lC.len
 omega
theorem bJ.Bp (D:bJ ns cs ws L hs):Bt 5 (L.map (e9 (az cs))).sum:=by
 have h:=D.Bo;have a:0<=(L.map (e9 (az cs))).sum:=D.best.1.nn;unfold Bt;show _<32
 omega
theorem fP.OS (P:fP ns cs ws):∀ x∈ns,x.length<=12:=fun x hx=>(dI (P.nm.nm x hx)).2.2
theorem bJ.names (D:bJ ns cs ws L hs){g:Bool × List Nat}(hg:g∈L):dM ns g.2:=
 ⟨D.BB.OS,fun i hi=>by have:=(D.best.1.each g hg).ok.lt i hi;rw[D.BB.len] at this;exact this,D.g8 g hg⟩
theorem rz (P:fP ns cs ws):dM ns (eL (az cs) hs L):=by
 unfold eL;refine⟨P.OS,fun i hi=>?_,?_⟩
 ·have:=(pS.mp hi).1
  rw[gc,P.len] at this;exact this
 ·refine h9 (A5 _ _) ?_;rw[j6,P.len];exact P.nm.eU
theorem Bq (P:fP ns cs ws){r:List Nat}(h:Ring ws r):dM ns r:=by
 have a:∀ i∈r,i<ns.length:=fun i hi=>by have:=h.lt i hi;rw[P.lw] at this;exact this
 exact⟨P.OS,a,h9 (zg h.nd a) P.nm.eU⟩
theorem oa (P:fP ns cs ws):dM ns (laidOut ws):=by
 obtain⟨l,h,_⟩:=fe ws;have a:∀ i∈laidOut ws,i<ns.length:=fun i hi=>by have:=h.lt i hi;rw[P.lw] at this;exact this
 exact⟨P.OS,a,h9 (zg h.nd a) P.nm.eU⟩
theorem wz (n:Nat):cz (fS (n:Int))=(toDigits 10 n).map Char.toNat:=vJ n
theorem Ho {n:Nat}{k:Nat}(h:n<10 ^ k)(hk:0<k):(fS (n:Int)).length<=k:=by
 rw[aN,wz,cc];exact(Nat.length_toDigits_le_iff (by decide) hk).mpr h
theorem fq {i:Int}{k:Nat}(h0:0<=i)(h:Bt k i)(hk:k<=900):(fS i).length<=300/\i.natAbs.log2<1920:=by
 obtain⟨n,rfl⟩:∃ n:Nat,i=(n:Int):=⟨i.toNat,by omega⟩
 have h:n<2 ^ k:=by unfold Bt at h;rwa [KF] at h
 have a:n<2 ^ 900:=j5 h (q5 (by decide) hk)
 refine⟨Ho (Ti a (by decide +kernel)) (by decide),?_⟩
 rw[KF]
 by_cases z:n=0
 ·subst z;decide
 ·exact(log2_lt z).mpr (Ti a (by decide +kernel))
theorem namesW (h:dM ns l):∀ x∈l.map (fun i=>ns.getD i aW),x.length<=12:=fun x hx=>by
 obtain⟨i,hi,rfl⟩:=ih.mp hx;exact h.nm _ (getD_memS (h.lt i hi))
theorem eB (c:Nat)(k:Nat):∀ (l:List Str),(∀ x∈l,x.length<=k)->(Str.join ⟨#[c]⟩ l).length<=l.length*(k+1)
 | [],_=>by show 0<=_;omega
 | [x],h=>by have:=h x fA;show x.length<=1*(k+1);omega
 | x::y::r,h=>by
  have a:=eB c k (y::r) fun z hz=>h z (eH _ hz)
  have:=h x fA
  rw[aN,b6,eG,eG,FW,<-aN,<-aN];show x.length+1+_<=((y::r).length+1)*(k+1);rw[Nat.add_mul,Nat.one_mul]
  omega
theorem zh (k:TK):ip k≠"put"/\ip k≠"guess"/\ip k≠"right"/\32∉cz (ip k)/\(ip k).length<=12:=by cases k<;>decide +kernel
variable {c:Nat}
theorem iQ (h:c<10 ^ 30):rn "colour" (jo c)=true/\intText? (jo c)=some (c:Int)/\32∉cz (jo c)/\(jo c).length<=30:=by
 unfold rn;rw[if_neg (by decide)]
 by_cases z:c=0
 ·subst z;decide +kernel
 ·have q:=dj (n:=c) (by omega) h
  have a:di (jo c)=true:=q.1;refine⟨?_,q.2,(iK a).1,gn a⟩;rw[a,Bool.or_true]
theorem Oh (e:Nat->Addr)(k:TK):∃ j,j<9/\j≠5/\j≠6/\cZ (n9 e) (.inr (ip k))=some (.ref (e j)):=by
 cases k with
 | sure=>exact⟨0,by decide,by decide,by decide,rfl⟩
 | share=>exact⟨1,by decide,by decide,by decide,rfl⟩
 | groups=>exact⟨2,by decide,by decide,by decide,rfl⟩
 | ring=>exact⟨3,by decide,by decide,by decide,rfl⟩
 | order=>exact⟨4,by decide,by decide,by decide,rfl⟩
 | book=>exact⟨8,by decide,by decide,by decide,rfl⟩
theorem CK (e:Nat->Addr):cZ (n9 e) (.inr "right")=some (.ref (e 7)):=rfl
theorem Kn (e:Nat->Addr):cZ (n9 e) (.inr "put")=some (.ref (e 5)):=rfl
theorem CL (e:Nat->Addr):cZ (n9 e) (.inr "guess")=some (.ref (e 6)):=rfl
theorem empty_app (x:Str):Str.empty++x=x:=kr (by rw[bW];rfl)
variable {a:AK}
theorem CM (P:fP ns cs ws)(h:Bi ns a):kD ns a≠[]/\(∀ x∈kD ns a,32∉cz x/\x.length<=30)/\(kD ns a).length<=3:=by
 have b:∀ i,i<ns.length->32∉cz (ns.getD i aW)/\(ns.getD i aW).length<=30:=fun i hi=>by
  have q:=P.nm.nm _ (getD_memS hi);exact⟨(eg q).1,h9 (dI q).2.2 (by decide)⟩
 cases a with
 | told k=>
  refine⟨(fun z=>nomatch z),fun x hx=>?_,by show 1<=3;decide⟩
  obtain rfl:x=ip k:=fz.mp hx;exact⟨(zh k).2.2.2.1,h9 (zh k).2.2.2.2 (by decide)⟩
 | right=>
  refine⟨(fun z=>nomatch z),fun x hx=>?_,by show 1<=3;decide⟩
  obtain rfl:x="right":=fz.mp hx
  decide +kernel
 | ia i=>
  refine⟨(fun z=>nomatch z),fun x hx=>?_,by show 2<=3;decide⟩
  rcases hU.mp hx with rfl | hx
  ·decide +kernel
  ·obtain rfl:x=ns.getD i aW:=fz.mp hx;exact b i h
 | put i c=>
  refine⟨(fun z=>nomatch z),fun x hx=>?_,by show 3<=3;decide⟩
  rcases hU.mp hx with rfl | hx
  ·decide +kernel
  ·rcases hU.mp hx with rfl | hx
   ·exact b i h.1
   ·obtain rfl:x=jo c:=fz.mp hx;have q:=iQ h.2;exact⟨q.2.2.1,q.2.2.2⟩
variable {aF:Addr}
theorem Hq {P:Program}{mg:Str->Option Value}{e:Nat->Addr}(FT:tJ P w K mg aF e)(PP:fP ns cs ws)(h:Bi ns a) :
  ∃ (x:Addr) (w0:Str) (f b:List Str),kD ns a=w0::b/\cZ (n9 e) (.inr w0)=some (.ref x)/\b.length=f.length/\b.length<=8/\(∀ z∈b,z.length<=1000000)/\(∀ k,k<f.length->rn (f.getD k aW) (b.getD k aW)=true)/\∀ H':Hp,aH K H' x (f.map V.str):=by
 have d:∀ i,i<ns.length->bI (ns.getD i aW)=true/\(ns.getD i aW).length<=1000000:=fun i hi=>by
  have q:=PP.nm.nm _ (getD_memS hi);exact⟨q,h9 (dI q).2.2 (by decide)⟩
 cases a with
 | told k=>
  obtain⟨j,p,n,o,s⟩:=Oh e k;exact⟨e j,ip k,[],[],rfl,s,rfl,by decide,(fun _ z=>nomatch z),(fun _ z=>absurd z (I1 _)),FT.t0 j p n o⟩
 | right=>exact⟨e 7,"right",[],[],rfl,CK e,rfl,by decide,(fun _ z=>nomatch z),(fun _ z=>absurd z (I1 _)),FT.t0 7 (by decide) (by decide) (by decide)⟩
 | ia i=>
  obtain⟨g,l⟩:=d i h;refine⟨e 6,"guess",["name"],[ns.getD i aW],rfl,CL e,rfl,by show 1<=8;decide,fun z hz=>?_,fun k hk=>?_,FT.t6⟩
  ·rw[fz.mp hz];exact l
  ·obtain rfl:k=0:=by have:k<1:=hk;omega
   exact g
 | put i c=>
  obtain⟨g,l⟩:=d i h.1;obtain⟨m,_,_,r⟩:=iQ h.2;refine⟨e 5,"put",["name","colour"],[ns.getD i aW,jo c],rfl,Kn e,rfl,by show 2<=8;decide,fun z hz=>?_,fun k hk=>?_,FT.t5⟩
  ·rcases hU.mp hz with rfl | hz
   ·exact l
   ·rw[fz.mp hz];exact h9 r (by decide)
  ·have hk:k<2:=hk
   rcases(show k=0∨k=1 by omega) with rfl | rfl
   ·exact g
   ·exact m
theorem Oi {cs:List Int}{i:Nat}(hc:cp cs)(hn:HN cs hs cs.length)(h:yD cs ws L)(hi:i<cs.length):0<=sT cs L hs i/\Bt 100 (sT cs L hs i):=by
 obtain⟨h1,a⟩:=JG hc.pos hn h hi;have hm:cs.getD i 0∈cs:=by
  rw[b4,b5 hi];exact p0 hi
 exact⟨h1,(hc.cn _ hm).bt.of_le h1 (by omega)⟩
theorem iq (hp:H p=none)(e:upd H p o=H1):ah H H1/\H1 p=some o:=by
 subst e;exact⟨ah.new hp o,ag⟩
variable {a:Addr}{xs:List V}
theorem mZ (k:Nat)(h:ax K H a xs)(q:∀ p H',ah H H'->H p=none->H' p=some (.lst (xs.drop k))->Q (.ref p) H'):Ed K (.ref a) (some (k:Int)) none H Q:=
 ⟨a,xs,rfl,h,fun p b=>q p _ (ah.new b _) b (by rw[dv];exact ag)⟩
theorem tM (k:Nat)(h:ax K H a xs)(q:∀ p H',ah H H'->H p=none->H' p=some (.lst (xs.take k))->Q (.ref p) H'):Ed K (.ref a) none (some (k:Int)) H Q:=
 ⟨a,xs,rfl,h,fun p b=>q p _ (ah.new b _) b (by rw[k8];exact ag)⟩
def Br:Sp:=fun b H Q _=>∃ (a:Addr) (dn:List Int) (many:Nat) (kind:Int) (i:Nat),b=[.ref a,.int many,.int kind,.int i]/\H a=some (.lst (dn.map V.int))/\dn.length=24/\(∀ x∈dn,0<=x)/\1<=many/\many<=8/\i<many/\∀ m:Nat,m<2 ^ many->m.testBit i=false->Q (.int (m:Int)) H
def Hr:Sp:=fun b H Q _=>∃ (a:Addr) (dn:List Int) (kind:Int) (i:Nat),b=[.ref a,.int kind,.int i]/\H a=some (.lst (dn.map V.int))/\dn.length=8/\(∀ x∈dn,0<=x)/\i<8/\∀ (c:Nat) H',ah H H'->0<c->c<10 ^ 30->Q (.int (c:Int)) H'
def rA (K:Frag):Sp:=fun c H Q _=>∃ (a:Addr) (xs:List Int) (most kinds:Nat),c=[.ref a,.int most,.int kinds]/\ax K H a (xs.map V.int)/\xs.length=3/\1<=most/\most<=8/\1<=kinds/\kinds<=6/\∀ b ns cs ws H',ah H H'->iN H' b ns cs ws->fP ns cs ws->ns.length<=most->Q (.ref b) H'
theorem zi {n i:Nat}(h:i<n):2 ^ n - 1 - 2 ^ i<2 ^ n/\(2 ^ n - 1 - 2 ^ i).testBit i=false:=by
 have h1:2 ^ i<2 ^ n:=Os (by decide) h
 have a:=FS i;generalize e2:2 ^ n=N at h1 ⊢;refine⟨by omega,?_⟩
 subst e2;rw[show 2 ^ n - 1 - 2 ^ i=2 ^ n - (2 ^ i+1) by omega,Nat.testBit_two_pow_sub_succ h1,Nat.testBit_two_pow_self]
 simp
theorem Bs {n i:Nat}(h:i<n):((2 ^ n:Nat):Int) - 1 - ((2 ^ i:Nat):Int)=((2 ^ n - 1 - 2 ^ i:Nat):Int):=by
 have h1:2 ^ i<2 ^ n:=Os (by decide) h
 omega
theorem Bu {x e n i:Nat}(h:e<2 ^ n)(h2:e.testBit i=false):x&&& e<2 ^ n/\(x&&& e).testBit i=false:=by
 refine⟨A6 Nat.and_le_right h,?_⟩;rw[testBit_and,h2,TL]
variable {dn:List Int}{dr:Addr}
theorem cP {i:Int}(hd:H dr=some (.lst (dn.map V.int)))(hl:dn.length=m)(hnn:∀ x∈dn,0<=x)(h0:0<=i)(h1:i<m)(q:∀ x:Nat,Q (.int (x:Int)) H):BR K (.ref dr) (.int i) H Q:=by
 obtain⟨m,rfl⟩:=r3 h0;have hm:m<dn.length:=by omega
 obtain⟨x,hx⟩:=r3 (hnn _ (p0 hm));exact av (ax.of hd) (aw (by rw[ek,b5 hm,hx];rfl)) (q x)
def jj (z:Str):Prop:=∀ c∈cz z,c<1114112
theorem jj.app {a b:Str}(ha:jj a)(hb:jj b):jj (a++b):=fun c hc=>by
 rw[bW] at hc
 rcases ka.mp hc with z | z
 ·exact ha c z
 ·exact hb c z
theorem jj.join {d:Nat}(hd:d<1114112):∀ {l:List Str},(∀ x∈l,jj x)->jj (Str.join ⟨#[d]⟩ l)
 | [],_=>fun c hc=>nomatch hc
 | [x],h=>h x fA
 | x::y::r,h=>fun c hc=>by
  rw[b6,FW] at hc
  rcases ka.mp hc with z | z
  ·rcases ka.mp z with z | z
   ·exact h x fA c z
   ·rw[fz.mp z];exact hd
  ·exact jj.join hd (fun x hx=>h x (eH _ hx)) c z
variable {z:Str}
theorem jj.ok (h:jj z):PyData.strOk z=true:=by
 unfold PyData.strOk;rw[<-all_toList];exact kb.mpr fun c hc=>dt (h c hc)
theorem jj.low (h:gm z):jj z:=fun c hc=>by
 have a:=u5 (h c hc)
 have:∀ c∈cz ku,c<1114112:=by decide +kernel
 exact this c a
theorem jj.fS {i:Int}(h:0<=i):jj (fS i):=by
 obtain⟨n,rfl⟩:=r3 h;intro c hc;rw[wz] at hc;obtain⟨d,a,rfl⟩:=ih.mp hc
 have:=Nat.isDigit_of_mem_toDigits (by decide) (by decide) a
 simp only[Char.isDigit,Bool.and_eq_true,decide_eq_true_eq] at this;have b:d.toNat<=57:=this.2
 omega
theorem Bv:∀ l:List Str,(∀ x∈l,jj x)->PyData.canLayAll0 (l.map PyData.str)=true
 | [],_=>by simp[PyData.canLayAll0]
 | x::r,h=>by simp[PyData.canLayAll0,PyData.canLay0,Bv r fun x hx=>h x (mem_cons_of_mem _ hx),(h x mem_cons_self).ok]
variable {l:List Str}
theorem fI (h:∀ x∈l,jj x):shaped (.list (l.map PyData.str))=true:=qU
 (by simp[PyData.canLay0,Bv l h]) (by have:=jF l;simp only[PyData.depth];omega)
theorem kE:∀ l m:List Str,PyData.eqvAll (l.map PyData.str) (m.map PyData.str)=decide (l=m)
 | [],[]=>by simp[PyData.eqvAll]
 | [],_::_=>by simp[PyData.eqvAll]
 | _::_,[]=>by simp[PyData.eqvAll]
 | x::r,y::s=>by
  simp only[map_cons,PyData.eqvAll,PyData.eqv,kE r s]
  by_cases h:x=y<;>by_cases a:r=s<;>simp[h,a]
theorem rC (l m:List Str):PyData.eqv (.list (l.map PyData.str)) (.list (m.map PyData.str))=decide (l=m):=by
 simp only[PyData.eqv,kE]
variable {q:Addr}{m:List Str}
theorem kF (hp:ax K H p (l.map V.str))(hq:ax K H q (m.map V.str))(cl:∀ x∈l,jj x)(cm:∀ x∈m,jj x)(h:Q (.bl (!decide (l=m))) H):PJ K (.ref p) (.ref q) H Q:=
 ⟨_,_,.lst hp (jf _),.lst hq (jf _),fI cl,fI cm,by rw[rC];exact h⟩
theorem m7 (hp:ax K H p (l.map V.str))(hq:ax K H q (m.map V.str))(cl:∀ x∈l,jj x)(cm:∀ x∈m,jj x)(h:Q (.bl (decide (l=m))) H):PH K (.ref p) (.ref q) H Q:=
 ⟨_,_,.lst hp (jf _),.lst hq (jf _),fI cl,fI cm,by rw[rC];exact h⟩
structure Bw (ns:List Str)(L:List (Bool × List Nat)):Prop where
 nm:Gd ns 8
 each:∀ g∈L,dM ns g.2/\g.2≠[]
 eU:L.length<=8
def zj (K:Frag):Sp:=fun a H Q _=>∃ (r nm:Addr) (ns:List Str) (L:List (Bool × List Nat)),a=[.ref r,.ref nm]/\H r=some (.lst ((L.map (zf ns)).map V.str))/\H nm=some (.lst (ns.map V.str))/\Bw ns L/\∀ t us H',ah H H'->aH K H' t us->GF K H' us L->Q (.ref t) H'
def Rj (K:Frag)(H0:Hp)(r nm f:Addr)(L:List (Bool × List Nat))(k:Nat)(σ:St)(H:Hp):Prop:=∃ (us:List V) (y3 y4:Option V),σ=[some (.ref r),some (.ref nm),some (.ref f),y3,y4]/\ah H0 H/\H f=some (.lst us)/\GF K H us (L.take k)
theorem og {l:List Nat}(hn:∀ x∈ns,bI x=true)(h:dM ns l):∀ x∈eM ns l,jj x:=fun x hx=>by
 unfold eM at hx
 split at hx
 ·cases hx
 ·rw[fz.mp hx];unfold gS;refine jj.join (by decide) fun y hy=>?_
  obtain⟨i,hi,rfl⟩:=ih.mp hy;exact jj.low (dI (hn _ (getD_memS (h.lt i hi)))).1
def wA (a b:Addr)(H H':Hp):Prop:=∀ x o,x≠a->x≠b->H x=some o->H' x=some o
theorem wA.refl:wA a b H H:=fun _ _ _ _ h=>h
theorem wA.lst {a b x:Addr}{H H':Hp}{xs:List V}{Ca Cb da db:Addr}{fa fb:List (Str × V)}(s:wA a b H H')(ha:H a=some (.ins Ca da fa))(hb:H b=some (.ins Cb db fb))(h:H x=some (.lst xs)):H' x=some (.lst xs):=
 s x _ (gj h ha fun z=>nomatch z) (gj h hb fun z=>nomatch z) h
theorem bJ.set {ns:List Str}{cs ws:List Nat}{L:List (Bool × List Nat)}{hs:List Int}{i col:Nat}(D:bJ ns cs ws L hs)(hi:i<ns.length)(hc:col<cs.getD i 0):bJ ns cs ws L (hs.set i (col:Int))/\gs (az cs) (hs.set i (col:Int))=true:=by
 have a:HN (az cs) (hs.set i (col:Int)) (az cs).length:=HN.set D.gh (Int.natCast_nonneg _) (by rw[aM];omega)
 exact⟨⟨D.BB,D.best,a⟩,GP a⟩
theorem zk (ns:List Str):Str.ofString "right"=Str.join ⟨#[32]⟩ (kD ns .right):=rfl
theorem Hs (ns:List Str)(i c:Nat):Str.ofString "put "++ns.getD i aW++Str.ofString " "++fS ((c:Nat):Int)=Str.join ⟨#[32]⟩ (kD ns (.put i c)):=by
 rw[show Str.ofString "put "=Str.ofString "put"++⟨#[32]⟩ by decide +kernel,show Str.ofString " "=⟨#[32]⟩ by decide +kernel]
 refine kr ?_;show _=cz (Str.join ⟨#[32]⟩ [Str.ofString "put",ns.getD i aW,jo c]);rw[b6,b6,bW,bW,bW,bW,ro,ro,ro,ro,ro];rfl
def DQ (K:Frag)(x:Str)(st:Stmt):Prop:=∃ (f:Addr) (oc:Value) (od an:Option Addr) (sl:Array (Option Value)) (kV doc pm cd ct:Value),nsIn K mainGlobals x=some (some (.ref f))/\K.lookup f=some ⟨oc,od,.func (fnOf x x (bB st) (aY st) (ak st) .none kV doc pm an cd ct),sl⟩/\codeIn K cd x=true/\keepIn K (.ref f)=true
variable {h:Heap}
theorem DQ.def {x:Str}{st:Stmt}{mg:Str->Option Value}(q:DQ K x st)(X:K.In h)(G:h.Ns mainGlobals mg):Def K mg x st:=by
 obtain⟨_,_,_,_,_,_,_,_,_,_,a,b,c,d⟩:=q;exact Nf X G a b c d
def MQ (K:Frag)(C:Addr)(m qual:Str)(st:Stmt):Prop:=∃ (f:Addr) (oc:Value) (od an:Option Addr) (sl:Array (Option Value)) (kV doc pm cd ct:Value),findIn K (.ref C) m=some (some (.ref f))/\K.lookup f=some ⟨oc,od,.func (fnOf m qual (bB st) (aY st) (ak st) .none kV doc pm an cd ct),sl⟩/\codeIn K cd qual=true/\keepIn K (.ref f)=true/\isFn K (.ref f)=true
variable {m:Str}
theorem MQ.def {qual:Str}{st:Stmt}(q:MQ K C m qual st):pA K C m qual st:=by
 obtain⟨_,_,_,_,_,_,_,_,_,_,a,b,c,d,e⟩:=q;exact J9 a b c d e
variable {R:Prop}
theorem gu (h:H a=some (.ins C dx fs))(n:fs.lookup m=none)(r:R):∃ a' dx' fs',V.ref a=.ref a'/\H a'=some (.ins C dx' fs')/\fs'.lookup m=none/\R:=⟨a,dx,fs,rfl,h,n,r⟩
variable {f:Str}{v:V}{G:V->Prop}
theorem rD (h:H a=some (.ins C dx fs))(n:fs.lookup f=some v)(r:G v):∃ a' dx' fs' v',V.ref a=.ref a'/\H a'=some (.ins C dx' fs')/\fs'.lookup f=some v'/\G v':=⟨a,dx,fs,v,rfl,h,n,r⟩
theorem Oj (h:ax K H p xs)(r:∀ t,H t=none->Q (.ref t) (upd H t (.tup xs))):EL K [.ref p] H Q:=⟨p,xs,rfl,.inl ⟨h,r⟩⟩
variable {er:Str->Addr}{E:XK}
theorem gT (a:AK)(hD:bK K cH cD H d hl ns cs ws L hs)(D:bJ ns cs ws L hs)(ha:Bi ns a)(r:Bl K cH cD er d hl ns cs ws L hs H Q E a):LZ K cH cD er [.ref d,.str (Str.join ⟨#[32]⟩ (kD ns a))] H Q E:=⟨d,hl,ns,cs,ws,L,hs,a,rfl,hD,D,ha,r⟩
variable {nm r:Addr}
theorem Ko (h:H r=some (.lst ((L.map (zf ns)).map V.str)))(hn:H nm=some (.lst (ns.map V.str)))(G:Bw ns L)(q:∀ t us H',ah H H'->aH K H' t us->GF K H' us L->Q (.ref t) H'):zj K [.ref r,.ref nm] H Q E:=⟨r,nm,ns,L,rfl,h,hn,G,q⟩
variable {l:List Int}
theorem Bx {k:List Int}(h:l.Perm k):pr l=pr k:=by
 induction h with
 | nil=>rfl
 | cons x _ c=>unfold pr;rw[c]
 | swap x y r=>unfold pr;unfold pr;rw[<-Int.mul_assoc,<-Int.mul_assoc,T4 x y]
 | trans _ _ a b=>exact a.trans b
theorem rE {W:Int}{k:List Int}(h:l.Perm k):bP W l=bP W k:=by
 unfold bP
 induction h with
 | nil=>rfl
 | cons x _ c=>rw[oD,oD,Do,Do,c]
 | swap x y r=>rw[oD,oD,oD,oD,Do,Do,Do,Do];omega
 | trans _ _ a b=>exact a.trans b
structure cI (cs:List Int)(ws:List Nat)(cs':List Int)(ws':List Nat)(p:List Nat):Prop where
 perm:p.Perm (List.range cs.length)
 len:cs'.length=cs.length
 cnt:∀ k,k<cs.length->cs'.getD k 0=cs.getD (p.getD k 0) 0
 dc:∀ i j,i<cs.length->j<cs.length->L2.dc ws' i j=L2.dc ws (p.getD i 0) (p.getD j 0)
variable {cs cs':List Int}{ws' p:List Nat}
theorem cI.Ht (A:cI cs ws cs' ws' p):p.length=cs.length:=by rw[A.perm.length_eq,j6]
theorem cI.nd (A:cI cs ws cs' ws' p):p.Nodup:=A.perm.nodup_iff.mpr Re
theorem cI.lt (A:cI cs ws cs' ws' p){k:Nat}(h:k<cs.length):p.getD k 0<cs.length:=by
 have:p.getD k 0∈p:=by rw[b4,b5 (by rw[A.Ht];exact h)];exact p0 _
 exact gc.mp (A.perm.mem_iff.mp this)
theorem cI.inj (A:cI cs ws cs' ws' p){i j:Nat}(hi:i<cs.length)(hj:j<cs.length)(h:p.getD i 0=p.getD j 0):i=j:=by
 have l:=A.Ht;rw[b4,b4,b5 (by omega),b5 (by omega)] at h
 exact(getElem_inj A.nd).mp h
def mv (p:List Nat)(m:Nat):Nat:=mask ((aC m).map fun k=>p.getD k 0)
variable {m:Nat}
theorem cI.Rk (A:cI cs ws cs' ws' p)(hm:m<2 ^ cs.length):((aC m).map fun k=>p.getD k 0).Nodup:=by
 rw[FB,pairwise_map];refine(List.Pairwise.and_mem.mp ((cO m))).imp ?_;rintro a b ⟨c,hb,n⟩ e;exact n (A.inj (bO hm (bz.mp c)) (bO hm (bz.mp hb)) e)
theorem cI.wB (A:cI cs ws cs' ws' p)(hm:m<2 ^ cs.length)(x:Nat):(mv p m).testBit x=true↔∃ k,m.testBit k=true/\p.getD k 0=x:=by
 unfold mv;rw[bZ (A.Rk hm),Ts,ih];exact⟨fun ⟨k,h,e⟩=>⟨k,bz.mp h,e⟩,fun ⟨k,h,e⟩=>⟨k,bz.mpr h,e⟩⟩
theorem cI.SA (A:cI cs ws cs' ws' p)(hm:m<2 ^ cs.length):mv p m<2 ^ cs.length:=by
 refine Nat.lt_pow_two_of_testBit _ fun j hj=>?_
 cases e:(mv p m).testBit j with
 | false=>rfl
 | true=>
  obtain⟨k,h,rfl⟩:=(A.wB hm j).mp e
  have:=A.lt (bO hm h)
  omega
theorem cI.Ol (A:cI cs ws cs' ws' p)(hm:m<2 ^ cs.length):(aC (mv p m)).Perm ((aC m).map fun k=>p.getD k 0):=by
 refine(List.perm_ext_iff_of_nodup (cO _) (A.Rk hm)).mpr fun x=>?_;rw[bz,A.wB hm,ih];exact⟨fun ⟨k,h,e⟩=>⟨k,bz.mpr h,e⟩,fun ⟨k,h,e⟩=>⟨k,bz.mp h,e⟩⟩
theorem cI.fh (A:cI cs ws cs' ws' p){m:Nat}(hm:m<2 ^ cs.length):fh cs ws (mv p m)=fh cs' ws' m:=by
 have a:=A.Ol hm;have b:bN ws (aC (mv p m))=bN ws' (aC m):=by
  rw[SC];unfold bN;simp only[List.all_eq_true,Bool.or_eq_true,decide_eq_true_iff];have lt:∀ x∈aC m,x<cs.length:=fun x hx=>bO hm (bz.mp hx)
  constructor
  ·intro h i hi j hj
   rcases h _ (a.mem_iff.mpr (List.mem_map_of_mem hi)) _ (a.mem_iff.mpr (List.mem_map_of_mem hj)) with e | e
   ·exact .inl (A.inj (lt j hj) (lt i hi) e)
   ·exact .inr (by rw[A.dc i j (lt i hi) (lt j hj)];exact e)
  ·intro h x hx y hy;obtain⟨i,hi,rfl⟩:=ih.mp (a.mem_iff.mp hx);obtain⟨j,hj,rfl⟩:=ih.mp (a.mem_iff.mp hy)
   rcases h i hi j hj with rfl | e
   ·exact .inl rfl
   ·exact .inr (by rw[<-A.dc i j (lt i hi) (lt j hj)];exact e)
 have e2:(eW cs (aC (mv p m))).Perm (eW cs' (aC m)):=by
  have:eW cs' (aC m)=eW cs ((aC m).map fun k=>p.getD k 0):=by
   unfold eW;rw[kc];exact TH fun k hk=>A.cnt k (bO hm (bz.mp hk))
  rw[this];exact a.map _
 unfold L2.fh;rw[b];unfold gR;rw[Bx e2,rE e2]
theorem cI.ring (A:cI cs ws cs' ws' p)(hm:m<2 ^ cs.length)(h:nX cs' ws' m):nX cs ws (mv p m):=by
 obtain⟨r,nd,hx,g,d,i⟩:=h;have lt:∀ x∈r,x<cs.length:=fun x h=>bO hm ((hx x).mp h);have ge:∀ k,k<r.length->(r.map fun k=>p.getD k 0).getD k 0=p.getD (r.getD k 0) 0/\r.getD k 0<cs.length:=fun k hk=>by
  have hm:r.getD k 0∈r:=by rw[b4,b5 hk];exact p0 _
  refine⟨?_,lt _ hm⟩;rw[b4,ek,b5 hk,b4 (l:=r),b5 hk];rfl
 refine⟨r.map fun k=>p.getD k 0,?_,fun x=>?_,by rw[cc];exact g,fun x hx=>?_,fun k hk=>?_⟩
 ·rw[FB,pairwise_map];refine(List.Pairwise.and_mem.mp nd).imp ?_;rintro a b ⟨f,hb,n⟩ e;exact n (A.inj (lt a f) (lt b hb) e)
 ·rw[A.wB hm,ih];exact⟨fun ⟨k,h,e⟩=>⟨k,(hx k).mp h,e⟩,fun ⟨k,h,e⟩=>⟨k,(hx k).mpr h,e⟩⟩
 ·obtain⟨k,hk,rfl⟩:=ih.mp hx;rw[<-A.cnt k (lt k hk)];exact d k hk
 ·rw[cc] at hk ⊢;have c:(k+1) % r.length<r.length:=mod_lt _ (by omega)
  rw[(ge k hk).1,(ge _ c).1,<-A.dc _ _ (ge k hk).2 (ge _ c).2];exact i k hk
theorem cI.worth (A:cI cs ws cs' ws' p){m:Nat}(hm:m<2 ^ cs.length):worth cs' ws' m<=worth cs ws (mv p m):=by
 unfold L2.worth;rw[A.fh hm]
 split
 ·split
  ·rename_i h
   rw[if_pos (A.ring hm h)];exact dy _
  ·exact zero_le _
 ·exact dy _
variable {l:List Nat}
theorem cI.S9 (A:cI cs ws cs' ws' p)(h:Ke (2 ^ cs.length - 1) l):Ke (2 ^ cs.length - 1) (l.map (mv p))/\val (L2.worth cs' ws') l<=val (L2.worth cs ws) (l.map (mv p)):=by
 have m:0<2 ^ cs.length:=FS _;have lt:∀ a∈l,a<2 ^ cs.length:=fun a c=>by have:=(h.1 a c).le;omega
 refine⟨⟨fun a c=>?_,?_⟩,?_⟩
 ·obtain⟨b,hb,rfl⟩:=ih.mp c;intro j hj;rw[Nat.testBit_two_pow_sub_one];exact dt (bO (A.SA (lt b hb)) hj)
 ·rw[pairwise_map];refine(List.Pairwise.and_mem.mp h.2).imp ?_;rintro a b ⟨c,hb,d⟩ j hj
  cases e:(mv p b).testBit j with
  | false=>rfl
  | true=>
   obtain⟨k,hk,rfl⟩:=(A.wB (lt a c) j).mp hj;obtain⟨i,hi,f⟩:=(A.wB (lt b hb) _).mp e
   have:=A.inj (bO (lt b hb) hi) (bO (lt a c) hk) f
   rw[this,d k hk] at hi;cases hi
 ·unfold val;rw[kc]
  have:∀ k:List Nat,(∀ a∈k,a<2 ^ cs.length)->(k.map (L2.worth cs' ws')).sum<=(k.map (L2.worth cs ws ∘ mv p)).sum:=fun k=>by
   induction k with
   | nil=>exact fun _=>dy _
   | cons a r g=>
    intro hk;rw[oD,oD,Do,Do];exact Nat.add_le_add (A.worth (hk a fA)) (g fun b hb=>hk b (eH _ hb))
  exact this l lt
theorem cI.symm (A:cI cs ws cs' ws' p):cI cs' ws' cs ws ((List.range cs.length).map p.idxOf):=by
 have l:=A.Ht;have c:∀ x,x<cs.length->p.idxOf x<cs.length/\p.getD (p.idxOf x) 0=x:=fun x hx=>by
  have h1:=Da (A.perm.mem_iff.mpr (gc.mpr hx));refine⟨by omega,?_⟩
  rw[b4,b5 h1];exact Td h1
 have ge:∀ k,k<cs.length->((List.range cs.length).map p.idxOf).getD k 0=p.idxOf k:=fun k hk=>by
  rw[b4,ek,vr hk];rfl
 refine⟨?_,A.len.symm,fun k hk=>?_,fun i j hi hj=>?_⟩
 ·rw[A.len];refine(List.perm_ext_iff_of_nodup ?_ Re).mpr fun x=>?_
  ·rw[FB,pairwise_map];refine(List.Pairwise.and_mem.mp (Re (n:=cs.length))).imp ?_;rintro a b ⟨d,hb,n⟩ e;refine n ?_;rw[<-(c a (gc.mp d)).2,<-(c b (gc.mp hb)).2,e]
  ·rw[ih,gc]
   constructor
   ·rintro⟨k,hk,rfl⟩;exact(c k (gc.mp hk)).1
   ·intro hx;refine⟨p.getD x 0,gc.mpr (A.lt hx),?_⟩;have b:=c _ (A.lt hx);exact A.inj b.1 hx b.2
 ·rw[A.len] at hk;rw[ge k hk,A.cnt _ (c k hk).1,(c k hk).2]
 ·rw[A.len] at hi hj;rw[ge i hi,ge j hj,A.dc _ _ (c i hi).1 (c j hj).1,(c i hi).2,(c j hj).2]
theorem wC {ds:List Int}(h:cs.Perm ds):jK cs=jK ds:=by
 have a:=Bx h;have e2:bP (pr cs) cs=bP (pr ds) ds:=by rw[a];exact rE h
 have b:gC cs=gC ds:=by unfold gC;rw[e2,a]
 unfold jK OL Np;rw[e2,a,b]
theorem cI.full {cs cs':List Int}{ws ws' p:List Nat}(A:cI cs ws cs' ws' p)(hw:eK ws)(hw':eK ws')(hl:ws.length=cs.length)(hl':ws'.length=cs.length):full ws'↔full ws:=by
 rw[vy hw,vy hw'];refine(yz.NF (names:=p) hw' (by rw[hl'];exact A.perm) ⟨by omega,hw,fun i j hi hj=>?_⟩).symm
 rw[hl'] at hi hj;exact(A.dc i j hi hj).symm
theorem cI.best {x y:Int × List (Bool × List Nat)}(A:cI cs ws cs' ws' p)(hp:∀ c∈cs,1<=c)(hp':∀ c∈cs',1<=c)(hx:dJ cs ws (2 ^ cs.length - 1) x)(hy:dJ cs' ws' (2 ^ cs'.length - 1) y):x.1=y.1:=by
 rw[A.len] at hy;have e:∀ {d f:List Int} {h g q:List Nat} {a b:Int × List (Bool × List Nat)},cI d h f g q->(∀ c∈f,1<=c)->dJ d h (2 ^ d.length - 1) a->dJ f g (2 ^ d.length - 1) b->b.1<=a.1:=fun {d f h g q a b} A hp i hb=>by
  obtain⟨l,r⟩:=GX hp hb.1.each hb.1.pP;obtain⟨m,o⟩:=A.S9 l;have h1:=i.2 _ m;have j:=hb.1.sum;have n:=i.1.nn
  omega
 have h1:=e A hp' hx hy;have j:=e A.symm hp (by rw[A.len];exact hy) (by rw[A.len];exact hx)
 omega
theorem lD {α β:Type}(f:α->β):∀ (l:List α) (k:Nat),(l.map f).eraseIdx k=(l.eraseIdx k).map f
 | [],_=>rfl
 | _::_,0=>rfl
 | x::r,k+1=>by rw[oD,List.eraseIdx_cons_succ,List.eraseIdx_cons_succ,oD,lD f r k]
theorem oh:∀ {l:List Nat} {k:Nat},k<l.length->(l.getD k 0::l.eraseIdx k).Perm l
 | [],_,h=>absurd h (I1 _)
 | _::_,0,_=>TN _
 | x::r,k+1,h=>(List.Perm.swap x (r.getD k 0) (r.eraseIdx k)).trans ((oh (Nat.lt_of_succ_lt_succ h)).cons x)
theorem rF:∀ l:List Nat,(l.map fun j=>((2 ^ j:Nat):Int)).sum=((mask l:Nat):Int)
 | []=>rfl
 | x::r=>by
  have a:=rF r;unfold mask at a ⊢;rw[oD,oD,Do,Do,a,natCast_add]
theorem Hu {m:List Nat}{n k:Nat}(h:(m++l).Perm (List.range n))(hk:k<l.length):((m++[l.getD k 0])++l.eraseIdx k).Perm (List.range n):=by
 rw[ro];exact((oh hk).append_left m).trans h
theorem Kp {p:Addr}{k:Nat}(h:H p=some (.lst ((az l).map V.int)))(hk:k<l.length)(hl:l.length<=1000)(q:Q (.int ((l.getD k 0:Nat):Int)) (upd H p (.lst ((az (l.eraseIdx k)).map V.int)))):Eh (.ref p) [.int (k:Int)] H Q:=by
 refine⟨p,_,_,k,.int ((l.getD k 0:Nat):Int),rfl,rfl,h,by omega,by omega,?_,?_,?_⟩
 ·rw[cc,ao];unfold seqIndex?;simp only[show ¬ ((k:Int)<0) by omega,if_false]
  rw[if_pos (by rw[gz,Ts,Ts];omega),yx]
 ·unfold az;rw[ek,ek,b5 hk,b4,b5 hk];rfl
 ·have e:((az l).map V.int).eraseIdx k=(az (l.eraseIdx k)).map V.int:=by unfold az;rw[lD,lD]
  rw[e];exact q
theorem Rl {k:Bool}{i0 j0:Nat}{tb:TS}{D:Ends}{σ:St}(n:Nat)(I:Nat->St->Hp->Prop)(h:fF j K H a us)(h':fF k K H b vs)(hu:us.length=n)(hv:vs.length=n)(h0:I 0 σ H)(hl:∀ i σ H,I i σ H->fF j K H a us/\fF k K H b vs)
  (step:∀ i σ H H',i<n->I i σ H->ah H H'->tb {D with nx:=I (i+1),ct:=I (i+1),bk:=D.nx} ((σ.set i0 (some (us.getD i .bE))).set j0 (some (vs.getD i .bE))) H')
  (fin:∀ σ H,I n σ H->D.nx σ H):∃ c d,[V.ref a,V.ref b]=[.ref c,.ref d]/\(∃ xs,fF j K H c xs)/\(∃ ys,fF k K H d ys)/\mx (jZ K 2 (cJ (bx i0) (cJ (bx j0) jY))) tb D σ (Of j k K c d) H:=by
 refine⟨a,b,rfl,⟨_,h⟩,⟨_,h'⟩,fun i m σ H=>m=n - i/\i<=n/\I i σ H,⟨_,rfl,zero_le _,h0⟩,?_⟩;rintro i m σ H ⟨rfl,hi,p⟩;obtain⟨q,o⟩:=hl i σ H p
 by_cases f:i<n
 ·have u:∀ g:List V,g.length=n->g[i]?=some (g.getD i .bE):=fun g F=>by
   rw[b4,b5 (by omega)];rfl
  have t:=u us hu;have v:=u vs hv;refine .inr ⟨⟨_,_,_,_,q,o,t,v⟩,I (i+1),fun E H' z=>⟨n - (i+1),by omega,rfl,f,z⟩,fun x H' y=>?_⟩
  obtain⟨C,B,w,A,rfl,rfl,l⟩:=y;obtain⟨s,r⟩:=l _ _ q o;have s:B=us.getD i .bE:=tx (s.symm.trans t);have r:w=vs.getD i .bE:=tx (r.symm.trans v);subst s r;exact⟨C,_,rfl,aH.of ag,rfl,_,_,rfl,_,_,rfl,rfl,step i σ _ _ f p (ah.new A _)⟩
 ·have e:i=n:=by omega
  subst e;exact .inl ⟨⟨_,_,q,o,.inl (by omega)⟩,fin σ H p⟩
def oi:Sp:=fun a H Q _=>∃ (cell:Int) (n:Nat),a=[.int cell,.int n]/\n<=8/\∀ (l:Addr) (ns:List Str) (H':Hp),ah H H'->H l=none->H' l=some (.lst (ns.map V.str))->Gd ns n->Q (.ref l) H'
def om (K:Frag):Sp:=fun a H Q _=>∃ (b dr:Addr) (ns:List Str) (cs ws:List Nat) (dn:List Int),a=[.ref b,.ref dr]/\iN H b ns cs ws/\fP ns cs ws/\H dr=some (.lst (dn.map V.int))/\26<=dn.length/\(∀ x∈dn,0<=x)/\
 ∀ l M H',ah H H'->H' l=some (.lst ((M.map (dP ns cs)).map V.str))->dh ns ws (fun i=>i<ns.length) M->M.length<=16->Q (.ref l) H'
def wD:Sp:=fun a H Q _=>∃ (b dr:Addr) (ns:List Str) (cs ws:List Nat) (dn:List Int),a=[.ref b,.ref dr]/\iN H b ns cs ws/\fP ns cs ws/\H dr=some (.lst (dn.map V.int))/\dn.length=40/\(∀ x∈dn,0<=x)/\
 ∀ r o t ns' cs' ws' p H',ah H H'->H' r=some (.lst [.ref o,.ref t])->iN H' o ns' cs' ws'->fP ns' cs' ws'->ns'.length=ns.length->H' t=some (.lst ((az p).map V.int))->cI (az cs) ws (az cs') ws' p->Q (.ref r) H'
def wF:Sp:=fun a H Q _=>∃ (r b:Addr) (ns:List Str) (cs ws:List Nat) (L:List (Bool × List Nat)),a=[.ref r,.ref b]/\H r=some (.lst ((L.map (zf ns)).map V.str))/\iN H b ns cs ws/\fP ns cs ws/\Bw ns L/\∀ H',ah H H'->Q (.int (L.map (e9 (az cs))).sum) H'
def oo (K:Frag)(cH cD:Addr):Sp:=fun a H Q _=>∃ (d hl nm:Addr) (ns:List Str) (cs ws:List Nat) (L:List (Bool × List Nat)) (hs:List Int),a=[.ref d,.ref nm]/\bK K cH cD H d hl ns cs ws L hs/\bJ ns cs ws L hs/\H nm=some (.lst (ns.map V.str))/\∀ H',ah H H'->Q (.int ((eL (az cs) hs L).length:Nat)) H'
def Om:List Str:=["azx","bzx","czx","dzx","ezx","fzx","gzx","hzx"]
theorem Hv:(∀ x∈Om,bI x=true)/\Om.Nodup:=by decide +kernel
theorem Rm:∀ i,i<8->(⟨#[((Str.ofString "abcdefgh").cps[i]?).getD 0]⟩:Str)++Str.ofString "zx"=Om.getD i aW:=by decide +kernel
structure Hw (K:Frag)(cH cD:Addr)(H:Hp)(d l d' l':Addr)(ns:List Str)(cs ws:List Nat)(L:List (Bool × List Nat))(hs:List Int)(ns':List Str)(cs' ws':List Nat)(L':List (Bool × List Nat))(hs':List Int):Prop where
 a:bK K cH cD H d l ns cs ws L hs
 b:bK K cH cD H d' l' ns' cs' ws' L' hs'
 n1:d'≠l
 n2:l'≠l
 n3:d≠l'
variable {l d' l':Addr}{ns':List Str}{cs cs':List Nat}{L':List (Bool × List Nat)}{hs':List Int}
theorem Hw.mono (h:Hw K cH cD H d l d' l' ns cs ws L hs ns' cs' ws' L' hs')(s:ah H H'):Hw K cH cD H' d l d' l' ns cs ws L hs ns' cs' ws' L' hs':=⟨h.a.mono s,h.b.mono s,h.n1,h.n2,h.n3⟩
theorem bK.zm (h:bK K cH cD H d l ns cs ws L hs):∃ C dx fs,H l=some (.ins C dx fs):=by
 obtain⟨_,_,_,_,a,_⟩:=h;obtain⟨_,_,b,_⟩:=a.ex;exact⟨_,_,_,b⟩
variable {hs2:List Int}
theorem Hw.SD (h:Hw K cH cD H d l d' l' ns cs ws L hs ns' cs' ws' L' hs')(s:Off l H H')(q:bK K cH cD H' d l ns cs ws L hs2):Hw K cH cD H' d l d' l' ns cs ws L hs2 ns' cs' ws' L' hs':=by
 obtain⟨_,_,_,hx⟩:=h.a.zm;exact⟨q,h.b.Hh s hx h.n1 h.n2,h.n1,h.n2,h.n3⟩
theorem Hw.SE (h:Hw K cH cD H d l d' l' ns cs ws L hs ns' cs' ws' L' hs')(s:Off l' H H')(q:bK K cH cD H' d' l' ns' cs' ws' L' hs2):Hw K cH cD H' d l d' l' ns cs ws L hs ns' cs' ws' L' hs2:=by
 obtain⟨_,_,_,hx⟩:=h.b.zm;exact⟨h.a.Hh s hx h.n3 (Ne.symm h.n2),q,h.n1,h.n2,h.n3⟩
theorem wG (l:List Int):(List.range l.length).map (fun k=>l.getD k 0)=l:=by
 refine ext_getElem (by rw[cc,j6]) fun i h1 a=>?_
 rw[List.getElem_map,List.getElem_range,b4,b5 a];rfl
theorem cI.Rn {cs cs':List Int}(A:cI cs ws cs' ws' p):cs.Perm cs':=by
 have e:(p.map fun i=>cs.getD i 0)=cs':=by
  have a:=wG cs';rw[A.len] at a;rw[<-b9 (fun i=>cs.getD i 0) p,A.Ht,<-a];exact TH fun k hk=>(A.cnt k (gc.mp hk)).symm
 have h:=A.perm.map (fun i=>cs.getD i 0);rw[wG,e] at h;exact h.symm
variable {r r':List Str}
theorem CN {k:TK}(P:fP ns cs ws)(P':fP ns' cs' ws')(A:cI (az cs) ws (az cs') ws' p)(B:dJ (az cs) ws (2 ^ (az cs).length - 1) ((L.map (e9 (az cs))).sum,L))(B':dJ (az cs') ws' (2 ^ (az cs').length - 1) ((L'.map (e9 (az cs'))).sum,L'))(h:wq ns cs ws L k r)(h':wq ns' cs' ws' L' k r')(hk:k=.sure∨k=.share):r=r'/\∀ x∈r,jj x:=by
 rcases hk with rfl | rfl
 ·have e:(L.map (e9 (az cs))).sum=(L'.map (e9 (az cs'))).sum:=cI.best A P.lC.pos P'.lC.pos B B';have h:r=[fS (L.map (e9 (az cs))).sum]:=h;have h':r'=[fS (L'.map (e9 (az cs'))).sum]:=h';refine⟨by rw[h,h',e],fun x hx=>?_⟩
  rw[h] at hx;rw[fz.mp hx];exact jj.fS B.1.nn
 ·have h:r=[jK (az cs)]:=h;have h':r'=[jK (az cs')]:=h';refine⟨by rw[h,h',wC (cI.Rn A)],fun x hx=>?_⟩
  rw[h] at hx;rw[fz.mp hx];exact((jj.fS (yn P.lC)).app (by unfold jj;decide +kernel)).app (jj.fS (by have:=nC P.lC;omega))
theorem lE (P:fP ns cs ws)(h:wq ns cs ws L .ring r):(r=[]↔full ws)/\∀ x∈r,jj x:=by
 rcases h with ⟨c,e⟩ | ⟨c,l,b,e⟩
 ·subst e;exact⟨⟨fun _=>c,fun _=>rfl⟩,fun _ z=>nomatch z⟩
 ·subst e;have a:l≠[]:=fun z=>by have:=b.two;rw[z] at this;exact absurd this (by decide)
  refine⟨⟨fun z=>?_,fun z=>absurd c z⟩,og P.nm.nm (Bq P b)⟩;unfold eM at z;rw[if_neg a] at z;cases z
theorem jL (P:fP ns cs ws)(h:wq ns cs ws L .order r):(r=[]↔¬ full ws∨ns.length=0)/\∀ x∈r,jj x:=by
 rcases h with ⟨c,e⟩ | ⟨c,e⟩
 ·subst e;exact⟨⟨fun _=>.inl fun z=>z c,fun _=>rfl⟩,fun _ z=>nomatch z⟩
 ·subst e;have b:=P.lw;have a:=oa P;refine⟨⟨fun z=>.inr ?_,fun z=>?_⟩,og P.nm.nm a⟩
  ·unfold eM at z
   split at z
   ·rename_i e0
    rw[e0] at c;have c:¬ 0<ws.length:=c
    omega
   ·cases z
  ·rcases z with z | z
   ·exact absurd c z
   ·have:laidOut ws=[]:=List.eq_nil_iff_forall_not_mem.mpr fun i hi=>by have:=a.lt i hi;omega
    unfold eM;rw[if_pos this]
theorem Hx {k:TK}(P:fP ns cs ws)(P':fP ns' cs' ws')(hn:ns'.length=ns.length)(hf:full ws'↔full ws)(h:wq ns cs ws L k r)(h':wq ns' cs' ws' L' k r')(hk:k=.ring∨k=.order):(r=[]↔r'=[])/\(∀ x∈r,jj x)/\∀ x∈r',jj x:=by
 rcases hk with rfl | rfl
 ·have a:=lE P h;have b:=lE P' h';exact⟨by rw[a.1,b.1,hf],a.2,b.2⟩
 ·have a:=jL P h;have b:=jL P' h';exact⟨by rw[a.1,b.1,hf,hn],a.2,b.2⟩
end L2
namespace K79
open PySem L2 PyProof.Rows
def top (i:Nat):Stmt:=PySem.Challenge.pw_hatsight_k79_names_turned.main.body.getD i (.Pass ⟨0,0,0,0⟩)
abbrev dm:Stmt:=top 1
abbrev tN:Stmt:=top 2
abbrev zo:Stmt:=top 3
abbrev lF:Stmt:=top 4
abbrev ft:Stmt:=top 5
abbrev gU:Stmt:=top 18
abbrev oq:Stmt:=top 20
abbrev zp:Stmt:=top 21
abbrev iR:Stmt:=top 22
abbrev lG:Stmt:=top 23
abbrev fT:Stmt:=top 24
abbrev jM:Stmt:=top 25
abbrev fU:Stmt:=top 26
abbrev gW:Stmt:=top 27
abbrev gX:Stmt:=top 28
abbrev tO:Stmt:=top 30
abbrev jN:Stmt:=top 31
abbrev fV:Stmt:=top 32
abbrev ou:Stmt:=top 33
abbrev gY:Stmt:=top 34
abbrev iS:Stmt:=top 35
abbrev fW:Stmt:=top 36
abbrev fX:Stmt:=top 37
abbrev gZ:Stmt:=top 38
abbrev fu:Stmt:=top 39
abbrev jO:Stmt:=top 40
abbrev fY:Stmt:=top 41
abbrev fZ:Stmt:=top 42
abbrev jP:Stmt:=top 44
abbrev lH:Stmt:=top 52
abbrev jQ:Stmt:=top 53
abbrev f6:Stmt:=top 54
abbrev fB:Stmt:=top 55
abbrev c6:Stmt:=top 56
abbrev lI:Stmt:=top 57
abbrev iT:Stmt:=top 58
abbrev lJ:Stmt:=top 59
abbrev iU:Stmt:=top 60
abbrev g4:Stmt:=top 61
abbrev zq:Stmt:=top 64
abbrev ow:Stmt:=top 65
abbrev iV:Stmt:=top 66
abbrev m9:Stmt:=top 67
abbrev f7:Stmt:=top 68
abbrev f9:Stmt:=top 69
abbrev lK:Stmt:=top 70
abbrev iW:Stmt:=top 73
abbrev Ig:Stmt:=top 74
abbrev iX:Stmt:=top 75
abbrev iY:Stmt:=top 76
abbrev iZ:Stmt:=top 77
abbrev dN:Stmt:=top 78
abbrev i3:Stmt:=top 79
abbrev i4:Stmt:=top 80
abbrev eX:Stmt:=top 81
abbrev i5:Stmt:=top 82
abbrev g5:Stmt:=top 83
abbrev g6:Stmt:=top 84
abbrev gf:Stmt:=top 85
abbrev g7:Stmt:=top 86
abbrev kG:Stmt:=top 87
abbrev eY:Stmt:=mh (top 45) 0
abbrev fC:Stmt:=mh (top 45) 1
abbrev jR:Stmt:=mh (top 45) 2
abbrev L0:Stmt:=mh (top 45) 3
abbrev g9:Stmt:=mh (top 45) 4
abbrev hJ:Stmt:=mh (top 45) 5
abbrev bR:Stmt:=mh (top 71) 0
abbrev jS:Stmt:=mh (top 71) 1
structure Bn (mg:Str->Option Value):Prop where
 range:mg "range"=none
 len:mg "len"=none
 sum:mg "sum"=none
 max:mg "max"=none
 isinstance:mg "isinstance"=none
 int:mg "int"=none
 bool:mg "bool"=none
 str:mg "str"=none
 tuple:mg "tuple"=none
 list:mg "list"=none
 sorted:mg "sorted"=none
 set:mg "set"=none
 all:mg "all"=none
 any:mg "any"=none
 zip:mg "zip"=none
 enumerate:mg "enumerate"=none
 min:mg "min"=none
structure Cs (mg:Str->Option Value):Prop where
 KJ:∃ t,mg "LETTERS"=some (.str "abcdefghijklmnopqrstuvwxyz" t)
 KN:∃ t,mg "FIGURES"=some (.str "0123456789" t)
 uj:∃ t,mg "LONGEST_NAME"=some (.int 12 t)
 pQ:∃ t,mg "LONGEST_COUNT"=some (.int 30 t)
 w4:∃ t,mg "MOST_PEOPLE"=some (.int 8 t)
local macro_rules | `(tactic| walk_at $s) => do
 let l<-match s.getString with | "d" => `(Lean.Parser.Tactic.simpLemma| Pw) | "r0" => `(Lean.Parser.Tactic.simpLemma| yd) | _ => Lean.Macro.throwUnsupported
 `(tactic| try simp only [L2.start,map_cons,map_nil,length_cons,length_nil,List.replicate,cons_append,nil_append,append_nil,set_cons_zero,set_cons_succ,Nat.reduceAdd,Nat.reduceSub,yd,EF,Sb,Ng,Pj,K3,Pk,Pl,Pm,Pn,As,K4,ve,Eu,Po,Ew,Ex,K6,Ey,K7,Au,K8,K9,Ez,EA,Pp,La,Lb,Pq,Lc,Ly,FH,LB,Gz,LJ,LK,LM,Gq,Gh,Gi,FI,Pr,vf,EB,Pt,Pu,gD,EC,ED,Ld,Le,Lf,sk,Lg,Av,EE,Aw,AS,Qo,FD,Q1,LR,GD,GH,Bf,Ha,Hb,GC,Fp,LX,Fs,Ft,Fu,Fv,qC,K5,FR,Ls,P9,Qa,Jv,Sk,sM,bitAnd_m1,Qh,Qb,Qc,Lu,Lh,Lk,ES,ET,PU,kn,Ll,Bool.false_eq_true,Lm,Lo,Lp,PV,PX,Bool.not_true,Bool.not_false,decide_eq_true_eq,$l:simpLemma])
local macro_rules | `(tactic| omega) => `(tactic| first | with_reducible assumption | with_reducible exact Nat.le_of_lt (by assumption) | with_reducible exact Nat.le_trans (by assumption) (by decide) | with_reducible exact Nat.lt_of_le_of_lt (by assumption) (by decide) | with_reducible exact Nat.lt_of_lt_of_le (by assumption) (by decide) | with_reducible exact Nat.lt_of_lt_of_le (by assumption) (by assumption) | with_reducible exact Nat.lt_of_le_of_lt (by assumption) (by assumption) | with_reducible exact Nat.le_trans (by assumption) (by assumption) | with_reducible exact Nat.le_trans (by assumption) (Nat.le_trans (by assumption) (by decide)) | with_reducible exact Nat.le_of_lt (Nat.lt_of_lt_of_le (by assumption) (by decide)) | with_reducible exact Nat.le_trans (Nat.le_of_lt (by assumption)) (Nat.le_trans (by assumption) (by decide)) | with_reducible exact Nat.lt_of_lt_of_le (by assumption) (Nat.le_trans (by assumption) (by decide)) | with_reducible exact Int.natCast_nonneg _ | with_reducible exact Int.ofNat_lt.mpr (by assumption) | with_reducible exact Int.ofNat_le.mpr (by assumption) | with_reducible exact Int.ofNat_lt.mp (by assumption) | decide | omega +splitDisjunctions)
set_option hygiene false in
local macro_rules | `(tactic| walk_at "s") => `(tactic| ((try with_reducible refine zH _ _ ?_); (walk_at "r0"); try (with_reducible refine zH _ _ ?_; walk_at "r0")))
set_option hygiene false in
local macro_rules | `(tactic| walk_at "g") => `(tactic| ((try with_reducible refine zH _ _ ?_); refine Sw fun zR zH => ?_))
local macro_rules | `(tactic| walk_at "h") => `(tactic| (walk_at "g";walk_at "s"))
local macro_rules | `(tactic| walk_at "i") => `(tactic| (walk_at "s";walk_at "g";walk_at "s"))
theorem zr:DS (ak lH) ["word"] ["word"] ["LONGEST_NAME","len","all"]:=aO (by decide +kernel)
variable {P:Program}{w:World}{K:Frag}{mg:Str->Option Value}{base:Heap}
theorem CO (B:Bn mg)(KC:Cs mg)(D:Def K mg "is_name" lH):Fn P w K mg base 1 "is_name" ["word"] kx:=by
 refine D.gq zr (fun _ _ _ _ _ _ t l=>by obtain⟨_,rfl⟩:=fR l;rfl) (fun n H Q E h=>?_) ?_
 ·obtain⟨z,rfl,_⟩:=h;rfl
 intro X S m e2 j f p hc a i v hu H n Q E h;subst m e2 j f p;obtain⟨z,rfl,hz,q⟩:=h;refine⟨_,(af (cN (sy (yg nk nk aq (c7 S 1 gB B.len qE (aa (kv S 0) ae)) (NU S 0 KC.uj))) (aj (aK xy)) ay)
   (aj (aK (c7 S 2 (cU hc rfl) B.all boot_all (aa (ij S hc a (FQ (kv S 0) rfl) (N:=["sign"]) (W:=["sign"]) (G:=["LETTERS"]) (fv:=[none]) (by decide +kernel) (fun r C u s H d=>⟨(kg d 0),bg,(ie ql (kv d 0) (Qz d 0 KC.KJ) (by with_unfolding_all rfl))⟩)) ae))))),?_⟩
 walk_at "d";refine⟨z,rfl,mP hz,?_⟩;have e:¬ (1<=z.length/\z.length<=12)->Q (.bl false) H:=fun c=>by
  have:=q H (ah.refl _)
  unfold bI at this;rw[ed c,tz] at this;exact this
 refine bU (fun c=>?_) (fun c=>e (by omega))
 refine bU (fun b=>e (by simp at b;omega)) (fun b=>?_)
 refine⟨z,rfl,vM hz fun g o=>?_⟩
 have:=q g o
 unfold bI at this;rw[dt (show 1<=z.length/\z.length<=12 by simp at b;omega),q7] at this
 exact this
theorem wH:DS (ak jQ) ["word"] ["word"] ["LONGEST_COUNT","len","all"]:=aO (by decide +kernel)
theorem zt (B:Bn mg)(KC:Cs mg)(D:Def K mg "is_count" jQ):Fn P w K mg base 1 "is_count" ["word"] lq:=by
 refine D.gq wH (fun _ _ _ _ _ _ A f=>by obtain⟨_,rfl⟩:=fR f;rfl) (fun v H Q E h=>?_) ?_
 ·obtain⟨z,rfl,_⟩:=h;rfl
 intro X S u e2 t o r hc i p I hu H v Q E h;subst u e2 t o r;obtain⟨z,rfl,hz,q⟩:=h;refine⟨_,(af (cN (Ic (Nm (sy (yg nk nk aq (c7 S 1 gB B.len qE (aa (kv S 0) ae)) (NU S 0 KC.pQ))) (yh (aS aX (aU xX (kv S 0) aq (fun _ _=>rfl)) bc (au _))))) (aj (aK xy)) ay)
   (aj (aK (c7 S 2 (cU hc rfl) B.all boot_all (aa (ij S hc i (FQ (kv S 0) rfl) (N:=["sign"]) (W:=["sign"]) (G:=["FIGURES"]) (fv:=[none]) (by decide +kernel) (fun y C F s H l=>⟨(kg l 0),bg,(ie ql (kv l 0) (Qz l 0 KC.KN) (by with_unfolding_all rfl))⟩)) ae))))),?_⟩
 walk_at "d";refine⟨z,rfl,mP hz,?_⟩;have n:¬ (1<=z.length/\z.length<=30)->Q (.bl false) H:=fun c=>by
  have:=q H (ah.refl _)
  unfold di at this;rw[ed c,tz] at this;exact this
 refine bU (fun c=>?_) (fun c=>n (by omega))
 refine bU (fun j=>n (by simp at j;omega)) (fun j=>?_)
 have f:1<=z.length/\z.length<=30:=by simp at j;omega
 have x:0<(cz z).length:=by rw[<-aN];omega
 refine⟨z,0,(cz z).getD 0 0,rfl,rfl,mP hz,?_,?_⟩
 ·show xW (cz z) ((0:Nat):Int)=_;exact iD rfl 0 x
 walk_at "d";have b:decide ((⟨#[(cz z).getD 0 0]⟩:Str)=Str.ofString "0")=decide ((cz z).getD 0 0=48):=by
  rw[show Str.ofString "0"=⟨#[48]⟩ by decide +kernel]
  exact decide_eq_decide.mpr ⟨fun e=>by simpa using OD cz e,fun e=>by rw[e]⟩
 have m:∀ a,ah H a->Q (.bl (decide ((cz z).getD 0 0≠48)&&(cz z).all JQ)) a:=fun a g=>by
  have:=q a g
  unfold di at this;rw[dt f,q7] at this;exact this
 refine bU (fun d=>?_) (fun d=>?_)
 ·have e:(cz z).getD 0 0=48:=u5 (by rw[<-b];exact dt d)
  have:=m H (ah.refl _)
  rw[ed (fun h=>h e),tz] at this;exact this
 ·have e:(cz z).getD 0 0≠48:=fun e=>d (u5 (by rw[b];exact dt e))
  refine⟨z,rfl,vM hz fun a g=>?_⟩
  have:=m a g
  rw[dt e,q7] at this;exact this
theorem ox:DS (ak f6) ["words"] ["words"] ["is_name","is_count","len"]:=aO (by decide +kernel)
theorem Hy (B:Bn mg)(D:Def K mg "is_hat_line" f6)(gw:Fn P w K mg base 1 "is_name" ["word"] kx)(jU:Fn P w K mg base 1 "is_count" ["word"] lq):Fn P w K mg base 2 "is_hat_line" ["words"] (AV K):=by
 refine D.gq ox (fun _ _ _ _ _ _ u t=>by obtain⟨_,rfl⟩:=fR t;rfl) (fun j H Q E h=>?_) ?_
 ·obtain⟨p,l,rfl,_⟩:=h;rfl
 intro X S f e2 s g r hc m o e hu H j Q E h;subst f e2 s g r;obtain⟨p,l,rfl,a,q⟩:=h;refine⟨_,(aj (aK (pf (ie aX (c7 S 2 (aE rfl) B.len qE (aa (kv S 0) ae)) aq (au _)) (pf (ie aX (aU (ai rfl) (kv S 0) aq (fun _ _=>rfl)) bc (au _)) (pf (cE S 0 gw e (aa (aU (ai rfl) (kv S 0) aq (fun _ _=>rfl)) ae)) (yf (cE S 1 jU e (aa (aU (ai rfl) (kv S 0) aq (fun _ _=>rfl)) ae)))))))),?_⟩;walk_at "d";refine aZ (.inl a.sq) ?_;rw[cc];walk_at "d";unfold vI at q;refine bU (fun c=>?_) (fun c=>?_)
 ·rw[dt (show l.length=3 by omega),q7] at q
  refine av (i:=((0:Nat):Int)) a.sq (aw (aQ (by omega))) ?_
  walk_at "d";refine bU (fun b=>?_) (fun b=>?_)
  ·rw[dt b,q7] at q;refine av (i:=((1:Nat):Int)) a.sq (aw (aQ (by omega))) ?_
   refine⟨_,rfl,a.short _ (getD_memS (by omega)),fun H1 d=>?_⟩
   walk_at "d"
   cases h1:bI (l.getD 1 aW) with
   | false=>
    rw[h1,tz] at q;exact q _ d
   | true=>
    rw[h1,q7] at q;walk_at "d";refine av (i:=((2:Nat):Int)) (d.seq a.sq) (aw (aQ (by omega))) ?_
    exact⟨_,rfl,a.short _ (getD_memS (by omega)),fun v n=>q _ (d.trans n)⟩
  ·rw[ed b,tz] at q;exact q _ (ah.refl _)
 ·rw[ed (show ¬ l.length=3 by omega),tz] at q
  exact q _ (ah.refl _)
theorem mC:DS (ak fB) ["words"] ["words"] ["all","len"]:=aO (by decide +kernel)
theorem CP (B:Bn mg)(D:Def K mg "is_sees_line" fB)(gw:Fn P w K mg base 1 "is_name" ["word"] kx):Fn P w K mg base 2 "is_sees_line" ["words"] (vL K):=by
 refine D.gq mC (fun _ _ _ _ _ _ T y=>by obtain⟨_,rfl⟩:=fR y;rfl) (fun J H Q E h=>?_) ?_
 ·obtain⟨p,l,rfl,_⟩:=h;rfl
 intro X S F e2 x t v hc j u L hu H J Q E h;subst F e2 x t v;obtain⟨p,l,rfl,d,q⟩:=h;have o:=d.eU;refine⟨_,(aj (aK (pf (ie KU (c7 S 1 (aE rfl) B.len qE (aa (kv S 0) ae)) aq (au _)) (pf (ie aX (aU (ai rfl) (kv S 0) aq (fun _ _=>rfl)) bc (au _)) (yf (c7 S 0 (cU hc rfl) B.all boot_all (aa (ij S hc j (cB (mM (cq rfl) (kv S 0) (bD aq) bC) rfl) (N:=["word"]) (W:=["word"]) (G:=["is_name"]) (fv:=[none]) (by decide +kernel) (fun R C Z s H n=>⟨(kg n 0),bg,(cE n 0 gw L (aa (kv n 0) ae))⟩)) ae))))))),?_⟩
 walk_at "d";refine aZ (.inl d.sq) ?_;rw[cc];walk_at "d";unfold qT at q;refine bU (fun c=>?_) (fun c=>?_)
 ·rw[dt (show 3<=l.length by omega),q7] at q
  refine av (i:=((0:Nat):Int)) d.sq (aw (aQ (by omega))) ?_
  walk_at "d";refine bU (fun m=>?_) (fun m=>?_)
  ·rw[dt m,q7] at q;refine⟨p,_,rfl,d.sq,fun a r=>?_⟩;rw[show (some (1:Int))=some ((1:Nat):Int) from rfl,dv,<-TR]
   have I:=ah.new r (.lst ((l.drop 1).map V.str));have g:(l.drop 1).length=l.length - 1:=uF;refine⟨a,rfl,⟨_,ax.of ag⟩,qI (cT (ax.of ag)) (fun _=>true) (fun i=>.bl (bI ((l.drop 1).getD i aW))) (by rw[cc,g];exact aB (by omega)) ?_ ?_⟩
   ·intro i H1 A Y hi U M _;rw[cc] at hi;rw[show ((l.drop 1).map V.str).getD i .bE=.str ((l.drop 1).getD i aW) by rw[b4,aQ hi];rfl]
    walk_at "d";exact⟨_,rfl,d.short _ (mem_of_mem_drop (getD_memS hi)),fun H2 O=>M rfl _ O⟩
   ·intro f H1 hn z b;rw[bG,cc] at b;refine⟨f,(List.range (l.drop 1).length).map fun i=>bI ((l.drop 1).getD i aW),rfl,ax.of (by rw[b,kc];rfl),?_⟩
    have e:((List.range (l.drop 1).length).map fun i=>bI ((l.drop 1).getD i aW)).all id=(l.drop 1).all bI:=by
     rw[P3]
     conv=>rhs;rw[show l.drop 1=(List.range (l.drop 1).length).map fun i=>(l.drop 1).getD i aW from by
      apply I3
      intro i
      by_cases hi:i<(l.drop 1).length
      ·rw[ek,vr hi,b5 hi];show some _=some ((l.drop 1).getD i aW);rw[b4,b5 hi];rfl
      ·rw[kf (by omega),kf (by rw[cc,j6];omega)]]
     rw[P3];rfl
    rw[e];exact q _ (I.trans z)
  ·rw[ed m,tz] at q;exact q _ (ah.refl _)
 ·rw[ed (show ¬ 3<=l.length by omega),tz] at q
  exact q _ (ah.refl _)
theorem tP:DS (ak c6) ["text","line","words","names"] ["text","line"] ["is_hat_line","int","is_sees_line","NoLine","len","Twice","set","tuple"]:=aO (by decide +kernel)
theorem tQ:LF "read_line" c6 "text" "line":=fun T kV a b c d ct u v=>⟨⟨_,by with_unfolding_all rfl,fun _=>by with_unfolding_all rfl⟩,⟨_,by with_unfolding_all rfl,fun _=>by with_unfolding_all rfl⟩,⟨_,by with_unfolding_all rfl,fun _=>by with_unfolding_all rfl⟩⟩
theorem Kq (B:Bn mg)(D:FU K mg "read_line" c6 0)(pR:Fn P w K mg base 2 "is_hat_line" ["words"] (AV K))(oR:Fn P w K mg base 2 "is_sees_line" ["words"] (vL K)):RQ P w K mg base 3 "read_line" "text" "line" 0 (yL K):=by
 refine D.gq tP tQ (fun vs H Q E h=>?_) ?_
 ·obtain⟨z,i,l,rfl,_⟩:=h;rfl
 intro X S e1 e2 e3 Y e5 hc hsc Z O hu H vs Q E h;subst e1 e2 e3 Y e5;obtain⟨z,i,l,rfl,hz,s,g,q⟩:=h;refine⟨_,(af (bw S 2 (h7 zP Tr type_str_split dH rfl (kv S 0) (aa bc ae)))
   (af (cN (ph (cE S 0 pR O (aa (kv S 2) ae))) (aj (aK (qF (aa bc (aa (aU (ai rfl) (kv S 2) aq (fun _ _=>rfl)) (aa (jk S 1 gM B.int boot_int (aa (aU (ai rfl) (kv S 2) aq (fun _ _=>rfl)) ae)) ae)))))) ay)
   (af (cN (sy (ph (cE S 2 oR O (aa (kv S 2) ae)))) (aj iJ) ay)
   (af (bw S 3 (mM (cq rfl) (kv S 2) (bD aq) bC))
   (af (cN (aS fG (c7 S 4 yJ B.len qE (aa (jk S 6 (sY hc rfl) B.set boot_set (aa (kv S 3) ae)) ae)) (c7 S 4 (aE rfl) B.len qE (aa (kv S 3) ae)) (au _)) (aj iJ) ay)
   (aj (aK (qF (aa bc (aa (aU (ai rfl) (kv S 3) aq (fun _ _=>rfl)) (aa (jk S 7 (dU rfl) B.tuple Tu (aa (mM (cq rfl) (kv S 3) (bD aq) bC) ae)) ae))))))))))),?_⟩
 walk_at "d";have ab:(1000002:Nat)<=sizeLine:=by decide
 refine⟨rfl,z,_,rfl,rfl,by decide +kernel,by omega,?_,fun p hp=>?_⟩
 ·rw[bq,s];omega
 rw[bq,s];have M:=ah.new hp (.lst (l.map V.str));have m:Ws X.K (upd H p (.lst (l.map V.str))) p l:=⟨ax.of ag,g,fun x hx=>h9 (yK (by rw[s];exact hx)) hz⟩
 refine⟨p,l,rfl,m,fun H1 v=>?_⟩;have d:ax X.K H1 p (l.map V.str):=v.seq m.sq;walk_at "d"
 rcases q with ⟨hh,c,I,q⟩ | ⟨hh,n,r,q⟩
 ·rw[hh];walk_at "d";have hb:=hh;unfold vI at hb;rw[gz] at hb;have o:l.length=3:=u5 hb.1;have f:di (l.getD 2 aW)=true:=by
   have R:=hb.2;rw[gz,gz] at R;exact R.2.2
  have U:(l.getD 2 aW).length<=30:=by
   unfold di at f;rw[gz] at f;exact(u5 f.1).2
  refine av (i:=((1:Nat):Int)) d (aw (aQ (by omega))) ?_
  refine av (i:=((2:Nat):Int)) d (aw (aQ (by omega))) ?_
  refine⟨_,c,rfl,I,by omega,?_⟩
  refine⟨by decide,fun t J=>?_⟩
  exact q t _ (M.trans (v.trans (ah.new J _))) ag
 ·rw[hh];walk_at "d";refine⟨p,l,rfl,⟨d,m.eU,m.short⟩,fun G T=>?_⟩;rw[n];walk_at "d";have C:=T.seq d;have o:3<=l.length:=by
   unfold qT at n;rw[gz] at n;exact u5 n.1
  refine⟨p,_,rfl,C,fun a W=>?_⟩;rw[show (some (1:Int))=some ((1:Nat):Int) from rfl,dv,<-TR]
  have sa:=ah.new W (.lst ((l.drop 1).map V.str));have hdl:(l.drop 1).length=l.length - 1:=uF;walk_at "d";refine⟨a,l.drop 1,rfl,ax.of ag,by omega,fun P w b hb=>?_⟩
  have L:=ah.new hb (vG P w b (sX (l.drop 1)));have j:upd (upd G a (.lst ((l.drop 1).map V.str))) b (vG P w b (sX (l.drop 1))) b=some (vG P w b (sX (l.drop 1))):=ag;have e:ax X.K (upd (upd G a (.lst ((l.drop 1).map V.str))) b (vG P w b (sX (l.drop 1)))) a ((l.drop 1).map V.str):=ax.of (L _ _ ag);generalize upd (upd G a (.lst ((l.drop 1).map V.str))) b (vG P w b (sX (l.drop 1)))=H3 at L j e ⊢;refine⟨b,_,P,w,rfl,j,?_⟩;refine aZ (.inl e) ?_;rw[cc,(JN (l.drop 1)).2.mpr r];walk_at "d";rw[if_neg (by omega)]
  refine av (i:=((0:Nat):Int)) e (aw (aQ (by omega))) ?_
  rw[show (l.drop 1).getD 0 aW=l.getD 1 aW by rw[b4,getElem?_drop,<-b4]]
  refine⟨a,_,rfl,e,fun c A=>?_⟩;rw[dv,<-TR,List.drop_drop];have sc:=ah.new A (.lst ((l.drop (1+1)).map V.str));refine⟨c,_,rfl,.inl ⟨ax.of ag,fun u y=>?_⟩⟩;have sU:=ah.new y (.tup ((l.drop (1+1)).map V.str));refine⟨by decide,fun t J=>?_⟩
  have N:=ah.new J (.tup [.str "sees",.str (l.getD 1 aW),.ref u]);exact q t u _ ((M.trans v).trans ((T.trans sa).trans ((L.trans sc).trans (sU.trans N)))) ag (N _ _ ag)
theorem zu:DS (ak lI) ["numbers","name","line"] ["numbers","name","line"] ["Twice","MOST_PEOPLE","len","TooMany"]:=aO (by decide +kernel)
theorem CQ (B:Bn mg)(KC:Cs mg)(D:Def K mg "add_hat" lI):Fn P w K mg base 1 "add_hat" ["numbers","name","line"] vW:=by
 refine D.gq zu (fun _ _ _ _ _ _ r o=>by obtain⟨_,_,_,rfl⟩:=jJ o;rfl) (fun f H Q E h=>?_) ?_
 ·obtain⟨d,g,x,i,rfl,_⟩:=h;rfl
 intro X S b e2 n e m hc j l p hu H f Q E h;subst b e2 n e m;obtain⟨d,g,x,i,rfl,a,hx,s,q⟩:=h;refine⟨_,(af (cN (QM (u1 hu) (kv S 1) (kv S 0) (by with_unfolding_all rfl)) (aj iJ) ay)
   (af (cN (aS KU (c7 S 2 qV B.len qE (aa (kv S 0) ae)) (NU S 1 KC.w4) (au _)) (aj iJ) ay)
   (aj (LA (u1 hu) (c7 S 2 qV B.len qE (aa (kv S 0) ae)) (kv S 0) (kv S 1))))),?_⟩
 walk_at "d";refine⟨d,_,rfl,N2 a hx,?_⟩;rw[isSome_none];walk_at "d";refine vV a ?_;walk_at "d";refine bU (fun c=>absurd c (by omega)) (fun c=>?_)
 refine vV a ?_;refine Gj a rfl hx (bY (by omega)) ?_
 exact q
theorem tR:DS (ak iT) ["numbers","web","name","seen","line"] ["numbers","web","name","seen","line"] ["Twice","all","Unknown","sum"]:=aO (by decide +kernel)
theorem wI (B:Bn mg)(D:Def K mg "add_sight" iT):Fn P w K mg base 1 "add_sight" ["numbers","web","name","seen","line"] (nS K):=by
 refine D.gq tR (fun _ _ _ _ _ _ us u=>by obtain⟨_,_,_,_,_,rfl⟩:=Sv u;rfl) (fun vs H Q E h=>?_) ?_
 ·obtain⟨d,w,t,a,l,ws,x,i,rfl,_⟩:=h;rfl
 intro X S e1 e2 e3 e4 e5 hc n hxe hr hu H vs Q E h;subst e1 e2 e3 e4 e5;obtain⟨d,w,t,a,l,ws,x,i,rfl,O,hw,j,h8,hx,Y,ht,u,hl40,q⟩:=h;refine⟨_,(af (cN (Ic (Nl (QM (u1 hu) (kv S 2) (kv S 0) (by with_unfolding_all rfl)) (EX (aS lR (aU (ai rfl) (kv S 1) (Gg (u1 hu) (kv S 0) (kv S 2)) (fun _ _=>rfl)) aq (au _))))) (aj iJ) ay)
   (af (cN (sy (ph (c7 S 1 (cU hc rfl) B.all boot_all (aa (ij S hc n (du (aR (iB rfl) (qF (aa (kv S 2) ae)) (kv S 3)) rfl) (N:=["other","numbers"]) (W:=["other"]) (G:=[]) (fv:=[none,some 0]) (by decide +kernel) (fun cl C fp s H g=>⟨(kg g 0),bg,(Qv (u1 hu) (kv g 0) (kv g 1) (by with_unfolding_all rfl))⟩)) ae)))) (aj iJ) ay)
   (aj (B1 (c7 S 3 (c8 hc rfl) B.sum boot_sum (aa (ij S hc n (du (kv S 3) rfl) (N:=["other","numbers"]) (W:=["other"]) (G:=[]) (fv:=[none,some 0]) (by decide +kernel) (fun cl C fp s H g=>⟨(kg g 0),bg,(aR cK aq (Gg (u1 hu) (kv g 1) (kv g 0)))⟩)) ae)) (Sg (kv S 1) (Gg (u1 hu) (kv S 0) (kv S 2)) set_list))))),?_⟩
 walk_at "d";have hi:a.idxOf x<a.length:=F1.mpr hx;refine⟨d,_,rfl,vU O hx,?_⟩;rw[isSome_some];walk_at "d";refine⟨d,_,rfl,vU O hx,?_⟩;refine cu (ax.of hw) rfl (by rw[ao,j];exact hi) ?_
 rw[aM,Y];walk_at "d";refine⟨by decide,fun p hp=>?_⟩
 have o:=ah.new hp (.tup [V.str x]);refine⟨p,t,_,_,rfl,rfl,aH.of ag,aH.of (o _ _ ht),by rw[cc];exact bY (by show 1+_<=_;omega),fun p1 H1 F f=>?_⟩
 have m:DN H1 d a:=F _ _ (o _ _ O);have L:([V.str x]++l.map V.str)=(x::l).map V.str:=rfl;rw[L] at f;have dB:∀ y∈x::l,y∈a:=fun y hy=>(hU.mp hy).elim (fun e=>e ▸ hx) (u y);refine⟨p1,rfl,⟨_,f⟩,qI (gk f) (fun _=>true) (fun i=>.bl true) (by rw[cc,qs];exact aB (by omega)) ?_ ?_⟩
 ·intro i H2 A B' hi I M _;rw[cc] at hi;rw[show ((x::l).map V.str).getD i .bE=.str ((x::l).getD i aW) by rw[b4,aQ hi];rfl]
  walk_at "d";refine⟨d,_,rfl,vU (I _ _ m) (dB _ (getD_memS hi)),?_⟩;exact M rfl _ (ah.refl _)
 intro J H2 hn2 z c;rw[bG,cc] at c;refine⟨J,(List.range (x::l).length).map fun _=>true,rfl,ax.of (by rw[c,kc];rfl),?_⟩
 have eT:(((List.range (x::l).length).map fun _=>true).all id)=true:=by rw[P3];exact kb.mpr fun _ _=>rfl
 rw[eT];walk_at "d";have v:DN H2 d a:=z _ _ m;have r:=z _ _ (F _ _ (o _ _ ht));have Z:=z _ _ (F _ _ (o _ _ hw));refine⟨t,rfl,⟨_,aH.of r⟩,qI (gk (aH.of r)) (fun _=>true) (fun i=>.int ((2 ^ a.idxOf (l.getD i aW):Nat):Int)) (by rw[cc];exact aB (by omega)) ?_ ?_⟩
 ·intro i H3 A B' hi I M _;rw[cc] at hi;rw[show (l.map V.str).getD i .bE=.str (l.getD i aW) by rw[b4,aQ hi];rfl]
  walk_at "d";refine⟨d,_,rfl,vU (I _ _ v) (u _ (getD_memS hi)),?_⟩;have hlt:a.idxOf (l.getD i aW)<a.length:=F1.mpr (u _ (getD_memS hi));walk_at "d";refine⟨dG (by omega),?_⟩
  exact M rfl H3 (ah.refl _)
 intro T H3 hn3 U b;rw[bG,cc] at b;refine⟨T,(List.range l.length).map fun i=>((2 ^ a.idxOf (l.getD i aW):Nat):Int),rfl,ax.of (by rw[b,kc];rfl),?_⟩
 walk_at "d";rw[Gk];have R:=U _ _ Z;refine⟨d,_,rfl,vU (U _ _ v) hx,?_⟩;refine⟨w,_,_,_,rfl,rfl,R,Ju (by rw[cc,ao,j];exact hi),?_⟩
 rw[Gm];exact q _ (o.trans (F.trans (z.trans U)))
theorem zw:DS (ak lJ) ["text"] ["text"] []:=aO (by decide +kernel)
theorem Kr (B:Bn mg)(D:Def K mg "rows_of" lJ):Fn P w K mg base 1 "rows_of" ["text"] yT:=by
 refine D.gq zw (fun _ _ _ _ _ _ u a=>by obtain⟨_,rfl⟩:=fR a;rfl) (fun j H Q E h=>?_) ?_
 ·obtain⟨z,rfl,_⟩:=h;rfl
 intro X S g e2 s i o hc m n t hu H j Q E h;subst g e2 s i o;obtain⟨z,rfl,hz,b,q⟩:=h;refine⟨_,(af (cN (aS aX (kv S 0) bc (au _)) (aj (aK (dW ae))) ay)
   (aj (aK (h7 zP Tr type_str_split dH rfl (kv S 0) (aa bc ae))))),?_⟩
 walk_at "d";refine bU (fun c=>?_) (fun c=>?_)
 ·refine⟨by decide,fun l a=>?_⟩
  exact q l _ (ah.new a _) a (by rw[ag];unfold kA;rw[if_pos c];rfl)
 ·have r:(1000002:Nat)<=sizeLine:=by decide
  have f:(Str.ofString "\n")=⟨#[10]⟩:=by decide +kernel
  have e:kA z=Txt.split z ⟨#[10]⟩:=by unfold kA;rw[if_neg c]
  refine⟨rfl,z,_,rfl,rfl,by decide +kernel,by omega,?_,fun p d=>?_⟩
  ·rw[f,<-e];omega
  ·rw[f,<-e];exact q p _ (ah.new d _) d ag
theorem tT:DS (ak iU) ["text","numbers","counts","web","line","row","told"] ["text"] ["enumerate","rows_of","read_line","add_hat","add_sight","tuple"]:=aO (by decide +kernel)
theorem Ks (B:Bn mg)(D:Def K mg "read_book" iU)(lP:Fn P w K mg base 1 "rows_of" ["text"] yT)(w8:RQ P w K mg base 3 "read_line" "text" "line" 0 (yL K))(Dl:Fn P w K mg base 1 "add_hat" ["numbers","name","line"] vW)(w9:Fn P w K mg base 1 "add_sight" ["numbers","web","name","seen","line"] (nS K)):Fn P w K mg base 4 "read_book" ["text"] (Bg K):=by
 refine D.gq tT (fun _ _ _ _ _ _ us hl=>by obtain⟨_,rfl⟩:=fR hl;rfl) (fun vs H Q E h=>?_) ?_
 ·obtain⟨L,b,rfl,_⟩:=h;rfl
 intro X S e1 e2 e3 e4 e5 hc hsc hxe hr hu H vs Q E h;subst e1 e2 e3 e4 e5;obtain⟨L,b,rfl,br,hL,hb,q⟩:=h;refine⟨_,(af (bw S 1 Lz)
   (af (bw S 2 (dW ae))
   (af (bw S 3 (dW ae))
   (af (dO hxe hc (Sr S 0 B.enumerate rfl (aa (cE S 1 lP hr (aa (kv S 0) ae)) ae)) (jl hc (K:=X.K) (n:=2) rfl (aJ (kg S 4) (aJ (kg S 5) cA))) (af (bw S 6 (So S 2 w8 hr (aa (kv S 5) (aa (kv S 4) ae))))
   (aj (cN (aS aX (aU (aI rfl) (kv S 6) aq (fun _ _=>rfl)) bc (au _)) (af (df (cE S 3 Dl hr (aa (kv S 1) (aa (aU (aI rfl) (kv S 6) aq (fun _ _=>rfl)) (aa (kv S 4) ae)))))
   (af (df (h7 qN ls nc bA rfl (kv S 2) (aa (aU (aI rfl) (kv S 6) aq (fun _ _=>rfl)) ae)))
   (aj (df (h7 qN ls nc bA rfl (kv S 3) (aa aq ae)))))) (aj (df (cE S 4 w9 hr (aa (kv S 1) (aa (kv S 3) (aa (aU (aI rfl) (kv S 6) aq (fun _ _=>rfl)) (aa (aU (aI rfl) (kv S 6) aq (fun _ _=>rfl)) (aa (kv S 4) ae))))))))))))
   (aj (aK (qF (aa (jk S 5 (ze hc) B.tuple Tu (aa (kv S 1) ae)) (aa (jk S 5 (dU rfl) B.tuple Tu (aa (kv S 2) ae)) (aa (jk S 5 (dU rfl) B.tuple Tu (aa (kv S 3) ae)) ae)))))))))),?_⟩
 walk_at "d";intro d aP;have s0:=ah.new aP (.dK []);refine⟨by decide,fun c A=>?_⟩
 have s1:=ah.new A (.lst []);refine⟨by decide,fun w m=>?_⟩
 have s2:=ah.new m (.lst []);have cd:c≠d:=fun z=>by rw[z,ag] at A;cases A
 have wd:w≠d:=fun z=>by rw[z,aG cd.symm,ag] at m;cases m
 have wc:w≠c:=fun z=>by rw[z,ag] at m;cases m
 have hbt:=fi br hL;have u:=jH br;refine⟨_,rfl,by omega,by rw[u,cc];omega,fun r H1 t1 s O=>?_⟩
 rw[u] at O;have rd:r≠d:=fun z=>by rw[z,aG wd.symm,aG cd.symm,ag] at s;cases s
 have rc:r≠c:=fun z=>by rw[z,aG wc.symm,ag] at s;cases s
 have Z:r≠w:=fun z=>by rw[z,ag] at s;cases s
 have hB0:SM H1 d c w ⟨[],[],[]⟩:=⟨t1 _ _ (s2 _ _ (s1 _ _ ag)),t1 _ _ (s2 _ _ ag),t1 _ _ ag,rfl,rfl,by decide⟩
 have hcn:H c=none:=s0.free A;have a0:H w=none:=(s0.trans s1).free m;refine QL (QN H (fk L) d c w r L) (ax.of O) ⟨_,_,_,_,rfl,(s0.trans (s1.trans s2)).trans t1,O,rfl,hB0⟩ (fun k σ H' h=>by obtain⟨b,y1,y2,y3,_,_,h,_⟩:=h;exact ax.of h) ?_ ?_
 ·rintro k v σ H2 H3 W ⟨b1,y1,y2,y3,rfl,U,R,y,j⟩ s3;obtain⟨x,hx,rfl⟩:∃ x,L[k]?=some x/\v=.str (kN x):=by
   rw[ek,ek] at W
   cases e:L[k]? with
   | none=>rw[e] at W;cases W
   | some x=>rw[e] at W;cases W;exact⟨x,rfl,rfl⟩
  obtain⟨a,b2,e1,e2,e3⟩:=yR hb hx;have eb:a=b1:=by rw[y] at e1;cases e1;rfl
  subst eb;have hS3:=U.trans s3;walk_at "d";refine JW (br x (h5 hx)) (fun n I f J ex s4 G=>?_) (fun n l f J ex s4 G=>?_)
  ·subst ex;obtain⟨hn,h8,rfl⟩:=Ct e2;have g:=s3.trans s4;walk_at "d";refine bh (i:=((0:Nat):Int)) (aH.of G) (aw rfl) ?_;walk_at "d";refine bh (i:=((1:Nat):Int)) (aH.of G) (aw rfl) ?_;refine⟨d,_,n,_,rfl,g _ _ j.hd,hn,h8,?_⟩;have fd:f≠d:=fun z=>by have:=g _ _ j.hd;rw[<-z,G] at this;cases this
   have fc:f≠c:=fun z=>by have:=g _ _ j.hc;rw[<-z,G] at this;cases this
   have fw:f≠w:=fun z=>by have:=g _ _ j.hw;rw[<-z,G] at this;cases this
   walk_at "d";have T:upd J d (.dK (nR 0 (a.ns++[n]))) c=some (.lst ((az a.cs).map V.int)):=by rw[aG cd];exact g _ _ j.hc
   have a4:upd J d (.dK (nR 0 (a.ns++[n]))) w=some (.lst ((az a.ws).map V.int)):=by rw[aG wd];exact g _ _ j.hw
   have a5:upd J d (.dK (nR 0 (a.ns++[n]))) r=some (.lst ((L.map kN).map V.str)):=by rw[aG rd];exact g _ _ R
   have aF:upd J d (.dK (nR 0 (a.ns++[n]))) f=some (.tup [.str "hat",.str n,.int (I:Int)]):=by rw[aG fd];exact G
   have ab:upd J d (.dK (nR 0 (a.ns++[n]))) d=some (.dK (nR 0 (a.ns++[n]))):=ag;have a9:ah H (upd J d (.dK (nR 0 (a.ns++[n])))):=(U.trans g).set aP _;generalize upd J d (.dK (nR 0 (a.ns++[n])))=M at T a4 a5 aF ab a9 ⊢;refine⟨.inl ⟨rfl,_,ax.of T⟩,?_⟩;refine bh (i:=((2:Nat):Int)) (aH.of aF) (aw rfl) ?_;refine⟨c,_,_,rfl,rfl,T,by rw[cc,ao];exact bY (by rw[j.lc];omega),?_⟩
   rw[iM];walk_at "d";have N:upd M c (.lst ((az (a.cs++[I])).map V.int)) w=some (.lst ((az a.ws).map V.int)):=by rw[aG wc];exact a4
   have aA:upd M c (.lst ((az (a.cs++[I])).map V.int)) r=some (.lst ((L.map kN).map V.str)):=by rw[aG rc];exact a5
   have a7:upd M c (.lst ((az (a.cs++[I])).map V.int)) d=some (.dK (nR 0 (a.ns++[n]))):=by rw[aG cd.symm];exact ab
   have a8:upd M c (.lst ((az (a.cs++[I])).map V.int)) c=some (.lst ((az (a.cs++[I])).map V.int)):=ag;have a6:ah H (upd M c (.lst ((az (a.cs++[I])).map V.int))):=a9.set hcn _;generalize upd M c (.lst ((az (a.cs++[I])).map V.int))=H6 at N aA a7 a8 a6 ⊢;refine⟨.inl ⟨rfl,_,ax.of N⟩,?_⟩;refine⟨w,_,_,rfl,rfl,N,by rw[cc,ao];exact bY (by rw[j.lw];omega),?_⟩
   rw[show (V.int 0)=V.int ((0:Nat):Int) from rfl,iM]
   refine⟨_,_,_,_,rfl,a6.set a0 _,by rw[aG Z];exact aA,e3,⟨by show upd _ _ _ _=_;rw[aG wd.symm];exact a7,by rw[aG wc.symm];exact a8,ag,?_,?_,?_⟩⟩
   ·rw[eG,eG,j.lw];rfl
   ·rw[eG,eG,j.lc];rfl
   ·rw[eG];show _+1<=8;omega
  ·subst ex;obtain⟨hn,h0,hl,rfl⟩:=yQ e2;have g:=s3.trans s4;obtain⟨p,LU,Bd⟩:=G;have hLs:Sq (n::l):=br _ (h5 hx);walk_at "d";refine bh (i:=((0:Nat):Int)) (aH.of LU) (aw rfl) ?_;walk_at "d";rw[if_neg (by decide +kernel)]
   refine bh (i:=((1:Nat):Int)) (aH.of LU) (aw rfl) ?_;refine bh (i:=((2:Nat):Int)) (aH.of LU) (aw rfl) ?_;refine⟨d,w,p,_,l,_,n,_,rfl,g _ _ j.hd,g _ _ j.hw,j.lw,j.eU,hn,h0,Bd,hl,by have:=hLs.eU;rw[qs] at this;omega,fun M s5=>?_⟩
   have C:=g.trans s5;walk_at "d";refine⟨_,_,_,_,rfl,(U.trans C).set a0 _,by rw[aG Z];exact C _ _ R,e3,⟨by show upd _ _ _ _=_;rw[aG wd.symm];exact C _ _ j.hd,by rw[aG wc.symm];exact C _ _ j.hc,ag,?_,j.lc,j.eU⟩⟩
   rw[length_set];exact j.lw
 ·rintro σ H2 ⟨b1,y1,y2,y3,rfl,U,R,y,j⟩;rw[cc,cc,L3,hb] at y
  cases y
  walk_at "d";refine CJ j.hd fun a1 o ha1 oc od=>?_;have u1:=ah.new ha1 (.jE o (.tup (b.ns.map V.str)));refine⟨c,_,rfl,.inl ⟨ax.of (u1 _ _ j.hc),fun a2 ha2=>?_⟩⟩;have u2:=ah.new ha2 (.tup ((az b.cs).map V.int));refine⟨w,_,rfl,.inl ⟨ax.of (u2 _ _ (u1 _ _ j.hw)),fun a3 ha3=>?_⟩⟩;have u3:=ah.new ha3 (.tup ((az b.ws).map V.int));refine⟨by decide,fun t ht=>?_⟩
  have Y:=ah.new ht (.tup [.ref a1,.ref a2,.ref a3]);exact q t _ (U.trans ((u1.trans u2).trans (u3.trans Y))) ⟨a1,a2,a3,aH.of ag,.inl (.inr ⟨o,Y _ _ (u3 _ _ (u2 _ _ ag))⟩),.inr ⟨o,_,Y _ _ (u3 _ _ (u2 _ _ ag)),oc,od⟩,aH.of (Y _ _ (u3 _ _ ag)),aH.of (Y _ _ ag)⟩
theorem CT:DS (ak oq) ["mask"] ["mask"] ["range"]:=aO (by decide +kernel)
theorem CU (B:Bn mg)(D:Def K mg "places" oq):Fn P w K mg base 1 "places" ["mask"] ko:=by
 refine D.gq CT (fun _ _ _ _ _ _ J t=>by obtain⟨_,rfl⟩:=fR t;rfl) (fun v H Q E h=>?_) ?_
 ·obtain⟨m,rfl,_⟩:=h;rfl
 intro X S u e2 r o z hc g p O hu H v Q E h;subst u e2 r o z;obtain⟨m,rfl,hm,q⟩:=h;refine⟨_,(aj (aK (ij S hc g (ig S 0 B.range (aa (Sf PySem.F.plainAttrs_int PySem.F.slot_int_bit_length PySem.F.type_int_bit_length Cc rfl (kv S 0)) ae)) (N:=["i","mask"]) (W:=["i"]) (G:=[]) (fv:=[none,some 0]) (by decide +kernel) (fun I C M s H d=>⟨(kg d 0),(eV (aS aX (aR dR (aR xJ (kv d 1) (kv d 0)) aq) aq (au _))),(kv d 0)⟩)))),?_⟩
 walk_at "d";refine⟨rfl,m,rfl,rfl,fun n hn a=>?_⟩;have l:=a 64 hm;walk_at "d";refine OK n (fun i=>m.testBit i) (fun i=>(i:Int)) rfl (by omega) ?_ ?_
 ·intro i H1 A L hi j x y;walk_at "d";refine⟨by omega,?_⟩
  by_cases c:m.testBit i=true
  ·rw[c];walk_at "d";exact x c _ (ah.refl _)
  ·have c:m.testBit i=false:=by simpa using c
   rw[c];walk_at "d";exact y c _ (ah.refl _)
 ·intro e H1 f j b;refine q e H1 j f ?_;rw[b,<-qL hn];rfl
theorem Kt:DS (ak zp) ["web","i","j"] ["web","i","j"] []:=aO (by decide +kernel)
theorem mU (D:Def K mg "sees" zp):Fn P w K mg base 1 "sees" ["web","i","j"] (yu K):=by
 refine D.gq Kt (fun _ _ _ _ _ _ p n=>by obtain⟨_,_,_,rfl⟩:=jJ n;rfl) (fun c H Q E h=>?_) ?_
 ·obtain⟨w,d,i,j,rfl,_⟩:=h;rfl
 intro X S a e2 m b l hc f g o hu H c Q E h;subst a e2 m b l;obtain⟨w,d,i,j,rfl,e,hi,q⟩:=h;refine⟨_,(aj (aK (ie aX (aR dR (aR xJ (aU (aI rfl) (kv S 0) (kv S 1) (fun _ _=>rfl)) (kv S 2)) aq) aq (au _)))),?_⟩;walk_at "d";refine dF e rfl (by rw[ao];exact hi) ?_
 rw[aM];walk_at "d";exact⟨by omega,q⟩
theorem tU:DS (ak iR) ["web","people","crowd","i","others"] ["web","people"] ["sum"]:=aO (by decide +kernel)
theorem tV (B:Bn mg)(D:Def K mg "is_circle" iR):Fn P w K mg base 1 "is_circle" ["web","people"] (ND K):=by
 refine D.gq tU (fun _ _ _ _ _ _ us T=>by obtain⟨_,_,rfl⟩:=eA T;rfl) (fun vs H Q E h=>?_) ?_
 ·obtain⟨w,p,ws,l,rfl,_⟩:=h;rfl
 intro X S Z e2 O F M hc r o hr hu H vs Q E h;subst Z e2 O F M;obtain⟨w,p,ws,l,rfl,J,v,h8,u,b,q⟩:=h;have U:=cG u b;refine⟨_,(af (bw S 2 (c7 S 0 (c8 hc rfl) B.sum boot_sum (aa (ij S hc r (du (kv S 1) rfl) (N:=["i"]) (W:=["i"]) (G:=[]) (fv:=[none]) (by decide +kernel) (fun cl C fp s H y=>⟨(kg y 0),bg,(aR cK aq (kv y 0))⟩)) ae)))
   (af (dO o hc (du (kv S 1) rfl) (kg S 3) (af (bw S 4 (aR cF (kv S 2) (aR cK aq (kv S 3))))
   (aj (cN (aS lR (aR dR (aU (aI rfl) (kv S 0) (kv S 3) (fun _ _=>rfl)) (kv S 4)) (kv S 4) (au _)) (aj (aK xy)) ay))))
   (aj (aK xy)))),?_⟩
 walk_at "d";refine PY (fun _=>true) (fun j=>((2 ^ l.getD j 0:Nat):Int)) v (by rw[ao];exact aB (by omega)) ?_ ?_
 ·intro j H1 A B' hj hS hA hB;rw[ao] at hj;rw[aM];walk_at "d";exact⟨dG (by have:=b _ (dX hj);omega),hA rfl _ (ah.refl _)⟩
 intro L H1 R a d;rw[bG] at d;refine k7 (ax.of d) ?_;rw[AN];have f:=a.aL v;have m:=a.aL J;walk_at "d";refine Js (Qj H1 w p ws l) f ⟨rfl,(fun j hj=>absurd hj (I1 j)),none,none,rfl⟩ (fun k σ t h=>by rw[h.1];exact f) ?_ ?_
 ·rintro k σ t hk ⟨n,g,Y,I,rfl⟩;rw[ao] at hk;have hm:=dX hk;rw[n,aM];walk_at "d";refine⟨dG (by have:=b _ hm;omega),?_⟩
  refine dF m rfl (by rw[ao];exact b _ hm) ?_
  rw[aM,JE (vq hm)];walk_at "d";have e:=yy (ws:=ws) u hm
  by_cases c:(l.all fun x=>decide (x=l.getD k 0)||dc ws (l.getD k 0) x)=true
  ·rw[c,mo] at e;rw[e]
   try rw[Nt rfl]
   walk_at "d";refine⟨rfl,fun j hj=>?_,_,_,rfl⟩
   by_cases e2:j=k
   ·rw[e2];exact c
   ·exact g j (by omega)
  ·have i:(l.all fun x=>decide (x=l.getD k 0)||dc ws (l.getD k 0) x)=false:=by simpa using c
   rw[i,decide_eq_false_iff_not] at e;rw[ed (show ¬ (((ws.getD (l.getD k 0) 0&&& (mask l - 2 ^ l.getD k 0):Nat):Int)=((mask l - 2 ^ l.getD k 0:Nat):Int)) by rw[Qk];exact e)]
   walk_at "d"
   have:bN ws l=false:=by
    cases z:bN ws l with
    | false=>rfl
    | true=>
     unfold bN at z;rw[kb] at z;rw[z _ hm] at i;cases i
   rw[<-this];exact q _ a
 ·rintro σ t ⟨n,g,Y,I,rfl⟩;rw[ao] at g;rw[n];walk_at "d"
  have:bN ws l=true:=by
   unfold bN;rw[kb];intro x hx;obtain⟨k,hk,e⟩:=BC hx
   have:=g k hk
   rw[b4,b5 hk] at this;rw[<-e];exact this
  rw[<-this];exact q _ a
theorem zx:DS (ak lG) ["web","people","followers"] ["web","people"] ["len","set","all","zip"]:=aO (by decide +kernel)
theorem zy (B:Bn mg)(D:Def K mg "is_ring" lG)(zJ:Fn P w K mg base 1 "sees" ["web","i","j"] (yu K)):Fn P w K mg base 2 "is_ring" ["web","people"] (Ql K):=by
 refine D.gq zx (fun _ _ _ _ _ _ us Z=>by obtain⟨_,_,rfl⟩:=eA Z;rfl) (fun vs H Q E h=>?_) ?_
 ·obtain⟨w,p,d,r,rfl,_⟩:=h;rfl
 intro X S e1 e2 Y M e5 hc F U hr hu H vs Q E h;subst e1 e2 Y M e5;obtain⟨w,p,d,r,rfl,O,i,h8,ab,u,q⟩:=h;refine⟨_,(af (cN (Ic (Nm (aS fG (c7 S 0 (aE rfl) B.len qE (aa (kv S 1) ae)) aq (au _)) (yh (aS fG (c7 S 0 vm B.len qE (aa (jk S 1 (B6 hc rfl) B.set boot_set (aa (kv S 1) ae)) ae)) (c7 S 0 (aE rfl) B.len qE (aa (kv S 1) ae)) (au _))))) (aj (aK xy)) ay)
   (af (bw S 2 (aR (iB rfl) (mM (jd rfl) (kv S 1) (bD aq) bC) (mM (jd rfl) (kv S 1) bC (bD aq))))
   (aj (aK (c7 S 2 (cU hc rfl) B.all boot_all (aa (ij S hc F (OR false false S 3 B.zip rfl (aa (kv S 1) (aa (kv S 2) ae))) (N:=["i","j","web"]) (W:=["i","j"]) (G:=["sees"]) (fv:=[none,none,some 0]) (by decide +kernel) (fun cl C fp s H l=>⟨(jl rfl (K:=X.K) (n:=2) rfl (aJ (kg l 0) (aJ (kg l 1) cA))),bg,(cE l 0 zJ hr (aa (kv l 2) (aa (kv l 0) (aa (kv l 1) ae))))⟩)) ae)))))),?_⟩
 walk_at "d";refine aZ (.inr i) ?_;rw[cc,ao];walk_at "d";refine bU (fun c=>?_) (fun c=>?_)
 ·rw[show false=ju d r by unfold ju;rw[ed (show ¬ 2<=r.length by omega)];rfl]
  exact q _ (ah.refl _)
 refine⟨p,az r,rfl,.inr i,by rw[ao];omega,fun s T=>?_⟩
 have g:=ah.new T (.set (fun j=>(jn (az r) (az r).length).any (· == j)) (unlike (az r)));refine⟨s,_,_,rfl,ag,?_⟩;generalize upd H s _=H1 at g ⊢;refine aZ (.inr (g.aL i)) ?_;rw[cc,ao];walk_at "d"
 by_cases o:r.Nodup
 ·rw[if_neg (by rw[B9 (qK o),ao];omega)]
  refine sE 0 (g.aL i) rfl (by rw[ao];omega) fun a L=>?_
  have I:=ah.new L (.tup (((az r).drop (0+1)).map V.int));refine sD 1 ((g.trans I).aL i) rfl (by rw[ao];omega) fun b hb=>?_
  have J:=ah.new hb (.tup (((az r).take 1).map V.int));refine sG (ns:=(az r).drop 1) (ms:=(az r).take 1) (aH.of (J _ _ ag)) (aH.of ag) (bY (by rw[uF,wh,ao];omega)) fun f H2 s2 y=>?_
  have y:aH X.K H2 f ((az (pq r)).map V.int):=by
   unfold pq;rw[dZ,<-vn,<-Fw];exact y
  have v:=((g.trans I).trans J).trans s2;walk_at "d";refine Og _ (fun k=>.bl (dc d (r.getD k 0) ((pq r).getD k 0))) (v.aL i) y (dy _) (by rw[ao,ao,Fz (by omega)];exact dy _) (.inl (dy _)) (by rw[ao];exact aB (by omega)) ?_ ?_
  ·intro k R A hk e hA;rw[ao] at hk;rw[aM,aM];walk_at "d";exact⟨w,d,r.getD k 0,(pq r).getD k 0,rfl,(v.trans e).aL O,u _ (dX hk),hA _ (ah.refl _)⟩
  ·intro t R hn3 e m;refine⟨t,(List.range r.length).map fun k=>dc d (r.getD k 0) ((pq r).getD k 0),rfl,ax.of (by rw[m,ao,kc];rfl),?_⟩
   rw[Ce,show ((List.range r.length).all fun k=>dc d (r.getD (ahead r.length k) 0) (r.getD k 0))=ju d r by unfold ju;rw[dt (show 2<=r.length by omega),dt o];rfl]
   exact q _ (v.trans e)
 ·have x:=Cf (fun z=>o (pv.mp z));rw[ao] at x;rw[if_pos (by omega),show false=ju d r by unfold ju;rw[ed o,tz,TL]]
  exact q _ g
theorem pC:DS (ak g4) ["book","names","rows","i","mask","seen"] ["book"] ["zip","enumerate","places"]:=aO (by decide +kernel)
theorem Hz (B:Bn mg)(D:Def K mg "shown_book" g4)(i6:Fn P w K mg base 1 "places" ["mask"] ko):Fn P w K mg base 2 "shown_book" ["book"] (wk K):=by
 refine D.gq pC (fun _ _ _ _ _ _ us hl=>by obtain⟨_,rfl⟩:=fR hl;rfl) (fun vs H Q E h=>?_) ?_
 ·obtain⟨t,a,b,d,rfl,_⟩:=h;rfl
 intro X S e1 e2 e3 e4 e5 hc f hxe hr hu H vs Q E h;subst e1 e2 e3 e4 e5;obtain⟨t,a,b,d,rfl,⟨a1,a2,a3,h0,h1,_,h2,h3⟩,P,q⟩:=h;have h8:=P.nm.eU;refine⟨_,(af (bw S 1 (aU (aI rfl) (kv S 0) aq (fun _ _=>rfl)))
   (af (EY (i:=2) S hc f (OR false false S 0 B.zip rfl (aa (kv S 1) (aa (aU (aI rfl) (kv S 0) aq (fun _ _=>rfl)) ae))) (N:=["name","count"]) (W:=["name","count"]) (G:=[]) (fv:=[none,none]) (by decide +kernel) (fun cl C fp s H p=>⟨(jl rfl (K:=X.K) (n:=2) rfl (aJ (kg p 0) (aJ (kg p 1) cA))),bg,(LI (gP bc (gP (J6 (kv p 0)) (gP bc (gP (J6 (kv p 1)) Gx)))))⟩) (by rw[f];decide +kernel) (by rw[dD,f];rfl))
   (af (dO hxe hc (Fo S 1 B.enumerate rfl (aa (aU (aI rfl) (kv S 0) aq (fun _ _=>rfl)) ae)) (jl hc (K:=X.K) (n:=2) rfl (aJ (kg S 3) (aJ (kg S 4) cA))) (aj (cN (aS lR (kv S 4) aq (au _)) (af (EY (i:=5) S hc f (cB (cE S 2 i6 hr (aa (kv S 4) ae)) rfl) (N:=["j","names"]) (W:=["j"]) (G:=[]) (fv:=[none,some 1]) (by decide +kernel) (fun cl C fp s H p=>⟨(kg p 0),bg,(aU (aI rfl) (kv p 1) (kv p 0) (fun _ _=>rfl))⟩) (by rw[f];decide +kernel) (by rw[dD,f];rfl))
   (aj (df (h7 qN ls nc bA rfl (kv S 2) (aa (h7 zP GM KM (bH rfl) rfl bc (aa (aR (dC rfl) (dW (aa bc (aa (aU (aI rfl) (kv S 1) (kv S 3) (fun _ _=>rfl)) ae))) (kv S 5)) ae)) ae))))) ay)))
   (aj (aK (h7 zP GM KM (bH rfl) rfl bc (aa (kv S 2) ae))))))),?_⟩
 walk_at "i";refine bh (i:=((0:Nat):Int)) h0 (aw rfl) ?_;have h1000:(1000:Nat)<=sizeLine:=by decide
 have el:(Str.ofString "hat ").length=4:=by decide +kernel
 have u:(Str.ofString " ").length=1:=by decide +kernel
 have Y:∀ k,k<a.length->bI (a.getD k aW)=true/\(a.getD k aW).length<=12/\(Str.ofString (toString ((b.getD k 0:Nat):Int))).length<=30/\((b.getD k 0:Nat):Int).natAbs.log2<1920:=fun k hk=>by
  have M:bI (a.getD k aW)=true/\0<b.getD k 0/\b.getD k 0<10 ^ 30:=nU P hk;refine⟨M.1,(dI M.1).2.2,gn (dj M.2.1 M.2.2).1,?_⟩;rw[KF];exact(log2_lt (by omega)).mpr (Ti M.2.2 (by decide +kernel))
 walk_at "i";refine bh (i:=((1:Nat):Int)) h0 (aw rfl) ?_;refine Rh (fun k=>.str (dP a b (.dq k))) h1 h2 (by rw[cc,cc,ao,P.lc]) (by rw[cc];exact aB (by show a.length<=_;omega)) ?_ ?_
 ·intro k H1 A hk hS hA;rw[cc] at hk;rw[show (a.map V.str).getD k .bE=.str (a.getD k aW) by rw[b4,aQ hk];rfl,et (by rw[P.lc];exact hk)]
  obtain⟨f1,f2,f3,f4⟩:=Y k hk;walk_at "s";have L:(Str.empty++Str.ofString "hat ").length=4:=by decide +kernel
  refine⟨_,rfl,by rw[L];omega,?_⟩
  refine .inl ⟨_,rfl,by omega,_,rfl,by rw[aD,L];omega,?_⟩
  walk_at "s";refine⟨_,rfl,by rw[aD,aD,L,u];omega,?_⟩
  refine .inr ⟨_,rfl,f4,_,rfl,by rw[aD,aD,aD,L,u];omega,?_⟩
  walk_at "s";refine⟨by rw[aD,aD,aD,L,u];omega,?_⟩
  have e0:Str.empty++Str.ofString "hat "=Str.ofString "hat ":=by decide +kernel
  rw[e0,ky];exact hA _ (ah.refl _)
 intro r H1 hr0 s1 g;rw[cc] at g;have g:H1 r=some (.lst (((A9 a d 0).map (dP a b)).map V.str)):=by
  rw[g];unfold A9;rw[range_zero,filter_nil,map_nil,TB,kc,kc];rfl
 have hrn:H r=none:=hr0;walk_at "i";refine bh (i:=((2:Nat):Int)) (s1.aL h0) (aw rfl) ?_;refine P8 (QZ H t a1 r a b d) (s1.aL h3) ⟨_,_,_,rfl,s1,g⟩ (fun k σ H' h=>by obtain⟨y3,y4,y5,_,s,_⟩:=h;exact s.aL h3) ?_ ?_
 ·rintro k σ H2 H3 hk ⟨y3,y4,y5,rfl,s2,l⟩ s3;rw[ao,P.lw] at hk;rw[aM];have R:=s2.trans s3;have Z:=s3 _ _ l;have hsl:(A9 a d k).length<=90:=by
   unfold A9
   have:=A5 (fun i=>decide (d.getD i 0≠0)) (List.range k)
   rw[j6] at this;rw[eG,cc,cc,j6]
   omega
  walk_at "s";refine bU (fun c=>?_) (fun c=>?_)
  ·have c':d.getD k 0≠0:=by simpa using c
   walk_at "i";have hw8:2 ^ a.length<=2 ^ 8:=q5 (by decide) h8
   have hwl:=P.RG k hk;refine⟨_,rfl,by omega,fun pl H4 t4 hpl0 m=>?_⟩
   rw[J8 hwl] at m;have e:=mT P hk (TN _) ((vY P hk).mpr c');generalize v:il a.length (d.getD k 0)=bt at m e ⊢;have hbl8:bt.length<=a.length:=by
    rw[<-v];unfold il
    have:=A5 (fun j=>decide (d.getD k 0 / 2 ^ j % 2=1)) (List.range a.length)
    rw[j6] at this;exact this
   have hbm:∀ j∈bt,j<a.length:=fun j hj=>by
    rw[<-v] at hj;exact(jg.mp hj).1
   have s4:=R.trans t4;refine⟨pl,rfl,⟨_,ax.of m⟩,qI (cT (ax.of m)) (fun _=>true) (fun i=>.str (a.getD (bt.getD i 0) aW)) (by rw[cc,ao];exact aB (by omega)) ?_ ?_⟩
   ·intro i H5 A B' hi hS hA _;rw[cc,ao] at hi;rw[et hi];walk_at "s";refine bh (hS.aL (s4.aL h1)) (aw (aQ (hbm _ (ez hi)))) ?_;exact hA rfl _ (ah.refl _)
   intro nl H5 hnl0 s5 aF;rw[bG,cc,ao,b9 (fun j=>V.str (a.getD j aW))] at aF;have U:=s4.trans s5;have ab:=s5 _ _ (t4 _ _ Z);walk_at "s";refine⟨.inl ⟨rfl,_,ax.of ab⟩,rfl,?_⟩;refine bh (U.aL h1) (aw (aQ hk)) ?_;refine⟨by decide,fun p7 hp7=>?_⟩
   have O:=ah.new hp7 (.lst [V.str (Str.ofString "sees"),V.str (a.getD k aW)]);refine⟨p7,nl,_,_,rfl,rfl,ax.of ag,ax.of (O _ _ aF),by rw[cc];exact bY (by show 2+_<=100;omega),fun p8 hp8=>?_⟩
   have sp8:=ah.new hp8 (.lst ([V.str (Str.ofString "sees"),V.str (a.getD k aW)]++bt.map fun j=>V.str (a.getD j aW)));have e8:([V.str (Str.ofString "sees"),V.str (a.getD k aW)]++bt.map fun j=>V.str (a.getD j aW))=(kM (fE a b (.sees k bt))).map V.str:=by
    show _=[V.str (Str.ofString "sees"),V.str (a.getD k aW)]++(bt.map fun j=>a.getD j aW).map V.str;rw[kc];rfl
   have I:=gO e;have hlt:=fg e;have o:=eh 30 (kM (fE a b (.sees k bt))) fun y hy=>(I.1 y hy).2.2;have h41:(kM (fE a b (.sees k bt))).length*31<=41*31:=zS _ I.2.1;have h2000:(2000:Nat)<=sizeLine:=by decide
   refine⟨_,p8,kM (fE a b (.sees k bt)),rfl,rfl,ax.of (by rw[ag,e8]),?_,?_,?_⟩
   ·rw[bq];show ((kM (fE a b (.sees k bt))).map fun z=>z.length+1).sum<=_
    omega
   ·rw[bq]
    have:(kN (fE a b (.sees k bt))).length=(Str.join ⟨#[32]⟩ (kM (fE a b (.sees k bt)))).length:=rfl
    omega
   rw[bq];have sA:=O.trans sp8;refine⟨r,_,_,rfl,rfl,sA _ _ ab,by rw[cc,cc];exact bY (by omega),?_⟩
   refine⟨_,_,_,rfl,(U.trans sA).set hrn _,?_⟩;rw[ag,kB,if_pos c',v,hO,hO];rfl
  ·have c':¬ d.getD k 0≠0:=by simpa using c
   refine⟨_,_,_,rfl,R,?_⟩;rw[kB,if_neg c'];exact Z
 rintro σ2 H2 ⟨y3,y4,y5,rfl,s2,l⟩;rw[ao,P.lw] at l;walk_at "s";have hM:=fH P;have hML:(bj a d).length<=16:=h9 jh (by omega)
 have en:(Str.ofString "\n")=⟨#[10]⟩:=by decide +kernel
 have T:=hM.rf P;have emm:(bj a d).map (dP a b)=((bj a d).map (fE a b)).map kN:=by rw[kc];rfl
 have J:((bj a d).map (fE a b)).length<=100:=by rw[cc];omega
 have hbl:=fi T J;have o:=eh 1271 ((bj a d).map (dP a b)) fun y hy=>by
  obtain⟨x,hx,rfl⟩:=ih.mp hy;exact fg (hM.nV P x hx)
 rw[cc] at o;have h16:(bj a d).length*1272<=16*1272:=zS _ hML;have hbig:(1000000:Nat)<=sizeLine:=by decide
 have aA:Str.join ⟨#[10]⟩ ((bj a d).map (dP a b))=fk ((bj a d).map (fE a b)):=by rw[emm];rfl
 refine⟨rfl,_,r,(bj a d).map (dP a b),rfl,rfl,ax.of l,?_,?_,?_⟩
 ·rw[en];show (((bj a d).map (dP a b)).map fun z=>z.length+1).sum<=_
  omega
 ·rw[en,aA];omega
 rw[en,aA];exact q H2 s2
theorem jr:DS (ak dm) ["a","b","rest"] ["a","b"] []:=aO (by decide +kernel)
theorem Ro (D:Def K mg "greatest_divisor" dm):Fn P w K mg base 1 "greatest_divisor" ["a","b"] Lq:=by
 refine D.gq jr (fun _ _ _ _ _ _ t r=>by obtain⟨_,_,rfl⟩:=eA r;rfl) (fun i H Q E h=>?_) ?_
 ·obtain⟨m,n,rfl,_⟩:=h;rfl
 intro X S f e2 p g o hc l e s hu H i Q E h;subst f e2 p g o;obtain⟨m,n,rfl,q⟩:=h;refine⟨_,(af (yi e (aS lR (kv S 1) aq (au _)) (af (bw S 2 (aR cV (kv S 0) (kv S 1)))
   (af (bw S 0 (kv S 1))
   (aj (bw S 1 (kv S 2))))))
   (aj (aK (kv S 0)))),?_⟩
 walk_at "d";refine Jk (PZ H (Nat.gcd m n) [none]) SJ ⟨rfl,m,n,_,rfl,rfl,rfl⟩ ?_;rintro σ u ⟨j,b,a,y,rfl,hy,d⟩;obtain⟨z,rfl⟩:=Sh hy;rw[j];walk_at "d";refine bU (fun c=>?_) (fun c=>?_)
 ·have hn:a≠0:=by simpa using c
  refine Jl (Pv:=PZ H (Nat.gcd m n) [none]) (μ:=SJ) ?_;walk_at "d";rw[Si];refine⟨by omega,⟨rfl,a,b % a,_,rfl,rfl,by rw[EZ];exact d⟩,?_⟩
  show ((b % a:Nat):Int).toNat<((a:Nat):Int).toNat
  have:=mod_lt b (show a > 0 by omega)
  omega
 ·have hn:a=0:=by simpa using c
  subst hn;rw[Nat.gcd_zero_right] at d;subst d;exact q
theorem HA:DS (ak tN) ["counts","over","under","count","divisor"] ["counts"] ["greatest_divisor"]:=aO (by decide +kernel)
theorem HB (D:Def K mg "share" tN)(jV:Fn P w K mg base 1 "greatest_divisor" ["a","b"] Lq):Fn P w K mg base 2 "share" ["counts"] (sH K):=by
 refine D.gq HA (fun _ _ _ _ _ _ v c=>by obtain⟨_,rfl⟩:=fR c;rfl) (fun m H Q E h=>?_) ?_
 ·obtain⟨p,b,rfl,_⟩:=h;rfl
 intro X S j e2 u l r hc o e n hu H m Q E h;subst j e2 u l r;obtain⟨p,b,rfl,g,a,q⟩:=h;refine⟨_,(af (bw S 1 aq)
   (af (bw S 2 aq)
   (af (dO e hc (du (kv S 0) rfl) (kg S 3) (af (bw S 1 (aR aV (aR eD (kv S 1) (kv S 3)) (kv S 2)))
   (aj (bw S 2 (aR eD (kv S 2) (kv S 3))))))
   (af (bw S 4 (cE S 0 jV n (aa (kv S 1) (aa (kv S 2) ae))))
   (aj (aK (qF (aa (aR cS (kv S 1) (kv S 4)) (aa (aR cS (kv S 2) (kv S 4)) ae))))))))),?_⟩
 walk_at "d";refine Js (Sj H p b) g ⟨rfl,none,rfl⟩ (fun i σ f h=>by rw[h.1];exact g) ?_ ?_
 ·rintro i σ f hi ⟨d,y,rfl⟩;rw[d];walk_at "d";have hb:=(a.get hi).bt;refine⟨(a.take i).P1.ok hb (by omega),(a.take i).B4.ok hb (by omega),rfl,some (.int (b.getD i 0)),?_⟩
  rw[take_snoc 0 hi,B2 (a.get hi).lo,sC]
 ·rintro σ f ⟨d,y,rfl⟩;rw[d,L3];walk_at "d";refine⟨(bP (pr b) b).toNat,(pr b).toNat,by rw[toN a.P0,toN (show 0<=pr b by have:=a.jt;omega)],?_⟩
  walk_at "d";have x:=ym a;have c:(0:Int)<(gC b:Int)/\((gC b:Int)).natAbs.log2<9000:=⟨by omega,(P4 a).log (by omega) (by decide)⟩
  exact⟨c,c,by decide,fun t s=>q t _ (ah.new s _) ag⟩
theorem Ku:DS (ak zo) ["counts","told"] ["counts"] ["share"]:=aO (by decide +kernel)
theorem Kv (D:Def K mg "sure" zo)(uk:Fn P w K mg base 2 "share" ["counts"] (sH K)):Fn P w K mg base 3 "sure" ["counts"] (yo K):=by
 refine D.gq Ku (fun _ _ _ _ _ _ v u=>by obtain⟨_,rfl⟩:=fR u;rfl) (fun f H Q E h=>?_) ?_
 ·obtain⟨p,b,rfl,_⟩:=h;rfl
 intro X S d e2 s e r hc m o g hu H f Q E h;subst d e2 s e r;obtain⟨p,b,rfl,n,a,q⟩:=h;refine⟨_,(af (bw S 1 (cE S 0 uk g (aa (kv S 0) ae)))
   (aj (aK (aR cS (aU (aI rfl) (kv S 1) aq (fun _ _=>rfl)) (aU (aI rfl) (kv S 1) aq (fun _ _=>rfl)))))),?_⟩
 walk_at "d";refine⟨p,b,rfl,n,a,fun t j l c=>?_⟩;walk_at "d";refine bh (aH.of c) (i:=0) rfl ?_;refine bh (aH.of c) (i:=1) rfl ?_;walk_at "d";refine⟨⟨by have:=nC a;omega,(Fh a).log (by have:=nC a;omega) (by decide)⟩,?_⟩
 rw[Nr a];exact q j l
theorem CV:DS (ak ou) ["values","people"] ["values","people"] ["tuple"]:=aO (by decide +kernel)
theorem CW (B:Bn mg)(D:Def K mg "picked" ou):Fn P w K mg base 1 "picked" ["values","people"] (nM K):=by
 refine D.gq CV (fun _ _ _ _ _ _ T y=>by obtain⟨_,_,rfl⟩:=eA y;rfl) (fun F H Q E h=>?_) ?_
 ·obtain⟨c,p,b,l,rfl,_⟩:=h;rfl
 intro X S z e2 v o O hc m u hr hu H F Q E h;subst z e2 v o O;obtain⟨c,p,b,l,rfl,j,L,g,U,q⟩:=h;refine⟨_,(aj (aK (jk S 0 (dU rfl) B.tuple Tu (aa (ij S hc m (du (kv S 1) rfl) (N:=["i","values"]) (W:=["i"]) (G:=[]) (fv:=[none,some 0]) (by decide +kernel) (fun R C Z s H n=>⟨(kg n 0),bg,(aU (aI rfl) (kv n 1) (kv n 0) (fun _ _=>rfl))⟩)) ae)))),?_⟩
 walk_at "d";refine PY (fun _=>true) (fun k=>b.getD (l.getD k 0) 0) L (by rw[ao];exact aB (by omega)) ?_ ?_
 ·intro k H1 A Y hk r I _;rw[ao] at hk;rw[aM];walk_at "d";exact dF (r.aL j) rfl (g _ (dX hk)) (I rfl _ (ah.refl _))
 ·intro f H1 x d a;rw[bG,ao] at a;have e:((List.range l.length).map fun k=>b.getD (l.getD k 0) 0)=pk b l:=by
   unfold pk
   apply ext_getElem
   ·simp
   ·intro i h1 J
    simp at h1 J
    simp[h1]
  rw[e] at a;exact⟨f,_,rfl,.inl ⟨ax.of a,fun t M=>q t _ (d.trans (ah.new M _)) ag⟩⟩
theorem pD:DS (ak gY) ["counts","kind","people"] ["counts","kind","people"] ["sure","picked"]:=aO (by decide +kernel)
theorem HC (D:Def K mg "group_sure" gY)(kJ:Fn P w K mg base 1 "picked" ["values","people"] (nM K))(zK:Fn P w K mg base 3 "sure" ["counts"] (yo K)):Fn P w K mg base 4 "group_sure" ["counts","kind","people"] (AQ K):=by
 refine D.gq pD (fun _ _ _ _ _ _ C s=>by obtain⟨_,_,_,rfl⟩:=jJ s;rfl) (fun x H Q E h=>?_) ?_
 ·obtain⟨c,p,j,g,rfl,_⟩:=h;rfl
 intro X S v e2 r m o hc y n i hu H x Q E h;subst v e2 r m o;obtain⟨c,p,j,g,rfl,d,z,f,a,q⟩:=h;refine⟨_,(af (cN (aS aX (kv S 1) bc (au _)) (aj (aK aq)) ay)
   (aj (aK (cE S 0 zK i (aa (cE S 1 kJ i (aa (kv S 0) (aa (kv S 2) ae))) ae))))),?_⟩
 walk_at "d";obtain⟨b,l⟩:=g;have e:decide (kd b="ring")=b:=sR b;simp only[qC,ve,e];unfold vA at q
 cases b with
 | true=>
  walk_at "d";exact q _ (ah.refl _)
 | false=>
  walk_at "d";refine⟨c,p,j,l,rfl,d,z,a.lt,a.len,fun t H1 u B=>?_⟩;exact⟨t,_,rfl,aH.of B,FF f a,fun F A=>q _ (u.trans A)⟩
theorem tW:DS (ak iS) ["counts","groups"] ["counts","groups"] ["sum"]:=aO (by decide +kernel)
theorem Kw (B:Bn mg)(D:Def K mg "made_sure" iS)(um:Fn P w K mg base 4 "group_sure" ["counts","kind","people"] (AQ K)):Fn P w K mg base 5 "made_sure" ["counts","groups"] (yC K):=by
 refine D.gq tW (fun _ _ _ _ _ _ o J=>by obtain⟨_,_,rfl⟩:=eA J;rfl) (fun O H Q E h=>?_) ?_
 ·obtain⟨c,g,f,o,L,rfl,_⟩:=h;rfl
 intro X S M e2 F t e5 hc j z R hu H O Q E h;subst M e2 F t e5;obtain⟨c,g,f,o,L,rfl,e,x,u,l,br,r,q⟩:=h;refine⟨_,(aj (aK (c7 S 0 (c8 hc rfl) B.sum boot_sum (aa (ij S hc j (du (kv S 1) rfl) (N:=["kind","people","counts"]) (W:=["kind","people"]) (G:=["group_sure"]) (fv:=[none,none,some 0]) (by decide +kernel) (fun cl C fp s H a=>⟨(jl rfl (K:=X.K) (n:=2) rfl (aJ (kg a 0) (aJ (kg a 1) cA))),bg,(cE a 0 um R (aa (kv a 2) (aa (kv a 0) (aa (kv a 1) ae))))⟩)) ae)))),?_⟩
 walk_at "d";refine S7 (vA f) x u (aB (by omega)) ?_ ?_
 ·intro i m p H1 A hi v Y T;walk_at "d";exact⟨c,p,f,m,rfl,v.aL e,Y,l,br m (h5 hi),fun U Z=>T U Z⟩
 ·intro y H1 I d b;exact k7 (ax.of b) (q H1 d)
theorem oy:DS (ak fT) ["web","laid","i","mask"] ["web","laid"] ["enumerate"]:=aO (by decide +kernel)
theorem oz (B:Bn mg)(D:Def K mg "first_ready" fT):Fn P w K mg base 1 "first_ready" ["web","laid"] (NB K):=by
 refine D.gq oy (fun _ _ _ _ _ _ C u=>by obtain⟨_,_,rfl⟩:=eA u;rfl) (fun z H Q E h=>?_) ?_
 ·obtain⟨w,ws,laid,rfl,_⟩:=h;rfl
 intro X S y e2 t p s hc A l G hu H z Q E h;subst y e2 t p s;obtain⟨w,ws,laid,rfl,m,v,q⟩:=h;refine⟨_,(af (dO l hc (Fo S 0 B.enumerate rfl (aa (kv S 0) ae)) (jl hc (K:=X.K) (n:=2) rfl (aJ (kg S 2) (aJ (kg S 3) cA))) (aj (cN (Ic (Nl (aS aX (aR dR (aR xJ (kv S 1) (kv S 2)) aq) aq (au _)) (EX (aS aX (aR Ae (kv S 3) (kv S 1)) (kv S 1) (au _))))) (aj (aK (kv S 2))) ay)))
   (aj (aK my))),?_⟩
 walk_at "d";refine P8 (Lv H w ws laid) m ⟨ah.refl _,(fun j hj=>absurd hj (I1 j)),none,none,rfl⟩ (fun k σ F h=>h.1.aL m) ?_ ?_
 ·rintro k σ H1 o hk ⟨d,a,x,r,rfl⟩ c;rw[ao] at hk;rw[aM];walk_at "d";refine⟨by omega,?_⟩
  have e:=k9 (ws:=ws) (laid:=laid) (i:=k);have next:ready ws laid k=false->Lv H w ws laid (k+1) [some (.ref w),some (.int laid),some (.int k),some (.int (ws.getD k 0:Nat))] o:=fun hz=>by
   refine⟨d.trans c,fun j hj=>?_,_,_,rfl⟩
   by_cases g:j=k
   ·rw[g];exact hz
   ·exact a j (by omega)
  by_cases b:laid.testBit k=true
  ·rw[b];walk_at "d";exact next (by unfold ready;rw[b];rfl)
  ·have b:laid.testBit k=false:=by simpa using b
   rw[b];walk_at "d"
   by_cases f:ws.getD k 0||| laid=laid
   ·rw[if_pos f];refine(q o (d.trans c)).2 k (find_some a ?_ hk);unfold ready;rw[b,dt f];rfl
   ·rw[if_neg f];refine next ?_;unfold ready;rw[b,ed f];rfl
 ·rintro σ H1 ⟨d,a,x,r,rfl⟩;walk_at "d";rw[ao] at a;exact(q H1 d).1 (find_none a)
theorem wJ:DS (ak jM) ["web","order","laid","i"] ["web"] ["first_ready"]:=aO (by decide +kernel)
theorem wK (D:Def K mg "laid_out" jM)(jy:Fn P w K mg base 1 "first_ready" ["web","laid"] (NB K)):Fn P w K mg base 2 "laid_out" ["web"] (NC K):=by
 refine D.gq wJ (fun _ _ _ _ _ _ O n=>by obtain⟨_,rfl⟩:=fR n;rfl) (fun M H Q E h=>?_) ?_
 ·obtain⟨w,b,rfl,_⟩:=h;rfl
 intro X S L e2 J B I hc N s z hu H M Q E h;subst L e2 J B I;obtain⟨w,b,rfl,C,t,q⟩:=h;refine⟨_,(af (bw S 1 (dW ae))
   (af (bw S 2 aq)
   (af (bw S 3 (cE S 0 jy z (aa (kv S 0) (aa (kv S 2) ae))))
   (af (yi s (aS vk (kv S 3) my (au _)) (af (df (h7 qN ls nc bA rfl (kv S 1) (aa (kv S 3) ae)))
   (af (bw S 2 (aR Ae (kv S 2) (aR cK aq (kv S 3))))
   (aj (bw S 3 (cE S 0 jy z (aa (kv S 0) (aa (kv S 2) ae))))))))
   (aj (aK (kv S 1))))))),?_⟩
 walk_at "d";refine⟨by decide,fun l n=>?_⟩
 have v:=ah.new n (.lst []);have x:∀ (laid:Nat) (H1:Hp) (R:V->Hp->Prop),ah H H1->(∀ d,ah H1 d->R (Lw b laid) d)->NB X.K [.ref w,.int laid] H1 R E0:=fun laid H1 R G A=>by
  refine⟨w,b,laid,rfl,G.aL C,t,fun d a=>⟨fun e=>?_,fun i e=>?_⟩⟩
  ·have:=A d a
   unfold Lw at this;rw[e] at this;exact this
  ·have:=A d a
   unfold Lw at this;rw[e] at this;exact this
 refine x 0 _ _ v fun H1 j=>?_;walk_at "d";refine AJ (Qd H w l b) (b.length+1) ⟨[],0,rfl,v.trans j,j _ _ ag,Laid.nil b,rfl,by simp⟩ ?_
 rintro f σ d ⟨order,laid,rfl,a,g,r,c,p⟩;have y:=cG r.nd r.lt
 cases e:bQ b laid with
 | none=>
  have u:Lw b laid=.bE:=by unfold Lw;rw[e]
  rw[u];walk_at "d";refine q l d a n ?_;rw[<-c,vi e];exact g
 | some i=>
  have u:Lw b laid=.int i:=by unfold Lw;rw[e]
  obtain⟨hi,_⟩:=ib e;rw[u];walk_at "d";refine AL ?_;walk_at "d";refine⟨.inl ⟨rfl,_,ax.of g⟩,?_⟩;refine⟨l,_,.int i,rfl,rfl,g,by rw[cc,ao];exact aB (by omega),?_⟩
  walk_at "d";refine⟨dG (by omega),?_⟩
  have o:=a.set n (.lst ((az order).map V.int++[.int i]));refine x _ _ _ o fun T m=>?_;walk_at "d"
  match f,c,p with
  | 0,_,p=>exact absurd p (by omega)
  | f+1,c,p=>
   refine⟨f,T3 f,order++[i],_,rfl,o.trans m,?_,r.put e,?_,?_⟩
   ·rw[m _ _ ag,dZ,hO];rfl
   ·rw[<-c,vh e]
   ·rw[eG];show b.length<f+(order.length+1);omega
theorem pE:DS (ak gW) ["web","i","people"] ["web","i","people"] []:=aO (by decide +kernel)
theorem pF (B:Bn mg)(D:Def K mg "first_seen" gW)(zJ:Fn P w K mg base 1 "sees" ["web","i","j"] (yu K)):Fn P w K mg base 2 "first_seen" ["web","i","people"] (Qf K):=by
 refine D.gq pE (fun _ _ _ _ _ _ T n=>by obtain⟨_,_,_,rfl⟩:=jJ n;rfl) (fun I H Q E h=>?_) ?_
 ·obtain⟨w,l,d,left,i,rfl,_⟩:=h;rfl
 intro X S F e2 z t y hc o x J hu H I Q E h;subst F e2 z t y;obtain⟨w,l,d,left,i,rfl,u,n,hi,U,⟨j0,p,m⟩,q⟩:=h;refine⟨_,(aj (aK (aU (ai rfl) (ij S hc o (cB (kv S 2) rfl) (N:=["j","web","i"]) (W:=["j"]) (G:=["sees"]) (fv:=[none,some 0,some 1]) (by decide +kernel) (fun R C Z s H f=>⟨(kg f 0),(eV (ph (cE f 0 zJ J (aa (kv f 1) (aa (kv f 2) (aa (kv f 0) ae)))))),(kv f 0)⟩)) aq (fun _ _=>rfl)))),?_⟩
 walk_at "d";refine RO (fun k=>dc d i (left.getD k 0)) (fun k=>((left.getD k 0:Nat):Int)) n (by rw[ao];exact aB (by omega)) ?_ ?_
 ·intro k H1 A Y hk j L O;rw[ao] at hk;rw[aM];walk_at "d";refine⟨w,d,i,left.getD k 0,rfl,j.aL u,hi,?_⟩;walk_at "d"
  by_cases c:dc d i (left.getD k 0)=true
  ·rw[c];walk_at "d";exact L c _ (ah.refl _)
  ·have c:dc d i (left.getD k 0)=false:=by simpa using c
   rw[c];walk_at "d";exact O c _ (ah.refl _)
 ·intro v H1 hn j g;have b:0<((List.range (az left).length).filter fun k=>dc d i (left.getD k 0)).length:=by
   obtain⟨k,hk,e⟩:=BC p;refine length_pos_of_mem (a:=k) (pS.mpr ⟨gc.mpr (by rw[ao];exact hk),?_⟩)
   rw[b4,b5 hk,e];exact m
  refine cu (k:=0) (ax.of g) rfl (by rw[cc];exact b) ?_
  have hm:((List.range (az left).length).filter fun k=>dc d i (left.getD k 0))[0]∈(List.range (az left).length).filter fun k=>dc d i (left.getD k 0):=p0 b;obtain⟨h1,M⟩:=pS.mp hm;rw[b4,ek,b5 b];refine q H1 _ j ?_ M;have r:=Nat.lt_of_lt_of_eq (gc.mp h1) (ao left);rw[b4,b5 r];exact p0 r
theorem pG:DS (ak gX) ["web","order","left","path","i"] ["web"] ["laid_out","range","len","first_seen","tuple"]:=aO (by decide +kernel)
theorem oA (B:Bn mg)(D:Def K mg "sight_ring" gX)(jW:Fn P w K mg base 2 "laid_out" ["web"] (NC K))(uo:Fn P w K mg base 2 "first_seen" ["web","i","people"] (Qf K)):Fn P w K mg base 3 "sight_ring" ["web"] (GZ K):=by
 refine D.gq pG (fun _ _ _ _ _ _ us hl=>by obtain⟨_,rfl⟩:=fR hl;rfl) (fun vs H Q E h=>?_) ?_
 ·obtain⟨w,d,rfl,_⟩:=h;rfl
 intro X S e1 e2 e3 e4 e5 hc x hxe hr hu H vs Q E h;subst e1 e2 e3 e4 e5;obtain⟨w,d,rfl,hw,hl8,br,q⟩:=h;have hL8:=Fy d;refine⟨_,(af (bw S 1 (cE S 0 jW hr (aa (kv S 0) ae)))
   (af (EY (i:=2) S hc x (ig S 1 B.range (aa (c7 S 2 (aE rfl) B.len qE (aa (kv S 0) ae)) ae)) (N:=["i","order"]) (W:=["i"]) (G:=[]) (fv:=[none,some 1]) (by decide +kernel) (fun cl C fp s H S2=>⟨(kg S2 0),(eV (aS (dS rfl) (kv S2 0) (kv S2 1) (by with_unfolding_all rfl))),(kv S2 0)⟩) (by rw[x];decide +kernel) (by rw[dD,x];rfl))
   (af (cN (aS (su hu rfl) (kv S 2) (dW ae) (au _)) (aj (aK my)) ay)
   (af (bw S 3 (dW ae))
   (af (bw S 4 (aU (ai rfl) (kv S 2) aq (fun _ _=>rfl)))
   (af (yi hxe (aS (dS rfl) (kv S 4) (kv S 3) (by with_unfolding_all rfl)) (af (df (h7 qN ls nc bA rfl (kv S 3) (aa (kv S 4) ae)))
   (aj (bw S 4 (cE S 3 uo hr (aa (kv S 0) (aa (kv S 4) (aa (kv S 2) ae))))))))
   (aj (aK (jk S 4 (gL rfl) B.tuple Tu (aa (mM (cq rfl) (kv S 3) (bD (h7 qN slot_list_index type_list_index (B5 rfl) rfl (kv S 3) (aa (kv S 4) ae))) bC) ae)))))))))),?_⟩
 walk_at "d";refine⟨w,d,rfl,hw,hl8,fun l H1 aA _ hl=>?_⟩;walk_at "d";refine aZ (.inr (aA.aL hw)) ?_;rw[cc,ao];refine OK d.length (fun i=>!decide (i∈laidOut d)) (fun i=>(i:Int)) rfl (by omega) ?_ ?_
 ·intro k H2 A B' hk hS hA hB;walk_at "d";refine AI (.inl (ax.of (hS _ _ hl))) ?_;walk_at "d"
  by_cases c:k∈laidOut d
  ·rw[dt c];walk_at "d";exact hB (by rw[dt c];rfl) _ (ah.refl _)
  ·rw[ed c];walk_at "d";exact hA (by rw[ed c];rfl) _ (ah.refl _)
 intro R H2 hn2 hS2 n;have n:H2 R=some (.lst ((az (cW d)).map V.int)):=n;have u:=aA.trans hS2;walk_at "d";refine⟨by decide,fun e he=>?_⟩
 have se:=ah.new he (.lst []);refine⟨_,_,.lst (ax.of (se _ _ n)) (eZ.ints _),.lst (ax.of ag) .nil,kl _,by decide,?_⟩
 rw[show ([]:List PyData)=([]:List Int).map PyData.int from rfl,Fj]
 walk_at "d";refine bU (fun c=>?_) (fun c=>?_)
 ·have:cW d=[]:=JB.mp c
  exact(q _ (u.trans se)).1 (vp.mp this)
 ·have O:cW d≠[]:=fun z=>c (by rw[z];rfl)
  have hlt:(laidOut d).length<d.length:=r4 fun z=>O (vp.mpr z);refine⟨by decide,fun M I=>?_⟩
  have sp:=se.trans (ah.new I (.lst []));have r:0<(cW d).length:=F2.mpr O;refine cu (k:=0) (ax.of (sp _ _ n)) rfl (by rw[ao];exact r) ?_
  rw[aM];have h0:(cW d).getD 0 0∈cW d:=by
   rw[b4,b5 r];exact p0 r
  walk_at "d";have hpa0:H M=none:=(u.trans se).free I;have v:∀ j∈cW d,j<d.length:=fun j hj=>(iF.mp hj).1;refine AJ (Qg X.K H w l R M d) _ ⟨[],_,rfl,u.trans sp,ax.of (sp _ _ n),ag,Path.nil h0,rfl⟩ ?_;rintro m σ H3 ⟨a,i,rfl,Y,U,f,L,rfl⟩;have hplen:=cG L.nd fun j hj=>v j (L.sub j hj);walk_at "d";refine AI (.inl (ax.of f)) ?_;walk_at "d"
  by_cases Z:i∈a
  ·rw[dt Z];walk_at "d";refine⟨.inl ⟨rfl,_,ax.of f⟩,M,az a,i,rfl,rfl,ax.of f,mO.mpr Z,?_⟩;walk_at "d";refine Jt (a.idxOf i) (ax.of f) (by rw[AH]) fun b hb=>?_
   rw[vn];have sb:=ah.new hb (.lst ((az (a.drop (a.idxOf i))).map V.int));refine⟨b,_,rfl,ax.of ag,fun t o ht hoc hod=>?_⟩;exact(q _ ((Y.trans sb).trans (ah.new ht _))).2 hlt t _ o ag hoc hod (L.ring br v Z)
  ·rw[ed Z];walk_at "d";refine AL ?_;have hi:=v i L.here;obtain⟨j,hj1,hj2,hj3⟩:=qJ br hi (iF.mp L.here).2;walk_at "d";refine⟨.inl ⟨rfl,_,ax.of f⟩,?_⟩;refine⟨M,_,.int i,rfl,rfl,f,by rw[cc,ao];exact aB (by omega),?_⟩
   have T:=Y.set hpa0 (.lst ((az a).map V.int++[.int i]));have p:ax X.K (upd H3 M (.lst ((az a).map V.int++[.int i]))) R ((az (cW d)).map V.int):=by
    have ab:R≠M:=bp (se _ _ n) I
    rcases U with (z | ⟨o,z⟩) | z
    ·exact .inl (.inl (by rw[aG ab];exact z))
    ·exact .inl (.inr ⟨o,by rw[aG ab];exact z⟩)
    ·exact .inr z
   refine⟨w,R,d,cW d,i,rfl,T.aL hw,p,hi,by omega,⟨j,iF.mpr ⟨hj1,hj3⟩,hj2⟩,fun H5 k J hk hks=>?_⟩
   walk_at "d";have y:=L.put Z hk hks;have g:=cG y.nd fun j hj=>v j (y.sub j hj);rw[eG] at g;refine⟨d.length - (a++[i]).length,?_,a++[i],k,rfl,T.trans J,J.seq p,?_,y,rfl⟩
   ·rw[eG];simp at g ⊢;omega
   ·rw[J _ _ ag,dZ,hO];rfl
theorem oB:DS (ak fU) ["web","order"] ["web"] ["laid_out","len","tuple"]:=aO (by decide +kernel)
theorem oC (B:Bn mg)(D:Def K mg "sight_order" fU)(jW:Fn P w K mg base 2 "laid_out" ["web"] (NC K)):Fn P w K mg base 3 "sight_order" ["web"] (Qe K):=by
 refine D.gq oB (fun _ _ _ _ _ _ u b=>by obtain⟨_,rfl⟩:=fR b;rfl) (fun j H Q E h=>?_) ?_
 ·obtain⟨w,e,rfl,_⟩:=h;rfl
 intro X S g e2 t i s hc n r m hu H j Q E h;subst g e2 t i s;obtain⟨w,e,rfl,f,d,q⟩:=h;refine⟨_,(af (bw S 1 (cE S 0 jW m (aa (kv S 0) ae)))
   (af (cN (aS fG (c7 S 1 (aE rfl) B.len qE (aa (kv S 1) ae)) (c7 S 1 (aE rfl) B.len qE (aa (kv S 0) ae)) (au _)) (aj (aK my)) ay)
   (aj (aK (jk S 2 (dU rfl) B.tuple Tu (aa (kv S 1) ae)))))),?_⟩
 walk_at "d";refine⟨w,e,rfl,f,d,fun l H1 a _ b=>?_⟩;walk_at "d";refine aZ (.inl (ax.of b)) ?_;refine aZ (.inr (a.aL f)) ?_;rw[cc,cc,ao,ao];walk_at "d";refine bU (fun c=>?_) (fun c=>?_)
 ·exact(q H1 a).1 (by omega)
 ·exact⟨l,_,rfl,.inl ⟨ax.of b,fun p o=>(q _ (a.trans (ah.new o _))).2 (by omega) p ag⟩⟩
theorem oE:DS (ak fX) ["web","people"] ["web","people"] ["tuple","enumerate"]:=aO (by decide +kernel)
theorem CY (B:Bn mg)(D:Def K mg "sights_from" fX):Fn P w K mg base 1 "sights_from" ["web","people"] (Q2 K):=by
 refine D.gq oE (fun _ _ _ _ _ _ T y=>by obtain⟨_,_,rfl⟩:=eA y;rfl) (fun J H Q E h=>?_) ?_
 ·obtain⟨w,p,d,l,rfl,_⟩:=h;rfl
 intro X S I e2 x o O hc m v hr hu H J Q E h;subst I e2 x o O;obtain⟨w,p,d,l,rfl,r,L,U,F,q⟩:=h;refine⟨_,(aj (aK (jk S 0 (dU rfl) B.tuple Tu (aa (ij S hc m (Fo S 1 B.enumerate rfl (aa (kv S 0) ae)) (N:=["i","mask","people"]) (W:=["i","mask"]) (G:=[]) (fv:=[none,none,some 1]) (by decide +kernel) (fun R C Z s H g=>⟨(jl rfl (K:=X.K) (n:=2) rfl (aJ (kg g 0) (aJ (kg g 1) cA))),bg,(Se (aS (EK rfl) (kv g 0) (kv g 2) (by with_unfolding_all rfl)) (kv g 1) aq)⟩)) ae)))),?_⟩
 walk_at "d";refine Qq (fun _=>true) (fun i=>(((jI d l).getD i 0:Nat):Int)) r (by rw[ao];exact aB (by omega)) ?_ ?_
 ·intro i H1 A Y hi u f _;rw[ao] at hi;rw[aM];have e:=nZ (l:=l) hi;walk_at "d";refine AI (a:=l) (.inl (u.seq L)) ?_
  by_cases c:i∈l
  ·rw[if_pos c] at e;rw[dt c];walk_at "d";rw[<-e];exact f rfl _ (ah.refl _)
  ·rw[if_neg c] at e;rw[ed c];walk_at "d"
   have:=f rfl _ (ah.refl _)
   rw[e] at this;exact this
 ·intro j H1 h0 z b;rw[bG,ao] at b;have e:((List.range d.length).map fun i=>(((jI d l).getD i 0:Nat):Int))=az (jI d l):=by
   unfold az;rw[<-fo d l]
   conv=>rhs;rw[<-md (jI d l),kc]
   rfl
  rw[e] at b;exact⟨j,_,rfl,.inl ⟨ax.of b,fun t M=>q t _ (z.trans (ah.new M _)) (aH.of ag)⟩⟩
theorem Rp {n:Nat}(h:n<=8):2 ^ n<=256:=h9 (q5 (by decide) h) (by decide)
theorem HD {cs:List Int}{ws r:List Nat}{m:Nat}(hn:ws.length=cs.length)(h:Ring (jI ws (zb cs (aC m))) r):GG cs ws m (true,r):=by
 have a:∀ x∈r,x<ws.length:=fun x hx=>by have:=h.lt x hx;rwa [fo] at this
 have sees:∀ k,k<r.length->dc (jI ws (zb cs (aC m))) (r.getD k 0) (r.getD ((k+1) % r.length) 0)=true:=fun k hk=>by
  by_cases c:k+1=r.length
  ·rw[c,mod_self]
   have:=h.last
   rw[show r.length - 1=k by omega] at this
   exact this
  ·rw[T8 (by omega)]
   exact h.next k (by omega)
 have two:∀ x∈r,x∈zb cs (aC m):=fun x hx=>by
  obtain⟨k,hk,e⟩:=BC hx
  have:=sees k hk
  rw[b4,b5 hk] at this;rw[show (some r[k]).getD 0=r[k] from rfl,e,mW (a x hx),gz,mo] at this
  exact this.1
 have b:=h.two;refine⟨⟨fun x hx=>by rw[<-hn];exact a x hx,h.nd,fun _=>⟨h.two,fun x hx=>?_,fun k hk=>?_⟩,(fun e=>nomatch e)⟩,fun z=>?_,(fun e=>nomatch e),fun x hx=>?_⟩
 ·have:=(pS.mp (two x hx)).2
  exact u5 this
 ·have:=sees k hk
  rw[mW (a _ (fN hk)),gz] at this;exact this.2
 ·have z:r=[]:=z;rw[z] at b;simp at b
 ·exact bz.mp (pS.mp (two x hx)).1
theorem pH:DS (ak gZ) ["counts","web","crowd","people","twos","ring"] ["counts","web","crowd"] ["tuple","places","is_circle","sight_ring","sights_from"]:=aO (by decide +kernel)
theorem pI (B:Bn mg)(D:Def K mg "lone_group" gZ)(i6:Fn P w K mg base 1 "places" ["mask"] ko)(i7:Fn P w K mg base 1 "is_circle" ["web","people"] (ND K))(hV:Fn P w K mg base 3 "sight_ring" ["web"] (GZ K))(pT:Fn P w K mg base 1 "sights_from" ["web","people"] (Q2 K)):Fn P w K mg base 4 "lone_group" ["counts","web","crowd"] (Q3 K):=by
 refine D.gq pH (fun _ _ _ _ _ _ us hl=>by obtain⟨_,_,_,rfl⟩:=jJ hl;rfl) (fun vs H Q E h=>?_) ?_
 ·obtain⟨c,w,n,R,m,rfl,_⟩:=h;rfl
 intro X S e1 e2 e3 e4 e5 hc v hxe Z hu H vs Q E h;subst e1 e2 e3 e4 e5;obtain⟨c,w,n,R,m,rfl,hcq,M,y,hn,br,hm0,hm,q⟩:=h;have h8:=y.len;have hmb:m<256:=j5 hm (Rp h8);have d:∀ x∈aC m,x<n.length:=fun x hx=>bO hm (bz.mp hx);have hl8:(aC m).length<=8:=h9 (cG (cO m) d) h8;refine⟨_,(af (bw S 3 (jk S 0 (gL rfl) B.tuple Tu (aa (cE S 1 i6 Z (aa (kv S 2) ae)) ae)))
   (af (cN (ph (cE S 2 i7 Z (aa (kv S 1) (aa (kv S 3) ae)))) (aj (aK (qF (aa (qF (aa bc (aa (kv S 3) ae))) ae)))) ay)
   (af (EY (i:=4) S hc v (du (kv S 3) rfl) (N:=["i","counts"]) (W:=["i"]) (G:=[]) (fv:=[none,some 0]) (by decide +kernel) (fun cl C fp s H Y=>⟨(kg Y 0),(eV (aS aX (aU (aI rfl) (kv Y 1) (kv Y 0) (fun _ _=>rfl)) aq (au _))),(kv Y 0)⟩) (by rw[v];decide +kernel) (by rw[dD,v];rfl))
   (af (bw S 5 (cE S 3 hV Z (aa (cE S 4 pT Z (aa (kv S 1) (aa (kv S 4) ae))) ae)))
   (af (cN (aS mN (kv S 5) my (au _)) (aj (aK (qF ae))) ay)
   (aj (aK (qF (aa (qF (aa bc (aa (kv S 5) ae))) ae))))))))),?_⟩
 walk_at "d";refine⟨m,rfl,by omega,fun l H1 s1 _ hl=>?_⟩
 refine⟨l,_,rfl,ax.of hl,fun p o hp hoc hod=>?_⟩;have s2:=s1.trans (ah.new hp (.jE o (.tup ((az (aC m)).map V.int))));have f:upd H1 p (.jE o (.tup ((az (aC m)).map V.int))) p=some (.jE o (.tup ((az (aC m)).map V.int))):=ag;generalize upd H1 p (.jE o (.tup ((az (aC m)).map V.int)))=H2 at s2 f ⊢;walk_at "d";refine⟨w,p,R,aC m,rfl,s2.aL M,aH.jE f,by omega,cO m,fun i hi=>by rw[hn];exact d i hi,fun H3 s3=>?_⟩
 have F:=s3 _ _ f;have u:=s2.trans s3;have ab:aC m≠[]:=fun z=>by
  have:=CA m
  rw[z] at this
  have:0=m:=this
  omega
 cases cb:bN R (aC m) with
 | true=>
  walk_at "d";refine⟨by decide,fun z1 h1=>⟨by decide,fun z2 h2=>?_⟩⟩
  have L:=ah.new h1 (.tup [.str "circle",.ref p]);have J:=ah.new h2 (.tup [.ref z1]);have a:=L.trans J;refine q z2 [.ref z1] [(false,aC m)] _ (u.trans a) (aH.of ag) ⟨⟨z1,p,rfl,J.aL (aH.of ag),aH.jE (a _ _ F),.inr ⟨_,_,a _ _ F,hoc,hod⟩⟩,trivial⟩ ?_;have e:(([(false,aC m)]:List (Bool × List Nat)).map (e9 n)).sum=gR n (aC m):=by
   show e9 n (false,aC m)+0=_;rw[nY,Int.add_zero]
  rw[e];refine⟨⟨fun g hg=>?_,List.pairwise_singleton _ _,e,fQ y.pos d⟩,dy _,⟨fun _=>rfl,(fun z=>by rw[cb] at z;cases z),fQ y.pos d⟩⟩
  rw[fz.mp hg];exact⟨⟨d,cO m,(fun e=>nomatch e),fun _=>za cb⟩,ab,fun _=>mi m,fun x hx=>bz.mp hx⟩
 | false=>
  walk_at "d";refine PY (fun j=>decide (n.getD ((aC m).getD j 0) 0=2)) (fun j=>(((aC m).getD j 0:Nat):Int)) (aH.jE F) (by rw[ao];exact aB (by omega)) ?_ ?_
  ·intro j H4 A B' hj hS hA hB;rw[ao] at hj;rw[aM];walk_at "d";refine dF ((u.trans hS).aL hcq) rfl (d _ (dX hj)) ?_;walk_at "d"
   by_cases U:n.getD ((aC m).getD j 0) 0=2
   ·rw[if_pos U];exact hA (dt U) _ (ah.refl _)
   ·rw[if_neg U];exact hB (ed U) _ (ah.refl _)
  intro I H4 _ s4 b;rw[GN (aC m) (fun x=>decide (n.getD x 0=2))] at b;have b:H4 I=some (.lst ((az (zb n (aC m))).map V.int)):=b;walk_at "d";refine⟨w,I,R,zb n (aC m),rfl,(u.trans s4).aL M,ax.of b,by omega,h9 (A5 _ _) hl8,fun t H5 s5 ht=>?_⟩
  refine⟨t,_,rfl,ht,by rw[fo];omega,Kg br,fun H6 s6=>⟨fun nf=>?_,fun hlt2 p2 r o2 f T O hR=>?_⟩⟩
  ·walk_at "d";refine⟨by decide,fun z h1=>?_⟩
   have L:=ah.new h1 (.tup []);refine q z [] [] _ (u.trans (s4.trans (s5.trans (s6.trans L)))) (aH.of ag) trivial ⟨tH n R m,zero_le _,⟨(fun z=>by rw[cb] at z;cases z),fun _ nr=>absurd (lZ nf) nr,TZ _⟩⟩
  ·walk_at "d";refine⟨by decide,fun z1 h1=>⟨by decide,fun z2 h2=>?_⟩⟩
   have L:=ah.new h1 (.tup [.str "ring",.ref p2]);have J:=ah.new h2 (.tup [.ref z1]);have a:=L.trans J;refine q z2 [.ref z1] [(true,r)] _ (u.trans (s4.trans (s5.trans (s6.trans a)))) (aH.of ag) ⟨⟨z1,p2,rfl,J.aL (aH.of ag),aH.jE (a _ _ f),.inr ⟨_,_,a _ _ f,T,O⟩⟩,trivial⟩ ?_;have e:(([(true,r)]:List (Bool × List Nat)).map (e9 n)).sum=1:=rfl;rw[e];refine⟨⟨fun g hg=>?_,List.pairwise_singleton _ _,e,(by show (0:Int)<=1;omega)⟩,dy _,⟨(fun z=>by rw[cb] at z;cases z),fun _ _=>rfl,(by show (0:Int)<=1;omega)⟩⟩
   rw[fz.mp hg];exact HD hn hR
def Rq (K:Frag)(H0:Hp)(c w l:Addr)(cs:List Int)(ws:List Nat)(i:Nat)(σ:L2.St)(H:Hp):Prop:=∃ (us:List V) (fl:List mj) (y1 y2:Option V),σ=[some (.ref c),some (.ref w),some (.ref l),y1,y2]/\ah H0 H/\H l=some (.lst us)/\lA K H us fl/\fl.length=1+i/\∀ k,k<1+i->lB cs ws k (fl.getD k (0,[]))
theorem mD:DS (ak fu) ["counts","web","choices","crowd","groups"] ["counts","web"] ["range","lone_group","len","made_sure"]:=aO (by decide +kernel)
theorem mE (B:Bn mg)(D:Def K mg "lone_choices" fu)(uq:Fn P w K mg base 4 "lone_group" ["counts","web","crowd"] (Q3 K))(i8:Fn P w K mg base 5 "made_sure" ["counts","groups"] (yC K)):Fn P w K mg base 6 "lone_choices" ["counts","web"] (LV K):=by
 refine D.gq mD (fun _ _ _ _ _ _ C G=>by obtain⟨_,_,rfl⟩:=eA G;rfl) (fun vs H Q E h=>?_) ?_
 ·obtain⟨c,w,a,I,rfl,_⟩:=h;rfl
 intro X S e1 e2 e3 e4 e5 hc hsc hxe hr hu H vs Q E h;subst e1 e2 e3 e4 e5;obtain⟨c,w,a,I,rfl,y,x,o,hn,br,q⟩:=h;have h8:=o.len;have hpow:=Rp h8;have hpos:0<2 ^ a.length:=FS _;refine⟨_,(af (bw S 2 (dW (aa (qF (aa aq (aa (qF ae) ae))) ae)))
   (af (dO hxe hc (PN S 0 B.range (aa aq (aa (aR cK aq (c7 S 2 (aE rfl) B.len qE (aa (kv S 1) ae))) ae))) (kg S 3) (af (bw S 4 (cE S 1 uq hr (aa (kv S 0) (aa (kv S 1) (aa (kv S 3) ae)))))
   (aj (df (h7 qN ls nc bA rfl (kv S 2) (aa (qF (aa (cE S 3 i8 hr (aa (kv S 0) (aa (kv S 4) ae))) (aa (kv S 4) ae))) ae))))))
   (aj (aK (kv S 2))))),?_⟩
 walk_at "d";refine⟨by decide,fun m h0=>⟨by decide,fun z1 h1=>⟨by decide,fun l G=>?_⟩⟩⟩
 have t0:=ah.new h0 (.tup []);have T:=ah.new h1 (.tup [.int 0,.ref m]);have O:=ah.new G (.lst [.ref z1]);have t:H l=none:=(t0.trans T).GQ G;have s1:=t0.trans (T.trans O);have u:upd (upd (upd H m (.tup [])) z1 (.tup [.int 0,.ref m])) l (.lst [.ref z1]) l=some (.lst [.ref z1]):=ag;have v:lA X.K (upd (upd (upd H m (.tup [])) z1 (.tup [.int 0,.ref m])) l (.lst [.ref z1])) [.ref z1] [(0,[])]:=⟨⟨z1,m,[],rfl,O.aL (aH.of ag),(T.trans O).aL (aH.of ag),trivial⟩,trivial⟩;generalize upd (upd (upd H m (.tup [])) z1 (.tup [.int 0,.ref m])) l (.lst [.ref z1])=H1 at s1 u v ⊢;refine aZ (.inr (s1.aL x)) ?_;rw[cc,ao,hn];walk_at "d";refine⟨dG (by omega),?_⟩
 refine LD (lo:=1) (n:=2 ^ a.length - 1) (Rq X.K H c w l a I) rfl (by rw[show 1+(2 ^ a.length - 1)=2 ^ a.length by omega]) (by omega) ⟨_,_,_,_,rfl,s1,u,v,rfl,fun k hk=>?_⟩ ?_ ?_
 ·have:k=0:=by omega
  subst this;exact CB a I
 ·rintro k σ J hk ⟨C,fl,y1,y2,rfl,s,f,i,b,N⟩;walk_at "d";refine⟨c,w,a,I,1+k,rfl,s.aL y,s.aL x,o,hn,br,by omega,by omega,fun g A L H2 U hg hG r=>?_⟩
  walk_at "d";have Y:=r.1.len;have hlL:L.length<=8:=by
   have:L.length<=a.length:=r.1.len
   omega
  refine⟨.inl ⟨rfl,_,ax.of (U _ _ f)⟩,?_⟩;refine⟨c,g,a,A,L,rfl,(s.trans U).aL y,hg,hG.gl,o,fun M p=>⟨(r.1.each M p).ok.lt,h9 (cG (r.1.each M p).ok.nd (r.1.each M p).ok.lt) h8⟩,by omega,fun H3 s3=>?_⟩
  refine⟨by decide,fun z hz=>?_⟩
  have sz:=ah.new hz (.tup [.int ((L.map (e9 a)).sum),.ref g]);have s4:=U.trans (s3.trans sz);have Z:aH X.K (upd H3 z (.tup [.int ((L.map (e9 a)).sum),.ref g])) z [.int ((L.map (e9 a)).sum),.ref g]:=aH.of ag;have R:=(s3.trans sz).aL hg;have ab:=hG.mono (s3.trans sz);have d:=s4 _ _ f;have W:=i.mono s4;refine⟨l,_,_,rfl,rfl,d,aB (by rw[i.length];omega),?_⟩
  refine⟨C++[.ref z],fl++[((L.map (e9 a)).sum,L)],_,_,rfl,(s.trans s4).set t _,ag,(W.c5 d).append ⟨⟨z,g,A,rfl,Z.c5 d,R.c5 d,ab.c5 d⟩,trivial⟩,by rw[eG,b];rfl,fun j hj=>?_⟩
  by_cases e:j=1+k
  ·subst e;rw[b4,w6 (by omega),b,T7]
   exact r
  ·rw[b4,C2 (by omega),<-b4]
   exact N j (by omega)
 ·rintro σ J ⟨C,fl,y1,y2,rfl,s,f,i,b,N⟩;walk_at "d";exact q l C fl J s t f i (by omega) (fun k hk=>N k (by omega))
def Rr (H0:Hp)(pl:Addr)(m:Nat)(k:Nat)(σ:L2.St)(H:Hp):Prop:=∃ (l:Addr) (ps:List Nat) (y:Option V),σ=[some (.int (m:Int)),some (.ref l),y]/\ah H0 H/\H0 l=none/\H l=some (.lst ((az ps).map V.int))/\H pl=some (.lst ((az (aC m)).map V.int))/\ps.length=2 ^ k/\∀ q,q∈ps↔(Sub q m/\∀ j,q.testBit j=true->j∈(aC m).take k)
theorem tX {m q:Nat}:(Sub q m/\∀ j,q.testBit j=true->j∈(aC m).take 0)↔q∈[0]:=by
 rw[fz]
 constructor
 ·rintro⟨_,b⟩
  apply Ta
  intro j;rw[TX]
  cases e:q.testBit j with
  | false=>rfl
  | true=>have:=b j e;simp at this
 ·rintro rfl;exact⟨(fun j hj=>by rw[TX] at hj;cases hj),(fun j hj=>by rw[TX] at hj;cases hj)⟩
theorem wL:DS (ak jO) ["crowd","parts","i"] ["crowd"] ["places"]:=aO (by decide +kernel)
theorem wM (B:Bn mg)(D:Def K mg "parts_of" jO)(i6:Fn P w K mg base 1 "places" ["mask"] ko):Fn P w K mg base 2 "parts_of" ["crowd"] Q4:=by
 refine D.gq wL (fun _ _ _ _ _ _ us L=>by obtain⟨_,rfl⟩:=fR L;rfl) (fun vs H Q E h=>?_) ?_
 ·obtain⟨m,rfl,_⟩:=h;rfl
 intro X S e1 e2 e3 e4 e5 hc Y R hr hu H vs Q E h;subst e1 e2 e3 e4 e5;obtain⟨m,rfl,hm,q⟩:=h;have z:∀ x∈aC m,x<8:=fun x hx=>bO (n:=8) hm (bz.mp hx);have T:(aC m).length<=8:=cG (cO m) z;refine⟨_,(af (bw S 1 (dW (aa aq ae)))
   (af (dO R hc (cB (cE S 0 i6 hr (aa (kv S 0) ae)) rfl) (kg S 2) (aj (bw S 1 (aR (dC rfl) (kv S 1) (ij S hc Y (cB (kv S 1) rfl) (N:=["part","i"]) (W:=["part"]) (G:=[]) (fv:=[none,some 2]) (by decide +kernel) (fun cl C fp s H S2=>⟨(kg S2 0),bg,(aR aV (kv S2 0) (aR cK aq (kv S2 1)))⟩))))))
   (aj (aK (kv S 1))))),?_⟩
 walk_at "d";refine⟨by decide,fun l L=>?_⟩
 have sl:=ah.new L (.lst [.int 0]);refine⟨m,rfl,by omega,fun pl H2 r _ F=>?_⟩
 have Z:=r _ _ (ag (H:=H) (a:=l) (o:=.lst [.int 0]));refine forL (Rr H pl m) (ax.of F) ⟨l,[0],_,rfl,sl.trans r,L,Z,F,rfl,fun q=>tX.symm⟩ (fun i σ J h=>by obtain⟨_,_,_,_,_,_,_,h,_⟩:=h;exact ax.of h) ?_ ?_
 ·rintro k σ J hk ⟨l,f,y,rfl,M,v,g,I,b,c⟩;rw[ao] at hk;rw[aM];have U:=z _ (fN hk);have h2k:2 ^ k<=256:=h9 (q5 (by decide) (show k<=8 by omega)) (by decide)
  have u:=zc hk rfl c;generalize (aC m).getD k 0=i at U u ⊢;walk_at "d";refine RO (fun _=>true) (fun t=>(((f.getD t 0+2 ^ i:Nat)):Int)) (ax.of g) (by rw[ao];exact aB (by omega)) ?_ ?_
  ·intro t J2 A B' ht hS O _;rw[aM];walk_at "d";refine⟨dG (by omega),?_⟩
   rw[<-natCast_add];exact O rfl _ (ah.refl _)
  ·intro acc J2 ha0 r d;rw[bG,ao] at d;have e:((List.range f.length).map fun t=>(((f.getD t 0+2 ^ i:Nat)):Int))=az (f.map fun x=>x+2 ^ i):=by
    unfold az;rw[kc]
    conv=>rhs;rw[<-md f,kc]
    rfl
   rw[e] at d;refine sF (ax.of (r _ _ g)) (ax.of d) (yp (by rw[ao,ao,cc];omega)) fun p hp=>?_
   have sp:=ah.new hp (.lst ((az f++az (f.map fun x=>x+2 ^ i)).map V.int));refine⟨p,f++f.map (fun x=>x+2 ^ i),_,rfl,M.trans (r.trans sp),(M.trans r).GQ hp,?_,(r.trans sp) _ _ I,by rw[eG,cc,b,Nat.pow_succ];omega,u⟩
   rw[dZ];exact ag
 ·rintro σ J ⟨l,f,y,rfl,M,v,g,I,b,c⟩;rw[ao] at b c;walk_at "d";refine q l f J M v g (fun q=>?_) ?_
  ·rw[c q,DK (dy _)];exact⟨fun h=>h.1,fun h=>⟨h,fun j hj=>bz.mpr (h j hj)⟩⟩
  ·rw[b];exact h9 (q5 (by decide) T) (by decide)
def Rt (K:Frag)(H0:Hp)(lo be:Addr)(cs:List Int)(ws:List Nat)(ul ub:List V)(fl fb:List mj)(m i:Nat)(pp:Addr)(ps:List Nat)(k:Nat)(σ:L2.St)(H:Hp):Prop:=∃ (v:V) (x:mj) (y6 y7 y8:Option V),σ=[some (.ref lo),some (.ref be),some (.int (m:Int)),some (.int ((2 ^ i:Nat):Int)),some (.int ((m - 2 ^ i:Nat):Int)),some v,y6,y7,y8]/\ah H0 H/\ax K H pp ((az ps).map V.int)/\Ch K H v x/\xB cs ws m x/\(fb.getD (m - 2 ^ i) (0,[])).1<=x.1/\∀ t,t<k->(fl.getD (2 ^ i+ps.getD t 0) (0,[])).1+(fb.getD ((m - 2 ^ i) - ps.getD t 0) (0,[])).1<=x.1
theorem Kx {m:Nat}(h:0<m):Builtin.bitAnd (m:Int) (-(m:Int))=((m - (m&&& (m - 1)):Nat):Int):=by
 have e:-(m:Int)=Builtin.bitNot ((m - 1:Nat):Int):=by unfold Builtin.bitNot;omega
 rw[e,sM]
theorem CZ {a m:Nat}(h:Sub a m):Sub (m - a) m:=fun j hj=>by
 rw[ji h,gz] at hj;exact hj.1
def Ru (K:Frag)(H0:Hp)(lo be:Addr)(cs:List Int)(ws:List Nat)(fb:List mj)(m i:Nat)(σ:L2.St)(H:Hp):Prop:=∃ (v:V) (x:mj),σ=[some (.ref lo),some (.ref be),some (.int (m:Int)),some (.int ((2 ^ i:Nat):Int)),some (.int ((m - 2 ^ i:Nat):Int)),some v,none,none,none]/\H=H0/\Ch K H0 v x/\xB cs ws m x/\(fb.getD (m - 2 ^ i) (0,[])).1<=x.1
theorem oF:DS (ak fY) ["lone","best","crowd","first","others","found","part","group","rest"] ["lone","best","crowd"] ["parts_of"]:=aO (by decide +kernel)
theorem oH (B:Bn mg)(D:Def K mg "best_choice" fY)(zL:Fn P w K mg base 2 "parts_of" ["crowd"] Q4):Fn P w K mg base 3 "best_choice" ["lone","best","crowd"] (Q5 K):=by
 refine D.gq oF (fun _ _ _ _ _ _ us hl=>by obtain⟨_,_,_,rfl⟩:=jJ hl;rfl) (fun vs H Q E h=>?_) ?_
 ·obtain⟨lo,be,cs,ws,ul,ub,n,f,m,rfl,_⟩:=h;rfl
 intro X S e1 e2 e3 e4 e5 hc hsc hxe hr hu H vs Q E h;subst e1 e2 e3 e4 e5;obtain⟨lo,be,cs,ws,ul,ub,n,f,m,rfl,I,r,cl,cb,U,hn,hfl,hfb,M,hm,hL,hB,q⟩:=h;have h8:=U.len;have hpow:2 ^ cs.length<=256:=h9 (q5 (by decide) h8) (by decide)
 obtain⟨i,hi,Z⟩:=Kd m M;have hile:=(gQ hi).le;have hip:0<2 ^ i:=FS i;have o:Sub (m - 2 ^ i) m:=fun j hj=>by rw[cw hi,gz] at hj;exact hj.1
 refine⟨_,(af (bw S 3 (aR dR (kv S 2) (OJ kS (kv S 2))))
   (af (bw S 4 (aR cF (kv S 2) (kv S 3)))
   (af (bw S 5 (aU (ai rfl) (kv S 0) (kv S 2) (fun _ _=>rfl)))
   (af (cN (aS Ai (aU (aI rfl) (aU (ai rfl) (kv S 1) (kv S 4) (fun _ _=>rfl)) aq (fun _ _=>rfl)) (aU (aI rfl) (kv S 5) aq (fun _ _=>rfl)) (au _)) (aj (bw S 5 (aU (ai rfl) (kv S 1) (kv S 4) (fun _ _=>rfl)))) ay)
   (af (dO hxe hc (cB (cE S 0 zL hr (aa (kv S 4) ae)) rfl) (kg S 6) (af (bw S 7 (aU (ai rfl) (kv S 0) (aR aV (kv S 3) (kv S 6)) (fun _ _=>rfl)))
   (af (bw S 8 (aU (ai rfl) (kv S 1) (aR cF (kv S 4) (kv S 6)) (fun _ _=>rfl)))
   (aj (cN (aS Ai (aR aV (aU (aI rfl) (kv S 7) aq (fun _ _=>rfl)) (aU (aI rfl) (kv S 8) aq (fun _ _=>rfl))) (aU (aI rfl) (kv S 5) aq (fun _ _=>rfl)) (au _)) (aj (bw S 5 (qF (aa (aR aV (aU (aI rfl) (kv S 7) aq (fun _ _=>rfl)) (aU (aI rfl) (kv S 8) aq (fun _ _=>rfl))) (aa (aR (iB rfl) (aU (aI rfl) (kv S 7) aq (fun _ _=>rfl)) (aU (aI rfl) (kv S 8) aq (fun _ _=>rfl))) ae))))) ay)))))
   (aj (aK (kv S 5)))))))),?_⟩
 walk_at "h";rw[Kx M,Z];walk_at "h";rw[show ((m:Int) - ((2 ^ i:Nat):Int))=((m - 2 ^ i:Nat):Int) by omega]
 obtain⟨v0,ev0,c0⟩:=cl.get (i:=m) (by omega)
 obtain⟨v1,O,c1⟩:=cb.get (i:=m - 2 ^ i) (by omega)
 have hLm:=(hL m hm).1;have hB1:=(hB (m - 2 ^ i) (by omega)).1
 walk_at "h";refine av I (jb ev0) ?_;walk_at "s";refine Su (Ru X.K H lo be cs ws f m i) (fun σ J h=>?_) (fun R hR=>?_)
 rotate_left
 ·walk_at "d";refine av r (jb O) ?_;obtain⟨r1,g1,us1,rfl,h11,h12,h13⟩:=id c1;obtain⟨r0,g0,us0,rfl,h01,h02,h03⟩:=id c0;refine bh h11 rfl ?_;refine bh h01 rfl ?_;walk_at "d";refine bU (fun hlt=>?_) (fun hge=>?_)
  ·refine av r (jb O) ?_;exact hR _ _ ⟨_,_,rfl,rfl,c1,hB1.mono o,TZ _⟩
  ·exact hR _ _ ⟨_,_,rfl,rfl,c0,hLm,by omega⟩
 obtain⟨v,x,rfl,eJ,C,T,hx⟩:=h;rw[eJ];clear eJ J;walk_at "h";refine⟨m - 2 ^ i,rfl,by omega,fun pp A J sJ _ L N hp256=>?_⟩
 refine forL (Rt X.K H lo be cs ws ul ub n f m i pp A) (ax.of L) ⟨v,x,_,_,_,rfl,sJ,ax.of L,C.mono sJ,T,hx,fun t Y=>absurd Y (I1 t)⟩ (fun i σ J h=>by obtain⟨_,_,_,_,_,_,_,h,_⟩:=h;exact h) ?_ ?_
 ·rintro k σ J2 hk ⟨v,x,y6,y7,y8,rfl,g,d,C,T,hx,dB⟩;rw[ao] at hk;rw[aM];have c:=(N _).mp (fN hk);generalize hq:A.getD k 0=a at c;have hle:=c.le;obtain⟨va,eva,ca⟩:=cl.get (i:=2 ^ i+a) (by omega)
  obtain⟨vb,evb,p⟩:=cb.get (i:=(m - 2 ^ i) - a) (by omega)
  have ga:=(hL (2 ^ i+a) (by omega)).1
  have gb:=(hB ((m - 2 ^ i) - a) (by omega)).1
  walk_at "d";refine av (g.seq I) (v:=va) (by rw[show (((2 ^ i:Nat):Int)+(a:Int))=((2 ^ i+a:Nat):Int) by omega];exact jb eva) ?_
  refine av (g.seq r) (v:=vb) (by rw[show (((m - 2 ^ i:Nat):Int) - (a:Int))=((m - 2 ^ i - a:Nat):Int) by omega];exact jb evb) ?_
  have ca:=ca.mono g;have p:=p.mono g;obtain⟨ra,g1,ua,rfl,s,ha2,G⟩:=id ca;obtain⟨rb,g2,ab,rfl,u,hb2,F⟩:=id p;obtain⟨rv,gv,uv,rfl,hv1,hv2,hv3⟩:=id C;refine bh s rfl ?_;refine bh u rfl ?_;walk_at "d";refine bh hv1 rfl ?_;walk_at "d";have b:∀ y:Int,x.1<=y->(n.getD (2 ^ i+a) (0,[])).1+(f.getD ((m - 2 ^ i) - a) (0,[])).1<=y->∀ t,t<k+1->(n.getD (2 ^ i+A.getD t 0) (0,[])).1+(f.getD ((m - 2 ^ i) - A.getD t 0) (0,[])).1<=y:=fun y h1 h2 t Y=>by
   by_cases e:t=k
   ·rw[e,hq];exact h2
   ·have:=dB t (by omega)
    omega
  refine bU (fun hlt=>?_) (fun hge=>?_)
  ·refine bh s rfl ?_;refine bh u rfl ?_;walk_at "d";refine bh s rfl ?_;refine bh u rfl ?_;have la:=ga.len;have lb:=gb.len;refine⟨g1,g2,ua,ab,rfl,rfl,ha2,hb2,bY (by rw[G.length,F.length];omega),fun g3 J3 s3 hg3=>?_⟩
   refine⟨by decide,fun z hz=>?_⟩
   have sz:=ah.new hz (.tup [.int ((n.getD (2 ^ i+a) (0,[])).1+(f.getD ((m - 2 ^ i) - a) (0,[])).1),.ref g3]);have s4:=s3.trans sz;have W:Sub (2 ^ i+a) m:=((Kf (l:=[]) hi c ⟨(fun _ h=>nomatch h),.nil⟩).1 _ fA);have dis:GR (2 ^ i+a) (m - 2 ^ i - a):=fun j hj=>by
    rw[ji c,cw hi];rw[tG (fun j' aA=>?_)] at hj
    ·rw[SL,L1,mo] at hj
     rcases hj with hj | hj
     ·rw[hj];simp
     ·rw[hj];simp
    ·rw[L1,mo] at aA
     cases e:a.testBit j' with
     | false=>rfl
     | true=>have:=c j' e;rw[cw hi,aA] at this;simp at this
   refine⟨.ref z,((n.getD (2 ^ i+a) (0,[])).1+(f.getD ((m - 2 ^ i) - a) (0,[])).1,(n.getD (2 ^ i+a) (0,[])).2++(f.getD ((m - 2 ^ i) - a) (0,[])).2),_,_,_,rfl,g.trans s4,s4.seq d,⟨z,g3,ua++ab,rfl,aH.of ag,sz.aL hg3,(G.mono s4).append (F.mono s4)⟩,ga.add gb dis W ((CZ c).trans o),?_,?_⟩
   ·show (f.getD (m - 2 ^ i) (0,[])).1<=(n.getD (2 ^ i+a) (0,[])).1+(f.getD ((m - 2 ^ i) - a) (0,[])).1
    omega
   ·exact b _ (by omega) (TZ _)
  ·exact⟨_,x,_,_,_,rfl,g,d,C,T,hx,b x.1 (TZ _) (by omega)⟩
 ·rintro σ J2 ⟨v,x,y6,y7,y8,rfl,g,d,C,T,hx,dB⟩;rw[ao] at dB;walk_at "s";walk_at "d";refine q v x J2 g C (CD U.pos hn hm hi hL hB T hx fun a hp=>?_);obtain⟨t,Y,e⟩:=BC ((N a).mpr hp)
  have:=dB t Y
  rw[b4 (l:=A),b5 Y,show (some A[t]).getD 0=A[t] from rfl,e] at this
  exact this
def Rv (K:Frag)(H0:Hp)(c w lo l:Addr)(cs:List Int)(ws:List Nat)(i:Nat)(σ:L2.St)(H:Hp):Prop:=∃ (us:List V) (fb:List mj) (y1:Option V),σ=[some (.ref c),some (.ref w),some (.ref lo),some (.ref l),y1]/\ah H0 H/\H l=some (.lst us)/\lA K H us fb/\fb.length=1+i/\∀ k,k<1+i->dJ cs ws k (fb.getD k (0,[]))
theorem oI:DS (ak fZ) ["counts","web","lone","best","crowd"] ["counts","web"] ["lone_choices","range","len","best_choice"]:=aO (by decide +kernel)
theorem oJ (B:Bn mg)(D:Def K mg "best_groups" fZ)(oS:Fn P w K mg base 6 "lone_choices" ["counts","web"] (LV K))(pU:Fn P w K mg base 3 "best_choice" ["lone","best","crowd"] (Q5 K)):Fn P w K mg base 7 "best_groups" ["counts","web"] (Q6 K):=by
 refine D.gq oI (fun _ _ _ _ _ _ m N=>by obtain⟨_,_,rfl⟩:=eA N;rfl) (fun vs H Q E h=>?_) ?_
 ·obtain⟨c,w,f,A,rfl,_⟩:=h;rfl
 intro X S e1 e2 e3 e4 e5 hc hsc aA hr hu H vs Q E h;subst e1 e2 e3 e4 e5;obtain⟨c,w,f,A,rfl,hcq,ab,p,hn,br,q⟩:=h;have h8:=p.len;have hpow:2 ^ f.length<=256:=h9 (q5 (by decide) h8) (by decide)
 have hpos:0<2 ^ f.length:=FS _;refine⟨_,(af (bw S 2 (cE S 0 oS hr (aa (kv S 0) (aa (kv S 1) ae))))
   (af (bw S 3 (dW (aa (qF (aa aq (aa (qF ae) ae))) ae)))
   (af (dO aA hc (PN S 1 B.range (aa aq (aa (c7 S 2 (aE rfl) B.len qE (aa (kv S 2) ae)) ae))) (kg S 4) (aj (df (h7 qN ls nc bA rfl (kv S 3) (aa (cE S 3 pU hr (aa (kv S 2) (aa (kv S 3) (aa (kv S 4) ae)))) ae)))))
   (aj (aK (aU (aI rfl) (aU (ai rfl) (kv S 3) (OJ kS aq) (fun _ _=>rfl)) aq (fun _ _=>rfl))))))),?_⟩
 walk_at "d";refine⟨c,w,f,A,rfl,hcq,ab,p,hn,br,fun lo ul fl H1 s1 hlo0 G cl C hL=>?_⟩;walk_at "d";refine⟨by decide,fun o h0=>⟨by decide,fun z1 h1=>⟨by decide,fun l N=>?_⟩⟩⟩
 have t0:=ah.new h0 (.tup []);have W:=ah.new h1 (.tup [.int 0,.ref o]);have U:=ah.new N (.lst [.ref z1]);have T:H1 l=none:=(t0.trans W).GQ N;have Y:=t0.trans (W.trans U);have t:upd (upd (upd H1 o (.tup [])) z1 (.tup [.int 0,.ref o])) l (.lst [.ref z1]) l=some (.lst [.ref z1]):=ag;have u:lA X.K (upd (upd (upd H1 o (.tup [])) z1 (.tup [.int 0,.ref o])) l (.lst [.ref z1])) [.ref z1] [(0,[])]:=⟨⟨z1,o,[],rfl,U.aL (aH.of ag),(W.trans U).aL (aH.of ag),trivial⟩,trivial⟩;generalize upd (upd (upd H1 o (.tup [])) z1 (.tup [.int 0,.ref o])) l (.lst [.ref z1])=H2 at Y t u ⊢;refine aZ (.inl (ax.of (Y _ _ G))) ?_;rw[cl.length,C];walk_at "d";refine LD (lo:=1) (n:=2 ^ f.length - 1) (Rv X.K H1 c w lo l f A) rfl (by omega) (by omega) ⟨_,_,_,rfl,Y,t,u,rfl,fun k hk=>?_⟩ ?_ ?_
 ·have:k=0:=by omega
  subst this;exact CC f A
 ·rintro k σ J hk ⟨m,fb,y1,rfl,y,d,b,a,L⟩;walk_at "d";refine⟨.inl ⟨rfl,_,ax.of d⟩,?_⟩;refine⟨lo,l,f,A,ul,m,fl,fb,1+k,rfl,ax.of (y _ _ G),ax.of d,cl.mono y,b,p,hn,C,a,by omega,by omega,hL,L,fun v x H3 s3 R hx=>?_⟩
  have s:=s3 _ _ d;refine⟨l,_,_,rfl,rfl,s,aB (by rw[b.length];omega),?_⟩
  refine⟨m++[v],fb++[x],_,rfl,(y.trans s3).set T _,ag,((b.mono s3).c5 s).append ⟨R.c5 s,trivial⟩,by rw[eG,a];rfl,fun j hj=>?_⟩
  by_cases e:j=1+k
  ·subst e;rw[b4,w6 (by omega),a,T7]
   exact hx
  ·rw[b4,C2 (by omega),<-b4]
   exact L j (by omega)
 ·rintro σ J ⟨m,fb,y1,rfl,y,d,b,a,L⟩;walk_at "d";obtain⟨v,ev,R⟩:=b.get (i:=2 ^ f.length - 1) (by omega)
  have hb:=L (2 ^ f.length - 1) (by omega)
  have I:=b.length;refine av (ax.of d) (v:=v) ?_ ?_
  ·have O:m=m.dropLast++[v]:=by
    have h1:m≠[]:=fun z=>by rw[z] at I;simp at I;omega
    have M:=List.dropLast_concat_getLast h1;have Z:m.getLast h1=v:=by
     rw[List.getLast_eq_getElem];rw[show 2 ^ f.length - 1=m.length - 1 by omega,b5 (by omega)] at ev
     exact tx ev
    rw[Z] at M;exact M.symm
   rw[O];exact Ec _ _
  obtain⟨r,g,us',rfl,h1,M,Z⟩:=R;refine bh h1 rfl ?_;refine q g us' _ J (s1.trans y) M Z ?_;have e:=hb.1.sum;rw[e];exact hb
theorem all_map {α:Type}(l:List α)(p:α->Bool):(l.map p).all id=l.all p:=by rw[P3];rfl
theorem any_map {α:Type}(l:List α)(p:α->Bool):(l.map p).any id=l.any p:=by rw[List.any_map];rfl
theorem range_getD {α:Type}(l:List Int)(f:Int->α):(List.range l.length).map (fun k=>f (l.getD k 0))=l.map f:=by
 apply ext_getElem
 ·simp
 ·intro i h1 a
  simp at h1 a
  simp[h1]
theorem SF {a:Addr}{ns:List Int}{te:TE}{rest:L2.St}{Q:VK}{H1:Hp}(f:Int->Bool)(h:aH K H1 a (ns.map V.int))(hn:ns.length<=1000)
  (step:∀ (i:Int) H (A:V->Hp->Prop),i∈ns->ah H1 H->(∀ H',ah H H'->A (.bl (f i)) H')->te (some (.int i)::rest) H A)
  (fin:∀ acc H,H1 acc=none->ah H1 H->H acc=some (.lst ((ns.map f).map V.bl))->Q (.ref acc) H) :
  ∃ b,V.ref a=.ref b/\(∃ xs,aH K H1 b xs)/\sh (bx 0) hZ te (none::rest) Q (Aa K b) H1:=by
 refine⟨a,rfl,⟨_,h⟩,qI (gk h) (fun _=>true) (fun i=>.bl (f (ns.getD i 0))) (by rw[cc];exact aB hn) ?_ ?_⟩
 ·intro i H A j hi d g _;rw[cc] at hi;rw[getD_ints hi];simp only[gD,yl,kn];exact step _ H A (L2.getD_mem hi) d fun H' e=>g rfl _ e
 ·intro acc H hn d c;rw[bG,cc] at c;refine fin acc H hn d ?_;rw[c,<-range_getD ns f,kc];rfl
theorem HE:DS (ak tO) ["people"] ["people"] ["all","zip"]:=aO (by decide +kernel)
theorem HF (B:Bn mg)(D:Def K mg "rises" tO):Fn P w K mg base 1 "rises" ["people"] (AR K):=by
 refine D.gq HE (fun _ _ _ _ _ _ M v=>by obtain⟨_,rfl⟩:=fR v;rfl) (fun F H Q E h=>?_) ?_
 ·obtain⟨p,l,rfl,_⟩:=h;rfl
 intro X S y e2 u o J hc g t R hu H F Q E h;subst y e2 u o J;obtain⟨p,l,rfl,j,h1,x,q⟩:=h;refine⟨_,(aj (aK (c7 S 0 (cU hc rfl) B.all boot_all (aa (ij S hc g (OR false false S 1 B.zip rfl (aa (kv S 0) (aa (mM (jd rfl) (kv S 0) (bD aq) bC) ae))) (N:=["i","j"]) (W:=["i","j"]) (G:=[]) (fv:=[none,none]) (by decide +kernel) (fun L C O s H d=>⟨(jl rfl (K:=X.K) (n:=2) rfl (aJ (kg d 0) (aJ (kg d 1) cA))),bg,(ie fG (kv d 0) (kv d 1) (au _))⟩)) ae)))),?_⟩
 walk_at "d";refine sE 0 j rfl (by rw[ao];omega) fun a m=>?_
 have i:=ah.new m (.tup (((az l).drop (0+1)).map V.int));refine Og (ns:=az l) (ms:=(az l).drop (0+1)) _ (fun k=>.bl (decide (l.getD k 0<l.getD (k+1) 0))) (i.aL j) (aH.of ag) (by rw[uF,ao];omega) (dy _) (.inr (dy _)) (by rw[uF,ao];exact aB (by omega)) ?_ ?_
 ·intro k r A hk c I;rw[uF,ao] at hk;rw[aM,show ((az l).drop (0+1)).getD k 0=((l.getD (k+1) 0:Nat):Int) by rw[<-aM,b4,getElem?_drop,b4];congr 2;omega]
  walk_at "d";have e:decide (((l.getD k 0:Nat):Int)<((l.getD (k+1) 0:Nat):Int))=decide (l.getD k 0<l.getD (k+1) 0):=by
   rw[decide_eq_decide];omega
  rw[e];exact I _ (ah.refl _)
 ·intro f r z c b;rw[uF,ao] at b;refine⟨f,(List.range (l.length - (0+1))).map fun k=>decide (l.getD k 0<l.getD (k+1) 0),rfl,ax.of (by rw[b,kc];rfl),?_⟩
  rw[all_map];exact q _ (i.trans c)
theorem wN:DS (ak jN) ["counts","web","kind","people"] ["counts","web","kind","people"] ["len","all","rises","is_circle","is_ring"]:=aO (by decide +kernel)
theorem Oo (B:Bn mg)(D:Def K mg "is_group" jN)(KP:Fn P w K mg base 1 "rises" ["people"] (AR K))(i7:Fn P w K mg base 1 "is_circle" ["web","people"] (ND K))(Dm:Fn P w K mg base 2 "is_ring" ["web","people"] (Ql K)):Fn P w K mg base 3 "is_group" ["counts","web","kind","people"] (LC K):=by
 refine D.gq wN (fun _ _ _ _ _ _ us hl=>by obtain⟨_,_,_,_,rfl⟩:=G8 hl;rfl) (fun vs H Q E h=>?_) ?_
 ·obtain⟨c,w,p,d,o,g,rfl,_⟩:=h;rfl
 intro X S e1 e2 e3 e4 e5 hc F hxe Z hu H vs Q E h;subst e1 e2 e3 e4 e5;obtain⟨c,w,p,d,o,⟨b,a⟩,rfl,L,hw,r,J,h8,y,q⟩:=h;have r:aH X.K H p (a.map V.int):=r;have y:a.length<=90:=y;refine⟨_,(af (cN (Ic (Nm (aS fG (c7 S 0 (aE rfl) B.len qE (aa (kv S 3) ae)) aq (au _)) (yh (sy (ph (c7 S 1 (cU hc rfl) B.all boot_all (aa (ij S hc F (du (kv S 3) rfl) (N:=["i","counts"]) (W:=["i"]) (G:=["len"]) (fv:=[none,some 0]) (by decide +kernel) (fun cl C fp s H t=>⟨(kg t 0),bg,(EW nk fG aq (kv t 0) (c7 t 0 (aE rfl) B.len qE (aa (kv t 1) ae)))⟩)) ae))))))) (aj (aK xy)) ay)
   (af (cN (aS aX (kv S 2) bc (au _)) (aj (aK (pf (cE S 2 KP Z (aa (kv S 3) ae)) (yf (cE S 3 i7 Z (aa (kv S 1) (aa (kv S 3) ae))))))) ay)
   (aj (aK (pf (ie aX (kv S 2) bc (au _)) (pf (cE S 4 Dm Z (aa (kv S 1) (aa (kv S 3) ae))) (yf (c7 S 1 (cU hc rfl) B.all boot_all (aa (ij S hc F (du (kv S 3) rfl) (N:=["i","counts"]) (W:=["i"]) (G:=[]) (fv:=[none,some 0]) (by decide +kernel) (fun cl C fp s H t=>⟨(kg t 0),bg,(ie aX (aU (aI rfl) (kv t 1) (kv t 0) (fun _ _=>rfl)) aq (au _))⟩)) ae))))))))),?_⟩
 walk_at "d";refine aZ (.inr r) ?_;rw[cc];walk_at "d";refine bU (fun c1=>?_) (fun c1=>?_)
 ·have e:DC d o (b,a)=false:=by unfold DC;rw[ed (show ¬ 1<=a.length by omega),tz]
  rw[e] at q;exact q _ (ah.refl _)
 refine SF (fun i=>decide (0<=i)&&decide (i<(d.length:Int))) r (by omega) ?_ ?_
 ·intro i H1 A hi R z;walk_at "d"
  by_cases O:0<=i
  ·rw[if_pos O];refine aZ (.inr (R.aL L)) ?_;rw[cc];walk_at "d";rw[dt O,q7] at z;exact z _ (ah.refl _)
  ·rw[if_neg O];rw[ed O,tz] at z;exact z _ (ah.refl _)
 intro T H1 hn1 m M;refine⟨T,_,rfl,ax.of M,?_⟩;rw[all_map,show (a.all fun i=>decide (0<=i)&&decide (i<(d.length:Int)))=Ie d.length a from rfl]
 walk_at "d"
 by_cases f:Ie d.length a=true
 ·rw[f];obtain⟨en,v⟩:=JL f;have hnl:(nats a).length=a.length:=by unfold nats;rw[cc]
  have U:DC d o (b,a)=Ck d o b (nats a):=by
   unfold DC;rw[dt (show 1<=a.length by omega),q7]
   show (Ie d.length a&&_)=_;rw[f,q7]
  rw[U] at q;generalize nats a=l at *;subst en;rw[ao] at c1 y;have e:decide (kd b="ring")=b:=sR b;have e2:decide (kd b="circle")=!b:=by cases b<;>decide
  walk_at "d"
  (try simp only[qC,ve])
  (try simp only[e,e2])
  (try simp only[show (kd b=Str.ofString "circle")=(b=false) from propext ⟨fun h=>by cases b<;>first | rfl | exact absurd h (by decide),fun h=>by rw[h];rfl⟩,show (kd b=Str.ofString "ring")=(b=true) from propext ⟨fun h=>by cases b<;>first | rfl | exact absurd h (by decide),fun h=>by rw[h];rfl⟩])
  cases b with
  | false=>
   (try simp only[Bool.not_false,if_true])
   refine⟨p,l,rfl,m.aL r,by omega,by omega,fun H2 n=>?_⟩
   unfold Ck at q;simp only[Bool.false_eq_true,if_false] at q;walk_at "d"
   cases j:nN l with
   | true=>
    rw[j,q7] at q;walk_at "d";exact⟨w,p,o,l,rfl,(m.trans n).aL hw,(m.trans n).aL r,by omega,vD j,fun x hx=>by rw[J];exact v x hx,fun H3 Y=>q _ ((m.trans n).trans Y)⟩
   | false=>
    rw[j,tz] at q;walk_at "d";exact q _ (m.trans n)
  | true=>
   (try simp only[Bool.not_true,Bool.true_eq_false,Bool.false_eq_true,if_false,if_true])
   unfold Ck at q;simp only[if_true] at q;walk_at "d"
   try simp only[qC,ve,e,if_true]
   refine⟨w,p,o,l,rfl,m.aL hw,m.aL r,by omega,by omega,fun x hx=>by rw[J];exact v x hx,fun H2 n=>?_⟩
   walk_at "d"
   cases j:ju o l with
   | true=>
    rw[j,q7] at q;walk_at "d";refine SF (fun i=>decide (d.getD i.toNat 0=2)) ((m.trans n).aL r) (by rw[ao];omega) ?_ ?_
    ·intro i H3 A hi R z;obtain⟨x,hx,rfl⟩:=ih.mp hi;walk_at "d";refine dF (((m.trans n).trans R).aL L) rfl (v x hx) ?_;walk_at "d";exact z _ (ah.refl _)
    ·intro I H3 hn3 Y u;refine⟨I,_,rfl,ax.of u,?_⟩;rw[all_map,show ((az l).all fun i=>decide (d.getD i.toNat 0=2))=l.all (fun x=>decide (d.getD x 0=2)) by unfold az;rw[P3];rfl]
     exact q _ ((m.trans n).trans Y)
   | false=>
    rw[j,tz] at q;walk_at "d";exact q _ (m.trans n)
 ·have f:Ie d.length a=false:=by simpa using f
  have U:DC d o (b,a)=false:=by
   unfold DC;show (_&&(Ie d.length a&&_))=false;rw[f,tz,TL]
  rw[f];rw[U] at q;walk_at "d";exact q _ m
theorem oK:DS (ak fV) ["counts","web","groups","taken","place","group","people","i"] ["counts","web","groups"] ["enumerate","any","is_group"]:=aO (by decide +kernel)
def Rw (K:Frag)(H0:Hp)(c w g:Addr)(cs:List Int)(ws:List Nat)(L:List (Bool × List Int))(k:Nat)(σ:L2.St)(H:Hp):Prop:=∃ (d:Addr) (gone:List Int) (y1 y2 y3 y4:Option V),σ=[some (.ref c),some (.ref w),some (.ref g),some (.ref d),y1,y2,y3,y4]/\ah H0 H/\H0 d=none/\FJ H d gone/\gone.length<=30*k/\DE cs ws [] 0 L=DE cs ws gone k (L.drop k)
def Oq (H0:Hp)(c w g d p:Addr)(k:Nat)(y2:V)(gone ns:List Int)(j:Nat)(σ:L2.St)(H:Hp):Prop:=∃ (y4:Option V),σ=[some (.ref c),some (.ref w),some (.ref g),some (.ref d),some (.int (k:Int)),some y2,some (.ref p),y4]/\ah H0 H/\FJ H d (gone++ns.take j)
theorem C0 (B:Bn mg)(D:Def K mg "group_fault" fV)(zM:Fn P w K mg base 3 "is_group" ["counts","web","kind","people"] (LC K)):Fn P w K mg base 4 "group_fault" ["counts","web","groups"] (vE K):=by
 refine D.gq oK (fun _ _ _ _ _ _ us hl=>by obtain⟨_,_,_,rfl⟩:=jJ hl;rfl) (fun vs H Q E h=>?_) ?_
 ·obtain⟨c,w,g,M,O,us,L,rfl,_⟩:=h;rfl
 intro X S e1 e2 e3 e4 e5 hc hsc z hr hu H vs Q E h;subst e1 e2 e3 e4 e5;obtain⟨c,w,g,M,O,us,L,rfl,hcq,hw,hg,hL,hwl,h8,h90,hL90,q⟩:=h;refine⟨_,(af (bw S 3 Lz)
   (af (dO z hc (Fo S 0 B.enumerate rfl (aa (kv S 2) ae)) (jl hc (K:=X.K) (n:=2) rfl (aJ (kg S 4) (aJ (kg S 5) cA))) (af (bw S 6 (aU (aI rfl) (kv S 5) aq (fun _ _=>rfl)))
   (af (cN (Ic (Nm (sy (ph (cE S 2 zM hr (aa (kv S 0) (aa (kv S 1) (aa (aU (aI rfl) (kv S 5) aq (fun _ _=>rfl)) (aa (kv S 6) ae))))))) (yh (ph (c7 S 1 (Ci hc rfl) B.any boot_any (aa (ij S hc hsc (du (kv S 6) rfl) (N:=["i","taken"]) (W:=["i"]) (G:=[]) (fv:=[none,some 3]) (by decide +kernel) (fun cl C fp s H S2=>⟨(kg S2 0),bg,(Qv (u1 hu) (kv S2 0) (kv S2 1) (by with_unfolding_all rfl))⟩)) ae)))))) (aj (aK (kv S 4))) ay)
   (aj (dO z hc (du (kv S 6) rfl) (kg S 7) (aj (LA (u1 hu) xy (kv S 3) (kv S 7))))))))
   (aj (aK my)))),?_⟩
 walk_at "d";intro d hd;have sd:=ah.new hd (.dK []);refine Qw (Rw X.K H c w g M O L) (sd.aL hg) ⟨d,[],_,_,_,_,rfl,sd,hd,FJ.nil ag,zero_le _,rfl⟩ (fun k σ H' h=>by obtain⟨d,gone,y1,y2,y3,x,_,s,_⟩:=h;exact s.aL hg) ?_ ?_
 ·rintro k v σ H1 H2 hv ⟨d,gone,y1,y2,y3,x,rfl,T,m,hD,hgl,a⟩ s2;have b:=T.trans s2;obtain⟨t,r,p,u,rfl,Z,l⟩:=hL.get hv;have y:=b.aL Z;have hp:=b.aL l;have R:k<L.length:=by have:=o5.mp u;exact this.1
  have hdr:L.drop k=t::L.drop (k+1):=by
   rw[List.drop_eq_getElem_cons R]
   congr 1
   have:=o5.mp u
   exact this.2
  rw[hdr,DE] at a;have g90:=h90 t (h5 u);walk_at "d";refine bh (i:=1) y rfl ?_;refine bh (i:=0) y rfl ?_;refine⟨c,w,p,M,O,t,rfl,b.aL hcq,b.aL hw,hp,hwl,h8,by omega,fun H3 F=>?_⟩
  walk_at "d"
  cases hG:DC M O t with
  | false=>
   rw[hG,tz,if_neg (by decide)] at a
   walk_at "d"
   have:=q _ (b.trans F)
   rw[a] at this;exact this
  | true=>
   rw[hG,q7] at a;walk_at "d";have ab:=b.trans F;refine SF (fun i=>decide (i∈gone)) (F.aL hp) (by omega) ?_ ?_
   ·intro i H4 A hi e J;walk_at "d";exact NP ((hD.same s2).same (F.trans e)) (J _ (ah.refl _))
   intro U H4 hn4 s4 I;refine⟨U,_,rfl,ax.of I,?_⟩;rw[any_map];have e:=ab.trans s4
   cases J:t.2.any (fun i=>decide (i∈gone)) with
   | true=>
    rw[J,Bool.not_true,if_neg (by decide)] at a
    walk_at "d"
    have:=q _ e
    rw[a] at this;exact this
   | false=>
    rw[J,Bool.not_false,if_pos rfl] at a;walk_at "d";refine Js (Oq H c w g d p k (.ref r) gone t.2) (e.aL l) ⟨_,rfl,e,by rw[take_zero,TB];exact(hD.same s2).same (F.trans s4)⟩ (fun j σ H' h=>by obtain⟨x,_,s,_⟩:=h;exact s.aL l) ?_ ?_
    ·rintro j σ H5 hj ⟨x,rfl,s5,f⟩;walk_at "d";refine JK f (aB (by rw[eG,wh];omega)) fun o Y=>⟨_,rfl,s5.set m _,?_⟩
     rw[take_snoc 0 hj,<-ro];exact Y
    ·rintro σ H5 ⟨x,rfl,s5,f⟩;rw[L3] at f;exact⟨d,gone++t.2,_,_,_,_,rfl,s5,m,f,by rw[eG];omega,a⟩
 ·rintro σ H1 ⟨d,gone,y1,y2,y3,x,rfl,T,m,hD,hgl,a⟩;rw[hL.length,List.drop_length,DE] at a;walk_at "d"
  have:=q _ T
  rw[a] at this;exact this
theorem pJ:DS (ak gU) ["many","i","seen"] ["many","i","seen"] []:=aO (by decide +kernel)
theorem Rx (D:Def K mg "ring_guess" gU):Fn P w K mg base 1 "ring_guess" ["many","i","seen"] Qp:=by
 refine D.gq pJ (fun _ _ _ _ _ _ o l=>by obtain⟨_,_,_,rfl⟩:=jJ l;rfl) (fun d H Q E h=>?_) ?_
 ·obtain⟨n,i,s,rfl,_⟩:=h;rfl
 intro X S a e2 j b g hc e f m hu H d Q E h;subst a e2 j b g;obtain⟨n,i,s,rfl,hn,q⟩:=h;refine⟨_,(af (cN (aS aX (kv S 1) (aR cF (kv S 0) aq) (au _)) (aj (aK (kv S 2))) ay)
   (aj (aK (aR cF aq (kv S 2))))),?_⟩
 walk_at "d";unfold rg at q;refine bU (fun c=>?_) (fun c=>?_)
 ·rw[if_pos (by omega)] at q;exact q
 ·rw[if_neg (by omega)] at q;exact q
theorem zA:DS (ak lF) ["counts","whole","count"] ["counts"] []:=aO (by decide +kernel)
theorem zB (D:Def K mg "product" lF):Fn P w K mg base 1 "product" ["counts"] (Fi K):=by
 refine D.gq zA (fun _ _ _ _ _ _ t r=>by obtain⟨_,rfl⟩:=fR r;rfl) (fun l H Q E h=>?_) ?_
 ·obtain⟨p,b,rfl,_⟩:=h;rfl
 intro X S g e2 o j n hc m d s hu H l Q E h;subst g e2 o j n;obtain⟨p,b,rfl,f,a,q⟩:=h;refine⟨_,(af (bw S 1 aq)
   (af (dO d hc (du (kv S 0) rfl) (kg S 2) (aj (bw S 1 (aR eD (kv S 1) (kv S 2)))))
   (aj (aK (kv S 1))))),?_⟩
 walk_at "d";refine Js (P5 H p b) f ⟨rfl,none,rfl⟩ (fun i σ e h=>by rw[h.1];exact f) ?_ ?_
 ·rintro i σ e hi ⟨c,y,rfl⟩;rw[c];walk_at "d";refine⟨(a.take i).B4.ok (a.get hi).bt (by omega),rfl,some (.int (b.getD i 0)),?_⟩
  rw[take_snoc 0 hi,sC]
 ·rintro σ e ⟨c,y,rfl⟩;rw[c,L3];walk_at "d";exact q
theorem mF:DS (ak ft) ["counts","hats","i","wheel","arc","start","seen","lacking"] ["counts","hats","i"] ["product","sum","range","len"]:=aO (by decide +kernel)
theorem Ry (B:Bn mg)(D:Def K mg "circle_guess" ft)(Dn:Fn P w K mg base 1 "product" ["counts"] (Fi K)):Fn P w K mg base 2 "circle_guess" ["counts","hats","i"] (P7 K):=by
 refine D.gq mF (fun _ _ _ _ _ _ us hl=>by obtain⟨_,_,_,rfl⟩:=jJ hl;rfl) (fun vs H Q E h=>?_) ?_
 ·obtain⟨p,h,b,F,i,rfl,_⟩:=h;rfl
 intro X S e1 e2 e3 M Y hc t U hr hu H vs Q E h;subst e1 e2 e3 M Y;obtain⟨p,h,b,F,i,rfl,n,hh,a,r,hi,q⟩:=h;refine⟨_,(af (bw S 3 (cE S 0 Dn hr (aa (kv S 0) ae)))
   (af (bw S 4 (aR cS (kv S 3) (aU (aI rfl) (kv S 0) (kv S 2) (fun _ _=>rfl))))
   (af (bw S 5 (c7 S 1 (c8 hc rfl) B.sum boot_sum (aa (ij S hc t (du (mM (jd rfl) (kv S 0) bC (bD (kv S 2))) rfl) (N:=["count","wheel"]) (W:=["count"]) (G:=[]) (fv:=[none,some 3]) (by decide +kernel) (fun L C Z s H d=>⟨(kg d 0),bg,(aR cS (kv d 1) (kv d 0))⟩)) ae)))
   (af (bw S 6 (c7 S 1 (c8 hc rfl) B.sum boot_sum (aa (ij S hc t (ig S 2 B.range (aa (c7 S 3 (aE rfl) B.len qE (aa (kv S 0) ae)) ae)) (N:=["j","i","hats","wheel","counts"]) (W:=["j"]) (G:=[]) (fv:=[none,some 2,some 1,some 3,some 0]) (by decide +kernel) (fun L C Z s H d=>⟨(kg d 0),(eV (aS lR (kv d 0) (kv d 1) (au _))),(aR eD (aU (aI rfl) (kv d 2) (kv d 0) (fun _ _=>rfl)) (aR cS (kv d 3) (aU (aI rfl) (kv d 4) (kv d 0) (fun _ _=>rfl))))⟩)) ae)))
   (af (bw S 7 (aR cV (aR cF (kv S 5) (kv S 6)) (kv S 3)))
   (aj (aK (aR cV (aR cS (aR cF (aR aV (kv S 7) (kv S 4)) aq) (kv S 4)) (aU (aI rfl) (kv S 0) (kv S 2) (fun _ _=>rfl)))))))))),?_⟩
 walk_at "d";refine⟨p,b,rfl,n,a,?_⟩;walk_at "d";refine dF n rfl hi ?_;have I:=Nu a hi;walk_at "d";refine⟨I,?_⟩;refine sD i n rfl hi fun s u=>?_;have y:ah H (upd H s (.tup ((b.take i).map V.int))):=ah.new u _;refine PY (fun _=>true) (fun j=>pr b / (b.take i).getD j 0) (aH.of ag) (aB (by have:=(a.take i).len;omega)) ?_ ?_
 ·intro j O A R hj z v _;walk_at "d";exact⟨Nu (a.take i) hj,v rfl _ (ah.refl _)⟩
 intro T H1 hn z g;rw[bG,L2.map_getD (b.take i) (fun c=>pr b / c)] at g;refine k7 (ax.of g) ?_;rw[show ((b.take i).map fun c=>pr b / c).sum=bP (pr b) (b.take i) from rfl]
 have l:=y.trans z;walk_at "d";refine aZ (.inr (l.aL n)) ?_;rw[cc];refine OK b.length (fun j=>decide (¬ j=i)) (fun j=>F.getD j 0*(pr b / b.getD j 0)) rfl (by have:=a.len;omega) ?_ ?_
 ·intro j O A R hj x v hB;walk_at "d";rw[Nv]
  by_cases f:j=i
  ·rw[ed (not_not_intro f)];walk_at "d";exact hB (by rw[ed (not_not_intro f)]) _ (ah.refl _)
  ·rw[dt f];walk_at "d";have e:=l.trans x;refine dF (e.aL hh) rfl (by rw[r.len];exact hj) ?_
   refine dF (e.aL n) rfl hj ?_;walk_at "d";exact⟨Nu a hj,(r.bt j hj).ok (Lr a hj) (by decide),v (dt f) _ (ah.refl _)⟩
 intro J H2 hn2 e m;refine k7 (ax.of m) ?_;walk_at "d";have o:=l.trans e;have ha:=yj a.pos hi;refine⟨by have:=a.jt;omega,⟨by omega,(Lr a hi).log (by omega) (by decide)⟩,?_⟩
 refine dF (o.aL n) rfl hi ?_;walk_at "d";exact⟨I.1,q H2 o⟩
theorem oM:DS (ak fW) ["counts","groups","hats","i","kind","people","place"] ["counts","groups","hats","i"] ["circle_guess","ring_guess","picked","len"]:=aO (by decide +kernel)
theorem Rz (B:Bn mg)(D:Def K mg "group_guess" fW)(ur:Fn P w K mg base 1 "ring_guess" ["many","i","seen"] Qp)(kJ:Fn P w K mg base 1 "picked" ["values","people"] (nM K))(oU:Fn P w K mg base 2 "circle_guess" ["counts","hats","i"] (P7 K)):Fn P w K mg base 3 "group_guess" ["counts","groups","hats","i"] (Qu K):=by
 refine D.gq oM (fun _ _ _ _ _ _ T hl=>by obtain⟨_,_,_,_,rfl⟩:=G8 hl;rfl) (fun vs H Q E h=>?_) ?_
 ·obtain⟨c,g,hb,u,y,ws,T,L,i,rfl,_⟩:=h;rfl
 intro X S e1 e2 e3 Z e5 hc hsc J z hu H vs Q E h;subst e1 e2 e3 Z e5;obtain⟨c,g,hb,u,y,ws,T,L,i,rfl,O,U,R,hh,r,hn,go,hi,q⟩:=h;refine⟨_,(af (dO J hc (du (kv S 1) rfl) (jl hc (K:=X.K) (n:=2) rfl (aJ (kg S 4) (aJ (kg S 5) cA))) (aj (cN (aS (EK rfl) (kv S 3) (kv S 5) (by with_unfolding_all rfl)) (af (bw S 6 (SK PySem.F.plainAttrs_tuple slot_tuple_index PySem.F.type_tuple_index (yG rfl) rfl (kv S 5) (aa (kv S 3) ae)))
   (af (cN (aS aX (kv S 4) bc (au _)) (aj (aK (cE S 1 ur z (aa (c7 S 3 (aE rfl) B.len qE (aa (kv S 5) ae)) (aa (kv S 6) (aa (aU (aI rfl) (kv S 2) (aU (aI rfl) (kv S 5) (aR cV (aR aV (kv S 6) aq) (c7 S 3 (aE rfl) B.len qE (aa (kv S 5) ae))) (fun _ _=>rfl)) (fun _ _=>rfl)) ae)))))) ay)
   (aj (aK (cE S 0 oU z (aa (cE S 2 kJ z (aa (kv S 0) (aa (kv S 5) ae))) (aa (cE S 2 kJ z (aa (kv S 2) (aa (kv S 5) ae))) (aa (kv S 6) ae)))))))) ay)))
   (aj (aK aq))),?_⟩
 walk_at "d";refine NO (Qr X.K H c g hb L i) U R ⟨ah.refl _,fun t W=>absurd W (I1 t),_,_,_,rfl⟩ (fun k σ H' h=>⟨h.1.aL U,R.mono h.1⟩) ?_ ?_
 ·rintro k v p σ H1 hk s A ⟨m,f,y1,y2,y3,rfl⟩;have o:=go.each v (h5 hk);have d:v.2.length<=8:=h9 (cG o.nd o.lt) r.len;walk_at "d";refine AI (a:=v.2) (.inr s) ?_
  by_cases hm:i∈v.2
  ·have ef:=yI f hk hm;have eq:sT u L y i=FG u y v i:=by unfold sT;rw[ef]
   rw[eq] at q;obtain⟨b,l⟩:=v;have hm:i∈l:=hm;have M:=Da hm;rw[dt hm];walk_at "d";refine⟨⟨p,rfl,A⟩,p,az l,(i:Int),rfl,rfl,s,mO.mpr hm,?_⟩;rw[AH];walk_at "d";have e:decide (kd b="ring")=b:=sR b
   (try simp only[qC,ve])
   (try simp only[e])
   (try simp only[show (kd b=Str.ofString "ring")=(b=true) from propext ⟨fun h=>by cases b<;>first | rfl | exact absurd h (by decide),fun h=>by rw[h];rfl⟩])
   cases b with
   | true=>
    simp only[if_true];walk_at "d";refine aZ (.inr s) ?_;refine aZ (.inr s) ?_;rw[cc,ao];walk_at "d";refine⟨by omega,?_⟩
    have j:(l.idxOf i+1) % l.length<l.length:=mod_lt _ (by omega)
    have C:l.getD ((l.idxOf i+1) % l.length) 0<u.length:=o.lt _ (dX j);refine dF (k:=(l.idxOf i+1) % l.length) s (by rw[natCast_emod,natCast_add];rfl) (by rw[ao];exact j) ?_
    rw[aM];refine dF (m.aL hh) rfl (by rw[hn.1];exact C) ?_
    exact⟨l.length,l.idxOf i,_,rfl,by omega,q H1 m⟩
   | false=>
    simp only[Bool.false_eq_true,if_false];walk_at "d";refine⟨c,p,u,l,rfl,m.aL O,s,o.lt,d,fun t1 H2 G N=>?_⟩;refine⟨hb,p,y,l,rfl,(m.trans G).aL hh,G.aL s,fun x hx=>by rw[hn.1];exact o.lt x hx,d,fun t2 H3 Y I=>?_⟩
    refine⟨t1,t2,pk u l,pk y l,l.idxOf i,rfl,aH.of (Y _ _ N),aH.of I,FF r (g:=(false,l)) ⟨o.lt,d⟩,JJ r hn o.lt,by rw[sS];exact M,fun H4 s4=>?_⟩
    exact q H4 (m.trans (G.trans (Y.trans s4)))
  ·rw[ed hm];walk_at "d";refine⟨m,fun t W x hx=>?_,_,_,_,rfl⟩
   by_cases e:t=k
   ·subst e;rw[hk] at hx
    cases hx
    exact hm
   ·exact f t (by omega) x hx
 ·rintro σ H1 ⟨m,f,y1,y2,y3,rfl⟩;walk_at "d"
  have:=q H1 m
  unfold sT at this;rw[yH f] at this;exact this
theorem wO:DS (ak jP) ["counts","hats"] ["counts","hats"] ["all","len","zip"]:=aO (by decide +kernel)
theorem zC (B:Bn mg)(D:Def K mg "are_hats" jP):Fn P w K mg base 1 "are_hats" ["counts","hats"] (LS K):=by
 refine D.gq wO (fun _ _ _ _ _ _ z b=>by obtain⟨_,_,rfl⟩:=eA b;rfl) (fun v H Q E h=>?_) ?_
 ·obtain⟨c,hb,f,a,rfl,_⟩:=h;rfl
 intro X S u e2 t o r hc l p J hu H v Q E h;subst u e2 t o r;obtain⟨c,hb,f,a,rfl,d,hh,F,q⟩:=h;refine⟨_,(aj (aK (pf (ie aX (c7 S 1 (aE rfl) B.len qE (aa (kv S 1) ae)) (c7 S 1 (aE rfl) B.len qE (aa (kv S 0) ae)) (au _)) (yf (c7 S 0 (cU hc rfl) B.all boot_all (aa (ij S hc l (OR false false S 2 B.zip rfl (aa (kv S 1) (aa (kv S 0) ae))) (N:=["colour","count"]) (W:=["colour","count"]) (G:=[]) (fv:=[none,none]) (by decide +kernel) (fun y C I s H i=>⟨(jl rfl (K:=X.K) (n:=2) rfl (aJ (kg i 0) (aJ (kg i 1) cA))),bg,(EW nk fG aq (kv i 0) (kv i 1))⟩)) ae)))))),?_⟩
 walk_at "d";refine aZ (.inr hh) ?_;refine aZ (.inr d) ?_;rw[cc,cc];simp only[As,ve]
 by_cases b:a.length=f.length
 ·rw[b,dt rfl];walk_at "d";refine Og _ (fun k=>.bl (decide (0<=a.getD k 0)&&decide (a.getD k 0<f.getD k 0))) hh d (dy _) (Nat.le_of_eq b) (.inl (dy _)) (aB (by omega)) ?_ ?_
  ·intro k H1 A hk m x;walk_at "d"
   have:=x H1 (ah.refl _)
   by_cases g:0<=a.getD k 0
   ·rw[dt g,q7] at this;rw[if_pos g];exact this
   ·rw[ed g,tz] at this;rw[if_neg g];exact this
  ·intro j H1 hn m e;refine⟨j,(List.range a.length).map fun k=>decide (0<=a.getD k 0)&&decide (a.getD k 0<f.getD k 0),rfl,ax.of (by rw[e,kc];rfl),?_⟩
   have:=q H1 m
   unfold gs at this;rw[dt b,q7] at this;rw[P3,b];exact this
 ·rw[ed (by omega)]
  walk_at "d"
  have:=q H (ah.refl _)
  unfold gs at this;rw[ed b,tz] at this;exact this
theorem lL:DS (ak eY) ["self","counts","web","groups"] ["self","counts","web","groups"] ["group_fault","NoGroups","len"]:=aO (by decide +kernel)
variable {aA:Addr}
theorem HG (B:Bn mg)(bf:gp K mg "Hall" aA ["counts","groups","worn"])(D:pA K aA "__init__" "Hall.__init__" eY)(pV:Fn P w K mg base 4 "group_fault" ["counts","web","groups"] (vE K)):uK P w K mg base 5 aA "__init__" ["self","counts","web","groups"] (wx K aA):=by
 refine D.gq lL (fun _ _ _ _ _ _ r hl=>by obtain⟨_,_,_,_,rfl⟩:=G8 hl;rfl) (fun vs H Q E h=>?_) ?_
 ·obtain⟨x,a,c,w,g,o,v,r,L,rfl,_⟩:=h;rfl
 intro X S e1 e2 Z O e5 hc hsc Y hr hu H vs Q E h;subst e1 e2 Z O e5;obtain⟨x,a,c,w,g,o,v,r,L,rfl,A,i,T,I,R,G,U,C,F,W,q⟩:=h;refine⟨_,(af (cN (aS vk (cE S 0 pV hr (aa (kv S 1) (aa (kv S 2) (aa (kv S 3) ae)))) my (au _)) (aj iJ) ay)
   (af (OP bf (kv S 0) (kv S 1))
   (af (OP bf (kv S 0) (kv S 3))
   (aj (OP bf (kv S 0) (aR (GB rfl) (qF (aa aq ae)) (c7 S 2 (aE rfl) B.len qE (aa (kv S 1) ae)))))))),?_⟩
 walk_at "d";refine⟨c,w,g,o,v,r,L,rfl,i,T,I,R,G,U,C,F,fun H1 f=>?_⟩
 cases N:DE o v [] 0 L with
 | some k=>
  show nF (.int (k:Int)) .bE H1 _;walk_at "d";exact W (by rw[N];exact fun z=>nomatch z) H1 f
 | none=>
  show nF .bE .bE H1 _;walk_at "d";have b:=f _ _ A;have j:=f.aL i;refine⟨x,a,[],rfl,b,by decide,x,a,LU c,rfl,ag,by show 1<_;decide,by decide,fun p y=>?_⟩
  rw[Cy,Cz,Ih] at y ⊢;have e:upd H1 x (.ins aA a (Bd c g)) x=some (.ins aA a (Bd c g)):=ag;have s:Off x H1 (upd H1 x (.ins aA a (Bd c g))):=Off.upd;have m:=j.dk s b;generalize upd H1 x (.ins aA a (Bd c g))=H2 at y e s m ⊢;have u:=ah.new y (.tup [.int 0]);refine aZ (.inr (u.aL m)) ?_;rw[cc];refine⟨p,o.length,_,rfl,rfl,aH.of ag,by omega,fun n t J hn=>?_⟩
  have l:=J _ _ (u _ _ e);refine⟨x,a,_,rfl,l,by show 2<_;decide,?_⟩
  rw[Kb];have M:Off x t (upd t x (.ins aA a (xA c g n))):=Off.upd;have d:Off x H1 (upd t x (.ins aA a (xA c g n))):=s.trans ((u.trans J).vt.trans M);refine q N _ (f.vt.trans d) ⟨⟨a,n,ag,?_⟩,j.dk d b,(f.aL I).dk d b⟩;rw[List.map_replicate];exact hn.dk M l
theorem mG:DS (ak fC) ["self","hats"] ["self","hats"] ["are_hats","NoHats"]:=aO (by decide +kernel)
theorem zD (B:Bn mg)(bf:gp K mg "Hall" aA ["counts","groups","worn"])(D:pA K aA "put_all" "Hall.put_all" fC)(zN:Fn P w K mg base 1 "are_hats" ["counts","hats"] (LS K)):uK P w K mg base 2 aA "put_all" ["self","hats"] (rq K aA):=by
 refine D.gq mG (fun _ _ _ _ _ _ r z=>by obtain⟨_,_,rfl⟩:=eA z;rfl) (fun C H Q E h=>?_) ?_
 ·obtain⟨a,hb,c,g,m,i,f,r,rfl,_⟩:=h;rfl
 intro X S A e2 y t x hc G v F hu H C Q E h;subst A e2 y t x;obtain⟨a,hb,c,g,m,i,f,r,rfl,l,hh,j,u,q⟩:=h;obtain⟨e,n,p,hn⟩:=l.ex;refine⟨_,(af (cN (sy (ph (cE S 0 zN F (aa (v9 bf (kv S 0)) (aa (kv S 1) ae))))) (aj iJ) ay)
   (aj (OP bf (kv S 0) (kv S 1)))),?_⟩
 walk_at "d";refine⟨a,e,_,_,rfl,p,ly,c,hb,m,f,rfl,l.Oz,hh,j,fun H1 d=>?_⟩;walk_at "d"
 cases s:gs m f with
 | false=>
  walk_at "d";exact u s H1 d
 | true=>
  walk_at "d";have b:=d _ _ p;refine⟨a,e,_,rfl,b,by show 3<_;decide,?_⟩
  rw[GJ];have o:Off a H1 (upd H1 a (.ins aA e (xA c g hb))):=Off.upd;exact q s _ (d.vt.trans o) (l.off (d.vt.trans o) ⟨e,ag⟩ ((d.aL hh).dk o b))
theorem wQ:DS (ak jR) ["self","i","colour"] ["self","i","colour"] ["NoName","len"]:=aO (by decide +kernel)
theorem Ky (B:Bn mg)(bf:gp K mg "Hall" aA ["counts","groups","worn"])(D:pA K aA "put" "Hall.put" jR)(oX:uK P w K mg base 2 aA "put_all" ["self","hats"] (rq K aA)):uK P w K mg base 3 aA "put" ["self","i","colour"] (Bm K aA):=by
 refine D.gq wQ (fun _ _ _ _ _ _ o Z=>by obtain⟨_,_,_,rfl⟩:=jJ Z;rfl) (fun vs H Q E h=>?_) ?_
 ·obtain⟨a,c,g,y,b,o,i,d,rfl,_⟩:=h;rfl
 intro X S e1 e2 Y O U hc hsc T hr hu H vs Q E h;subst e1 e2 Y O U;obtain⟨a,c,g,y,b,o,i,d,rfl,x,R,u,G,C,q⟩:=h;obtain⟨l,n,j,hn⟩:=x.ex;refine⟨_,(af (cN (sy (yg nk fG aq (kv S 1) (c7 S 1 (aE rfl) B.len qE (aa (v9 bf (kv S 0)) ae)))) (aj iJ) ay)
   (aj (df (Bc bf oX dQ hr (kv S 0) (aa (aR (iB rfl) (aR (iB rfl) (mM (jd rfl) (v9 bf (kv S 0)) bC (bD (kv S 1))) (qF (aa (kv S 2) ae))) (mM (jd rfl) (v9 bf (kv S 0)) (bD (aR aV (kv S 1) aq)) bC)) ae))))),?_⟩
 walk_at "d";refine bU (fun m=>?_) (fun m=>G (fun z=>m z.1) H (ah.refl _));refine⟨a,l,_,_,rfl,j,ly,?_⟩;refine aZ (.inr x.Oz) ?_;rw[cc];walk_at "d"
 by_cases h1:i<(y.length:Int)
 ·rw[dt h1];walk_at "d";obtain⟨k,rfl⟩:∃ k:Nat,i=(k:Int):=⟨i.toNat,by omega⟩
  have hk:k<b.length:=by omega
  rw[yx] at C q;refine⟨a,l,_,rfl,j,we,a,l,_,_,rfl,j,mV,?_⟩;refine sD k hn rfl (by omega) fun t1 s=>?_
  have s1:=ah.new s (.tup ((b.take k).map V.int));walk_at "d";refine⟨by decide,fun t2 r=>?_⟩
  have J:=ah.new r (.tup [.int d]);refine sG (ns:=b.take k) (ms:=[d]) (aH.of (J _ _ ag)) (aH.of ag) (bY (by rw[wh];show _+1<=100;omega)) fun t3 H3 s3 L=>?_
  have e:=s1.trans (J.trans s3);have t:=e _ _ j;refine⟨a,l,_,_,rfl,t,mV,?_⟩;refine sE k (e.aL hn) (by omega) (by omega) fun t4 v=>?_
  have F:=ah.new v (.tup ((b.drop (k+1)).map V.int));refine sG (ns:=b.take k++[d]) (ms:=b.drop (k+1)) (F.aL L) (aH.of ag) (bY (by rw[eG,wh,uF];show _+1+_<=100;omega)) fun W H5 N I=>?_
  have f:=e.trans (F.trans N);have M:b.take k++[d]++b.drop (k+1)=b.set k d:=by
   rw[List.set_eq_take_append_cons_drop,if_pos hk,ro];rfl
  rw[M] at I;exact⟨a,W,c,g,y,b,b.set k d,o,rfl,x.mono f,I,u,fun z A s6=>C ⟨m,h1⟩ z A (f.trans s6),fun z A o6 p=>q ⟨m,h1⟩ z A (f.vt.trans o6) p⟩
 ·rw[ed h1];walk_at "d";exact G (fun z=>h1 z.2) H (ah.refl _)
theorem pK:DS (ak g9) ["self","i"] ["self","i"] ["group_guess"]:=aO (by decide +kernel)
theorem C7 (B:Bn mg)(bf:gp K mg "Hall" aA ["counts","groups","worn"])(D:pA K aA "guess" "Hall.guess" g9)(pW:Fn P w K mg base 3 "group_guess" ["counts","groups","hats","i"] (Qu K)):uK P w K mg base 4 aA "guess" ["self","i"] (nW K aA):=by
 refine D.gq pK (fun _ _ _ _ _ _ d y=>by obtain⟨_,_,rfl⟩:=eA y;rfl) (fun A H Q E h=>?_) ?_
 ·obtain⟨a,c,g,o,l,m,d,L,i,rfl,_⟩:=h;rfl
 intro X S z e2 x p u hc F t C hu H A Q E h;subst z e2 x p u;obtain⟨a,c,g,o,l,m,d,L,i,rfl,f,r,j,v,s,hi,q⟩:=h;obtain⟨e,n,b,hn⟩:=f.ex;refine⟨_,(aj (aK (cE S 0 pW C (aa (v9 bf (kv S 0)) (aa (v9 bf (kv S 0)) (aa (v9 bf (kv S 0)) (aa (kv S 1) ae))))))),?_⟩;walk_at "d";exact⟨a,e,_,_,rfl,b,ly,a,e,_,_,rfl,b,rk,a,e,_,_,rfl,b,mV,c,g,n,o,l,m,d,L,i,rfl,f.Oz,f.OV,r,hn,j,v,s,hi,q⟩
def rG (K:Frag)(C:Addr):Sp:=fun b H Q _=>∃ (a c g:Addr) (cs hs:List Int) (ws:List Nat) (us:List V) (L:List (Bool × List Nat)),b=[.ref a]/\cC K C H a c g cs us hs/\GF K H us L/\cp cs/\HN cs hs cs.length/\yD cs ws L/\∀ (l:Addr) (H':Hp),ah H H'->H l=none->H' l=some (.lst ((az (eL cs hs L)).map V.int))->Q (.ref l) H'
theorem pL:DS (ak hJ) ["self"] ["self"] ["enumerate"]:=aO (by decide +kernel)
theorem C8 (B:Bn mg)(bf:gp K mg "Hall" aA ["counts","groups","worn"])(D:pA K aA "right" "Hall.right" hJ)(hX:uK P w K mg base 4 aA "guess" ["self","i"] (nW K aA)):uK P w K mg base 5 aA "right" ["self"] (rG K aA):=by
 refine D.gq pL (fun _ _ _ _ _ _ o U=>by obtain⟨_,rfl⟩:=fR U;rfl) (fun vs H Q E h=>?_) ?_
 ·obtain⟨a,c,g,m,d,y,o,L,rfl,_⟩:=h;rfl
 intro X S Z e2 T J e5 hc u R hr hu H vs Q E h;subst Z e2 T J e5;obtain⟨a,c,g,m,d,y,o,L,rfl,z,M,j,l,O,q⟩:=h;obtain⟨x,n,v,hn⟩:=z.ex;refine⟨_,(aj (aK (ij S hc u (Fo S 0 B.enumerate rfl (aa (v9 bf (kv S 0)) ae)) (N:=["i","colour","self"]) (W:=["i","colour"]) (G:=[]) (fv:=[none,none,some 0]) (by decide +kernel) (fun cl C fp s H f=>⟨(jl rfl (K:=X.K) (n:=2) rfl (aJ (kg f 0) (aJ (kg f 1) cA))),(eV (aS aX (Bc bf hX dQ hr (kv f 2) (aa (kv f 0) ae)) (kv f 1) (au _))),(kv f 0)⟩)))),?_⟩
 walk_at "d";refine⟨a,x,_,_,rfl,v,mV,?_⟩;refine Qq (fun i=>decide (sT m L d i=d.getD i 0)) (fun i=>(i:Int)) hn (by rw[l.1];exact aB (by have:=j.len;omega)) ?_ ?_
 ·intro i H1 A B' hi p r hB;rw[l.1] at hi;walk_at "d";refine⟨a,x,_,rfl,p _ _ v,we,a,c,g,m,d,y,o,L,i,rfl,z.mono p,M.mono p,j,l,O,hi,fun F I=>?_⟩;walk_at "d"
  by_cases e:sT m L d i=d.getD i 0
  ·rw[if_pos e];exact r (dt e) F I
  ·rw[if_neg e];exact hB (ed e) F I
 ·intro t H1 h0 Y b;rw[l.1] at b;exact q t H1 Y h0 b
theorem Kz:DS (ak zq) ["part","word"] ["part","word"] ["is_name","is_count"]:=aO (by decide +kernel)
theorem KA (D:Def K mg "fits" zq)(gw:Fn P w K mg base 1 "is_name" ["word"] kx)(jU:Fn P w K mg base 1 "is_count" ["word"] lq):Fn P w K mg base 2 "fits" ["part","word"] Hi:=by
 refine D.gq Kz (fun _ _ _ _ _ _ n m=>by obtain⟨_,_,rfl⟩:=eA m;rfl) (fun f H Q E h=>?_) ?_
 ·obtain⟨p,z,rfl,_⟩:=h;rfl
 intro X S d e2 l e j hc g i b hu H f Q E h;subst d e2 l e j;obtain⟨p,z,rfl,hz,q⟩:=h;unfold rn at q;refine⟨_,(af (cN (aS aX (kv S 0) bc (au _)) (aj (aK (cE S 0 gw b (aa (kv S 1) ae)))) ay)
   (aj (aK (S6 (ie aX (kv S 1) bc (au _)) (yf (cE S 1 jU b (aa (kv S 1) ae))))))),?_⟩
 walk_at "d";refine bU (fun c=>?_) (fun c=>?_)
 ·rw[if_pos c] at q;exact⟨z,rfl,hz,q⟩
 ·rw[if_neg c] at q;refine bU (fun a=>?_) (fun a=>?_)
  ·rw[dt a,Bool.true_or] at q;exact q H (ah.refl _)
  ·rw[ed a,Bool.false_or] at q;exact⟨z,rfl,hz,q⟩
theorem C9:DS (ak ow) ["words","form","behind"] ["words"] ["FORMS","all","len","zip"]:=aO (by decide +kernel)
variable {aF:Addr}{eF:Nat->Addr}
theorem HH (B:Bn mg)(FT:tJ P w K mg aF eF)(D:Def K mg "is_ask" ow)(OC:Fn P w K mg base 2 "fits" ["part","word"] Hi):Fn P w K mg base 3 "is_ask" ["words"] (Bj K eF):=by
 refine D.gq C9 (fun _ _ _ _ _ _ us j=>by obtain⟨_,rfl⟩:=fR j;rfl) (fun M H Q E h=>?_) ?_
 ·obtain⟨p,x,c,f,b,rfl,_⟩:=h;rfl
 intro X S J e2 F v z hc o y O hu H M Q E h;subst J e2 F v z;obtain⟨p,x,c,f,b,rfl,r,t,hx,j,h8,hz,T,e,q⟩:=h;refine⟨_,(af (cN (Q9 FT.OT (aU (ai rfl) (kv S 0) aq (fun _ _=>rfl)) (Q7 S 0 FT.gl) (by with_unfolding_all rfl)) (aj (aK xy)) ay)
   (af (bw S 1 (Q8 FT.OT (Q7 S 0 FT.gl) (aU (ai rfl) (kv S 0) aq (fun _ _=>rfl))))
   (af (bw S 2 (mM (cq rfl) (kv S 0) (bD aq) bC))
   (aj (aK (pf (ie aX (c7 S 2 (aE rfl) B.len qE (aa (kv S 2) ae)) (c7 S 2 (aE rfl) B.len qE (aa (kv S 1) ae)) (au _)) (yf (c7 S 1 (cU hc rfl) B.all boot_all (aa (ij S hc o (OR false true S 3 B.zip rfl (aa (kv S 1) (aa (kv S 2) ae))) (N:=["part","word"]) (W:=["part","word"]) (G:=["fits"]) (fv:=[none,none]) (by decide +kernel) (fun Z C fp s H g=>⟨(jl rfl (K:=X.K) (n:=2) rfl (aJ (kg g 0) (aJ (kg g 1) cA))),bg,(cE g 0 OC O (aa (kv g 0) (aa (kv g 1) ae)))⟩)) ae))))))))),?_⟩
 walk_at "d";refine av (i:=((0:Nat):Int)) r (aw rfl) ?_;refine⟨.inr c,trivial,rfl,?_⟩;rw[t];walk_at "d";rw[if_neg (by simp)]
 refine av (i:=((0:Nat):Int)) r (aw rfl) ?_;refine⟨.inr c,_,trivial,rfl,t,?_⟩;refine⟨p,_,rfl,r,fun a u=>?_⟩;rw[show (some (1:Int))=some ((1:Nat):Int) from rfl,dv,<-TR]
 have L:=ah.new u (.lst (b.map V.str));refine aZ (.inl (ax.of ag)) ?_;refine aZ (.inr (e _)) ?_;rw[cc,cc];simp only[As,ve];rw[if_pos (dt (by show ((b.length:Nat):Int)=_;rw[j]))]
 refine Rh (fun _=>.bl true) (e _) (ax.of ag) (by rw[cc,cc];exact j.symm) (by rw[cc];exact aB (by omega)) ?_ ?_
 ·intro i H1 A hi hS R;rw[cc] at hi;have m:i<((c::b).drop 1).length:=by show i<b.length;omega
  rw[show (f.map V.str).getD i .bE=.str (f.getD i aW) by rw[b4,aQ hi];rfl,show (((c::b).drop 1).map V.str).getD i .bE=.str (b.getD i aW) by rw[b4,aQ m];rfl]
  walk_at "d";refine⟨_,_,rfl,hz _ (getD_memS (show i<b.length by omega)),fun U Y=>?_⟩
  rw[T i hi];exact R U Y
 ·intro l H1 hn I d;refine⟨l,(List.range (f.map V.str).length).map fun _=>true,rfl,ax.of (by rw[d,kc];rfl),?_⟩
  rw[show ((List.range (f.map V.str).length).map fun _=>true).all id=true from kb.mpr fun x hx=>by obtain⟨_,_,rfl⟩:=ih.mp hx;rfl]
  exact q H1 (L.trans I)
theorem tY:DS (ak iV) ["names","name"] ["names","name"] ["NoName"]:=aO (by decide +kernel)
theorem Ot (B:Bn mg)(D:Def K mg "number_of" iV):Fn P w K mg base 1 "number_of" ["names","name"] (Hl K):=by
 refine D.gq tY (fun _ _ _ _ _ _ s o=>by obtain⟨_,_,rfl⟩:=eA o;rfl) (fun f H Q E h=>?_) ?_
 ·obtain⟨p,b,z,rfl,_⟩:=h;rfl
 intro X S d e2 n e l hc g j r hu H f Q E h;subst d e2 n e l;obtain⟨p,b,z,rfl,a,c,i,q⟩:=h;refine⟨_,(af (cN (aS (dS rfl) (kv S 1) (kv S 0) (by with_unfolding_all rfl)) (aj iJ) ay)
   (aj (aK (SK PySem.F.plainAttrs_tuple slot_tuple_index PySem.F.type_tuple_index (zd rfl) rfl (kv S 0) (aa (kv S 1) ae))))),?_⟩
 walk_at "d";refine nP (neg:=true) (.inr a) ?_
 by_cases m:z∈b
 ·rw[if_pos rfl,dt m];walk_at "d";exact⟨⟨p,rfl,c⟩,p,b,z,rfl,rfl,a,m,q m H (ah.refl _)⟩
 ·rw[if_pos rfl,ed m];walk_at "d";exact i m H (ah.refl _)
theorem wR:DS (ak m9) ["names","people"] ["names","people"] ["len"]:=aO (by decide +kernel)
theorem Dc (B:Bn mg)(D:Def K mg "named" m9):Fn P w K mg base 1 "named" ["names","people"] (wt K):=by
 refine D.gq wR (fun _ _ _ _ _ _ us U=>by obtain⟨_,_,rfl⟩:=eA U;rfl) (fun vs H Q E h=>?_) ?_
 ·obtain⟨p,f,v,l,rfl,_⟩:=h;rfl
 intro X S Z e2 T J O hc r M hr hu H vs Q E h;subst Z e2 T J O;obtain⟨p,f,v,l,rfl,m,R,g,q⟩:=h;refine⟨_,(af (cN (Ic (Nm (aS mN (kv S 1) my (au _)) (yh (aS aX (c7 S 0 (aE rfl) B.len qE (aa (kv S 1) ae)) aq (au _))))) (aj (aK (dW ae))) ay)
   (aj (aK (dW (aa (h7 zP GM KM (bH rfl) rfl bc (aa (ij S hc r (du (kv S 1) rfl) (N:=["i","names"]) (W:=["i"]) (G:=[]) (fv:=[none,some 0]) (by decide +kernel) (fun cl C fp s H u=>⟨(kg u 0),bg,(aU (aI rfl) (kv u 1) (kv u 0) (fun _ _=>rfl))⟩)) ae)) ae))))),?_⟩
 rcases R with ⟨rfl,rfl⟩ | ⟨a,rfl,n⟩
 ·walk_at "d";refine⟨by decide,fun t d=>?_⟩
  exact q t _ (ah.new d _) d ag
 ·walk_at "d";refine aZ (.inr n) ?_;rw[cc,ao];walk_at "d";refine bU (fun c=>?_) (fun c=>?_)
  ·have e:l=[]:=List.length_eq_zero_iff.mp (by omega)
   subst e;refine⟨by decide,fun t d=>?_⟩
   exact q t _ (ah.new d _) d ag
  ·have e:l≠[]:=fun z=>c (by rw[z];rfl)
   walk_at "d";refine⟨rfl,a,rfl,⟨_,n⟩,qI (gk n) (fun _=>true) (fun i=>.str (f.getD (l.getD i 0) aW)) (by rw[cc,ao];exact aB (by have:=g.eU;omega)) ?_ ?_⟩
   ·intro i H1 A B' hi L hA _;rw[cc,ao] at hi;rw[et hi];walk_at "d";refine bh (L.aL m) (aw (aQ (g.lt _ (ez hi)))) ?_;exact hA rfl _ (ah.refl _)
   intro o H1 hn y b;rw[bG,cc,ao,b9 (fun j=>V.str (f.getD j aW)),show (l.map fun j=>V.str (f.getD j aW))=(l.map fun j=>f.getD j aW).map V.str by rw[kc];rfl] at b
   have x:=namesW g;have Y:=g.eU;have h1:=eB 32 12 _ x;have h2:=eh 12 _ x;rw[cc] at h1 h2;have I:(1000:Nat)<=sizeLine:=by decide
   refine⟨_,o,l.map fun j=>f.getD j aW,rfl,rfl,ax.of b,?_,?_,?_⟩
   ·rw[bq];show ((l.map fun j=>f.getD j aW).map fun z=>z.length+1).sum<=_
    omega
   ·rw[bq];omega
   rw[bq];refine⟨by decide,fun t d=>?_⟩
   refine q t _ (y.trans (ah.new d _)) (y.free d) ?_;rw[ag];unfold eM;rw[if_neg e];rfl
theorem Dd (B:Bn mg)(D:Def K mg "named" m9):Fn P w K mg base 1 "named" ["names","people"] (wu K):=by
 refine D.gq wR (fun _ _ _ _ _ _ us R=>by obtain⟨_,_,rfl⟩:=eA R;rfl) (fun Y H Q E h=>?_) ?_
 ·obtain⟨p,a,d,l,rfl,_⟩:=h;rfl
 intro X S U e2 O I M hc r L hr hu H Y Q E h;subst U e2 O I M;obtain⟨p,a,d,l,rfl,m,n,g,q⟩:=h;refine⟨_,(af (cN (Ic (Nm (aS mN (kv S 1) my (au _)) (yh (aS aX (c7 S 0 (aE rfl) B.len qE (aa (kv S 1) ae)) aq (au _))))) (aj (aK (dW ae))) ay)
   (aj (aK (dW (aa (h7 zP GM KM (bH rfl) rfl bc (aa (ij S hc r (cB (kv S 1) rfl) (N:=["i","names"]) (W:=["i"]) (G:=[]) (fv:=[none,some 0]) (by decide +kernel) (fun cl C fp s H u=>⟨(kg u 0),bg,(aU (aI rfl) (kv u 1) (kv u 0) (fun _ _=>rfl))⟩)) ae)) ae))))),?_⟩
 walk_at "d";refine aZ (.inl n) ?_;rw[cc,ao];walk_at "d";refine bU (fun c=>?_) (fun c=>?_)
 ·have e:l=[]:=List.length_eq_zero_iff.mp (by omega)
  subst e;refine⟨by decide,fun t f=>?_⟩
  exact q t _ (ah.new f _) f ag
 ·have e:l≠[]:=fun z=>c (by rw[z];rfl)
  walk_at "d";refine⟨rfl,a,rfl,⟨_,n⟩,qI (cT n) (fun _=>true) (fun i=>.str (d.getD (l.getD i 0) aW)) (by rw[cc,ao];exact aB (by have:=g.eU;omega)) ?_ ?_⟩
  ·intro i H1 A B' hi J Z _;rw[cc,ao] at hi;rw[et hi];walk_at "d";refine bh (J.aL m) (aw (aQ (g.lt _ (ez hi)))) ?_;exact Z rfl _ (ah.refl _)
  intro o H1 hn x b;rw[bG,cc,ao,b9 (fun j=>V.str (d.getD j aW)),show (l.map fun j=>V.str (d.getD j aW))=(l.map fun j=>d.getD j aW).map V.str by rw[kc];rfl] at b
  have v:=namesW g;have T:=g.eU;have h1:=eB 32 12 _ v;have h2:=eh 12 _ v;rw[cc] at h1 h2;have y:(1000:Nat)<=sizeLine:=by decide
  refine⟨_,o,l.map fun j=>d.getD j aW,rfl,rfl,ax.of b,?_,?_,?_⟩
  ·rw[bq];show ((l.map fun j=>d.getD j aW).map fun z=>z.length+1).sum<=_
   omega
  ·rw[bq];omega
  rw[bq];refine⟨by decide,fun t f=>?_⟩
  refine q t _ (x.trans (ah.new f _)) (x.free f) ?_;rw[ag];unfold eM;rw[if_neg e];rfl
theorem oO:DS (ak f7) ["counts","told","over","under"] ["counts"] ["share"]:=aO (by decide +kernel)
theorem KD (D:Def K mg "shown_share" f7)(uk:Fn P w K mg base 2 "share" ["counts"] (sH K)):Fn P w K mg base 3 "shown_share" ["counts"] (Hj K):=by
 refine D.gq oO (fun _ _ _ _ _ _ z v=>by obtain⟨_,rfl⟩:=fR v;rfl) (fun j H Q E h=>?_) ?_
 ·obtain⟨p,b,rfl,_⟩:=h;rfl
 intro X S f e2 u g s hc n r m hu H j Q E h;subst f e2 u g s;obtain⟨p,b,rfl,o,a,q⟩:=h;refine⟨_,(af (bw S 1 (cE S 0 uk m (aa (kv S 0) ae)))
   (af (bw S 2 (aU (aI rfl) (kv S 1) aq (fun _ _=>rfl)))
   (af (bw S 3 (aU (aI rfl) (kv S 1) aq (fun _ _=>rfl)))
   (aj (aK (LI (gP (J6 (kv S 2)) (gP bc (gP (J6 (kv S 3)) Gx))))))))),?_⟩
 walk_at "d";refine⟨p,b,rfl,o,a,fun t H1 x d=>?_⟩;refine bh (i:=((0:Nat):Int)) (aH.of d) (aw rfl) ?_;refine bh (i:=((1:Nat):Int)) (aH.of d) (aw rfl) ?_;obtain⟨y,e⟩:=fq (yn a) (Nq a) (by decide)
 obtain⟨A,l⟩:=fq (show 0<=Np b by have:=nC a;omega) (Fh a) (by decide)
 have c:(1000:Nat)<=sizeLine:=by decide
 have B:(Str.ofString "/").length=1:=by decide +kernel
 have le:∀ i,(Str.ofString (toString i))=fS i:=fun _=>rfl;walk_at "d";refine .inr ⟨_,rfl,e,_,rfl,?_,?_⟩
 ·rw[le,empty_app];omega
 walk_at "d";refine⟨_,rfl,?_,?_⟩
 ·rw[le,empty_app,aD];omega
 refine .inr ⟨_,rfl,l,_,rfl,?_,?_⟩
 ·rw[le,le,empty_app,aD,aD];omega
 walk_at "d";refine⟨?_,?_⟩
 ·rw[le,le,empty_app,aD,aD];omega
 rw[le,le,empty_app];exact q H1 x
theorem oP:DS (ak f9) ["names","kind","people"] ["names","kind","people"] []:=aO (by decide +kernel)
theorem Ou (B:Bn mg)(D:Def K mg "shown_group" f9):Fn P w K mg base 1 "shown_group" ["names","kind","people"] (LY K):=by
 refine D.gq oP (fun _ _ _ _ _ _ us hl=>by obtain⟨_,_,_,rfl⟩:=jJ hl;rfl) (fun vs H Q E h=>?_) ?_
 ·obtain⟨p,a,c,g,rfl,_⟩:=h;rfl
 intro X S e1 e2 e3 R e5 hc v U hr hu H vs Q E h;subst e1 e2 e3 R e5;obtain⟨p,a,c,⟨b,l⟩,rfl,m,J,y,q⟩:=h;have r:l.length<=8:=y.eU;refine⟨_,(aj (aK (h7 zP GM KM (bH rfl) rfl bc (aa (aR (dC rfl) (dW (aa (kv S 1) ae)) (ij S hc v (du (kv S 2) rfl) (N:=["i","names"]) (W:=["i"]) (G:=[]) (fv:=[none,some 0]) (by decide +kernel) (fun cl C fp s H I=>⟨(kg I 0),bg,(aU (aI rfl) (kv I 1) (kv I 0) (fun _ _=>rfl))⟩))) ae)))),?_⟩
 walk_at "d";refine⟨rfl,by decide,fun t ht=>?_⟩
 have e:=ah.new ht (.lst [.str (kd b)]);have f:upd H t (.lst [.str (kd b)]) t=some (.lst [.str (kd b)]):=ag;generalize upd H t (.lst [.str (kd b)])=H1 at e f ⊢;refine⟨a,rfl,⟨_,e.aL J⟩,qI (gk (e.aL J)) (fun _=>true) (fun i=>.str (c.getD (l.getD i 0) aW)) (by rw[cc,ao];exact aB (h9 r (by decide))) ?_ ?_⟩
 ·intro i H2 A B' hi T hA _;rw[cc,ao] at hi;rw[et hi];walk_at "d";refine bh (T.aL (e.aL m)) (aw (aQ (y.lt _ (ez hi)))) ?_;exact hA rfl _ (ah.refl _)
 intro n H2 hn M d;rw[bG,cc,ao,b9 (fun j=>V.str (c.getD j aW)),show (l.map fun j=>V.str (c.getD j aW))=(l.map fun j=>c.getD j aW).map V.str by rw[kc];rfl] at d
 have Y:[V.str (kd b)]++(l.map fun j=>c.getD j aW).map V.str=(kd b::l.map fun j=>c.getD j aW).map V.str:=rfl;refine⟨t,n,_,_,rfl,rfl,ax.of (M _ _ f),ax.of d,by rw[cc,cc];exact bY (by show 1+_<=100;omega),fun Z u=>?_⟩
 rw[Y];have o:=ah.new u (.lst ((kd b::l.map fun j=>c.getD j aW).map V.str));have L:∀ x∈kd b::l.map (fun j=>c.getD j aW),x.length<=12:=fun x hx=>by
  rcases hU.mp hx with rfl | hx
  ·cases b<;>decide +kernel
  ·exact namesW y x hx
 have h1:=eB 32 12 _ L;have h2:=eh 12 _ L;rw[qs,cc] at h1 h2;have O:(1000:Nat)<=sizeLine:=by decide
 refine⟨_,Z,_,rfl,rfl,ax.of ag,?_,?_,?_⟩
 ·rw[bq];show ((kd b::l.map fun j=>c.getD j aW).map fun z=>z.length+1).sum<=_
  omega
 ·rw[bq];omega
 rw[bq];exact q _ (e.trans (M.trans o))
theorem zE:DS (ak lK) ["book","groups","ask","names","counts","web"] ["book","groups","ask"] ["str","made_sure","shown_share","named","sight_ring","sight_order","rows_of","shown_book"]:=aO (by decide +kernel)
theorem De (B:Bn mg)(D:Def K mg "told_of" lK)(i8:Fn P w K mg base 5 "made_sure" ["counts","groups"] (yC K))(pX:Fn P w K mg base 3 "shown_share" ["counts"] (Hj K))(pY:Fn P w K mg base 1 "shown_group" ["names","kind","people"] (LY K))(nh:Fn P w K mg base 1 "named" ["names","people"] (wt K))(hV:Fn P w K mg base 3 "sight_ring" ["web"] (GZ K))(pZ:Fn P w K mg base 3 "sight_order" ["web"] (Qe K))(uu:Fn P w K mg base 2 "shown_book" ["book"] (wk K))(lP:Fn P w K mg base 1 "rows_of" ["text"] yT):Fn P w K mg base 6 "told_of" ["book","groups","ask"] (Hk K):=by
 refine D.gq zE (fun _ _ _ _ _ _ Z hl=>by obtain⟨_,_,_,rfl⟩:=jJ hl;rfl) (fun vs H Q E h=>?_) ?_
 ·obtain⟨b,g,j,x,F,Z,L,hs,k,rfl,_⟩:=h;rfl
 intro X S e1 e2 e3 e4 e5 hc a0 hxe u hu H vs Q E h;subst e1 e2 e3 e4 e5;obtain⟨b,g,j,x,F,Z,L,hs,k,rfl,hb,M,hL,D,q⟩:=h;obtain⟨a1,a2,a3,h0,h1,h1t,h2,h3⟩:=id hb;have P:=D.BB;have R:=P.lC;have h8:=P.nm.eU;refine⟨_,(af (bw S 3 (aU (aI rfl) (kv S 0) aq (fun _ _=>rfl)))
   (af (bw S 4 (aU (aI rfl) (kv S 0) aq (fun _ _=>rfl)))
   (af (bw S 5 (aU (aI rfl) (kv S 0) aq (fun _ _=>rfl)))
   (af (cN (aS aX (kv S 2) bc (au _)) (aj (aK (dW (aa (jk S 0 cL B.str boot_str (aa (cE S 1 i8 u (aa (kv S 4) (aa (kv S 1) ae))) ae)) ae)))) ay)
   (af (cN (aS aX (kv S 2) bc (au _)) (aj (aK (dW (aa (cE S 2 pX u (aa (kv S 4) ae)) ae)))) ay)
   (af (cN (aS aX (kv S 2) bc (au _)) (aj (aK (ij S hc a0 (du (kv S 1) rfl) (N:=["kind","people","names"]) (W:=["kind","people"]) (G:=["shown_group"]) (fv:=[none,none,some 3]) (by decide +kernel) (fun cl C fp s H J=>⟨(jl rfl (K:=X.K) (n:=2) rfl (aJ (kg J 0) (aJ (kg J 1) cA))),bg,(cE J 0 pY u (aa (kv J 2) (aa (kv J 0) (aa (kv J 1) ae))))⟩)))) ay)
   (af (cN (aS aX (kv S 2) bc (au _)) (aj (aK (cE S 3 nh u (aa (kv S 3) (aa (cE S 4 hV u (aa (kv S 5) ae)) ae))))) ay)
   (af (cN (aS aX (kv S 2) bc (au _)) (aj (aK (cE S 3 nh u (aa (kv S 3) (aa (cE S 5 pZ u (aa (kv S 5) ae)) ae))))) ay)
   (aj (aK (cE S 6 lP u (aa (cE S 7 uu u (aa (kv S 0) ae)) ae)))))))))))),?_⟩
 walk_at "i";refine bh (i:=((0:Nat):Int)) h0 (aw rfl) ?_;walk_at "i";refine bh (i:=((1:Nat):Int)) h0 (aw rfl) ?_;walk_at "i";refine bh (i:=((2:Nat):Int)) h0 (aw rfl) ?_;walk_at "s";have br:∀ g∈L,FE (az x).length g:=fun g M=>⟨(D.best.1.each g M).ok.lt,D.g8 g M⟩;have hfew:=D.eU
 cases k with
 | sure=>
  walk_at "h";rw[if_pos (show ip .sure=Str.ofString "sure" from rfl)]
  refine⟨_,_,_,Z,L,rfl,h2,M,hL.gl,R,br,by omega,fun H1 d=>?_⟩
  have hsum:=D.best.1.sum;have aP:0<=(L.map (e9 (az x))).sum:=D.best.1.nn;have e1:(L.map (vA (az x))).sum=(L.map (e9 (az x))).sum:=rfl;rw[e1];walk_at "s";obtain⟨c1,c2⟩:=fq aP (D.Bp) (by decide)
  refine⟨_,rfl,c2,?_⟩;walk_at "s";refine⟨by decide,fun t T=>?_⟩
  exact q t _ _ (d.trans (ah.new T _)) (d.free T) ag rfl
 | share=>
  walk_at "h";rw[if_neg (show ¬ ip .share=Str.ofString "sure" by decide)]
  walk_at "h";rw[if_pos (show ip .share=Str.ofString "share" from rfl)]
  refine⟨_,_,rfl,h2,R,fun H1 d=>?_⟩;walk_at "s";refine⟨by decide,fun t T=>?_⟩
  exact q t _ _ (d.trans (ah.new T _)) (d.free T) ag rfl
 | groups=>
  walk_at "h";rw[if_neg (show ¬ ip .groups=Str.ofString "sure" by decide)]
  walk_at "h";rw[if_neg (show ¬ ip .groups=Str.ofString "share" by decide)]
  walk_at "h";rw[if_pos (show ip .groups=Str.ofString "groups" from rfl)]
  refine Sz (zf j) M hL.gl (aB (by omega)) ?_ ?_
  ·intro i gg p H1 A hi hS hp hA;walk_at "s";exact⟨_,p,j,gg,rfl,hS.aL h1,hp,D.names (h5 hi),fun m f=>hA m f⟩
  ·intro aA H1 aF d U;exact q aA _ H1 d aF U rfl
 | ring=>
  walk_at "h";rw[if_neg (show ¬ ip .ring=Str.ofString "sure" by decide)]
  walk_at "h";rw[if_neg (show ¬ ip .ring=Str.ofString "share" by decide)]
  walk_at "h";rw[if_neg (show ¬ ip .ring=Str.ofString "groups" by decide)]
  walk_at "h";rw[if_pos (show ip .ring=Str.ofString "ring" from rfl)]
  refine⟨_,F,rfl,h3,by rw[P.lw];exact h8,P.wy,fun H1 d=>⟨fun c=>?_,fun c r rr o v oc od Y=>?_⟩⟩
  ·exact⟨_,j,_,[],rfl,d.aL h1,.inl ⟨rfl,rfl⟩,⟨P.OS,(fun _ z=>nomatch z),zero_le _⟩,fun a m f y e=>q a _ m (d.trans f) (d.free y) e (.inl ⟨c,rfl⟩)⟩
  ·exact⟨_,j,_,rr,rfl,d.aL h1,.inr ⟨r,rfl,.inl (.inr ⟨o,v⟩)⟩,Bq P Y,fun a m f y e=>q a _ m (d.trans f) (d.free y) e (.inr ⟨c,rr,Y,rfl⟩)⟩
 | order=>
  walk_at "h";rw[if_neg (show ¬ ip .order=Str.ofString "sure" by decide)]
  walk_at "h";rw[if_neg (show ¬ ip .order=Str.ofString "share" by decide)]
  walk_at "h";rw[if_neg (show ¬ ip .order=Str.ofString "groups" by decide)]
  walk_at "h";rw[if_neg (show ¬ ip .order=Str.ofString "ring" by decide)]
  walk_at "h";rw[if_pos (show ip .order=Str.ofString "order" from rfl)]
  refine⟨_,F,rfl,h3,by rw[P.lw];exact h8,fun H1 d=>⟨fun c=>?_,fun c r v=>?_⟩⟩
  ·exact⟨_,j,_,[],rfl,d.aL h1,.inl ⟨rfl,rfl⟩,⟨P.OS,(fun _ z=>nomatch z),zero_le _⟩,fun a m f y e=>q a _ m (d.trans f) (d.free y) e (.inl ⟨c,rfl⟩)⟩
  ·exact⟨_,j,_,laidOut F,rfl,d.aL h1,.inr ⟨r,rfl,aH.of v⟩,oa P,fun a m f y e=>q a _ m (d.trans f) (d.free y) e (.inr ⟨c,rfl⟩)⟩
 | book=>
  walk_at "h";rw[if_neg (show ¬ ip .book=Str.ofString "sure" by decide)]
  walk_at "h";rw[if_neg (show ¬ ip .book=Str.ofString "share" by decide)]
  walk_at "h";rw[if_neg (show ¬ ip .book=Str.ofString "groups" by decide)]
  walk_at "h";rw[if_neg (show ¬ ip .book=Str.ofString "ring" by decide)]
  walk_at "h";rw[if_neg (show ¬ ip .book=Str.ofString "order" by decide)]
  walk_at "s";refine⟨b,j,x,F,rfl,hb,P,fun H1 d=>?_⟩;have hM:=fH P;have hML:(bj j F).length<=16:=h9 jh (by omega)
  have O:((bj j F).map (fE j x)).length<=100:=by rw[cc];omega
  have hbl:=fi (hM.rf P) O;have I:=jH (hM.rf P);refine⟨_,rfl,by omega,by rw[I,cc];omega,fun l m f ab hl=>?_⟩
  exact q l _ m (d.trans f) (d.free ab) hl rfl
theorem lM:DS (ak bR) ["self","text","counts","web"] ["self","text"] ["read_book","Hall","best_groups"]:=aO (by decide +kernel)
theorem lN:bindM "__init__" "Desk.__init__" bR "self" "text":=fun T kV a b c d ct u v=>⟨⟨_,by with_unfolding_all rfl,fun _=>by with_unfolding_all rfl⟩,⟨_,by with_unfolding_all rfl,fun _=>by with_unfolding_all rfl⟩⟩
variable {aP:Addr}
theorem HI (B:Bn mg)(bf:gp K mg "Hall" aA ["counts","groups","worn"])(bF:gp K mg "Desk" aP ["book","hall"])(D:wj K aP "__init__" "Desk.__init__" bR "")(xa:Fn P w K mg base 4 "read_book" ["text"] (Bg K))(p3:Fn P w K mg base 7 "best_groups" ["counts","web"] (Q6 K))(mH:uK P w K mg base 5 aA "__init__" ["self","counts","web","groups"] (wx K aA)):Ki P w K mg base 8 aP "__init__" "self" "text" "" (tK K aA aP):=by
 refine D.gq lM lN (fun vs H Q E h=>?_) ?_
 ·obtain⟨x,f,M,ns,d,C,rfl,_⟩:=h;rfl
 intro X S e1 e2 e3 R e5 hc hsc hxe hr hu H vs Q E h;subst e1 e2 e3 R e5;obtain⟨x,f,M,ns,d,C,rfl,hx,hM,a6,hb,P,q⟩:=h;refine⟨_,(af (OP bF (kv S 0) (cE S 0 xa hr (aa (kv S 1) ae)))
   (af (bw S 2 (aU (aI rfl) (v9 bF (kv S 0)) aq (fun _ _=>rfl)))
   (af (bw S 3 (aU (aI rfl) (v9 bF (kv S 0)) aq (fun _ _=>rfl)))
   (aj (OP bF (kv S 0) (S8 S 1 bf mH dQ hr (aa (kv S 2) (aa (kv S 3) (aa (cE S 2 p3 hr (aa (kv S 2) (aa (kv S 3) ae))) ae))))))))),?_⟩
 walk_at "i";refine⟨M,_,rfl,hM,a6,hb,fun t H1 O ht=>?_⟩;have v:=O _ _ hx;walk_at "s";refine⟨x,f,[],rfl,v,by decide,?_⟩
 rw[Kk];have r:Off x H1 (upd H1 x (.ins aP f (wm t))):=Off.upd;have c:upd H1 x (.ins aP f (wm t)) x=some (.ins aP f (wm t)):=ag;have o:=ht.dk r v;generalize upd H1 x (.ins aP f (wm t))=H2 at r c o ⊢;obtain⟨a1,a2,a3,h0,h1,h1t,h2,h3⟩:=id o;walk_at "i";refine rD (c) wo ?_;refine bh (i:=((1:Nat):Int)) h0 (aw rfl) ?_;walk_at "i";refine rD (c) wo ?_;refine bh (i:=((2:Nat):Int)) h0 (aw rfl) ?_;walk_at "s";have s:=P.lC;have A:C.length=(az d).length:=by rw[P.lw,P.len]
 refine⟨_,_,az d,C,rfl,h2,h3,s,A,P.wy,fun g T L G N hg hL hB=>?_⟩;intro y m hy ab U;have h8:=P.nm.eU;have D:bJ ns d C L (List.replicate d.length 0):=by
  refine⟨P,hB,?_⟩;rw[show (List.replicate d.length (0:Int))=List.replicate (az d).length 0 by rw[ao]]
  exact HN.Oa s.pos
 have p:ah G (upd (upd G m (.own y)) y (.ins aA m [])):=(ah.new ab _).trans (ah.new (by rw[aG (Ne.symm U)];exact hy) _)
 have j:upd (upd G m (.own y)) y (.ins aA m []) y=some (.ins aA m []):=ag;generalize upd (upd G m (.own y)) y (.ins aA m [])=H4 at p j ⊢;have a:=N.trans p;refine⟨y,m,_,_,g,az d,C,T,gI L,rfl,j,a.aL h2,a.aL h3,p.aL hg,(hL.mono p).gi,A,by rw[P.len];exact h8,?_,by rw[Ob];have:=D.eU;omega,fun z=>absurd (Hn hB.1) z,fun _ F J hH=>⟨rfl,?_⟩⟩
 ·intro z hz;unfold gI at hz;obtain⟨g0,hg0,rfl⟩:=ih.mp hz
  have:=D.g8 g0 hg0
  show (az g0.2).length<=30;rw[ao];omega
 have a4:=a _ _ c;have Z:y≠x:=fun e=>by
  have:=N _ _ c
  rw[<-e,hy] at this;cases this
 have l:=J x _ Z.symm a4;refine⟨x,f,_,rfl,l,by show 1<_;decide,?_⟩
 rw[Kl];have I:Off x F (upd F x (.ins aP f (Kj t y))):=Off.upd;have a5:=((o.mono a).dk J j).dk I l;have W:=((hL.mono p).dk J j).dk I l;have Y:Off x H (upd F x (.ins aP f (Kj t y))):=fun b u n e=>by
  have R:=a _ _ (r b u n (O _ _ e));have aF:b≠y:=fun z=>by
   have:=N _ _ (r b u n (O _ _ e))
   rw[z,hy] at this;cases this
  exact I b u n (J b u aF R)
 have hH':cC X.K aA F y a2 g (az d) T (List.replicate d.length 0):=by rw[ao] at hH;exact hH
 have a0:H y=none:=by
  cases e:H y with
  | none=>rfl
  | some u=>
   have:=N _ _ (r y u Z (O _ _ e))
   rw[hy] at this;cases this
 exact q _ y L Y a0 ⟨⟨f,t,ag,a5⟩,_,g,T,hH'.Hh I l Z,W⟩ D
theorem wU:DS (ak jS) ["self","line","words","names"] ["self","line"] ["is_ask","NoAsk","number_of","int","str","named","told_of"]:=aO (by decide +kernel)
theorem Ov (B:Bn mg)(bf:gp K mg "Hall" aA ["counts","groups","worn"])(bF:gp K mg "Desk" aP ["book","hall"])(FT:tJ P w K mg aF eF)(D:pA K aP "ask" "Desk.ask" jS)(HV:Fn P w K mg base 3 "is_ask" ["words"] (Bj K eF))(mn:Fn P w K mg base 1 "number_of" ["names","name"] (Hl K))(zO:uK P w K mg base 3 aA "put" ["self","i","colour"] (Bm K aA))(hX:uK P w K mg base 4 aA "guess" ["self","i"] (nW K aA))(uw:uK P w K mg base 5 aA "right" ["self"] (rG K aA))(nh:Fn P w K mg base 1 "named" ["names","people"] (wu K))(Dp:Fn P w K mg base 6 "told_of" ["book","groups","ask"] (Hk K)):uK P w K mg base 7 aP "ask" ["self","line"] (tL K aA aP):=by
 refine D.gq wU (fun _ _ _ _ _ _ Z y=>by obtain⟨_,_,rfl⟩:=eA y;rfl) (fun vs H Q E h=>?_) ?_
 ·obtain⟨d,y,r,G,ws,L,hs,a,rfl,_⟩:=h;rfl
 intro X S e1 e2 e3 e4 e5 hc hsc hxe J hu H vs Q E h;subst e1 e2 e3 e4 e5;obtain⟨d,y,r,G,ws,L,hs,a,rfl,hD,D,ha,q⟩:=h;have P:=D.BB;have h8:=P.nm.eU;have C:=P.lC;obtain⟨w1,w2,w3⟩:=CM P ha;obtain⟨⟨dx,b,hd,hb⟩,c,g,Z,hH,hL⟩:=id hD;obtain⟨a1,a2,a3,h0,h1,h1t,h2,h3⟩:=id hb;have O:=ee 32 w1 fun x hx=>(w2 x hx).1;have hjl:=eB 32 30 _ fun x hx=>(w2 x hx).2;have hj3:(kD r a).length*31<=3*31:=zS _ w3;have hbig:(1000:Nat)<=sizeLine:=by decide
 refine⟨_,(af (bw S 2 (h7 zP Tr type_str_split dH rfl (kv S 1) (aa bc ae)))
   (af (cN (sy (ph (cE S 0 HV J (aa (kv S 2) ae)))) (aj iJ) ay)
   (af (bw S 3 (aU (aI rfl) (v9 bF (kv S 0)) aq (fun _ _=>rfl)))
   (af (cN (aS aX (aU (ai rfl) (kv S 2) aq (fun _ _=>rfl)) bc (au _)) (af (df (Bc bf zO dQ J (v9 bF (kv S 0)) (aa (cE S 2 mn J (aa (kv S 3) (aa (aU (ai rfl) (kv S 2) aq (fun _ _=>rfl)) ae))) (aa (jk S 3 gM B.int boot_int (aa (aU (ai rfl) (kv S 2) aq (fun _ _=>rfl)) ae)) ae))))
   (aj (aK (dW ae)))) ay)
   (af (cN (aS aX (aU (ai rfl) (kv S 2) aq (fun _ _=>rfl)) bc (au _)) (aj (aK (dW (aa (jk S 4 cL B.str boot_str (aa (Bc bf hX dQ J (v9 bF (kv S 0)) (aa (cE S 2 mn J (aa (kv S 3) (aa (aU (ai rfl) (kv S 2) aq (fun _ _=>rfl)) ae))) ae)) ae)) ae)))) ay)
   (af (cN (aS aX (aU (ai rfl) (kv S 2) aq (fun _ _=>rfl)) bc (au _)) (aj (aK (cE S 5 nh J (aa (kv S 3) (aa (Ss bf uw dQ J (v9 bF (kv S 0))) ae))))) ay)
   (aj (aK (cE S 6 Dp J (aa (v9 bF (kv S 0)) (aa (v9 bf (v9 bF (kv S 0))) (aa (aU (ai rfl) (kv S 2) aq (fun _ _=>rfl)) ae)))))))))))),?_⟩
 walk_at "i";rw[bq];refine⟨rfl,_,_,rfl,rfl,by decide,by omega,by rw[O];omega,fun p hp0=>?_⟩
 rw[O];have s1:=ah.new hp0 (.lst ((kD r a).map V.str));have A:upd H p (.lst ((kD r a).map V.str)) p=some (.lst ((kD r a).map V.str)):=ag;generalize upd H p (.lst ((kD r a).map V.str))=H1 at s1 A ⊢;walk_at "i";obtain⟨fx,w0,ff,fb,ew,hv,f1,f2,f3,f4,f5⟩:=Hq FT P ha;refine⟨p,fx,w0,ff,fb,rfl,ax.of (by rw[A,ew]),hv,f5 _,f1,f2,f3,f4,f5,fun H2 s2=>?_⟩
 have f:=s1.trans s2;have hD2:=hD.mono f;have s:=f _ _ hd;have m:ax X.K H2 p ((kD r a).map V.str):=ax.of (s2 _ _ A);have Y:=hH.mono f;obtain⟨hdx,n,hh,hn⟩:=Y.ex;clear A hv f1 f2 f3 f4 f5 ew O hjl hj3 w1 w2 w3;walk_at "i";refine rD (s) Bh ?_;refine bh (i:=((0:Nat):Int)) (f.aL h0) (aw rfl) ?_;walk_at "i"
 cases a with
 | told k=>
  obtain⟨n1,n2,n3,_,_⟩:=zh k;refine av (i:=((0:Nat):Int)) m (aw rfl) ?_;walk_at "s";rw[if_neg n1];walk_at "h";refine av (i:=((0:Nat):Int)) m (aw rfl) ?_;walk_at "s";rw[if_neg n2];walk_at "h";refine av (i:=((0:Nat):Int)) m (aw rfl) ?_;walk_at "s";rw[if_neg n3];walk_at "s";refine⟨d,dx,_,_,rfl,s,Bh,d,dx,_,_,rfl,s,mY,y,hdx,_,_,rfl,hh,rk,?_⟩;refine av (i:=((0:Nat):Int)) m (aw rfl) ?_;exact⟨b,g,r,G,ws,Z,L,hs,k,rfl,hb.mono f,Y.OV,hL.mono f,D,fun l rows H3 I hl0 R v=>q l rows H3 (f.trans I) (f.free hl0) R v⟩
 | right=>
  refine av (i:=((0:Nat):Int)) m (aw rfl) ?_;walk_at "s";rw[if_neg (by decide)]
  walk_at "h";refine av (i:=((0:Nat):Int)) m (aw rfl) ?_;walk_at "s";rw[if_neg (by decide)]
  walk_at "h";refine av (i:=((0:Nat):Int)) m (aw rfl) ?_;walk_at "s";refine rD (s) mY (gu (hh) we ?_);refine⟨y,_,g,az G,hs,ws,Z,L,rfl,Y,hL.mono f,C,D.gh,D.Hm,fun l H3 I hl0 R=>?_⟩;have j:=f.trans I;exact⟨_,l,r,_,rfl,j.aL h1,ax.of R,rz P,fun a U s4 ha0 ha1=>q a U (j.trans s4) (j.free ha0) ha1⟩
 | ia i=>
  have hi:i<r.length:=ha;have T:i<(az G).length:=by rw[P.len];exact hi
  have hm:r.getD i aW∈r:=getD_memS hi;have W:r.idxOf (r.getD i aW)=i:=by
   rw[b4,b5 hi];exact P.nm.nd.idxOf_getElem i hi
  refine av (i:=((0:Nat):Int)) m (aw rfl) ?_;walk_at "s";rw[if_neg (by decide)]
  walk_at "h";refine av (i:=((0:Nat):Int)) m (aw rfl) ?_;walk_at "s";refine rD (s) mY (gu (hh) we ?_);refine av (i:=((1:Nat):Int)) m (aw rfl) ?_;refine⟨_,r,_,rfl,f.aL h1,h1t.mono f,fun z=>absurd hm z,fun _ H3 I=>?_⟩;rw[W];have j:=f.trans I;refine⟨y,_,g,az G,hs,ws,Z,L,i,rfl,hH.mono j,hL.mono j,C,D.gh,D.Hm,T,fun U s4=>?_⟩;obtain⟨g1,g2⟩:=Oi C D.gh D.Hm T;refine⟨_,rfl,(fq g1 g2 (by decide)).2,?_⟩
  walk_at "s";refine⟨by decide,fun t v=>?_⟩
  have s14:=j.trans s4;exact q t _ (s14.trans (ah.new v _)) (s14.free v) ag
 | put i M=>
  obtain⟨hi,hcol⟩:i<r.length/\M<10 ^ 30:=ha;have T:i<(az G).length:=by rw[P.len];exact hi
  have hm:r.getD i aW∈r:=getD_memS hi;have W:r.idxOf (r.getD i aW)=i:=by
   rw[b4,b5 hi];exact P.nm.nd.idxOf_getElem i hi
  obtain⟨_,c2,_,c4⟩:=iQ hcol;refine av (i:=((0:Nat):Int)) m (aw rfl) ?_;walk_at "i";refine rD (s) mY (gu (hh) we ?_);refine av (i:=((1:Nat):Int)) m (aw rfl) ?_;refine⟨_,r,_,rfl,f.aL h1,h1t.mono f,fun z=>absurd hm z,fun _ H3 I=>?_⟩;rw[W];have j:=f.trans I;refine av (i:=((2:Nat):Int)) (I.seq m) (aw rfl) ?_;refine⟨_,_,rfl,c2,by omega,?_⟩
  refine⟨y,c,g,az G,hs,Z,(i:Int),(M:Int),rfl,hH.mono j,D.gh.1,by have:=C.len;omega,fun z=>absurd ⟨Int.natCast_nonneg i,by omega⟩ z,fun _ z U s4=>?_,fun _ z U o4 N=>?_⟩
  ·rw[yx] at z;exact q.1 z U (j.trans s4)
  ·rw[yx] at z N;walk_at "s";refine⟨by decide,fun t v=>?_⟩
   obtain⟨hx0,n0,hh0,_⟩:=hH.ex;have hh3:=j _ _ hh0;obtain⟨hx4,n4,hh4,_⟩:=N.ex;have hdn:=hD.ne;have st:=ah.new v (.lst []);have o:Off y H U:=fun b u ne e=>o4 b u ne (j _ _ e);have htn:H t=none:=by
    cases e:H t with
    | none=>rfl
    | some u=>
     by_cases z:t=y
     ·rw[z,hh4] at v;cases v
     ·rw[o t u z e] at v;cases v
   have hD4:bK X.K aA aP U d y r G ws L (hs.set i (M:Int)):=⟨⟨dx,b,o d _ hdn hd,(hb.mono j).dk o4 hh3⟩,c,g,Z,N,(hL.mono j).dk o4 hh3⟩;exact q.2 z t _ (fun b u ne e=>st _ _ (o b u ne e)) htn ag (hD4.mono st)
theorem tZ:DS (ak iW) ["cell","count","number","drawn","k"] ["cell","count"] ["range"]:=aO (by decide +kernel)
theorem Df (B:Bn mg)(D:Def K mg "_law_draws" iW):Fn P w K mg base 1 "_law_draws" ["cell","count"] iL:=by
 refine D.gq tZ (fun _ _ _ _ _ _ v f=>by obtain⟨_,_,rfl⟩:=eA f;rfl) (fun s H Q E h=>?_) ?_
 ·obtain⟨d,n,rfl,_⟩:=h;rfl
 intro X S r e2 p m o hc t i A hu H s Q E h;subst r e2 p m o;obtain⟨d,n,rfl,hn,q⟩:=h;refine⟨_,(af (bw S 2 (ck (EU (aR aV (ck (kv S 0)) aq))))
   (af (bw S 3 (dW ae))
   (af (dO i hc (ig S 0 B.range (aa (kv S 1) ae)) (kg S 4) (af (bw S 2 (ck (EU (kv S 2))))
   (aj (df (h7 qN ls nc bA rfl (kv S 3) (aa (qD (ck (aR eD (kv S 2) (kv S 2)))) ae))))))
   (aj (aK (kv S 3)))))),?_⟩
 walk_at "d";refine⟨by decide,fun l f=>?_⟩
 refine forR n (QD H d n l) rfl (by omega) ⟨_,[],_,rfl,ah.new f _,ag,rfl,(fun x hx=>nomatch hx)⟩ ?_ ?_
 ·rintro k σ H1 hk ⟨b,j,y,rfl,g,c,a,e⟩;walk_at "d";have u:=GE (b*45742) (show (2147483543:Int)≠0 by decide)
  have h1:=C6 (b*45742) (show (0:Int)<2147483543 by decide)
  generalize b*45742 % 2147483543=nm at u h1 ⊢;refine⟨.inl ⟨rfl,_,ax.of c⟩,sj (by omega) (by omega),?_⟩
  refine⟨l,_,_,rfl,rfl,c,by rw[cc];exact aB (by omega),?_⟩
  refine⟨_,j++[nm*nm % 2147483579 / 7],_,rfl,g.set f _,by rw[ag,hO];rfl,by rw[eG,a];rfl,fun x hx=>?_⟩
  rcases ka.mp hx with z | z
  ·exact e x z
  ·rw[fz.mp z];omega
 ·rintro σ H1 ⟨b,j,y,rfl,g,c,a,e⟩;walk_at "d";exact q l j H1 g f c a e
theorem t9:DS (ak iX) ["number","size","letters","name","k"] ["number","size"] ["range"]:=aO (by decide +kernel)
theorem HJ (B:Bn mg)(D:Def K mg "_law_fresh" iX):Fn P w K mg base 1 "_law_fresh" ["number","size"] AW:=by
 refine D.gq t9 (fun _ _ _ _ _ _ s m=>by obtain⟨_,_,rfl⟩:=eA m;rfl) (fun p H Q E h=>?_) ?_
 ·obtain⟨b,k,rfl,_⟩:=h;rfl
 intro X S o e2 l f j hc r d t hu H p Q E h;subst o e2 l f j;obtain⟨b,n,rfl,hn,q⟩:=h;refine⟨_,(af (bw S 2 bc)
   (af (bw S 3 bc)
   (af (dO d hc (ig S 0 B.range (aa (kv S 1) ae)) (kg S 4) (af (bw S 0 (ck (aR aV (EU (kv S 0)) aq)))
   (aj (bw S 3 (aR aT (kv S 3) (aU xX (kv S 2) (ck (qD (kv S 0))) (fun _ _=>rfl)))))))
   (aj (aK (kv S 3)))))),?_⟩
 walk_at "d";refine forR n (QF H n) rfl (by omega) ⟨_,_,_,rfl,rfl,rfl,(fun c hc=>nomatch hc)⟩ ?_ ?_
 ·rintro k σ H1 hk ⟨b,z,y,rfl,rfl,hz,a⟩;walk_at "d";obtain⟨c,g,e⟩:=Gb (i:=(b*48271+11) % 2147483647 / 23 % 26) (by omega) (by omega)
  refine⟨ku,_,c,rfl,rfl,by decide +kernel,g,?_⟩
  refine⟨_,_,rfl,rfl,?_,?_⟩
  ·show z.length+1<=sizeLine
   have:(100:Nat)<=sizeLine:=by decide
   omega
  ·exact⟨_,z++⟨#[c]⟩,_,rfl,rfl,by rw[aD,hz];rfl,a.append e⟩
 ·rintro σ H1 ⟨b,z,y,rfl,rfl,hz,a⟩;walk_at "d";exact q z hz a
theorem wV {A B:TS}{D:Ends}{σ:L2.St}{H:Hp}(I:L2.St->Hp->Prop)(h2:∀ σ' H',I σ' H'->B D σ' H')(h1:∀ R:L2.St->Hp->Prop,(∀ σ' H',I σ' H'->R σ' H')->A {D with nx:=R} σ H):BG A B D σ H:=h1 (B D) h2
theorem cY {dn:List Int}{H:Hp}{dr:Addr}{i:Int}{m:Nat}{Q:VK}(hd:H dr=some (.lst (dn.map V.int)))(hl:dn.length=m)(hnn:∀ x∈dn,0<=x)(h0:0<=i)(h1:i<m)(q:∀ x:Int,0<=x->Q (.int x) H):BR K (.ref dr) (.int i) H Q:=by
 obtain⟨m,rfl⟩:=r3 h0;have hm:m<dn.length:=by omega
 exact av (ax.of hd) (aw (by rw[ek,b5 hm];rfl)) (q _ (hnn _ (p0 hm)))
def HK (H0:Hp)(cell:Int)(n:Nat)(sm dr:Addr)(base:Str)(a:Nat)(l:Addr)(dn:List Int)(k:Nat)(σ:L2.St)(H:Hp):Prop:=∃ (ns:List Str) (name:Str) (y3 y4:Option V),σ=[some (.int cell),some (.int n),some (.str ku),some (.ref sm),some (.ref dr),some (.str base),some (.int a),some (.ref l),some (.int k),some (.str name),y3,y4]/\ah H0 H/\H l=some (.lst (ns.map V.str))/\H sm=some (.lst (me.map V.str))/\H dr=some (.lst (dn.map V.int))/\Gd ns k/\(1<=k->ns≠[])/\bI name=true
theorem KG {ns:List Str}{k:Nat}{x:Str}(h:Gd ns k)(hx:bI x=true)(hn:x∉ns):Gd (ns++[x]) (k+1) where
 eU:=by rw[eG];have:=h.eU;simp;omega
 nd:=Tw.mpr ⟨h.nd,by simp,fun a c b hb=>by rw[fz.mp hb];rintro rfl;exact hn c⟩
 nm:=fun y hy=>by
  rcases ka.mp hy with z | z
  ·exact h.nm y z
  ·rw[fz.mp z];exact hx
theorem kH {ns:List Str}{k m:Nat}(h:Gd ns k)(hk:k<=m):Gd ns m:=⟨h9 h.eU hk,h.nd,h.nm⟩
def DF:Str:="abcdefghijkl"
theorem HL:gm DF:=by
 have h:∀ c∈cz DF,FZ c=true:=by decide +kernel
 exact h
theorem uc:DF.length=12:=by decide +kernel
theorem ud:DS (ak iY) ["cell","size","letters","some","drawn","base","at","names","k","name","sign","width"] ["cell","size"] ["_law_draws","_law_fresh","len","range"]:=aO (by decide +kernel)
theorem HM (B:Bn mg)(D:Def K mg "_law_names" iY)(cy:Fn P w K mg base 1 "_law_draws" ["cell","count"] iL)(mq:Fn P w K mg base 1 "_law_fresh" ["number","size"] AW):Fn P w K mg base 2 "_law_names" ["cell","size"] oi:=by
 refine D.gq ud (fun _ _ _ _ _ _ us hl=>by obtain⟨_,_,rfl⟩:=eA hl;rfl) (fun vs H Q E h=>?_) ?_
 ·obtain⟨s,n,rfl,_⟩:=h;rfl
 intro X S e1 e2 e3 e4 e5 hc hsc hxe hr hu H vs Q E h;subst e1 e2 e3 e4 e5;obtain⟨s,n,rfl,hn,q⟩:=h;refine⟨_,(af (bw S 2 bc)
   (af (bw S 3 (dW (Jn (ns:=["hat","sees","put","guess","right","ring","order","book","sure","share","groups"]) (by decide +kernel))))
   (af (bw S 3 (aR (dC rfl) (kv S 3) (dW (aa bc (aa bc ae)))))
   (af (bw S 4 (cE S 0 cy hr (aa (kv S 0) (aa aq ae))))
   (af (bw S 5 (cE S 1 mq hr (aa (aU (ai rfl) (kv S 4) aq (fun _ _=>rfl)) (aa (aR aV aq (ck (aU (ai rfl) (kv S 4) aq (fun _ _=>rfl)))) ae))))
   (af (bw S 6 (aR cV (aU (ai rfl) (kv S 4) aq (fun _ _=>rfl)) (c7 S 2 gB B.len qE (aa (kv S 5) ae))))
   (af (bw S 7 (dW ae))
   (af (dO hxe hc (ig S 3 B.range (aa (kv S 1) ae)) (kg S 8) (af (bw S 9 (cE S 1 mq hr (aa (aU (ai rfl) (kv S 4) (aR aV aq (kv S 8)) (fun _ _=>rfl)) (aa (aR aV aq (ck (aU (ai rfl) (kv S 4) (aR aV aq (kv S 8)) (fun _ _=>rfl)))) ae))))
   (af (cN (aS fG (ck (aU (ai rfl) (kv S 4) aq (fun _ _=>rfl))) aq (au _)) (af (bw S 10 (aU xX (kv S 2) (ck (aR aV (aU (ai rfl) (kv S 4) aq (fun _ _=>rfl)) (aR eD (kv S 8) (aU (ai rfl) (dW (sx (ns:=[1,3,5,7,9,11]) (by decide +kernel))) (ck (aU (ai rfl) (kv S 4) aq (fun _ _=>rfl))) (fun _ _=>rfl))))) (fun _ _=>rfl)))
   (aj (bw S 9 (aR aT (aR aT (mM sV (kv S 5) bC (bD (kv S 6))) (kv S 10)) (mM sV (kv S 5) (bD (aR aV (kv S 6) aq)) bC))))) ay)
   (af (cN (aS aX (ck (aU (ai rfl) (kv S 4) aq (fun _ _=>rfl))) aq (au _)) (aj (bw S 9 (aU (ai rfl) (kv S 3) (ck (aR aV (aU (ai rfl) (kv S 4) aq (fun _ _=>rfl)) (EV (kv S 8)))) (fun _ _=>rfl)))) ay)
   (af (cN (aS aX (ck (aU (ai rfl) (kv S 4) aq (fun _ _=>rfl))) aq (au _)) (af (bw S 11 (aR aV aq (ck (aR aV (EV (kv S 8)) (aU (ai rfl) (kv S 4) aq (fun _ _=>rfl))))))
   (aj (bw S 9 (aU (ai rfl) (dW (aa (mM sV (aR aT (kv S 5) bc) bC (bD (kv S 11))) (aa (mM sV (aR aT bc (kv S 5)) (bD (OJ kS (kv S 11))) bC) ae))) (ck (aU (ai rfl) (kv S 4) aq (fun _ _=>rfl))) (fun _ _=>rfl))))) ay)
   (aj (cN (aS (dS rfl) (kv S 9) (kv S 7) (by with_unfolding_all rfl)) (aj (df (h7 qN ls nc bA rfl (kv S 7) (aa (kv S 9) ae)))) ay)))))))
   (aj (aK (kv S 7))))))))))),?_⟩
 walk_at "i";walk_at "i";refine⟨by decide,fun s0 hs0=>?_⟩
 have a0:=ah.new hs0 (.lst [V.str "hat",V.str "sees",V.str "put",V.str "guess",V.str "right",V.str "ring",V.str "order",V.str "book",V.str "sure",V.str "share",V.str "groups"]);walk_at "i";refine⟨by decide,fun s1 hs1=>?_⟩
 have a1:=ah.new hs1 (.lst [V.str "circle",V.str "hats"]);refine⟨s0,s1,_,_,rfl,rfl,ax.of (a1 _ _ ag),ax.of ag,by decide,fun sm hsm=>?_⟩
 have a2:=ah.new hsm (.lst (me.map V.str));walk_at "i";have b0:=a0.trans (a1.trans a2);have hsm':upd (upd (upd H s0 (.lst [V.str "hat",V.str "sees",V.str "put",V.str "guess",V.str "right",V.str "ring",V.str "order",V.str "book",V.str "sure",V.str "share",V.str "groups"])) s1 (.lst [V.str "circle",V.str "hats"])) sm (.lst (me.map V.str)) sm=some (.lst (me.map V.str)):=ag;refine⟨s,40,rfl,by decide,fun dr dn H1 t1 hdr0 M hdn j=>?_⟩
 have b1:=b0.trans t1;have W:=t1 _ _ hsm';walk_at "i";refine cY M rfl j (by decide) (by omega) fun x0 hx0=>?_
 refine cY M rfl j (by decide) (by omega) fun x1 hx1=>?_
 walk_at "s";obtain⟨m,hm⟩:=r3 (show 0<=1+x1 % 12 by omega)
 refine⟨x0,m,by rw[hm],by omega,fun base hbl L=>?_⟩
 walk_at "i";refine cY M rfl j (by decide) (by omega) fun x2 hx2=>?_
 walk_at "s";refine⟨_,rfl,mP (by omega),?_⟩
 walk_at "s";refine⟨by omega,?_⟩
 have O:=GE x2 (show ((base.length:Nat):Int)≠0 by omega)
 have hmod':=C6 x2 (show (0:Int)<((base.length:Nat):Int) by omega)
 generalize x2 % ((base.length:Nat):Int)=am at O hmod' ⊢;obtain⟨a,rfl⟩:=r3 O;walk_at "i";refine⟨by decide,fun l hl=>?_⟩
 walk_at "i";have sl:=ah.new hl (.lst []);refine forR n (QH H s n sm dr base a l dn) rfl (by omega) ⟨[],_,_,_,_,rfl,b1.trans sl,ag,sl _ _ W,sl _ _ M,⟨by simp,by simp,fun x hx=>nomatch hx⟩,fun z=>absurd z (by decide)⟩ ?_ ?_
 ·rintro k σ H2 hk ⟨ns,y1,y2,y3,y4,rfl,J,f,d,b,g,r⟩;walk_at "i";refine cY b rfl j (by omega) (by omega) fun x3 hx3=>?_
  walk_at "s";refine cY b rfl j (by omega) (by omega) fun x4 hx4=>?_
  walk_at "s";obtain⟨m4,hm4⟩:=r3 (show 0<=1+x4 % 12 by omega)
  refine⟨x3,m4,by rw[hm4],by omega,fun p hbl' ab=>?_⟩
  have y:=mQ ab (by omega) (by omega)
  walk_at "s";refine wV (HK H s n sm dr base a l dn k) ?_ (fun R N=>?_)
  rotate_left
  ·walk_at "s";refine cY b rfl j (by decide) (by omega) fun x5 hx5=>?_
   walk_at "s";refine bU (fun c=>?_) (fun c=>N _ _ ⟨ns,p,_,_,rfl,J,f,d,b,g,r,y⟩);walk_at "i";refine cY b rfl j (by decide) (by omega) fun x6 hx6=>?_
   walk_at "s";refine⟨by decide,fun o ho=>?_⟩
   have I:=ah.new ho (.lst [V.int 1,V.int 3,V.int 5,V.int 7,V.int 9,V.int 11]);refine cY (I _ _ b) rfl j (by decide) (by omega) fun x7 hx7=>?_
   walk_at "s";refine cY (dn:=[1,3,5,7,9,11]) (m:=6) ag rfl (by decide) (by omega) (by omega) fun x8 hx8=>?_
   walk_at "s";refine⟨sj (by omega) (by omega),?_⟩
   obtain⟨c',ec,hlc⟩:=Gb (i:=(x6+(k:Int)*x8) % 26) (by omega) (by omega)
   refine⟨ku,_,c',rfl,rfl,by decide +kernel,ec,?_⟩
   walk_at "s";have h100:(1000:Nat)<=sizeLine:=by decide
   obtain⟨u,G⟩:∃ u,StrLaws.sliceText base none (some (a:Int))=u:=⟨_,rfl⟩;obtain⟨v,A⟩:∃ v,StrLaws.sliceText base (some ((a+1:Nat):Int)) none=v:=⟨_,rfl⟩;have C:=vN (x:=base) (k:=a) (by omega)
   have t:=yM (x:=base) (k:=a+1) (by omega)
   rw[G] at C;rw[A] at t;have Z:u.length=a:=by rw[aN,C,wh,<-aN];omega
   have hvl:v.length=base.length - (a+1):=by rw[aN,t,uF,<-aN]
   refine⟨base,rfl,by rw[G];omega,?_⟩
   rw[G];walk_at "s";refine⟨_,_,rfl,rfl,by rw[Z];show a+1<=_;omega,?_⟩
   refine⟨base,rfl,by rw[show ((a:Int)+1)=((a+1:Nat):Int) from rfl,A];omega,?_⟩
   rw[show ((a:Int)+1)=((a+1:Nat):Int) from rfl,A]
   have Y:(u++(⟨#[c']⟩:Str)).length=a+1:=by rw[aD,Z];rfl
   refine⟨_,_,rfl,rfl,by rw[Y];omega,?_⟩
   exact N _ _ ⟨ns,_,_,_,rfl,J.trans I,I _ _ f,I _ _ d,I _ _ b,g,r,mQ (((vO L C).append hlc).append (vP L t)) (by rw[aD,Y];omega) (by rw[aD,Y];omega)⟩
  rintro σ3 H3 ⟨ns,p,y3,y4,rfl,J,f,d,b,g,r,y⟩;refine wV (HK H s n sm dr base a l dn k) ?_ (fun R N=>?_)
  rotate_left
  ·walk_at "s";refine cY b rfl j (by decide) (by omega) fun x5 hx5=>?_
   walk_at "s";refine bU (fun c=>?_) (fun c=>N _ _ ⟨ns,p,_,_,rfl,J,f,d,b,g,r,y⟩);walk_at "s";refine cY b rfl j (by decide) (by omega) fun x6 hx6=>?_
   walk_at "s";obtain⟨m6,hm6⟩:=r3 (show 0<=(x6+5*(k:Int)) % 13 by omega)
   have T:m6<me.length:=by have:me.length=13:=rfl;omega
   rw[hm6];refine av (ax.of d) (aw (aQ T)) ?_;exact N _ _ ⟨ns,_,_,_,rfl,J,f,d,b,g,r,Ge _ (getD_memS T)⟩
  rintro σ3 H3 ⟨ns,p,y3,y4,rfl,J,f,d,b,g,r,y⟩;refine wV (HK H s n sm dr base a l dn k) ?_ (fun R N=>?_)
  rotate_left
  ·walk_at "s";refine cY b rfl j (by decide) (by omega) fun x5 hx5=>?_
   walk_at "s";refine bU (fun c=>?_) (fun c=>N _ _ ⟨ns,p,_,_,rfl,J,f,d,b,g,r,y⟩);walk_at "i";refine cY b rfl j (by decide) (by omega) fun x6 hx6=>?_
   walk_at "s";have h0:0<=(5*(k:Int)+x6) % 12:=by omega
   have h1:(5*(k:Int)+x6) % 12<12:=by omega
   generalize (5*(k:Int)+x6) % 12=wd at h0 h1 ⊢;obtain⟨U,rfl⟩:=r3 h0;rw[show (1+(U:Int))=((1+U:Nat):Int) from rfl]
   have h100:(1000:Nat)<=sizeLine:=by decide
   have hb1:(base++DF).length=base.length+12:=by rw[aD,uc]
   have hb2:(DF++base).length=12+base.length:=by rw[aD,uc]
   obtain⟨u,G⟩:∃ u,StrLaws.sliceText (base++DF) none (some ((1+U:Nat):Int))=u:=⟨_,rfl⟩;obtain⟨v,A⟩:∃ v,StrLaws.sliceText (DF++base) (some (-((1+U:Nat):Int))) none=v:=⟨_,rfl⟩;have C:=vN (x:=base++DF) (k:=1+U) (by omega)
   have t:=yN (x:=DF++base) (k:=1+U) (by omega) (by omega)
   rw[G] at C;rw[A] at t;have Z:u.length=1+U:=by rw[aN,C,wh,<-aN];omega
   have hvl:v.length=1+U:=by rw[aN,t,uF,<-aN];omega
   refine⟨_,_,rfl,rfl,by rw[show (Str.ofString "abcdefghijkl")=DF from rfl,uc];omega,?_⟩
   refine⟨_,rfl,by rw[show (Str.ofString "abcdefghijkl")=DF from rfl,G];omega,?_⟩
   rw[show (Str.ofString "abcdefghijkl")=DF from rfl,G]
   walk_at "s";refine⟨_,_,rfl,rfl,by rw[uc];omega,?_⟩
   walk_at "s";refine⟨_,rfl,by rw[A];omega,?_⟩
   rw[A];walk_at "s";refine⟨by decide,fun o ho=>?_⟩
   have I:=ah.new ho (.lst [V.str u,V.str v]);refine cY (I _ _ b) rfl j (by decide) (by omega) fun x7 hx7=>?_
   walk_at "s";have okU:=mQ (vO (L.append HL) C) (by omega) (by omega)
   have okV:=mQ (vP (HL.append L) t) (by omega) (by omega)
   rcases(show x7 % 2=0∨x7 % 2=1 by omega) with e | e
   ·rw[e];refine av (i:=((0:Nat):Int)) (ax.of ag) (aw rfl) ?_;exact N _ _ ⟨ns,_,_,_,rfl,J.trans I,I _ _ f,I _ _ d,I _ _ b,g,r,okU⟩
   ·rw[e];refine av (i:=((1:Nat):Int)) (ax.of ag) (aw rfl) ?_;exact N _ _ ⟨ns,_,_,_,rfl,J.trans I,I _ _ f,I _ _ d,I _ _ b,g,r,okV⟩
  rintro σ3 H3 ⟨ns,p,y3,y4,rfl,J,f,d,b,g,r,y⟩;walk_at "s";refine nP (.inl (ax.of f)) ?_;walk_at "s"
  by_cases c:p∈ns
  ·rw[dt c];walk_at "s";exact⟨ns,_,_,_,_,rfl,J,f,d,b,kH g (by omega),fun _ z=>by rw[z] at c;exact nomatch c⟩
  ·rw[ed c];walk_at "s";refine⟨.inl ⟨rfl,_,ax.of f⟩,?_⟩;refine⟨l,_,_,rfl,rfl,f,by rw[cc];exact bY (by have:=g.eU;omega),?_⟩
   have hl0:H l=none:=b1.free hl;have ne1:sm≠l:=bp W hl;have ne2:dr≠l:=bp M hl;exact⟨ns++[p],_,_,_,_,rfl,J.set hl0 _,by rw[ag,hO];rfl,by rw[aG ne1];exact d,by rw[aG ne2];exact b,KG g y c,fun _=>by simp⟩
 ·rintro σ H2 ⟨ns,y1,y2,y3,y4,rfl,J,f,d,b,g,r⟩;walk_at "s";exact q l ns H2 J (b1.free hl) f g
theorem ue:DS (ak iZ) ["cell","k","drawn","kind"] ["cell","k"] ["_law_draws"]:=aO (by decide +kernel)
theorem HP (B:Bn mg)(D:Def K mg "_law_count" iZ)(cy:Fn P w K mg base 1 "_law_draws" ["cell","count"] iL):Fn P w K mg base 2 "_law_count" ["cell","k"] vQ:=by
 refine D.gq ue (fun _ _ _ _ _ _ us L=>by obtain⟨_,_,rfl⟩:=eA L;rfl) (fun U H Q E h=>?_) ?_
 ·obtain⟨g,n,rfl,_⟩:=h;rfl
 intro X S O e2 I v F hc Z C W hu H U Q E h;subst O e2 I v F;obtain⟨g,k,rfl,q⟩:=h;refine⟨_,(af (bw S 2 (cE S 0 cy W (aa (aR aV (qD (kv S 0)) (EV (kv S 1))) (aa aq ae))))
   (af (bw S 3 (ck (aU (ai rfl) (kv S 2) aq (fun _ _=>rfl))))
   (af (cN (aS aX (kv S 3) aq (au _)) (aj (aK (aR aV aq (aR cV (qD (kv S 0)) (aR cF (aR kR aq aq) aq))))) ay)
   (af (cN (aS aX (kv S 3) aq (au _)) (aj (aK (aU (ai rfl) (dW (aa aq (aa (aR cF (aR kR aq aq) aq) (aa (aR kR aq aq) (sx (ns:=[2,9,10,99,100]) (by decide +kernel)))))) (ck (aU (ai rfl) (kv S 2) aq (fun _ _=>rfl))) (fun _ _=>rfl)))) ay)
   (af (cN (aS aX (kv S 3) aq (au _)) (aj (aK (aR aV aq (aR cV (aR aV (aR aV (aR eD (aU (ai rfl) (kv S 2) aq (fun _ _=>rfl)) (aR kR aq aq)) (aR eD (aU (ai rfl) (kv S 2) aq (fun _ _=>rfl)) (aR kR aq aq))) (aU (ai rfl) (kv S 2) aq (fun _ _=>rfl))) (aR cF (aR kR aq aq) aq))))) ay)
   (aj (aK (aR aV aq (ck (aU (ai rfl) (kv S 2) aq (fun _ _=>rfl))))))))))),?_⟩
 walk_at "d";refine⟨_,6,rfl,by decide,fun dr dn H1 R p b T a=>?_⟩
 walk_at "d";have d:(10:Int) ^ toNat 30=1000000000000000000000000000000:=by decide +kernel
 have j:(10:Int) ^ toNat 29=100000000000000000000000000000:=by decide +kernel
 have M:(10:Nat) ^ 30=1000000000000000000000000000000:=by decide +kernel
 have e:∀ (x:Int) (i:Hp),0<x->x<1000000000000000000000000000000->ah H1 i->Q (.int x) i:=fun x i h0 h1 s=>by
  obtain⟨c,rfl⟩:=r3 (show 0<=x by omega)
  exact q c i (by omega) (by omega) (R.trans s)
 refine cY b rfl a (by decide) (by omega) fun x0 N=>?_
 walk_at "d";refine bU (fun c=>?_) (fun c=>?_)
 ·refine⟨by unfold rR;decide,by rw[d];decide,?_⟩
  rw[d];exact e _ _ (by omega) (by omega) (ah.refl _)
 refine bU (fun z=>?_) (fun z=>?_)
 ·refine⟨by unfold rR;decide,by unfold rR;decide,by decide,fun o A=>?_⟩
  rw[d,j];have r:=ah.new A (.lst [V.int 1,V.int (1000000000000000000000000000000 - 1),V.int 100000000000000000000000000000,V.int 2,V.int 9,V.int 10,V.int 99,V.int 100]);refine cY (r _ _ b) rfl a (by decide) (by omega) fun u ab=>?_
  walk_at "d";obtain⟨m,hm⟩:=r3 (show 0<=u % 8 by omega)
  rw[hm];have hb:∀ x∈[(1:Int),1000000000000000000000000000000 - 1,100000000000000000000000000000,2,9,10,99,100],0<x/\x<1000000000000000000000000000000:=by decide +kernel
  have f:m < [(1:Int),1000000000000000000000000000000 - 1,100000000000000000000000000000,2,9,10,99,100].length:=by show m<8;omega
  refine av (ax.of ag) (aw (show ([(1:Int),1000000000000000000000000000000 - 1,100000000000000000000000000000,2,9,10,99,100].map V.int)[m]?=_ by rw[ek,b5 f];rfl)) ?_
  have:=hb _ (p0 f)
  exact e _ _ this.1 this.2 r
 refine bU (fun c2=>?_) (fun c2=>?_)
 ·refine cY b rfl a (by decide) (by omega) fun t l=>?_
  refine⟨by unfold rR;decide,?_⟩
  walk_at "d";refine⟨nA (by decide +kernel) (by decide +kernel),?_⟩
  refine cY b rfl a (by decide) (by omega) fun Y G=>?_
  refine⟨by unfold rR;decide,?_⟩
  walk_at "d";refine⟨nA (by decide +kernel) (by decide +kernel),?_⟩
  refine cY b rfl a (by decide) (by omega) fun x3 J=>?_
  walk_at "d";refine⟨by unfold rR;decide,by rw[d];decide,?_⟩
  rw[d];generalize t*10 ^ toNat 18+Y*10 ^ toNat 9+x3=y;exact e _ _ (by omega) (by omega) (ah.refl _)
 ·refine cY b rfl a (by decide) (by omega) fun t l=>?_
  walk_at "d";exact e _ _ (by omega) (by omega) (ah.refl _)
theorem jT:DS (ak dN) ["book","drawn","names","counts","web","lines","k","order","i","some","at","hats","first"] ["book","drawn"] ["range","len","str","list","max"]:=aO (by decide +kernel)
theorem HQ (B:Bn mg)(D:Def K mg "_law_mixed_lines" dN):Fn P w K mg base 1 "_law_mixed_lines" ["book","drawn"] (om K):=by
 refine D.gq jT (fun _ _ _ _ _ _ us hl=>by obtain⟨_,_,rfl⟩:=eA hl;rfl) (fun vs H Q E h=>?_) ?_
 ·obtain⟨b,dr,ns,e,ws,dn,rfl,_⟩:=h;rfl
 intro X S e1 e2 e3 e4 e5 hc u hxe hr hu H vs Q E h;subst e1 e2 e3 e4 e5;obtain⟨b,dr,ns,e,ws,dn,rfl,⟨a1,a2,a3,hb,h1,h2,h3⟩,P,bl,hdn,a4,q⟩:=h;have h8:=P.nm.eU;refine⟨_,(af (B1 (kv S 0) (Gp hc (K:=X.K) (n:=3) rfl (aJ (kg S 2) (aJ (kg S 3) (aJ (kg S 4) cA)))))
   (af (bw S 5 (dW ae))
   (af (dO hxe hc (ig S 0 B.range (aa (c7 S 1 (aE rfl) B.len qE (aa (kv S 2) ae)) ae)) (kg S 6) (aj (df (h7 qN ls nc bA rfl (kv S 5) (aa (aR aT (aR aT (aR aT bc (aU (ai rfl) (kv S 2) (kv S 6) (fun _ _=>rfl))) bc) (jk S 2 cL B.str boot_str (aa (aU (ai rfl) (kv S 3) (kv S 6) (fun _ _=>rfl)) ae))) ae)))))
   (af (bw S 7 (jk S 3 (dY hc) B.list boot_list (aa (jk S 0 gF B.range boot_range (aa (c7 S 1 (aE rfl) B.len qE (aa (kv S 2) ae)) ae)) ae)))
   (af (cN (aS aX (ck (aU (ai rfl) (kv S 1) aq (fun _ _=>rfl))) aq (au _)) (aj (bw S 7 (NH (kv S 7) (OJ kS aq) rfl))) ay)
   (af (dO hxe hc (cB (kv S 7) rfl) (kg S 8) (af (EY (i:=9) S hc u (ig S 0 B.range (aa (c7 S 1 (aE rfl) B.len qE (aa (kv S 2) ae)) ae)) (N:=["j","web","i"]) (W:=["j"]) (G:=[]) (fv:=[none,some 4,some 8]) (by decide +kernel) (fun cl C fp s H r=>⟨(kg r 0),(eV (aS aX (ck (aR cS (aU (ai rfl) (kv r 1) (kv r 2) (fun _ _=>rfl)) (aR cK aq (kv r 0)))) aq (au _))),(kv r 0)⟩) (by rw[u];decide +kernel) (by rw[dD,u];rfl))
   (aj (cN (aS (jD hu rfl) (kv S 9) (dW ae) (au _)) (af (bw S 10 (aR cV (aU (ai rfl) (kv S 1) (aR aV aq (kv S 8)) (fun _ _=>rfl)) (c7 S 1 (aE rfl) B.len qE (aa (kv S 9) ae))))
   (af (bw S 9 (aR (dC rfl) (mM (cq rfl) (kv S 9) (bD (kv S 10)) bC) (mM (cq rfl) (kv S 9) bC (bD (kv S 10)))))
   (af (cN (aS aX (ck (aU (ai rfl) (kv S 1) (aR aV aq (kv S 8)) (fun _ _=>rfl))) aq (au _)) (aj (bw S 9 (NH (kv S 9) (OJ kS aq) rfl))) ay)
   (af (EY (i:=11) S hc u (cB (aR (dC rfl) (kv S 9) (dW (aa (kv S 8) ae))) rfl) (N:=["j","names","counts"]) (W:=["j"]) (G:=["str"]) (fv:=[none,some 2,some 3]) (by decide +kernel) (fun cl C fp s H r=>⟨(kg r 0),bg,(aR aT (aR aT (aR aT bc (aU (ai rfl) (kv r 1) (kv r 0) (fun _ _=>rfl))) bc) (jk r 0 cL B.str boot_str (aa (aU (ai rfl) (kv r 2) (kv r 0) (fun _ _=>rfl)) ae)))⟩) (by rw[u];decide +kernel) (by rw[dD,u];rfl))
   (af (bw S 12 (aR aV aq (c7 S 4 (yA hc rfl) B.max boot_max (aa (ij S hc u (cB (kv S 11) rfl) (N:=["hat","lines"]) (W:=["hat"]) (G:=[]) (fv:=[none,some 5]) (by decide +kernel) (fun cl C fp s H r=>⟨(kg r 0),bg,(h7 qN slot_list_index type_list_index (qZ rfl) rfl (kv r 1) (aa (kv r 0) ae))⟩)) ae))))
   (af (bw S 10 (aR aV (kv S 12) (aR cV (aU (ai rfl) (kv S 1) (aR aV aq (kv S 8)) (fun _ _=>rfl)) (aR aV (aR cF (c7 S 1 (aE rfl) B.len qE (aa (kv S 5) ae)) (kv S 12)) aq))))
   (aj (df (h7 qN PySem.F.slot_list_insert PySem.F.type_list_insert Cu rfl (kv S 5) (aa (kv S 10) (aa (h7 zP GM KM (bH rfl) rfl bc (aa (aR (dC rfl) (dW (aa bc (aa (aU (ai rfl) (kv S 2) (kv S 8) (fun _ _=>rfl)) ae))) (ij S hc u (cB (kv S 9) rfl) (N:=["j","names"]) (W:=["j"]) (G:=[]) (fv:=[none,some 2]) (by decide +kernel) (fun cl C fp s H r=>⟨(kg r 0),bg,(aU (ai rfl) (kv r 1) (kv r 0) (fun _ _=>rfl))⟩))) ae)) ae))))))))))) ay))))
   (aj (aK (kv S 5))))))))),?_⟩
 walk_at "i";refine⟨b,_,rfl,ax.of hb,rfl,?_⟩;refine⟨_,_,rfl,⟨_,_,rfl,⟨_,_,rfl,⟨rfl,?_⟩⟩⟩⟩;walk_at "s";have h1000:(1000:Nat)<=sizeLine:=by decide
 have el:(Str.ofString "hat ").length=4:=by decide +kernel
 have a8:(Str.ofString " ").length=1:=by decide +kernel
 have hatF:∀ k,k<ns.length->bI (ns.getD k aW)=true/\(ns.getD k aW).length<=12/\(Str.ofString (toString ((e.getD k 0:Nat):Int))).length<=30/\((e.getD k 0:Nat):Int).natAbs.log2<1920:=fun k hk=>by
  have br:bI (ns.getD k aW)=true/\0<e.getD k 0/\e.getD k 0<10 ^ 30:=nU P hk;refine⟨br.1,(dI br.1).2.2,gn (dj br.2.1 br.2.2).1,?_⟩;rw[KF];exact(log2_lt (by omega)).mpr (Ti br.2.2 (by decide +kernel))
 walk_at "h";refine⟨by decide,fun l hl=>?_⟩
 have sl:=ah.new hl (.lst []);walk_at "h";refine aZ (.inl (ax.of (sl _ _ h1))) ?_;rw[cc];refine forR ns.length (QP H b dr a1 a2 a3 l ns e) rfl (by omega) ⟨_,_,_,_,_,_,_,rfl,sl,ag⟩ ?_ ?_
 ·rintro k σ H2 hk ⟨y6,y7,y8,y9,L,J,O,rfl,hS,aA⟩;walk_at "s";refine⟨.inl ⟨rfl,_,ax.of aA⟩,?_⟩;obtain⟨f1,f2,f3,f4⟩:=hatF k hk;refine av (ax.of (hS _ _ h1)) (aw (aQ hk)) ?_;refine⟨_,_,rfl,rfl,by rw[el];omega,?_⟩
  refine⟨_,_,rfl,rfl,by rw[aD,el,a8];omega,?_⟩
  refine cu (ax.of (hS _ _ h2)) rfl (by rw[ao,P.lc];exact hk) ?_
  rw[aM];refine⟨_,rfl,f4,?_⟩;refine⟨_,_,rfl,rfl,by rw[aD,aD,el,a8];omega,?_⟩
  rw[ky];refine⟨l,_,_,rfl,rfl,aA,by rw[cc,cc,cc,j6];exact bY (by omega),?_⟩
  refine⟨_,_,_,_,_,_,_,rfl,hS.set hl _,?_⟩;rw[ag,FM,hO,hO,hO];rfl
 rintro σ2 H2 ⟨y6,y7,y8,y9,L,J,O,rfl,hS2,aA⟩;walk_at "i";refine aZ (.inl (ax.of (hS2 _ _ h1))) ?_;rw[cc];refine⟨ns.length,rfl,by omega,fun rg hrg=>?_⟩
 have srg:=ah.new hrg (.KO 0 ns.length);refine⟨rg,ns.length,rfl,ag,by omega,fun o ho=>?_⟩
 have lo3:l≠o:=bp (srg _ _ aA) ho;have so:=ah.new ho (.lst (((List.range ns.length).map fun i=>((i:Nat):Int)).map V.int));have s2o:=srg.trans so;have ho':upd (upd H2 rg (.KO 0 ns.length)) o (.lst (((List.range ns.length).map fun i=>((i:Nat):Int)).map V.int)) o=some (.lst ((az (List.range ns.length)).map V.int)):=ag;have a0:=s2o _ _ aA;have a5:=hS2.trans s2o;generalize upd (upd H2 rg (.KO 0 ns.length)) o (.lst (((List.range ns.length).map fun i=>((i:Nat):Int)).map V.int))=H3 at ho' a0 a5 ⊢;walk_at "s";refine wV (QR H b dr a1 a2 a3 l ns e) ?_ (fun R hR=>?_)
 rotate_left
 ·walk_at "s";refine cY (a5 _ _ bl) rfl a4 (by decide) (by omega) fun x0 hx0=>?_
  walk_at "s";refine bU (fun c=>?_) (fun c=>hR _ _ ⟨o,_,_,_,_,_,_,_,rfl,a5,a0,ho',TN _,lo3⟩);refine⟨trivial,o,_,rfl,ax.of ho',fun o2 ho2=>?_⟩;have so2:=ah.new ho2 (.lst ((az (List.range ns.length)).map V.int).reverse);refine hR _ _ ⟨o2,(List.range ns.length).reverse,_,_,_,_,_,_,rfl,a5.trans so2,so2 _ _ a0,?_,reverse_perm _,bp a0 ho2⟩;rw[ag];unfold az;rw[<-TQ,<-TQ]
 rintro σ4 H4 ⟨o,od,y6,y8,y9,L,J,O,rfl,hS4,hl4,ho4,bf,lo⟩;have hodl:od.length=ns.length:=by rw[bf.length_eq,j6]
 have hodn:od.Nodup:=bf.nodup_iff.mpr Re;walk_at "h";have M0:=dh.start (ns:=ns) (ws:=ws);refine forL (QQ H b dr a1 a2 a3 l o ns e ws od) (ax.of ho4) ⟨_,_,_,_,_,_,_,rfl,hS4,ho4,hl4,⟨M0.ok,M0.gh,M0.nd,M0.pm,fun i=>by rw[M0.al i,take_zero];exact⟨fun z=>z.1.elim,(fun z=>nomatch z.1)⟩⟩,by rw[cc,j6];omega⟩ (fun k σ H' h=>by obtain⟨M,y6,y8,y9,L,J,O,_,_,h,_⟩:=h;exact ax.of h) ?_ ?_
 ·rintro k σ H5 hk ⟨M,y6,y8,y9,L,J,O,rfl,aP,ho5,hl5,T,hMl⟩;rw[ao] at hk;rw[aM];have hi:od.getD k 0<ns.length:=by
   have:od.getD k 0∈od:=by rw[b4,b5 hk];exact p0 _
   exact gc.mp (bf.mem_iff.mp this)
  have hnd:=Gw hodn hk;have htd:=Cv hk;generalize od.getD k 0=i at hi hnd htd ⊢;walk_at "i";refine aZ (.inl (ax.of (aP _ _ h1))) ?_;rw[cc];refine OK ns.length (fun j=>decide (ws.getD i 0 / 2 ^ j % 2=1)) (fun j=>((j:Nat):Int)) rfl (by omega) ?_ ?_
  ·intro j H6 A B' hj hS6 hA hB;walk_at "s";refine cu (ax.of (hS6 _ _ (aP _ _ h3))) rfl (by rw[ao,P.lw];exact hi) ?_
   rw[aM];walk_at "s";have hpj:0<2 ^ j:=Nat.pow_pos (by decide)
   have hj8:2 ^ j<=2 ^ 8:=q5 (by decide) (by omega)
   refine⟨dG (by omega),⟨by omega,?_⟩,?_⟩
   ·rw[KF];exact(log2_lt (by omega)).mpr (A6 hj8 (Os (by decide) (by decide)))
   refine bU (fun c=>?_) (fun c=>?_)
   ·exact hA (by rw[<-ri];exact c) _ (ah.refl _)
   ·exact hB (by rw[<-ri];exact Bool.eq_false_iff.mpr c) _ (ah.refl _)
  intro sa H6 hsa0 s6 bo;have bo:H6 sa=some (.lst ((az (il ns.length (ws.getD i 0))).map V.int)):=bo;have hpm:(il ns.length (ws.getD i 0)).Perm (il ns.length (ws.getD i 0)):=TN _;have hS6:=aP.trans s6;have ho6:=s6 _ _ ho5;have hl6:=s6 _ _ hl5;walk_at "s";refine⟨by decide,fun z hz=>?_⟩
  have sz:=ah.new hz (.lst []);refine⟨_,_,.lst (ax.of (sz _ _ bo)) (eZ.ints _),.lst (ax.of ag) .nil,kl _,by decide,?_⟩
  rw[AO];have ho7:=sz _ _ ho6;have hl7:=sz _ _ hl6;have ab:=hS6.trans sz;have v:=sz _ _ bo;generalize upd H6 z (.lst [])=H7 at ho7 hl7 ab v ⊢
  by_cases c0:il ns.length (ws.getD i 0)=[]
  ·rw[dt (show (az (il ns.length (ws.getD i 0))).map PyData.int=[] by rw[c0];rfl)]
   walk_at "s";exact⟨M,_,_,_,_,_,_,rfl,ab,ho7,hl7,T.skip c0 htd,by omega⟩
  rw[ed (show ¬ (az (il ns.length (ws.getD i 0))).map PyData.int=[] from fun z=>c0 (Th.mp (Th.mp z)))]
  walk_at "s";generalize hbt:il ns.length (ws.getD i 0)=bt at c0 v ⊢;have hbl:0<bt.length:=F2.mpr c0;have hbl8:bt.length<=ns.length:=by
   rw[<-hbt];unfold il
   have:=A5 (fun j=>decide (ws.getD i 0 / 2 ^ j % 2=1)) (List.range ns.length)
   rw[j6] at this;exact this
  walk_at "h";refine cY (ab _ _ bl) rfl a4 (by omega) (by omega) fun x1 hx1=>?_
  refine aZ (.inl (ax.of v)) ?_;rw[cc,ao];walk_at "s";refine⟨by omega,?_⟩
  obtain⟨d,hat1,eat1⟩:∃ a:Nat,a<bt.length/\x1 % (bt.length:Int)=(a:Int):=by
   have h0:=GE x1 (show (bt.length:Int)≠0 by omega)
   have h1:=C6 x1 (show (0:Int)<(bt.length:Int) by omega)
   exact⟨(x1 % (bt.length:Int)).toNat,by omega,by omega⟩
  rw[eat1];walk_at "h";refine⟨sa,_,rfl,ax.of v,fun c1 hc1=>?_⟩;rw[dv,<-TR];have sc1:=ah.new hc1 (.lst (((az bt).drop d).map V.int));refine⟨sa,_,rfl,ax.of (sc1 _ _ v),fun c2 hc2=>?_⟩;rw[k8,<-map_take];have sc2:=ah.new hc2 (.lst (((az bt).take d).map V.int));refine sF (ns:=(az bt).drop d) (ms:=(az bt).take d) (ax.of (sc2 _ _ ag)) (ax.of ag) (bY (by rw[uF,wh,ao];omega)) fun c3 hc3=>?_
  have sc3:=ah.new hc3 (.lst (((az bt).drop d++(az bt).take d).map V.int));have I:=sc1.trans (sc2.trans sc3);have e3:(az bt).drop d++(az bt).take d=az (bt.drop d++bt.take d):=by unfold az;rw[hO,TR,map_take]
  rw[e3];have hp3:(bt.drop d++bt.take d).Perm bt:=by
   have:=List.perm_append_comm (l₁:=bt.drop d) (l₂:=bt.take d)
   rw[Tn] at this;exact this
  walk_at "s";refine wV (A0 H7 b dr a1 a2 a3 l o i bt) ?_ (fun R hR=>?_)
  rotate_left
  ·walk_at "s";rw[e3] at I;refine cY (I _ _ (ab _ _ bl)) rfl a4 (by omega) (by omega) fun x2 hx2=>?_
   walk_at "s";refine bU (fun c=>?_) (fun c=>hR _ _ ⟨c3,_,_,_,_,_,rfl,I,ag,hp3⟩);refine⟨trivial,c3,_,rfl,ax.of ag,fun c4 hc4=>?_⟩;have sc4:=ah.new hc4 (.lst ((az (bt.drop d++bt.take d)).map V.int).reverse);refine hR _ _ ⟨c4,(bt.drop d++bt.take d).reverse,_,_,_,_,rfl,I.trans sc4,?_,(reverse_perm _).trans hp3⟩;rw[ag];unfold az;rw[TQ,TQ]
  rintro σ8 H8 ⟨s,f,y6,L,J,O,rfl,s8,hs8,hsm⟩;have hS8:=ab.trans s8;have hl8:=s8 _ _ hl7;have ho8:=s8 _ _ ho7;have hsml:f.length=bt.length:=hsm.length_eq;have hsmm:∀ j∈f,j<ns.length:=fun j hj=>by
   have:=hsm.mem_iff.mp hj
   rw[<-hbt] at this;exact(jg.mp this).1
  walk_at "h";refine⟨by decide,fun p hp=>?_⟩
  have sp:=ah.new hp (.lst [V.int (i:Int)]);refine sF (ns:=az f) (ms:=[(i:Int)]) (ax.of (sp _ _ hs8)) (ax.of ag) (bY (by rw[ao];show _+1<=100;omega)) fun p2 hp2=>?_
  have e4:az f++[(i:Int)]=az (f++[i]):=by unfold az;rw[hO];rfl
  rw[e4];have sp2:=ah.new hp2 (.lst ((az (f++[i])).map V.int));have a6:∀ j∈f++[i],j<ns.length:=fun j hj=>by
   rcases ka.mp hj with z | z
   ·exact hsmm j z
   ·rw[fz.mp z];exact hi
  have hlenh:(f++[i]).length<=9:=by rw[eG];show _+1<=9;omega
  have U:0<(f++[i]).length:=by rw[eG];show 0<_+1;omega
  have sp12:=sp.trans sp2;refine⟨p2,rfl,⟨_,ax.of ag⟩,qI (cT (ax.of ag)) (fun _=>true) (fun t=>.str (dP ns e (.dq ((f++[i]).getD t 0)))) (by rw[cc,ao];exact aB (by omega)) ?_ ?_⟩
  ·intro t H9 A B' ht hS9 hA _;rw[cc,ao] at ht;rw[et ht];have hj:=a6 _ (ez ht);generalize (f++[i]).getD t 0=j at hj hA ⊢;have s9:ah H H9:=hS8.trans (sp12.trans hS9);walk_at "s";obtain⟨f1,f2,f3,f4⟩:=hatF j hj;refine av (ax.of (s9 _ _ h1)) (aw (aQ hj)) ?_;refine⟨_,_,rfl,rfl,by rw[el];omega,?_⟩
   refine⟨_,_,rfl,rfl,by rw[aD,el,a8];omega,?_⟩
   refine cu (ax.of (s9 _ _ h2)) rfl (by rw[ao,P.lc];exact hj) ?_
   rw[aM];refine⟨_,rfl,f4,?_⟩;refine⟨_,_,rfl,rfl,by rw[aD,aD,el,a8];omega,?_⟩
   rw[ky];exact hA rfl _ (ah.refl _)
  intro ht H9 hht0 s9 Y;rw[bG,cc,ao,b9 (fun j=>V.str (dP ns e (.dq j)))] at Y;have Y:H9 ht=some (.lst (((f++[i]).map fun j=>dP ns e (.dq j)).map V.str)):=by rw[Y,kc];rfl
  have a9:=sp12.trans s9;have hl9:=a9 _ _ hl8;have ho9:=a9 _ _ ho8;have hS9:=hS8.trans a9;have hs9:=a9 _ _ hs8;walk_at "i";refine⟨ht,rfl,⟨_,ax.of Y⟩,qI (cT (ax.of Y)) (fun _=>true) (fun t=>.int (((M.map (dP ns e)).idxOf (dP ns e (.dq ((f++[i]).getD t 0))):Nat):Int)) (by rw[cc,cc];exact aB (by omega)) ?_ ?_⟩
  ·intro t H10 A B' x g hA _;rw[cc,cc] at x;have e5:(((f++[i]).map fun j=>dP ns e (.dq j)).map V.str).getD t .bE=.str (dP ns e (.dq ((f++[i]).getD t 0))):=by
    rw[b4,ek,ek,b5 x,b4,b5 x];rfl
   rw[e5];walk_at "s";refine⟨.inl ⟨rfl,_,ax.of (g _ _ hl9)⟩,?_⟩;exact⟨l,_,_,rfl,rfl,ax.of (g _ _ hl9),(T.idx P (a6 _ (ez x))).1,hA rfl _ (ah.refl _)⟩
  intro ix H10 hix0 a7 hix;rw[bG,cc,cc,b9 (fun j=>V.int (((M.map (dP ns e)).idxOf (dP ns e (.dq j)):Nat):Int))] at hix;have aF:=a7 _ _ hl9;have ho10:=a7 _ _ ho9;have g:=hS9.trans a7;have hs10:=a7 _ _ hs9;refine⟨ix,(f++[i]).map fun j=>(((M.map (dP ns e)).idxOf (dP ns e (.dq j)):Nat):Int),rfl,.inl (ax.of (by rw[hix,kc];rfl)),by intro z;have:=Th.mp z;rw[this] at U;exact absurd U (by decide),fun m hm hmax=>?_⟩
  obtain⟨jm,hjm,rfl⟩:=ih.mp hm;have hmlt:=(T.idx P (a6 jm hjm)).2.1;have hmx:∀ j∈f++[i],(M.map (dP ns e)).idxOf (dP ns e (.dq j))<=(M.map (dP ns e)).idxOf (dP ns e (.dq jm)):=fun j hj=>by
   have:=hmax _ (ih.mpr ⟨j,hj,rfl⟩)
   exact Int.ofNat_le.mp this
  generalize (M.map (dP ns e)).idxOf (dP ns e (.dq jm))=mm at hmlt hmx ⊢;walk_at "i";refine cY (g _ _ bl) rfl a4 (by omega) (by omega) fun x3 hx3=>?_
  refine aZ (.inl (ax.of aF)) ?_;rw[cc,cc];walk_at "s";refine⟨by omega,?_⟩
  walk_at "s";refine⟨.inl ⟨rfl,_,ax.of aF⟩,rfl,?_⟩;refine av (ax.of (g _ _ h1)) (aw (aQ hi)) ?_;refine⟨by decide,fun p7 hp7=>?_⟩
  have bb:=ah.new hp7 (.lst [V.str (Str.ofString "sees"),V.str (ns.getD i aW)]);refine⟨s,rfl,⟨_,ax.of (bb _ _ hs10)⟩,qI (cT (ax.of (bb _ _ hs10))) (fun _=>true) (fun t=>.str (ns.getD (f.getD t 0) aW)) (by rw[cc,ao];exact aB (by omega)) ?_ ?_⟩
  ·intro t H11 A B' x hS11 hA _;rw[cc,ao] at x;rw[et x];walk_at "s";have hj:=hsmm _ (ez x);refine av (ax.of (hS11 _ _ (bb _ _ (g _ _ h1)))) (aw (aQ hj)) ?_;exact hA rfl _ (ah.refl _)
  intro nl H11 hnl0 s11 hnl;rw[bG,cc,ao,b9 (fun j=>V.str (ns.getD j aW))] at hnl;have s711:=bb.trans s11;refine⟨p7,nl,_,_,rfl,rfl,ax.of (s11 _ _ ag),ax.of hnl,by rw[cc];exact bY (by show 2+_<=100;omega),fun p8 hp8=>?_⟩
  have sp8:=ah.new hp8 (.lst ([V.str (Str.ofString "sees"),V.str (ns.getD i aW)]++f.map fun j=>V.str (ns.getD j aW)));have e8:([V.str (Str.ofString "sees"),V.str (ns.getD i aW)]++f.map fun j=>V.str (ns.getD j aW))=(kM (fE ns e (.sees i f))).map V.str:=by
   show _=[V.str (Str.ofString "sees"),V.str (ns.getD i aW)]++(f.map fun j=>ns.getD j aW).map V.str;rw[kc];rfl
  have hsne:f≠[]:=fun z=>by rw[z] at hsml;exact absurd hsml (by show ¬ 0=_;omega)
  have hsp:f.Perm (il ns.length (ws.getD i 0)):=by rw[hbt];exact hsm
  have Z:=mT P hi hsp hsne;have hlw:=gO Z;have hlt:=fg Z;have hsum:=eh 30 (kM (fE ns e (.sees i f))) fun y hy=>(hlw.1 y hy).2.2;have h41:(kM (fE ns e (.sees i f))).length*31<=41*31:=zS _ hlw.2.1;have h2000:(2000:Nat)<=sizeLine:=by decide
  refine⟨_,p8,kM (fE ns e (.sees i f)),rfl,rfl,ax.of (by rw[ag,e8]),?_,?_,?_⟩
  ·rw[bq];show ((kM (fE ns e (.sees i f))).map fun z=>z.length+1).sum<=_
   omega
  ·rw[bq]
   have:(kN (fE ns e (.sees i f))).length=(Str.join ⟨#[32]⟩ (kM (fE ns e (.sees i f)))).length:=rfl
   omega
  rw[bq];obtain⟨qq,hq1,hq2,eqq⟩:∃ a:Nat,mm<a/\a<=M.length/\1+(mm:Int)+x3 % ((M.length:Int) - (1+(mm:Int))+1)=(a:Int):=by
   have h0:=GE x3 (show ((M.length:Int) - (1+(mm:Int))+1)≠0 by omega)
   have h1:=C6 x3 (show (0:Int)<((M.length:Int) - (1+(mm:Int))+1) by omega)
   exact⟨(1+(mm:Int)+x3 % ((M.length:Int) - (1+(mm:Int))+1)).toNat,by omega,by omega,by omega⟩
  rw[eqq];have sA:=s711.trans sp8;refine⟨l,_,qq,_,rfl,rfl,sA _ _ aF,by rw[cc,cc];omega,by rw[cc,cc];exact hq2,?_⟩
  have hln:H l=none:=hl;refine⟨dz M qq (.sees i f),_,_,_,_,_,_,rfl,(g.trans sA).set hln _,by rw[aG lo.symm];exact sA _ _ ho10,?_,?_,?_⟩
  ·rw[ag,AZ,AZ];rfl
  ·refine T.ins hi hnd hsp hsne (fun j hj=>?_) htd;have hj':j∈f++[i]:=by
    rcases hU.mp hj with z | z
    ·exact ka.mpr (.inr (fz.mpr z))
    ·exact ka.mpr (.inl z)
   exact(T.idx P (a6 j hj')).2.2 qq (A6 (hmx j hj') hq1)
  ·unfold dz;rw[eG,qs,wh,uF]
   omega
 rintro σ5 H5 ⟨M,y6,y8,y9,L,J,O,rfl,aP,ho5,hl5,T,hMl⟩;rw[ao] at T hMl;walk_at "s";refine q l M H5 aP hl5 ⟨T.ok,T.gh,T.nd,T.pm,fun i=>?_⟩ (by omega)
 rw[T.al i,L3]
 have:i∈od↔i<ns.length:=by rw[bf.mem_iff,gc]
 rw[this]
theorem uf:DS (ak i3) ["book","names","counts","web","lines","i","some"] ["book"] ["range","len"]:=aO (by decide +kernel)
theorem Dg (B:Bn mg)(D:Def K mg "_law_shown" i3):Fn P w K mg base 1 "_law_shown" ["book"] vZ:=by
 refine D.gq uf (fun _ _ _ _ _ _ us hl=>by obtain⟨_,rfl⟩:=fR hl;rfl) (fun vs H Q E h=>?_) ?_
 ·obtain⟨t,a,e,d,rfl,_⟩:=h;rfl
 intro X S e1 e2 e3 e4 e5 hc l hxe hr hu H vs Q E h;subst e1 e2 e3 e4 e5;obtain⟨b,a,e,d,rfl,⟨a1,a2,a3,hb,h1,h2,h3⟩,P,q⟩:=h;have h8:=P.nm.eU;refine⟨_,(af (B1 (kv S 0) (Gp hc (K:=X.K) (n:=3) rfl (aJ (kg S 1) (aJ (kg S 2) (aJ (kg S 3) cA)))))
   (af (EY (i:=4) S hc l (ig S 0 B.range (aa (c7 S 1 (aE rfl) B.len qE (aa (kv S 1) ae)) ae)) (N:=["k","names","counts"]) (W:=["k"]) (G:=["str"]) (fv:=[none,some 1,some 2]) (by decide +kernel) (fun cl C fp s H m=>⟨(kg m 0),bg,(aR aT (aR aT (aR aT bc (aU (ai rfl) (kv m 1) (kv m 0) (fun _ _=>rfl))) bc) (jk m 0 cL B.str boot_str (aa (aU (ai rfl) (kv m 2) (kv m 0) (fun _ _=>rfl)) ae)))⟩) (by rw[l];decide +kernel) (by rw[dD,l];rfl))
   (af (dO hxe hc (ig S 0 B.range (aa (c7 S 1 (aE rfl) B.len qE (aa (kv S 1) ae)) ae)) (kg S 5) (af (EY (i:=6) S hc l (ig S 0 B.range (aa (c7 S 1 (aE rfl) B.len qE (aa (kv S 1) ae)) ae)) (N:=["j","web","i","names"]) (W:=["j"]) (G:=[]) (fv:=[none,some 3,some 5,some 1]) (by decide +kernel) (fun cl C fp s H m=>⟨(kg m 0),(eV (aS aX (ck (aR cS (aU (ai rfl) (kv m 1) (kv m 2) (fun _ _=>rfl)) (aR cK aq (kv m 0)))) aq (au _))),(aU (ai rfl) (kv m 3) (kv m 0) (fun _ _=>rfl))⟩) (by rw[l];decide +kernel) (by rw[dD,l];rfl))
   (aj (cN (aS (jD hu rfl) (kv S 6) (dW ae) (au _)) (aj (df (h7 qN ls nc bA rfl (kv S 4) (aa (h7 zP GM KM (bH rfl) rfl bc (aa (aR (dC rfl) (dW (aa bc (aa (aU (ai rfl) (kv S 1) (kv S 5) (fun _ _=>rfl)) ae))) (kv S 6)) ae)) ae)))) ay))))
   (aj (aK (h7 zP GM KM (bH rfl) rfl bc (aa (kv S 4) ae))))))),?_⟩
 have h1000:(1000:Nat)<=sizeLine:=by decide
 have el:(Str.ofString "hat ").length=4:=by decide +kernel
 have Z:(Str.ofString " ").length=1:=by decide +kernel
 have hatF:∀ k,k<a.length->bI (a.getD k aW)=true/\(a.getD k aW).length<=12/\(Str.ofString (toString ((e.getD k 0:Nat):Int))).length<=30/\((e.getD k 0:Nat):Int).natAbs.log2<1920:=fun k hk=>by
  have br:bI (a.getD k aW)=true/\0<e.getD k 0/\e.getD k 0<10 ^ 30:=nU P hk;refine⟨br.1,(dI br.1).2.2,gn (dj br.2.1 br.2.2).1,?_⟩;rw[KF];exact(log2_lt (by omega)).mpr (Ti br.2.2 (by decide +kernel))
 walk_at "i";refine⟨b,_,rfl,ax.of hb,rfl,?_⟩;refine⟨_,_,rfl,⟨_,_,rfl,⟨_,_,rfl,⟨rfl,?_⟩⟩⟩⟩;walk_at "i";refine aZ (.inl (ax.of h1)) ?_;rw[cc];walk_at "s";refine⟨(a.length:Int),rfl,by omega,by omega,?_⟩
 rw[yx];refine qI jC (fun _=>true) (fun k=>.str (dP a e (.dq k))) (aB (by omega)) ?_ ?_
 ·intro k H1 A B' hk hS hA _;obtain⟨f1,f2,f3,f4⟩:=hatF k hk;rw[Int.zero_add];walk_at "s";refine av (ax.of (hS _ _ h1)) (aw (aQ hk)) ?_;refine⟨_,_,rfl,rfl,by rw[el];omega,?_⟩
  refine⟨_,_,rfl,rfl,by rw[aD,el,Z];omega,?_⟩
  refine cu (ax.of (hS _ _ h2)) rfl (by rw[ao,P.lc];exact hk) ?_
  rw[aM];refine⟨_,rfl,f4,?_⟩;refine⟨_,_,rfl,rfl,by rw[aD,aD,el,Z];omega,?_⟩
  rw[ky];exact hA rfl _ (ah.refl _)
 intro r H1 hr0 s1 p;rw[bG] at p;have p:H1 r=some (.lst (((A9 a d 0).map (dP a e)).map V.str)):=by
  rw[p];unfold A9;rw[range_zero,filter_nil,map_nil,TB,kc,kc];rfl
 have hrn:H r=none:=hr0;walk_at "i";refine aZ (.inl (ax.of (s1 _ _ h1))) ?_;rw[cc];refine forR a.length (QY H b a1 a2 a3 r a e d) rfl (by omega) ⟨_,_,rfl,s1,p⟩ ?_ ?_
 ·rintro k σ H2 hk ⟨y5,y6,rfl,M,L⟩;have hsl:(A9 a d k).length<=90:=by
   unfold A9
   have:=A5 (fun i=>decide (d.getD i 0≠0)) (List.range k)
   rw[j6] at this;rw[eG,cc,cc,j6]
   omega
  walk_at "i";refine aZ (.inl (ax.of (M _ _ h1))) ?_;rw[cc];refine⟨(a.length:Int),rfl,by omega,by omega,?_⟩
  rw[yx];refine qI jC (fun j=>decide (d.getD k 0 / 2 ^ j % 2=1)) (fun j=>.str (a.getD j aW)) (aB (by omega)) ?_ ?_
  ·intro j H6 A B' hj hS6 hA hB;rw[Int.zero_add];walk_at "s";refine cu (ax.of (hS6 _ _ (M _ _ h3))) rfl (by rw[ao,P.lw];exact hk) ?_
   rw[aM];walk_at "s";have hpj:0<2 ^ j:=Nat.pow_pos (by decide)
   have hj8:2 ^ j<=2 ^ 8:=q5 (by decide) (by omega)
   refine⟨dG (by omega),⟨by omega,?_⟩,?_⟩
   ·rw[KF];exact(log2_lt (by omega)).mpr (A6 hj8 (Os (by decide) (by decide)))
   refine bU (fun c=>?_) (fun c=>?_)
   ·refine av (ax.of (hS6 _ _ (M _ _ h1))) (aw (aQ hj)) ?_;exact hA (by rw[<-ri];exact c) _ (ah.refl _)
   ·exact hB (by rw[<-ri];exact Bool.eq_false_iff.mpr c) _ (ah.refl _)
  intro sa H6 hsa0 s6 I;have I:H6 sa=some (.lst (((il a.length (d.getD k 0)).map fun j=>a.getD j aW).map V.str)):=by rw[I,kc];rfl
  have s26:=M.trans s6;have hr6:=s6 _ _ L;have hbm:∀ j∈il a.length (d.getD k 0),j<a.length:=fun j hj=>(jg.mp hj).1;have hlow:∀ x∈(il a.length (d.getD k 0)).map (fun j=>a.getD j aW),gm x:=fun x hx=>by
   obtain⟨j,hj,rfl⟩:=ih.mp hx;exact(dI (P.nm.nm _ (getD_memS (hbm j hj)))).1
  walk_at "s";refine⟨by decide,fun z hz=>?_⟩
  have sz:=ah.new hz (.lst []);refine⟨_,_,.lst (ax.of (sz _ _ I)) (jf _),.lst (ax.of ag) .nil,tE hlow,by decide,?_⟩
  rw[AO];have u:=sz _ _ hr6;have v:=s26.trans sz;have o:=sz _ _ I;generalize upd H6 z (.lst [])=H7 at u v o ⊢;have f:=vY P hk
  by_cases O:d.getD k 0≠0
  ·have g:=mT P hk (TN _) (f.mpr O);have R:=f.mpr O;generalize hbt:il a.length (d.getD k 0)=bt at o g R ⊢;rw[ed (show ¬ ((bt.map fun j=>a.getD j aW).map PyData.str=[]) from fun z=>R (Th.mp (Th.mp z)))]
   walk_at "s";have hbl8:bt.length<=a.length:=by
    rw[<-hbt];unfold il
    have:=A5 (fun j=>decide (d.getD k 0 / 2 ^ j % 2=1)) (List.range a.length)
    rw[j6] at this;exact this
   refine⟨.inl ⟨rfl,_,ax.of u⟩,rfl,?_⟩;refine av (ax.of (v _ _ h1)) (aw (aQ hk)) ?_;refine⟨by decide,fun p7 hp7=>?_⟩
   have sp7:=ah.new hp7 (.lst [V.str (Str.ofString "sees"),V.str (a.getD k aW)]);refine⟨p7,sa,_,_,rfl,rfl,ax.of ag,ax.of (sp7 _ _ o),by rw[cc,cc];exact bY (by show 2+_<=100;omega),fun p8 hp8=>?_⟩
   have sp8:=ah.new hp8 (.lst ([V.str (Str.ofString "sees"),V.str (a.getD k aW)]++(bt.map fun j=>a.getD j aW).map V.str));have T:=gO g;have hlt:=fg g;have J:=eh 30 (kM (fE a e (.sees k bt))) fun y hy=>(T.1 y hy).2.2;have h41:(kM (fE a e (.sees k bt))).length*31<=41*31:=zS _ T.2.1;have h2000:(2000:Nat)<=sizeLine:=by decide
   refine⟨_,p8,kM (fE a e (.sees k bt)),rfl,rfl,ax.of (by rw[ag];rfl),?_,?_,?_⟩
   ·rw[bq];show ((kM (fE a e (.sees k bt))).map fun z=>z.length+1).sum<=_
    omega
   ·rw[bq]
    have:(kN (fE a e (.sees k bt))).length=(Str.join ⟨#[32]⟩ (kM (fE a e (.sees k bt)))).length:=rfl
    omega
   rw[bq];have sA:=sp7.trans sp8;refine⟨r,_,_,rfl,rfl,sA _ _ u,by rw[cc,cc];exact bY (by omega),?_⟩
   refine⟨_,_,rfl,(v.trans sA).set hrn _,?_⟩;rw[ag,kB,if_pos O,hbt,hO,hO];rfl
  ·have U:il a.length (d.getD k 0)=[]:=r4 fun z=>O (f.mp z);rw[U,dt (show (([]:List Nat).map fun j=>a.getD j aW).map PyData.str=[] from rfl)]
   walk_at "s";refine⟨_,_,rfl,v,?_⟩;rw[kB,if_neg O];exact u
 rintro σ2 H2 ⟨y5,y6,rfl,M,L⟩;walk_at "s";have hM:=fH P;have hML:(bj a d).length<=16:=h9 jh (by omega)
 have en:(Str.ofString "\n")=⟨#[10]⟩:=by decide +kernel
 have hoks:=hM.rf P;have emm:(bj a d).map (dP a e)=((bj a d).map (fE a e)).map kN:=by rw[kc];rfl
 have Y:((bj a d).map (fE a e)).length<=100:=by rw[cc];omega
 have hbl:=fi hoks Y;have J:=eh 1271 ((bj a d).map (dP a e)) fun y hy=>by
  obtain⟨x,hx,rfl⟩:=ih.mp hy;exact fg (hM.nV P x hx)
 rw[cc] at J;have h16:(bj a d).length*1272<=16*1272:=zS _ hML;have hbig:(1000000:Nat)<=sizeLine:=by decide
 have ebt:Str.join ⟨#[10]⟩ ((bj a d).map (dP a e))=fk ((bj a d).map (fE a e)):=by rw[emm];rfl
 refine⟨rfl,_,r,(bj a d).map (dP a e),rfl,rfl,ax.of L,?_,?_,?_⟩
 ·rw[en];show (((bj a d).map (dP a e)).map fun z=>z.length+1).sum<=_
  omega
 ·rw[en,ebt];omega
 rw[en,ebt];exact q H2 M
theorem RA {a b:Prop}[Decidable a][Decidable b]{x t:Prop}(hx:a->b->x)(ht:t):if a then (if b then x else t) else t:=by
 split
 ·split
  ·exact hx ‹_› ‹_›
  ·exact ht
 ·exact ht
theorem HR (k:Nat):(1:Int)*2 ^ ((k:Nat):Int).toNat=((2 ^ k:Nat):Int):=by
 rw[Int.one_mul,yx];exact(Int.natCast_pow 2 k).symm
theorem wW {x i n:Nat}(h:i<n):x&&& (2 ^ i - 1)<2 ^ n/\(x&&& (2 ^ i - 1)).testBit i=false:=by
 rw[Nat.and_two_pow_sub_one_eq_mod];have h1:=mod_lt x (FS i);exact⟨Ti h1 (Os (by decide) h),Nat.testBit_lt_two_pow h1⟩
theorem ug:DS (ak i4) ["drawn","many","kind","i","every","half","few"] ["drawn","many","kind","i"] []:=aO (by decide +kernel)
theorem zF (B:Bn mg)(D:Def K mg "_law_sight" i4):Fn P w K mg base 1 "_law_sight" ["drawn","many","kind","i"] Br:=by
 refine D.gq ug (fun _ _ _ _ _ _ I e=>by obtain⟨_,_,_,_,rfl⟩:=G8 e;rfl) (fun C H Q E h=>?_) ?_
 ·obtain⟨a,u,b,l,i,rfl,_⟩:=h;rfl
 intro X S A e2 z t y hc G v N hu H C Q E h;subst A e2 z t y;obtain⟨a,u,b,l,i,rfl,f,e,d,h1,J,hi,q⟩:=h;refine⟨_,(af (bw S 4 (aR cF (aR cF (aR cK aq (kv S 1)) aq) (aR cK aq (kv S 3))))
   (af (bw S 5 (qD (kv S 1)))
   (af (cN (aS aX (kv S 2) aq (au _)) (aj (aK (kv S 4))) ay)
   (af (cN (aS aX (kv S 2) aq (au _)) (af (bw S 6 (aR dR (aR dR (aU (ai rfl) (kv S 0) (kv S 3) (fun _ _=>rfl)) (aU (ai rfl) (kv S 0) (aR aV aq (kv S 3)) (fun _ _=>rfl))) (aU (ai rfl) (kv S 0) (aR aV aq (kv S 3)) (fun _ _=>rfl))))
   (aj (aK (aR dR (aR Ae (aR cK aq (aR cV (aR aV (kv S 3) aq) (kv S 1))) (kv S 6)) (kv S 4))))) ay)
   (af (cN (aS aX (kv S 2) aq (au _)) (aj (aK (aR dR (aU (ai rfl) (kv S 0) (kv S 3) (fun _ _=>rfl)) (aR cF (aR cK aq (kv S 3)) aq)))) ay)
   (af (cN (Ic (Nl (aS aX (kv S 2) aq (au _)) (EX (aS fG (kv S 3) (kv S 5) (au _))))) (aj (aK (aR cF (aR cF (aR cK aq (kv S 5)) aq) (aR cK aq (kv S 3))))) ay)
   (af (cN (aS aX (kv S 2) aq (au _)) (aj (aK (aR dR (aR cK aq (aR aV (kv S 5) (aR cV (aR aV (aR cF (kv S 3) (kv S 5)) aq) (aR cF (kv S 1) (kv S 5))))) (kv S 4)))) ay)
   (af (cN (aS aX (kv S 2) aq (au _)) (aj (aK (aR dR (aR dR (aU (ai rfl) (kv S 0) (kv S 3) (fun _ _=>rfl)) (aU (ai rfl) (kv S 0) (aR aV aq (kv S 3)) (fun _ _=>rfl))) (kv S 4)))) ay)
   (aj (aK (aR dR (aR Ae (aU (ai rfl) (kv S 0) (kv S 3) (fun _ _=>rfl)) (aU (ai rfl) (kv S 0) (aR aV aq (kv S 3)) (fun _ _=>rfl))) (kv S 4)))))))))))),?_⟩
 walk_at "i";refine⟨dG (by omega),dG (by omega),?_⟩
 rw[Bs hi];obtain⟨o,m⟩:=zi hi;have j:∀ x:Nat,Q (.int ((x&&& (2 ^ b - 1 - 2 ^ i):Nat):Int)) H:=fun x=>q _ (Bu o m).1 (Bu o m).2;have r:=q _ o m;generalize 2 ^ b - 1 - 2 ^ i=ev at r j ⊢;clear o m;walk_at "h";walk_at "h";refine bU (fun _=>r) (fun _=>?_);walk_at "h";refine bU (fun _=>?_) (fun _=>?_)
 ·walk_at "h";refine cP f e d (by omega) (by omega) fun p=>?_
  refine cP f e d (by omega) (by omega) fun s=>?_
  walk_at "s";refine cP f e d (by omega) (by omega) fun O=>?_
  walk_at "s";rw[show ((i:Int)+1) % (b:Int)=(((i+1) % b:Nat):Int) by rw[natCast_emod];rfl,HR]
  have hm:(i+1) % b<b:=mod_lt _ h1;refine⟨by omega,dG (by omega),?_⟩
  rw[Sk,Jv];exact j _
 walk_at "h";refine bU (fun _=>?_) (fun _=>?_)
 ·refine cP f e d (by omega) (by omega) fun p=>?_
  refine⟨dG (by omega),?_⟩
  rw[show ((2 ^ i:Nat):Int) - 1=((2 ^ i - 1:Nat):Int) by have:=FS i;omega]
  walk_at "s";exact q _ (wW hi).1 (wW hi).2
 walk_at "h";have e2:(b:Int) / 2=((b / 2:Nat):Int):=rfl;rw[e2] at *;refine RA (fun _ c=>?_) ?_
 ·have c:i<b / 2:=by omega
  refine⟨dG (by omega),dG (by omega),?_⟩
  rw[HR,Bs c];have F:2 ^ (b / 2)<=2 ^ b:=q5 (by decide) (Nat.div_le_self _ _)
  exact q _ (j5 (zi c).1 F) (zi c).2
 walk_at "h";refine bU (fun _=>?_) (fun _=>?_)
 ·have g:(0:Int)<(b:Int) - ((b / 2:Nat):Int):=by omega
  have L:=GE ((i:Int) - ((b / 2:Nat):Int)+1) (show (b:Int) - ((b / 2:Nat):Int)≠0 by omega)
  have M:=C6 ((i:Int) - ((b / 2:Nat):Int)+1) g;obtain⟨n,hn⟩:=r3 (show 0<=((b / 2:Nat):Int)+((i:Int) - ((b / 2:Nat):Int)+1) % ((b:Int) - ((b / 2:Nat):Int)) by omega)
  refine⟨g,?_⟩;rw[hn,HR,Jv];exact⟨dG (by omega),j _⟩
 walk_at "h";refine bU (fun _=>?_) (fun _=>?_)
 ·refine cP f e d (by omega) (by omega) fun p=>?_
  refine cP f e d (by omega) (by omega) fun s=>?_
  walk_at "s";exact j _
 walk_at "s";refine cP f e d (by omega) (by omega) fun p=>?_
 refine cP f e d (by omega) (by omega) fun s=>?_
 walk_at "s";exact j _
theorem lO:DS (ak eX) ["drawn","kind","i"] ["drawn","kind","i"] ["_law_count"]:=aO (by decide +kernel)
theorem KH (B:Bn mg)(D:Def K mg "_law_hat_count" eX)(xb:Fn P w K mg base 2 "_law_count" ["cell","k"] vQ):Fn P w K mg base 3 "_law_hat_count" ["drawn","kind","i"] Hr:=by
 refine D.gq lO (fun _ _ _ _ _ _ G d=>by obtain⟨_,_,_,rfl⟩:=jJ d;rfl) (fun y H Q E h=>?_) ?_
 ·obtain⟨a,o,f,i,rfl,_⟩:=h;rfl
 intro X S v e2 u m t hc A r z hu H y Q E h;subst v e2 u m t;obtain⟨a,o,f,i,rfl,j,d,b,hi,q⟩:=h;have e:(10:Nat) ^ 30=1000000000000000000000000000000:=by decide +kernel
 rw[e] at q;refine⟨_,(af (cN (aS aX (kv S 1) aq (au _)) (aj (aK aq)) ay)
   (af (cN (aS aX (kv S 1) aq (au _)) (aj (aK (aR aV aq (ck (aU (ai rfl) (kv S 0) (kv S 2) (fun _ _=>rfl)))))) ay)
   (af (cN (aS aX (kv S 1) aq (au _)) (aj (aK (aU (ai rfl) (dW (sx (ns:=[2,2,3,2,4,1]) (by decide +kernel))) (ck (aU (ai rfl) (kv S 0) (kv S 2) (fun _ _=>rfl))) (fun _ _=>rfl)))) ay)
   (aj (aK (cE S 0 xb z (aa (aU (ai rfl) (kv S 0) (kv S 2) (fun _ _=>rfl)) (aa (kv S 2) ae)))))))),?_⟩
 walk_at "d";refine bU (fun _=>q 2 H (ah.refl _) (by decide) (by decide)) (fun _=>?_)
 refine bU (fun _=>?_) (fun _=>?_)
 ·refine cP j d b (by omega) (by omega) fun x=>?_
  walk_at "d";exact q (1+x % 6) H (ah.refl _) (by omega) (by omega)
 refine bU (fun _=>?_) (fun _=>?_)
 ·refine⟨by decide,fun p C=>?_⟩
  have l:=ah.new C (.lst [V.int 2,V.int 2,V.int 3,V.int 2,V.int 4,V.int 1]);refine cP (l _ _ j) d b (by omega) (by omega) fun x=>?_
  walk_at "d";have hm:x % 6 < [2,2,3,2,4,1].length:=by show x % 6<6;omega
  have hb:∀ x∈[2,2,3,2,4,1],0<x/\x<1000000000000000000000000000000:=by decide +kernel
  refine av (i:=((x % 6:Nat):Int)) (ax.of ag) (aw (show ((az [2,2,3,2,4,1]).map V.int)[x % 6]?=some (.int (([2,2,3,2,4,1][x % 6]'hm:Nat):Int)) by unfold az;rw[ek,ek,b5 hm];rfl)) ?_
  exact q _ _ l (hb _ (p0 hm)).1 (hb _ (p0 hm)).2
 ·refine cP j d b (by omega) (by omega) fun x=>?_
  exact⟨_,_,rfl,fun c n F g s=>q c n s F (by rw[<-e];exact g)⟩
def RB (H0:Hp)(a:Addr)(most kinds:Nat)(dr nm:Addr)(ns:List Str)(ht:Addr)(x35:Nat)(ca sg wa tu o se:Addr)(k:Nat)(σ:L2.St)(H:Hp):Prop:=∃ (ws:List Nat) (y14 y15 y16:Option V),σ=[some (.ref a),some (.int (most:Int)),some (.int (kinds:Int)),some (.ref dr),some (.ref nm),some (.int (ns.length:Int)),some (.ref ht),some (.int ((x35:Int) % 6)),some (.ref ca),some (.ref sg),some (.ref wa),some (.ref tu),some (.ref o),some (.ref se),y14,y15,y16]/\ah H0 H/\H se=some (.lst ((az ws).map V.int))/\ws.length=k/\∀ j,j<k->ws.getD j 0<2 ^ ns.length/\(ws.getD j 0).testBit j=false
theorem uh:DS (ak i5) ["cells","most","kinds","drawn","names","many","hats","kind","counts","sights","web","turned","order","seen","i","mask","some"] ["cells","most","kinds"] ["_law_draws","_law_names","len","range","max","list","sum"]:=aO (by decide +kernel)
theorem zG (B:Bn mg)(D:Def K mg "_law_house" i5)(cy:Fn P w K mg base 1 "_law_draws" ["cell","count"] iL)(i9:Fn P w K mg base 2 "_law_names" ["cell","size"] oi)(mI:Fn P w K mg base 3 "_law_hat_count" ["drawn","kind","i"] Hr)(xc:Fn P w K mg base 1 "_law_sight" ["drawn","many","kind","i"] Br):Fn P w K mg base 4 "_law_house" ["cells","most","kinds"] (rA K):=by
 refine D.gq uh (fun _ _ _ _ _ _ us hl=>by obtain⟨_,_,_,rfl⟩:=jJ hl;rfl) (fun vs H Q E h=>?_) ?_
 ·obtain⟨a,xs,f,r,rfl,_⟩:=h;rfl
 intro X S e1 e2 e3 e4 e5 hc g hxe hr hu H vs Q E h;subst e1 e2 e3 e4 e5;obtain⟨a,xs,f,r,rfl,ha,hx3,m1,m8,k1,k6,q⟩:=h;obtain⟨c0,c1,c2,rfl⟩:∃ c0 c1 c2,xs=[c0,c1,c2]:=by
  match xs,hx3 with
  | [c0,c1,c2],_=>exact⟨c0,c1,c2,rfl⟩
 refine⟨_,(af (bw S 3 (cE S 0 cy hr (aa (aU (ai rfl) (kv S 0) aq (fun _ _=>rfl)) (aa aq ae))))
   (af (bw S 4 (dW ae))
   (af (cN (aS Ai (ck (aU (ai rfl) (kv S 3) aq (fun _ _=>rfl))) aq (au _)) (aj (bw S 4 (cE S 1 i9 hr (aa (qD (aU (ai rfl) (kv S 0) aq (fun _ _=>rfl))) (aa (aR aV aq (aR cV (aU (ai rfl) (kv S 3) aq (fun _ _=>rfl)) (kv S 1))) ae))))) ay)
   (af (bw S 5 (c7 S 2 (aE rfl) B.len qE (aa (kv S 4) ae)))
   (af (bw S 6 (cE S 0 cy hr (aa (aU (ai rfl) (kv S 0) aq (fun _ _=>rfl)) (aa aq ae))))
   (af (bw S 7 (aR cV (aU (ai rfl) (kv S 3) aq (fun _ _=>rfl)) (kv S 2)))
   (af (EY (i:=8) S hc g (ig S 3 B.range (aa (kv S 5) ae)) (N:=["i","hats","kind"]) (W:=["i"]) (G:=["_law_hat_count"]) (fv:=[none,some 6,some 7]) (by decide +kernel) (fun cl C fp s H n=>⟨(kg n 0),bg,(cE n 0 mI hr (aa (kv n 1) (aa (kv n 2) (aa (kv n 0) ae))))⟩) (by rw[g];decide +kernel) (by rw[dD,g];rfl))
   (af (bw S 9 (cE S 0 cy hr (aa (aU (ai rfl) (kv S 0) aq (fun _ _=>rfl)) (aa aq ae))))
   (af (bw S 7 (ck (aU (ai rfl) (kv S 3) aq (fun _ _=>rfl))))
   (af (EY (i:=10) S hc g (ig S 3 B.range (aa (kv S 5) ae)) (N:=["i","sights","many","kind"]) (W:=["i"]) (G:=["_law_sight"]) (fv:=[none,some 9,some 5,some 7]) (by decide +kernel) (fun cl C fp s H n=>⟨(kg n 0),bg,(cE n 0 xc hr (aa (kv n 1) (aa (kv n 2) (aa (kv n 3) (aa (kv n 0) ae)))))⟩) (by rw[g];decide +kernel) (by rw[dD,g];rfl))
   (af (bw S 11 (dW (aa (aR cV (aU (ai rfl) (kv S 3) aq (fun _ _=>rfl)) (c7 S 4 (BZ hc) B.max boot_max (aa aq (aa (kv S 5) ae)))) (aa (ck (aU (ai rfl) (kv S 3) aq (fun _ _=>rfl))) ae))))
   (af (bw S 12 (jk S 5 (dY hc) B.list boot_list (aa (jk S 3 gF B.range boot_range (aa (kv S 5) ae)) ae)))
   (af (bw S 12 (aR (dC rfl) (mM (cq rfl) (kv S 12) (bD (aU (ai rfl) (kv S 11) aq (fun _ _=>rfl))) bC) (mM (cq rfl) (kv S 12) bC (bD (aU (ai rfl) (kv S 11) aq (fun _ _=>rfl))))))
   (af (cN (aS aX (aU (ai rfl) (kv S 11) aq (fun _ _=>rfl)) aq (au _)) (aj (bw S 12 (NH (kv S 12) (OJ kS aq) rfl))) ay)
   (af (bw S 13 (dW ae))
   (af (dO hxe hc (ig S 3 B.range (aa (kv S 5) ae)) (kg S 14) (af (bw S 15 (aU (ai rfl) (kv S 10) (aU (ai rfl) (kv S 12) (kv S 14) (fun _ _=>rfl)) (fun _ _=>rfl)))
   (af (EY (i:=16) S hc g (ig S 3 B.range (aa (kv S 5) ae)) (N:=["j","mask","order"]) (W:=["j"]) (G:=[]) (fv:=[none,some 15,some 12]) (by decide +kernel) (fun cl C fp s H n=>⟨(kg n 0),(eV (aS aX (ck (aR cS (kv n 1) (aR cK aq (aU (ai rfl) (kv n 2) (kv n 0) (fun _ _=>rfl))))) aq (au _))),(kv n 0)⟩) (by rw[g];decide +kernel) (by rw[dD,g];rfl))
   (aj (df (h7 qN ls nc bA rfl (kv S 13) (aa (c7 S 6 (c8 hc rfl) B.sum boot_sum (aa (ij S hc g (cB (kv S 16) rfl) (N:=["j"]) (W:=["j"]) (G:=[]) (fv:=[none]) (by decide +kernel) (fun cl C fp s H n=>⟨(kg n 0),bg,(aR cK aq (kv n 0))⟩)) ae)) ae)))))))
   (aj (aK (dW (aa (kv S 4) (aa (kv S 8) (aa (kv S 13) ae)))))))))))))))))))))),?_⟩
 walk_at "i";refine av (i:=((0:Nat):Int)) ha (aw rfl) ?_;refine⟨_,40,rfl,by decide,fun dr dn H1 s1 hdr0 hdr M L=>?_⟩
 walk_at "i";refine⟨by decide,fun e0 he0=>?_⟩
 have s2:=s1.trans (ah.new he0 (.lst []));have t:=ah.new he0 (.lst []) _ _ hdr;have he2:upd H1 e0 (.lst []) e0=some (.lst []):=ag;generalize upd H1 e0 (.lst [])=H2 at s2 t he2 ⊢;walk_at "s";refine wV (fun σ' H'=>∃ (nm:Addr) (d:List Str),σ'=[some (.ref a),some (.int (f:Int)),some (.int (r:Int)),some (.ref dr),some (.ref nm),none,none,none,none,none,none,none,none,none,none,none,none]/\ah H2 H'/\H' nm=some (.lst (d.map V.str))/\Gd d f) ?_ ?_
 rotate_left
 ·intro R hR;walk_at "s";refine cP t M L (by decide) (by decide) fun x=>?_
  walk_at "s";refine bU (fun _=>?_) (fun _=>hR _ _ ⟨e0,[],rfl,ah.refl _,he2,⟨zero_le _,.nil,(fun _ z=>nomatch z)⟩⟩);refine av (i:=((0:Nat):Int)) (s2.seq ha) (aw rfl) ?_;walk_at "s";refine cP t M L (by decide) (by decide) fun y=>?_
  walk_at "s";have hy:y % f<f:=mod_lt _ m1;refine⟨by omega,_,1+y % f,by rw[natCast_add,natCast_emod];rfl,by omega,fun l d H3 s3 hl0 hl1 hN=>hR _ _ ⟨l,d,rfl,s3,hl1,kH hN (by omega)⟩⟩
 rintro σ3 H3 ⟨nm,d,rfl,s3,hnm,hN⟩;have hn8:=hN.eU;have s13:=s2.trans s3;have J:=s3 _ _ t;clear t he2 he0 s2 s3 hdr0 hdr s1;walk_at "i";refine aZ (.inl (ax.of hnm)) ?_;rw[cc];walk_at "i";refine av (i:=((1:Nat):Int)) (s13.seq ha) (aw rfl) ?_;refine⟨_,8,rfl,by decide,fun ht hn H4 s4 _ hht hhl hhn=>?_⟩
 have s14:=s13.trans s4;walk_at "i";refine cP (s4 _ _ J) M L (by decide) (by decide) fun x34=>?_
 refine⟨_,_,rfl,rfl,by omega,?_⟩
 walk_at "i";refine lcAny d.length rfl (by omega) (fun c=>0<c/\c<10 ^ 30) ?_ ?_
 ·intro i H5 A hi hS hA;walk_at "s";exact⟨ht,hn,_,i,rfl,hS _ _ hht,hhl,hhn,by omega,fun c H' s' h0 h1=>hA c H' s' ⟨h0,h1⟩⟩
 intro ca cs H5 hca0 s5 hca hcl hcok;have s15:=s14.trans s5;walk_at "i";refine av (i:=((2:Nat):Int)) (s15.seq ha) (aw rfl) ?_;refine⟨_,24,rfl,by decide,fun sg sn H6 s6 _ hsg hsl hsn=>?_⟩
 have s16:=s15.trans s6;have s36:=(s4.trans s5).trans s6;walk_at "i";refine cP (s36 _ _ J) M L (by decide) (by decide) fun x35=>?_
 walk_at "s";walk_at "i";refine FC d.length rfl (by omega) (fun i x=>∃ m:Nat,x=(m:Int)/\m<2 ^ d.length/\m.testBit i=false) ?_ ?_
 ·intro i H7 A hi hS hA;walk_at "s";exact⟨sg,sn,d.length,_,i,rfl,hS _ _ hsg,hsl,hsn,by omega,by omega,hi,fun m h0 h1=>hA _ _ (ah.refl _) ⟨m,rfl,h0,h1⟩⟩
 intro wa row H7 hwa0 s7 hwa hrl hrow;have s17:=s16.trans s7;have s37:=s36.trans s7;walk_at "i";refine cP (s37 _ _ J) M L (by decide) (by decide) fun x36=>?_
 have hmx:(0:Int)<(if (d.length:Int)>1 then (d.length:Int) else 1):=by split<;>omega
 refine⟨_,_,rfl,rfl,hmx,?_⟩;obtain⟨Z,hr0⟩:=r3 (GE (x36:Int) (Int.ne_of_gt hmx));refine cP (s37 _ _ J) M L (by decide) (by decide) fun x37=>?_
 walk_at "s";rw[hr0];refine⟨by decide,fun tu htu0=>?_⟩
 generalize u:upd H7 tu _=H8;obtain⟨st,htu⟩:=iq htu0 u;clear u htu0;walk_at "i";refine⟨d.length,rfl,by omega,fun rg hrg=>?_⟩
 generalize u:upd H8 rg _=H9;obtain⟨srg,hrg9⟩:=iq hrg u;refine⟨rg,d.length,rfl,hrg9,by omega,fun o ho=>?_⟩
 clear u;generalize u:upd H9 o _=H10;obtain⟨so,T⟩:=iq ho u;clear u;have T:H10 o=some (.lst ((az (List.range d.length)).map V.int)):=T;have s8o:=srg.trans so;have s79:=st.trans s8o;have v:=s8o _ _ htu;walk_at "i";refine av (i:=((0:Nat):Int)) (ax.of v) (aw rfl) ?_;walk_at "s";refine mZ Z (ax.of T) fun o1 H11 t1 _ ho1=>?_;refine av (i:=((0:Nat):Int)) (ax.of (t1 _ _ v)) (aw rfl) ?_;walk_at "s";refine tM Z (ax.of (t1 _ _ T)) fun o2 H12 t2 _ ho2=>?_;have hol:((az (List.range d.length)).map V.int).length=d.length:=by rw[cc,ao,j6]
 refine⟨o1,o2,_,_,rfl,rfl,ax.of (t2 _ _ ho1),ax.of ho2,?_,fun o3 ho3=>?_⟩
 ·rw[uF,wh,hol];exact bY (by omega)
 generalize u:upd H12 o3 _=H13;obtain⟨t3,p⟩:=iq ho3 u;clear u;have p:H13 o3=some (.lst ((az ((List.range d.length).drop Z++(List.range d.length).take Z)).map V.int)):=by
  rw[p];unfold az;rw[<-TR,<-TR,<-map_take,<-map_take,<-hO,<-hO]
 have t13:=(t1.trans t2).trans t3;have s7e:=s79.trans t13;have aA:((List.range d.length).drop Z++(List.range d.length).take Z).Perm (List.range d.length):=by
  have:=List.perm_append_comm (l₁:=(List.range d.length).drop Z) (l₂:=(List.range d.length).take Z)
  rwa [Tn] at this
 have U:=t13 _ _ v;generalize (List.range d.length).drop Z++(List.range d.length).take Z=od0 at p aA;clear hol ho1 ho2 ho3 T v t1 t2 t3 t13 s79;walk_at "s";refine wV (fun σ' H'=>∃ (o:Addr) (I:List Nat),σ'=[some (.ref a),some (.int (f:Int)),some (.int (r:Int)),some (.ref dr),some (.ref nm),some (.int (d.length:Int)),some (.ref ht),some (.int ((x35:Int) % 6)),some (.ref ca),some (.ref sg),some (.ref wa),some (.ref tu),some (.ref o),none,none,none,none]/\ah H7 H'/\H' o=some (.lst ((az I).map V.int))/\I.Perm (List.range d.length)) ?_ ?_
 rotate_left
 ·intro R hR;walk_at "s";refine av (i:=((1:Nat):Int)) (ax.of U) (aw rfl) ?_;walk_at "s";refine bU (fun c=>?_) (fun c=>hR _ _ ⟨o3,od0,rfl,s7e,p,aA⟩);refine⟨trivial,o3,_,rfl,ax.of p,fun o4 ho4=>?_⟩;have so4:=ah.new ho4 (.lst ((az od0).map V.int).reverse);refine hR _ _ ⟨o4,od0.reverse,rfl,s7e.trans so4,?_,(reverse_perm _).trans aA⟩;rw[ag];unfold az;rw[<-TQ,<-TQ]
 clear U p aA s7e;rintro σ4 H14 ⟨o,I,rfl,s8,ho,hod⟩;have hodl:I.length=d.length:=by rw[hod.length_eq,j6]
 have hodn:I.Nodup:=hod.nodup_iff.mpr Re;have hodi:∀ k,k<d.length->I.getD k 0<d.length:=fun k hk=>gc.mp (hod.mem_iff.mp (fN (by omega)))
 walk_at "i";refine⟨by decide,fun se Y=>?_⟩
 generalize u:upd H14 se _=H15;obtain⟨t5,hse⟩:=iq Y u;clear u;have s9:=s8.trans t5;have hseN:=s8.free Y;walk_at "i";refine forR d.length (RB H14 a f r dr nm d ht x35 ca sg wa tu o se) rfl (by omega) ⟨[],_,_,_,rfl,t5,hse,rfl,fun _ z=>absurd z (I1 _)⟩ ?_ ?_
 ·rintro k σ H16 hk ⟨ws,y14,y15,y16,rfl,u0,O,aF,ab⟩;walk_at "i";have hoA:=u0 _ _ ho;have hwA:=u0 _ _ (s8 _ _ hwa);have br:=hodi k hk;refine cu (ax.of hoA) rfl (by rw[ao];omega) ?_
  rw[aM];refine cu (ax.of hwA) rfl (by omega) ?_
  obtain⟨m,hm,hm2,hmb⟩:=hrow _ br;rw[hm];walk_at "i";refine OK d.length (fun j=>m.testBit (I.getD j 0)) (fun j=>((j:Nat):Int)) rfl (by omega) ?_ ?_
  ·intro j H17 A B' hj hS hA hB;walk_at "s";refine cu (ax.of (hS _ _ hoA)) rfl (by rw[ao];omega) ?_
   rw[aM];have hjo:=hodi j hj;generalize I.getD j 0=oj at hA hB hjo ⊢;walk_at "s";have hpj:0<2 ^ oj:=FS oj;have hj8:2 ^ oj<=2 ^ 8:=q5 (by decide) (by omega)
   refine⟨dG (by omega),⟨by omega,?_⟩,?_⟩
   ·rw[KF];exact(log2_lt (by omega)).mpr (A6 hj8 (Os (by decide) (by decide)))
   refine bU (fun c=>hA c _ (ah.refl _)) (fun c=>hB (by simpa using c) _ (ah.refl _))
  intro sm H17 hsm0 u1 aP;have hnd:((List.range d.length).filter fun j=>m.testBit (I.getD j 0)).Nodup:=Re.sublist TM;have a0:∀ j∈(List.range d.length).filter (fun j=>m.testBit (I.getD j 0)),j<d.length/\m.testBit (I.getD j 0)=true:=fun j hj=>⟨gc.mp (pS.mp hj).1,(pS.mp hj).2⟩;have hsml:((List.range d.length).filter fun j=>m.testBit (I.getD j 0)).length<=8:=by
   refine h9 (A5 _ _) ?_;rw[j6];omega
  have aP:H17 sm=some (.lst ((az ((List.range d.length).filter fun j=>m.testBit (I.getD j 0))).map V.int)):=aP;generalize (List.range d.length).filter (fun j=>m.testBit (I.getD j 0))=l at aP hnd a0 hsml;walk_at "s";have hse2:=u1 _ _ O;refine⟨.inl ⟨rfl,_,ax.of hse2⟩,?_⟩;refine RO (fun _=>true) (fun i=>((2 ^ l.getD i 0:Nat):Int)) (ax.of aP) (by rw[ao];exact aB (by omega)) ?_ ?_
  ·intro i H18 A B' hi hS hA _;rw[ao] at hi;rw[aM]
   have:=(a0 _ (fN hi)).1
   walk_at "s";exact⟨dG (by omega),hA rfl _ (ah.refl _)⟩
  intro ac H18 hac0 u2 hac;rw[bG,ao] at hac;have u02:=u0.trans (u1.trans u2);have esum:((List.range l.length).map fun i=>((2 ^ l.getD i 0:Nat):Int)).sum=((mask l:Nat):Int):=by
   have:=AN l
   rwa [ao] at this
  refine k7 (ax.of hac) ?_;rw[esum];refine⟨se,_,_,rfl,rfl,u2 _ _ hse2,by rw[cc,ao];exact bY (by omega),?_⟩
  rw[iM];refine⟨_,_,_,_,rfl,u02.set Y _,ag,by rw[eG,aF];rfl,fun j hj=>?_⟩
  by_cases e:j<k
  ·rw[b4,C2 (by omega),<-b4]
   exact ab j e
  ·obtain rfl:j=k:=by omega
   rw[b4,w6 (by omega),aF,T7]
   refine⟨sP hnd fun i hi=>(a0 i hi).1,?_⟩;show (mask l).testBit j=false;rw[bZ hnd];exact ed fun z=>by
    have:=(a0 j z).2
    rw[hmb] at this;cases this
 rintro σ H16 ⟨ws,y14,y15,y16,rfl,u0,O,aF,ab⟩;walk_at "s";have s1e:=s17.trans (s8.trans u0);have s3e:=s37.trans (s8.trans u0);have s5e:=(s6.trans s7).trans (s8.trans u0);refine⟨by decide,fun b hb=>?_⟩
 generalize u:upd H16 b _=H17;obtain⟨t6,hb'⟩:=iq hb u;refine q b d cs ws _ (s1e.trans t6) ⟨nm,ca,se,hb',t6 _ _ (s3e _ _ hnm),t6 _ _ (s5e _ _ hca),t6 _ _ O⟩ ⟨kH hN m8,hcl,aF,hcok,fun j hj=>(ab j (by omega)).1,fun j hj=>?_⟩ hn8
 have:=(ab j (by omega)).2
 rw[ri] at this
 have:=of_decide_eq_false this
 omega
theorem pM:DS (ak g5) ["rows","names","found","row","words"] ["rows","names"] ["len","tuple"]:=aO (by decide +kernel)
theorem KI (B:Bn mg)(D:Def K mg "_law_groups" g5):Fn P w K mg base 1 "_law_groups" ["rows","names"] (zj K):=by
 refine D.gq pM (fun _ _ _ _ _ _ U hl=>by obtain⟨_,_,rfl⟩:=eA hl;rfl) (fun vs H Q E h=>?_) ?_
 ·obtain⟨r,nm,d,L,rfl,_⟩:=h;rfl
 intro X S e1 e2 e3 e4 e5 hc hsc hxe hr hu H vs Q E h;subst e1 e2 e3 e4 e5;obtain⟨r,nm,d,L,rfl,hr0,hnm,G,q⟩:=h;refine⟨_,(af (bw S 2 (dW ae))
   (af (dO hxe hc (cB (kv S 0) rfl) (kg S 3) (af (bw S 4 (h7 zP Tr type_str_split dH rfl (kv S 3) (aa bc ae)))
   (af (cN (Ic (Nm (aS (dS rfl) (aU (ai rfl) (kv S 4) aq (fun _ _=>rfl)) (qF (aa bc (aa bc ae))) (by with_unfolding_all rfl)) (yh (aS fG (c7 S 0 (aE rfl) B.len qE (aa (kv S 4) ae)) aq (au _))))) (aj (aK my)) ay)
   (af (cN (aS (jD hu rfl) (ij S hc hsc (cB (mM (cq rfl) (kv S 4) (bD aq) bC) rfl) (N:=["word","names"]) (W:=["word"]) (G:=[]) (fv:=[none,some 1]) (by decide +kernel) (fun cl C fp s H T=>⟨(kg T 0),(eV (aS (dS rfl) (kv T 0) (kv T 1) (by with_unfolding_all rfl))),(kv T 0)⟩)) (dW ae) (au _)) (aj (aK my)) ay)
   (aj (df (h7 qN ls nc bA rfl (kv S 2) (aa (qF (aa (aU (ai rfl) (kv S 4) aq (fun _ _=>rfl)) (aa (jk S 1 (gL rfl) B.tuple Tu (aa (ij S hc hsc (cB (mM (cq rfl) (kv S 4) (bD aq) bC) rfl) (N:=["word","names"]) (W:=["word"]) (G:=[]) (fv:=[none,some 1]) (by decide +kernel) (fun cl C fp s H T=>⟨(kg T 0),bg,(h7 qN slot_list_index type_list_index (qZ rfl) rfl (kv T 1) (aa (kv T 0) ae))⟩)) ae)) ae))) ae))))))))
   (aj (aK (jk S 1 (gL rfl) B.tuple Tu (aa (kv S 2) ae)))))),?_⟩
 walk_at "i";refine⟨by decide,fun f hf0=>?_⟩
 generalize c:upd H f _=H1;obtain⟨s1,hf⟩:=iq hf0 c;clear c;walk_at "i";refine FA (Rj X.K H r nm f L) (ax.of (s1 _ _ hr0)) ⟨[],_,_,rfl,s1,hf,trivial⟩ (fun k σ H' h=>by obtain⟨U,y3,y4,_,s,_⟩:=h;exact ax.of (s _ _ hr0)) ?_ ?_
 ·rintro k v σ H2 hv ⟨U,y3,y4,rfl,s2,Bd,I⟩;obtain⟨g,hg,rfl⟩:∃ g,L[k]?=some g/\v=.str (zf d g):=by
   rw[ek,ek] at hv
   cases e:L[k]? with
   | none=>rw[e] at hv;cases hv
   | some x=>rw[e] at hv;cases hv;exact⟨x,rfl,rfl⟩
  obtain⟨Z,gne⟩:=G.each g (h5 hg);have h8:=Z.eU;have y:=s2 _ _ hnm;obtain⟨b,l⟩:=g;have n:∀ x∈kd b::l.map (fun i=>d.getD i aW),32∉cz x/\x.length<=12:=fun x hx=>by
   rcases hU.mp hx with rfl | hx
   ·cases b<;>decide +kernel
   ·obtain⟨i,hi,rfl⟩:=ih.mp hx
    have:=G.nm.nm _ (getD_memS (Z.lt i hi))
    exact⟨(eg this).1,(dI this).2.2⟩
  have hsp:=ee 32 (List.cons_ne_nil _ _) fun x hx=>(n x hx).1;have hjl:=eB 32 12 _ fun x hx=>(n x hx).2;rw[qs,cc] at hjl;have hl8:l.length<=8:=h8;have hbig:(1000:Nat)<=sizeLine:=by decide
  walk_at "i";rw[bq];refine⟨rfl,_,_,rfl,rfl,by decide,?_,?_,fun w hw0=>?_⟩
  ·show (Str.join ⟨#[32]⟩ (kd b::l.map fun i=>d.getD i aW)).length+2<=_
   omega
  ·show (Txt.split (Str.join ⟨#[32]⟩ (kd b::l.map fun i=>d.getD i aW)) ⟨#[32]⟩).length<=_;rw[hsp,qs,cc];omega
  generalize c:upd H2 w _=H3;obtain⟨s3,hw⟩:=iq hw0 c;clear c;have hw:H3 w=some (.lst ((kd b::l.map fun i=>d.getD i aW).map V.str)):=by rw[hw];show some (HO.lst ((Txt.split (Str.join ⟨#[32]⟩ (kd b::l.map fun i=>d.getD i aW)) ⟨#[32]⟩).map V.str))=_;rw[hsp]
  walk_at "i";refine av (i:=((0:Nat):Int)) (ax.of hw) (aw rfl) ?_;walk_at "s";refine⟨by decide,fun p hp0=>?_⟩
  generalize c:upd H3 p _=H4;obtain⟨s4,hp⟩:=iq hp0 c;clear c;refine nP (neg:=true) (a:=["circle","ring"]) (.inr (aH.of hp)) ?_;have hk:decide (kd b∈(["circle","ring"]:List Str))=true:=by cases b<;>decide +kernel
  rw[if_pos rfl,hk];walk_at "s";have hw4:=s4 _ _ hw;refine aZ (.inl (ax.of hw4)) ?_;rw[cc,qs,cc];walk_at "s";have hl1:1<=l.length:=F2.mpr gne;rw[if_neg (by omega)]
  walk_at "i";refine mZ 1 (ax.of hw4) fun v5 H5 s5 _ M=>?_;have M:H5 v5=some (.lst ((l.map fun i=>d.getD i aW).map V.str)):=M;have s25:=(s3.trans s4).trans s5;have aA:∀ i,i<l.length->(l.map fun i=>d.getD i aW).getD i aW=d.getD (l.getD i 0) aW/\l.getD i 0<d.length:=fun i hi=>by
   refine⟨?_,Z.lt _ (fN hi)⟩;rw[b4,ek,b5 hi,b4 (l:=l),b5 hi];rfl
  have itm:∀ i,i<l.length->((l.map fun i=>d.getD i aW).map V.str).getD i .bE=.str (d.getD (l.getD i 0) aW):=fun i hi=>by
   rw[b4,aQ (by rw[cc];exact hi),(aA i hi).1];rfl
  refine⟨v5,rfl,⟨_,ax.of M⟩,QU (cT (ax.of M)) (by rw[cc,cc];exact aB (by omega)) ?_ ?_⟩
  ·intro i H6 B' A hi hS hB;rw[cc,cc] at hi;rw[itm i hi];walk_at "s";refine nP (neg:=true) (.inl (ax.of (hS _ _ (s25 _ _ y)))) ?_;rw[if_pos rfl,dt (getD_memS (aA i hi).2)];walk_at "s";exact hB
  intro n6 H6 s6 hn6;refine⟨by decide,fun n7 hn70=>?_⟩
  generalize c:upd H6 n7 _=H7;obtain⟨s7,hn7⟩:=iq hn70 c;clear c;refine kF (l:=[]) (m:=[]) (ax.of (s7 _ _ hn6)) (ax.of hn7) (fun _ z=>nomatch z) (fun _ z=>nomatch z) ?_;walk_at "s";have s27:=s25.trans (s6.trans s7);have hf7:=s27 _ _ Bd;refine⟨.inl ⟨rfl,_,ax.of hf7⟩,?_⟩;have hw7:=((s4.trans s5).trans (s6.trans s7)) _ _ hw;refine av (i:=((0:Nat):Int)) (ax.of hw7) (aw rfl) ?_;refine mZ 1 (ax.of hw7) fun v8 H8 s8 _ O=>?_;have O:H8 v8=some (.lst ((l.map fun i=>d.getD i aW).map V.str)):=O;have ab:=s27.trans s8;refine⟨v8,rfl,⟨_,ax.of O⟩,qI (cT (ax.of O)) (fun _=>true) (fun i=>.int ((l.getD i 0:Nat):Int)) (by rw[cc,cc];exact aB (by omega)) ?_ ?_⟩
  ·intro i H9 A B' hi hS hA _;rw[cc,cc] at hi;rw[itm i hi];obtain⟨_,aF⟩:=aA i hi;walk_at "s";refine⟨.inl ⟨rfl,_,ax.of (hS _ _ (ab _ _ y))⟩,nm,d,_,rfl,rfl,ax.of (hS _ _ (ab _ _ y)),getD_memS aF,?_⟩;have hix:d.idxOf (d.getD (l.getD i 0) aW)=l.getD i 0:=by
    rw[b4,b5 aF];exact G.nm.nd.idxOf_getElem _ aF
   rw[hix];exact hA rfl _ (ah.refl _)
  intro ac H9 hac0 s9 hac;rw[bG,cc,cc,b9 (fun j=>V.int ((j:Nat):Int)),show (l.map fun j=>V.int ((j:Nat):Int))=(az l).map V.int by unfold az;rw[kc];rfl] at hac
  refine⟨ac,_,rfl,ax.of hac,fun t o ht oc od=>?_⟩;generalize c:upd H9 t _=H10;obtain⟨s10,ht'⟩:=iq ht c;clear c;refine⟨by decide,fun u hu0=>?_⟩
  generalize c:upd H10 u _=H11;obtain⟨Y,hu'⟩:=iq hu0 c;clear c;have J:=ab.trans (s9.trans (s10.trans Y));have R:=J _ _ Bd;refine⟨f,U,_,rfl,rfl,R,?_,?_⟩
  ·rw[I.length,wh];have:=G.eU;exact bY (by omega)
  refine⟨U++[.ref u],_,_,rfl,(s2.trans J).set hf0 _,ag,?_⟩
  have:L.take (k+1)=L.take k++[(b,l)]:=by rw[take_succ,hg];rfl
  rw[this];refine GF.c5 R (GF.append (I.mono J) ⟨⟨u,t,rfl,aH.of hu',.inl (.inr ⟨o,Y _ _ ht'⟩),.inr ⟨o,_,Y _ _ ht',oc,od⟩⟩,trivial⟩)
 rintro σ H2 ⟨U,y3,y4,rfl,s2,Bd,I⟩;rw[cc,cc,L3] at I;walk_at "s";refine⟨f,_,rfl,ax.of Bd,fun t o ht oc od=>?_⟩;have st:=ah.new ht (.jE o (.tup U));exact q t U _ (s2.trans st) (.inl (.inr ⟨o,ag⟩)) (I.mono st)
def RC (H0:Hp)(b dr n1 n2 n3:Addr)(n:Nat)(o t:Addr)(k:Nat)(σ:L2.St)(H:Hp):Prop:=∃ (y:Option V) (l m:List Nat),σ=[some (.ref b),some (.ref dr),some (.ref n1),some (.ref n2),some (.ref n3),some (.int (n:Int)),some (.ref o),some (.ref t),y,none,none,none]/\ah H0 H/\H o=some (.lst ((az l).map V.int))/\H t=some (.lst ((az m).map V.int))/\m.length=k/\(m++l).Perm (List.range n)
def RD (H0:Hp)(st:L2.St)(n:Nat)(ot:Addr)(ws p:List Nat)(k:Nat)(σ:L2.St)(H:Hp):Prop:=∃ (y:Option V) (vs:List Nat),σ=st++[y]/\ah H0 H/\H ot=some (.lst ((az vs).map V.int))/\vs.length=k/\∀ i,i<k->vs.getD i 0=mask ((List.range n).filter fun j=>dc ws (p.getD i 0) (p.getD j 0))
theorem pN:DS (ak g6) ["book","drawn","names","counts","web","many","order","turned","k","fresh","other","i"] ["book","drawn"] ["len","list","range","_law_names","sum"]:=aO (by decide +kernel)
theorem Dh (B:Bn mg)(D:Def K mg "_law_turned" g6)(i9:Fn P w K mg base 2 "_law_names" ["cell","size"] oi):Fn P w K mg base 3 "_law_turned" ["book","drawn"] wD:=by
 refine D.gq pN (fun _ _ _ _ _ _ us hl=>by obtain⟨_,_,rfl⟩:=eA hl;rfl) (fun vs H Q E h=>?_) ?_
 ·obtain⟨b,dr,d,cs,ws,dn,rfl,_⟩:=h;rfl
 intro X S e1 e2 e3 e4 e5 hc hsc hxe hr hu H vs Q E h;subst e1 e2 e3 e4 e5;obtain⟨b,dr,d,cs,ws,dn,rfl,⟨n1,n2,n3,hb,hn1,hn2,hn3⟩,P,hdr,hdl,hnn,q⟩:=h;have h8:=P.nm.eU;refine⟨_,(af (B1 (kv S 0) (Gp hc (K:=X.K) (n:=3) rfl (aJ (kg S 2) (aJ (kg S 3) (aJ (kg S 4) cA)))))
   (af (bw S 5 (c7 S 0 (aE rfl) B.len qE (aa (kv S 2) ae)))
   (af (bw S 6 (jk S 1 (dY hc) B.list boot_list (aa (jk S 2 gF B.range boot_range (aa (kv S 5) ae)) ae)))
   (af (bw S 7 (dW ae))
   (af (dO hxe hc (ig S 2 B.range (aa (kv S 5) ae)) (kg S 8) (aj (df (h7 qN ls nc bA rfl (kv S 7) (aa (h7 qN PySem.F.slot_list_pop PySem.F.type_list_pop Ei rfl (kv S 6) (aa (aR cV (aU (ai rfl) (kv S 1) (kv S 8) (fun _ _=>rfl)) (c7 S 0 (aE rfl) B.len qE (aa (kv S 6) ae))) ae)) ae)))))
   (af (bw S 9 (cE S 3 i9 hr (aa (aU (ai rfl) (kv S 1) aq (fun _ _=>rfl)) (aa (kv S 5) ae))))
   (af (cN (aS fG (c7 S 0 (aE rfl) B.len qE (aa (kv S 9) ae)) (kv S 5) (au _)) (aj (bw S 9 (mM (cq rfl) (ij S hc hsc (FQ bc rfl) (N:=["sign"]) (W:=["sign"]) (G:=[]) (fv:=[none]) (by decide +kernel) (fun cl C fp s H v=>⟨(kg v 0),bg,(aR aT (kv v 0) bc)⟩)) bC (bD (kv S 5))))) ay)
   (af (bw S 10 (dW ae))
   (af (dO hxe hc (cB (kv S 7) rfl) (kg S 11) (aj (df (h7 qN ls nc bA rfl (kv S 10) (aa (c7 S 4 (c8 hc rfl) B.sum boot_sum (aa (ij S hc hsc (ig S 2 B.range (aa (kv S 5) ae)) (N:=["k","web","i","turned"]) (W:=["k"]) (G:=[]) (fv:=[none,some 4,some 11,some 7]) (by decide +kernel) (fun cl C fp s H v=>⟨(kg v 0),(eV (aS aX (ck (aR cS (aU (ai rfl) (kv v 1) (kv v 2) (fun _ _=>rfl)) (aR cK aq (aU (ai rfl) (kv v 3) (kv v 0) (fun _ _=>rfl))))) aq (au _))),(aR cK aq (kv v 0))⟩)) ae)) ae)))))
   (aj (aK (dW (aa (dW (aa (kv S 9) (aa (ij S hc hsc (cB (kv S 7) rfl) (N:=["i","counts"]) (W:=["i"]) (G:=[]) (fv:=[none,some 3]) (by decide +kernel) (fun cl C fp s H v=>⟨(kg v 0),bg,(aU (ai rfl) (kv v 1) (kv v 0) (fun _ _=>rfl))⟩)) (aa (kv S 10) ae)))) (aa (kv S 7) ae)))))))))))))),?_⟩
 walk_at "i";refine⟨b,_,rfl,ax.of hb,rfl,?_⟩;refine⟨_,_,rfl,⟨_,_,rfl,⟨_,_,rfl,⟨rfl,?_⟩⟩⟩⟩;walk_at "i";refine aZ (.inl (ax.of hn1)) ?_;rw[cc];walk_at "i";refine⟨d.length,rfl,by omega,fun rg hrg=>?_⟩
 generalize f:upd H rg _=H1;obtain⟨s1,Z⟩:=iq hrg f;refine⟨rg,d.length,rfl,Z,by omega,fun o ho0=>?_⟩
 clear f;generalize f:upd H1 o _=H2;obtain⟨s2,ho⟩:=iq ho0 f;clear f;have ho:H2 o=some (.lst ((az (List.range d.length)).map V.int)):=ho;walk_at "i";refine⟨by decide,fun t U=>?_⟩
 generalize f:upd H2 t _=H3;obtain⟨s3,ht⟩:=iq U f;clear f;have hoN:H o=none:=s1.free ho0;have htN:H t=none:=(s1.trans s2).free U;have hot:o≠t:=bp ho U;have s13:=s1.trans (s2.trans s3);walk_at "i";refine forR d.length (RC H b dr n1 n2 n3 d.length o t) rfl (by omega) ⟨_,_,[],rfl,s13,s3 _ _ ho,ht,rfl,TN _⟩ ?_ ?_
 ·rintro k σ H4 hk ⟨y,l,m,rfl,s4,J,T,hml,hp⟩;have hll:l.length=d.length - k:=by have:=hp.length_eq;rw[eG,j6] at this;omega
  walk_at "s";refine⟨.inl ⟨rfl,_,ax.of T⟩,?_⟩;refine⟨.inl ⟨rfl,_,ax.of J⟩,?_⟩;refine cP (s4 _ _ hdr) hdl hnn (by omega) (by omega) fun x=>?_
  refine aZ (.inl (ax.of J)) ?_;rw[cc,ao];walk_at "s";have hx:x % l.length<l.length:=mod_lt _ (by omega)
  refine⟨by omega,?_⟩
  rw[<-natCast_emod];refine Kp J hx (by omega) ?_
  refine⟨t,_,_,rfl,rfl,by rw[aG (Ne.symm hot)];exact T,by rw[cc,ao];exact bY (by omega),?_⟩
  rw[iM];exact⟨_,_,_,rfl,(s4.set hoN _).set htN _,by rw[aG hot];exact ag,ag,by rw[eG,hml];rfl,Hu hp hx⟩
 rintro σ H4 ⟨y,l,m,rfl,s4,J,T,hml,hp⟩;have hl0:l=[]:=List.length_eq_zero_iff.mp (by have:=hp.length_eq;rw[eG,j6] at this;omega)
 rw[hl0,TB] at hp;clear s1 s2 s3 s13 Z hrg ho ht hl0 J hoN ho0 U;have Y:∀ k,k<d.length->m.getD k 0<d.length:=fun k hk=>gc.mp (hp.mem_iff.mp (fN (by omega)))
 walk_at "i";refine cP (s4 _ _ hdr) hdl hnn (by decide) (by decide) fun x8=>?_
 refine⟨_,d.length,rfl,h8,fun fr fs H5 s5 hfr0 L hN=>?_⟩;walk_at "s";refine wV (fun σ' H'=>∃ (fr:Addr) (fs:List Str),σ'=[some (.ref b),some (.ref dr),some (.ref n1),some (.ref n2),some (.ref n3),some (.int (d.length:Int)),some (.ref o),some (.ref t),y,some (.ref fr),none,none]/\ah H4 H'/\H' fr=some (.lst (fs.map V.str))/\Gd fs 8/\fs.length=d.length) ?_ ?_
 rotate_left
 ·intro R hR;walk_at "s";refine aZ (.inl (ax.of L)) ?_;rw[cc];walk_at "s";refine bU (fun c=>?_) (fun c=>hR _ _ ⟨fr,fs,rfl,s5,L,kH hN h8,by have:=hN.eU;omega⟩)
  refine⟨_,rfl,qI vF (fun _=>true) (fun i=>.str (Om.getD i aW)) (by decide) ?_ ?_⟩
  ·intro i H6 A B' hi hS hA _;have hi:i<8:=hi;walk_at "s";refine⟨_,_,rfl,rfl,by show 1+(Str.ofString "zx").length<=_;decide,?_⟩
   rw[Rm i hi];exact hA rfl _ (ah.refl _)
  intro ac H6 _ s6 a;rw[bG] at a;have a:H6 ac=some (.lst (Om.map V.str)):=a;refine tM d.length (ax.of a) fun p7 H7 M _ hp7=>?_;rw[<-map_take] at hp7;refine hR _ _ ⟨p7,Om.take d.length,rfl,s5.trans (s6.trans M),hp7,⟨?_,Hv.2.sublist (take_sublist _ _),fun x hx=>Hv.1 x (mem_of_mem_take hx)⟩,?_⟩
  ·rw[wh];omega
  ·rw[wh,show Om.length=8 from rfl];omega
 clear s5 hfr0 L hN;rintro σ5 H5 ⟨fr,fs,rfl,s5,L,hN,hfl⟩;have s05:=s4.trans s5;have I:=s5 _ _ T;walk_at "i";refine⟨by decide,fun ot hot0=>?_⟩
 generalize f:upd H5 ot _=H6;obtain⟨s6,hot6⟩:=iq hot0 f;clear f;walk_at "i";refine forL (RD H5 [some (.ref b),some (.ref dr),some (.ref n1),some (.ref n2),some (.ref n3),some (.int (d.length:Int)),some (.ref o),some (.ref t),y,some (.ref fr),some (.ref ot)] d.length ot ws m) (ax.of (s6 _ _ I)) ⟨_,[],rfl,s6,hot6,rfl,fun _ z=>absurd z (I1 _)⟩ (fun k σ H' h=>by obtain⟨_,_,_,s,_⟩:=h;exact ax.of (s _ _ I)) ?_ ?_
 ·rintro k σ H7 hk ⟨y11,vs,rfl,M,u,O,g⟩;rw[ao] at hk;rw[aM];have hki:=Y k (by omega)
  have hvs':=g;walk_at "s";refine⟨.inl ⟨rfl,_,ax.of u⟩,?_⟩;refine OK d.length (fun j=>dc ws (m.getD k 0) (m.getD j 0)) (fun j=>((2 ^ j:Nat):Int)) rfl (by omega) ?_ ?_
  ·intro j H8 A B' hj hS hA hB;have hmj:=Y j hj;walk_at "s";refine cu (ax.of (hS _ _ (M _ _ (s05 _ _ hn3)))) rfl (by rw[ao,P.lw];exact hki) ?_
   rw[aM];refine cu (ax.of (hS _ _ (M _ _ I))) rfl (by rw[ao];omega) ?_
   rw[aM];unfold dc at hA hB;generalize m.getD j 0=oj at hA hB hmj ⊢;walk_at "s";have hpj:0<2 ^ oj:=FS oj;have hj8:2 ^ oj<=2 ^ 8:=q5 (by decide) (by omega)
   refine⟨dG (by omega),⟨by omega,?_⟩,?_⟩
   ·rw[KF];exact(log2_lt (by omega)).mpr (A6 hj8 (Os (by decide) (by decide)))
   refine bU (fun c=>⟨dG (by omega),hA c _ (ah.refl _)⟩) (fun c=>hB (by simpa using c) _ (ah.refl _))
  intro ac H8 _ s8 a;refine k7 (ax.of a) ?_;rw[rF];refine⟨ot,_,_,rfl,rfl,s8 _ _ u,by rw[cc,ao];exact bY (by omega),?_⟩
  rw[iM];refine⟨_,_,rfl,(M.trans s8).set hot0 _,ag,by rw[eG,O];rfl,fun i hi=>?_⟩
  rw[getD_snoc,O]
  by_cases e:i<k
  ·rw[if_pos e];exact g i e
  ·obtain rfl:i=k:=by omega
   rw[if_neg e,if_pos rfl]
 rintro σ H7 ⟨y11,vs,rfl,M,u,O,g⟩;rw[ao] at O g;have s07:=s05.trans M;walk_at "s";refine RO (fun _=>true) (fun k=>((cs.getD (m.getD k 0) 0:Nat):Int)) (ax.of (M _ _ I)) (by rw[ao];exact aB (by omega)) ?_ ?_
 ·intro k H8 A B' hk hS hA _;rw[ao] at hk;rw[aM];have hki:=Y k (by omega)
  walk_at "s";refine cu (ax.of (hS _ _ (s07 _ _ hn2))) rfl (by rw[ao,P.lc];exact hki) ?_
  rw[aM];exact hA rfl _ (ah.refl _)
 intro ac H8 _ s8 a;rw[bG,ao,b9 (fun j=>((cs.getD j 0:Nat):Int))] at a;have a:H8 ac=some (.lst ((az (m.map fun i=>cs.getD i 0)).map V.int)):=by rw[a];simp only[az,List.map_map];rfl
 walk_at "s";refine⟨by decide,fun o1 ho1=>?_⟩
 generalize f:upd H8 o1 _=H9;obtain⟨s9,ho1'⟩:=iq ho1 f;clear f;refine⟨by decide,fun r hr0=>?_⟩
 generalize f:upd H9 r _=H10;obtain⟨s10,hr'⟩:=iq hr0 f;clear f;have p:=s8.trans (s9.trans s10);have hnd:∀ i,((List.range d.length).filter fun j=>dc ws (m.getD i 0) (m.getD j 0)).Nodup:=fun i=>Re.sublist TM;have hgc:∀ k,k<d.length->(m.map fun i=>cs.getD i 0).getD k 0=cs.getD (m.getD k 0) 0:=fun k hk=>by
  rw[b4,ek,b5 (by omega),b4 (l:=m),b5 (by omega)];rfl
 refine q r o1 t fs (m.map fun i=>cs.getD i 0) vs m _ (s07.trans p) hr' ⟨fr,ac,ot,s10 _ _ ho1',p _ _ (M _ _ L),(s9.trans s10) _ _ a,p _ _ u⟩ ⟨hN,by rw[cc];omega,by omega,fun c hc=>?_,fun j hj=>?_,fun j hj=>?_⟩ hfl (p _ _ (M _ _ I)) ⟨?_,?_,fun k hk=>?_,fun i j hi hj=>?_⟩
 ·obtain⟨i,hi,rfl⟩:=ih.mp hc;exact P.RT _ (fN (by rw[P.lc];exact gc.mp (hp.mem_iff.mp hi)))
 ·rw[g j (by omega),hfl]
  exact sP (hnd j) fun i hi=>gc.mp (pS.mp hi).1
 ·have e:(vs.getD j 0).testBit j=false:=by
   rw[g j (by omega),bZ (hnd j)]
   refine ed fun z=>?_;have h1:=(pS.mp z).2;have h2:=P.wy.2 (m.getD j 0) (by rw[P.lw];exact Y j (by omega))
   rw[h2] at h1;cases h1
  rw[ri] at e
  have:=of_decide_eq_false e
  omega
 ·rw[P.len];exact hp
 ·rw[ao,ao,cc,P.lc];omega
 ·rw[P.len] at hk;rw[aM,aM,hgc k hk]
 ·rw[P.len] at hi hj;show (vs.getD i 0).testBit j=_;rw[g i (by omega),bZ (hnd i)]
  cases e:dc ws (m.getD i 0) (m.getD j 0) with
  | true=>exact dt (pS.mpr ⟨gc.mpr hj,e⟩)
  | false=>exact ed fun z=>by have:=(pS.mp z).2;rw[e] at this;cases this
def A0 (K:Frag)(H0:Hp)(st:L2.St)(cs:List Int)(L:List (Bool × List Nat))(k:Nat)(σ:L2.St)(H:Hp):Prop:=∃ y1 y2:Option V,σ=st++[some (.int ((L.take k).map (e9 cs)).sum),y1,y2]/\ah H0 H
theorem oQ:DS (ak gf) ["rows","book","names","counts","web","groups","many","kind","people"] ["rows","book"] ["_law_groups","int","sure","tuple"]:=aO (by decide +kernel)
theorem Di (B:Bn mg)(D:Def K mg "_law_sure_of" gf)(ux:Fn P w K mg base 1 "_law_groups" ["rows","names"] (zj K))(zK:Fn P w K mg base 3 "sure" ["counts"] (yo K)):Fn P w K mg base 4 "_law_sure_of" ["rows","book"] wF:=by
 refine D.gq oQ (fun _ _ _ _ _ _ us hl=>by obtain⟨_,_,rfl⟩:=eA hl;rfl) (fun vs H Q E h=>?_) ?_
 ·obtain⟨r,b,ns,a,ws,L,rfl,_⟩:=h;rfl
 intro X S e1 e2 e3 e4 e5 hc z O hr hu H vs Q E h;subst e1 e2 e3 e4 e5;obtain⟨r,b,ns,a,ws,L,rfl,x,⟨M,n2,Z,hb,y,R,hn3⟩,P,G,q⟩:=h;have h8:=P.nm.eU;have I:=P.lC;have hL8:=G.eU;refine⟨_,(af (B1 (kv S 1) (Gp hc (K:=X.K) (n:=3) rfl (aJ (kg S 2) (aJ (kg S 3) (aJ (kg S 4) cA)))))
   (af (bw S 5 (cE S 0 ux hr (aa (kv S 0) (aa (kv S 2) ae))))
   (af (cN (aS mN (kv S 5) my (au _)) (aj (aK (aR cF aq aq))) ay)
   (af (bw S 6 aq)
   (af (dO O hc (du (kv S 5) rfl) (jl hc (K:=X.K) (n:=2) rfl (aJ (kg S 7) (aJ (kg S 8) cA))) (aj (bw S 6 (aR aV (kv S 6) (aU (ai rfl) (dW (aa aq (aa (cE S 2 zK hr (aa (jk S 3 (dU rfl) B.tuple Tu (aa (ij S hc z (du (kv S 8) rfl) (N:=["i","counts"]) (W:=["i"]) (G:=[]) (fv:=[none,some 3]) (by decide +kernel) (fun cl C fp s H S2=>⟨(kg S2 0),bg,(aU (ai rfl) (kv S2 1) (kv S2 0) (fun _ _=>rfl))⟩)) ae)) ae)) ae))) (jk S 1 kU B.int boot_int (aa (ie aX (kv S 7) bc (au _)) ae)) (fun _ _=>rfl))))))
   (aj (aK (kv S 6)))))))),?_⟩
 walk_at "i";refine⟨b,_,rfl,ax.of hb,rfl,?_⟩;refine⟨_,_,rfl,⟨_,_,rfl,⟨_,_,rfl,⟨rfl,?_⟩⟩⟩⟩;walk_at "i";refine Ko x y G fun g us H1 s1 hg hL=>?_;walk_at "i";walk_at "h";walk_at "h";refine Qs (A0 X.K H1 [some (.ref r),some (.ref b),some (.ref M),some (.ref n2),some (.ref Z),some (.ref g)] (az a) L) hg hL.gl ⟨_,_,rfl,ah.refl _⟩ (fun k σ H' h=>by obtain⟨_,_,_,s⟩:=h;exact⟨s.aL hg,hL.gl.mono s⟩) ?_ ?_
 ·rintro k o p σ H2 hk hp ⟨y1,y2,rfl,m⟩;obtain⟨c,gne⟩:=G.each o (h5 hk);have gr:FE (az a).length o:=⟨fun i hi=>by rw[P.len];exact c.lt i hi,c.eU⟩
  have g8:=c.eU;have U:L.take (k+1)=L.take k++[o]:=by rw[take_succ,hk];rfl
  have F:=s1.trans m;obtain⟨f,l⟩:=o;have g8:l.length<=8:=g8;walk_at "s";refine PY (fun _=>true) (fun k=>(az a).getD (l.getD k 0) 0) hp (by rw[ao];exact aB (by omega)) ?_ ?_
  ·intro i H3 A B' hi hS hA _;rw[ao] at hi;rw[aM];walk_at "s";exact cu (ax.of (hS _ _ (F _ _ R))) rfl (gr.lt _ (fN hi)) (hA rfl _ (ah.refl _))
  intro ac H3 _ s3 e;rw[bG,ao,b9 (fun j=>(az a).getD j 0)] at e;refine Oj (ax.of e) fun t T=>?_;generalize d:upd H3 t _=H4;obtain⟨s4,ht⟩:=iq T d;clear d;refine⟨t,pk (az a) l,rfl,aH.of ht,FF I gr,fun H5 s5=>?_⟩;walk_at "s";refine⟨by decide,fun v u=>?_⟩
  generalize d:upd H5 v _=H6;obtain⟨s6,hv⟩:=iq u d;clear d;have Y:=s3.trans (s4.trans (s5.trans s6));have J:(((L.take k).map (e9 (az a))).sum+e9 (az a) (f,l))=((L.take (k+1)).map (e9 (az a))).sum:=by
   rw[U,hO,List.sum_append];show _=_+(_+0);omega
  have q2:A0 X.K H1 [some (.ref r),some (.ref b),some (.ref M),some (.ref n2),some (.ref Z),some (.ref g)] (az a) L (k+1) [some (.ref r),some (.ref b),some (.ref M),some (.ref n2),some (.ref Z),some (.ref g),some (.int (((L.take k).map (e9 (az a))).sum+e9 (az a) (f,l))),some (.str (kd f)),some (.ref p)] H6:=by
   rw[J];exact⟨_,_,rfl,m.trans Y⟩
  cases f with
  | true=>
   refine .inr ⟨_,rfl,?_⟩;rw[show (if decide (kd true=Str.ofString "circle")=true then (1:Int) else 0)=((0:Nat):Int) by decide +kernel]
   refine av (ax.of hv) (aw rfl) ?_;walk_at "s";exact q2
  | false=>
   refine .inr ⟨_,rfl,?_⟩;rw[show (if decide (kd false=Str.ofString "circle")=true then (1:Int) else 0)=((1:Nat):Int) by decide +kernel]
   refine av (ax.of hv) (aw rfl) ?_;walk_at "s";exact q2
 rintro σ H2 ⟨y1,y2,rfl,m⟩;rw[L3];walk_at "s";exact q H2 (s1.trans m)
theorem pO:DS (ak g7) ["desk","names","rows","words"] ["desk","names"] ["int","len"]:=aO (by decide +kernel)
theorem wX (B:Bn mg)(bf:gp K mg "Hall" aA ["counts","groups","worn"])(bF:gp K mg "Desk" aP ["book","hall"])(D:Def K mg "_law_rights" g7)(cj:uK P w K mg base 7 aP "ask" ["self","line"] (tL K aA aP)):Fn P w K mg base 8 "_law_rights" ["desk","names"] (oo K aA aP):=by
 refine D.gq pO (fun _ _ _ _ _ _ us hl=>by obtain⟨_,_,rfl⟩:=eA hl;rfl) (fun vs H Q E h=>?_) ?_
 ·obtain⟨d,hl,I,a,cs,ws,L,Z,rfl,_⟩:=h;rfl
 intro X S e1 e2 e3 e4 e5 hc hsc hxe hr hu H vs Q E h;subst e1 e2 e3 e4 e5;obtain⟨d,hl,I,a,cs,ws,L,Z,rfl,hD,D,aF,q⟩:=h;have P:=D.BB;have f:dM a (eL (az cs) Z L):=rz P;obtain⟨⟨ddx,bk,hd,_⟩,_⟩:=id hD;refine⟨_,(af (bw S 2 (Bc bF cj dQ hr (kv S 0) (aa bc ae)))
   (af (bw S 3 (h7 zP Tr type_str_split dH rfl (h7 zP GM KM (bH rfl) rfl bc (aa (kv S 2) ae)) (aa bc ae)))
   (af (cN (aS (su hu rfl) (kv S 2) (dW ae) (au _)) (aj (aK aq)) ay)
   (aj (aK (aU (ai rfl) (dW (aa (c7 S 1 (aE rfl) B.len qE (aa (kv S 3) ae)) (aa (aR cF aq aq) ae))) (jk S 0 kU B.int boot_int (aa (ie (jD hu rfl) (ij S hc hsc (cB (kv S 3) rfl) (N:=["word","names"]) (W:=["word"]) (G:=[]) (fv:=[none,some 1]) (by decide +kernel) (fun cl C fp s H U=>⟨(kg U 0),(eV (aS (dS rfl) (kv U 0) (kv U 1) (by with_unfolding_all rfl))),(kv U 0)⟩)) (dW ae) (au _)) ae)) (fun _ _=>rfl))))))),?_⟩
 walk_at "i";refine gu hd jw ?_;rw[zk a];refine gT .right hD D trivial fun r H1 s1 _ c=>?_;generalize eL (az cs) Z L=l at c f q;have hl8:=f.eU;have hbig:(1000:Nat)<=sizeLine:=by decide
 have e:∀ x∈l.map (fun i=>a.getD i aW),32∉cz x/\x.length<=12:=fun x hx=>by
  obtain⟨i,hi,rfl⟩:=ih.mp hx
  have:=P.nm.nm _ (getD_memS (f.lt i hi))
  exact⟨(eg this).1,(dI this).2.2⟩
 have J:=eB 32 12 _ fun x hx=>(e x hx).2;rw[cc] at J;walk_at "i";rw[bq]
 by_cases z:l=[]
 ·subst z;have R:Txt.split (Str.join ⟨#[32]⟩ (eM a [])) ⟨#[32]⟩=[Str.ofString ""]:=by show Txt.split (Str.join ⟨#[32]⟩ []) ⟨#[32]⟩=_;decide +kernel
  have ej:Str.join ⟨#[32]⟩ (eM a [])=Str.ofString "":=by show Str.join ⟨#[32]⟩ []=_;decide +kernel
  refine⟨rfl,_,r,eM a [],rfl,rfl,ax.of c,by show 0<=_;omega,by rw[ej];decide +kernel,rfl,?_⟩
  refine⟨_,_,rfl,rfl,by decide,by rw[ej];decide +kernel,by rw[R];decide +kernel,fun T j=>?_⟩
  generalize b:upd H1 T _=H2;obtain⟨u,g⟩:=iq j b;clear b;walk_at "i";refine⟨by decide,fun n3 n=>?_⟩
  generalize b:upd H2 n3 _=H3;obtain⟨p,o⟩:=iq n b;clear b;refine m7 (l:=[]) (m:=[]) (ax.of ((u.trans p) _ _ c)) (ax.of o) (fun _ z=>nomatch z) (fun _ z=>nomatch z) ?_;walk_at "s";exact q H3 (s1.trans (u.trans p))
 ·have er:eM a l=[gS a l]:=by unfold eM;rw[if_neg z]
  have zl:l.map (fun i=>a.getD i aW)≠[]:=fun y=>z (Th.mp y);have R:Txt.split (gS a l) ⟨#[32]⟩=l.map (fun i=>a.getD i aW):=ee 32 zl fun x hx=>(e x hx).1;have elen:(gS a l).length<=8*13:=h9 J (zS _ hl8);have cn:=og P.nm.nm f;rw[er] at c cn;refine⟨rfl,_,r,[gS a l],rfl,rfl,ax.of c,?_,?_,rfl,?_⟩
  ·show (gS a l).length+1+0<=_
   omega
  ·show (gS a l).length<=_
   omega
  refine⟨gS a l,_,rfl,rfl,by decide,by omega,by rw[R,cc];omega,fun T j=>?_⟩
  rw[R];generalize b:upd H1 T _=H2;obtain⟨u,g⟩:=iq j b;clear b;walk_at "i";refine⟨by decide,fun n3 n=>?_⟩
  generalize b:upd H2 n3 _=H3;obtain⟨p,o⟩:=iq n b;clear b;refine m7 (m:=[]) (ax.of ((u.trans p) _ _ c)) (ax.of o) cn (fun _ z=>nomatch z) ?_;rw[ed (List.cons_ne_nil _ _)];have g:=p _ _ g;have Y:=s1.trans (u.trans p);walk_at "s";refine aZ (.inl (ax.of g)) ?_;rw[cc,cc];walk_at "s";refine⟨by decide,fun v ab=>?_⟩
  generalize b:upd H3 v _=H4;obtain⟨s4,hv⟩:=iq ab b;clear b;have g:=s4 _ _ g;have t:=Y.trans s4;have M:∀ i,i<l.length->((l.map fun i=>a.getD i aW).map V.str).getD i .bE=.str (a.getD (l.getD i 0) aW)/\l.getD i 0<a.length:=fun i hi=>by
   refine⟨?_,f.lt _ (fN hi)⟩;rw[b4,aQ (by rw[cc];exact hi)]
   show V.str ((l.map fun i=>a.getD i aW).getD i aW)=_;rw[b4,ek,b5 hi,b4 (l:=l),b5 hi];rfl
  refine⟨T,rfl,⟨_,ax.of g⟩,QU (cT (ax.of g)) (by rw[cc,cc];exact aB (by omega)) ?_ ?_⟩
  ·intro i H6 B' A hi hS hB;rw[cc,cc] at hi;rw[(M i hi).1];walk_at "s";refine nP (neg:=true) (.inl (ax.of (hS _ _ (t _ _ aF)))) ?_;rw[if_pos rfl,dt (getD_memS (M i hi).2)];walk_at "s";exact hB
  intro n6 H6 s6 hn6;refine⟨by decide,fun n7 O=>?_⟩
  generalize b:upd H6 n7 _=H7;obtain⟨s7,hn7⟩:=iq O b;clear b;refine kF (l:=[]) (m:=[]) (ax.of (s7 _ _ hn6)) (ax.of hn7) (fun _ z=>nomatch z) (fun _ z=>nomatch z) ?_;walk_at "s";refine .inr ⟨_,rfl,?_⟩;refine av (i:=((0:Nat):Int)) (ax.of ((s6.trans s7) _ _ hv)) (aw rfl) ?_;exact q H7 (t.trans (s6.trans s7))
theorem Dj {H H':Hp}{x dx:Addr}{o:HO}(hx:H x=none)(hd:H dx=none)(hne:dx≠x)(s:Off x (L2.upd (L2.upd H dx (.own x)) x o) H'):ah H H':=fun b u e=>by
 have h1:b≠x:=fun z=>by rw[z,hx] at e;cases e
 have a:b≠dx:=fun z=>by rw[z,hd] at e;cases e
 exact s b u h1 (by rw[aG h1,aG a];exact e)
theorem By {cH cD b dr:Addr}{H:Hp}{R:Addr->Hp->Prop}{E E':XK}{ns:List Str}{cs ws:List Nat}{dn:List Int}(P:fP ns cs ws)(hb:iN H b ns cs ws)(hdr:H dr=some (.lst (dn.map V.int)))(hdn:26<=dn.length)(hnn:∀ x∈dn,0<=x)
  (q:∀ x l L H',ah H H'->H x=none->H l=none->bK K cH cD H' x l ns cs ws L (List.replicate cs.length 0)->bJ ns cs ws L (List.replicate cs.length 0)->R x H') :
  om K [.ref b,.ref dr] H (fun v H1=>rJoin K (.str (Str.ofString "\n")) [v] H1 fun z H2=>∀ x dx,H2 x=none->H2 dx=none->dx≠x->tK K cH cD [.ref x,z] (L2.upd (L2.upd H2 dx (.own x)) x (.ins cD dx [])) (fun u H3=>u=.bE/\R x H3) E') E:=by
 refine⟨b,dr,ns,cs,ws,dn,rfl,hb,P,hdr,hdn,hnn,fun l M O n r w s=>?_⟩;have A:(Str.ofString "\n")=⟨#[10]⟩:=by decide +kernel
 have c:=w.rf P;have t:M.map (dP ns cs)=(M.map (fE ns cs)).map kN:=by rw[kc];rfl
 have d:(M.map (fE ns cs)).length<=100:=by rw[cc];omega
 have D:=fi c d;have f:=eh 1271 (M.map (dP ns cs)) fun y hy=>by
  obtain⟨x,hx,rfl⟩:=ih.mp hy;exact fg (w.nV P x hx)
 rw[cc] at f;have C:M.length*1272<=16*1272:=zS _ s;have B:(1000000:Nat)<=sizeLine:=by decide
 have h:Str.join ⟨#[10]⟩ (M.map (dP ns cs))=fk (M.map (fE ns cs)):=by rw[t];rfl
 refine⟨_,l,M.map (dP ns cs),rfl,rfl,ax.of r,?_,?_,?_⟩
 ·rw[A];show ((M.map (dP ns cs)).map fun z=>z.length+1).sum<=_
  omega
 ·rw[A,h];omega
 rw[A,h];intro x dx g j o;refine⟨x,dx,M.map (fE ns cs),ns,cs,ws,rfl,ag,c,d,w.book P (fun i hi=>hi),P,fun N p L G a I F=>⟨rfl,?_⟩⟩;have m:=Dj g j o G;refine q x p L N (n.trans m) (n.free g) (n.free ?_) I F;have h1:p≠x:=fun e=>by rw[e,ag] at a;cases a
 rw[aG h1] at a;have J:p≠dx:=fun e=>by rw[e,ag] at a;cases a
 rw[aG J] at a;exact a
def Ma (H0:Hp)(pre post:L2.St)(_:Nat)(σ:L2.St)(H:Hp):Prop:=∃ y:Option V,σ=pre++y::post/\ah H0 H
def RE (H0:Hp)(pre post:L2.St)(_:Nat)(σ:L2.St)(H:Hp):Prop:=∃ y1 y2:Option V,σ=pre++y1::y2::post/\ah H0 H
def RF (K:Frag)(cH cD:Addr)(H0:Hp)(pre:L2.St)(d l d' l':Addr)(ns:List Str)(cs ws:List Nat)(L:List (Bool × List Nat))(ns':List Str)(cs' ws':List Nat)(L':List (Bool × List Nat))(_:Nat)(σ:L2.St)(H:Hp):Prop:=∃ (hs hs':List Int) (y1 y2 y3 y4:Option V),σ=pre++[y1,y2,y3,y4]/\wA l l' H0 H/\Hw K cH cD H d l d' l' ns cs ws L hs ns' cs' ws' L' hs'/\bJ ns cs ws L hs/\bJ ns' cs' ws' L' hs'
theorem HS {cH cD d hl:Addr}{H:Hp}{Q:VK}{E:XK}{ns:List Str}{cs ws:List Nat}{L:List (Bool × List Nat)}{hs:List Int}{i c:Nat}(hD:bK K cH cD H d hl ns cs ws L hs)(D:bJ ns cs ws L hs)(hi:i<ns.length)(hc:c<cs.getD i 0)(h30:c<10 ^ 30)
  (r:∀ l H',Off hl H H'->H l=none->H' l=some (.lst [])->bK K cH cD H' d hl ns cs ws L (hs.set i (c:Int))->bJ ns cs ws L (hs.set i (c:Int))->Q (.ref l) H') :
  tL K cH cD [.ref d,.str (Str.ofString "put "++ns.getD i aW++Str.ofString " "++Str.ofString (toString (c:Int)))] H Q E:=by
 obtain⟨a,e⟩:=D.set hi hc;rw[show Str.ofString (toString ((c:Nat):Int))=fS (c:Int) from rfl,Hs]
 exact gT (.put i c) hD D ⟨hi,h30⟩ ⟨fun z=>(by rw[e] at z;cases z),fun _ l H' o b h1 f=>r l H' o b h1 f a⟩
theorem Bz {v:V}{k:Nat}{x y:TK}(h:([ip x,ip y].map V.str)[k]?=some v):∃ z,v=.str (ip z)/\(z=x∨z=y):=by
 match k,h with
 | 0,h=>cases h;exact⟨x,rfl,.inl rfl⟩
 | 1,h=>cases h;exact⟨y,rfl,.inr rfl⟩
 | _+2,h=>cases h
theorem rH {ns:List Str}{cs ws:List Nat}{L:List (Bool × List Nat)}{hs:List Int}(D:bJ ns cs ws L hs):(L.map (e9 (az cs))).sum<=((eL (az cs) hs L).length:Nat):=l9 D.BB.lC.pos D.gh D.Hm
theorem Ow:DS (ak kG) ["script","book","drawn","other","turned","desks","word","many","desk","people","cell","at","i","colour"] ["script"] ["_law_house","sum","range","_law_draws","_law_turned","Desk","_law_mixed_lines","zip","_law_shown","str","_law_sure_of","int","len","min","_law_rights"]:=aO (by decide +kernel)
theorem Ox (B:Bn mg)(bf:gp K mg "Hall" aA ["counts","groups","worn"])(bF:gp K mg "Desk" aP ["book","hall"]){f:Addr}{fd:FuncData}(FL:Ia K "law" "law" kG f fd)(xf:Fn P w K mg base 4 "_law_house" ["cells","most","kinds"] (rA K))(cy:Fn P w K mg base 1 "_law_draws" ["cell","count"] iL)(uy:Fn P w K mg base 3 "_law_turned" ["book","drawn"] wD)(fJ:Fn P w K mg base 1 "_law_mixed_lines" ["book","drawn"] (om K))(ic:Ki P w K mg base 8 aP "__init__" "self" "text" "" (tK K aA aP))(cj:uK P w K mg base 7 aP "ask" ["self","line"] (tL K aA aP))(xg:Fn P w K mg base 1 "_law_shown" ["book"] vZ)(p4:Fn P w K mg base 4 "_law_sure_of" ["rows","book"] wF)(kK:Fn P w K mg base 8 "_law_rights" ["desk","names"] (oo K aA aP)):fj P w K mg base BW 10 f fd ["script"] (AG K):=by
 refine FL.gq Ow (fun vs H Q E h=>?_) ?_
 ·obtain⟨a,Z,rfl,_⟩:=h;rfl
 intro X S e1 e2 e3 e4 e5 hc hsc hxe hr hu H vs Q E h;subst e1 e2 e3 e4 e5;obtain⟨a,xs,rfl,ha,hl,q⟩:=h;refine⟨_,(af (bw S 1 (cE S 0 xf hr (aa (ij S hc hsc (ig S 2 B.range (aa aq ae)) (N:=["k","script"]) (W:=["k"]) (G:=["sum"]) (fv:=[none,some 0]) (by decide +kernel) (fun cl C fp s H S2=>⟨(kg S2 0),bg,(c7 S2 0 (c8 rfl rfl) B.sum boot_sum (aa (LO (kv S2 1) (kv S2 0) aq rfl) ae))⟩)) (aa aq (aa aq ae)))))
   (af (bw S 2 (cE S 3 cy hr (aa (c7 S 1 (c8 hc rfl) B.sum boot_sum (aa (LO (kv S 0) aq aq rfl) ae)) (aa aq ae))))
   (af (B1 (cE S 4 uy hr (aa (kv S 1) (aa (kv S 2) ae))) (Gp hc (K:=X.K) (n:=2) rfl (aJ (kg S 3) (aJ (kg S 4) cA))))
   (af (bw S 5 (dW (aa (Ra S 5 bF ic dQ hr (aa (h7 zP GM KM (bH rfl) rfl bc (aa (cE S 6 fJ hr (aa (kv S 1) (aa (kv S 2) ae))) ae)) ae)) ae)))
   (af (df (h7 qN ls nc bA rfl (kv S 5) (aa (Ra S 5 bF ic dQ hr (aa (h7 zP GM KM (bH rfl) rfl bc (aa (cE S 6 fJ hr (aa (kv S 3) (aa (mM (cq rfl) (kv S 2) (bD aq) bC) ae))) ae)) ae)) ae)))
   (af (dO hxe hc (cB (dW (aa bc (aa bc ae))) rfl) (kg S 6) (aj (cN (aS (jD hu rfl) (Bc bF cj dQ hr (aU (ai rfl) (kv S 5) aq (fun _ _=>rfl)) (aa (kv S 6) ae)) (Bc bF cj dQ hr (aU (ai rfl) (kv S 5) aq (fun _ _=>rfl)) (aa (kv S 6) ae)) (au _)) (aj (aK xy)) ay)))
   (af (dO hxe hc (cB (dW (aa bc (aa bc ae))) rfl) (kg S 6) (aj (cN (aS lR (ie (su hu rfl) (Bc bF cj dQ hr (aU (ai rfl) (kv S 5) aq (fun _ _=>rfl)) (aa (kv S 6) ae)) (dW ae) (au _)) (ie (su hu rfl) (Bc bF cj dQ hr (aU (ai rfl) (kv S 5) aq (fun _ _=>rfl)) (aa (kv S 6) ae)) (dW ae) (au _)) (au _)) (aj (aK xy)) ay)))
   (af (bw S 7 (aU (ai rfl) (Bc bF cj dQ hr (aU (ai rfl) (kv S 5) aq (fun _ _=>rfl)) (aa bc ae)) aq (fun _ _=>rfl)))
   (af (dO hxe hc (OR true true S 7 B.zip rfl (aa (kv S 5) (aa (dW (aa (kv S 1) (aa (kv S 3) ae))) ae))) (jl hc (K:=X.K) (n:=2) rfl (aJ (kg S 8) (aJ (kg S 9) cA))) (af (cN (aS lR (h7 zP GM KM (bH rfl) rfl bc (aa (Bc bF cj dQ hr (kv S 8) (aa bc ae)) ae)) (cE S 8 xg hr (aa (kv S 9) ae)) (au _)) (aj (aK xy)) ay)
   (aj (cN (aS lR (jk S 9 cL B.str boot_str (aa (cE S 10 p4 hr (aa (Bc bF cj dQ hr (kv S 8) (aa bc ae)) (aa (kv S 9) ae))) ae)) (kv S 7) (au _)) (aj (aK xy)) ay))))
   (af (dO hxe hc (cB (aR M7 (mM (cq rfl) (kv S 0) bC (bD aq)) (jk S 11 kU B.int boot_int (aa (ie Ai (c7 S 12 (aE rfl) B.len qE (aa (aU (ai rfl) (kv S 1) aq (fun _ _=>rfl)) ae)) aq (au _)) ae))) rfl) (kg S 10) (af (bw S 11 (aR cV (kv S 10) (c7 S 12 (aE rfl) B.len qE (aa (aU (ai rfl) (kv S 1) aq (fun _ _=>rfl)) ae))))
   (af (bw S 12 (aU (ai rfl) (kv S 4) (kv S 11) (fun _ _=>rfl)))
   (af (bw S 13 (jk S 9 cL B.str boot_str (aa (aR cV (aR cS (kv S 10) (c7 S 12 (aE rfl) B.len qE (aa (aU (ai rfl) (kv S 1) aq (fun _ _=>rfl)) ae))) (aU (ai rfl) (aU (ai rfl) (kv S 1) aq (fun _ _=>rfl)) (kv S 12) (fun _ _=>rfl))) ae)))
   (af (cN (aS (jD hu rfl) (Bc bF cj dQ hr (aU (ai rfl) (kv S 5) aq (fun _ _=>rfl)) (aa (aR aT (aR aT (aR aT bc (aU (ai rfl) (aU (ai rfl) (kv S 1) aq (fun _ _=>rfl)) (kv S 12) (fun _ _=>rfl))) bc) (kv S 13)) ae)) (dW ae) (au _)) (aj (aK xy)) ay)
   (af (cN (aS (jD hu rfl) (Bc bF cj dQ hr (aU (ai rfl) (kv S 5) aq (fun _ _=>rfl)) (aa (aR aT (aR aT (aR aT bc (aU (ai rfl) (aU (ai rfl) (kv S 3) aq (fun _ _=>rfl)) (kv S 11) (fun _ _=>rfl))) bc) (kv S 13)) ae)) (dW ae) (au _)) (aj (aK xy)) ay)
   (aj (cN (aS fG (c7 S 13 (BM hc) B.min boot_min (aa (cE S 14 kK hr (aa (aU (ai rfl) (kv S 5) aq (fun _ _=>rfl)) (aa (aU (ai rfl) (kv S 1) aq (fun _ _=>rfl)) ae))) (aa (cE S 14 kK hr (aa (aU (ai rfl) (kv S 5) aq (fun _ _=>rfl)) (aa (aU (ai rfl) (kv S 3) aq (fun _ _=>rfl)) ae))) ae))) (jk S 11 gM B.int boot_int (aa (kv S 7) ae)) (au _)) (aj (aK xy)) ay))))))))
   (aj (aK xy)))))))))))),?_⟩
 walk_at "i";refine FC 3 rfl (by decide) (fun _ _=>True) ?_ ?_
 ·intro i H1 A hi hS hA;walk_at "s";refine⟨_,rfl,_,rfl,a,_,rfl,hS.seq ha,by decide,fun R p hp hfit=>?_⟩
  rw[rj];exact⟨p,_,rfl,ax.of ag,hA _ _ (ah.new hp _) trivial⟩
 intro cl row H1 hcl0 s1 hcl hrow _;walk_at "s";refine⟨cl,row,8,4,rfl,ax.of hcl,hrow,by decide,by decide,by decide,by decide,fun b Z cs ws H2 s2 hb P _=>?_⟩
 have h8:=P.nm.eU;have s12:=s1.trans s2;clear s1 s2 hcl hcl0 hrow;walk_at "i";refine⟨_,rfl,_,rfl,a,_,rfl,s12.seq ha,by decide,fun R p hp hfit=>?_⟩
 rw[rj];generalize M:upd H2 p _=H3;obtain⟨s3,hp3⟩:=iq hp M;clear M;refine⟨p,_,rfl,ax.of hp3,?_⟩;refine⟨_,40,rfl,by decide,fun dr dn H4 s4 _ hdr hdn hnn=>?_⟩
 have O:=s3.trans s4;walk_at "i";refine⟨b,dr,Z,cs,ws,dn,rfl,hb.mono O,P,hdr,hdn,hnn,fun r o t ns' cs' ws' m H5 s5 hr5 ho P' hnl ht A=>?_⟩;walk_at "s";refine⟨r,_,rfl,ax.of hr5,rfl,?_⟩;refine⟨_,_,rfl,⟨_,_,rfl,⟨rfl,?_⟩⟩⟩;have hb:=hb.mono (O.trans s5);have hdr:=s5 _ _ hdr;have s05:=s12.trans (O.trans s5);clear O s3 s4 s5 hp3 hr5 hp s12;walk_at "i";refine⟨rfl,By P hb hdr (by omega) hnn fun d l L H6 s6 hd0 hl0 hD D=>?_⟩
 walk_at "s";refine⟨by decide,fun ds hds0=>?_⟩
 generalize M:upd H6 ds _=H7;obtain⟨s7,I⟩:=iq hds0 M;clear M;walk_at "i";refine⟨.inl ⟨rfl,_,ax.of I⟩,rfl,?_⟩;refine mZ 10 (ax.of ((s6.trans s7) _ _ hdr)) fun dr2 H8 s8 _ hdr2=>?_;rw[<-TR] at hdr2;have s58:=s6.trans (s7.trans s8);refine By P' (ho.mono s58) hdr2 (by rw[uF];omega) (fun x hx=>hnn x (mem_of_mem_drop hx)) fun d' l' L' H9 s9 hd0' hl0' hD' D'=>?_
 have hds9:=(s8.trans s9) _ _ I;refine⟨ds,_,_,rfl,rfl,hds9,by show 1<_;decide,?_⟩
 have s6u:=(s7.trans (s8.trans s9)).set hds0 (.lst ([V.ref d]++[V.ref d']));have T:Hw X.K aA aP (upd H9 ds (.lst ([V.ref d]++[V.ref d']))) d l d' l' Z cs ws L (List.replicate cs.length 0) ns' cs' ws' L' (List.replicate cs'.length 0):=by
  obtain⟨_,_,_,hl8⟩:=(hD.mono (s7.trans s8)).zm;obtain⟨⟨_,_,hd8,_⟩,_⟩:=hD.mono (s7.trans s8);exact⟨hD.mono s6u,hD'.c5 hds9,Ne.symm (bp hl8 hd0'),Ne.symm (bp hl8 hl0'),bp hd8 hl0'⟩
 have s5u:=s6.trans s6u;generalize M:upd H9 ds _=H10 at T s5u s6u ⊢;have I:H10 ds=some (.lst [.ref d,.ref d']):=by rw[<-M];exact ag
 clear M s6u hds9 s58 s6 s7 s8 s9 hD hD' hd0 hl0 hd0' hl0' hdr2 hds0;have hb:=hb.mono s5u;have ho:=ho.mono s5u;have ht:=s5u _ _ ht;have s0:=s05.trans s5u;clear s05 s5u hdr;obtain⟨⟨_,_,hd,_⟩,_⟩:=id T.a;obtain⟨⟨_,_,hd',_⟩,_⟩:=id T.b;walk_at "i";refine⟨by decide,fun w1 hw0=>?_⟩
 generalize M:upd H10 w1 _=H11;obtain⟨s11,hw⟩:=iq hw0 M;clear M;have hw:H11 w1=some (.lst ([ip .sure,ip .share].map V.str)):=hw;refine FA (Ma H11 [some (.ref a),some (.ref b),some (.ref dr),some (.ref o),some (.ref t),some (.ref ds)] [none,none,none,none,none,none,none]) (ax.of hw) ⟨_,rfl,ah.refl _⟩ (fun k σ H' h=>by obtain⟨y,_,s⟩:=h;exact ax.of (s _ _ hw)) ?_ ?_
 ·rintro k v σ H12 hv ⟨y,rfl,u⟩;obtain⟨kk,rfl,hk⟩:=Bz hv;have u1:=s11.trans u;walk_at "s";refine av (i:=((0:Nat):Int)) (ax.of (u1 _ _ I)) (aw rfl) ?_;refine gu (u1 _ _ hd) jw ?_;refine gT (.told kk) (T.a.mono u1) D trivial fun r1 R1 H13 v1 _ U T1=>?_;have u2:=u1.trans v1;walk_at "s";refine av (i:=((1:Nat):Int)) (ax.of (u2 _ _ I)) (aw rfl) ?_;refine gu (u2 _ _ hd') jw ?_;refine gT (.told kk) (T.b.mono u2) D' trivial fun r2 R2 H14 v2 _ hr2 T2=>?_;obtain⟨e,ch⟩:=CN P P' A D.best D'.best T1 T2 hk;subst e;walk_at "s";refine kF (ax.of (v2 _ _ U)) (ax.of hr2) ch ch ?_;rw[dt rfl];walk_at "s";exact⟨_,rfl,u.trans (v1.trans v2)⟩
 rintro σ H12 ⟨y6,rfl,u⟩;have J:=s11.trans u;have T:=T.mono J;have hb:=hb.mono J;have ho:=ho.mono J;have ht:=J _ _ ht;have s0:=s0.trans J;have I:=J _ _ I;have hd:=J _ _ hd;have hd':=J _ _ hd';clear u J hw hw0 s11;walk_at "i";refine⟨by decide,fun w1 hw0=>?_⟩
 generalize M:upd H12 w1 _=H13;obtain⟨s13,hw⟩:=iq hw0 M;clear M;have hw:H13 w1=some (.lst ([ip .ring,ip .order].map V.str)):=hw;have hfull:full ws'↔full ws:=cI.full A P.wy P'.wy (by rw[P.lw,P.len]) (by rw[P'.lw,P.len,hnl])
 refine FA (Ma H13 [some (.ref a),some (.ref b),some (.ref dr),some (.ref o),some (.ref t),some (.ref ds)] [none,none,none,none,none,none,none]) (ax.of hw) ⟨_,rfl,ah.refl _⟩ (fun k σ H' h=>by obtain⟨y,_,s⟩:=h;exact ax.of (s _ _ hw)) ?_ ?_
 ·rintro k v σ H14 hv ⟨y,rfl,u⟩;obtain⟨kk,rfl,hk⟩:=Bz hv;have u1:=s13.trans u;walk_at "s";refine av (i:=((0:Nat):Int)) (ax.of (u1 _ _ I)) (aw rfl) ?_;refine gu (u1 _ _ hd) jw ?_;refine gT (.told kk) (T.a.mono u1) D trivial fun r1 R1 H15 v1 _ U T1=>?_;walk_at "s";refine⟨by decide,fun n1 hn0=>?_⟩
  generalize M:upd H15 n1 _=H16;obtain⟨v2,hn1⟩:=iq hn0 M;clear M;have u2:=u1.trans (v1.trans v2);have nil:∀ x∈([]:List Str),jj x:=fun _ z=>nomatch z;refine m7 (m:=[]) (ax.of (v2 _ _ U)) (ax.of hn1) ?_ nil ?_
  ·rcases hk with rfl | rfl
   ·exact(lE P T1).2
   ·exact(jL P T1).2
  refine av (i:=((1:Nat):Int)) (ax.of (u2 _ _ I)) (aw rfl) ?_;refine gu (u2 _ _ hd') jw ?_;refine gT (.told kk) (T.b.mono u2) D' trivial fun r2 R2 H17 v3 _ hr2 T2=>?_;obtain⟨e,_,ch⟩:=Hx P P' hnl hfull T1 T2 hk;walk_at "s";refine⟨by decide,fun n2 hn20=>?_⟩
  generalize M:upd H17 n2 _=H18;obtain⟨v4,hn2⟩:=iq hn20 M;clear M;refine m7 (m:=[]) (ax.of (v4 _ _ hr2)) (ax.of hn2) ch nil ?_;walk_at "s";rw[decide_eq_decide.mpr e,dt rfl];walk_at "s";exact⟨_,rfl,u.trans (v1.trans (v2.trans (v3.trans v4)))⟩
 rintro σ H14 ⟨y6',rfl,u⟩;have J:=s13.trans u;have T:=T.mono J;have hb:=hb.mono J;have ho:=ho.mono J;have ht:=J _ _ ht;have s0:=s0.trans J;have I:=J _ _ I;have hd:=J _ _ hd;have hd':=J _ _ hd';clear u J hw hw0 s13;walk_at "i";refine av (i:=((0:Nat):Int)) (ax.of I) (aw rfl) ?_;refine gu hd jw ?_;refine gT (.told .sure) T.a D trivial fun r1 R1 H15 v1 _ U T1=>?_;have T1:R1=_:=T1;subst T1;have T:=T.mono v1;have hb:=hb.mono v1;have ho:=ho.mono v1;have ht:=v1 _ _ ht;have s0:=s0.trans v1;have I:=v1 _ _ I;clear hd hd';walk_at "s";refine av (i:=((0:Nat):Int)) (ax.of U) (aw rfl) ?_;clear U v1;walk_at "i";refine⟨by decide,fun bo hbo0=>?_⟩
 generalize M:upd H15 bo _=H16;obtain⟨v1,hbo⟩:=iq hbo0 M;clear M;have T:=T.mono v1;have hb:=hb.mono v1;have ho:=ho.mono v1;have ht:=v1 _ _ ht;have s0:=s0.trans v1;have I:=v1 _ _ I;clear v1 hbo0;have eS:(L'.map (e9 (az cs'))).sum=(L.map (e9 (az cs))).sum:=(cI.best A P.lC.pos P'.lC.pos D.best D'.best).symm;obtain⟨t1,t2⟩:=fq D.best.1.nn D.Bp (by decide)
 have en:(Str.ofString "\n")=⟨#[10]⟩:=by decide +kernel
 refine Rl (j:=true) (k:=true) 2 (RE H16 [some (.ref a),some (.ref b),some (.ref dr),some (.ref o),some (.ref t),some (.ref ds),y6',some (.str (fS (L.map (e9 (az cs))).sum))] [none,none,none,none]) (ax.of I) (ax.of hbo) rfl rfl ⟨_,_,rfl,ah.refl _⟩ (fun k σ H' h=>by obtain⟨_,_,_,s⟩:=h;exact⟨ax.of (s _ _ I),ax.of (s _ _ hbo)⟩) ?_ ?_
 ·rintro i σ H17 H18 hi ⟨y7,y8,rfl,u⟩ u';have u1:=u.trans u';obtain⟨dd,ll,bb,NS,CS,WS,LL,hs,e1,e2,hDD,DD,hBB,esum⟩:∃ (dd ll bb:Addr) (NS:List Str) (CS WS:List Nat) (LL:List (Bool × List Nat)) (hs:List Int),[V.ref d,V.ref d'].getD i .bE=.ref dd/\[V.ref b,V.ref o].getD i .bE=.ref bb/\bK X.K aA aP H18 dd ll NS CS WS LL hs/\bJ NS CS WS LL hs/\iN H18 bb NS CS WS/\(LL.map (e9 (az CS))).sum=(L.map (e9 (az cs))).sum:=by
   rcases(show i=0∨i=1 by omega) with rfl | rfl
   ·exact⟨d,l,b,Z,cs,ws,L,_,rfl,rfl,T.a.mono u1,D,hb.mono u1,rfl⟩
   ·exact⟨d',l',o,ns',cs',ws',L',_,rfl,rfl,T.b.mono u1,D',ho.mono u1,eS⟩
  rw[e1,e2];have PP:=DD.BB;have hM:=fH PP;have hML:(bj NS WS).length<=16:=h9 jh (by have:=PP.nm.eU;omega)
  have hlen:((bj NS WS).map (fE NS CS)).length<=100:=by rw[cc];omega
  have hoks:=hM.rf PP;have hbl:=fi hoks hlen;obtain⟨⟨_,_,hdd,_⟩,_⟩:=id hDD;walk_at "i";refine⟨rfl,?_⟩;refine gu hdd jw ?_;refine gT (.told .book) hDD DD trivial fun l5 r5 H19 s19 _ hl5 T5=>?_;have T5:r5=kA _:=T5;rw[jH hoks] at T5;have hr5l:r5.length=(bj NS WS).length:=by rw[T5,cc,cc]
  have ej:Str.join ⟨#[10]⟩ r5=fk ((bj NS WS).map (fE NS CS)):=by rw[T5];rfl
  have hsum:(r5.map fun z=>z.length+1).sum<=r5.length*1272:=eh 1271 r5 fun y hy=>by
   rw[T5] at hy;obtain⟨x,hx,rfl⟩:=ih.mp hy;exact fg (hoks x hx)
  have h16:r5.length*1272<=16*1272:=zS _ (by omega)
  have hmil:(1000000:Nat)<=sizeLine:=by decide
  rw[en];refine⟨_,l5,r5,rfl,rfl,ax.of hl5,h9 hsum (by omega),by rw[ej];omega,?_⟩
  rw[ej];refine⟨bb,NS,CS,WS,rfl,hBB.mono s19,PP,fun H20 s20=>?_⟩;have v2:=s19.trans s20;clear ej hsum h16 T5 hl5 s19 s20 hM hML hlen hoks hbl;walk_at "s";refine gu (v2 _ _ hdd) jw ?_;refine gT (.told .groups) (hDD.mono v2) DD trivial fun r6 R6 H21 s21 _ hr6 T6=>?_;have T6:R6=_:=T6;subst T6;have GO:Bw NS LL:=⟨PP.nm,fun g hg=>⟨DD.names hg,(DD.best.1.each g hg).ne⟩,DD.eU⟩;walk_at "s";refine⟨r6,bb,NS,CS,WS,LL,rfl,hr6,hBB.mono (v2.trans s21),PP,GO,fun H22 Y=>?_⟩;rw[esum];walk_at "s";refine⟨_,rfl,t2,?_⟩;walk_at "s";rw[if_neg (by rw[show Str.ofString (toString (L.map (e9 (az cs))).sum)=fS (L.map (e9 (az cs))).sum from rfl,dt rfl];exact hI)]
  exact⟨_,_,rfl,u1.trans (v2.trans (s21.trans Y))⟩
 rintro σ H17 ⟨y7,y8,rfl,u⟩;have T:=T.mono u;have hb:=hb.mono u;have ho:=ho.mono u;have ht:=u _ _ ht;have s0:=s0.trans u;have I:=u _ _ I;clear u hbo;obtain⟨b1,b2,b3,g0,g1,g2,g3⟩:=hb;obtain⟨o1,o2,o3,k0,k1,k2,k3⟩:=ho;walk_at "i";refine tM 20 (s0.seq ha) fun sl H18 s18 _ hsl=>?_;refine av (i:=((0:Nat):Int)) (ax.of (s18 _ _ g0)) (aw rfl) ?_;refine aZ (.inl (ax.of (s18 _ _ g1))) ?_;rw[cc];walk_at "s";have hslL:((xs.map V.int).take 20).length<=20:=by rw[wh];omega
 refine .inr ⟨_,rfl,?_⟩;refine⟨sl,_,_,rfl,rfl,hsl,by split<;>decide,by split<;>decide,?_,fun rp hrp0=>?_⟩
 ·have:(if decide (0<(Z.length:Int))=true then (1:Int) else 0).toNat<=1:=by split<;>decide
  have h2:=Nat.mul_le_mul hslL this;exact h9 h2 (by decide)
 generalize M:upd H18 rp _=H19;obtain⟨s19,hrp⟩:=iq hrp0 M;clear M;obtain⟨ys,hrp,hys⟩:∃ ys:List Int,H19 rp=some (.lst (ys.map V.int))/\(ys≠[]->Z≠[]):=by
  by_cases z:Z=[]
  ·refine⟨[],?_,fun y=>absurd rfl y⟩;rw[hrp,z];rfl
  ·have hp:0<Z.length:=F2.mpr z;refine⟨xs.take 20,?_,fun _=>z⟩;rw[hrp,if_pos (dt (by omega)),map_take]
   show some (HO.lst [(xs.map V.int).take 20].flatten)=_;rw[List.flatten_singleton]
 have w:=s18.trans s19;have T:=T.mono w;have g0:=w _ _ g0;have g1:=w _ _ g1;have g2:=w _ _ g2;have k0:=w _ _ k0;have k1:=w _ _ k1;have ht:=w _ _ ht;have I:=w _ _ I;clear s18 s19 w hsl hslL hrp0 g3 k2 k3 s0 ha en;obtain⟨_,_,_,hi1⟩:=T.a.zm;obtain⟨_,_,_,hi2⟩:=T.b.zm;refine forL (RF X.K aA aP H19 [some (.ref a),some (.ref b),some (.ref dr),some (.ref o),some (.ref t),some (.ref ds),y6',some (.str (fS (L.map (e9 (az cs))).sum)),y7,y8] d l d' l' Z cs ws L ns' cs' ws' L') (ax.of hrp) ⟨_,_,_,_,_,_,rfl,wA.refl,T,D,D'⟩ (fun k σ H' h=>by obtain⟨_,_,_,_,_,_,_,s,_⟩:=h;exact ax.of (s.lst hi1 hi2 hrp)) ?_ ?_
 ·rintro k σ H20 hk ⟨hs,hs',y1,y2,y3,y4,rfl,o20,T20,D1,D2⟩;have hyne:ys≠[]:=fun z=>by rw[z] at hk;exact absurd hk (I1 _)
  have hpos:0<Z.length:=F2.mpr (hys hyne);have hL:∀ {x:Addr} {us:List V},H19 x=some (.lst us)->H20 x=some (.lst us):=fun h=>o20.lst hi1 hi2 h;have g0:=hL g0;have g1:=hL g1;have g2:=hL g2;have k0:=hL k0;have k1:=hL k1;have ht:=hL ht;have I:=hL I;generalize ys.getD k 0=cell;clear hL;walk_at "i";refine av (i:=((0:Nat):Int)) (ax.of g0) (aw rfl) ?_;refine aZ (.inl (ax.of g1)) ?_;rw[cc];walk_at "s";refine⟨by omega,?_⟩
  obtain⟨at0,ea,dq⟩:∃ i:Nat,cell % (Z.length:Int)=(i:Int)/\i<Z.length:=by
   have h1:=GE cell (show (Z.length:Int)≠0 by omega)
   have h2:=C6 cell (show (0:Int)<Z.length by omega)
   exact⟨(cell % (Z.length:Int)).toNat,by omega,by omega⟩
  rw[ea];clear ea;have hml:m.length=Z.length:=by rw[A.Ht,P.len]
  have hi:m.getD at0 0<Z.length:=by have:=A.lt (k:=at0) (by rw[P.len];exact dq);rw[P.len] at this;exact this
  walk_at "h";refine cu (ax.of ht) rfl (by rw[ao];omega) ?_
  rw[aM];have ecs:cs'.getD at0 0=cs.getD (m.getD at0 0) 0:=by
   have:=A.cnt at0 (by rw[P.len];exact dq)
   rw[aM,aM] at this
   omega
  generalize m.getD at0 0=i at hi ecs ⊢;have hci:=P.RT _ (fN (l:=cs) (k:=i) (by rw[P.lc];exact hi))
  obtain⟨hc0,hc30⟩:=hci;walk_at "i";refine av (i:=((0:Nat):Int)) (ax.of g0) (aw rfl) ?_;refine aZ (.inl (ax.of g1)) ?_;rw[cc];walk_at "s";refine⟨⟨by omega,?_⟩,?_⟩
  ·rw[KF];exact(log2_lt (by omega)).mpr (A6 h8 (by decide))
  refine av (i:=((1:Nat):Int)) (ax.of g0) (aw rfl) ?_;refine cu (ax.of g2) rfl (by rw[ao,P.lc];exact hi) ?_
  rw[aM];walk_at "s";refine⟨by omega,?_⟩
  obtain⟨col,ec,hcol⟩:∃ c:Nat,cell / (Z.length:Int) % ((cs.getD i 0:Nat):Int)=(c:Int)/\c<cs.getD i 0:=by
   have h1:=GE (cell / (Z.length:Int)) (show ((cs.getD i 0:Nat):Int)≠0 by omega)
   have h2:=C6 (cell / (Z.length:Int)) (show (0:Int)<((cs.getD i 0:Nat):Int) by omega)
   exact⟨(cell / (Z.length:Int) % ((cs.getD i 0:Nat):Int)).toNat,by omega,by omega⟩
  rw[ec];clear ec;have hc30:col<10 ^ 30:=Ti hcol hc30;walk_at "s";have cf:=iQ hc30;have cl:(Str.ofString (toString ((col:Nat):Int))).length<=30:=cf.2.2.2;refine⟨_,rfl,?_,?_⟩
  ·rw[KF]
   by_cases z:col=0
   ·rw[z];decide
   ·exact(log2_lt z).mpr (Ti hc30 (by decide +kernel))
  have e4:(Str.ofString "put ").length=4:=by decide +kernel
  have e1:(Str.ofString " ").length=1:=by decide +kernel
  have hbig:(1000:Nat)<=sizeLine:=by decide
  have nl1:=(dI (P.nm.nm _ (getD_memS hi))).2.2;have hat':at0<ns'.length:=by omega
  have nl2:=(dI (P'.nm.nm _ (getD_memS hat'))).2.2;have nil:∀ x∈([]:List Str),jj x:=fun _ z=>nomatch z;obtain⟨⟨_,_,hd,_⟩,_⟩:=id T20.a;walk_at "i";refine av (i:=((0:Nat):Int)) (ax.of I) (aw rfl) ?_;refine gu hd jw ?_;refine av (i:=((0:Nat):Int)) (ax.of g0) (aw rfl) ?_;refine av (ax.of g1) (aw (aQ hi)) ?_;refine⟨_,_,rfl,rfl,by rw[e4];omega,?_⟩
  refine⟨_,_,rfl,rfl,by rw[aD,e4,e1];omega,?_⟩
  refine⟨_,_,rfl,rfl,by rw[aD,aD,e4,e1];omega,?_⟩
  refine HS T20.a D1 hi hcol hc30 fun r1 H21 o21 _ U hD21 D1=>?_;have T21:=T20.SD o21 hD21;clear hD21 hd;obtain⟨_,_,_,hj⟩:=T20.a.zm;have lift:∀ {x:Addr} {us:List V},H20 x=some (.lst us)->H21 x=some (.lst us):=fun h=>o21 _ _ (gj h hj fun z=>nomatch z) h;have g0:=lift g0;have g1:=lift g1;have k0:=lift k0;have k1:=lift k1;have I:=lift I;walk_at "s";refine⟨by decide,fun n1 hn0=>?_⟩
  generalize M:upd H21 n1 _=H22;obtain⟨Y,hn1⟩:=iq hn0 M;clear M lift hj;refine kF (l:=[]) (m:=[]) (ax.of (Y _ _ U)) (ax.of hn1) nil nil ?_;have T22:=T21.mono Y;have g0:=Y _ _ g0;have g1:=Y _ _ g1;have k0:=Y _ _ k0;have k1:=Y _ _ k1;have I:=Y _ _ I;have o22:wA l l' H19 H22:=fun x o n1 n2 e=>Y _ _ (o21 x o n1 (o20 x o n1 n2 e));clear T20 T21 o21 o20 hn0 hn1 U Y g2 ht;obtain⟨⟨_,_,hd,_⟩,_⟩:=id T22.b;walk_at "i";refine av (i:=((1:Nat):Int)) (ax.of I) (aw rfl) ?_;refine gu hd jw ?_;refine av (i:=((0:Nat):Int)) (ax.of k0) (aw rfl) ?_;refine av (ax.of k1) (aw (aQ hat')) ?_;refine⟨_,_,rfl,rfl,by rw[e4];omega,?_⟩
  refine⟨_,_,rfl,rfl,by rw[aD,e4,e1];omega,?_⟩
  refine⟨_,_,rfl,rfl,by rw[aD,aD,e4,e1];omega,?_⟩
  refine HS T22.b D2 hat' (by omega) hc30 fun r1 H23 o23 _ U hD23 D2=>?_
  have T23:=T22.SE o23 hD23;clear hD23 hd;obtain⟨_,_,_,hj⟩:=T22.b.zm;have lift:∀ {x:Addr} {us:List V},H22 x=some (.lst us)->H23 x=some (.lst us):=fun h=>o23 _ _ (gj h hj fun z=>nomatch z) h;have g0:=lift g0;have g1:=lift g1;have k0:=lift k0;have k1:=lift k1;have I:=lift I;walk_at "s";refine⟨by decide,fun n1 hn0=>?_⟩
  generalize M:upd H23 n1 _=H24;obtain⟨O,hn1⟩:=iq hn0 M;clear M lift hj;refine kF (l:=[]) (m:=[]) (ax.of (O _ _ U)) (ax.of hn1) nil nil ?_;have T24:=T23.mono O;have g0:=O _ _ g0;have g1:=O _ _ g1;have k0:=O _ _ k0;have k1:=O _ _ k1;have I:=O _ _ I;have o24:wA l l' H19 H24:=fun x o n1 n2 e=>O _ _ (o23 x o n2 (o22 x o n1 n2 e));clear T22 T23 o22 o23 hn0 hn1 U O;walk_at "s";refine av (i:=((0:Nat):Int)) (ax.of I) (aw rfl) ?_;refine av (i:=((0:Nat):Int)) (ax.of g0) (aw rfl) ?_;refine⟨d,l,b1,Z,cs,ws,L,_,rfl,T24.a,D1,g1,fun H25 s25=>?_⟩;walk_at "s";refine av (i:=((1:Nat):Int)) (ax.of (s25 _ _ I)) (aw rfl) ?_;refine av (i:=((0:Nat):Int)) (ax.of (s25 _ _ k0)) (aw rfl) ?_;refine⟨d',l',o1,ns',cs',ws',L',_,rfl,T24.b.mono s25,D2,s25 _ _ k1,fun H26 s26=>?_⟩;walk_at "s";refine⟨_,_,rfl,?_⟩;have r1:=rH D1;have r2:=rH D2;rw[eS] at r2;have hS0:=D.best.1.nn;have hS8:=D.Bo;have hS0:0<=(L.map (e9 (az cs))).sum:=hS0;generalize (L.map (e9 (az cs))).sum=S at r1 r2 hS0 hS8 ⊢;obtain⟨n,rfl⟩:=r3 hS0;have cn:=iQ (c:=n) (A6 (show n<=8 by omega) (by decide))
  refine⟨fS (n:Int),n,rfl,?_,?_⟩
  ·exact cn.2.1
  refine⟨h9 cn.2.2.2 (by decide),?_⟩
  walk_at "s";refine bU (fun c=>absurd c ?_) (fun _=>⟨_,_,_,_,_,_,rfl,fun x o n1 n2 e=>s26 _ _ (s25 _ _ (o24 x o n1 n2 e)),T24.mono (s25.trans s26),D1,D2⟩)
  split<;>omega
 rintro σ H20 ⟨hs,hs',y1,y2,y3,y4,rfl,o20,T20,D1,D2⟩;walk_at "s";exact q H20
theorem all_mk {l:PySem.W.OpenLaw}{h:Heap}{fa f33 f59:Addr}(X:K.In h)(G:h.Ns mainGlobals mg)(hfa:mg "law"=some (.ref fa))
  {od33 an33 od59 an59:Option Addr} {sl33 sl59:Array (Option Value)} {oc33 kV33 dc33 pm33 cd33 ct33 oc59 kV59 dc59 pm59 cd59 ct59:Value}
  (d0:DQ K "greatest_divisor" dm)
  (d1:DQ K "share" tN)
  (d2:DQ K "sure" zo)
  (d3:DQ K "product" lF)
  (d4:DQ K "circle_guess" ft)
  (d5:DQ K "ring_guess" gU)
  (d6:DQ K "places" oq)
  (d7:DQ K "sees" zp)
  (d8:DQ K "is_circle" iR)
  (d9:DQ K "is_ring" lG)
  (d10:DQ K "first_ready" fT)
  (d11:DQ K "laid_out" jM)
  (d12:DQ K "sight_order" fU)
  (d13:DQ K "first_seen" gW)
  (d14:DQ K "sight_ring" gX)
  (d15:DQ K "rises" tO)
  (d16:DQ K "is_group" jN)
  (d17:DQ K "group_fault" fV)
  (d18:DQ K "picked" ou)
  (d19:DQ K "group_sure" gY)
  (d20:DQ K "made_sure" iS)
  (d21:DQ K "group_guess" fW)
  (d22:DQ K "sights_from" fX)
  (d23:DQ K "lone_group" gZ)
  (d24:DQ K "lone_choices" fu)
  (d25:DQ K "parts_of" jO)
  (d26:DQ K "best_choice" fY)
  (d27:DQ K "best_groups" fZ)
  (d28:DQ K "are_hats" jP)
  (d29:DQ K "is_name" lH)
  (d30:DQ K "is_count" jQ)
  (d31:DQ K "is_hat_line" f6)
  (d32:DQ K "is_sees_line" fB)
  {T33:Addr} {t33:Tok} {o33:Obj} {m33:Nat} (a33:nsIn K mainGlobals "read_line"=some (some (.ref f33))) (l33:K.lookup f33=some ⟨oc33,od33,.func (fnOf "read_line" "read_line" (bB c6) (aY c6) (ak c6) (.ref T33) kV33 dc33 pm33 an33 cd33 ct33),sl33⟩) (c33:codeIn K cd33 "read_line"=true) (k33:keepIn K (.ref f33)=true) (lt33:K.lookup T33=some o33) (ld33:o33.data=.seq #[.int 0 t33] m33)
  (d34:DQ K "add_hat" lI)
  (d35:DQ K "add_sight" iT)
  (d36:DQ K "rows_of" lJ)
  (d37:DQ K "read_book" iU)
  (d38:DQ K "shown_book" g4)
  (d39:DQ K "fits" zq)
  (d40:DQ K "is_ask" ow)
  (d41:DQ K "number_of" iV)
  (d42:DQ K "named" m9)
  (d43:DQ K "shown_share" f7)
  (d44:DQ K "shown_group" f9)
  (d45:DQ K "told_of" lK)
  (d46:DQ K "_law_draws" iW)
  (d47:DQ K "_law_fresh" iX)
  (d48:DQ K "_law_names" iY)
  (d49:DQ K "_law_count" iZ)
  (d50:DQ K "_law_mixed_lines" dN)
  (d51:DQ K "_law_shown" i3)
  (d52:DQ K "_law_sight" i4)
  (d53:DQ K "_law_hat_count" eX)
  (d54:DQ K "_law_house" i5)
  (d55:DQ K "_law_groups" g5)
  (d56:DQ K "_law_turned" g6)
  (d57:DQ K "_law_sure_of" gf)
  (d58:DQ K "_law_rights" g7)
  (a59:nsIn K mainGlobals "law"=some (some (.ref f59))) (l59:K.lookup f59=some ⟨oc59,od59,.func (fnOf "law" "law" (bB kG) (aY kG) (ak kG) .none kV59 dc59 pm59 an59 cd59 ct59),sl59⟩) (c59:codeIn K cd59 "law"=true) (k59:keepIn K (.ref f59)=true)
  (z0:nsIn K mainGlobals "range"=some none)
  (z1:nsIn K mainGlobals "len"=some none)
  (z2:nsIn K mainGlobals "sum"=some none)
  (z3:nsIn K mainGlobals "max"=some none)
  (z4:nsIn K mainGlobals "isinstance"=some none)
  (z5:nsIn K mainGlobals "int"=some none)
  (z6:nsIn K mainGlobals "bool"=some none)
  (z7:nsIn K mainGlobals "str"=some none)
  (z8:nsIn K mainGlobals "tuple"=some none)
  (z9:nsIn K mainGlobals "list"=some none)
  (z10:nsIn K mainGlobals "sorted"=some none)
  (z11:nsIn K mainGlobals "set"=some none)
  (z12:nsIn K mainGlobals "all"=some none)
  (z13:nsIn K mainGlobals "any"=some none)
  (z14:nsIn K mainGlobals "zip"=some none)
  (z15:nsIn K mainGlobals "enumerate"=some none)
  (z16:nsIn K mainGlobals "min"=some none)
  {u0:Tok} (q0:nsIn K mainGlobals "LETTERS"=some (some (.str "abcdefghijklmnopqrstuvwxyz" u0)))
  {u1:Tok} (q1:nsIn K mainGlobals "FIGURES"=some (some (.str "0123456789" u1)))
  {u2:Tok} (q2:nsIn K mainGlobals "LONGEST_NAME"=some (some (.int 12 u2)))
  {u3:Tok} (q3:nsIn K mainGlobals "LONGEST_COUNT"=some (some (.int 30 u3)))
  {u4:Tok} (q4:nsIn K mainGlobals "MOST_PEOPLE"=some (some (.int 8 u4)))
  {fe0 fe1 fe2 fe3 fe4 fe5 fe6 fe7 fe8:Addr} {ft0 ft1 ft2 ft3 ft4 ft5 ft6 ft7 ft8 fu0 fu1 fu2:Tok} {fep fn0 fn1 fn2 fn3 fn4 fn5 fn6 fn7 fn8:Nat} {fd0 fd1 fd2 fd3 fd4 fd5 fd6 fd7 fd8:Option Addr} {fs0 fs1 fs2 fs3 fs4 fs5 fs6 fs7 fs8:Array (Option Value)} (fa0:nsIn K mainGlobals "FORMS"=some (some (.ref aF))) (fhs:(aF == sysModules)=false)
  (fa1:K.lookup aF=some ⟨.type "dict",none,.dict #[⟨PyData.keyHash w.params "sure",.str "sure" ft0,.ref fe0⟩,⟨PyData.keyHash w.params "share",.str "share" ft1,.ref fe1⟩,⟨PyData.keyHash w.params "groups",.str "groups" ft2,.ref fe2⟩,⟨PyData.keyHash w.params "ring",.str "ring" ft3,.ref fe3⟩,⟨PyData.keyHash w.params "order",.str "order" ft4,.ref fe4⟩,⟨PyData.keyHash w.params "put",.str "put" ft5,.ref fe5⟩,⟨PyData.keyHash w.params "guess",.str "guess" ft6,.ref fe6⟩,⟨PyData.keyHash w.params "right",.str "right" ft7,.ref fe7⟩,⟨PyData.keyHash w.params "book",.str "book" ft8,.ref fe8⟩] fep,#[]⟩)
  (fl0:K.lookup fe0=some ⟨.type "tuple",fd0,.seq #[] fn0,fs0⟩) (fl1:K.lookup fe1=some ⟨.type "tuple",fd1,.seq #[] fn1,fs1⟩) (fl2:K.lookup fe2=some ⟨.type "tuple",fd2,.seq #[] fn2,fs2⟩) (fl3:K.lookup fe3=some ⟨.type "tuple",fd3,.seq #[] fn3,fs3⟩) (fl4:K.lookup fe4=some ⟨.type "tuple",fd4,.seq #[] fn4,fs4⟩) (fl5:K.lookup fe5=some ⟨.type "tuple",fd5,.seq #[.str "name" fu0,.str "colour" fu1] fn5,fs5⟩) (fl6:K.lookup fe6=some ⟨.type "tuple",fd6,.seq #[.str "name" fu2] fn6,fs6⟩) (fl7:K.lookup fe7=some ⟨.type "tuple",fd7,.seq #[] fn7,fs7⟩) (fl8:K.lookup fe8=some ⟨.type "tuple",fd8,.seq #[] fn8,fs8⟩)
  (caHall:nsIn K mainGlobals "Hall"=some (some (.ref aA))) (cokHall:Ba K "Hall" aA ["counts","groups","worn"]=true)
  (caDesk:nsIn K mainGlobals "Desk"=some (some (.ref aP))) (cokDesk:Ba K "Desk" aP ["book","hall"]=true)
  (md0:MQ K aA "__init__" "Hall.__init__" eY)
  (md1:MQ K aA "put_all" "Hall.put_all" fC)
  (md2:MQ K aA "put" "Hall.put" jR)
  (md3:MQ K aA "guess" "Hall.guess" g9)
  (md4:MQ K aA "right" "Hall.right" hJ)
  {mT5:Addr} {mu5:Tok} {mO5:Obj} {mN5:Nat} {mf5:Addr} {md5 mn5:Option Addr} {ms5:Array (Option Value)} {mo5 mk5 me5 mp5 mc5 mt5:Value} (ma5:findIn K (.ref aP) "__init__"=some (some (.ref mf5))) (ml5:K.lookup mf5=some ⟨mo5,md5,.func (fnOf "__init__" "Desk.__init__" (bB bR) (aY bR) (ak bR) (.ref mT5) mk5 me5 mp5 mn5 mc5 mt5),ms5⟩) (mq5:codeIn K mc5 "Desk.__init__"=true) (mw5:keepIn K (.ref mf5)=true) (mi5:isFn K (.ref mf5)=true) (mlt5:K.lookup mT5=some mO5) (mld5:mO5.data=.seq #[.str "" mu5] mN5)
  (md6:MQ K aP "ask" "Desk.ask" jS)
  : ∃ fd:FuncData,(∀ (s:Shared) (v:Value),BindsTo s fd ⟨[v],[]⟩ [("script",v)])/\∀ base:Heap,K.In base->base.Ns mainGlobals mg->fj l.prog w K mg base BW 10 fa fd ["script"] (AG K):=by
 have e:=hfa.symm.trans (mg_of X G a59)
 cases e
 have jX:=d0.def X G;have KQ:=d1.def X G;have S:=d2.def X G;have N:=d3.def X G;have oY:=d4.def X G;have uz:=d5.def X G;have HW:=d6.def X G;have OE:=d7.def X G;have xh:=d8.def X G;have Dr:=d9.def X G;have p5:=d10.def X G;have U:=d11.def X G;have p6:=d12.def X G;have uA:=d13.def X G;have uB:=d14.def X G;have KR:=d15.def X G;have zQ:=d16.def X G;have p9:=d17.def X G;have HX:=d18.def X G;have uC:=d19.def X G;have xi:=d20.def X G;have qa:=d21.def X G;have qb:=d22.def X G;have uD:=d23.def X G;have oZ:=d24.def X G;have T:=d25.def X G;have qc:=d26.def X G;have qd:=d27.def X G;have zT:=d28.def X G;have Ds:=d29.def X G;have zU:=d30.def X G;have qf:=d31.def X G;have o7:=d32.def X G;have xj:FU K mg "read_line" c6 0:=JP X G a33 l33 c33 k33 lt33 ld33;have Du:=d34.def X G;have xk:=d35.def X G;have Dv:=d36.def X G;have xl:=d37.def X G;have uE:=d38.def X G;have OF:=d39.def X G;have HY:=d40.def X G;have L:=d41.def X G;have x:=d42.def X G;have qg:=d43.def X G;have qh:=d44.def X G;have Dw:=d45.def X G;have xn:=d46.def X G;have xo:=d47.def X G;have xp:=d48.def X G;have xq:=d49.def X G;have kL:=d50.def X G;have xr:=d51.def X G;have xt:=d52.def X G;have mJ:=d53.def X G;have xu:=d54.def X G;have M:=d55.def X G;have uG:=d56.def X G;have qi:=d57.def X G;have uH:=d58.def X G;have B:Bn mg:=⟨IR X G z0,IR X G z1,IR X G z2,IR X G z3,IR X G z4,IR X G z5,IR X G z6,IR X G z7,IR X G z8,IR X G z9,IR X G z10,IR X G z11,IR X G z12,IR X G z13,IR X G z14,IR X G z15,IR X G z16⟩;have a:=Bb X G cokHall;have c:=Bb X G cokDesk;have mK:=md0.def;have o8:=md1.def;have zV:=md2.def;have uI:=md3.def;have uJ:=md4.def;have mL:wj K aP "__init__" "Desk.__init__" bR "":=Hd ma5 ml5 mq5 mw5 mi5 mlt5 mld5;have zW:=md6.def;have J:=Hc (P:=l.prog) (w:=w) X G fa0 fhs fa1 fl0 fl1 fl2 fl3 fl4 fl5 fl6 fl7 fl8;have g:Cs mg:=⟨⟨_,mg_of X G q0⟩,⟨_,mg_of X G q1⟩,⟨_,mg_of X G q2⟩,⟨_,mg_of X G q3⟩,⟨_,mg_of X G q4⟩⟩;refine⟨fnOf "law" "law" (bB kG) (aY kG) (ak kG) .none kV59 dc59 pm59 an59 cd59 ct59,fun s v=>.of_eq rfl,fun base _ _=>?_⟩;have FL:=x9 (st:=kG) l59 c59 k59;have m:=CO (P:=l.prog) (w:=w) (base:=base) B g Ds;have t:=zt (P:=l.prog) (w:=w) (base:=base) B g zU;have F3:=Hy B qf m t;have Y:=CP B o7 m;have F5:=Kq B xj F3 Y;have F6:=CQ (P:=l.prog) (w:=w) (base:=base) B g Du;have F7:=wI (P:=l.prog) (w:=w) (base:=base) B xk;have H:=Kr (P:=l.prog) (w:=w) (base:=base) B Dv;have F9:=Ks B xl H F5 F6 F7;have W1:=CU (P:=l.prog) (w:=w) (base:=base) B HW;have r:=mU (P:=l.prog) (w:=w) (base:=base) OE;have D:=tV (P:=l.prog) (w:=w) (base:=base) B xh;have o:=zy B Dr r;have SB:=Hz B uE W1;have C1:=Ro (P:=l.prog) (w:=w) (base:=base) jX;have F:=HB KQ C1;have C:=Kv S F;have A:=CW (P:=l.prog) (w:=w) (base:=base) B HX;have C5:=HC uC A C;have u:=Kw B xi C5;have W4:=oz (P:=l.prog) (w:=w) (base:=base) B p5;have I:=wK U W4;have W6:=pF B uA r;have E:=oA B uB I W6;have i:=oC B p6 I;have Z:=CY (P:=l.prog) (w:=w) (base:=base) B qb;have W9:=pI B uD W1 D E Z;have p:=mE B oZ W9 u;have f:=wM B T W1;have q:=oH B qc f;have j:=oJ B qd p q;have G1:=HF (P:=l.prog) (w:=w) (base:=base) B KR;have G2:=Oo B zQ G1 D o;have G3:=C0 B p9 G2;have G4:=Rx (P:=l.prog) (w:=w) (base:=base) uz;have G5:=zB (P:=l.prog) (w:=w) (base:=base) N;have G6:=Ry B oY G5;have G7:=Rz B qa G4 A G6;have A1:=zC (P:=l.prog) (w:=w) (base:=base) B zT;have A2:=HG B a mK G3;have A3:=zD B a o8 A1;have A4:=Ky B a zV A3;have z:=C7 B a uI G7;have Q:=C8 B a uJ z;have E1:=KA OF m t;have E2:=HH B J HY E1;have E3:=Ot (P:=l.prog) (w:=w) (base:=base) B L;have O:=Dc (P:=l.prog) (w:=w) (base:=base) B x;have E5:=Dd (P:=l.prog) (w:=w) (base:=base) B x;have E6:=KD qg F;have E7:=Ou (P:=l.prog) (w:=w) (base:=base) B qh;have R:=De B Dw u E6 E7 O E i SB H;have E9:=HI B a c mL F9 j A2;have b:=Ov B a c J zW E2 E3 A4 z Q E5 R;have d:=Df (P:=l.prog) (w:=w) (base:=base) B xn;have L2:=HJ (P:=l.prog) (w:=w) (base:=base) B xo;have y:=HM B xp d L2;have L4:=HP B xq d;have L5:=HQ (P:=l.prog) (w:=w) (base:=base) B kL;have L6:=Dg (P:=l.prog) (w:=w) (base:=base) B xr;have L7:=zF (P:=l.prog) (w:=w) (base:=base) B xt;have L8:=KH B mJ L4;have L9:=zG B xu d y L8 L7;have n:=KI (P:=l.prog) (w:=w) (base:=base) B M;have M1:=Dh B uG y;have M2:=Di B qi n C;have M3:=wX B a c uH b;exact Ox B a c FL L9 d M1 L5 E9 b L6 M2 M3
theorem walk {l:PySem.W.OpenLaw}{q:Program}{loose:List Str}{XP:(Str->Option Value)->Heap->Prop}{YP:World->Heap->Prop}{d:DefRec}{K:Params->Frag}(hn:l.most=some 63)(hdf:d.params.defaults=[])
  (hY:∀ (w:World) (h:Heap),YP w h->(K w.params).In h)
  (F:∀ (w:World) (mg:Str->Option Value) (fa:Addr) (h:Heap),(K w.params).In h->h.Ns mainGlobals mg->mg d.name=some (.ref fa)->
   ∃ fd:FuncData,(∀ (s:Shared) (u:Value),BindsTo s fd ⟨[u],[]⟩ [("script",u)])/\∀ base:Heap,(K w.params).In base->base.Ns mainGlobals mg->fj l.prog w (K w.params) mg base BW 10 fa fd ["script"] (AG (K w.params))) :
  PySem.W.WalkO q loose XP YP l.row.toRowW d [] (fun f vs=>PySem.call f vs):=
 L2.IW (n:=63) (k:=10) (x:="script") (CX:=fun _=>BW) (sp:=fun w=>AG (K w.params)) hn (by decide) hdf ⟨rfl,by decide,by decide⟩ hY F (fun _ _ a b e _ c=>⟨a,b,rfl,c,e,fun _=>rfl⟩) fun _ _ _ _ _ z=>z
end K79
local macro_rules | `(tactic| walk_at "q") => `(tactic| exact ⟨_, _, _, _, _, _, _, _, _, _, by k_is, by k_is, by k_is, by k_is⟩)
local macro_rules | `(tactic| walk_at "m") => `(tactic| exact ⟨_, _, _, _, _, _, _, _, _, _, by k_is, by k_is, by k_is, by k_is, by k_is⟩)
namespace PySem.W.Fast
open PySem PySem.W PyProof.Rows
def tw3308744803024238407:=True
def tw147124691158274149:=True
def tw10789097482073482239:=True
def tw236781630043598969:=True
def tw13185338814391201638:=True
def tw14920970422231829792:=True
def tw15942870728107223994:=True
def tw11670048115264600560:=True
def tw13484065022080442513:=True
def tw18228532956862651392:=True
def tw5074423934986984929:=True
def tw8299457453198101607:=True
def tw13152847420059671182:=True
def tw17447221469915188517:=True
def tw8642461258365774927:=True
def tw12684492269742501410:=True
def tw14601768053679959027:=True
def tw2732091019379913950:=True
def tw10230240567936103176:=True
def tw16595924256340162831:=True
def tw14963267178421258238:=True
def tw14660955429890361921:=True
def tw4791139462825025250:=True
def tw10164874919553324112:=True
def tw386035582229547293:=True
def tw13206018145859081620:=True
def tw9051572972111556602:=True
def tw3121871818294293905:=True
def tw16515750765673358344:=True
def tw3739751769960503376:=True
def tw9910278179260137100:=True
def tw3837655272331062989:=True
def tw12457685325646881889:=True
def tw1517678672008146248:=True
def tw16617484157528013537:=True
def tw9618342929711374469:=True
def tw8005778171875480362:=True
def tw14356631642396508434:=True
def tw13748831716158741921:=True
def tw6428995206792009151:=True
def tw2765230444335818691:=True
def tw12267603840091688602:=True
def tw6869202576545729572:=True
def tw10097315801948262167:=True
def tw17727178644101514891:=True
def tw11331642029063281242:=True
def tw14953360205736669285:=True
def tw999570551205940205:=True
def tw5132550539689454881:=True
def tw14729035222503952023:=True
def tw5879103654992062412:=True
def tw3318337934153163022:=True
def tw16978547786612576885:=True
def tw5788323287012760133:=True
def tw1650079877884146201:=True
def tw12710408236645730901:=True
def tw12589688089944289011:=True
def tw1257075154581709498:=True
def tw1736481324720873359:=True
def tw11083341848279984168:=True
def tw16070678193848772284:=True
def tw5577506454990823775:=True
def tw2883415498624200745:=True
def tw3344406396215789019:=True
def tw7648590304604036917:=True
def tw8992275395036731625:=True
def tw15238610876166516944:=True
def tw462440219397346197:=True
def tw14084851611649446328:=True
def tw14050279645782835477:=True
def tw15751988242207125989:=True
def tw12008650388484060284:=True
def tw14370524077163720351:=True
def tw1565825734613978652:=True
def tw17426352168308982718:=True
def tw14078559309707357189:=True
def tw7612935569374761023:=True
def tw11459001660983879462:=True
def tw11719612329251717839:=True
def tw12430722561404899012:=True
def tw2376164207423868972:=True
def tw10240586106296391721:=True
def tw3688584690639168818:=True
def tw7383004291490257484:=True
def tw13045505651091789869:=True
def tw3614380047921692300:=True
def tw10379119111043634256:=True
def tw13151953438087014342:=True
def tw16278660343547803539:=True
def tw15729112876787164999:=True
def tw15425593501958463831:=True
def tw9977670823172389245:=True
def tw13866850127101971011:=True
def tw13559215583581531936:=True
def tw14319811559964579319:=True
def tw303126244507812856:=True
def tw9256311266684341951:=True
def tw5148580337398531352:=True
def tw14949313227002013936:=True
def tw16093848331408653746:=True
def tw12993768554706506362:=True
def tw5593067805935232360:=True
def tw16286808459568193866:=True
def tw1188234405765124812:=True
def tw4307763730750432486:=True
def tw10231861386151939647:=True
def tw11746024380398355501:=True
def tw2924062795241871849:=True
def tw7225505053231130134:=True
def tw718782632185795484:=True
def tw16769264940449958717:=True
def tw12711160383090245876:=True
def tw15448501617100343616:=True
def tw6251058003981107255:=True
def tw1832252861857749531:=True
def tw8403851882652031486:=True
def tw4370107304154450557:=True
def tw4535249032970693284:=True
def tw12895010846396407096:=True
def tw2356368588389893106:=True
def tw13625296371394156962:=True
def tw2682911121088451090:=True
def tw18240904001670882640:=True
def tw3477544195168307682:=True
def tw14190248496694613283:=True
def tw17570094973224813335:=True
def tw12097372011239378260:=True
def tw11817304749930200652:=True
def tw10489504720673526194:=True
def tw1426329271022610261:=True
def tw11418628315795556135:=True
def tw1267778362179463832:=True
def tw8130255824219378097:=True
def tw9470740002455695852:=True
def tw9598909756285129870:=True
def tw14774488975802654291:=True
def tw5402964253107446491:=True
def tw3562170490585116441:=True
def tw7155881693073709054:=True
def tw15370914897986227553:=True
def tw14548961383502357694:=True
def tw2749143472893422899:=True
def tw17703310246077728724:=True
def tw10545004837540887003:=True
def tw5137110173299230746:=True
def tw14480858835337415929:=True
def tw11638868297203157015:=True
def tw17789829483597314197:=True
def tw17882697677656765826:=True
def tw6859782251961061988:=True
def tw10340635298751224951:=True
def tw3527826225305405595:=True
def tw1814271852749300359:=True
def tw14034741170017823705:=True
def tw2174599083322988923:=True
def tw13334617254261146101:=True
def tw7254282976794922245:=True
def tw16313187857233612132:=True
def tw7790456214039706012:=True
def tw18290387192385659968:=True
def tw9701852317676500432:=True
def tw2726570019811986867:=True
def tw6917518384903572158:=True
def tw10560841737572669210:=True
def tw5944423593052138078:=True
def tw10076501380042534162:=True
def tw4888663858859412867:=True
def tw13174796011250185879:=True
def tw15174131075195772520:=True
def tw4408968279237391406:=True
def tw2582124576703075001:=True
def tw2416444381519580392:=True
def tw7657678643177295654:=True
def tw9672000701570483406:=True
def tw11383380769299016501:=True
def tw3266799041736965584:=True
def tw3555519068053493680:=True
def tw16311713828736732595:=True
def tw9326305634157809860:=True
def tw3760582344654604359:=True
def tw1234187274801357048:=True
def tw18379295326368595022:=True
def tw6484445420888434769:=True
def tw2098475053199157196:=True
def tw11634356079527202672:=True
def tw217973588301754323:=True
def tw14737779855298677733:=True
def tw13317087727947199821:=True
def tw7916077495164230335:=True
def tw14292669554387169158:=True
def tw8115696920069416571:=True
def tw12723474085487796409:=True
def tw8339010485842790178:=True
def tw13098375479208833188:=True
def tw4838281883507991241:=True
def tw1381167331465834708:=True
def tw357510547997130755:=True
def tw15828781485152577742:=True
def tw6188426503198256001:=True
def tw15784480934862744932:=True
end PySem.W.Fast
set_option maxRecDepth 100000 in
set_option maxHeartbeats 0 in
open PySem PySem.W PyProof.Rows
theorem PySem.Challenge.cw_hatsight_k79_names_turned_holds : PySem.Challenge.rw_hatsight_k79_names_turned.Holds := by
 w_on;o_law;k_head;(case hw=>w_witness2)
 k_fill
 refine K79.walk (l:=PySem.Challenge.rw_hatsight_k79_names_turned) rfl rfl (fun w h Y=>kIn_of Y) ?F
 case F=>
  intro w mg fa h KX G hmg;refine' K79.all_mk KX G hmg (by walk_at "q") (by walk_at "q") (by walk_at "q") (by walk_at "q") (by walk_at "q") (by walk_at "q") (by walk_at "q") (by walk_at "q") (by walk_at "q") (by walk_at "q") (by walk_at "q") (by walk_at "q") (by walk_at "q") (by walk_at "q") (by walk_at "q") (by walk_at "q") (by walk_at "q") (by walk_at "q") (by walk_at "q") (by walk_at "q") (by walk_at "q") (by walk_at "q") (by walk_at "q") (by walk_at "q") (by walk_at "q") (by walk_at "q") (by walk_at "q") (by walk_at "q") (by walk_at "q") (by walk_at "q") (by walk_at "q") (by walk_at "q") (by walk_at "q") ?a33 ?l33 ?c33 ?k33 ?lt33 ?ld33 (by walk_at "q") (by walk_at "q") (by walk_at "q") (by walk_at "q") (by walk_at "q") (by walk_at "q") (by walk_at "q") (by walk_at "q") (by walk_at "q") (by walk_at "q") (by walk_at "q") (by walk_at "q") (by walk_at "q") (by walk_at "q") (by walk_at "q") (by walk_at "q") (by walk_at "q") (by walk_at "q") (by walk_at "q") (by walk_at "q") (by walk_at "q") (by walk_at "q") (by walk_at "q") (by walk_at "q") (by walk_at "q") ?a59 ?l59 ?c59 ?k59 ?z0 ?z1 ?z2 ?z3 ?z4 ?z5 ?z6 ?z7 ?z8 ?z9 ?z10 ?z11 ?z12 ?z13 ?z14 ?z15 ?z16 ?q0 ?q1 ?q2 ?q3 ?q4 ?fa0 ?fhs ?fa1 ?fl0 ?fl1 ?fl2 ?fl3 ?fl4 ?fl5 ?fl6 ?fl7 ?fl8 ?caHall ?cokHall ?caDesk ?cokDesk ?md0 ?md1 ?md2 ?md3 ?md4 ?ma5 ?ml5 ?mq5 ?mw5 ?mi5 ?mlt5 ?mld5 ?md6
  (case a33=>k_is);(case l33=>k_is);(case c33=>k_is);(case k33=>k_is)
  (case lt33=>k_is);(case ld33=>rfl)
  (case a59=>k_is);(case l59=>k_is);(case c59=>k_is);(case k59=>k_is)
  (case q0=>k_is)
  (case q1=>k_is)
  (case q2=>k_is)
  (case q3=>k_is)
  (case q4=>k_is)
  (case fa0=>k_is);(case fhs=>rfl);(case fa1=>k_is);(case fl0=>k_is);(case fl1=>k_is);(case fl2=>k_is);(case fl3=>k_is);(case fl4=>k_is);(case fl5=>k_is);(case fl6=>k_is);(case fl7=>k_is);(case fl8=>k_is)
  (case caHall=>k_is)
  (case caDesk=>k_is)
  (case md0=>walk_at "m")
  (case md1=>walk_at "m")
  (case md2=>walk_at "m")
  (case md3=>walk_at "m")
  (case md4=>walk_at "m")
  (case ma5=>k_is);(case ml5=>k_is);(case mq5=>k_is);(case mw5=>k_is);(case mi5=>k_is);(case mlt5=>k_is);(case mld5=>rfl)
  (case md6=>walk_at "m")
  (case cokHall=>kernel_rfl)
  (case cokDesk=>kernel_rfl)
  (case z0=>k_is)
  (case z1=>k_is)
  (case z2=>k_is)
  (case z3=>k_is)
  (case z4=>k_is)
  (case z5=>k_is)
  (case z6=>k_is)
  (case z7=>k_is)
  (case z8=>k_is)
  (case z9=>k_is)
  (case z10=>k_is)
  (case z11=>k_is)
  (case z12=>k_is)
  (case z13=>k_is)
  (case z14=>k_is)
  (case z15=>k_is)
  (case z16=>k_is)
