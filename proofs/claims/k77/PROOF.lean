import PyProof.Rows.All
import Wide.All
import OpenK.AllK
import Wide.FinOn
import Lean
import PyProof.EqAt
import PyProof.EqKinds
import PyProof.TupleCall
import PySem.Challenge.RW_hatsight_k77_texts
set_option Elab.async false
set_option linter.all false
set_option maxRecDepth 100000
set_option compiler.extract_closed false
local macro_rules | `(tactic| lia) => `(tactic| walk_at "s")
local macro_rules | `(tactic| cbv) => `(tactic| walk_at "d")
def ad{p:Prop}[Decidable p](h:decide p=true:=by exact rfl):p:=of_decide_eq_true h
def Dk0{p:Prop}[Decidable p](h:decide p=true:=by decide +kernel):p:=of_decide_eq_true h
abbrev aO0:=List (PySem.Addr × PySem.Obj)
abbrev B0L:=List (Bool × List Nat)
open List (all_cons any_cons append_nil cons_append contains_cons drop_eq_getElem_cons drop_eq_nil_of_le drop_zero ext_getElem filterMap_cons find?_cons findSome?_cons forIn_cons getD_eq_getElem?_getD getElem?_drop getElem_idxOf idxOf_cons length_append length_cons length_drop length_erase length_filter_le length_map length_nil length_pos_of_mem length_range length_replicate length_set length_take lookup_cons map_cons map_drop map_nil map_take mem_cons mem_cons_of_mem mem_cons_self mem_of_mem_drop mem_of_mem_take nodup_append nodup_cons nodup_nil not_mem_nil reverse_perm set_cons_succ set_cons_zero sum_cons take_add_one take_append_drop take_length take_of_length_le take_succ take_zero)
open Nat (digitChar eq_of_testBit_eq le_succ log2_lt lt_succ_of_lt lt_succ_self mod_lt not_lt_zero succ_le_succ testBit_and testBit_eq_decide_div_mod_eq testBit_or testBit_two_pow toDigits zero_le zero_testBit)
open PySem.Heap (ExtBut SameBut get?_none_of_le get?_push_of_some get?_push_size get?_update_other get?_update_self lt_size)
open Option (bind_some getD_none isSome_map isSome_none isSome_some map_some)
open Array (all_toList ext' getElem?_toList)
open Int (emod_lt_of_pos emod_nonneg eq_ofNat_of_zero_le natAbs_natCast natCast_add natCast_emod toNat toNat_natCast)
open PySem.F (args_tuple_add_2 entry_tuple_add excBase_ValueError plainAttrs_list plainAttrs_str slot_list_index slot_list_insert slot_list_pop slot_str_join slot_str_split slot_tuple_add slot_tuple_index type_list_insert type_list_pop type_str_join type_str_split)
open PySem.W (InitBack KitX Looks bind_fn binds_K callWith_K cellsFrom_some clsIn codeIn emptyDict excIn findIn findObj findObj_own fnOf handedIn hasDictIn instIn instObj isFn kIn_of keepIn kia_one kitOne kitx_dict kitx_list lookIn looks_clsIn looks_find looks_findIn looks_mroIn makesIn methodCall_KW methodObj mg_none_of mg_of mroIn notCls nsIn osa_eq plainGet plainGet_of plainOver set_plain specialIn takerIn takesIn typeIn)
open PySem.SeqAt (EqAt list_indexAt shaped)
set_option maxHeartbeats 4000000
open PySem.W (Frag)
namespace L2
open PySem PySem.Spec PyProof.Rows
def b3:type_of% @List.getD_eq_getElem?_getD:=@List.getD_eq_getElem?_getD
def b4:type_of% @List.getElem?_eq_getElem:=@List.getElem?_eq_getElem
def b5:type_of% @List.length_map:=@List.length_map
def b7:type_of% @PySem.wpAny_bind:=@PySem.wpAny_bind
def cc:type_of% @decide_eq_true:=@decide_eq_true
def c8:type_of% @PySem.Heap.get?_push_of_some:=@PySem.Heap.get?_push_of_some
def dt:type_of% @List.mem_singleton:=@List.mem_singleton
def dy:type_of% @decide_eq_false:=@decide_eq_false
def ea:type_of% @Nat.le_refl:=@Nat.le_refl
def ed:type_of% @List.length_append:=@List.length_append
def ef:type_of% @Bool.and_eq_true:=@Bool.and_eq_true
def et:type_of% @List.getElem?_map:=@List.getElem?_map
def ey:type_of% @PySem.wpAny_pure:=@PySem.wpAny_pure
def eG:type_of% @List.mem_append:=@List.mem_append
def eH:type_of% @List.map_append:=@List.map_append
def eR:type_of% @List.mem_cons_self:=@List.mem_cons_self
def fz:type_of% @Nat.le_trans:=@Nat.le_trans
def fA:type_of% @List.mem_cons_of_mem:=@List.mem_cons_of_mem
def fO:type_of% @List.mem_of_getElem?:=@List.mem_of_getElem?
def gc:type_of% @List.size_toArray:=@List.size_toArray
def gd:type_of% @List.mem_cons:=@List.mem_cons
def gg:type_of% @Nat.lt_of_lt_of_le:=@Nat.lt_of_lt_of_le
def hI:type_of% @Bool.false_ne_true:=@Bool.false_ne_true
def hO:type_of% @PySem.Heap.get?_push_size:=@PySem.Heap.get?_push_size
def h9:type_of% @of_decide_eq_true:=@of_decide_eq_true
def ih:type_of% @List.all_eq_true:=@List.all_eq_true
def j5:type_of% @Int.eq_ofNat_of_zero_le:=@Int.eq_ofNat_of_zero_le
def j6:type_of% @Nat.ne_of_lt:=@Nat.ne_of_lt
def j9:type_of% @List.mem_map:=@List.mem_map
def ka:type_of% @List.getElem?_eq_some_iff:=@List.getElem?_eq_some_iff
def kb:type_of% @List.map_map:=@List.map_map
def kc:type_of% @List.idxOf_lt_length_iff:=@List.idxOf_lt_length_iff
def kf:type_of% @List.mem_range:=@List.mem_range
def ls:type_of% @List.length_cons:=@List.length_cons
def mo:type_of% @PySem.F.slot_list_append:=@PySem.F.slot_list_append
def mv:type_of% @List.length_drop:=@List.length_drop
def oo:type_of% @PySem.F.type_list_append:=@PySem.F.type_list_append
def ot:type_of% @List.getElem?_eq_none:=@List.getElem?_eq_none
def oD:type_of% @PySem.boot_len:=@PySem.boot_len
def o6:type_of% @Bool.true_and:=@Bool.true_and
def pP:type_of% @List.getElem_mem:=@List.getElem_mem
def pS:type_of% @List.length_range:=@List.length_range
def q5:type_of% @Bool.false_and:=@Bool.false_and
def q7:type_of% @PySem.F.plainAttrs_str:=@PySem.F.plainAttrs_str
def ri:type_of% @PySem.F.plainAttrs_list:=@PySem.F.plainAttrs_list
def ro:type_of% @List.mem_append_right:=@List.mem_append_right
def rr:type_of% @List.map_cons:=@List.map_cons
def r4:type_of% @decide_eq_true_eq:=@decide_eq_true_eq
def si:type_of% @Nat.pow_le_pow_right:=@Nat.pow_le_pow_right
def tp:type_of% @List.mem_filter:=@List.mem_filter
def tx:type_of% @Option.some.inj:=@Option.some.inj
def tz:type_of% @List.length_take:=@List.length_take
def uU:type_of% @Nat.testBit_eq_decide_div_mod_eq:=@Nat.testBit_eq_decide_div_mod_eq
def u5:type_of% @List.getElem?_append_left:=@List.getElem?_append_left
def vr:type_of% @Classical.byContradiction:=@Classical.byContradiction
def wh:type_of% @List.getElem?_append_right:=@List.getElem?_append_right
def xF:type_of% @PySem.wpAny_mono:=@PySem.wpAny_mono
def yx:type_of% @Nat.mul_le_mul_right:=@Nat.mul_le_mul_right
def zO:type_of% @List.length_filter_le:=@List.length_filter_le
def AC:type_of% @List.nodup_cons:=@List.nodup_cons
def A5:type_of% @beq_eq_false_iff_ne:=@beq_eq_false_iff_ne
def C1:type_of% @List.mem_append_left:=@List.mem_append_left
def C2:type_of% @List.getElem_of_mem:=@List.getElem_of_mem
def C4:type_of% @PySem.F.called_set:=@PySem.F.called_set
def C5:type_of% @PySem.Heap.size_push:=@PySem.Heap.size_push
def C6:type_of% @PySem.F.slot_str_split:=@PySem.F.slot_str_split
def Da:type_of% @PySem.F.slot_str_join:=@PySem.F.slot_str_join
def Do:type_of% @List.length_pos_iff:=@List.length_pos_iff
def D1:type_of% @PySem.wpAny_truthy_bool:=@PySem.wpAny_truthy_bool
def D2:type_of% @List.take_of_length_le:=@List.take_of_length_le
def Fk:type_of% @Array.getElem?_eq_some_iff:=@Array.getElem?_eq_some_iff
def FM:type_of% @Int.toNat_natCast:=@Int.toNat_natCast
def FS:type_of% @List.mem_of_mem_drop:=@List.mem_of_mem_drop
def F0:type_of% @Nat.two_pow_pos:=@Nat.two_pow_pos
def F1:type_of% @PySem.F.type_str_join:=@PySem.F.type_str_join
def F2:type_of% @List.append_nil:=@List.append_nil
def F8:type_of% @PySem.mem_of_lookup:=@PySem.mem_of_lookup
def Gc:type_of% @PySem.W.mg_none_of:=@PySem.W.mg_none_of
def GE:type_of% @List.take_append_of_le_length:=@List.take_append_of_le_length
def GM:type_of% @List.filterMap_append:=@List.filterMap_append
def GT:type_of% @Int.emod_lt_of_pos:=@Int.emod_lt_of_pos
def G3:type_of% @Nat.testBit_two_pow:=@Nat.testBit_two_pow
def G4:type_of% @List.filter_append:=@List.filter_append
def IR:type_of% @Int.emod_nonneg:=@Int.emod_nonneg
def I0:type_of% @PyProof.Rows.callWith_type1:=@PyProof.Rows.callWith_type1
def I1:type_of% @Nat.lt_irrefl:=@Nat.lt_irrefl
def KB:type_of% @List.getElem?_set_self:=@List.getElem?_set_self
def KE:type_of% @Bool.and_false:=@Bool.and_false
def KF:type_of% @List.nodup_iff_pairwise_ne:=@List.nodup_iff_pairwise_ne
def KM:type_of% @PySem.F.type_str_split:=@PySem.F.type_str_split
def LI:type_of% @List.getElem?_range:=@List.getElem?_range
def L0:type_of% @Bool.eq_iff_iff:=@Bool.eq_iff_iff
def L4:type_of% @PySem.wpAny_field:=@PySem.wpAny_field
def Me:type_of% @List.range_succ:=@List.range_succ
def M2:type_of% @Nat.lt_of_le_of_lt:=@Nat.lt_of_le_of_lt
def N6:type_of% @PySem.StrLaws.join_split:=@PySem.StrLaws.join_split
def On:type_of% @PySem.codeAny_mono:=@PySem.codeAny_mono
def Os:type_of% @List.nodup_append:=@List.nodup_append
def Pi:type_of% @List.all_map:=@List.all_map
def Pp:type_of% @List.cons.inj:=@List.cons.inj
def P3:type_of% @List.getElem?_set_ne:=@List.getElem?_set_ne
def Re:type_of% @congrArg:=@congrArg
def Sh:type_of% @List.lookup_cons:=@List.lookup_cons
def SC:type_of% @List.take_length:=@List.take_length
def SF:type_of% @Nat.not_lt_zero:=@Nat.not_lt_zero
def SL:type_of% @List.map_drop:=@List.map_drop
def SZ:type_of% @PySem.wpAny_pyIter_list:=@PySem.wpAny_pyIter_list
def S0:type_of% @PySem.Heap.get?_update_other:=@PySem.Heap.get?_update_other
def S4:type_of% @PySem.wpAny_callSpecial?_slot:=@PySem.wpAny_callSpecial?_slot
def UF:type_of% @List.ext_getElem?:=@List.ext_getElem?
def UU:type_of% @List.append_assoc:=@List.append_assoc
def UV:type_of% @PySem.call_meets:=@PySem.call_meets
def UW:type_of% @List.mem_of_mem_take:=@List.mem_of_mem_take
def UX:type_of% @PyProof.Rows.boot_isinstance:=@PyProof.Rows.boot_isinstance
def UY:type_of% @Array.length_toList:=@Array.length_toList
def UZ:type_of% @List.idxOf_lt_length_of_mem:=@List.idxOf_lt_length_of_mem
def U0:type_of% @PySem.wpAny_holding:=@PySem.wpAny_holding
def U1:type_of% @List.getElem_idxOf:=@List.getElem_idxOf
def U2:type_of% @Nat.eq_of_testBit_eq:=@Nat.eq_of_testBit_eq
def U3:type_of% @PySem.wpAny_call_entry:=@PySem.wpAny_call_entry
def U4:type_of% @PySem.wpAny_pyIter_tuple:=@PySem.wpAny_pyIter_tuple
def U5:type_of% @PySem.W.Looks.here:=@PySem.W.Looks.here
def U6:type_of% @PySem.wpAny_Call_Name_kw:=@PySem.wpAny_Call_Name_kw
def U7:type_of% @List.sum_cons:=@List.sum_cons
def U8:type_of% @PySem.wpAny_seqItems:=@PySem.wpAny_seqItems
def U9:type_of% @PySem.Obj.data_mapFields:=@PySem.Obj.data_mapFields
def Va:type_of% @Nat.mod_two_eq_zero_or_one:=@Nat.mod_two_eq_zero_or_one
def Vb:type_of% @Int.natAbs_natCast:=@Int.natAbs_natCast
def Vc:type_of% @PySem.wpAny_passesOwn:=@PySem.wpAny_passesOwn
def Vd:type_of% @Bool.or_eq_true:=@Bool.or_eq_true
def Ve:type_of% @Nat.ne_of_gt:=@Nat.ne_of_gt
def Vf:type_of% @Nat.lt_trans:=@Nat.lt_trans
def Vg:type_of% @PySem.wpAny_newObj_type:=@PySem.wpAny_newObj_type
def Vh:type_of% @PySem.wpAny_loadPart_at:=@PySem.wpAny_loadPart_at
def Vi:type_of% @Nat.pow_lt_pow_right:=@Nat.pow_lt_pow_right
def Vj:type_of% @beq_iff_eq:=@beq_iff_eq
def Vk:type_of% @Int.mul_ediv_cancel_left:=@Int.mul_ediv_cancel_left
def Vl:type_of% @List.map_eq_nil_iff:=@List.map_eq_nil_iff
def Vm:type_of% @beq_self_eq_true:=@beq_self_eq_true
def Vn:type_of% @List.map_reverse:=@List.map_reverse
def Vo:type_of% @Nat.lt_succ_self:=@Nat.lt_succ_self
def Vp:type_of% @Nat.lt_succ_of_lt:=@Nat.lt_succ_of_lt
def Vq:type_of% @List.contains_cons:=@List.contains_cons
def Vr:type_of% @Nat.sub_self:=@Nat.sub_self
def Vs:type_of% @Nat.zero_testBit:=@Nat.zero_testBit
def Vt:type_of% @decide_eq_decide:=@decide_eq_decide
def Vu:type_of% @List.map_take:=@List.map_take
abbrev Key:=Sum Int Str
def mf:Key->Value->Bool
 | .inl k,v=>Value.isInt k v
 | .inr x,v=>Value.isStrOf x v
def S5 (w:World):Key->Int
 | .inl k=>hashInt k
 | .inr x=>hashStr w x
def bL:∀ {k:Key} {v:Value},mf k v=true->(∃ i t,k=Sum.inl i/\v=Value.int i t)∨(∃ x t,k=Sum.inr x/\v=Value.str x t)
 | .inl i,v,h=>by
  obtain⟨t,e⟩:=Value.isInt_shape (k:=i) (v:=v) h;exact .inl ⟨i,t,rfl,e⟩
 | .inr x,v,h=>by
  obtain⟨t,e⟩:=Value.isStrOf_shape (x:=x) (v:=v) h;exact .inr ⟨x,t,rfl,e⟩
def BK (i:Int)(t:Tok):mf (.inl i) (.int i t)=true:=by simp[mf,Value.isInt]
def BL (x:Str)(t:Tok):mf (.inr x) (.str x t)=true:=by simp[mf,Value.isStrOf]
def MT (a b:Int):decide ((Sum.inl a:Key)=Sum.inl b)=(a == b):=by
 by_cases e:a=b
 ·subst e;simp
 ·have h:¬ (Sum.inl a:Key)=Sum.inl b:=λq=>e<|Sum.inl.inj q;rw[dy h];exact(A5.mpr e).symm
def MU (a b:Str):decide ((Sum.inr a:Key)=Sum.inr b)=decide (a=b):=by
 by_cases e:a=b
 ·subst e;simp
 ·have h:¬ (Sum.inr a:Key)=Sum.inr b:=λq=>e<|Sum.inr.inj q;rw[dy h,dy e]
def MV (a:Int)(b:Str):decide ((Sum.inl a:Key)=Sum.inr b)=false:=dy λq=>nomatch q
def MW (a:Str)(b:Int):decide ((Sum.inr a:Key)=Sum.inl b)=false:=dy λq=>nomatch q
def bW (prog:Program)(w:World):PySem.KeyKind prog w Key where
 is:=mf
 hash:=S5 w
 inj:=λv a b f hb=>by
  rcases bL f with ⟨i,t,rfl,rfl⟩ | ⟨x,t,rfl,rfl⟩
  ·rcases bL hb with ⟨j,u,rfl,e⟩ | ⟨y,u,rfl,e⟩
   ·injection e with c _;rw[c]
   ·exact nomatch e
  ·rcases bL hb with ⟨j,u,rfl,e⟩ | ⟨y,u,rfl,e⟩
   ·exact nomatch e
   ·injection e with c _;rw[c]
 byValue:=λk v h=>by
  rcases bL h with ⟨i,t,rfl,rfl⟩ | ⟨x,t,rfl,rfl⟩<;>rfl
 pyHash:=λd h=>by
  rcases bL d with ⟨i,t,rfl,rfl⟩ | ⟨x,t,rfl,rfl⟩
  ·exact wpAny_pyHash_int h
  ·exact wpAny_pyHash_str h
 eqBool:=λhu d h=>by
  rcases bL hu with ⟨i,t,rfl,rfl⟩ | ⟨x,t,rfl,rfl⟩
  ·rcases bL d with ⟨j,u,rfl,rfl⟩ | ⟨y,u,rfl,rfl⟩
   ·rw[MT] at h;exact wpAny_eqBool_int h
   ·rw[MV] at h;exact SeqAt.EqAt.int_str i t y u _ _ _ _ h
  ·rcases bL d with ⟨j,u,rfl,rfl⟩ | ⟨y,u,rfl,rfl⟩
   ·rw[MW] at h;exact SeqAt.EqAt.str_int x t j u _ _ _ _ h
   ·rw[MU] at h;exact wpAny_eqBool_str h
 «strs»:=λk x t v h=>by
  rcases bL h with ⟨i,u,rfl,e⟩ | ⟨y,u,rfl,e⟩
  ·exact nomatch e
  ·injection e with c _
   subst c
   cases v<;>rfl
def ve (prog:Program)(w:World)(i:Int)(t:Tok):(bW prog w).is (.inl i) (.int i t)=true:=BK i t
def bM (prog:Program)(w:World)(x:Str)(t:Tok):(bW prog w).is (.inr x) (.str x t)=true:=BL x t
inductive V where
 | bx | bl (b:Bool) | int (i:Int) | str (x:Str) | Dw (b:Array UInt8) | MS (b:UInt64) | ref (a:Addr) | ty (n:String)
 deriving DecidableEq
def RelV:V->Value->Prop
 | .bx,u=>u=Value.none
 | .bl b,u=>u=Value.bool b
 | .int i,u=>∃ t,u=Value.int i t
 | .str x,u=>∃ t,u=Value.str x t
 | .Dw b,u=>∃ t,u=Value.bytes b t
 | .MS b,u=>∃ t,u=Value.float b t
 | .ref a,u=>u=Value.ref a
 | .ty n,u=>u=Value.type n
abbrev Vals:List V->List Value->Prop:=Paired RelV
theorem Vals.length {xs:List V}{us:List Value}(r:Vals xs us):xs.length=us.length:=Paired.length r
theorem Vals.get:∀ {xs:List V} {us:List Value} {i:Nat} {x:V},Vals xs us->xs[i]?=some x->∃ u,us[i]?=some u/\RelV x u
 | _,_,_,_,.nil,e=>by simp at e
 | _,_,0,_,.cons r _,e=>by simp at e;subst e;exact⟨_,rfl,r⟩
 | _,_,i+1,x,.cons _ t,e=>by
  obtain⟨u,h1,a⟩:=Vals.get (i:=i) (x:=x) t (by simpa using e)
  exact⟨u,by simpa using h1,a⟩
theorem Vals.set {x:V}{u:Value}(r:RelV x u):∀ {xs:List V} {us:List Value} (i:Nat),Vals xs us->Vals (xs.set i x) (us.set i u)
 | _,_,_,.nil=>.nil
 | _,_,0,.cons _ t=>.cons r t
 | _,_,i+1,.cons q t=>.cons q<|Vals.set r i t
theorem Vals.append:∀ {xs ys:List V} {us ws:List Value},Vals xs us->Vals ys ws->Vals (xs++ys) (us++ws)
 | _,_,_,_,.nil,s=>s
 | _,_,_,_,.cons r t,s=>.cons r<|Vals.append t s
theorem Vals.take:∀ {xs:List V} {us:List Value} (n:Nat),Vals xs us->Vals (xs.take n) (us.take n)
 | _,_,0,_=>.nil
 | _,_,_+1,.nil=>.nil
 | _,_,n+1,.cons r t=>.cons r<|Vals.take n t
theorem Vals.drop:∀ {xs:List V} {us:List Value} (n:Nat),Vals xs us->Vals (xs.drop n) (us.drop n)
 | _,_,0,r=>r
 | _,_,_+1,.nil=>.nil
 | _,_,n+1,.cons _ t=>Vals.drop n t
def gL:Option V->Option Value->Prop
 | some v,some u=>RelV v u
 | none,none=>True
 | _,_=>False
variable {κ:Type}
def KV:List (κ × V)->List (κ × Value)->Prop:=Paired λ(p:κ × V) (q:κ × Value)=>p.1=q.1/\RelV p.2 q.2
def kV:Key->V
 | .inl i=>.int i
 | .inr x=>.str x
inductive HO where
 | lst (xs:List V)
 | tup (xs:List V)
 | dK (kvs:List (Key × V)) | dT (kvs:List (List Key × V))
 | set (S:Int->Bool) (n:Nat)
 | ins (C dx:Addr) (fs:List (Str × V))
 | own (x:Addr)
 | xd (fs:List (Str × V))
 | met (f x:Addr)
 | Iw (lo hi:Int)
 | iF (o:Obj) (u:HO)
 | MR (ps:Array Value)
 | ext (φ:Heap->Prop)
abbrev Hp:=Addr->Option HO
def upd (H:Hp)(a:Addr)(o:HO):Hp:=λb=>if b=a then some o else H b
variable {H:Hp}{a:Addr}{o:HO}
def af:upd H a o a=some o:=by unfold upd;rw[if_pos rfl]
variable {b:Addr}
def aB (h:b≠a):upd H a o b=H b:=by unfold upd;rw[if_neg h]
variable {u:HO}
def zS:upd (upd H a o) a u=upd H a u:=by
 funext b;unfold upd;split<;>rfl
def fK (h:H a=some o)(h':H b=some u)(d:o≠u):a≠b:=by
 intro e;subst e;rw[h] at h';exact d<|tx h'
def aH (h:H a=some o)(h':H b=none):a≠b:=by
 intro e;subst e;rw[h] at h';cases h'
section
variable (P:Program)(w:World)
def bB (H:Hp)(h:Heap)(a:Addr):HO->Prop
 | .lst c=>c.length<=sizeLine/\∃ (its:List Value) (n:Nat),Vals c its/\h.get? a=some {cls:=.type "list",data:=.seq its.toArray n}
 | .tup c=>c.length<=sizeLine/\∃ its:List Value,Vals c its/\IsTup h a its.toArray
 | .dK b=>b.length<=sizeLine/\(a == sysModules)=false/\∃ vs,KV b vs/\h.DictOf (bW P w) a vs
 | .dT b=>b.length<=sizeLine/\(a == sysModules)=false/\∃ c:List (List Key × Addr × Value),
   Paired (λ(p:List Key × V) (q:List Key × Addr × Value)=>p.1=q.1/\H q.2.1=some (.tup<|p.1.map kV)/\RelV p.2 q.2.2) b c/\
   ∃ o es ep,h.get? a=some o/\o.ExactDict/\o.data=.dict es ep/\es.toList=c.map (entryOfKey<|tupleKind<|bW P w)/\(c.map (·.1)).Nodup
 | .set S n=>h.SetOf (intKind P w) a S n
 | .ins C d fs=>H d=some (.own a)/\fs.length<=1000/\d≠a/\h.get? a=some (instObj C d)/\
   ∃ mA,h.Ns1 d mA/\(∀ f,gL (fs.lookup f)<|mA f)/\PySem.Within mA (fs.map (·.1))
 | .own _=>∃ o,h.get? a=some o
 | .xd fs=>∃ mA,h.Ns1 a mA/\∀ f,gL (fs.lookup f)<|mA f
 | .Iw i g=>∃ t u v,h.get? a=some {cls:=.type "range",data:=.fields #[.int i t,.int g u,.int 1 v]}
 | .iF o u=>h.get? a=some o/\bB H h a u
 | .MR e=>h.get? a=some {cls:=.none,data:=.fields e}
 | .met f x=>h.get? a=some (methodObj (.ref f)<|.ref x)
 | .ext φ=>φ h/\(∃ o,h.get? a=some o)/\∀ h1 h2:Heap,φ h1->(∀ o,h1.get? a=some o->h2.get? a=some o)->φ h2
def ia (H:Hp)(h:Heap):Prop:=∀ a o,H a=some o->bB P w H h a o
end
variable {P:Program}{w:World}{h:Heap}
theorem bB.lt (x:bB P w H h a o):a<h.objs.size:=by
 cases o with
 | lst c=>obtain⟨_,_,_,_,e⟩:=x;exact lt_size e
 | tup c=>obtain⟨_,_,_,p⟩:=x;exact p.lt
 | dK b=>obtain⟨_,_,_,_,o,_,_,e,_⟩:=x;exact lt_size e
 | dT b=>obtain⟨_,_,_,_,o,_,_,e,_⟩:=x;exact lt_size e
 | set S n=>obtain⟨o,_,_,_,e,_⟩:=x;exact lt_size e
 | ins C d fs=>obtain⟨_,_,_,e,_⟩:=x;exact lt_size e
 | own y=>obtain⟨_,e⟩:=x;exact lt_size e
 | xd fs=>obtain⟨_,⟨_,_,_,e,_⟩,_⟩:=x;exact lt_size e
 | Iw g j=>obtain⟨_,_,_,e⟩:=x;exact lt_size e
 | iF ob u=>obtain⟨e,_⟩:=x;exact lt_size e
 | MR i=>exact lt_size<|show h.get? a=some _ from x
 | met f y=>exact lt_size<|show h.get? a=some _ from x
 | ext φ=>obtain⟨_,⟨_,e⟩,_⟩:=x;exact lt_size e
theorem Paired.MX {α β:Type}{F G:α->β->Prop}:∀ {l₁:List α} {l₂:List β},Paired F l₁ l₂->(∀ a b,F a b->G a b)->Paired G l₁ l₂
 | _,_,.nil,_=>.nil
 | _,_,.cons r t,f=>.cons (f _ _ r)<|Paired.MX t f
variable {H':Hp}{h':Heap}
def bB.nJ (x:bB P w H h a o)(k:∀ b u,(b=a∨H b=some (.own a))->h.get? b=some u->h'.get? b=some u)
  (ho:∀ b,H b=some (.own a)->H' b=some (.own a)) (ht:∀ b xs,H b=some (.tup xs)->H' b=some (.tup xs)):bB P w H' h' a o:=by
 induction o with
 | lst xs=>obtain⟨z,j,n,r,e⟩:=x;exact⟨z,j,n,r,k _ _ (.inl rfl) e⟩
 | tup xs=>obtain⟨z,j,r,ob,e,c⟩:=x;exact⟨z,j,r,ob,k _ _ (.inl rfl) e,c⟩
 | dK s=>obtain⟨z,y,F,r,ob,i,g,e,c⟩:=x;exact⟨z,y,F,r,ob,i,g,k _ _ (.inl rfl) e,c⟩
 | dT s=>
  obtain⟨z,y,xs,r,ob,i,g,e,c⟩:=x;exact⟨z,y,xs,Paired.MX r λp q z=>⟨z.1,ht _ _ z.2.1,z.2.2⟩,ob,i,g,k _ _ (.inl rfl) e,c⟩
 | set S n=>obtain⟨ob,i,g,t,e,c⟩:=x;exact⟨ob,i,g,t,k _ _ (.inl rfl) e,c⟩
 | ins C I fs=>
  obtain⟨d,z,D,e,m,⟨l,i,g,E,c⟩,r⟩:=x;exact⟨ho _ d,z,D,k _ _ (.inl rfl) e,m,⟨l,i,g,k _ _ (.inr d) E,c⟩,r⟩
 | own y=>obtain⟨ob,e⟩:=x;exact⟨ob,k _ _ (.inl rfl) e⟩
 | xd fs=>obtain⟨m,⟨l,i,g,e,c⟩,r⟩:=x;exact⟨m,⟨l,i,g,k _ _ (.inl rfl) e,c⟩,r⟩
 | Iw K J=>obtain⟨t,u,v,e⟩:=x;exact⟨t,u,v,k _ _ (.inl rfl) e⟩
 | iF ob u G=>obtain⟨e,q⟩:=x;exact⟨k _ _ (.inl rfl) e,G q⟩
 | MR A=>
  have e:h.get? a=some {cls:=.none,data:=.fields A}:=x;show h'.get? a=some {cls:=.none,data:=.fields A};exact k a _ (.inl rfl) e
 | met f y=>
  have e:h.get? a=some (methodObj (.ref f)<|.ref y):=x;show h'.get? a=some (methodObj (.ref f)<|.ref y);exact k a _ (.inl rfl) e
 | ext φ=>obtain⟨p,⟨o,e⟩,B⟩:=x;exact⟨B _ _ p λo q=>k _ _ (.inl rfl) q,⟨o,k _ _ (.inl rfl) e⟩,B⟩
theorem ia.lt (x:ia P w H h)(e:H a=some o):a<h.objs.size:=(x a o e).lt
def ia.fresh (x:ia P w H h)(e:h.objs.size<=a):H a=none:=by
 cases q:H a with
 | none=>rfl
 | some u=>exact absurd (gg (x.lt q) e)<|I1 _
def ia.kept (x:ia P w H h)(k:∀ b u,h.get? b=some u->h'.get? b=some u):ia P w H h':=λa o e=>
 (x a o e).nJ (λb u _ q=>k b u q) (λ_ q=>q) λ_ _ q=>q
def ia.laid (x:ia P w H h)(k:∀ b u,h.get? b=some u->h'.get? b=some u)(hp:h.objs.size<=a)(new:bB P w (upd H a o) h' a o):ia P w (upd H a o) h':=λb u e=>by
 have hn:=x.fresh hp
 by_cases hb:b=a
 ·subst hb;rw[af] at e;cases e;exact new
 ·rw[aB hb] at e;exact(x b u e).nJ (λc v _ q=>k c v q) (λc q=>by rw[aB (aH q hn)];exact q) λc d q=>by rw[aB (aH q hn)];exact q
def Rd (H:Hp)(a:Addr)(u:HO):Prop:=H a=some u∨∃ o,H a=some (.iF o u)
def Rd.ok (r:Rd H a u)(x:ia P w H h):bB P w H h a u:=by
 rcases r with r | ⟨o,r⟩
 ·exact x a u r
 ·obtain⟨_,q⟩:=x a _ r;exact q
def PJ:Option HO->Prop
 | some (.lst _)=>True
 | some (.dK _)=>True
 | some (.dT _)=>True
 | some (.set _ _)=>True
 | some (.ins _ _ _)=>True
 | some (.ext _)=>True
 | _=>False
variable {x e:Addr}{o':HO}
def ia.write (ok:ia P w H h)(mu:PJ (H x))(he:e=x∨H e=some (.own x))(k:∀ b u,b≠e->h.get? b=some u->h'.get? b=some u)(heo:∃ u,h'.get? e=some u)
  (new:bB P w (upd H x o') h' x o'):ia P w (upd H x o') h':=λb u q=>by
 have d:∀ c y,H c=some (.own y)->c≠x:=λc y r z=>by subst z;rw[r] at mu;exact mu
 have f:∀ c g,H c=some (.tup g)->c≠x:=λc g r z=>by subst z;rw[r] at mu;exact mu
 by_cases hb:b=x
 ·subst hb;rw[af] at q;cases q;exact new
 ·rw[aB hb] at q
  by_cases a:b=e
  ·have i:H b=some (.own x):=by
    rcases he with z | z
    ·exact absurd (a.trans z) hb
    ·rw[a];exact z
   rw[q] at i;cases i
   obtain⟨v,j⟩:=heo;exact⟨v,by rw[a];exact j⟩
  ·refine(ok b u q).nJ (λc v hc r=>k c v ?_ r) (λc r=>by rw[aB (d c b r)];exact r) λc g r=>by rw[aB (f c g r)];exact r
   rcases hc with rfl | hc
   ·exact a
   ·rintro rfl
    rcases he with z | z
    ·exact d c b hc z
    ·rw[hc] at z;cases z;exact hb rfl
structure Un (fs ex:List Addr)(H H':Hp)(h h':Heap):Prop where
 keep:∀ b o,h.get? b=some o->H b=none->b∉fs->b∉ex->h'.get? b=some o
 slot:∀ b o,h.get? b=some o->H b=none->b∈fs->b∉ex->∃ sl,h'.get? b=some {o with slots:=sl}
 free:∀ b o,h.get? b=some o->H b=none->b∉ex->H' b=none
 there:∀ b o,h.get? b=some o->b∉ex->∃ o',h'.get? b=some o'
 mT:∀ b xs,H b=some (.tup xs)->H' b=some (.tup xs)
 l9:∀ b o u,H b=some (.iF o u)->H' b=some (.iF o u)
 mS:∀ b ps,H b=some (.MR ps)->∃ more,H' b=some (.MR<|ps++more)
variable {fs ex:List Addr}{H1:Hp}{h1:Heap}
def Un.any (u:Un fs ex H H1 h h1){ob:Obj}(q:h.get? b=some ob)(n:H b=none)(hx:b∉ex):∃ sl,h1.get? b=some {ob with slots:=sl}:=by
 by_cases hb:b∈fs
 ·exact u.slot b ob q n hb hx
 ·exact⟨ob.slots,u.keep b ob q n hb hx⟩
def Un.kept (k:∀ b u,h.get? b=some u->h'.get? b=some u):Un fs ex H H h h':=
 ⟨λb ob q _ _ _=>k b ob q,λb ob q _ _ _=>⟨ob.slots,k b ob q⟩,λ_ _ _ n _=>n,λb ob q _=>⟨ob,k b ob q⟩,λ_ _ q=>q,λ_ _ _ q=>q,λ_ a q=>⟨#[],by rw[q];simp⟩⟩
def Un.refl:Un fs ex H H h h:=Un.kept λ_ _ q=>q
def Un.laid (k:∀ b u,h.get? b=some u->h'.get? b=some u)(hp:h.objs.size<=a)(hn:H a=none):Un fs ex H (upd H a o) h h' where
 keep:=λb u q _ _ _=>k b u q
 slot:=λb u q _ _ _=>⟨u.slots,k b u q⟩
 free:=λb u q n _=>by rw[aB (j6<|gg (lt_size q) hp)];exact n
 there:=λb u q _=>⟨u,k b u q⟩
 mT:=λb c q=>by rw[aB (aH q hn)];exact q
 l9:=λb u c q=>by rw[aB (aH q hn)];exact q
 mS:=λb d q=>⟨#[],by rw[aB (aH q hn),q];simp⟩
def Un.write (mu:PJ (H x))(he:e=x∨H e=some (.own x))(k:∀ b u,b≠e->h.get? b=some u->h'.get? b=some u)(heo:∃ u,h'.get? e=some u):Un fs ex H (upd H x o) h h':=by
 have hx:∀ b,H b=none->b≠x:=λb n z=>by subst z;rw[n] at mu;exact mu
 have hb:∀ b,H b=none->b≠e:=λb n z=>by
  subst z
  rcases he with r | r
  ·exact hx b n r
  ·rw[n] at r;cases r
 have hm:∀ b u,H b=some u->¬ PJ (some u)->b≠x:=λb u q d z=>by subst z;rw[q] at mu;exact d mu
 refine⟨λb u q n _ _=>k b u (hb b n) q,λb u q n _ _=>⟨u.slots,k b u (hb b n) q⟩,λb u q n _=>by rw[aB (hx b n)];exact n,λb u q _=>?_,
  λb c q=>by rw[aB (hm b _ q λz=>z)];exact q,λb u c q=>by rw[aB (hm b _ q λz=>z)];exact q,λb f q=>⟨#[],by rw[aB (hm b _ q λz=>z),q];simp⟩⟩
 by_cases a:b=e
 ·subst a;exact heo
 ·exact⟨u,k b u a q⟩
def SK (h:Heap)(H:Hp):List Addr:=(List.range h.objs.size).filter λa=>(H a).isSome
def sF (h:Heap)(H:Hp):Heap:=PySem.W.hideAll h<|SK h H
def BN (h:Heap)(H:Hp):(sF h H).objs.size=h.objs.size:=PySem.W.hideAll_size _ _
variable {o:Obj}
def DV (e:h.get? b=some o)(n:H b=none):(sF h H).get? b=some o:=
 PySem.W.hideAll_get _ e λhm=>by
  have q:(H b).isSome=true:=(tp.mp hm).2;rw[n] at q;simp at q
def Iy (e:(sF h H).get? b=some o):h.get? b=some o/\H b=none:=by
 have a:h.get? b=some o:=PySem.W.of_hideAll (SK h H) e;refine⟨a,?_⟩
 cases q:H b with
 | none=>rfl
 | some x=>
  have hm:b∈SK h H:=tp.mpr ⟨kf.mpr<|lt_size a,by simp[q]⟩
  have z:(sF h H).get? b=none:=PySem.W.hideAll_none (SK h H) hm;rw[z] at e;cases e
structure Mod (K:Frag)(mg:Str->Option Value)(base:Heap):Prop where
 MP:K.In base
 glob:base.Ns mainGlobals mg
 blt:∃ mb,base.Ns builtinsNs mb/\∀ x:Str,x≠"__name__"->mb x=bootBuiltins x
 nolimit:base.NoLimit
structure Cx where
 prog:Program
 w:World
 K:Frag
 mg:Str->Option Value
 base:Heap
 A:Around
 N:List Str
 s₀:Shared
 H₀:Hp
 env:Env
 outer:List Env
 stack:List Env
 ex:List Addr
 fn:Str->Bool
 calm:Bool
 pn:List (Addr × Obj)
 xe:Value->Shared->Prop
def js (l:List Env):List Addr:=l.filterMap (·.frame)
end L2
namespace L2
open PySem PySem.Spec PyProof.Rows
abbrev Cx.fs (X:Cx):List Addr:=js X.outer
def SM (sc:Scope)(x:Str):Prop:=sc.names.lookup x=some .local∨sc.names.lookup x=some .cell∨sc.names.lookup x=some .free
def Loc (sc:Scope)(x:Str):Prop:=sc.names.lookup x=some .local∨sc.names.lookup x=some .cell
def Look (env:Env)(h:Heap)(m:Str->Option Value)(x:Str)(u:Value):Prop:=
 (env.kindOf x=some .local/\m x=some u)∨((env.kindOf x=some .cell∨env.kindOf x=some .free)/\∃ c,env.cells.lookup x=some c/\h.IsCell c (some u))
structure Cx.Ok (X:Cx):Prop where
 mod:Mod X.K X.mg X.base
 kind:X.env.scope.kind=.function
 glob:X.env.globals=mainGlobals
 blt:X.env.builtins=builtinsNs
 above:X.s₀.heap.objs.size<=X.env.locals
 inj:∀ x y c,X.env.cells.lookup x=some c->X.env.cells.lookup y=some c->x=y
 has:∀ x,(X.env.kindOf x=some .cell∨X.env.kindOf x=some .free)->∃ c,X.env.cells.lookup x=some c
 Pm:∀ x c,X.fn x=true->X.env.cells.lookup x=some c->X.s₀.heap.objs.size<=c
 hd:X.calm=true->X.A.handled=none
 frames:X.A.frames=some X.stack
 MN:X.stack=X.outer∨(X.stack=X.env::X.outer/\X.env.frame=some X.env.locals)
 PF:∀ b∈X.ex,b≠X.env.locals/\∀ x c,X.env.cells.lookup x=some c->c≠b
 bs:∀ b o,X.base.get? b=some o->X.s₀.heap.get? b=some o/\X.H₀ b=none
 Ib:X.base.objs.size<=X.s₀.heap.objs.size
 xl:∀ b o,X.base.get? b=some o->b∉X.ex
 zG:∀ b∈X.ex,b∉X.fs
 jZ:X.s₀.heap.FunFrames X.base X.outer
 Li:∀ b∈X.fs,X.H₀ b=none
structure Inv (X:Cx)(pins:aO0)(σ:List (Option V))(H:Hp)(s:Shared):Prop where
 ok:X.Ok
 os:s.os=X.s₀.os
 bare:AllBare s.gens
 base:Un X.fs X.ex X.H₀ H X.s₀.heap s.heap
 loc:∃ m,s.heap.Ns X.env.locals m/\∀ (i:Nat) (x:Str) (v:V),X.N[i]?=some x->σ[i]?=some (some v)->SM X.env.scope x->∃ u,RelV v u/\Look X.env s.heap m x u
 cell:∀ x c,X.env.cells.lookup x=some c->∃ v,s.heap.IsCell c v
 free:H X.env.locals=none
 fH:∀ x c,X.env.cells.lookup x=some c->H c=none
 pin:∀ p∈X.pn++pins,s.heap.get? p.1=some p.2/\H p.1=none/\p.1≠X.env.locals/\p.1∉X.fs/\∀ v,p.2.data≠.cell v
 aY:ia X.prog X.w H s.heap
 len:σ.length=X.N.length
variable {X:Cx}
def Cx.Ok.S6 (ok:X.Ok){b:Addr}{o:Obj}(e:X.base.get? b=some o):b∉X.fs:=λhb=>by
 have:=(ok.jZ.mem hb).1
 rw[e] at this;cases this
variable {pins:aO0}{σ:List (Option V)}{H:Hp}{s:Shared}
theorem Inv.bs (I:Inv X pins σ H s):∀ b o,X.base.get? b=some o->s.heap.get? b=some o/\H b=none:=λb o e=>
 ⟨I.base.keep b o (I.ok.bs b o e).1 (I.ok.bs b o e).2 (I.ok.S6 e)<|I.ok.xl b o e,I.base.free b o (I.ok.bs b o e).1 (I.ok.bs b o e).2<|I.ok.xl b o e⟩
def Inv.bk (I:Inv X pins σ H s):∀ b o,X.base.get? b=some o->s.heap.get? b=some o:=λb o e=>(I.bs b o e).1
theorem Inv.mod (I:Inv X pins σ H s):Mod X.K X.mg X.base:=I.ok.mod
def Inv.gr (I:Inv X pins σ H s):X.K.In s.heap:=I.ok.mod.MP.keeps I.bk
theorem Inv.lt (I:Inv X pins σ H s):X.env.locals<s.heap.objs.size:=let ⟨_,hn,_⟩:=I.loc;hn.lt
def Inv.sz (I:Inv X pins σ H s):X.s₀.heap.objs.size<=s.heap.objs.size:=fz I.ok.above<|Nat.le_of_lt I.lt
def Inv.S7 (I:Inv X pins σ H s){a:Addr}(h:s.heap.objs.size<=a):a∉X.fs:=λhb=>by
 obtain⟨_,o,b,_⟩:=I.ok.jZ.mem hb;exact absurd (gg (lt_size b)<|fz I.sz h)<|I1 _
def Inv.Iz (I:Inv X pins σ H s):∀ x c,X.env.cells.lookup x=some c->c≠X.env.locals:=λx c e z=>by
 obtain⟨v,o,f,d⟩:=I.cell x c e;obtain⟨m,⟨g,i,h,a,b,_⟩,_⟩:=I.loc;rw[z,a] at f;cases f;rw[b] at d;cases d
theorem Inv.jZ (I:Inv X pins σ H s):s.heap.FunFrames X.base X.outer:=by
 have all:∀ (l:List Env),(∀ b∈js l,b∈X.fs)->X.s₀.heap.FunFrames X.base l->s.heap.FunFrames X.base l:=by
  intro l
  induction l with
  | nil=>intro _ _;trivial
  | cons i r f=>
   intro d m;obtain⟨hk,⟨L,o,c,hn,h,g⟩,j⟩:=m;have a:L∈X.fs:=d L (by unfold js;rw[filterMap_cons,c];exact eR)
   obtain⟨n,e⟩:=I.base.slot L o h (I.ok.Li L a) a λz=>I.ok.zG L z a;exact⟨hk,⟨L,_,c,hn,e,g⟩,f (λb hb=>d b (by unfold js;rw[filterMap_cons,c];exact fA _ hb)) j⟩
 exact all X.outer (λ_ hb=>hb) I.ok.jZ
theorem Inv.stack (I:Inv X pins σ H s):s.heap.FunFrames X.base X.stack:=by
 rcases I.ok.MN with e | ⟨e,a⟩
 ·rw[e];exact I.jZ
 ·rw[e];obtain⟨m,hn,_⟩:=I.loc;refine .cons (by rw[I.ok.kind];decide) a hn ?_ I.jZ
  exact get?_none_of_le<|fz I.ok.Ib I.ok.above
def Inv.sG (I:Inv X pins σ H s):∀ b∈js X.stack,b∈X.env.locals::X.fs:=λb hb=>by
 rcases I.ok.MN with e | ⟨e,a⟩
 ·rw[e] at hb;exact fA _ hb
 ·rw[e] at hb;unfold js at hb;rw[filterMap_cons,a] at hb;exact hb
def Inv.nh (I:Inv X pins σ H s):∀ b∈js X.stack,H b=none:=λb hb=>by
 rcases gd.mp (I.sG b hb) with e | hb
 ·rw[e];exact I.free
 ·obtain⟨_,o,a,_⟩:=I.ok.jZ.mem hb;exact I.base.free b o a (I.ok.Li b hb) λz=>I.ok.zG b z hb
variable {H':Hp}{h':Heap}{g':Array GenState}{t':Nat}{d':Drawn}
def Inv.step {ch:List Addr}(I:Inv X pins σ H s)
  (hch:∀ b∈ch,(b∈X.ex∨X.s₀.heap.objs.size<=b)/\b≠X.env.locals/\(∀ x c,X.env.cells.lookup x=some c->c≠b)/\∀ p∈X.pn++pins,p.1≠b)
  (keep:∀ b o,b≠X.env.locals->b∉X.fs->b∉ch->s.heap.get? b=some o->H b=none->h'.get? b=some o)
  (slot:∀ b o,b≠X.env.locals->b∈X.fs->b∉ch->s.heap.get? b=some o->H b=none->∃ sl,h'.get? b=some {o with slots:=sl}) (free:∀ b o,b∉ch->s.heap.get? b=some o->H b=none->H' b=none)
  (there:∀ b o,b∉ch->s.heap.get? b=some o->∃ o',h'.get? b=some o')
  (mT:∀ b xs,H b=some (.tup xs)->H' b=some (.tup xs)) (l9:∀ b o u,H b=some (.iF o u)->H' b=some (.iF o u)) (mS:∀ b ps,H b=some (.MR ps)->∃ more,H' b=some (.MR<|ps++more))
  (ns:∀ m,s.heap.Ns X.env.locals m->h'.Ns X.env.locals m) (aY:ia X.prog X.w H' h') (hg:AllBare g') :
  Inv X pins σ H' {s with heap:=h',gens:=g',drawn:=d',toks:=t'}:=by
 have y:∀ b o,X.s₀.heap.get? b=some o->b≠X.env.locals:=λb o e=>j6<|gg (lt_size e) I.ok.above;have g:∀ b o,X.s₀.heap.get? b=some o->b∉X.ex->b∉ch:=λb o e hx hb=>by
  rcases(hch b hb).1 with z | z
  ·exact hx z
  ·exact absurd (gg (lt_size e) z)<|I1 _
 have f:∀ x c,X.env.cells.lookup x=some c->∀ v,s.heap.IsCell c v->h'.IsCell c v:=λx c e v ⟨o,j,B⟩=>by
  have a:c∉ch:=λz=>(hch c z).2.2.1 x c e rfl
  by_cases hc:c∈X.fs
  ·obtain⟨sl,q⟩:=slot c o (I.Iz x c e) hc a j<|I.fH x c e;exact⟨_,q,B⟩
  ·exact⟨o,keep c o (I.Iz x c e) hc a j<|I.fH x c e,B⟩
 refine⟨I.ok,I.os,hg,⟨λb o e n hb hx=>?_,λb o e n hb hx=>?_,λb o e n hx=>?_,λb o e hx=>?_,λb xs e=>mT b xs<|I.base.mT b xs e,λb o xs e=>l9 b o xs<|I.base.l9 b o xs e,λb ps e=>?_⟩,?_,λx c e=>?_,?_,λx c e=>?_,λp D=>?_,aY,I.len⟩
 ·exact keep b o (y b o e) hb (g b o e hx) (I.base.keep b o e n hb hx)<|I.base.free b o e n hx
 ·obtain⟨sl,h⟩:=I.base.slot b o e n hb hx;obtain⟨A,t⟩:=slot b _ (y b o e) hb (g b o e hx) h<|I.base.free b o e n hx;exact⟨A,t⟩
 ·obtain⟨o',h⟩:=I.base.there b o e hx;exact free b o' (g b o e hx) h<|I.base.free b o e n hx
 ·obtain⟨o',h⟩:=I.base.there b o e hx;exact there b o' (g b o e hx) h
 ·obtain⟨F,h⟩:=I.base.mS b ps e;obtain⟨G,t⟩:=mS b _ h;exact⟨F++G,by rw[t,Array.append_assoc]⟩
 ·obtain⟨m,hn,J⟩:=I.loc;refine⟨m,ns m hn,λi x v h t K=>?_⟩;obtain⟨u,r,l⟩:=J i x v h t K;refine⟨u,r,?_⟩
  rcases l with l | ⟨k,c,e,z⟩
  ·exact .inl l
  ·exact .inr ⟨k,c,e,f x c e _ z⟩
 ·obtain⟨v,z⟩:=I.cell x c e;exact⟨v,f x c e v z⟩
 ·obtain⟨m,⟨o,_,_,j,_⟩,_⟩:=I.loc;exact free _ o (λz=>(hch _ z).2.1 rfl) j I.free
 ·obtain⟨v,o,j,B⟩:=I.cell x c e;exact free c o (λz=>(hch c z).2.2.1 x c e rfl) j<|I.fH x c e
 ·obtain⟨e,n,C,E,d⟩:=I.pin p D;have a:p.1∉ch:=λz=>(hch p.1 z).2.2.2 p D rfl;exact⟨keep p.1 p.2 C E a e n,free p.1 p.2 a e n,C,E,d⟩
def Inv.un (I:Inv X pins σ H s)(u:Un X.fs [] H H' s.heap h')(aY:ia X.prog X.w H' h'):Inv X pins σ H' {s with heap:=h',toks:=t'}:=by
 obtain⟨m,⟨o,j,q,f,r⟩,_⟩:=id I.loc;obtain⟨i,g⟩:=u.any f I.free (by simp)
 exact I.step (g':=s.gens) (d':=s.drawn) (ch:=[]) (λ_ z=>nomatch z) (λb o _ hb _ e n=>u.keep b o e n hb (by simp)) (λb o _ hb _ e n=>u.slot b o e n hb (by simp)) (λb o _ e n=>u.free b o e n (by simp)) (λb o _ e=>u.there b o e (by simp)) u.mT u.l9 u.mS (λp hm=>by
  obtain⟨l,d,c,a,h⟩:=hm;rw[f] at a;cases a
  exact⟨_,d,c,g,h⟩) aY I.bare
def Inv.call {ch:List Addr}(I:Inv X pins σ H s)(u:Un (js X.stack) ch H H' s.heap h')(aY:ia X.prog X.w H' h')(hg:AllBare g')
  (hch:∀ b∈ch,(b∈X.ex∨X.s₀.heap.objs.size<=b)/\b≠X.env.locals/\(∀ x c,X.env.cells.lookup x=some c->c≠b)/\∀ p∈X.pn++pins,p.1≠b) :
  Inv X pins σ H' {s with heap:=h',gens:=g',drawn:=d',toks:=t'}:=by
 obtain⟨m,⟨o,l,v,h,r⟩,_⟩:=id I.loc;obtain⟨j,d⟩:=u.any h I.free λz=>(hch _ z).2.1 rfl;exact I.step (ch:=ch) hch (λb o d hb hc e n=>u.keep b o e n (λz=>(gd.mp<|I.sG b z).elim d hb) hc) (λb o _ _ hc e n=>u.any e n hc) (λb o hc e n=>u.free b o e n hc) (λb o hc e=>u.there b o e hc) u.mT u.l9 u.mS (λt hm=>by
  obtain⟨q,g,f,a,i⟩:=hm;rw[h] at a;cases a
  exact⟨_,g,f,d,i⟩) aY hg
variable {it:Addr}
def Inv.turned (I:Inv X pins σ H s)(k:∀ b o,b≠it->s.heap.get? b=some o->h'.get? b=some o)(hn:H it=none)(hL:it≠X.env.locals)
  (h1:it∈X.ex∨X.s₀.heap.objs.size<=it) (h2:∀ x c,X.env.cells.lookup x=some c->c≠it) (h3:∀ p∈X.pn++pins,p.1≠it):Inv X pins σ H {s with heap:=h',toks:=t'}:=by
 have a:∀ b u,H b=some u->b≠it:=λb u e z=>by rw[z,hn] at e;cases e
 refine I.step (g':=s.gens) (d':=s.drawn) (ch:=[it]) (λb hb=>?_) (λb o _ _ hc e _=>k b o (λz=>hc (by simp[z])) e) (λb o _ _ hc e _=>⟨o.slots,k b o (λz=>hc (by simp[z])) e⟩) (λ_ _ _ _ n=>n)
  (λb o hc e=>⟨o,k b o (λz=>hc (by simp[z])) e⟩) (λ_ _ e=>e) (λ_ _ _ e=>e) (λb h e=>⟨#[],by rw[e];simp⟩) (λm hm=>?_) (λb u e=>?_) I.bare
 ·have e:b=it:=by simpa using hb
  subst e;exact⟨h1,hL,h2,h3⟩
 ·obtain⟨o,d,g,f,r⟩:=hm;exact⟨o,d,g,k _ o (Ne.symm hL) f,r⟩
 ·refine(I.aY b u e).nJ (λc v hc q=>k c v ?_ q) (λ_ q=>q) λ_ _ q=>q
  rcases hc with z | z
  ·rw[z];exact a b u e
  ·exact a c _ z
def Inv.tok (I:Inv X pins σ H s)(t:Nat):Inv X pins σ H {s with toks:=t}:=I.un (h':=s.heap) (t':=t) Un.refl I.aY
theorem Inv.kept {t':Nat}(I:Inv X pins σ H s)(k:∀ b u,s.heap.get? b=some u->h'.get? b=some u):Inv X pins σ H {s with heap:=h',toks:=t'}:=I.un (Un.kept k)<|I.aY.kept k
theorem Inv.laid {a:Addr}{o:HO}{t':Nat}(I:Inv X pins σ H s)(k:∀ b u,s.heap.get? b=some u->h'.get? b=some u)(hp:s.heap.objs.size<=a)(new:bB X.prog X.w (upd H a o) h' a o) :
  Inv X pins σ (upd H a o) {s with heap:=h',toks:=t'}:=I.un (Un.laid k hp<|I.aY.fresh hp)<|I.aY.laid k hp new
theorem Inv.write {x e:Addr}{o:HO}{t':Nat}(I:Inv X pins σ H s)(mu:PJ (H x))(he:e=x∨H e=some (.own x))(k:∀ b u,b≠e->s.heap.get? b=some u->h'.get? b=some u)(heo:∃ u,h'.get? e=some u)
  (new:bB X.prog X.w (upd H x o) h' x o):Inv X pins σ (upd H x o) {s with heap:=h',toks:=t'}:=I.un (Un.write mu he k heo)<|I.aY.write mu he k heo new
def Inv.zT {pins':aO0}(I:Inv X pins σ H s)(h:∀ p∈pins',s.heap.get? p.1=some p.2/\H p.1=none/\p.1≠X.env.locals/\p.1∉X.fs/\∀ v,p.2.data≠.cell v):Inv X pins' σ H s:=
 ⟨I.ok,I.os,I.bare,I.base,I.loc,I.cell,I.free,I.fH,λp a=>(eG.mp a).elim (λz=>I.pin p<|C1 _ z)<|h p,I.aY,I.len⟩
variable {x:Str}{N:List Str}{i:Nat}
def nK (hN:N.Nodup){j:Nat}(a:N[i]?=some x)(b:N[j]?=some x):i=j:=by
 obtain⟨h1,d⟩:=ka.mp a;obtain⟨e,c⟩:=ka.mp b;exact(List.getElem_inj hN).mp (d.trans c.symm)
variable {u:Value}{M:Model}{A:Around}{E:Value->Shared->Prop}{v:V}{Q:Unit->Shared->Prop}
def qO (I:Inv X pins σ H s)(hN:X.N.Nodup)(hi:X.N[i]?=some x)(hx:Loc X.env.scope x)(r:RelV v u)
  (h:∀ s',Inv X pins (σ.set i<|some v) H s'->(∃ a,SameBut a s.heap s'.heap/\(a=X.env.locals∨X.env.cells.lookup x=some a))->Q () s') (hf:X.fn x=true∨X.env.scope.names.lookup x=some .local:=by first | exact .inl rfl | exact .inr rfl | assumption):wpAny M A (storeName X.env x u) Q E s:=by
 obtain⟨m,hn,hl⟩:=id I.loc;have G:(X.env.scope.kind == .class||(X.env.scope.kind == .module&&X.env.locals != X.env.globals))=false:=by rw[I.ok.kind];rfl
 have O:i<σ.length:=by rw[I.len];exact(ka.mp hi).1
 have Iz:=I.Iz;have l:∀ {a:Addr} {D:Heap},(∃ o,s.heap.get? a=some o/\H a=none)->SameBut a s.heap D->ia X.prog X.w H D:=λ{a D} ha f b ob e=>by
  obtain⟨_,_,t⟩:=ha;refine(I.aY b ob e).nJ (λc R hc q=>(f.2 c ?_).trans q) (λ_ q=>q) λ_ _ q=>q;rintro rfl
  rcases hc with rfl | hc
  ·rw[t] at e;cases e
  ·rw[t] at hc;cases hc
 rcases hx with hk | hk
 ·refine wpAny_storeName_local hk hn (λD U f=>?_) G;obtain⟨oL,_,_,hoL,_⟩:=id hn;refine h _ ⟨I.ok,I.os,I.bare,⟨λb o e n hb hx=>?_,λb o e n hb hx=>?_,I.base.free,λb o e hx=>?_,I.base.mT,I.base.l9,I.base.mS⟩,⟨_,U,λj y v' g B e3=>?_⟩,λy c e=>?_,I.free,I.fH,λp T=>?_,l ⟨oL,hoL,I.free⟩ f,by simpa using I.len⟩ ⟨_,f,.inl rfl⟩
  ·exact(f.2 b<|j6<|gg (lt_size e) I.ok.above).trans (I.base.keep b o e n hb hx)
  ·obtain⟨sl,g⟩:=I.base.slot b o e n hb hx;exact⟨sl,(f.2 b<|j6<|gg (lt_size e) I.ok.above).trans g⟩
  ·obtain⟨W,g⟩:=I.base.there b o e hx;exact⟨W,(f.2 b<|j6<|gg (lt_size e) I.ok.above).trans g⟩
  ·by_cases hj:j=i
   ·subst hj;rw[hi] at g;cases g
    rw[KB O] at B
    cases B
    exact⟨u,r,.inl ⟨hk,by simp⟩⟩
   ·rw[P3 (Ne.symm hj)] at B;obtain⟨Y,r',q⟩:=hl j y v' g B e3;refine⟨Y,r',?_⟩
    rcases q with ⟨k,e⟩ | ⟨k,c,e,z⟩
    ·refine .inl ⟨k,?_⟩
     have:y≠x:=λe=>hj<|nK hN g<|e ▸ hi
     simp[this,e]
    ·exact .inr ⟨k,c,e,z.sameBut f<|Iz y c e⟩
  ·obtain⟨R,z⟩:=I.cell y c e;exact⟨R,z.sameBut f<|Iz y c e⟩
  ·obtain⟨e,n,P,Z,d⟩:=I.pin p T;exact⟨(f.2 p.1 P).trans e,n,P,Z,d⟩
 ·have C:X.fn x=true:=by
   rcases hf with z | z
   ·exact z
   ·rw[z] at hk;cases hk
  obtain⟨c,hc⟩:=I.ok.has x<|.inl hk;obtain⟨R,z⟩:=I.cell x c hc;refine wpAny_storeName_cell I.ok.kind hk hc z λD L f=>?_;obtain⟨oc,J,F⟩:=id z;refine h {s with heap:=D} ⟨I.ok,I.os,I.bare,⟨λb o e n hb hx=>?_,λb o e n hb hx=>?_,I.base.free,λb o e hx=>?_,I.base.mT,I.base.l9,I.base.mS⟩,⟨m,hn.sameBut f<|Ne.symm<|Iz x c hc,λj y v' g B e3=>?_⟩,λy S e=>?_,I.free,I.fH,λp T=>?_,l ⟨oc,J,I.fH x c hc⟩ f,by simpa using I.len⟩ ⟨c,f,.inr hc⟩
  ·exact(f.2 b<|j6<|gg (lt_size e)<|I.ok.Pm x c C hc).trans (I.base.keep b o e n hb hx)
  ·obtain⟨sl,g⟩:=I.base.slot b o e n hb hx;exact⟨sl,(f.2 b<|j6<|gg (lt_size e)<|I.ok.Pm x c C hc).trans g⟩
  ·obtain⟨W,g⟩:=I.base.there b o e hx;exact⟨W,(f.2 b<|j6<|gg (lt_size e)<|I.ok.Pm x c C hc).trans g⟩
  ·by_cases hj:j=i
   ·subst hj;rw[hi] at g;cases g
    rw[KB O] at B
    cases B
    exact⟨u,r,.inr ⟨.inl hk,c,hc,L⟩⟩
   ·rw[P3 (Ne.symm hj)] at B;obtain⟨Y,r',q⟩:=hl j y v' g B e3;refine⟨Y,r',?_⟩
    rcases q with q | ⟨k,S,e,z'⟩
    ·exact .inl q
    ·refine .inr ⟨k,S,e,z'.sameBut f ?_⟩;rintro rfl;exact hj<|nK hN g<|I.ok.inj _ _ _ e hc ▸ hi
  ·by_cases K:S=c
   ·subst K;exact⟨_,L⟩
   ·obtain⟨w2,z2⟩:=I.cell y S e;exact⟨w2,z2.sameBut f K⟩
  ·obtain⟨e,n,P,Z,d⟩:=I.pin p T;refine⟨(f.2 p.1 ?_).trans e,n,P,Z,d⟩;intro q;rw[q,J] at e;have q':oc=p.2:=tx e;exact d R (by rw[<-q'];exact F)
def j1 (I:Inv X pins σ H s)(hN:X.N.Nodup)(hi:X.N[i]?=some x)(hx:Loc X.env.scope x)(r:RelV v u)
  (h:∀ s',Inv X pins (σ.set i<|some v) H s'->Q () s') (hf:X.fn x=true∨X.env.scope.names.lookup x=some .local:=by first | exact .inl rfl | exact .inr rfl | assumption):wpAny M A (storeName X.env x u) Q E s:=
 qO I hN hi hx r (λs' a _=>h s' a) hf
variable {s':Shared}
def Inv.zU {ch:List Addr}(I:Inv X pins σ H s)(ho:s'.os=s.os)(u:Un (js X.stack) ch H H' s.heap s'.heap)(aY:ia X.prog X.w H' s'.heap)(hg:AllBare s'.gens)
  (hch:∀ b∈ch,(b∈X.ex∨X.s₀.heap.objs.size<=b)/\b≠X.env.locals/\(∀ x c,X.env.cells.lookup x=some c->c≠b)/\∀ p∈X.pn++pins,p.1≠b):Inv X pins σ H' s':=by
 obtain⟨d,g',d',t',a⟩:=s';have e:a=s.os:=ho;subst e;exact I.call (g':=g') (t':=t') (d':=d') u aY hg hch
abbrev XK:=Value->Option Addr->Hp->Prop
abbrev St:=List<|Option V
abbrev VK:=V->Hp->Prop
abbrev TE:=St->Hp->VK->Prop
abbrev TT:=St->Hp->(Bool->Hp->Prop)->Prop
abbrev TA:=St->Hp->(List V->Hp->Prop)->Prop
structure Ends where
 nx:St->Hp->Prop
 rt:VK
 bk:St->Hp->Prop:=λ_ _=>False
 ct:St->Hp->Prop:=λ_ _=>False
abbrev TS:=Ends->St->Hp->Prop
def EP (X:Cx)(pins:aO0)(σ:St)(Q:VK)(u:Value)(s':Shared):Prop:=∃ v H',Inv X pins σ H' s'/\RelV v u/\Q v H'
def TP (X:Cx)(pins:aO0)(σ:St)(Q:Bool->Hp->Prop)(b:Bool)(s':Shared):Prop:=∃ H',Inv X pins σ H' s'/\Q b H'
def AP (X:Cx)(pins:aO0)(σ:St)(Q:List V->Hp->Prop)(us:List Value)(s':Shared):Prop:=∃ vs H',Inv X pins σ H' s'/\Vals vs us/\Q vs H'
def SP (X:Cx)(pins:aO0)(D:Ends)(f:Flow)(s':Shared):Prop:=
 match f with
 | .next=>∃ σ' H',Inv X pins σ' H' s'/\D.nx σ' H'
 | .brk=>∃ σ' H',Inv X pins σ' H' s'/\D.bk σ' H'
 | .cont=>∃ σ' H',Inv X pins σ' H' s'/\D.ct σ' H'
 | .ret u=>∃ v σ' H',Inv X pins σ' H' s'/\RelV v u/\D.rt v H'
def PE (X:Cx)(e:Expr)(t:TE):Prop:=
 ∀ (pins:aO0) (s:Shared) (σ:St) (H:Hp) (Q:VK),Inv X pins σ H s->t σ H Q->wpAny (model X.prog X.w) X.A (eval e X.env) (EP X pins σ Q) X.xe s
def PT (X:Cx)(e:Expr)(t:TT):Prop:=
 ∀ (pins:aO0) (s:Shared) (σ:St) (H:Hp) (Q:Bool->Hp->Prop),Inv X pins σ H s->t σ H Q->wpAny (model X.prog X.w) X.A (isTrue e X.env<|eval e X.env) (TP X pins σ Q) X.xe s
def PW (X:Cx)(e:Expr)(t:TT):Prop:=
 ∀ (whole:Sem Value) (pins:aO0) (s:Shared) (σ:St) (H:Hp) (Q:Bool->Hp->Prop),Inv X pins σ H s->t σ H Q->wpAny (model X.prog X.w) X.A (isTrue e X.env whole) (TP X pins σ Q) X.xe s
variable {e:Expr}
def PW.pt {t:TT}(h:PW X e t):PT X e t:=h _
def PA (X:Cx)(es:List Expr)(t:TA):Prop:=
 ∀ (pos:Pos) (pins:aO0) (s:Shared) (σ:St) (H:Hp) (Q:List V->Hp->Prop),Inv X pins σ H s->t σ H Q->wpAny (model X.prog X.w) X.A (spliced<|backTo pos<|starEach es X.env) (AP X pins σ Q) X.xe s
def PS (X:Cx)(st:Stmt)(t:TS):Prop:=
 ∀ (pins:aO0) (s:Shared) (σ:St) (H:Hp) (D:Ends),Inv X pins σ H s->t D σ H->wpAny (model X.prog X.w) X.A (exec st X.env) (SP X pins D) X.xe s
def xQ (X:Cx)(st:List Stmt)(t:TS):Prop:=
 ∀ (pins:aO0) (s:Shared) (σ:St) (H:Hp) (D:Ends),Inv X pins σ H s->t D σ H->wpAny (model X.prog X.w) X.A (execs st X.env) (SP X pins D) X.xe s
variable {α:Type}
def bU {t:Sem α}{Q Q':α->Shared->Prop}(h:wpAny M A t Q E s)(hQ:∀ a s,Q a s->Q' a s):wpAny M A t Q' E s:=xF h hQ λ_ _ x=>x
def sH (i:Nat):TE:=λσ H Q=>∃ v,σ[i]?=some (some v)/\Q v H
def tC (v:V):TE:=λ_ H Q=>Q v H
def MY {pos:Pos}(hN:X.N[i]?=some x)(hv:SM X.env.scope x)(hd:(x == ("__debug__":Str))=false:=by decide)(hcd:(x == ("__classdict__":Str))=false:=by decide):PE X (.Name x pos) (sH i):=by
 intro d s σ H Q I h;obtain⟨v,e,h⟩:=h;obtain⟨m,hn,f⟩:=I.loc;obtain⟨u,r,l⟩:=f i x v hN e hv;have b:EP X d σ Q u s:=⟨v,H,I,r,h⟩
 rcases l with ⟨hk,hm⟩ | ⟨hk,c,hc,a⟩
 ·exact wpAny_Name (wpAny_loadName_local I.ok.kind hk hn hm b) hd
 ·rcases hk with hk | hk
  ·exact wpAny_Name (wpAny_loadName_cell I.ok.kind hk hc a b) hd
  ·exact wpAny_Name (wpAny_loadName_free I.ok.kind hk hc a b hcd) hd
def k7 {i j pos}:PE X (.Constant (.int i) j pos) (tC<|.int i):=λ_ _ _ H _ I h=>wpAny_Constant_int ⟨.int i,H,I.tok _,⟨_,rfl⟩,h⟩
def PK {b j pos}:PE X (.Constant (.bool b) j pos) (tC<|.bl b):=λ_ _ _ H _ I h=>Constant_bool ⟨.bl b,H,I,rfl,h⟩
def MZ {j pos}:PE X (.Constant .none j pos) (tC .bx):=λ_ _ _ H _ I h=>Constant_none ⟨.bx,H,I,rfl,h⟩
def DW {x j pos}:PE X (.Constant (.str x) j pos) (tC<|.str x):=λ_ _ _ H _ I h=>Calls.Constant_str ⟨.str x,H,I.tok _,⟨_,rfl⟩,h⟩
def Gl (X:Cx)(x:Str):Prop:=X.env.kindOf x=some .globalImplicit
variable {Q:Value->Shared->Prop}
def i8 {σ:St}{pos:Pos}(I:Inv X pins σ H s)(hg:Gl X x)(hm:X.mg x=some u)(h:Q u s)
  (hd:(x == ("__debug__":Str))=false:=by decide):wpAny (model X.prog X.w) X.A (eval (.Name x pos) X.env) Q E s:=
 Calls.Name_function_global I.ok.kind hg (Calls.loadGlobal_global (by rw[I.ok.glob];exact I.mod.glob.keeps I.bk) hm h) hd
def jB {σ:St}{pos:Pos}(I:Inv X pins σ H s)(hg:Gl X x)(hm:X.mg x=none)(hv:bootBuiltins x=some u)(h:Q u s)
  (hn:x≠"__name__":=by decide) (hd:(x == ("__debug__":Str))=false:=by decide):wpAny (model X.prog X.w) X.A (eval (.Name x pos) X.env) Q E s:=by
 obtain⟨mb,h1,a⟩:=I.mod.blt;exact Calls.Name_function_global I.ok.kind hg (Calls.loadGlobal_builtin (by rw[I.ok.glob];exact I.mod.glob.keeps I.bk) hm (by rw[I.ok.blt];exact h1.keeps I.bk) ((a x hn).trans hv) h) hd
def ni {pos:Pos}(hg:Gl X x)(hm:X.mg x=some u)(r:RelV v u)(hd:(x == ("__debug__":Str))=false:=by decide):PE X (.Name x pos) (tC v):=
 λ_ _ _ H _ I h=>i8 I hg hm ⟨v,H,I,r,h⟩ hd
def IB {pos:Pos}(hg:Gl X x)(hm:X.mg x=none)(hv:bootBuiltins x=some u)(r:RelV v u)(hn:x≠"__name__":=by decide)(hd:(x == ("__debug__":Str))=false:=by decide):PE X (.Name x pos) (tC v):=
 λ_ _ _ H _ I h=>jB I hg hm hv ⟨v,H,I,r,h⟩ hn hd
def PC (X:Cx)(op:CmpOp)(a b:Expr)(t:TE):Prop:=
 ∀ (pins:aO0) (s:Shared) (σ:St) (H:Hp) (Q:VK),Inv X pins σ H s->t σ H Q->
  wpAny (model X.prog X.w) X.A (eval a X.env) (λv c=>wpAny (model X.prog X.w) X.A (eval b X.env) (λu d=>wpAny (model X.prog X.w) X.A (compareOp op v u) (EP X pins σ Q) X.xe d) X.xe c) X.xe s
def tB (t:TE):TT:=λσ H Q=>t σ H λx H1=>∃ c,x=.bl c/\Q c H1
variable {a b:Expr}{pos:Pos}{t:TE}{op:CmpOp}
def M0 (h:PC X op a b t)(h1:behindInMarks op b=false:=by first | exact nobehind _ ad ad | rfl):PE X (.Compare a [op] [b] pos) t:=λc s σ H Q I hw=>wpAny_Compare1 (h c s σ H Q I hw) h1
def DX (h:PC X op a b t)(h1:behindInMarks op b=false:=by first | exact nobehind _ ad ad | rfl):PT X (.Compare a [op] [b] pos) (tB t):=by
 intro e s σ H Q I hw;refine wpAny_isTrue_Compare1 (bU (h e s σ H _ I hw) λv n h1=>bU h1 λu l j=>bU j λc m ⟨x,H1,f,g,i⟩=>?_) h1;obtain⟨d,rfl,q⟩:=i
 cases g
 exact D1 ⟨H1,f,q⟩
def M1 (h:PE X e t)(he:∀ whole,isTrue e X.env whole=(do let v<-whole;standAt e.pos;holding [v] (truthy v)):=by intro _;rfl):PT X e (tB t):=by
 intro a s σ H Q I hw;refine isTrue_plain (bU (h a s σ H _ I hw) λv g ⟨x,H1,b,c,f⟩=>?_)<|he _;obtain⟨d,rfl,q⟩:=f
 cases c
 exact D1 ⟨H1,b,q⟩
def M3 (t u:TT):TT:=λσ H Q=>t σ H λc H1=>if c=true then u σ H1 Q else Q false H1
def S8 (t u:TT):TT:=λσ H Q=>t σ H λc H1=>if c=true then Q true H1 else u σ H1 Q
def M4 (t:TT):TT:=λσ H Q=>t σ H λc H1=>Q (!c) H1
variable {tA:TT}
def IC (ha:PT X a tA):PW X (.BoolOp .And [a] pos) tA:=by
 intro d b s σ H Q I h;refine isTrue_and<|bU (ha b s σ H Q I h) λc f e=>?_
 cases c with
 | true=>exact isTrue_and_nil e
 | false=>exact e
def M5 (ha:PT X a tA):PW X (.BoolOp .Or [a] pos) tA:=by
 intro d b s σ H Q I h;refine isTrue_or<|bU (ha b s σ H Q I h) λc f e=>?_
 cases c with
 | false=>exact isTrue_or_nil e
 | true=>exact e
variable {tB':TT}{rest:List Expr}
def M6 (ha:PT X a tA)(hb:PW X (.BoolOp .And (b::rest) pos) tB'):PW X (.BoolOp .And (a::b::rest) pos) (M3 tA tB'):=by
 intro g d s σ H Q I h;refine isTrue_and<|bU (ha d s σ H _ I h) λc i ⟨H1,e,f⟩=>?_
 cases c with
 | true=>exact hb g d i σ H1 Q e f
 | false=>exact⟨H1,e,f⟩
def PL (ha:PT X a tA)(hb:PW X (.BoolOp .Or (b::rest) pos) tB'):PW X (.BoolOp .Or (a::b::rest) pos) (S8 tA tB'):=by
 intro g d s σ H Q I h;refine isTrue_or<|bU (ha d s σ H _ I h) λc i ⟨H1,e,f⟩=>?_
 cases c with
 | true=>exact⟨H1,e,f⟩
 | false=>exact hb g d i σ H1 Q e f
def M7 (ha:PT X a tA):PT X (.UnaryOp .Not a pos) (M4 tA):=by
 intro b s σ H Q I h;exact isTrue_not<|ha b s σ H (λc H1=>Q (!c) H1) I h
def DY (ta tb:TE):TE:=λσ H Q=>ta σ H λx H1=>∃ c,x=.bl c/\if c=true then tb σ H1 Q else Q (.bl false) H1
def M8 (ta tb:TE):TE:=λσ H Q=>ta σ H λx H1=>∃ c,x=.bl c/\if c=true then Q (.bl true) H1 else tb σ H1 Q
def M9 {op}(h:PE X a t):PE X (.BoolOp op [a] pos) t:=λb s σ H Q I hw=>BoolOp_one<|h b s σ H Q I hw
variable {ta tb:TE}
def Na (ha:PE X a ta)(hb:PE X (.BoolOp .And (b::rest) pos) tb):PE X (.BoolOp .And (a::b::rest) pos) (DY ta tb):=by
 intro d s σ H Q I h;refine BoolOp_and<|bU (ha d s σ H _ I h) λv i ⟨x,H1,f,g,e⟩=>?_;obtain⟨c,rfl,e⟩:=e
 cases g
 refine D1 ?_
 cases c with
 | true=>exact hb d i σ H1 Q f e
 | false=>exact⟨.bl false,H1,f,rfl,e⟩
def PM (ha:PE X a ta)(hb:PE X (.BoolOp .Or (b::rest) pos) tb):PE X (.BoolOp .Or (a::b::rest) pos) (M8 ta tb):=by
 intro d s σ H Q I h;refine BoolOp_or<|bU (ha d s σ H _ I h) λv i ⟨x,H1,f,g,e⟩=>?_;obtain⟨c,rfl,e⟩:=e
 cases g
 refine D1 ?_
 cases c with
 | false=>exact hb d i σ H1 Q f e
 | true=>exact⟨.bl true,H1,f,rfl,e⟩
def S9 (t:TT)(ta tb:TE):TE:=λσ H Q=>t σ H λc H1=>if c=true then ta σ H1 Q else tb σ H1 Q
variable {c:Expr}
def DZ (hc:PT X c tA)(ha:PE X a ta)(hb:PE X b tb):PE X (.IfExp c a b pos) (S9 tA ta tb):=by
 intro e s σ H Q I h;refine wpAny_IfExp<|bU (hc e s σ H _ I h) λd g ⟨H1,f,i⟩=>?_
 cases d with
 | true=>exact ha e g σ H1 Q f i
 | false=>exact hb e g σ H1 Q f i
def au (K:Frag)(H:Hp)(a:Addr)(xs:List V):Prop:=
 Rd H a (.lst xs)∨
  ∃ (o:Obj) (its:Array Value) (n:Nat),K.lookup a=some o/\o.cls=.type "list"/\o.dict=none/\o.data=.seq its n/\its.size<=sizeLine/\Vals xs its.toList
def aN (K:Frag)(H:Hp)(a:Addr)(xs:List V):Prop:=
 Rd H a (.tup xs)∨
  ∃ (o:Obj) (its:Array Value) (n:Nat),K.lookup a=some o/\o.cls=.type "tuple"/\o.data=.seq its n/\its.size<=sizeLine/\Vals xs its.toList
def Ta:Value->Option V
 | .none=>some .bx
 | .bool b=>some<|.bl b
 | .int i _=>some<|.int i
 | .str x _=>some<|.str x
 | .bytes b _=>some<|.Dw b
 | .float b _=>some<|.MS b
 | .ref a=>some<|.ref a
 | .type n=>some<|.ty n
 | _=>none
def RelV.abs {x:V}(r:RelV x u):Ta u=some x:=by
 cases x with
 | bx=>cases r;rfl
 | bl _=>cases r;rfl
 | int _=>obtain⟨t,rfl⟩:=r;rfl
 | str _=>obtain⟨t,rfl⟩:=r;rfl
 | Dw _=>obtain⟨t,rfl⟩:=r;rfl
 | MS _=>obtain⟨t,rfl⟩:=r;rfl
 | ref _=>cases r;rfl
 | ty _=>cases r;rfl
def RelV.inj {x y:V}{u:Value}(r:RelV x u)(q:RelV y u):x=y:=tx<|r.abs.symm.trans q.abs
theorem Vals.inj:∀ {xs ys:List V} {us:List Value},Vals xs us->Vals ys us->xs=ys
 | _,_,_,.nil,.nil=>rfl
 | _,_,_,.cons r t,.cons a b=>by rw[r.inj a,Vals.inj t b]
variable {a:Addr}{xs:List V}{K:Frag}
def au.of (h:H a=some (.lst xs)):au K H a xs:=.inl<|.inl h
def aN.of (h:H a=some (.tup xs)):aN K H a xs:=.inl<|.inl h
variable {σ:St}
def Inv.list (I:Inv X pins σ H s)(h:au X.K H a xs):∃ its:List Value,Vals xs its/\PlainL s.heap a its.toArray/\xs.length<=sizeLine:=by
 rcases h with h | ⟨o,its,n,hk,hc,c,b,hz,r⟩
 ·obtain⟨z,its,n,r,e⟩:=h.ok I.aY;exact⟨its,r,⟨_,n,e,rfl,rfl,rfl⟩,z⟩
 ·refine⟨its.toList,r,⟨o,n,I.gr a o hk,hc,c,by simpa using b⟩,?_⟩
  have e:=r.length;simp only[Array.length_toList] at e
  omega
def Inv.tuple (I:Inv X pins σ H s)(h:aN X.K H a xs):∃ its:List Value,Vals xs its/\IsTup s.heap a its.toArray/\xs.length<=sizeLine:=by
 rcases h with h | ⟨o,its,n,hk,hc,b,hz,r⟩
 ·obtain⟨z,its,r,p⟩:=h.ok I.aY;exact⟨its,r,p,z⟩
 ·refine⟨its.toList,r,⟨o,I.gr a o hk,hc,n,by simpa using b⟩,?_⟩
  have e:=r.length;simp only[Array.length_toList] at e
  omega
variable {ys:List V}
def Inv.vf (I:Inv X pins σ H s)(h:au X.K H a xs)(h':au X.K H a ys):xs=ys:=by
 obtain⟨c,r,⟨o,n,e,_,_,d⟩,_⟩:=I.list h;obtain⟨b,i,⟨l,m,g,_,_,f⟩,_⟩:=I.list h';rw[e] at g;cases g
 rw[d] at f
 injection f with j _
 have:c=b:=by simpa using Re Array.toList j
 subst this;exact r.inj i
def Inv.qP (I:Inv X pins σ H s)(h:aN X.K H a xs)(h':aN X.K H a ys):xs=ys:=by
 obtain⟨c,r,⟨o,e,_,n,d⟩,_⟩:=I.tuple h;obtain⟨b,i,⟨l,g,_,m,f⟩,_⟩:=I.tuple h';rw[e] at g;cases g
 rw[d] at f
 injection f with j _
 have:c=b:=by simpa using Re Array.toList j
 subst this;exact r.inj i
abbrev Cx.pU (X:Cx)(E:Value->Shared->Prop):Cx:={X with xe:=E}
abbrev Cx.Pt (X:Cx):Cx:=X.pU λ_ _=>False
theorem Cx.Ok.pU {X:Cx}(ok:X.Ok)(E:Value->Shared->Prop):(X.pU E).Ok:=
 ⟨ok.mod,ok.kind,ok.glob,ok.blt,ok.above,ok.inj,ok.has,ok.Pm,ok.hd,ok.frames,ok.MN,ok.PF,ok.bs,ok.Ib,ok.xl,ok.zG,ok.jZ,ok.Li⟩
def Cx.Ok.ic (ok:(X.pU E).Ok):X.Ok:=
 ⟨ok.mod,ok.kind,ok.glob,ok.blt,ok.above,ok.inj,ok.has,ok.Pm,ok.hd,ok.frames,ok.MN,ok.PF,ok.bs,ok.Ib,ok.xl,ok.zG,ok.jZ,ok.Li⟩
theorem Inv.pU (I:Inv X pins σ H s)(E:Value->Shared->Prop):Inv (X.pU E) pins σ H s:=⟨I.ok.pU E,I.os,I.bare,I.base,I.loc,I.cell,I.free,I.fH,I.pin,I.aY,I.len⟩
theorem Inv.ic (I:Inv (X.pU E) pins σ H s):Inv X pins σ H s:=⟨I.ok.ic,I.os,I.bare,I.base,I.loc,I.cell,I.free,I.fH,I.pin,I.aY,I.len⟩
theorem SP.ic {D:Ends}{f:Flow}{s':Shared}(h:SP (X.pU E) pins D f s'):SP X pins D f s':=by
 cases f with
 | next=>obtain⟨a,b,I,q⟩:=h;exact⟨a,b,I.ic,q⟩
 | brk=>obtain⟨a,b,I,q⟩:=h;exact⟨a,b,I.ic,q⟩
 | cont=>obtain⟨a,b,I,q⟩:=h;exact⟨a,b,I.ic,q⟩
 | ret u=>obtain⟨v,a,b,I,r,q⟩:=h;exact⟨v,a,b,I.ic,r,q⟩
theorem xQ.Pt {st:List Stmt}{t:TS}(h:xQ X.Pt st t):xQ X st t:=λa s σ H D I hw=>
 xF (h a s σ H D (I.pU _) hw) (λ_ _ q=>q.ic) λ_ _ z=>False.elim z
def D0:TS:=λD σ H=>D.nx σ H
def BO (t u:TS):TS:=λD σ H=>t {D with nx:=u D} σ H
def ID:xQ X [] D0:=λ_ _ σ H _ I h=>wpAny_execs_nil ⟨σ,H,I,h⟩
variable {st:Stmt}{rest:List Stmt}{t u:TS}
def D3 (h1:PS X st t)(h2:xQ X rest u):xQ X (st::rest) (BO t u):=by
 intro a s σ H D I h;refine wpAny_execs_cons<|bU (h1 a s σ H {D with nx:=u D} I h) λf e q=>?_
 cases f with
 | next=>
  obtain⟨b,c,d,q⟩:=q;exact h2 a e b c D d q
 | ret v=>exact q
 | brk=>exact q
 | cont=>exact q
def IE (h1:PS X st t):xQ X [st] t:=by
 intro a s σ H D I h;refine wpAny_execs_cons<|bU (h1 a s σ H D I h) λf b q=>?_
 cases f with
 | next=>exact wpAny_execs_nil q
 | ret v=>exact q
 | brk=>exact q
 | cont=>exact q
def Inv.quiet {σ:St}(I:Inv X pins σ H s):interactive X.env=false:=by simp[interactive,I.ok.kind]
def D4 (te:TE):TS:=λD σ H=>te σ H λ_ H1=>D.nx σ H1
variable {te:TE}
def IF (he:PE X e te)(hs:swapsWith e none pos.line X.env=pure false:=by rfl):PS X (.Expr e pos) (D4 te):=by
 intro a s σ H D I h;exact wpAny_Expr_any (bU (he a s σ H _ I h) λv f ⟨x,H1,b,d,c⟩=>⟨σ,H1,b,c⟩) I.quiet hs
def Nb (te:TE):TS:=λD σ H=>te σ H D.rt
def Nc (he:PE X e te):PS X (.Return (some e) pos) (Nb te):=by
 intro a s σ H D I h;exact wpAny_Return_some<|bU (he a s σ H _ I h) λv f ⟨x,H1,b,c,d⟩=>⟨x,σ,H1,b,c,d⟩
def Nd (c:TT)(t u:TS):TS:=λD σ H=>c σ H λb H1=>if b=true then t D σ H1 else u D σ H1
variable {tc:TT}
def PN {a b:List Stmt}(hc:PT X c tc)(ha:xQ X a t)(hb:xQ X b u):PS X (.If c a b pos) (Nd tc t u):=by
 intro e s σ H D I h;refine wpAny_If<|bU (hc e s σ H _ I h) λd g ⟨H1,f,i⟩=>?_
 cases d with
 | true=>exact ha e g σ H1 D f i
 | false=>exact hb e g σ H1 D f i
abbrev TG:=V->St->Hp->(St->Hp->Prop)->Prop
abbrev zV:=List V->St->Hp->(St->Hp->Prop)->Prop
def PG (X:Cx)(target:Expr)(t:TG):Prop:=
 ∀ (pins:aO0) (s:Shared) (σ:St) (H:Hp) (v:V) (u:Value) (Q:St->Hp->Prop),Inv X pins σ H s->RelV v u->t v σ H Q->
  wpAny (model X.prog X.w) X.A (assign target X.env u) (λ_ a=>∃ σ' H',Inv X pins σ' H' a/\Q σ' H') X.xe s
def Pu (X:Cx)(ts:List Expr)(t:zV):Prop:=
 ∀ (pins:aO0) (s:Shared) (σ:St) (H:Hp) (vs:List V) (us:List Value) (Q:St->Hp->Prop),Inv X pins σ H s->Vals vs us->t vs σ H Q->
  wpAny (model X.prog X.w) X.A (assignInOrder ((assignEach ts X.env).map (·.2)) us) (λ_ a=>∃ σ' H',Inv X pins σ' H' a/\Q σ' H') X.xe s
abbrev D5:=V->V->V->Hp->(Hp->Prop)->Prop
def Nf (X:Cx)(t:D5):Prop:=
 ∀ (pins:aO0) (s:Shared) (σ:St) (H:Hp) (o i v:V) (ov iv u:Value) (Q:Hp->Prop),Inv X pins σ H s->RelV o ov->RelV i iv->RelV v u->t o i v H Q->
  wpAny (model X.prog X.w) X.A (setItem ov iv u) (λ_ a=>∃ H',Inv X pins σ H' a/\Q H') X.xe s
def bN (i:Nat):TG:=λv σ H Q=>Q (σ.set i<|some v) H
def IG (hN:X.N.Nodup)(hi:X.N[i]?=some x)(hx:Loc X.env.scope x)(hf:X.fn x=true∨X.env.scope.names.lookup x=some .local:=by first | exact .inl rfl | exact .inr rfl | assumption):PG X (.Name x pos) (bN i):=by
 intro a s σ H v u Q I r h;exact wpAny_assign_Name<|j1 I hN hi hx r (λc b=>⟨_,H,b,h⟩) hf
def pV:zV:=λa σ H Q=>a=[]/\Q σ H
def dJ (t:TG)(u:zV):zV:=λb σ H Q=>∃ v r,b=v::r/\t v σ H λa c=>u r a c Q
def IH:Pu X [] pV:=by
 intro a s σ H c b Q I r h;obtain⟨e,h⟩:=h;subst e
 cases r
 exact assignInOrder_nil ⟨σ,H,I,h⟩
variable {es:List Expr}
def D6 {t:TG}{u:zV}(h1:PG X e t)(h2:Pu X es u)
  (hs:(assignEach (e::es) X.env).map (·.2)=assign e X.env::(assignEach es X.env).map (·.2):=by rfl):Pu X (e::es) (dJ t u):=by
 intro a s σ H l j Q I r h;obtain⟨v,m,f,h⟩:=h;subst f
 cases r with
 | cons r b=>
  rw[hs];refine assignInOrder_cons<|bU (h1 a s σ H _ _ _ I r h) λ_ i ⟨g,H1,c,d⟩=>?_;exact h2 a i g H1 _ _ Q c b d
def pW (K:Frag)(n:Nat)(t:zV):TG:=λv σ H Q=>∃ a xs,v=.ref a/\aN K H a xs/\xs.length=n/\t xs σ H Q
def Ng {k:Nat}{t:zV}{n:Nat}(hc:X.calm=true)(h:Pu X es t)
  (hn:(assignEach es X.env).length=n:=by rfl) (hst:(assignEach es X.env).findIdx? (·.1)=none:=by rfl):PG X (.Tuple es k pos) (pW X.K n t):=by
 intro c s σ H v u Q I r hw;obtain⟨a,l,m,hq,p,hw⟩:=hw;subst m
 cases r
 obtain⟨f,d,j,hz⟩:=I.tuple hq;refine assign_Tuple_tuple (I.ok.hd hc) j (by simp[hn,<-p,d.length]) hst λi hx=>?_
 have g:Inv X c σ H {s with heap:=i}:=I.kept (t':=s.toks) λb o e=>hx b o (j6<|lt_size e) e;exact h c _ σ H l _ Q g (by simpa using d) hw
def Nh (to ti:TE)(t:D5):TG:=λv σ H Q=>to σ H λo H1=>ti σ H1 λi b=>t o i v b λa=>Q σ a
variable {to ti:TE}
def Ni {o i:Expr}{t:D5}(ho:PE X o to)(hi:PE X i ti)(hs:Nf X t)
  (ha:∀ v,assign (.Subscript o i pos) X.env v=(do
   let ov<-holding [v] (eval o X.env)
   let iv<-holding [v,ov] (eval i X.env)
   standAt pos
   holding [v,ov,iv] (setItem ov iv v)
   release [v,ov,iv] []):=by intro _;rfl):PG X (.Subscript o i pos) (Nh to ti t):=by
 intro a s σ H v u Q I r h;rw[ha];refine b7<|U0<|bU (ho a s σ H _ I h) λov n ⟨x,H1,f,g,j⟩=>?_;refine b7<|U0<|bU (hi a n σ H1 _ f j) λiv m ⟨y,q,p,d,l⟩=>?_;refine b7<|wpAny_standAt<|b7<|U0<|bU (hs a m σ q x y v ov iv u _ p g d r l) λ_ w ⟨b,e,c⟩=>?_;exact wpAny_release ⟨σ,b,e,c⟩
def sI (te:TE)(g:TG):TS:=λD σ H=>te σ H λx H1=>g x σ H1 D.nx
variable {tg:Expr}{g:TG}
def Nj (he:PE X e te)(hg:PG X tg g)(hs:swapsWithSole [tg] e pos.line X.env=pure false:=by rfl)(hw:swappedStores [tg] e X.env=pure none:=by rfl)
  (h1:(assignEach [tg] X.env).map (·.2)=[assign tg X.env]:=by rfl):PS X (.Assign [tg] e pos) (sI te g):=by
 intro a s σ H D I h;refine wpAny_Assign_stores (bU (he a s σ H _ I h) λv d ⟨x,H1,b,c,f⟩=>?_) hs hw;rw[h1];exact bU (hg a d σ H1 x v _ b c f) λ_ i q=>q
variable {pos':Pos}
def Nk (hN:X.N.Nodup)(hi:X.N[i]?=some x)(hx:Loc X.env.scope x)(he:PE X e te)(hs:swapsWith e (some<|.Name x pos') pos.line X.env=pure false:=by rfl)(hf:X.fn x=true∨X.env.scope.names.lookup x=some .local:=by first | exact .inl rfl | exact .inr rfl | assumption) :
  PS X (.Assign [.Name x pos'] e pos) (sI te<|bN i):=by
 intro a s σ H D I h;refine wpAny_Assign_Name (bU (he a s σ H _ I h) λv j ⟨y,H1,b,c,f⟩=>?_) hs;exact j1 b hN hi hx c (λg d=>⟨_,H1,d,f⟩) hf
def sL (c:TT)(tb:TS):TS:=λD σ H=>∃ W:Nat->St->Hp->Prop,(∃ m,W m σ H)/\∀ m σ H,W m σ H->
 c σ H λb H1=>if b=true then ∃ N:St->Hp->Prop,(∀ σ' H',N σ' H'->∃ m',m' < m/\W m' σ' H')/\tb {D with nx:=N,ct:=N,bk:=D.nx} σ H1 else D.nx σ H1
variable {tb:TS}{body:List Stmt}
def D7 (hp:PassesOwn (model X.prog X.w) X.A X.env X.xe)(hc:PT X c tc)(hb:xQ X body tb):PS X (.While c body [] pos) (sL tc tb):=by
 intro a s σ H D I h;obtain⟨W,⟨C,y⟩,e⟩:=h;refine wpAny_While<|codeAny_whileLoop (λn B=>∃ σ' H',Inv X a σ' H' B/\W n σ' H') ?_ C ⟨σ,H,I,y⟩;rintro n F ⟨l,H1,x,E⟩;refine Vc hp<|bU (hc a F l H1 _ x<|e n l H1 E) λb z ⟨u,t,i⟩=>?_
 cases b with
 | true=>
  obtain⟨N,r,i⟩:=i;rw[if_pos rfl];refine Vc hp<|bU (hb a z l u _ t i) λf G j=>?_
  cases f with
  | next=>
   obtain⟨d,g,o,p⟩:=j;obtain⟨q,hm,m⟩:=r d g p;exact⟨q,hm,d,g,o,m⟩
  | cont=>
   obtain⟨d,g,o,p⟩:=j;obtain⟨q,hm,m⟩:=r d g p;exact⟨q,hm,d,g,o,m⟩
  | brk=>exact j
  | ret v=>exact j
 | false=>
  rw[if_neg hI];exact wpAny_execs_nil ⟨l,u,t,i⟩
structure It where
 go:Nat->Hp->Prop
 BJ:Nat->Hp->V->Hp->Prop
 stop:Nat->Hp->Prop
def j2 (X:Cx)(pins:aO0)(H:Hp)(b:Addr):Prop:=
 H b=none/\b≠X.env.locals/\b∉X.fs/\(b∈X.ex∨X.s₀.heap.objs.size<=b)/\(∀ x c,X.env.cells.lookup x=some c->c≠b)/\∀ p∈X.pn++pins,p.1≠b
def Inv.xV {σ:St}{b:Addr}(I:Inv X pins σ H s)(hb:s.heap.objs.size<=b)(hn:H' b=none):j2 X pins H' b:=by
 refine⟨hn,Ve<|gg I.lt hb,I.S7 hb,.inr<|fz I.sz hb,λx c e z=>?_,λp a z=>?_⟩
 ·obtain⟨v,q⟩:=I.cell x c e;exact absurd (gg q.lt (by rw[z];exact hb))<|I1 _
 ·exact absurd (gg (lt_size (I.pin p a).1) (by rw[z];exact hb))<|I1 _
structure Turn (P:Program)(w:World)(K:Frag)(tg:Expr)(J:It)(fp:List Addr)(it:Addr)(tn:Nat->Heap->Prop):Prop where
 mem:it∈fp
 obj:∀ i h,tn i h->∀ b∈fp,∃ o,h.get? b=some o/\∀ v,o.data≠.cell v
 keep:∀ i h h',tn i h->(∀ b∈fp,∀ o,h.get? b=some o->h'.get? b=some o)->tn i h'
 item:∀ (X:Cx),X.prog=P->X.w=w->X.K=K->X.calm=true->∀ (i:Nat) (pins:aO0) (s:Shared) (σ:St) (H:Hp) (E:Value->Shared->Prop),Inv X pins σ H s->(∀ b∈fp,j2 X pins H b)->tn i s.heap->J.go i H->
  wpAny (model P w) X.A (pyNext<|.ref it) (λr s1=>∃ u,r=some u/\
   wpAny (model P w) X.A (letOwnedTupleGo tg (.ref it) u) (λ_ s2=>∃ x H',Inv X pins σ H' s2/\RelV x u/\J.BJ i H x H'/\tn (i+1) s2.heap/\∀ b∈fp,H' b=none) E s1) E s
 done:∀ (X:Cx),X.prog=P->X.w=w->X.K=K->X.calm=true->∀ (i:Nat) (pins:aO0) (s:Shared) (σ:St) (H:Hp) (E:Value->Shared->Prop),Inv X pins σ H s->(∀ b∈fp,j2 X pins H b)->tn i s.heap->J.stop i H->
  wpAny (model P w) X.A (pyNext<|.ref it) (λr s1=>r=none/\Inv X pins σ H s1) E s
 self:∀ (A:Around) (i:Nat) (s:Shared) (Q:Value->Shared->Prop) (E:Value->Shared->Prop),tn i s.heap->Q (.ref it) s->wpAny (model P w) A (pyIter<|.ref it) Q E s
abbrev TI:=St->Hp->(It->Hp->Prop)->Prop
def Tb (X:Cx)(pins:aO0)(σ:St)(tg:Expr)(R:It->Hp->Prop)(itv:Value)(s2:Shared):Prop:=
 ∃ (it:Addr) (fp:List Addr) (tn:Nat->Heap->Prop) (J:It) (H':Hp),itv=.ref it/\Inv X pins σ H' s2/\Turn X.prog X.w X.K tg J fp it tn/\tn 0 s2.heap/\(∀ b∈fp,j2 X pins H' b)/\R J H'
def PI (X:Cx)(tg iter:Expr)(wi:TI):Prop:=
 ∀ (pins:aO0) (s:Shared) (σ:St) (H:Hp) (R:It->Hp->Prop),Inv X pins σ H s->wi σ H R->
  wpAny (model X.prog X.w) X.A (eval iter X.env) (λv a=>wpAny (model X.prog X.w) X.A (pyIter v) (Tb X pins σ tg R) X.xe a) X.xe s
def D8 {u:Value}{o:Obj}{n:String}{vs:Array Value}{Q:Unit->Shared->Prop}(ho:s.heap.get? it=some o)(hc:o.cls=.type n)(hd:o.data=.fields vs)
  (hn:["enumerate","zip","dict_itemiterator","dict_reverseitemiterator","odict_iterator","itertools.zip_longest","itertools.pairwise"].contains n=false) (hQ:Q () s):wpAny M A (letOwnedTupleGo tg (.ref it) u) Q E s:=by
 unfold letOwnedTupleGo
 cases tg<;>first
  | exact ey hQ
  | (cases u<;>first
    | exact ey hQ
    | (refine b7<|wpAny_load ho ?_;rw[hc,hd];show wpAny M A (if (["enumerate","zip","dict_itemiterator","dict_reverseitemiterator","odict_iterator","itertools.zip_longest","itertools.pairwise"].contains n&&vs[0]? == some (rawInt _))=true then _ else _) Q E s;rw[if_neg (by intro h;rw[hn,q5] at h;cases h)];exact ey hQ))
def Ii (K:Frag)(a:Addr):It:=
 ⟨λi H=>∃ xs x,au K H a xs/\xs[i]?=some x,λi H x b=>b=H/\∀ xs,au K H a xs->xs[i]?=some x,λi H=>∃ xs,au K H a xs/\xs.length<=i⟩
def DH (K:Frag)(a:Addr):It:=
 ⟨λi H=>∃ xs x,aN K H a xs/\xs[i]?=some x,λi H x b=>b=H/\∀ xs,aN K H a xs->xs[i]?=some x,λi H=>∃ xs,aN K H a xs/\xs.length<=i⟩
def xW (lo:Int)(n:Nat):It:=⟨λi _=>i<n,λi H x a=>a=H/\x=.int (lo+i),λi _=>n<=i⟩
def BP {P:Program}{w:World}(a it:Addr):Turn P w K tg (Ii K a) [it] it (λi h=>h.IsListIter it a i) where
 mem:=by simp
 obj:=λi h f b hb=>by
  have e:b=it:=by simpa using hb
  subst e;obtain⟨o,e,c,d⟩:=f;exact⟨o,e,λv z=>by rw[d] at z;cases z⟩
 keep:=λi h l f k=>f.at λo e=>k it (by simp) o e
 item:=by
  intro X F hw D hc i g s σ H E I m f A;subst F hw D;obtain⟨M,x,hq,hx⟩:=A;obtain⟨B,r,p,hz⟩:=I.list hq;obtain⟨u,hu,O⟩:=r.get hx;obtain⟨y,t,L,n,q,C⟩:=m it (by simp)
  refine wpAny_pyNext_list_item f p.isList (x:=u) (by simpa using hu) λl j G=>?_
  have J:Inv X g σ H {s with heap:=l}:=I.turned (t':=s.toks) (λb o hb e=>(G.2 b hb).trans e) y t n q C;obtain⟨o,e,c,d⟩:=id j;exact⟨u,rfl,D8 (s:={s with heap:=l}) e c d ad ⟨x,H,J,O,⟨rfl,λR hy=>by rw[I.vf hy hq];exact hx⟩,j,λb hb=>(m b hb).1⟩⟩
 done:=by
  intro X F hw D hc i g s σ H E I m f A;subst F hw D;obtain⟨M,hq,hx⟩:=A;obtain⟨B,r,p,hz⟩:=I.list hq;obtain⟨y,t,L,n,q,C⟩:=m it (by simp)
  have Q:=r.length;exact wpAny_pyNext_list_end (I.ok.hd hc) f p.isList (by simp;omega) λl N=>⟨rfl,I.turned (t':=s.toks) (λb o hb e=>N b o hb e) y t n q C⟩
 self:=λ_ _ _ _ _ f h=>wpAny_pyIter_listiter f h
def xX {P:Program}{w:World}(a it:Addr):Turn P w K tg (DH K a) [it] it (λi h=>h.IsTupleIter it a i) where
 mem:=by simp
 obj:=λi h f b hb=>by
  have e:b=it:=by simpa using hb
  subst e;obtain⟨o,e,c,d⟩:=f;exact⟨o,e,λv z=>by rw[d] at z;cases z⟩
 keep:=λi h m f k=>f.at λo e=>k it (by simp) o e
 item:=by
  intro X F hw D hc i g s σ H E I n f B;subst F hw D;obtain⟨M,x,hq,hx⟩:=B;obtain⟨j,t,p,hz⟩:=I.tuple hq;obtain⟨u,hu,O⟩:=t.get hx;obtain⟨A,y,L,q,r,C⟩:=n it (by simp)
  refine wpAny_pyNext_tuple_item f (show s.heap.IsTuple a j.toArray from p) (x:=u) (by simpa using hu) λm l G=>?_
  have J:Inv X g σ H {s with heap:=m}:=I.turned (t':=s.toks) (λb o hb e=>(G.2 b hb).trans e) A y q r C;obtain⟨o,e,c,d⟩:=id l;exact⟨u,rfl,D8 (s:={s with heap:=m}) e c d ad ⟨x,H,J,O,⟨rfl,λR hy=>by rw[I.qP hy hq];exact hx⟩,l,λb hb=>(n b hb).1⟩⟩
 done:=by
  intro X F hw D hc i g s σ H E I n f B;subst F hw D;obtain⟨M,hq,hx⟩:=B;obtain⟨j,t,p,hz⟩:=I.tuple hq;obtain⟨A,y,L,q,r,C⟩:=n it (by simp)
  have Q:=t.length;exact wpAny_pyNext_tuple_end (I.ok.hd hc) f (show s.heap.IsTuple a j.toArray from p) (by simp;omega) λm N=>⟨rfl,I.turned (t':=s.toks) (λb o hb e=>N b o hb e) A y q r C⟩
 self:=λ_ _ _ _ _ f h=>wpAny_pyIter_tupleiter f h
def xY {P:Program}{w:World}(it:Addr)(lo:Int)(n:Nat):Turn P w K tg (xW lo n) [it] it (λi h=>IsRangeIter h it (lo+(i:Nat)*1) ((n:Int) - (i:Nat)) 1) where
 mem:=by simp
 obj:=λi h a b hb=>by
  have e:b=it:=by simpa using hb
  subst e;exact⟨_,a,λv z=>by
   have D:Data.fields _=Data.cell v:=z
   cases D⟩
 keep:=λi h f a k=>k it (by simp) _ a
 item:=by
  intro X x hw u hc i c s σ H E I g a q;subst x hw u;obtain⟨p,m,B,j,l,r⟩:=g it (by simp)
  have W:=Walks.range (prog:=X.prog) (w:=X.w) (I.ok.hd hc) it lo 1 n;refine W.item i s _ _ q a λv f y G d F=>?_;obtain⟨t,rfl⟩:=G;have A:Inv X c σ H {s with heap:=f,toks:=y}:=I.turned (λb o hb e=>F b o (by simpa using hb) e) p m j l r
  refine⟨_,rfl,D8 (s:={s with heap:=f,toks:=y}) (n:="range_iterator") d rfl rfl ad ⟨.int<|lo+i,H,A,⟨t,?_⟩,⟨rfl,rfl⟩,d,λb hb=>(g b hb).1⟩⟩
  rw[Int.mul_one]
 done:=by
  intro X x hw u hc i c s σ H E I g a q;subst x hw u;obtain⟨p,m,B,j,l,r⟩:=g it (by simp)
  exact wpAny_pyNext_range_end (I.ok.hd hc) a (by have:n<=i:=q;omega) λf C=>⟨rfl,I.turned (t':=s.toks) (λb o hb e=>C b o hb e) p m j l r⟩
 self:=λ_ _ _ _ _ a h=>wpAny_pyIter_rangeiter a h
def zW (K:Frag)(tl:TE):TI:=λσ H R=>tl σ H λx H1=>∃ a,x=.ref a/\(∃ xs,au K H1 a xs)/\R (Ii K a) H1
def II (K:Frag)(tl:TE):TI:=λσ H R=>tl σ H λx H1=>∃ a,x=.ref a/\(∃ xs,aN K H1 a xs)/\R (DH K a) H1
variable {l:Expr}{tl:TE}
def IJ (hl:PE X l tl):PI X tg l (zW X.K tl):=by
 intro c s σ H R I h;refine bU (hl c s σ H _ I h) λv f ⟨x,H1,d,i,j⟩=>?_;obtain⟨a,e,⟨m,hq⟩,q⟩:=j;subst e
 cases i
 obtain⟨g,n,p,hz⟩:=d.list hq;refine SZ p.isList ?_;refine⟨f.heap.objs.size,[f.heap.objs.size],_,_,H1,rfl,d.kept (t':=f.toks) λb o e=>c8 _ e,BP a _,⟨_,hO _ rfl,rfl,rfl⟩,λb hb=>?_,q⟩;have e:b=f.heap.objs.size:=by simpa using hb
 subst e;exact d.xV (ea _)<|d.aY.fresh<|ea _
def Nl (hl:PE X l tl):PI X tg l (II X.K tl):=by
 intro c s σ H R I h;refine bU (hl c s σ H _ I h) λv d ⟨x,H1,f,i,j⟩=>?_;obtain⟨a,e,⟨m,hq⟩,q⟩:=j;subst e
 cases i
 obtain⟨g,n,p,hz⟩:=f.tuple hq;refine U4 (show d.heap.IsTuple a g.toArray from p) ?_
 refine⟨d.heap.objs.size,[d.heap.objs.size],_,_,H1,rfl,f.kept (t':=d.toks) λb o e=>c8 _ e,xX a _,⟨_,hO _ rfl,rfl,rfl⟩,λb hb=>?_,q⟩;have e:b=d.heap.objs.size:=by simpa using hb
 subst e;exact f.xV (ea _)<|f.aY.fresh<|ea _
variable {lo:Int}
def vg {σ:St}{R:It->Hp->Prop}{hi:Int}{t u v:Tok}{tk:Nat}(I:Inv X pins σ H s)(h1:-(2 ^ 62)<=lo)(h2:lo<2 ^ 62)(h3:-(2 ^ 62)<=hi)(h4:hi<2 ^ 62)
  (q:R (xW lo (hi - lo).toNat) H):wpAny (model X.prog X.w) X.A (pyIter<|.ref s.heap.objs.size) (Tb X pins σ tg R) E {s with heap:=s.heap.push {cls:=.type "range",data:=.fields #[.int lo t,.int hi u,.int 1 v]},toks:=tk}:=by
 refine wpAny_pyIter_range (IsRange.new ..) (small_one h1 h2 h3 h4) ?_;have a:Inv X pins σ H {s with heap:=s.heap.push {cls:=.type "range",data:=.fields #[.int lo t,.int hi u,.int 1 v]},toks:=tk}:=I.kept λb o e=>c8 _ e;refine⟨(s.heap.push {cls:=.type "range",data:=.fields #[.int lo t,.int hi u,.int 1 v]}).objs.size,[(s.heap.push {cls:=.type "range",data:=.fields #[.int lo t,.int hi u,.int 1 v]}).objs.size],_,_,H,rfl,
  a.kept (t':=tk) λb o e=>c8 _ e,xY _ lo (hi - lo).toNat,?_,λb hb=>?_,q⟩
 ·have d:lo+ ((0:Nat):Int)*1=lo:=by simp
  have c:(((hi - lo).toNat:Nat):Int) - ((0:Nat):Int)=Builtin.Range.rangeSize lo hi 1:=by rw[rangeSize_one];split<;>omega
  show IsRangeIter _ _ (lo+ ((0:Nat):Int)*1) ((((hi - lo).toNat:Nat):Int) - ((0:Nat):Int)) 1;rw[d,c];exact hO _ rfl
 ·have e:b=(s.heap.push {cls:=.type "range",data:=.fields #[.int lo t,.int hi u,.int 1 v]}).objs.size:=by simpa using hb
  subst e;exact a.xV (ea _)<|a.aY.fresh<|ea _
def zX (ta:TA):TI:=λσ H R=>ta σ H λa H1=>∃ j:Int,a=[.int j]/\-(2 ^ 62)<=j/\j<2 ^ 62/\R (xW 0 j.toNat) H1
def zZ (ta:TA):TI:=λσ H R=>ta σ H λa H1=>∃ i j:Int,a=[.int i,.int j]/\(-(2 ^ 62)<=i/\i<2 ^ 62/\-(2 ^ 62)<=j/\j<2 ^ 62)/\R (xW i (j - i).toNat) H1
variable {a:Expr}{ta:TA}{p:Pos}
def BQ {pos:Pos}(hg:Gl X "range")(hm:X.mg "range"=none)(ha:PA X [a] ta)(hs:starEach [a] X.env=[(false,eval a X.env)]:=by rfl):PI X tg (.Call (.Name "range" p) [a] [] pos) (zX ta):=by
 intro b s σ H R I h;refine Call_<|jB I hg hm boot_range<|I0 (bU (ha pos b s σ H _ I h) λl n ⟨m,H1,f,g,c⟩=>?_) hs rfl;obtain⟨j,e,c,i,q⟩:=c;subst e
 cases g with
 | cons r d=>
  cases d
  obtain⟨t,rfl⟩:=r;exact call_range_1 (vg f (by omega) (by omega) c i (by simpa using q))
def BR {pos:Pos}(hg:Gl X "range")(hm:X.mg "range"=none)(ha:PA X [a,b] ta)(hs:starEach [a,b] X.env=[(false,eval a X.env),(false,eval b X.env)]:=by rfl)(hs2:starEach [b] X.env=[(false,eval b X.env)]:=by rfl) :
  PI X tg (.Call (.Name "range" p) [a,b] [] pos) (zZ ta):=by
 intro c s σ H R I h;refine Call_ (jB I hg hm boot_range (I0 (bU (ha pos c s σ H _ I h) λv x ⟨w,H1,l,m,f⟩=>?_) (by rw[hs,hs2]) (by rw[hs2];rfl)))
 obtain⟨i,j,e,⟨f,n,g,o⟩,q⟩:=f;subst e
 cases m with
 | cons r d=>
  cases d with
  | cons u d=>
   cases d
   obtain⟨t,rfl⟩:=r;obtain⟨y,rfl⟩:=u;exact call_range_2<|vg l f n g o q
def IK (wi:TI)(g:TG)(tb:TS):TS:=λD σ H=>wi σ H λJ H1=>∃ W:Nat->Nat->St->Hp->Prop,(∃ m,W 0 m σ H1)/\∀ i m σ H,W i m σ H->
 (J.stop i H/\D.nx σ H)∨(J.go i H/\∃ N:St->Hp->Prop,(∀ σ' H',N σ' H'->∃ m',m' < m/\W (i+1) m' σ' H')/\∀ x H',J.BJ i H x H'->g x σ H' λb a=>tb {D with nx:=N,ct:=N,bk:=D.nx} b a)
def nL (fp:List Addr)(h:Heap):aO0:=fp.filterMap λb=>(h.get? b).map λo=>(b,o)
variable {fp:List Addr}
def gM {h:Heap}{b:Addr}{o:Obj}(hb:b∈fp)(e:h.get? b=some o):(b,o)∈nL fp h:=List.mem_filterMap.mpr ⟨b,hb,by rw[e];rfl⟩
def BS {h:Heap}{p:Addr × Obj}(hp:p∈nL fp h):p.1∈fp/\h.get? p.1=some p.2:=by
 obtain⟨b,hb,e⟩:=List.mem_filterMap.mp hp
 cases q:h.get? b with
 | none=>rw[q] at e;cases e
 | some o=>
  rw[q] at e;have a:(b,o)=p:=tx e;subst a;exact⟨hb,q⟩
def Inv.pinned {σ:St}(I:Inv X pins σ H s)(hf:∀ b∈fp,j2 X pins H b)(ho:∀ b∈fp,∃ o,s.heap.get? b=some o/\∀ v,o.data≠.cell v):Inv X (pins++nL fp s.heap) σ H s:=
 I.zT λp c=>(eG.mp c).elim (λz=>I.pin p<|ro _ z) λz=>by
  obtain⟨hb,e⟩:=BS z;obtain⟨g,h,f,_⟩:=hf p.1 hb;obtain⟨o,a,d⟩:=ho p.1 hb;rw[e] at a;cases a
  exact⟨e,g,h,f,d⟩
def Inv.j3 {pl:aO0}{σ:St}(I:Inv X (pins++pl) σ H s):Inv X pins σ H s:=I.zT λp a=>I.pin p<|ro _<|C1 _ a
variable {iter:Expr}
def D9 {wi:TI}{pos:Pos}(hp:PassesOwn (model X.prog X.w) X.A X.env X.xe)(hc:X.calm=true)(hi:PI X tg iter wi)(hg:PG X tg g)(hb:xQ X body tb)
  (hs:(∀ x,foldedSetIterable iter X.env x=pure x):=by intro _;rfl):PS X (.For tg iter body [] pos) (IK wi g tb):=by
 intro a s σ H D I h;refine wpAny_For (bU (hi a s σ H _ I h) λv s1 h1=>bU h1 λitv s2 h2=>?_) hs;obtain⟨it,B,S,J,H2,e,I2,T,M,Z,W,⟨m0,w0⟩,E⟩:=h2;subst e;have l:∀ {H':Hp},(∀ b∈B,H' b=none)->∀ b∈B,j2 X a H' b:=λhn b hb=>⟨hn b hb,(Z b hb).2⟩;refine codeAny_forLoop_any (λn s'=>∃ i σ' H',Inv X a σ' H' s'/\S i s'.heap/\(∀ b∈B,H' b=none)/\W i n σ' H') ?_ m0 ⟨0,σ,H2,I2,M,λb hb=>(Z b hb).1,w0⟩;rintro n s3 ⟨i,F,L,U,K,z,w3⟩
 rcases E i n F L w3 with ⟨G,qn⟩ | ⟨go,N,hN,step⟩
 ·refine Vc hp<|bU (T.done X rfl rfl rfl hc i a s3 F L X.xe U (l z) K G) λr s4 ⟨R,I4⟩=>?_;subst R;exact wpAny_execs_nil ⟨F,L,I4,qn⟩
 ·refine Vc hp<|bU (T.item X rfl rfl rfl hc i a s3 F L X.xe U (l z) K go) λr s4 ⟨u,R,h4⟩=>?_;subst R;refine Vc hp<|bU h4 λ_ Y ⟨x,H5,I5,r5,y5,y,P⟩=>?_;have O:=I5.pinned (l P)<|T.obj _ _ y;refine Vc hp<|bU (hg _ Y F H5 x u _ O r5<|step x H5 y5) λ_ s6 ⟨σ6,H6,I6,q6⟩=>?_;refine Vc hp<|bU (hb _ s6 σ6 H6 _ I6 q6) λf Q t=>?_;have q:∀ {c:St} {p:Hp},Inv X (a++nL B Y.heap) c p Q->N c p->∃ m,m<n/\∃ i σ' H',Inv X a σ' H' Q/\S i Q.heap/\(∀ b∈B,H' b=none)/\W i m σ' H':=λ{c p} j C=>by
   obtain⟨m',hm,w7⟩:=hN c p C;refine⟨m',hm,i+1,c,p,j.j3,T.keep _ _ _ y λb hb o e=>(j.pin (b,o)<|ro _<|ro _<|gM hb e).1,λb hb=>?_,w7⟩;obtain⟨o,e,d⟩:=T.obj _ _ y b hb;exact(j.pin (b,o)<|ro _<|ro _<|gM hb e).2.1
  cases f with
  | next=>obtain⟨c,p,j,C⟩:=t;exact q j C
  | cont=>obtain⟨c,p,j,C⟩:=t;exact q j C
  | brk=>obtain⟨c,p,j,t⟩:=t;exact⟨c,p,j.j3,t⟩
  | ret v=>obtain⟨x7,c,p,j,r7,t⟩:=t;exact⟨x7,c,p,j.j3,r7,t⟩
variable {a:Addr}{D:Ends}
def vh {σ:St}(Pv:Nat->St->Hp->Prop)(h0:Pv 0 σ H)(hl:∀ i σ H,i<=xs.length->Pv i σ H->au K H a xs)
  (hs:∀ i x σ H,xs[i]?=some x->Pv i σ H->g x σ H λσ2 H2=>tb {D with nx:=Pv<|i+1,ct:=Pv<|i+1,bk:=D.nx} σ2 H2) (hd:∀ σ H,Pv xs.length σ H->D.nx σ H) :
  ∃ W:Nat->Nat->St->Hp->Prop,(∃ m,W 0 m σ H)/\∀ i m σ H,W i m σ H->
   ((Ii K a).stop i H/\D.nx σ H)∨((Ii K a).go i H/\∃ N:St->Hp->Prop,(∀ σ' H',N σ' H'->∃ m',m' < m/\W (i+1) m' σ' H')/\∀ x H',(Ii K a).BJ i H x H'->g x σ H' λσ2 H2=>tb {D with nx:=N,ct:=N,bk:=D.nx} σ2 H2):=by
 refine⟨λi m σ H=>m=xs.length - i/\i<=xs.length/\Pv i σ H,⟨xs.length,by simp,zero_le _,h0⟩,?_⟩
 rintro i m σ H ⟨rfl,d,p⟩;have q:=hl i σ H d p
 by_cases b:i<xs.length
 ·refine .inr ⟨⟨xs,xs[i],q,by simp[b]⟩,Pv<|i+1,λσ' H' c=>⟨xs.length - (i+1),by omega,rfl,b,c⟩,λx H' y=>?_⟩
  obtain⟨e,y⟩:=y;subst e;exact hs i x σ _ (y xs q) p
 ·have e:i=xs.length:=by omega
  subst e;exact .inl ⟨⟨xs,q,ea _⟩,hd σ H p⟩
def Aa {σ:St}(Pv:Nat->St->Hp->Prop)(h0:Pv 0 σ H)(hl:∀ i σ H,i<=xs.length->Pv i σ H->aN K H a xs)
  (hs:∀ i x σ H,xs[i]?=some x->Pv i σ H->g x σ H λσ2 H2=>tb {D with nx:=Pv<|i+1,ct:=Pv<|i+1,bk:=D.nx} σ2 H2) (hd:∀ σ H,Pv xs.length σ H->D.nx σ H) :
  ∃ W:Nat->Nat->St->Hp->Prop,(∃ m,W 0 m σ H)/\∀ i m σ H,W i m σ H->
   ((DH K a).stop i H/\D.nx σ H)∨((DH K a).go i H/\∃ N:St->Hp->Prop,(∀ σ' H',N σ' H'->∃ m',m' < m/\W (i+1) m' σ' H')/\∀ x H',(DH K a).BJ i H x H'->g x σ H' λσ2 H2=>tb {D with nx:=N,ct:=N,bk:=D.nx} σ2 H2):=by
 refine⟨λi m σ H=>m=xs.length - i/\i<=xs.length/\Pv i σ H,⟨xs.length,by simp,zero_le _,h0⟩,?_⟩
 rintro i m σ H ⟨rfl,d,p⟩;have q:=hl i σ H d p
 by_cases b:i<xs.length
 ·refine .inr ⟨⟨xs,xs[i],q,by simp[b]⟩,Pv<|i+1,λσ' H' c=>⟨xs.length - (i+1),by omega,rfl,b,c⟩,λx H' y=>?_⟩
  obtain⟨e,y⟩:=y;subst e;exact hs i x σ _ (y xs q) p
 ·have e:i=xs.length:=by omega
  subst e;exact .inl ⟨⟨xs,q,ea _⟩,hd σ H p⟩
variable {n:Nat}
def qQ {σ:St}(Pv:Nat->St->Hp->Prop)(h0:Pv 0 σ H)
  (hs:∀ i σ H,i<n->Pv i σ H->g (.int<|lo+i) σ H λσ2 H2=>tb {D with nx:=Pv<|i+1,ct:=Pv<|i+1,bk:=D.nx} σ2 H2) (hd:∀ σ H,Pv n σ H->D.nx σ H) :
  ∃ W:Nat->Nat->St->Hp->Prop,(∃ m,W 0 m σ H)/\∀ i m σ H,W i m σ H->
   ((xW lo n).stop i H/\D.nx σ H)∨((xW lo n).go i H/\∃ N:St->Hp->Prop,(∀ σ' H',N σ' H'->∃ m',m' < m/\W (i+1) m' σ' H')/\∀ x H',(xW lo n).BJ i H x H'->g x σ H' λσ2 H2=>tb {D with nx:=N,ct:=N,bk:=D.nx} σ2 H2):=by
 refine⟨λi m σ H=>m=n - i/\i<=n/\Pv i σ H,⟨n,by simp,zero_le _,h0⟩,?_⟩
 rintro i m σ H ⟨rfl,c,p⟩
 by_cases a:i<n
 ·refine .inr ⟨a,Pv<|i+1,λσ' H' b=>⟨n - (i+1),by omega,rfl,a,b⟩,λx H' y=>?_⟩
  obtain⟨e,y⟩:=y;subst e y;exact hs i σ _ a p
 ·have e:i=n:=by omega
  subst e;exact .inl ⟨ea _,hd σ H p⟩
abbrev R2:=V->V->Hp->VK->Prop
def dY (X:Cx)(f:Value->Value->Sem Value)(r:R2):Prop:=
 ∀ (pins:aO0) (s:Shared) (σ:St) (H:Hp) (x y:V) (v u:Value) (Q:VK),Inv X pins σ H s->RelV x v->RelV y u->r x y H Q->
  wpAny (model X.prog X.w) X.A (f v u) (EP X pins σ Q) X.xe s
def SN (X:Cx)(f:Value->Sem Value)(r:V->Hp->VK->Prop):Prop:=
 ∀ (pins:aO0) (s:Shared) (σ:St) (H:Hp) (x:V) (v:Value) (Q:VK),Inv X pins σ H s->RelV x v->r x H Q->
  wpAny (model X.prog X.w) X.A (f v) (EP X pins σ Q) X.xe s
def bO (X:Cx)(f:Value)(r:List V->Hp->VK->Prop):Prop:=
 ∀ (pins:aO0) (s:Shared) (σ:St) (H:Hp) (xs:List V) (us:List Value) (Q:VK),Inv X pins σ H s->Vals xs us->r xs H Q->
  wpAny (model X.prog X.w) X.A (call f us) (EP X pins σ Q) X.xe s
def sM (r:R2)(ta tb:TE):TE:=λσ H Q=>ta σ H λx H1=>tb σ H1 λy a=>r x y a Q
def Tc (r:V->Hp->VK->Prop)(ta:TE):TE:=λσ H Q=>ta σ H λx H1=>r x H1 Q
def rI (C:Int->Int->Prop)(g:Int->Int->V):R2:=λx y H Q=>∃ i j,x=.int i/\y=.int j/\C i j/\Q (g i j) H
def DI (g:Int->Int->V):R2:=λx y H Q=>∃ i j,x=.int i/\y=.int j/\Q (g i j) H
def rU (g:Int->V):V->Hp->VK->Prop:=λx H Q=>∃ i,x=.int i/\Q (g i) H
variable {a:Expr}{ta tb:TE}{f:Value->Value->Sem Value}
def Nm (ha:PE X a ta)(hb:PE X b tb){σ:St}{R:V->V->Hp->Prop}(I:Inv X pins σ H s)
  (h:ta σ H λx H1=>tb σ H1 λy H2=>R x y H2) 
  (hf:∀ v u s2 x y H2,Inv X pins σ H2 s2->RelV x v->RelV y u->R x y H2->wpAny (model X.prog X.w) X.A (f v u) Q X.xe s2) :
  wpAny (model X.prog X.w) X.A (eval a X.env) (λv s₁=>wpAny (model X.prog X.w) X.A (eval b X.env) (λu s₂=>wpAny (model X.prog X.w) X.A (f v u) Q X.xe s₂) X.xe s₁) X.xe s:=by
 refine bU (ha pins s σ H _ I h) λv j ⟨x,H1,e,g,l⟩=>?_;refine bU (hb pins j σ H1 _ e l) λu s2 ⟨y,H2,i,d,c⟩=>?_;exact hf v u s2 x y H2 i g d c
def vi {op:Operator}{r:R2}(ho:dY X (binaryOp op) r)(ha:PE X a ta)(hb:PE X b tb):PE X (.BinOp a op b pos) (sM r ta tb):=by
 intro c s σ H Q I h;exact wpAny_BinOp<|Nm ha hb I h λv u f x y i g e d q=>ho c f σ i x y v u Q g e d q
def PQ {op:UnaryOp}{r:V->Hp->VK->Prop}(ho:SN X (unaryOp op) r)(ha:PE X a ta):PE X (.UnaryOp op a pos) (Tc r ta):=by
 intro b s σ H Q I h;exact UnaryOp_<|bU (ha b s σ H _ I h) λv e ⟨x,H1,c,d,f⟩=>ho b e σ H1 x v Q c d f
variable {g:Int->Int->Int}
def Nn {C:Int->Int->Prop} 
  (rule:∀ (i j:Int) (t u:Tok) (s:Shared) (Q:Value->Shared->Prop) (E:Value->Shared->Prop),C i j->Q (.int (g i j) s.toks) {s with toks:=s.toks+1}->wpAny (model X.prog X.w) X.A (f (.int i t)<|.int j u) Q E s) :
  dY X f (rI C λi j=>.int<|g i j):=by
 intro a s σ H x y v u Q I c b h;obtain⟨i,j,rfl,rfl,hc,q⟩:=h;obtain⟨t,rfl⟩:=c;obtain⟨d,rfl⟩:=b;exact rule i j t d s _ _ hc ⟨.int<|g i j,H,I.tok _,⟨_,rfl⟩,q⟩
def IL 
  (rule:∀ (i j:Int) (t u:Tok) (s:Shared) (Q:Value->Shared->Prop) (E:Value->Shared->Prop),Q (.int (g i j) s.toks) {s with toks:=s.toks+1}->wpAny (model X.prog X.w) X.A (f (.int i t)<|.int j u) Q E s) :
  dY X f (DI λi j=>.int<|g i j):=by
 intro a s σ H x y v u Q I c b h;obtain⟨i,j,rfl,rfl,q⟩:=h;obtain⟨t,rfl⟩:=c;obtain⟨d,rfl⟩:=b;exact rule i j t d s _ _ ⟨.int<|g i j,H,I.tok _,⟨_,rfl⟩,q⟩
def IM {g:Int->Int->Bool}
  (rule:∀ (i j:Int) (t u:Tok) (s:Shared) (Q:Value->Shared->Prop) (E:Value->Shared->Prop),Q (.bool<|g i j) s->wpAny (model X.prog X.w) X.A (f (.int i t)<|.int j u) Q E s) :
  dY X f (DI λi j=>.bl<|g i j):=by
 intro a s σ H x y v u Q I c b h;obtain⟨i,j,rfl,rfl,q⟩:=h;obtain⟨t,rfl⟩:=c;obtain⟨d,rfl⟩:=b;exact rule i j t d s _ _ ⟨.bl<|g i j,H,I,rfl,q⟩
def Np (i j:Int):Prop:=0<j/\j<1073741824
def sN (i j:Int):Prop:=0<=j/\j<=1000000/\i.natAbs<2 ^ 64
def xZ (k:Nat):(0:Int)<=2 ^ k:=by
 rw[two_pow_cast];exact Int.natCast_nonneg _
def aJ:dY X (binaryOp .Add) (DI λi j=>.int<|i+j):=IL λ_ _ _ _ _ _ _ q=>add_int q
def cG:dY X (binaryOp .Sub) (DI λi j=>.int<|i - j):=IL λ_ _ _ _ _ _ _ q=>sub_int q
def IP:dY X (binaryOp .FloorDiv) (rI Np λi j=>.int<|i / j):=Nn λi j _ _ _ _ _ hc q=>by
 have h1:(0:Int)<j:=hc.1;have a:j<1073741824:=hc.2;exact floordiv_int (by omega) (by rw[Int.fdiv_eq_ediv_of_nonneg i (by omega)];exact q) (.inl (PyProof.noPylong_small (by omega)))
def bR:dY X (binaryOp .Mod) (rI (λ_ j=>0<j) λi j=>.int<|i % j):=Nn λi j _ _ _ _ _ hc q=>by
 have h1:(0:Int)<j:=hc;exact mod_int' (by omega) (by rw[Int.fmod_eq_emod_of_nonneg i (by omega)];exact q)
def k8:dY X (binaryOp .Pow) (rI sN λi j=>.int<|i ^ j.toNat):=Nn λ_ _ _ _ _ _ _ hc q=>pow_int_small hc.1 hc.2.1 hc.2.2 q
def c9:dY X (binaryOp .LShift) (rI sN λi j=>.int<|i*2 ^ j.toNat):=Nn λ_ _ _ _ _ _ _ hc q=>lshift_int_small hc.1 hc.2.1 hc.2.2 q
def x9:dY X (binaryOp .RShift) (rI (λ_ j=>0<=j) λi j=>.int<|i / 2 ^ j.toNat):=Nn λi j _ _ _ _ _ hc q=>
 rshift_int hc (by rw[Int.fdiv_eq_ediv_of_nonneg i (xZ _)];exact q)
def dN:dY X (binaryOp .BitAnd) (DI λi j=>.int<|Builtin.bitAnd i j):=IL λ_ _ _ _ _ _ _ q=>and_int q
def Ab:dY X (binaryOp .BitOr) (DI λi j=>.int<|Builtin.bitOr i j):=IL λ_ _ _ _ _ _ _ q=>or_int q
def UB {f:Value->Sem Value}{g:Int->Int}
  (rule:∀ (i:Int) (t:Tok) (s:Shared) (Q:Value->Shared->Prop) (E:Value->Shared->Prop),Q (.int (g i) s.toks) {s with toks:=s.toks+1}->wpAny (model X.prog X.w) X.A (f<|.int i t) Q E s) :
  SN X f (rU λi=>.int<|g i):=by
 intro a s σ H x v Q I b h;obtain⟨i,rfl,q⟩:=h;obtain⟨t,rfl⟩:=b;exact rule i t s _ _ ⟨.int<|g i,H,I.tok _,⟨_,rfl⟩,q⟩
def jC:SN X (unaryOp .USub) (rU λi=>.int (-i)):=UB λ_ _ _ _ _ q=>neg_int q
def BU:V->V->Bool
 | .bx,.bx=>true | .bx,.int _=>true | .int _,.bx=>true | .bx,.bl _=>true | .bl _,.bx=>true | .bx,.str _=>true | .str _,.bx=>true
 | .int _,.int _=>true | .bl _,.bl _=>true | .str _,.str _=>true | .Dw _,.Dw _=>true
 | .int _,.str _=>true | .str _,.int _=>true | .bl _,.str _=>true | .str _,.bl _=>true
 | _,_=>false
def PR:R2:=λx y H Q=>BU x y=true/\Q (.bl<|decide<|x=y) H
def PU:R2:=λx y H Q=>BU x y=true/\Q (.bl<|!decide (x=y)) H
def Ac {i j:Int}:decide (V.int i=V.int j)=(i == j):=by
 rw[L0]
 simp
def Ea {i j:Bool}:decide (V.bl i=V.bl j)=(i == j):=by
 rw[L0]
 simp
def Ad {i j:Str}:decide (V.str i=V.str j)=(i == j):=by
 rw[L0]
 simp
def Ae {i j:Array UInt8}:decide (V.Dw i=V.Dw j)=(i.toList == j.toList):=by
 rw[L0]
 cases i
 cases j
 simp
def bu {σ:St}{Q:VK}{k k':Bool}(I:Inv X pins σ H s)(q:Q (.bl k) H)(e:k=k'):EP X pins σ Q (.bool k') s:=by
 subst e;exact⟨.bl k,H,I,rfl,q⟩
def aM:dY X (compareOp .Eq) PR:=by
 intro e s σ H x y v u Q I d a h;obtain⟨c,q⟩:=h
 cases x with
 | bx=>
  cases d
  cases y with
  | bx=>cases a;exact PySem.EqNone.eq_none_none (bu I q (by simp))
  | bl j=>cases a;exact PySem.EqNone.eq_none_bool (bu I q (by simp))
  | int j=>obtain⟨b,rfl⟩:=a;exact PySem.EqNone.eq_none_int (bu I q (by simp))
  | str j=>obtain⟨b,rfl⟩:=a;exact PySem.EqNone.eq_none_str (bu I q (by simp))
  | _=>exact absurd (show false=true from c) hI
 | bl i=>
  cases d
  cases y with
  | bx=>cases a;exact PySem.EqNone.eq_bool_none (bu I q (by simp))
  | bl j=>cases a;exact eq_bool<|bu I q Ea
  | str j=>obtain⟨b,rfl⟩:=a;exact PySem.EqMixed.eq_bool_str (bu I q (by simp))
  | _=>exact absurd (show false=true from c) hI
 | int i=>
  obtain⟨t,rfl⟩:=d
  cases y with
  | bx=>cases a;exact PySem.EqNone.eq_int_none (bu I q (by simp))
  | int j=>obtain⟨b,rfl⟩:=a;exact eq_int<|bu I q Ac
  | str j=>obtain⟨b,rfl⟩:=a;exact PySem.EqMixed.eq_int_str (bu I q (by simp))
  | _=>exact absurd (show false=true from c) hI
 | str i=>
  obtain⟨t,rfl⟩:=d
  cases y with
  | bx=>cases a;exact PySem.EqNone.eq_str_none (bu I q (by simp))
  | bl j=>cases a;exact PySem.EqMixed.eq_str_bool (bu I q (by simp))
  | int j=>obtain⟨b,rfl⟩:=a;exact PySem.EqMixed.eq_str_int (bu I q (by simp))
  | str j=>obtain⟨b,rfl⟩:=a;exact eq_str<|bu I q Ad
  | _=>exact absurd (show false=true from c) hI
 | Dw i=>
  obtain⟨t,rfl⟩:=d
  cases y with
  | Dw j=>obtain⟨b,rfl⟩:=a;exact PySem.W.eq_bytes<|bu I q Ae
  | _=>exact absurd (show false=true from c) hI
 | _=>cases y<;>exact absurd (show false=true from c) hI
def nM:dY X (compareOp .NotEq) PU:=by
 intro e s σ H x y v u Q I d a h;obtain⟨c,q⟩:=h
 cases x with
 | bx=>
  cases d
  cases y with
  | bx=>cases a;exact PySem.EqNone.ne_none_none (bu I q (by simp))
  | bl j=>cases a;exact PySem.EqNone.ne_none_bool (bu I q (by simp))
  | int j=>obtain⟨b,rfl⟩:=a;exact PySem.EqNone.ne_none_int (bu I q (by simp))
  | str j=>obtain⟨b,rfl⟩:=a;exact PySem.EqNone.ne_none_str (bu I q (by simp))
  | _=>exact absurd (show false=true from c) hI
 | bl i=>
  cases d
  cases y with
  | bx=>cases a;exact PySem.EqNone.ne_bool_none (bu I q (by simp))
  | bl j=>cases a;exact ne_bool<|bu I q<|Re not Ea
  | str j=>obtain⟨b,rfl⟩:=a;exact PySem.EqMixed.ne_bool_str (bu I q (by simp))
  | _=>exact absurd (show false=true from c) hI
 | int i=>
  obtain⟨t,rfl⟩:=d
  cases y with
  | bx=>cases a;exact PySem.EqNone.ne_int_none (bu I q (by simp))
  | int j=>obtain⟨b,rfl⟩:=a;exact ne_int<|bu I q<|Re not Ac
  | str j=>obtain⟨b,rfl⟩:=a;exact PySem.EqMixed.ne_int_str (bu I q (by simp))
  | _=>exact absurd (show false=true from c) hI
 | str i=>
  obtain⟨t,rfl⟩:=d
  cases y with
  | bx=>cases a;exact PySem.EqNone.ne_str_none (bu I q (by simp))
  | bl j=>cases a;exact PySem.EqMixed.ne_str_bool (bu I q (by simp))
  | int j=>obtain⟨b,rfl⟩:=a;exact PySem.EqMixed.ne_str_int (bu I q (by simp))
  | str j=>obtain⟨b,rfl⟩:=a;exact ne_str<|bu I q<|Re not Ad
  | _=>exact absurd (show false=true from c) hI
 | Dw i=>
  obtain⟨t,rfl⟩:=d
  cases y with
  | Dw j=>obtain⟨b,rfl⟩:=a;exact PySem.W.ne_bytes<|bu I q<|Re not Ae
  | _=>exact absurd (show false=true from c) hI
 | _=>cases y<;>exact absurd (show false=true from c) hI
def ie:dY X (compareOp .Lt) (DI λi j=>.bl<|decide<|i<j):=IM λ_ _ _ _ _ _ _ q=>lt_int q
def nN:dY X (compareOp .LtE) (DI λi j=>.bl<|decide<|i<=j):=IM λ_ _ _ _ _ _ _ q=>le_int q
def Af:dY X (compareOp .Gt) (DI λi j=>.bl<|decide<|j<i):=IM λ_ _ _ _ _ _ _ q=>gt_int q
def Lr:dY X (compareOp .GtE) (DI λi j=>.bl<|decide<|j<=i):=IM λ_ _ _ _ _ _ _ q=>ge_int q
def qR:dY X (compareOp .In) (λx y H Q=>∃ i j,x=.str i/\y=.str j/\Q (.bl<|!(Builtin.Str.occurrences j i 0 j.length 1).isEmpty) H):=by
 intro a s σ H x y v u Q I c b h;obtain⟨i,j,rfl,rfl,q⟩:=h;obtain⟨t,rfl⟩:=c;obtain⟨d,rfl⟩:=b;exact in_str<|bu I q rfl
def Nq:dY X (compareOp .Is) (λx y H Q=>y=.bx/\Q (.bl<|decide<|x=.bx) H):=by
 intro b s σ H x y v u Q I a c h;obtain⟨rfl,q⟩:=h
 cases c
 refine is_none_gen<|bu I q ?_
 cases x<;>first
  | (cases a;rfl)
  | (obtain⟨t,rfl⟩:=a;rfl)
def IQ:dY X (compareOp .IsNot) (λx y H Q=>y=.bx/\Q (.bl<|!decide (x=.bx)) H):=by
 intro b s σ H x y v u Q I a c h;obtain⟨rfl,q⟩:=h
 cases c
 refine isnot_none_gen<|bu I q ?_
 cases x<;>first
  | (cases a;rfl)
  | (obtain⟨t,rfl⟩:=a;rfl)
def ao (b:Expr)(h:op≠.In:=by decide)(h2:op≠.NotIn:=by decide):behindInMarks op b=false:=by
 have c:(op == CmpOp.In)=false:=by cases op<;>first | rfl | exact absurd rfl h
 have a:(op == CmpOp.NotIn)=false:=by cases op<;>first | rfl | exact absurd rfl h2
 cases b<;>simp[behindInMarks,c,a]
variable {r:R2}
def IS (ho:dY X (compareOp op) r)(ha:PE X a ta)(hb:PE X b tb)(hm:behindInMarks op b=false):PE X (.Compare a [op] [b] pos) (sM r ta tb):=by
 intro c s σ H Q I h;exact wpAny_Compare1 (Nm ha hb I h λv u f x y i g e d q=>ho c f σ i x y v u Q g e d q) hm
def vj (t:TE):TT:=λσ H Q=>t σ H λx a=>∃ k,x=.bl k/\Q k a
def IU (ho:dY X (compareOp op) r)(ha:PE X a ta)(hb:PE X b tb)(hm:behindInMarks op b=false):PT X (.Compare a [op] [b] pos) (vj<|sM r ta tb):=by
 intro d s σ H Q I h;refine wpAny_isTrue_Compare1 (bU (ha d s σ H _ I h) λv t ⟨x,H1,l,m,n⟩=>bU (hb d t σ H1 _ l n) λu q ⟨y,A,w,i,o⟩=>
  bU (ho d q σ A x y v u _ w m i o) λc B ⟨z,f,j,p,k,e,g⟩=>?_) hm
 subst e
 cases p
 exact D1 ⟨f,j,g⟩
def nO (r r':R2)(ta tb tc:TE):TE:=λσ H Q=>ta σ H λx H1=>tb σ H1 λy d=>r x y d λz a=>∃ k,z=.bl k/\
 (if k=true then tc σ a λc b=>r' y c b Q else Q (.bl false) a)
variable {tc:TE}{op':CmpOp}{r':R2}
def Eb (ho:dY X (compareOp op) r)(ho':dY X (compareOp op') r')(ha:PE X a ta)(hb:PE X b tb)(hc:PE X c tc)
  (hm:lastMarks [op,op'] [b,c]=false:=by with_unfolding_all rfl):PE X (.Compare a [op,op'] [b,c] pos) (nO r r' ta tb tc):=by
 intro f s σ H Q I h;refine Compare_chain (bU (ha f s σ H _ I h) λv B ⟨x,H1,m,E,n⟩=>chain_link (bU (hb f B σ H1 _ m n) λu w ⟨y,L,K,g,p⟩=>
  bU (ho f w σ L x y v u _ K E g p) λd A ⟨z,i,l,t,k,e,j⟩=>?_)) hm
 subst e
 cases t
 refine D1 ?_
 cases k with
 | false=>exact ite_ff ⟨.bl false,i,l,rfl,j⟩
 | true=>exact ite_tt<|chain_last<|bU (hc f A σ i _ l j) λJ G ⟨D,q,C,o,F⟩=>ho' f G σ q y D u J Q C g o F
def Ec (ho:dY X (compareOp op) r)(ho':dY X (compareOp op') r')(ha:PE X a ta)(hb:PE X b tb)(hc:PE X c tc)
  (hm:lastMarks [op,op'] [b,c]=false:=by with_unfolding_all rfl):PT X (.Compare a [op,op'] [b,c] pos) (vj<|nO r r' ta tb tc):=by
 intro f s σ H Q I h;refine isTrue_chain (bU (ha f s σ H _ I h) λv E ⟨x,H1,n,K,p⟩=>test_link (bU (hb f E σ H1 _ n p) λu B ⟨y,T,S,g,t⟩=>
  bU (ho f B σ T x y v u _ S K g t) λd C ⟨z,i,l,A,k,e,j⟩=>?_)) hm
 subst e
 cases A
 refine D1 ?_
 cases k with
 | false=>
  obtain⟨Y,L,D⟩:=j
  cases L
  exact ite_ff ⟨i,l,D⟩
 | true=>
  refine ite_tt<|test_last<|bU (hc f C σ i _ l j) λP O ⟨G,w,F,q,N⟩=>bU (ho' f O σ w y G u P _ F g q N) λU Z ⟨W,R,m,J,k2,o,M⟩=>?_;subst o
  cases J
  exact D1 ⟨R,m,M⟩
def k9:(sizeLine:Nat)<2 ^ 63:=by rw[sizeLine_eq];decide
def aX:dY X (binaryOp .Add) (λx y H Q=>∃ i j,x=.str i/\y=.str j/\i.length+j.length<=sizeLine/\Q (.str<|i++j) H):=by
 intro a s σ H x y v u Q I c b h;obtain⟨i,j,rfl,rfl,hz,q⟩:=h;obtain⟨t,rfl⟩:=c;obtain⟨d,rfl⟩:=b;exact add_str (λd e=>⟨.str<|i++j,H,I.tok _,⟨_,rfl⟩,q⟩) hz
variable {x:V}{us:List Value}
def vals1 (r:Vals [x] us):∃ u,us=[u]/\RelV x u:=by
 cases r with
 | cons b a=>cases a;exact⟨_,rfl,b⟩
variable {y:V}
def vals2 (r:Vals [x,y] us):∃ u w',us=[u,w']/\RelV x u/\RelV y w':=by
 cases r with
 | cons a c=>
  cases c with
  | cons b d=>cases d;exact⟨_,_,rfl,a,b⟩
def BV (hc:X.calm=true):bO X (.builtin "max") (λxs H Q=>∃ i j,xs=[.int i,.int j]/\Q (.int<|if j>i then j else i) H):=by
 intro a s σ H xs c Q I r h;obtain⟨i,j,rfl,q⟩:=h;obtain⟨u,e,rfl,⟨t,rfl⟩,⟨f,rfl⟩⟩:=vals2 r;refine max_two_ints (I.ok.hd hc) λd b k=>⟨_,H,I.kept k,?_,q⟩
 by_cases hj:j>i
 ·rw[if_pos hj,if_pos hj];exact⟨_,rfl⟩
 ·rw[if_neg hj,if_neg hj];exact⟨_,rfl⟩
def dA:bO X (.type "str") (λxs H Q=>∃ i,xs=[.int i]/\i.natAbs.log2<1920/\Q (.str<|toString i) H):=by
 intro a s σ H xs b Q I r h;obtain⟨i,rfl,hz,q⟩:=h;obtain⟨u,rfl,t,rfl⟩:=vals1 r;exact PySem.P.str_of_int hz ⟨.str _,H,I.tok _,⟨_,rfl⟩,q⟩
structure ya (h:Heap)(x dx C:Addr)(mA:Str->Option Value):Prop where
 obj:h.get? x=some (instObj C dx)
 ns:h.Ns1 dx mA
 ne:dx≠x
variable {dx:Addr}{mA:Str->Option Value}
def qS {h:Heap}(n:h.Ns1 dx mA):∃ od,h.get? dx=some od/\∀ name,lookIn name od=some (mA name):=by
 obtain⟨o,c,i,g,d,hk,_,hm⟩:=n;refine⟨o,g,λname=>?_⟩;have e:=hm name;unfold nsFind findBy at e;rw[<-Array.find?_toList] at e;unfold lookIn;rw[d]
 dsimp only
 split
 ·rename_i y q
  rw[q] at e;exact Re some e
 ·rename_i q
  rw[q] at e;have a:c.toList.any (·.refKey)=false:=by
   rw[List.any_eq_false];intro y hy;obtain⟨z,t,b⟩:=hk y<|Array.mem_toList_iff.mp hy
   simp[DictEntry.refKey,b]
  have f:¬ c.toList.any (·.refKey)=true:=by rw[a];exact hI
  rw[if_neg f];exact Re some e
variable {x C:Addr}
def ya.look {h:Heap}(I:ya h x dx C mA):∃ od,PySem.W.InstAt h x (instObj C dx) C (some od)/\∀ name,lookIn name od=some (mA name):=
 let ⟨od,ho,hl⟩:=qS I.ns
 ⟨od,⟨I.obj,rfl,rfl,ho⟩,hl⟩
variable {prog:Program}{w:World}{name:Str}{v:Value}{expr:Bool}
def get_map (X:K.In s.heap)(I:ya s.heap x dx C mA)(hg:plainGet K C name=true)(hh:hasDictIn K C=true)
  (ha:findIn K (.ref C) name=some none) (hv:mA name=some v) (hv':handedIn v=true) (h:Q v {s with toks:=s.toks+1}) :
  wpAny (model prog w) A (getAttr (.ref x) name expr) Q E s:=by
 obtain⟨b,J,a⟩:=I.look;exact PySem.W.get_value X J (plainGet_of hg).1 (findObj_own hh ha rfl (by rw[a,hv])) hv' h
variable {f:Addr}{pl:Sem Bool}
def Ed {Q:Value × List Value->Shared->Prop}(X:K.In s.heap)(I:ya s.heap x dx C mA)(hg:plainGet K C name=true)
  (hf:findIn K (.ref C) name=some (some<|.ref f)) (ht:isFn K (.ref f)=true) (hv:mA name=none) (h:Q (.ref f,[.ref x]) s) :
  wpAny (model prog w) A (getMethod (.ref x) name pl) Q E s:=by
 obtain⟨a,J,b⟩:=I.look;exact PySem.W.method_fn X J (plainGet_of hg).1 (plainGet_of hg).2 hf (Vj.mp ht) (by show (lookIn name a).map (·.isSome)=some false;rw[b,hv];rfl) h
def IV {ns:List Str}{Q:Unit->Shared->Prop}(X:K.In s.heap)(I:ya s.heap x dx C mA)
  (hs:findIn K (.ref C) "__setattr__"=some (some<|.builtin "object.__setattr__")) (hp:plainOver K C=true) (ht:takerIn K C name=some none) (hh:hasDictIn K C=true)
  (hw:PySem.Within mA ns) (hsz:ns.length<=sizeLine)
  (h:∀ h',ya h' x dx C (λy=>if y=name then some v else mA y)->SameBut dx s.heap h'->Q () {s with heap:=h',toks:=s.toks+2}) :
  wpAny (model prog w) A (setAttr (.ref x) name v) Q E s:=by
 obtain⟨m,J,o⟩:=I.look;refine set_plain X J hs (PySem.W.osa_open (s:={s with toks:=s.toks+1}) (r:=none) X J hp ht λb=>?_);obtain⟨p,hc,i⟩:=PySem.W.any_some hh;have hx:s.heap.get? x=some ⟨.ref C,some dx,.plain,#[]⟩:=I.obj;refine b7 (ey (b7 (b7 (wpAny_loadPart hx (b7 (U5 (s:={s with toks:=s.toks+1}) (looks_clsIn X hc) ?_))))));rw[i];refine ey (a:=some dx) (b7 (ey (b7 ?_)));refine wpAny_nsSet1 (s:={s with toks:=s.toks+1}) I.ns λh' c d=>?_;obtain⟨n,j,l,e,f,g⟩:=c.count (PySem.Within.cons name v hw);refine b7 (wpAny_lookBehind e (by rw[f];exact pastItsLine_dict (fz g (by rw[ls];omega))) ?_)
 exact ey<|h _ ⟨(d.2 _<|Ne.symm I.ne).trans I.obj,c,I.ne⟩ d
variable {R:Result->Shared->Prop}{kw:List (Str × Value)}
def vk {vs:List Value}(X:K.In s.heap)(hm:makesIn K C=true)
  (hi:findIn K (.ref C) "__init__"=some (some<|.ref f)) (hf:typeIn K (.ref f)=some (.type "function"))
  (h:codeAny (model prog w) (A.under<|.builtin "type.__call__" ⟨.ref C::vs,kw⟩) (.call (.ref f) ⟨.ref (s.heap.objs.size+1)::vs,kw⟩) (InitBack (s.heap.objs.size+1) R)
   {s with heap:=(s.heap.push emptyDict).push (instObj C s.heap.objs.size)}) :
  codeAny (model prog w) A (.call (.ref C) ⟨vs,kw⟩) R s:=by
 obtain⟨c,g,d,t,b⟩:=s;exact PySem.W.make_core (PySem.W.makes_of X hm) (looks_findIn X hi) (λa=>bind_fn X a hf) (.inl rfl) h
def eg (f:Str)(v:V):List (Str × V)->List (Str × V)
 | []=>[(f,v)]
 | (g,x)::r=>if g=f then (g,v)::r else (g,x)::eg f v r
theorem mh (f g:Str)(v:V):∀ fs:List (Str × V),(eg f v fs).lookup g=if g=f then some v else fs.lookup g
 | []=>by
  show List.lookup g [(f,v)]=_
  by_cases h:g=f
  ·have hb:(g == f)=true:=Vj.mpr h;simp only[List.lookup,hb,if_pos h]
  ·have hb:(g == f)=false:=A5.mpr h;simp only[List.lookup,hb,if_neg h]
 | (k,x)::r=>by
  have a:=mh f g v r;rw[show eg f v ((k,x)::r)=(if k=f then (k,v)::r else (k,x)::eg f v r) from rfl]
  by_cases hk:k=f
  ·rw[if_pos hk]
   by_cases h:g=k
   ·have hb:(g == k)=true:=Vj.mpr h;simp only[List.lookup,hb,if_pos<|h.trans hk]
   ·have hb:(g == k)=false:=A5.mpr h;simp only[List.lookup,hb,if_neg λe:g=f=>h<|e.trans hk.symm]
  ·rw[if_neg hk]
   by_cases h:g=k
   ·have hb:(g == k)=true:=Vj.mpr h;simp only[List.lookup,hb,if_neg λe:g=f=>hk<|h.symm.trans e]
   ·have hb:(g == k)=false:=A5.mpr h;simp only[List.lookup,hb];exact a
theorem lg (f:Str)(v:V):∀ fs:List (Str × V),f∈(eg f v fs).map (·.1)/\∀ g,g∈fs.map (·.1)->g∈(eg f v fs).map (·.1)
 | []=>⟨by simp[eg],λg h=>by simp at h⟩
 | (k,x)::r=>by
  obtain⟨a,b⟩:=lg f v r;rw[show eg f v ((k,x)::r)=(if k=f then (k,v)::r else (k,x)::eg f v r) from rfl]
  by_cases hk:k=f
  ·rw[if_pos hk];subst hk;exact⟨by simp,λg h=>by simpa using h⟩
  ·rw[if_neg hk];refine⟨?_,λg h=>?_⟩
   ·rw[rr];exact fA _ a
   ·rw[rr] at h ⊢
    rcases gd.mp h with e | e
    ·exact gd.mpr<|.inl e
    ·exact fA _<|b g e
theorem mi (f:Str)(v:V):∀ fs:List (Str × V),(eg f v fs).length<=fs.length+1
 | []=>by simp[eg]
 | (k,x)::r=>by
  have a:=mi f v r;rw[show eg f v ((k,x)::r)=(if k=f then (k,v)::r else (k,x)::eg f v r) from rfl]
  by_cases hk:k=f
  ·rw[if_pos hk,ls,ls];omega
  ·rw[if_neg hk,ls,ls];omega
variable {o:Option Value}{v:V}
def gL.some_of (r:gL (some v) o):∃ u,o=some u/\RelV v u:=by
 cases o with
 | none=>exact(show False from r).elim
 | some u=>exact⟨u,rfl,r⟩
def gL.none_of (r:gL none o):o=none:=by
 cases o with
 | none=>rfl
 | some u=>exact(show False from r).elim
variable {u:Value}
def qT (r:RelV v u):handedIn u=true:=by
 cases v with
 | bx=>cases (show u=Value.none from r);rfl
 | bl b=>cases (show u=Value.bool b from r);rfl
 | int i=>obtain⟨t,e⟩:=(show ∃ t,u=Value.int i t from r);cases e;rfl
 | str x=>obtain⟨t,e⟩:=(show ∃ t,u=Value.str x t from r);cases e;rfl
 | Dw b=>obtain⟨t,e⟩:=(show ∃ t,u=Value.bytes b t from r);cases e;rfl
 | MS b=>obtain⟨t,e⟩:=(show ∃ t,u=Value.float b t from r);cases e;rfl
 | ref a=>cases (show u=Value.ref a from r);rfl
 | ty n=>cases (show u=Value.type n from r);rfl
variable {P:Program}{h:Heap}{a:Addr}{fs:List (Str × V)}
def nj (aY:ia P w H h)(e:H a=some (.ins C dx fs)):∃ mA,ya h a dx C mA/\(∀ f,gL (fs.lookup f)<|mA f)/\PySem.Within mA (fs.map (·.1))/\fs.length<=1000/\H dx=some (.own a):=by
 obtain⟨d,z,b,ob,mA,n,r,q⟩:=(show bB P w H h a (.ins C dx fs) from aY a _ e)
 exact⟨mA,⟨ob,n,b⟩,r,q,z,d⟩
structure IW (K:Frag)(C:Addr):Prop where
 pg:plainGet K C Str.empty=true
 hd:hasDictIn K C=true
 po:plainOver K C=true
 sa:findIn K (.ref C) "__setattr__"=some (some<|.builtin "object.__setattr__")
def IW.get (c:IW K C)(f:Str):plainGet K C f=true:=c.pg
def nP (K:Frag)(C:Addr)(f:Str):Prop:=findIn K (.ref C) f=some none
variable {f:Str}
def nP.PV (n:nP K C f):takerIn K C f=some none:=by
 unfold takerIn;rw[show findIn K (.ref C) f=some none from n]
 rfl
structure Meth (K:Frag)(C:Addr)(m:Str)(f:Addr):Prop where
 at_:findIn K (.ref C) m=some (some<|.ref f)
 fn:isFn K (.ref f)=true
 kp:keepIn K (.ref f)=true
variable {b:Bool}
def yb (I:Inv X pins σ H s)(e:H a=some (.ins C dx fs))(c:IW X.K C)(n:nP X.K C f)(l:fs.lookup f=some v)
  (h:∀ u s',Inv X pins σ H s'->RelV v u->Q u s'):wpAny (model X.prog X.w) A (getAttr (.ref a) f b) Q E s:=by
 obtain⟨g,O,r,_,_,_⟩:=nj I.aY e;obtain⟨u,hu,d⟩:=gL.some_of (v:=v) (o:=g f) (by rw[<-l];exact r f)
 exact get_map I.gr O (c.get f) c.hd n hu (qT d)<|h u _ (I.tok _) d
variable {m:Str}
def nQ {g:Addr}{Q:Value × List Value->Shared->Prop}(I:Inv X pins σ H s)(e:H a=some (.ins C dx fs))(c:IW X.K C)(k:Meth X.K C m g)(l:fs.lookup m=none)
  (h:Q (.ref g,[.ref a]) s):wpAny (model X.prog X.w) A (getMethod (.ref a) m pl) Q E s:=by
 obtain⟨b,O,r,_,_,_⟩:=nj I.aY e;have hn:b m=none:=gL.none_of (by rw[<-l];exact r m)
 exact Ed I.gr O (c.get m) k.at_ k.fn hn h
def yc {Q:Unit->Shared->Prop}(I:Inv X pins σ H s)(e:H a=some (.ins C dx fs))(c:IW X.K C)(n:nP X.K C f)(hl:fs.length<1000)(ry:RelV y u)
  (h:∀ s',Inv X pins σ (upd H a<|.ins C dx<|eg f y fs) s'->Q () s'):wpAny (model X.prog X.w) A (setAttr (.ref a) f u) Q E s:=by
 obtain⟨j,O,r,m,_,l⟩:=nj I.aY e;have hz:(fs.map (·.1)).length<=sizeLine:=by rw[b5,sizeLine_eq];omega
 refine IV I.gr O c.sa c.po n.PV c.hd m hz λv d t=>h _ ?_;have i:∃ o,v.get? dx=some o:=let ⟨o,_,_,e',_⟩:=d.ns;⟨o,e'⟩;refine I.write (x:=a) (e:=dx) (by rw[e];exact True.intro) (.inr l) (λb q hb z=>(t.2 b hb).trans z) i ?_
 refine⟨by rw[aB O.ne];exact l,?_,O.ne,d.obj,_,d.ns,λg=>?_,λg p=>?_⟩
 ·have:=mi f y fs;omega
 ·show gL ((eg f y fs).lookup g) (if g=f then some u else j g)
  rw[mh]
  by_cases q:g=f
  ·rw[if_pos q,if_pos q];exact ry
  ·rw[if_neg q,if_neg q];exact r g
 ·by_cases q:g=f
  ·rw[q];exact(lg f y fs).1
  ·refine(lg f y fs).2 g (m g λz=>p ?_);show (if g=f then some u else j g)=none
   rw[if_neg q];exact z
def Inv.made (I:Inv X pins σ H s):Inv X pins σ (upd (upd H s.heap.objs.size<|.own<|s.heap.objs.size+1) (s.heap.objs.size+1)<|.ins C s.heap.objs.size [])
  {s with heap:=(s.heap.push emptyDict).push (instObj C s.heap.objs.size)}:=by
 have d:(s.heap.push emptyDict).get? s.heap.objs.size=some emptyDict:=hO s.heap rfl;have g:((s.heap.push emptyDict).push<|instObj C s.heap.objs.size).get? (s.heap.objs.size+1)=some (instObj C s.heap.objs.size):=by
  have:=hO (s.heap.push emptyDict) (o:=instObj C s.heap.objs.size) rfl
  rwa [C5] at this
 have h:(s.heap.push emptyDict).Ns s.heap.objs.size (λ_=>none):=⟨emptyDict,#[],_,d,rfl,(λe he=>absurd he (by simp)),λ_=>rfl⟩
 have f:=I.laid (a:=s.heap.objs.size) (o:=.own<|s.heap.objs.size+1) (h':=s.heap.push emptyDict) (t':=s.toks) (λb u q=>c8 _ q) (ea _) ⟨_,d⟩;refine f.laid (a:=s.heap.objs.size+1) (o:=.ins C s.heap.objs.size []) (t':=s.toks) (λb u q=>c8 _ q) (Nat.le_of_eq<|C5 _ _) ?_;have c:s.heap.objs.size≠s.heap.objs.size+1:=j6<|Vo _;refine⟨by rw[aB c,af],zero_le _,c,g,λ_=>none,(Heap.Ns1.of_empty h).at λo q=>c8 _ q,λ_=>True.intro,λy hy=>absurd rfl hy⟩
variable {env:Env}
def Ag {pos:Pos}(hb:attributeBase e f env (eval e env)=eval e env)
  (h:wpAny (model prog w) A (eval e env) (λo s₁=>wpAny (model prog w) A (getAttr o f true) Q E s₁) E s):wpAny (model prog w) A (eval (.Attribute e f pos) env) Q E s:=
 Attribute_any_ h (by rw[arm_eval_Attribute,hb])
end L2
namespace L2
open PySem PySem.Spec PyProof.Rows
variable {H:Hp}
inductive lh (K:Frag)(H:Hp):V->Value->Prop where
 | bx:lh K H .bx (.type "NoneType")
 | bl (x:Bool):lh K H (.bl x) (.type "bool")
 | int (i:Int):lh K H (.int i) (.type "int")
 | str (x:Str):lh K H (.str x) (.type "str")
 | MS (x:UInt64):lh K H (.MS x) (.type "float")
 | lst {a:Addr} {xs:List V} (e:H a=some (.lst xs)):lh K H (.ref a) (.type "list")
 | iF {a:Addr} {o:Obj} {xs:List V} (e:H a=some (.iF o<|.lst xs)):lh K H (.ref a) (.type "list")
 | tup {a:Addr} {xs:List V} (e:H a=some (.tup xs)):lh K H (.ref a) (.type "tuple")
 | dK {a:Addr} {kvs:List (Key × V)} (e:H a=some (.dK kvs)):lh K H (.ref a) (.type "dict")
 | dT {a:Addr} {kvs:List (List Key × V)} (e:H a=some (.dT kvs)):lh K H (.ref a) (.type "dict")
 | ins {a C dx:Addr} {fs:List (Str × V)} (e:H a=some (.ins C dx fs)) (cl:IW K C) (ha:findIn K (.ref C) "__class__"=some (some<|.builtin "object.__class__"))
   (hn:specialIn K (.builtin "object.__class__") "__get__"=some (some<|.builtin "getset_descriptor.__get__")) (htk:takesIn K (.builtin "object.__class__")=some true)
   (hm:mroIn K C (.type "object")=some true):lh K H (.ref a) (.ref C)
variable {X:Cx}{pins:aO0}{s:Shared}{A:Around}{E Q:Value->Shared->Prop}{c:Value}{b:Bool}{σ:St}
def BW {x:V}{u t:Value}(I:Inv X pins σ H s)(rx:RelV x u)(ty:lh X.K H x t)(e:kitOne X.K t c=some b)(h:∀ tk,Q (.bool b) {s with toks:=tk}) :
  wpAny (model X.prog X.w) A (call (.builtin "isinstance") [u,c]) Q E s:=by
 cases ty with
 | bx=>cases (show u=Value.none from rx);exact kia_one PySem.W.kitx_none I.gr True.intro e (λz=>nomatch z) h
 | bl y=>cases (show u=Value.bool y from rx);exact kia_one PySem.W.kitx_bool I.gr True.intro e (λz=>nomatch z) h
 | int i=>obtain⟨t,q⟩:=(show ∃ t,u=Value.int i t from rx);cases q;exact kia_one PySem.W.kitx_int I.gr True.intro e (λz=>nomatch z) h
 | str y=>obtain⟨t,q⟩:=(show ∃ t,u=Value.str y t from rx);cases q;exact kia_one PySem.W.kitx_str I.gr True.intro e (λz=>nomatch z) h
 | MS y=>obtain⟨t,q⟩:=(show ∃ t,u=Value.float y t from rx);cases q;exact kia_one PySem.W.kitx_float I.gr True.intro e (λz=>nomatch z) h
 | @lst a g d=>
  cases (show u=Value.ref a from rx)
  obtain⟨_,_,n,_,h1⟩:=(show bB X.prog X.w H s.heap a (.lst g) from I.aY a _ d)
  exact kia_one kitx_list I.gr ⟨_,h1,rfl⟩ e (λz=>nomatch z) h
 | @iF a ob g d=>
  cases (show u=Value.ref a from rx)
  obtain⟨_,_,_,n,_,h1⟩:=(show bB X.prog X.w H s.heap a (.iF ob<|.lst g) from I.aY a _ d)
  exact kia_one kitx_list I.gr ⟨_,h1,rfl⟩ e (λz=>nomatch z) h
 | @tup a g d=>
  cases (show u=Value.ref a from rx)
  obtain⟨_,_,_,p⟩:=(show bB X.prog X.w H s.heap a (.tup g) from I.aY a _ d)
  obtain⟨o,h1,j,_⟩:=p;exact kia_one PySem.W.kitx_tuple I.gr ⟨o,h1,j⟩ e (λz=>nomatch z) h
 | @dK a f d=>
  cases (show u=Value.ref a from rx)
  obtain⟨_,_,L,_,p⟩:=(show bB X.prog X.w H s.heap a (.dK f) from I.aY a _ d)
  obtain⟨o,v,r,h1,j,_⟩:=p;exact kia_one kitx_dict I.gr ⟨o,h1,j.1⟩ e (λz=>nomatch z) h
 | @dT a f d=>
  cases (show u=Value.ref a from rx)
  obtain⟨_,_,g,_,o,v,r,h1,j,_⟩:=(show bB X.prog X.w H s.heap a (.dT f) from I.aY a _ d)
  exact kia_one kitx_dict I.gr ⟨o,h1,j.1⟩ e (λz=>nomatch z) h
 | @ins a C D fs d m B hn l hm=>
  cases (show u=Value.ref a from rx)
  obtain⟨G,O,_⟩:=nj I.aY d;obtain⟨F,J,_⟩:=O.look;exact kia_one (PySem.W.kitx_own (m.get _) m.hd B hn l hm) I.gr J e (λz=>nomatch z) h
structure b6 (k:Nat)(A:Around):Prop where
 hd:A.handled=none
 dp:A.depth+3*k+5<recursionLimit
 un:A.units+16*k+200<cLine
variable {j:Nat}
def b6.mono {k:Nat}(r:b6 k A)(h:j<=k):b6 j A:=⟨r.hd,by have:=r.dp;omega,by have:=r.un;omega⟩
theorem b6.deeper {k:Nat}{A:Around}(r:b6 (k+1) A)(env:Env):b6 k (A.deeper env):=
 ⟨r.hd,by have:=r.dp;show A.depth+1+3*k+5<_;omega,by have:=r.un;show A.units+3+16*k+200<_;omega⟩
def yd {C:Addr}{us:List Value}{kw:List (Str × Value)}:(A.under<|.builtin "type.__call__" ⟨.ref C::us,kw⟩).depth=A.depth+1:=by
 first | rfl | simp[Around.under,Code.weight,Code.isCreation,Code.isGuard,Code.isCaller,Code.frames,Code.isFrame,guardIds]
def ye {C:Addr}{us:List Value}{kw:List (Str × Value)}:(A.under<|.builtin "type.__call__" ⟨.ref C::us,kw⟩).units=A.units+1:=by
 first | rfl | simp[Around.under,Code.cUnits,Code.frames,Code.isFrame]
def b6.make {k:Nat}(r:b6 (k+1) A)(C:Addr)(us:List Value)(kw:List (Str × Value)):b6 k (A.under<|.builtin "type.__call__" ⟨.ref C::us,kw⟩):=
 ⟨r.hd,by have:=r.dp;rw[yd];omega,by have:=r.un;rw[ye];omega⟩
theorem b6.depth {k:Nat}{A:Around}(r:b6 k A):A.depth<recursionLimit:=by have:=r.dp;omega
theorem b6.units {k:Nat}{A:Around}(r:b6 k A):A.units+64<cLine:=by have:=r.un;omega
def vm:TA:=λ_ H Q=>Q [] H
def vn (ta:TE)(tr:TA):TA:=λσ H Q=>ta σ H λx H1=>tr σ H1 λb a=>Q (x::b) a
def Nr:PA X [] vm:=λ_ _ _ _ H Q I h=>Calls.spliced_nil ⟨[],H,I,.nil,h⟩
variable {e:Expr}{es:List Expr}{te:TE}{t:TA}{pos:Pos}
def IZ (ha:PE X e te)(hr:PA X es t)(hs:starEach (e::es) X.env=(false,eval e X.env)::starEach es X.env:=by rfl):PA X (e::es) (vn te t):=by
 intro pos a s σ H Q I h;rw[hs];show wpAny _ _ (spliced ((false,eval e X.env)::backTo pos (starEach es X.env))) _ _ s;refine Calls.spliced_cons<|bU (ha a s σ H _ I h) λu j ⟨x,H1,c,d,f⟩=>?_;exact bU (hr pos a j σ H1 _ c f) λn o ⟨i,m,l,b,g⟩=>⟨x::i,m,l,.cons d b,g⟩
def Ja (t:TA):TE:=λσ H Q=>t σ H λa H1=>a.length<=sizeLine/\∀ p,H1 p=none->Q (.ref p) (upd H1 p<|.tup a)
def Jb (t:TA):TE:=λσ H Q=>t σ H λa H1=>a.length<=sizeLine/\∀ p,H1 p=none->Q (.ref p) (upd H1 p<|.lst a)
def Nt {x1}(h:PA X es t):PE X (.Tuple es x1 pos) (Ja t):=by
 intro a s σ H Q I hq;refine wpAny_Tuple_spliced (bU (h pos a s σ H _ I hq) λf c ⟨g,H1,d,r,z,q⟩=>⟨by rw[<-r.length];exact z,?_⟩)
 have i:H1 c.heap.objs.size=none:=d.aY.fresh<|ea _;refine⟨.ref c.heap.objs.size,upd H1 c.heap.objs.size<|.tup g,d.laid (t':=c.toks) (λb u e=>c8 _ e) (ea _) ?_,rfl,q _ i⟩;exact⟨z,f,r,⟨_,hO _ rfl,rfl,_,rfl⟩⟩
def Nu (h:PA X es t):PE X (.List es pos) (Jb t):=by
 intro a s σ H Q I hq;refine wpAny_List_spliced (bU (h pos a s σ H _ I hq) λf c ⟨g,H1,d,r,z,q⟩=>⟨by rw[<-r.length];exact z,?_⟩)
 have i:H1 c.heap.objs.size=none:=d.aY.fresh<|ea _;refine⟨.ref c.heap.objs.size,upd H1 c.heap.objs.size<|.lst g,d.laid (t':=c.toks) (λb u e=>c8 _ e) (ea _) ?_,rfl,q _ i⟩;exact⟨z,f,0,r,hO _ rfl⟩
abbrev Sp:=List V->Hp->VK->XK->Prop
abbrev BX:=List Env->Hp->Shared->XK->Value->Shared->Prop
structure yf (P:Program)(w:World)(K:Frag)(mg:Str->Option Value)(base:Heap)(A:Around)(outer:List Env)(s:Shared)(H:Hp):Prop where
 frames:A.frames=some outer
 mod:Mod K mg base
 bs:∀ b o,base.get? b=some o->s.heap.get? b=some o/\H b=none
 Ib:base.objs.size<=s.heap.objs.size
 jZ:s.heap.FunFrames base outer
 Li:∀ b∈js outer,H b=none
 aY:ia P w H s.heap
 bare:AllBare s.gens
def CE (outer:List Env)(P:Program)(w:World)(H:Hp)(s:Shared)(Q:VK)(u:Value)(s':Shared):Prop:=
 ∃ v H',s'.os=s.os/\AllBare s'.gens/\Un (js outer) [] H H' s.heap s'.heap/\ia P w H' s'.heap/\RelV v u/\Q v H'
def CR (CX:BX)(outer:List Env)(P:Program)(w:World)(H:Hp)(s:Shared)(Q:VK)(E:XK)(r:Result)(s':Shared):Prop:=
 match r with
 | .ok (.ret u)=>CE outer P w H s Q u s'
 | .ok _=>False
 | .error e=>CX outer H s E e s'
structure fi (P:Program)(w:World)(K:Frag)(mg:Str->Option Value)(base:Heap)(CX:BX)(k:Nat)(f:Addr)(fd:FuncData)(ps:List Str)(sp:Sp):Prop where
 len:∀ vs H Q E,sp vs H Q E->vs.length=ps.length
 run:∀ (A:Around) (outer:List Env) (s:Shared) (H:Hp) (args:Args) (us:List Value) (vs:List V) (Q:VK) (E:XK),b6 k A->yf P w K mg base A outer s H->BindsTo s fd args (ps.zip us)->Vals vs us->sp vs H Q E->
  codeAny (model P w) A (.call (.ref f) args) (CR CX outer P w H s Q E) s
variable {mg:Str->Option Value}{base:Heap}{outer:List Env}
def yf.make {P:Program}{w:World}{K:Frag}(e:yf P w K mg base A outer s H)(C:Addr)(us:List Value)(kw:List (Str × Value)) :
  yf P w K mg base (A.under<|.builtin "type.__call__" ⟨.ref C::us,kw⟩) outer s H:=⟨by first | exact e.frames | (simpa [Around.under,Code.envs,Code.isFrame,pushEnvs] using e.frames),e.mod,e.bs,e.Ib,e.jZ,e.Li,e.aY,e.bare⟩
def Inv.Jc (I:Inv X pins σ H s):yf X.prog X.w X.K X.mg X.base X.A X.stack s H:=
 ⟨I.ok.frames,I.ok.mod,I.bs,fz I.ok.Ib I.sz,I.stack,I.nh,I.aY,I.bare⟩
variable {s':Shared}{Q:VK}
def Inv.after {u:Value}(I:Inv X pins σ H s)(h:CE X.stack X.prog X.w H s Q u s'):EP X pins σ Q u s':=by
 obtain⟨v,i,e,a,un,j,r,q⟩:=h;obtain⟨f,g,d,t,c⟩:=s';obtain rfl:c=s.os:=e;exact⟨v,i,I.call (h':=f) (g':=g) (d':=d) (t':=t) (ch:=[]) un j a (λb z=>absurd z (by simp)),r,q⟩
def nR (sp:Sp)(nI:List V)(E:XK)(t:TA):TE:=λσ H Q=>t σ H λa H1=>sp (a++nI) H1 Q E
def qU (C:Addr)(m:Str)(sp:Sp)(nI:List V)(E:XK)(ta:TE)(t:TA):TE:=λσ H Q=>ta σ H λx H1=>∃ a dx fs,x=.ref a/\H1 a=some (.ins C dx fs)/\fs.lookup m=none/\
 t σ H1 λc b=>sp (x::(c++nI)) b Q E
def vo (C:Addr)(sp:Sp)(nI:List V)(E:XK)(t:TA):TE:=λσ H Q=>t σ H λb H1=>∀ x dx,H1 x=none->H1 dx=none->dx≠x->
 sp (.ref x::(b++nI)) (upd (upd H1 dx<|.own x) x<|.ins C dx []) (λv a=>v=.bx/\Q (.ref x) a) E
def Binds (K:Frag)(fd:FuncData)(ps:List Str)(ds:List Value):Prop:=
 ∀ (s:Shared) (us:List Value),K.In s.heap->(us++ds).length=ps.length->BindsTo s fd ⟨us,[]⟩ (ps.zip<|us++ds)
variable {fd:FuncData}{ps:List Str}
def Binds.all {K:Frag}(h:∀ us:List Value,us.length=ps.length->bindArgs fd ⟨us,[]⟩=pure (ps.zip us)):Binds K fd ps []:=λs us _ a=>by
 rw[F2] at a ⊢;exact .of_eq<|h us a
def Passes (CX:BX)(X:Cx)(E:XK):Prop:=∀ (pins:aO0) (σ:St) (H:Hp) (s:Shared) (e:Value) (s':Shared),Inv X pins σ H s->CX X.stack H s E e s'->X.xe e s'
variable {CX:BX}{k:Nat}{f:Addr}{sp:Sp}{nI vs:List V}{ds:List Value}{E:XK}
def yg {σ:St}{us:List Value}(F:fi X.prog X.w X.K X.mg X.base CX k f fd ps sp)(hr:b6 k X.A)(hb:Binds X.K fd ps ds)(hd:Vals nI ds)(hx:Passes CX X E)
  (I:Inv X pins σ H s) (r:Vals vs us) (h:sp (vs++nI) H Q E):wpAny (model X.prog X.w) X.A (call (.ref f) us) (EP X pins σ Q) X.xe s:=by
 have a:Vals (vs++nI) (us++ds):=r.append hd;have c:(us++ds).length=ps.length:=by rw[<-a.length];exact F.len _ _ _ _ h
 refine wpAny_call<|On (F.run X.A X.stack s H ⟨us,[]⟩ (us++ds) (vs++nI) Q E hr I.Jc (hb s us I.gr c) a h) λr b hq=>?_
 cases r with
 | error e=>exact hx pins σ H s e b I hq
 | ok d=>
  cases d with
  | ret u=>exact I.after hq
  | next=>exact False.elim hq
  | brk=>exact False.elim hq
  | cont=>exact False.elim hq
variable {x:Str}{p:Pos}
def sO (F:fi X.prog X.w X.K X.mg X.base CX k f fd ps sp)(hr:b6 k X.A)(hg:Gl X x)(hm:X.mg x=some (.ref f))(hk:keepIn X.K (.ref f)=true)(hb:Binds X.K fd ps ds)(hd:Vals nI ds)(hx:Passes CX X E)
  (ha:PA X (e::es) t) (hdb:(x == ("__debug__":Str))=false:=by decide) (he:starEach (e::es) X.env=(false,eval e X.env)::starEach es X.env:=by rfl) (hpl:(backTo pos<|starEach es X.env).any (·.1)=false:=by rfl) :
  PE X (.Call (.Name x p) (e::es) [] pos) (nR sp nI E t):=by
 intro a s σ H Q I h;refine U6<|i8 I hg hm ?_ hdb;refine callWith_K (h₀:=X.base) I.ok.mod.MP hk (bU (ha pos a s σ H _ I h) λc d ⟨g,H1,b,r,q⟩=>⟨b.gr,?_⟩) he hpl;exact yg F hr hb hd hx b r q
variable {C:Addr}{m:Str}{apos:Pos}{o:Expr}{ta:TE}
def Jd {pl:Sem Bool}(he:PE X o ta)(c:IW X.K C)(hm:Meth X.K C m f)(F:fi X.prog X.w X.K X.mg X.base CX k f fd ps sp)(hr:b6 k X.A)(hb:Binds X.K fd ps ds)(hd:Vals nI ds)(hx:Passes CX X E)(ha:PA X (e::es) t)
  (hst:starEach (e::es) X.env=(false,eval e X.env)::starEach es X.env:=by rfl) (hpl:(backTo pos<|starEach es X.env).any (·.1)=false:=by rfl)
  (ht:eval (.Call (.Attribute o m apos) (e::es) [] pos) X.env=(do
   let ov<-eval o X.env
   standAt apos.atName
   let (f,first)<-holding [ov] (getMethod ov m pl)
   callWith pos f first (backTo pos<|starEach (e::es) X.env) (backToKw pos<|keywordEach [] X.env)):=by rfl) :
  PE X (.Call (.Attribute o m apos) (e::es) [] pos) (qU C m sp nI E ta t):=by
 intro b s σ H Q I h;refine methodCall_KW (pl:=pl) (bU (he b s σ H _ I h) λu j ⟨x,H1,d,n,a,y,fs,i,v,l,q⟩=>?_) ht;subst i;obtain rfl:u=Value.ref a:=n;refine nQ d v c hm l ?_;refine callWith_K (first:=[.ref a]) (h₀:=X.base) I.ok.mod.MP hm.kp (bU (ha pos b j σ H1 _ d q) λus z ⟨vs,B,g,r,p⟩=>⟨g.gr,?_⟩) hst hpl
 exact yg (us:=.ref a::us) (vs:=.ref a::vs) F hr hb hd hx g (.cons rfl r) p
def Ee {pl:Sem Bool}(he:PE X o ta)(c:IW X.K C)(hm:Meth X.K C m f)(F:fi X.prog X.w X.K X.mg X.base CX k f fd ps sp)(hr:b6 k X.A)(hb:Binds X.K fd ps ds)(hd:Vals nI ds)(hx:Passes CX X E)
  (ht:eval (.Call (.Attribute o m apos) [] [] pos) X.env=(do
   let ov<-eval o X.env
   standAt apos.atName
   let (f,first)<-holding [ov] (getMethod ov m pl)
   callWith pos f first (backTo pos<|starEach [] X.env) (backToKw pos<|keywordEach [] X.env)):=by rfl) :
  PE X (.Call (.Attribute o m apos) [] [] pos) (qU C m sp nI E ta vm):=by
 intro b s σ H Q I h;refine methodCall_KW (pl:=pl) (bU (he b s σ H _ I h) λu n ⟨x,H1,d,g,a,j,fs,e,i,l,q⟩=>?_) ht;subst e;obtain rfl:u=Value.ref a:=g;refine nQ d i c hm l ?_;exact PySem.W.callWith_K0 (first:=[.ref a]) d.gr hm.kp<|yg (us:=[.ref a]) (vs:=[.ref a]) F hr hb hd hx d (.cons rfl .nil) q
structure Mk (K:Frag)(C f:Addr):Prop where
 makes:makesIn K C=true
 init:findIn K (.ref C) "__init__"=some (some<|.ref f)
 fn:isFn K (.ref f)=true
 kp:keepIn K (.ref C)=true
def Ef {σ:St}{us:List Value}(M:Mk X.K C f)(F:fi X.prog X.w X.K X.mg X.base CX k f fd ps sp)(hr:b6 (k+1) X.A)(hb:Binds X.K fd ps ds)(hd:Vals nI ds)
  (hx:Passes CX X E) (I:Inv X pins σ H s) (r:Vals vs us)
  (h:∀ x dx,H x=none->H dx=none->dx≠x->sp (.ref x::(vs++nI)) (upd (upd H dx<|.own x) x<|.ins C dx []) (λv H2=>v=.bx/\Q (.ref x) H2) E) :
  wpAny (model X.prog X.w) X.A (call (.ref C) us) (EP X pins σ Q) X.xe s:=by
 have hq:=h (s.heap.objs.size+1) s.heap.objs.size (I.aY.fresh<|le_succ _) (I.aY.fresh<|ea _)<|j6<|Vo _;have b:=Inv.made (C:=C) I;have c:Vals (V.ref (s.heap.objs.size+1)::(vs++nI)) (Value.ref (s.heap.objs.size+1)::(us++ds)):=.cons rfl<|r.append hd;have n:(Value.ref (s.heap.objs.size+1)::us++ds).length=ps.length:=by
  have e:=c.length;rw[F.len _ _ _ _ hq] at e;exact e.symm
 refine wpAny_call (vk (f:=f) I.gr M.makes M.init (Vj.mp M.fn) (On (F.run _ X.stack _ _ ⟨Value.ref (s.heap.objs.size+1)::us,[]⟩ (Value.ref (s.heap.objs.size+1)::(us++ds)) _ _ E (hr.make C us [])
  (b.Jc.make C us []) (hb _ (Value.ref (s.heap.objs.size+1)::us) b.gr n) c hq) λr j a=>?_))
 cases r with
 | error e=>exact hx pins σ _ _ e j b a
 | ok o=>
  cases o with
  | ret u=>
   obtain⟨v,i,g,l,m,d⟩:=b.after a;subst m;exact⟨l,⟨V.ref<|s.heap.objs.size+1,i,g,rfl,d⟩⟩
  | next=>exact False.elim a
  | brk=>exact False.elim a
  | cont=>exact False.elim a
def Je (M:Mk X.K C f)(F:fi X.prog X.w X.K X.mg X.base CX k f fd ps sp)(hr:b6 (k+1) X.A)(hg:Gl X x)(hm:X.mg x=some (.ref C))(hb:Binds X.K fd ps ds)(hd:Vals nI ds)(hx:Passes CX X E)
  (ha:PA X (e::es) t) (hdb:(x == ("__debug__":Str))=false:=by decide) (he:starEach (e::es) X.env=(false,eval e X.env)::starEach es X.env:=by rfl) (hpl:(backTo pos<|starEach es X.env).any (·.1)=false:=by rfl) :
  PE X (.Call (.Name x p) (e::es) [] pos) (vo C sp nI E t):=by
 intro a s σ H Q I h;refine U6<|i8 I hg hm ?_ hdb;refine callWith_K (h₀:=X.base) I.ok.mod.MP M.kp (bU (ha pos a s σ H _ I h) λc d ⟨g,H1,b,r,q⟩=>⟨b.gr,?_⟩) he hpl;exact Ef M F hr hb hd hx b r q
variable {ks:List Str}
structure Nv (K:Frag)(fd:FuncData)(ps ks:List Str)(g:List Value->List Value->List Value)(gV:List V->List V->List V):Prop where
 to:∀ (s:Shared) (us ws:List Value),K.In s.heap->(g us ws).length=ps.length->BindsTo s fd ⟨us,ks.zip ws⟩ (ps.zip<|g us ws)
 rel:∀ {vs:List V} {us:List Value} {zs:List V} {ws:List Value},Vals vs us->Vals zs ws->Vals (gV vs zs) (g us ws)
structure j4 (N P:List Str)(sc:Scope):Prop where
 kind:sc.kind=.function
 co:sc.isCoroutine=false
 gen:sc.isGenerator=false
 nd:N.Nodup
 pre:N.take P.length=P
 par:∀ x∈P,sc.names.lookup x=some .local∨sc.names.lookup x=some .cell
 Pk:∀ y∈sc.names,y.2≠.free
theorem qV {kindOf:Str->Option NameKind}{x:Str}:∀ {binds:List (Str × Value)} {m:Str->Option Value},(∀ v,(x,v)∉binds)->bindL kindOf binds m x=m x
 | [],_,_=>rfl
 | (n,v)::r,m,h=>by
  unfold bindL;rw[qV λw hw=>h w<|fA _ hw]
  split
  ·have:x≠n:=by rintro rfl;exact h v eR
   simp[this]
  ·rfl
theorem qW {kindOf:Str->Option NameKind}{x:Str}:∀ {binds:List (Str × Value)} {m:Str->Option Value},(∀ v,(x,v)∉binds)->bindC kindOf binds m x=m x
 | [],_,_=>rfl
 | (n,v)::r,m,h=>by
  unfold bindC;rw[qW λw hw=>h w<|fA _ hw]
  split
  ·rfl
  ·have:x≠n:=by rintro rfl;exact h v eR
   simp[this]
theorem qX {kindOf:Str->Option NameKind}{x:Str}{v:Value}:∀ {P:List Str} {vs:List Value} {i:Nat} {m:Str->Option Value},P.Nodup->P[i]?=some x->vs[i]?=some v->kindOf x=some .local->
  bindL kindOf (P.zip vs) m x=some v
 | [],_,_,_,_,h,_,_=>by simp at h
 | _::_,[],_,_,_,_,h,_=>by simp at h
 | p::P,w::vs,0,m,b,h1,a,hk=>by
  simp at h1 a;subst h1;subst a
  show bindL kindOf ((p,w)::P.zip vs) m p=_;unfold bindL;rw[qV λv c=>(AC.mp b).1 (List.of_mem_zip c).1,if_pos hk]
  simp
 | p::P,w::vs,i+1,m,b,h1,a,hk=>by
  show bindL kindOf ((p,w)::P.zip vs) m x=_;unfold bindL;exact qX (i:=i) (AC.mp b).2 (by simpa using h1) (by simpa using a) hk
theorem qY {kindOf:Str->Option NameKind}{x:Str}{v:Value}:∀ {P:List Str} {vs:List Value} {i:Nat} {m:Str->Option Value},P.Nodup->P[i]?=some x->vs[i]?=some v->kindOf x≠some .local->
  bindC kindOf (P.zip vs) m x=some v
 | [],_,_,_,_,h,_,_=>by simp at h
 | _::_,[],_,_,_,_,h,_=>by simp at h
 | p::P,w::vs,0,m,b,h1,a,hk=>by
  simp at h1 a;subst h1;subst a
  show bindC kindOf ((p,w)::P.zip vs) m p=_;unfold bindC;rw[qW λv c=>(AC.mp b).1 (List.of_mem_zip c).1,if_neg hk]
  simp
 | p::P,w::vs,i+1,m,b,h1,a,hk=>by
  show bindC kindOf ((p,w)::P.zip vs) m x=_;unfold bindC;exact qY (i:=i) (AC.mp b).2 (by simpa using h1) (by simpa using a) hk
def start (N:List Str)(vs:List V):St:=vs.map some++List.replicate (N.length - vs.length) none
def gN (CX:BX)(P:Program)(w:World)(K:Frag)(mg:Str->Option Value)(base:Heap)(N:List Str)(qual:Str)(scope:Scope)(f:Addr)(cd:Value)(A:Around)(outer:List Env)(s:Shared)(H:Hp)(E:XK):Cx where
 prog:=P
 w:=w
 K:=K
 mg:=mg
 base:=base
 A:=A.deeper (envOfC qual scope s.heap.objs.size f cd)
 N:=N
 s₀:=s
 H₀:=H
 env:=envOfC qual scope s.heap.objs.size f cd
 outer:=outer
 stack:=envOfC qual scope s.heap.objs.size f cd::outer
 ex:=[]
 calm:=true
 fn:=λ_=>true
 pn:=[]
 xe:=λe b=>wpAny (model P w) (A.deeper<|envOfC qual scope s.heap.objs.size f cd) (leaving (envOfC qual scope s.heap.objs.size f cd) e) (λ_ a=>CX outer H s E e a) (λc a=>CX outer H s E c a) b
variable {sc:Scope}
def vp {n:Nat}(h:sc.names.lookup x=some .cell):∃ c,(cellsFrom n sc.names []).lookup x=some c:=by
 have q:=cellsFrom_some sc.names n []<|.inl h;exact Option.isSome_iff_exists.mp q
variable {qual:Str}{scope:Scope}{cd:Value}
def BY {P:Program}{w:World}{K:Frag}{N:List Str}{s1:Shared}{us:List Value} 
  (S:j4 N ps scope) (hd:A.handled=none) (e0:yf P w K mg base A outer s H) (hl:vs.length=ps.length) (r:Vals vs us)
  (x:InCallC s s.heap.objs.size (bindL (envOfC qual scope s.heap.objs.size f cd).kindOf (ps.zip us) λ_=>none) (cellsFrom (s.heap.objs.size+1) scope.names []) (bindC (envOfC qual scope s.heap.objs.size f cd).kindOf (ps.zip us) λ_=>none) s1) :
  Inv (gN CX P w K mg base N qual scope f cd A outer s H E) [] (start N vs) H s1:=by
 have t:ps.length<=N.length:=by have:=Re List.length S.pre;rw[tz] at this;omega
 obtain⟨h1,C,rfl,hk⟩:=x.done;have g:∀ b:Addr,b∉(gN CX P w K mg base N qual scope f cd A outer s H E).ex:=λb z=>absurd (show b∈([]:List Addr) from z) (by simp)
 refine⟨⟨e0.mod,S.kind,rfl,rfl,ea _,λy z c h1 d=>?_,λy hy=>?_,λy c _ h=>?_,λ_=>hd,Around.frames_deeper e0.frames,.inr ⟨rfl,rfl⟩,λb z=>absurd z<|g b,e0.bs,e0.Ib,λb _ _=>g b,λb z=>absurd z<|g b,e0.jZ,e0.Li⟩,
  rfl,e0.bare,Un.kept hk,⟨_,x.toInCall.ns,λi y v h1 d D=>?_⟩,λy c h=>⟨_,x.cell y c h⟩,e0.aY.fresh<|ea _,λy c h=>?_,λp j=>absurd (show p∈([]:aO0) from j) (by simp),e0.aY.kept hk,?_⟩
 ·exact name_of_addr x.apart (F8 h1)<|F8 d
 ·have hy:scope.names.lookup y=some .cell∨scope.names.lookup y=some .free:=hy
  rcases hy with hy | hy
  ·exact vp hy
  ·exact absurd rfl<|S.Pk _<|F8 hy
 ·exact Nat.le_of_lt<|x.above y c<|F8 h
 ·have m:i<vs.length:=by
   unfold start at d
   by_cases m:i<vs.length
   ·exact m
   ·rw[wh (by simpa using m)] at d
    rw[List.getElem?_replicate] at d
    split at d<;>cases d
  have o:vs[i]?=some v:=by
   unfold start at d;rw[u5 (by simpa using m),et] at d
   cases e:vs[i]? with
   | none=>rw[e] at d;cases d
   | some a=>rw[e] at d;cases d;rfl
  obtain⟨u,hu,B⟩:=r.get o;have j:ps[i]?=some y:=by
   rw[<-S.pre,List.getElem?_take_of_lt (by omega)];exact h1
  have l:ps.Nodup:=by rw[<-S.pre];exact S.nd.sublist<|List.take_sublist _ _
  refine⟨u,B,?_⟩
  rcases S.par y (fO j) with k | k
  ·exact .inl ⟨k,qX l j hu k⟩
  ·obtain⟨c,e⟩:=vp (n:=s.heap.objs.size+1) k;refine .inr ⟨.inl k,c,e,?_⟩;have q:=x.cell y c e;rw[qY l j hu (by show scope.names.lookup y≠_;rw[k];decide)] at q
   exact q
 ·exact e0.aY.fresh<|Nat.le_of_lt<|x.above y c<|F8 h
 ·unfold start;show _=N.length;rw[ed,b5,length_replicate]
  omega
variable {doc pm cy oc:Value}{an od:Option Addr}{osl:Array (Option Value)}
def vq {P:Program}{w:World}{K:Frag}{k:Nat}{name:Str}{params:Arguments}{body:List Stmt}{dV kV ct:Value} 
  {N:List Str} (lk:K.lookup f=some ⟨oc,od,.func<|fnOf name qual params body scope dV kV doc pm an cy ct,osl⟩) (hcd:codeIn K cy qual=true) (S:j4 N ps scope)
  (len:∀ vs H Q E,sp vs H Q E->vs.length=ps.length)
  (cV:∀ (A:Around) (outer:List Env) (s:Shared) (H:Hp) (vs:List V) (Q:VK) (E:XK),b6 k (A.deeper<|envOfC qual scope s.heap.objs.size f cy)->sp vs H Q E->
   ∃ t,xQ (gN CX P w K mg base N qual scope f cy A outer s H E) body t/\t {nx:=λ_ H'=>Q .bx H',rt:=Q} (start N vs) H) :
  fi P w K mg base CX (k+1) f (fnOf name qual params body scope dV kV doc pm an cy ct) ps sp:=by
 refine⟨len,λA outer s H B L vs Q E m h hb r g=>?_⟩;have G:=len _ _ _ _ g;have z:K.In s.heap:=h.mod.MP.keeps λb o e=>(h.bs b o e).1;have p:s.heap.NoLimit:=h.mod.nolimit.keeps λb o e=>(h.bs b o e).1;have a:∀ y∈ps.zip L,scope.names.lookup y.1=some .local∨(scope.names.lookup y.1=some .cell/\((cellsFrom (s.heap.objs.size+1) scope.names []).lookup y.1).isSome=true):=λ⟨n,v⟩ hy=>by
  rcases S.par n (List.of_mem_zip hy).1 with q | q
  ·exact .inl q
  ·exact .inr ⟨q,cellsFrom_some _ _ _<|.inl q⟩
 refine codeAny_call_function m.depth (z _ _ lk) rfl S.co S.gen rfl (PySem.W.codeRec_of z hcd)<|hb _ _ _ _ ?_;refine wpAny_newFunctionEnv_cells S.kind a λF he C x=>?_;subst he;refine⟨p.keeps x.toInCall.keep,codeAny_func ?_⟩;obtain⟨t,D,hq⟩:=cV A outer s H vs Q E (m.deeper _) g;have I:Inv (gN CX P w K mg base N qual scope f cy A outer s H E) [] (start N vs) H C:=BY S m.hd h G r x;refine xF (D [] C (start N vs) H _ I hq) (λM j c=>?_) λe j c=>c;have d:∀ {i:St} {H':Hp} {v:V} {u:Value},Inv (gN CX P w K mg base N qual scope f cy A outer s H E) [] i H' j->RelV v u->Q v H'->CE outer P w H s Q u j:=
  λ{i H' v u} J l q=>⟨v,H',J.os,J.bare,J.base,J.aY,l,q⟩
 cases M with
 | ret u=>
  obtain⟨v,i,H',J,l,q⟩:=c;exact d J l q
 | next=>
  obtain⟨i,H',J,q⟩:=c;exact d (v:=V.bx) (u:=Value.none) J rfl q
 | brk=>
  obtain⟨_,_,_,q⟩:=c;exact False.elim q
 | cont=>
  obtain⟨_,_,_,q⟩:=c;exact False.elim q
def Nw (r:List V->Hp->VK->Prop)(t:TA):TE:=λσ H Q=>t σ H λa H1=>r a H1 Q
variable {id:String}{r:List V->Hp->VK->Prop}
def Eg (hc:bO X (.builtin id) r)(hg:Gl X x)(hm:X.mg x=none)(hv:bootBuiltins x=some (.builtin id))(ha:PA X (e::es) t)(hn:x≠"__name__":=by decide)(hdb:(x == ("__debug__":Str))=false:=by decide)
  (he:starEach (e::es) X.env=(false,eval e X.env)::starEach es X.env:=by rfl) (hpl:(backTo pos<|starEach es X.env).any (·.1)=false:=by rfl):PE X (.Call (.Name x p) (e::es) [] pos) (Nw r t):=by
 intro a s σ H Q I h;refine U6<|jB I hg hm hv ?_ hn hdb;exact PyProof.Rows.callWith_builtin1 (bU (ha pos a s σ H _ I h) λb f ⟨g,H1,c,d,i⟩=>hc a f σ H1 g b Q c d i) he hpl
variable {T:String}
def BZ (hc:bO X (.type T) r)(hg:Gl X x)(hm:X.mg x=none)(hv:bootBuiltins x=some (.type T))(ha:PA X (e::es) t)(hn:x≠"__name__":=by decide)(hdb:(x == ("__debug__":Str))=false:=by decide)
  (he:starEach (e::es) X.env=(false,eval e X.env)::starEach es X.env:=by rfl) (hpl:(backTo pos<|starEach es X.env).any (·.1)=false:=by rfl):PE X (.Call (.Name x p) (e::es) [] pos) (Nw r t):=by
 intro a s σ H Q I h;refine U6<|jB I hg hm hv ?_ hn hdb;exact I0 (bU (ha pos a s σ H _ I h) λb f ⟨g,H1,c,d,i⟩=>hc a f σ H1 g b Q c d i) he hpl
end L2
namespace HT
open PySem PyProof.Rows PySem.SeqAt
open PySem.AutoSeq1 (wpAny_loadPart')
variable {prog:Program}{w:World}{A:Around}{E:Value->Shared->Prop}{s:Shared}{t:Addr}{vs:List Value}
def Jf {b:Addr}{ws:List Value}{Q:Value->Shared->Prop}(ht:IsTup s.heap t vs.toArray)(hb:IsTup s.heap b ws.toArray)(hv:vs≠[])
  (h1:ws=[]->Q (.ref t) s) (h2:ws≠[]->Q (.ref s.heap.objs.size) {s with heap:=s.heap.push {cls:=.type "tuple",data:=.seq (vs++ws).toArray}})
  (hsz:vs.length+ws.length<=sizeLine):wpAny (model prog w) A (binaryOp .Add (.ref t)<|.ref b) Q E s:=by
 obtain⟨⟨cls,p,data,j⟩,h,hc,n,l⟩:=id ht;obtain⟨⟨m,c,i,f⟩,a,g,o,d⟩:=id hb
 simp only at hc l g d
 subst hc l g d;have e:vs.toArray++ws.toArray=(vs++ws).toArray:=by simp
 by_cases hw:ws=[]
 ·exact concat_meets ⟨_,h,rfl⟩ ⟨_,a,rfl⟩ noFill_tuple_add seq_tuple_add slot_tuple_add entry_tuple_add (args_tuple_add_2 _ _)
   (tuple_addW1 t b vs.toArray ws.toArray n o p c j f (by simpa using hv) (by simp[hw])) ⟨h,a,h1 hw⟩
 ·refine concat_meets ⟨_,h,rfl⟩ ⟨_,a,rfl⟩ noFill_tuple_add seq_tuple_add slot_tuple_add entry_tuple_add (args_tuple_add_2 _ _)
   (tuple_addW2 t b vs.toArray ws.toArray n o p c j f (by simpa using hv) (by simpa using hw) (by rw[List.size_toArray,List.size_toArray];exact hsz)) ⟨h,a,?_⟩
  rw[e];exact h2 hw
def dM (n d:Nat):Option Int->Nat
 | none=>d
 | some v=>if v<0 then (v+(n:Int)).toNat else min v.toNat n
def j7 (n d:Nat):dM n d none=d:=rfl
def i9 (n d k:Nat):dM n d (some (k:Int))=min k n:=by
 show (if (k:Int)<0 then ((k:Int)+(n:Int)).toNat else min (k:Int).toNat n)=min k n
 rw[if_neg (by omega),toNat_natCast]
def Nx (n d:Nat)(hd:d<=n)(o:Option Int):dM n d o<=n:=by
 cases o with
 | none=>exact hd
 | some v=>
  show (if v<0 then (v+(n:Int)).toNat else min v.toNat n)<=n
  by_cases a:v<0
  ·rw[if_pos a];omega
  ·rw[if_neg a];exact Nat.min_le_right _ _
def Ah (v:Int)(n d:Nat):(if v<0 then max (v+(n:Int)) 0 else min v (n:Int))=((dM n d (some v):Nat):Int):=by
 show (if v<0 then max (v+(n:Int)) 0 else min v (n:Int))=(((if v<0 then (v+(n:Int)).toNat else min v.toNat n):Nat):Int)
 by_cases a:v<0
 ·simp only[if_pos a];omega
 ·simp only[if_neg a];omega
def yh (lo hi:Option Int)(n:Nat):Builtin.Slice.sliceAdjust lo hi 1 (n:Int)=(((dM n 0 lo:Nat):Int),((dM n n hi:Nat):Int)):=by
 have h1:¬ ((1:Int)<0):=by omega
 unfold Builtin.Slice.sliceAdjust;simp only[h1,if_false];refine Prod.ext ?_ ?_
 ·cases lo with
  | none=>rfl
  | some v=>exact Ah v n 0
 ·cases hi with
  | none=>rfl
  | some v=>exact Ah v n n
def yi (i j:Nat):Builtin.Slice.slicePlaces (i:Int) (j:Int) 1=j - i:=by
 unfold Builtin.Slice.slicePlaces;have h1:(1:Int)>0:=by omega
 simp only[h1,if_true,Int.ediv_one]
 split<;>omega
variable {v:Value}
def nS {o:Option Int}{Q:Option Int->Shared->Prop}(p:IsPart v o)(h:Q o s):wpAny (model prog w) A (Builtin.Slice.slicePartIndex v) Q E s:=by
 cases p with
 | none=>exact slicePart_none h
 | int i t=>exact slicePart_int h
variable {lo hi:Option Int}{sl:Addr}{vl vu:Value}
def lj {n:Nat}{Q:Int × Int × Nat->Shared->Prop}(hs:s.heap.IsSliceOf sl vl vu .none)(pl:IsPart vl lo)(pu:IsPart vu hi)
  (h:Q (((dM n 0 lo:Nat):Int),1,dM n n hi - dM n 0 lo) s):wpAny (model prog w) A (Builtin.Slice.sliceApplied (.ref sl)<|pure (n:Int)) Q E s:=by
 obtain⟨d,b,c,a⟩:=id hs;unfold Builtin.Slice.sliceApplied Builtin.Slice.sliceFields;refine wpAny_bind<|wpAny_bind<|wpAny_field b a (x:=vl) rfl<|wpAny_bind<|wpAny_field b a (x:=vu) rfl<|wpAny_bind<|wpAny_field b a (x:=.none) rfl<|wpAny_pure ?_;refine wpAny_bind<|slicePart_none ?_;show wpAny _ _ (if ((1:Int) == 0)=true then _ else _) _ _ s
 rw[if_neg ad]
 refine wpAny_bind<|nS pl<|wpAny_bind<|nS pu<|wpAny_bind<|wpAny_pure ?_;show wpAny _ _ (match Builtin.Slice.sliceAdjust lo hi 1 (n:Int) with | (lo,hi)=>pure (lo,(1:Int),Builtin.Slice.slicePlaces lo hi 1)) _ _ s
 rw[yh lo hi n];show wpAny _ _ (pure (((dM n 0 lo:Nat):Int),(1:Int),Builtin.Slice.slicePlaces ((dM n 0 lo:Nat):Int) ((dM n n hi:Nat):Int) 1)) _ _ s;rw[yi];exact wpAny_pure h
def Eh (xs:Array Value)(i k:Nat):((List.range k).filterMap λ(m:Nat)=>xs[((i:Int)+(m:Int)*1).toNat]?).toArray=((xs.toList.drop i).take k).toArray:=by
 have e:(λ(m:Nat)=>xs[((i:Int)+(m:Int)*1).toNat]?)=λm=>xs[i+m]?:=by
  funext m
  have:((i:Int)+(m:Int)*1).toNat=i+m:=by omega
  rw[this]
 rw[e]
 have:=pick_run xs i k
 rw[List.filterMap_map] at this;have a:((λx=>xs[x]?) ∘ λx=>i+x)=λm=>xs[i+m]?:=rfl;rw[a] at this;rw[this]
variable {Q:Value->Shared->Prop}{items:Array Value}
def j8 (ht:IsTup s.heap t items)(hs:s.heap.IsSliceOf sl vl vu .none)(pl:IsPart vl lo)(pu:IsPart vu hi)
  (hw:¬ (dM items.size 0 lo=0/\dM items.size items.size hi=items.size))
  (h:Q (.ref s.heap.objs.size) {s with heap:=s.heap.push {cls:=.type "tuple",data:=.seq ((items.toList.drop<|dM items.size 0 lo).take<|dM items.size items.size hi - dM items.size 0 lo).toArray}})
  (hsz:items.size<=sizeLine):wpAny (model prog w) A (getItem (.ref t)<|.ref sl) Q E s:=by
 have a:sizeOk (.seq ((items.toList.drop<|dM items.size 0 lo).take<|dM items.size items.size hi - dM items.size 0 lo).toArray):=by
  show ((items.toList.drop<|dM items.size 0 lo).take<|dM items.size items.size hi - dM items.size 0 lo).toArray.size<=sizeLine;rw[List.size_toArray,length_take,length_drop,Array.length_toList]
  omega
 have hj:dM items.size items.size hi<=items.size:=Nx _ _ (Nat.le_refl _) hi;obtain⟨g,e,d,f⟩:=id hs;have c:s.TypeIs (.ref sl) "slice":=⟨g,e,d⟩;unfold getItem
 try with_reducible refine wpAny_holding ?_
 first | refine wpAny_bind (wpAny_pure ?_) | skip
 refine wpAny_bind (wpAny_sequenceKey ht.typeIs ad ?_)
 refine wpAny_bind (wpAny_callSpecial?_slot (name:=Str.ofString "__getitem__") ht.typeIs PyProof.Rows.slot_tuple_getitem
  (wpAny_call_entry PyProof.Rows.slot_tuple_getitem ht.typeIs entry_tuple_getitem ?_ (args_tuple_getitem _ _)))
 show wpAny _ _ (Builtin.Tuple.tupleItemsOf (.ref t) >>= _) _ _ s;refine wpAny_bind<|tupleItemsOf_ ht ?_;refine wpAny_bind<|wpAny_typeOf c ?_;rw[if_pos ad]
 refine wpAny_bind<|lj hs pl pu ?_;have b:¬ ((((dM items.size 0 lo:Nat):Int) == 0&&(1:Int) == 1&&(dM items.size items.size hi - dM items.size 0 lo) == items.size)=true):=by
  intro q;rw[Bool.and_eq_true,Bool.and_eq_true] at q;have j:((dM items.size 0 lo:Nat):Int)=0:=eq_of_beq q.1.1;have i:dM items.size items.size hi - dM items.size 0 lo=items.size:=eq_of_beq q.2;exact hw ⟨by omega,by omega⟩
 show wpAny _ _ (if (((dM items.size 0 lo:Nat):Int) == 0&&(1:Int) == 1&&(dM items.size items.size hi - dM items.size 0 lo) == items.size)=true then _ else _) _ _ s
 rw[if_neg b,Eh]
 first
  | exact wpAny_bind (m:=Builtin.Tuple.tupleExact _)<|wpAny_newObj_type (wpAny_pure ⟨_,rfl,wpAny_pure h⟩) a
  | exact wpAny_bind (m:=Builtin.Tuple.tupleExact _)<|wpAny_newObj_type (wpAny_bind<|wpAny_pure<|wpAny_pure ⟨_,rfl,wpAny_pure h⟩) a
  | exact wpAny_bind<|wpAny_bind (m:=Builtin.Tuple.tupleExact _)<|wpAny_newObj_type (wpAny_pure<|wpAny_pure ⟨_,rfl,wpAny_pure h⟩) a
  | exact wpAny_bind<|wpAny_bind (m:=Builtin.Tuple.tupleExact _)<|wpAny_newObj_type (wpAny_pure ⟨_,rfl,wpAny_pure h⟩) a
end HT
namespace L2
open PySem PySem.Spec PyProof.Rows
abbrev TO:=St->Hp->(Option Int->Hp->Prop)->Prop
def PO (X:Cx)(e:Option Expr)(t:TO):Prop:=
 ∀ (pins:aO0) (s:Shared) (σ:St) (H:Hp) (Q:Option Int->Hp->Prop),Inv X pins σ H s->t σ H Q->
  wpAny (model X.prog X.w) X.A (evalPart e X.env) (λu a=>∃ o H',Inv X pins σ H' a/\IsPart u o/\Q o H') X.xe s
def sP:TO:=λ_ H Q=>Q none H
def Ei (t:TE):TO:=λσ H Q=>t σ H λx H1=>∃ i,x=.int i/\Q (some i) H1
variable {ns:List Int}
def intsAre_of:∀ {us:List Value},Vals (ns.map V.int) us->IntsAre us ns:=by
 induction ns with
 | nil=>intro us r;rw[map_nil] at r;cases r;exact .nil
 | cons n ns a=>
  intro us r;rw[rr] at r
  cases r with
  | cons c b=>
   obtain⟨t,e⟩:=c;subst e;exact .cons n t<|a b
variable {X:Cx}
def Jg:PO X none sP:=by
 intro a s σ H Q I h;rw[evalPart_none];exact ey ⟨none,H,I,.none,h⟩
variable {e:Expr}{te:TE}
def Jh (h:PE X e te):PO X (some e) (Ei te):=by
 intro a s σ H Q I hw;rw[evalPart_some];refine bU (h a s σ H _ I hw) λu f ⟨x,H1,b,c,d⟩=>?_;obtain⟨i,rfl,q⟩:=d;obtain⟨t,rfl⟩:=c;exact⟨some i,H1,b,.int i t,q⟩
variable {lo hi:Option Expr}
def Ny (X:Cx)(r:V->Option Int->Option Int->Hp->VK->Prop):Prop:=
 ∀ (pins:aO0) (s:Shared) (σ:St) (H:Hp) (x:V) (v vl vu:Value) (lo hi:Option Int) (sl:Addr) (Q:VK),Inv X pins σ H s->RelV x v->s.heap.IsSliceOf sl vl vu .none->IsPart vl lo->IsPart vu hi->r x lo hi H Q->
  ∃ T id,typeLookup (.type T) "__getitem__"=pure (some<|.builtin id)/\s.TypeIs v T/\wpAny (model X.prog X.w) X.A (getItem v<|.ref sl) (EP X pins σ Q) X.xe s
def Td (r:V->Option Int->Option Int->Hp->VK->Prop)(te:TE)(tl th:TO):TE:=λσ H Q=>te σ H λx H1=>tl σ H1 λl b=>th σ b λu a=>r x l u a Q
variable {pos p2:Pos}{tl:TO}{th:TO}
def Ej {r:V->Option Int->Option Int->Hp->VK->Prop}(hr:Ny X r)(he:PE X e te)(hl:PO X lo tl)(hu:PO X hi th):PE X (.Subscript e (.Slice lo hi none p2) pos) (Td r te tl th):=by
 intro a s σ H Q I h;refine Subscript_<|bU (he a s σ H _ I h) λv F ⟨x,H1,n,o,y⟩=>?_;refine wpAny_Slice<|bU (hl a F σ H1 _ n y) λd D ⟨l,J,G,E,z⟩=>bU (hu a D σ J _ G z) λf c ⟨u,g,m,p,i⟩=>?_;rw[evalPart_none];refine ey ?_;have C:Inv X a σ g {c with heap:=c.heap.push {cls:=.type "slice",data:=.fields #[d,f,.none]}}:=m.kept (t':=c.toks) λb ob q=>c8 _ q;obtain⟨T,id,B,t,j⟩:=hr a {c with heap:=c.heap.push {cls:=.type "slice",data:=.fields #[d,f,.none]}} σ g x v d f l u c.heap.objs.size Q C o (Heap.IsSliceOf.new ..) E p i;show wpAny (model X.prog X.w) X.A (subscriptTail e (.Slice lo hi none p2) v<|.ref c.heap.objs.size) (EP X a σ Q) X.xe {c with heap:=c.heap.push {cls:=.type "slice",data:=.fields #[d,f,.none]}};exact tail_any (ops:=[.ref c.heap.objs.size,v]) t B j (by with_unfolding_all rfl)
def jo (xs:List V)(lo hi:Option Int):List V:=(xs.drop<|HT.dM xs.length 0 lo).take<|HT.dM xs.length xs.length hi - HT.dM xs.length 0 lo
def mj (xs:List V)(lo hi:Option Int):(jo xs lo hi).length<=xs.length:=by
 unfold jo;rw[tz,mv]
 omega
def Ji (K:Frag):V->Option Int->Option Int->Hp->VK->Prop:=λx c b H Q=>∃ a xs,x=.ref a/\aN K H a xs/\
 ¬ (HT.dM xs.length 0 c=0/\HT.dM xs.length xs.length b=xs.length)/\∀ p,H p=none->Q (.ref p) (upd H p<|.tup<|jo xs c b)
def Nz:Ny X (Ji X.K):=by
 intro j s σ H x v u w e g t Q I l m n p h;obtain⟨a,d,rfl,hx,hw,q⟩:=h
 cases l
 obtain⟨f,r,i,hz⟩:=I.tuple hx;have c:f.toArray.size=d.length:=by rw[gc];exact r.length.symm
 refine⟨"tuple",_,PyProof.Rows.slot_tuple_getitem.lookup,i.typeIs,?_⟩;refine HT.j8 i m n p (by rw[c];exact hw) ?_ (by rw[c];exact hz)
 rw[c];refine⟨.ref s.heap.objs.size,_,I.laid (t':=s.toks) (o:=.tup<|jo d e g) (λb ob q=>c8 _ q) (ea _) ?_,rfl,q _<|I.aY.fresh<|ea _⟩;exact⟨fz (mj d e g) hz,_,(r.drop<|HT.dM d.length 0 e).take<|HT.dM d.length d.length g - HT.dM d.length 0 e,IsTup.new _ _⟩
def PX (K:Frag):R2:=λx y H Q=>∃ a b xs ys,x=.ref a/\y=.ref b/\aN K H a xs/\aN K H b ys/\xs≠[]/\xs.length+ys.length<=sizeLine/\
 (ys=[]->Q (.ref a) H)/\(ys≠[]->∀ p,H p=none->Q (.ref p) (upd H p<|.tup<|xs++ys))
def Vals.sQ {xs:List V}{us:List Value}(r:Vals xs us):us=[]↔xs=[]:=by
 cases r with
 | nil=>simp
 | cons _ _=>simp
def Jj:dY X (binaryOp .Add) (PX X.K):=by
 intro f s σ H x y v u Q I n m h;obtain⟨a,b,t,g,rfl,rfl,l,hb,hx,hz,r,p⟩:=h
 cases n
 cases m
 obtain⟨i,d,j,_⟩:=I.tuple l;obtain⟨e,c,A,_⟩:=I.tuple hb;refine HT.Jf j A (λz=>hx<|d.sQ.mp z) (λz=>⟨.ref a,H,I,rfl,r<|c.sQ.mp z⟩) (λz=>?_) (by rw[<-d.length,<-c.length];exact hz)
 refine⟨.ref s.heap.objs.size,_,I.laid (t':=s.toks) (o:=.tup<|t++g) (λb ob q=>c8 _ q) (ea _) ?_,rfl,p (λw=>z<|c.sQ.mpr w) _<|I.aY.fresh<|ea _⟩;exact⟨by rw[ed];exact hz,_,d.append c,IsTup.new _ _⟩
def DJ (n:Nat)(i:Int):Option Nat:=if 0<=i then (if i<n then some i.toNat else none) else if -(n:Int)<=i then some (i+n).toNat else none
def uZ {α:Type}(xs:List α)(i:Int):Option α:=(DJ xs.length i).bind λj=>xs[j]?
variable {i:Int}
def sR {n:Nat}{j:Nat}(h:DJ n i=some j):seqIndex? i n=some j/\j<n/\-(n:Int)<=i/\i<n:=by
 unfold DJ at h
 by_cases a:0<=i
 ·rw[if_pos a] at h
  by_cases h1:i<n
  ·rw[if_pos h1] at h;have e:i.toNat=j:=tx h;exact⟨by rw[seqIndex_of a h1,e],by omega,by omega,h1⟩
  ·rw[if_neg h1] at h;cases h
 ·rw[if_neg a] at h
  by_cases h1:-(n:Int)<=i
  ·rw[if_pos h1] at h;have e:(i+n).toNat=j:=tx h;exact⟨by rw[seqIndex_neg (by omega) h1,e],by omega,h1,by omega⟩
  ·rw[if_neg h1] at h;cases h
def sS {α:Type}{xs:List α}{v:α}(h:uZ xs i=some v):∃ j,seqIndex? i xs.length=some j/\xs[j]?=some v/\j<xs.length/\-(xs.length:Int)<=i/\i<xs.length:=by
 unfold uZ at h
 cases e:DJ xs.length i with
 | none=>rw[e] at h;cases h
 | some j=>
  rw[e] at h;obtain⟨h1,b,a,c⟩:=sR e;exact⟨j,h1,h,b,a,c⟩
def ja {α:Type}{xs:List α}{j:Nat}{v:α}(h:xs[j]?=some v):uZ xs (j:Int)=some v:=by
 have hj:j<xs.length:=(ka.mp h).1;have e:DJ xs.length (j:Int)=some j:=by
  unfold DJ;rw[if_pos (by omega),if_pos (by omega)];simp
 unfold uZ;rw[e];exact h
def Ek {α:Type}(xs:List α)(v:α):uZ (xs++[v]) (-1)=some v:=by
 have a:(xs++[v]).length=xs.length+1:=by simp
 have e:DJ (xs++[v]).length (-1)=some xs.length:=by
  unfold DJ;rw[a,if_neg ad,if_pos (by omega)]
  congr 1
  omega
 unfold uZ;rw[e];show (xs++[v])[xs.length]?=some v
 simp
def nk (b:Expr):Prop:=∀ o i,subscripted b false o i=operate [o,i] (getItem o i)
def NA (X:Cx)(r:R2):Prop:=
 ∀ (value slice:Expr) (pins:aO0) (s:Shared) (σ:St) (H:Hp) (x y:V) (v u:Value) (Q:VK),Inv X pins σ H s->RelV x v->RelV y u->r x y H Q->
  subscripted slice false v u=operate [v,u] (getItem v u)->wpAny (model X.prog X.w) X.A (subscriptTail value slice v u) (EP X pins σ Q) X.xe s
def xR (X:Cx)(id:String)(r:V->List V->Hp->VK->Prop):Prop:=
 ∀ (pins:aO0) (s:Shared) (σ:St) (H:Hp) (x:V) (xs:List V) (v:Value) (us:List Value) (Q:VK),Inv X pins σ H s->RelV x v->Vals xs us->r x xs H Q->
  wpAny (model X.prog X.w) X.A (call (.builtin id) (v::us)) (EP X pins σ Q) X.xe s
variable {a b:Expr}{ta tb:TE}
def PY {r:R2}(hr:NA X r)(ha:PE X a ta)(hb:PE X b tb)(hs:nk b):PE X (.Subscript a b pos) (sM r ta tb):=by
 intro c s σ H Q I h;exact Subscript_<|Nm ha hb I h λv u f x y i g e d q=>hr a b c f σ i x y v u Q g e d q<|hs _ _
def lp (K:Frag):R2:=λx y H Q=>∃ p xs i v,x=.ref p/\y=.int i/\au K H p xs/\uZ xs i=some v/\Q v H
def B0 (K:Frag):R2:=λx y H Q=>∃ p xs i v,x=.ref p/\y=.int i/\aN K H p xs/\uZ xs i=some v/\Q v H
def Te:R2:=λx y H Q=>∃ z i c,x=.str z/\y=.int i/\z.length<=sizeLine/\uZ z.cps.toList i=some c/\Q (.str ⟨#[c]⟩) H
def Jk:NA X (lp X.K):=by
 intro c e a s σ H x y v u Q I E A h l;obtain⟨p,G,i,z,rfl,rfl,hq,he,q⟩:=h
 cases E
 obtain⟨t,rfl⟩:=A;obtain⟨d,r,g,hz⟩:=I.list hq;obtain⟨j,h1,B,J,F,o⟩:=sS he;obtain⟨w,n,f⟩:=r.get B;have D:=r.length;have hn:=k9;have b:EP X a σ Q w s:=⟨z,H,I,f,q⟩
 by_cases m:0<=i
 ·have hj:i.toNat=j:=by
   rw[seqIndex_of m o] at h1;exact tx h1
  exact item_listR g.isList m (by omega) (by rw[hj];simpa using n) b l
 ·have hj:(i+(d.toArray.size:Int)).toNat=j:=by
   rw[seqIndex_neg (by omega) F] at h1
   rw[gc,<-D];exact tx h1
  exact subscriptTail_builtinR (x:=w) g.isList.typeIs slot_list_getitem.lookup
   (wpAny_getItem_list_neg (Q:=λr C=>r=w/\EP X a σ Q r C) g.isList (by omega) (by rw[gc]<;>omega) (by omega) (by rw[hj];simpa using n) ⟨rfl,b⟩) l
def NB:NA X (B0 X.K):=by
 intro b d a s σ H x y v u Q I B g h l;obtain⟨p,E,i,z,rfl,rfl,hq,he,q⟩:=h
 cases B
 obtain⟨t,rfl⟩:=g;obtain⟨A,r,f,hz⟩:=I.tuple hq;obtain⟨j,h1,m,G,F,D⟩:=sS he;obtain⟨w,C,e⟩:=r.get m;have o:=r.length;have hn:=k9;have c:EP X a σ Q w s:=⟨z,H,I,e,q⟩;exact subscriptTail_builtinR (x:=w) f.typeIs slot_tuple_getitem.lookup
  (getItem_tuple (j:=j) (Q:=λr n=>r=w/\EP X a σ Q r n) f (by omega) (by omega) (by rw[gc,<-o];exact h1) (by simpa using C) ⟨rfl,c⟩) l
def sT:NA X Te:=by
 intro a b d s σ H x y v u Q I m l h n;obtain⟨z,i,c,rfl,rfl,hz,he,q⟩:=h;obtain⟨t,rfl⟩:=m;obtain⟨w,rfl⟩:=l;obtain⟨j,h1,p,A,o,e⟩:=sS he;have g:z.cps.toList.length=z.length:=by simp[Str.length]
 rw[g] at h1 o e;have hn:=k9;exact tail_any (typeIs_str s z t) slot_str_getitem.lookup (getItem_str (c:=c) (by
  have r:decide (i < -(2 ^ 63:Int))=false:=dy (by omega)
  have f:decide (i ≥ 2 ^ 63)=false:=dy (by omega)
  rw[r,f,Bool.or_false]) (by rw[h1];simpa using p) ⟨.str ⟨#[c]⟩,H,I.tok _,⟨_,rfl⟩,q⟩) n
def yj (its:List Value)(n j:Nat)(u:Value):Obj.mapSeq (·.setIfInBounds j u) {cls:=.type "list",data:=.seq its.toArray n}={cls:=.type "list",data:=.seq (its.set j u).toArray n}:=by
 simp[Obj.mapSeq]
theorem Inv.lst {pins:aO0}{σ:St}{H:Hp}{s:Shared}{p:Addr}{xs:List V}(I:Inv X pins σ H s)(h:H p=some (.lst xs)) :
  ∃ (its:List Value) (n:Nat),Vals xs its/\s.heap.get? p=some {cls:=.type "list",data:=.seq its.toArray n}/\xs.length<=sizeLine:=by
 obtain⟨z,its,n,r,e⟩:=I.aY p _ h;exact⟨its,n,r,e,z⟩
variable {its its':List Value}
def Inv.NC {pins:aO0}{σ:St}{H:Hp}{s:Shared}{p:Addr}{xs ys:List V}{n n':Nat}{f:Obj->Obj}(I:Inv X pins σ H s)(h:H p=some (.lst xs))
  (ho:s.heap.get? p=some {cls:=.type "list",data:=.seq its.toArray n}) (hf:f {cls:=.type "list",data:=.seq its.toArray n}={cls:=.type "list",data:=.seq its'.toArray n'}) (r:Vals ys its') (hz:ys.length<=sizeLine) (t:Nat) :
  Inv X pins σ (upd H p<|.lst ys) {s with heap:=s.heap.update p f,toks:=t}:=by
 have e:(s.heap.update p f).get? p=some {cls:=.type "list",data:=.seq its'.toArray n'}:=by
  rw[get?_update_self f ho (by rw[hf]<;>rfl),hf]
 refine I.write (x:=p) (e:=p) (by rw[h];trivial) (.inl rfl) (λb u hb q=>(S0 _ _<|Ne.symm hb).trans q) ⟨_,e⟩ ?_
 exact⟨hz,its',n',r,e⟩
def PZ:V->V->V->Hp->(Hp->Prop)->Prop:=λo i v H Q=>∃ p xs k j,o=.ref p/\i=.int k/\H p=some (.lst xs)/\DJ xs.length k=some j/\Q (upd H p<|.lst<|xs.set j v)
def set_list:Nf X PZ:=by
 intro b s σ H o i v C B u Q I z w y h;obtain⟨p,x,k,j,rfl,rfl,e,hj,q⟩:=h
 cases z
 obtain⟨t,rfl⟩:=w;obtain⟨a,n,r,d,hz⟩:=I.lst e;obtain⟨h1,A,l,g⟩:=sR hj;have c:=r.length;have hn:=k9;have m:Inv X b σ (upd H p<|.lst<|x.set j v) {s with heap:=s.heap.update p (Obj.mapSeq (·.setIfInBounds j u))}:=
  I.NC e d (yj a n j u) (r.set y j) (by rw[length_set];exact hz) s.toks
 by_cases f:0<=k
 ·have hk:k.toNat=j:=by
   rw[seqIndex_of f g] at h1;exact tx h1
  exact PySem.W.ki_setAt d f (by omega) (by rw[gc,<-c];exact g) (by rw[hk];exact⟨_,m,q⟩)
 ·have hk:(k+(a.toArray.size:Int)).toNat=j:=by
   rw[seqIndex_neg (by omega) l] at h1
   rw[gc,<-c];exact tx h1
  exact PySem.W.ki_setBack d (by omega) (by rw[gc,<-c];exact l) (by omega) (by rw[hk];exact⟨_,m,q⟩)
def sV (lo hi:Option Int)(n:Nat):(sliceBounds lo hi none n).1=((HT.dM n 0 lo:Nat):Int)/\(sliceBounds lo hi none n).2.1=((HT.dM n n hi:Nat):Int)/\(sliceBounds lo hi none n).2.2=1:=by
 refine⟨?_,?_,rfl⟩
 ·cases lo with
  | none=>simp[sliceBounds,HT.dM]
  | some i=>
   simp only[sliceBounds,HT.dM,getD_none,show (1:Int)>0 by decide,if_true]
   by_cases h:i<0
   ·simp only[h,if_true]<;>omega
   ·simp only[h,if_false]<;>omega
 ·cases hi with
  | none=>simp[sliceBounds,HT.dM]
  | some i=>
   simp only[sliceBounds,HT.dM,getD_none,show (1:Int)>0 by decide,if_true]
   by_cases h:i<0
   ·simp only[h,if_true]<;>omega
   ·simp only[h,if_false]<;>omega
def pX (its:List Value)(lo hi:Option Int):slicePick its.toArray lo hi none=((its.drop<|HT.dM its.length 0 lo).take<|HT.dM its.length its.length hi - HT.dM its.length 0 lo).toArray:=by
 obtain⟨h1,b,a⟩:=sV lo hi its.toArray.size;unfold slicePick;rw[h1,b,a];simp only[sliceRange_one,pick_run,List.size_toArray]<;>rfl
def vt (K:Frag):V->Option Int->Option Int->Hp->VK->Prop:=λx c b H Q=>∃ a xs,x=.ref a/\au K H a xs/\∀ p,H p=none->Q (.ref p) (upd H p<|.lst<|jo xs c b)
def Jl:Ny X (vt X.K):=by
 intro i s σ H x v u w e f t Q I l m n p h;obtain⟨a,c,rfl,hx,q⟩:=h
 cases l
 obtain⟨j,r,g,hz⟩:=I.list hx;have d:=r.length;refine⟨"list",_,slot_list_getitem.lookup,g.isList.typeIs,?_⟩;refine wpAny_getItem_list_slice g.isList m n p .none (by simp) ?_ (by rw[gc]<;>omega)
 rw[pX,<-d];refine⟨.ref s.heap.objs.size,_,I.laid (t':=s.toks) (o:=.lst<|jo c e f) (λb ob q=>c8 _ q) (ea _) ?_,rfl,q _<|I.aY.fresh<|ea _⟩;exact⟨fz (mj c e f) hz,_,0,(r.drop<|HT.dM c.length 0 e).take<|HT.dM c.length c.length f - HT.dM c.length 0 e,hO _ rfl⟩
def ml:V->Bool
 | .bx=>true
 | .bl _=>true
 | .int _=>true
 | .str _=>true
 | _=>false
def DL:V->V->Bool
 | .bx,.bx=>true
 | .bl a,.bl b=>a == b
 | .bl a,.int b=>(if a then 1 else 0) == b
 | .int a,.bl b=>a == (if b then 1 else 0)
 | .int a,.int b=>a == b
 | .str a,.str b=>a == b
 | _,_=>false
variable {x:V}
def ND {A:Around}{s:Shared}{y:V}{u v:Value}(ry:RelV y u)(rx:RelV x v)(fy:ml y=true)(fx:ml x=true):EqAt A s u v (DL y x):=by
 cases y with
 | bx=>
  cases ry
  cases x with
  | bx=>cases rx;exact SeqAt.EqAt.same _
  | bl b=>cases rx;exact SeqAt.EqAt.none_bool b
  | int b=>obtain⟨t,rfl⟩:=rx;exact SeqAt.EqAt.none_int b t
  | str b=>obtain⟨t,rfl⟩:=rx;exact SeqAt.EqAt.none_str b t
  | _=>exact absurd (show false=true from fx) hI
 | bl a=>
  cases ry
  cases x with
  | bx=>cases rx;exact SeqAt.EqAt.bool_none a
  | bl b=>cases rx;exact SeqAt.EqAt.bool_bool a b
  | int b=>obtain⟨t,rfl⟩:=rx;exact SeqAt.EqAt.bool_int a b t
  | str b=>obtain⟨t,rfl⟩:=rx;exact SeqAt.EqAt.bool_str a b t
  | _=>exact absurd (show false=true from fx) hI
 | int a=>
  obtain⟨c,rfl⟩:=ry
  cases x with
  | bx=>cases rx;exact SeqAt.EqAt.int_none a c
  | bl b=>cases rx;exact SeqAt.EqAt.int_bool a c b
  | int b=>obtain⟨t,rfl⟩:=rx;exact SeqAt.EqAt.int_int a c b t
  | str b=>obtain⟨t,rfl⟩:=rx;exact SeqAt.EqAt.int_str a c b t
  | _=>exact absurd (show false=true from fx) hI
 | str a=>
  obtain⟨c,rfl⟩:=ry
  cases x with
  | bx=>cases rx;exact SeqAt.EqAt.str_none a c
  | bl b=>cases rx;exact SeqAt.EqAt.str_bool a c b
  | int b=>obtain⟨t,rfl⟩:=rx;exact SeqAt.EqAt.str_int a c b t
  | str b=>obtain⟨t,rfl⟩:=rx;exact SeqAt.EqAt.str_str a c b t
  | _=>exact absurd (show false=true from fx) hI
 | _=>exact absurd (show false=true from fy) hI
def yk (x:V)(u:Value):Bool:=match u with
 | .none=>DL .bx x
 | .bool b=>DL (.bl b) x
 | .int i _=>DL (.int i) x
 | .str z _=>DL (.str z) x
 | _=>false
def El {y:V}{u:Value}(r:RelV y u)(f:ml y=true):yk x u=DL y x:=by
 cases y with
 | bx=>cases r;rfl
 | bl b=>cases r;rfl
 | int i=>obtain⟨t,rfl⟩:=r;rfl
 | str z=>obtain⟨t,rfl⟩:=r;rfl
 | _=>exact absurd (show false=true from f) hI
theorem ke {x:V}:∀ {xs:List V} {us:List Value},Vals xs us->xs.all ml=true->us.any (yk x)=xs.any λy=>DL y x
 | _,_,.nil,_=>rfl
 | y::xs,u::us,.cons r t,f=>by
  rw[all_cons,ef] at f;rw[any_cons,any_cons,El r f.1,ke t f.2]
theorem ig {A:Around}{s:Shared}{x:V}{v:Value}(rx:RelV x v)(fx:ml x=true):∀ {xs:List V} {us:List Value},Vals xs us->xs.all ml=true->∀ u∈us,EqAt A s u v<|yk x u
 | _,_,.nil,_=>λu hu=>by cases hu
 | y::xs,u::us,.cons r t,f=>λa hu=>by
  rw[all_cons,ef] at f
  rcases gd.mp hu with rfl | hu
  ·rw[El r f.1];exact ND r rx f.1 fx
  ·exact ig rx fx t f.2 a hu
def Ls (x:V)(xs:List V):Bool:=xs.any λy=>DL y x
def Lu (K:Frag)(neg:Bool):R2:=λx y H Q=>∃ p xs,y=.ref p/\(au K H p xs∨aN K H p xs)/\ml x=true/\xs.all ml=true/\Q (.bl<|if neg then !Ls x xs else Ls x xs) H
def B1:dY X (compareOp .In) (Lu X.K false):=by
 intro c s σ H x y v u Q I d f h;obtain⟨p,g,rfl,hq,e,fs,q⟩:=h
 cases f
 rcases hq with hq | hq
 ·obtain⟨a,r,b,hz⟩:=I.list hq;refine SeqAt.in_listAt (yk x) b.isList (λw hw=>ig d e r fs w (by simpa using hw)) ⟨.bl _,H,I,rfl,?_⟩
  rw[show a.toArray.any (yk x)=a.any (yk x) by simp,ke r fs]
  exact q
 ·obtain⟨a,r,b,hz⟩:=I.tuple hq;refine SeqAt.in_tupleAt (yk x) b (λw hw=>ig d e r fs w (by simpa using hw)) ⟨.bl _,H,I,rfl,?_⟩
  rw[show a.toArray.any (yk x)=a.any (yk x) by simp,ke r fs]
  exact q
def sW:dY X (compareOp .NotIn) (Lu X.K true):=by
 intro c s σ H x y v u Q I d f h;obtain⟨p,g,rfl,hq,e,fs,q⟩:=h
 cases f
 rcases hq with hq | hq
 ·obtain⟨a,r,b,hz⟩:=I.list hq;refine SeqAt.notIn_listAt (yk x) b.isList (λw hw=>ig d e r fs w (by simpa using hw)) ⟨.bl _,H,I,rfl,?_⟩
  rw[show a.toArray.any (yk x)=a.any (yk x) by simp,ke r fs]
  exact q
 ·obtain⟨a,r,b,hz⟩:=I.tuple hq;refine SeqAt.notIn_tupleAt (yk x) b (λw hw=>ig d e r fs w (by simpa using hw)) ⟨.bl _,H,I,rfl,?_⟩
  rw[show a.toArray.any (yk x)=a.any (yk x) by simp,ke r fs]
  exact q
def sX:dY X (compareOp .NotIn) (λx y H Q=>∃ i j,x=.str i/\y=.str j/\Q (.bl<|!(!(Builtin.Str.occurrences j i 0 j.length 1).isEmpty)) H):=by
 intro a s σ H x y v u Q I c b h;obtain⟨i,j,rfl,rfl,q⟩:=h;obtain⟨t,rfl⟩:=c;obtain⟨d,rfl⟩:=b;exact notIn_str ⟨.bl _,H,I,rfl,q⟩
def sY:bO X (.builtin "len") (λxs H Q=>∃ p ys,xs=[.ref p]/\(au X.K H p ys∨aN X.K H p ys)/\Q (.int ys.length) H):=by
 intro e s σ H xs g Q I r h;obtain⟨p,ys,rfl,hq,q⟩:=h;obtain⟨u,rfl,f⟩:=vals1 r
 cases f
 have hn:=k9
 rcases hq with hq | hq
 ·obtain⟨b,c,d,hz⟩:=I.list hq;have a:=c.length;exact Calls.call_len_list d.isList (by simp only[List.size_toArray]<;>omega) ⟨.int ys.length,H,I.tok _,⟨s.toks+1,by rw[gc,a]⟩,q⟩
 ·obtain⟨b,c,d,hz⟩:=I.tuple hq;have a:=c.length;exact len_tuple d (by simp only[List.size_toArray]<;>omega) ⟨.int ys.length,H,I.tok _,⟨s.toks+1,by rw[gc,a]⟩,q⟩
def dB:bO X (.builtin "len") (λxs H Q=>∃ z,xs=[.str z]/\z.length<=sizeLine/\Q (.int z.length) H):=by
 intro a s σ H xs b Q I r h;obtain⟨z,rfl,hz,q⟩:=h;obtain⟨u,rfl,t,rfl⟩:=vals1 r;have hn:=k9;exact len_str (by omega) ⟨.int z.length,H,I.tok _,⟨_,rfl⟩,q⟩
def sZ:bO X (.type "list") (λxs H Q=>∃ p ys,xs=[.ref p]/\(au X.K H p ys∨aN X.K H p ys)/\∀ l,H l=none->Q (.ref l) (upd H l<|.lst ys)):=by
 intro j s σ H xs z Q I r h;obtain⟨p,ys,rfl,hq,q⟩:=h;obtain⟨u,rfl,y⟩:=vals1 r
 cases y
 have m:∀ (a:List Value),Vals ys a->ys.length<=sizeLine->∀ (c:Heap) (d:Nat),(∀ b o',s.heap.get? b=some o'->c.get? b=some o')->
   c.get? s.heap.objs.size=some {cls:=.type "list",dict:=none,data:=.seq a.toArray d,slots:=#[]}->EP X j σ Q (.ref s.heap.objs.size) {s with heap:=c}:=λa f hz c d i e=>
  ⟨.ref s.heap.objs.size,_,I.laid (t':=s.toks) i (ea _)<|show bB X.prog X.w _ c _ (.lst ys) from ⟨hz,a,d,f,e⟩,rfl,q _<|I.aY.fresh<|ea _⟩
 rcases hq with hq | hq
 ·obtain⟨a,f,x,hz⟩:=I.list hq;have g:=f.length;obtain⟨o,v,hc,n,t⟩:=x.isList;exact call_list_seq p (.inl rfl) v hc t (λc d i e=>m a f hz c d i e) (by simp only[List.size_toArray]<;>omega)
 ·obtain⟨a,f,x,hz⟩:=I.tuple hq;have g:=f.length;obtain⟨o,v,hc,n,t⟩:=x;exact call_list_seq p (.inr rfl) v hc t (λc d i e=>m a f hz c d i e) (by simp only[List.size_toArray]<;>omega)
def pY:bO X (.type "tuple") (λxs H Q=>∃ p ys,xs=[.ref p]/\((au X.K H p ys/\∀ l,H l=none->Q (.ref l) (upd H l<|.tup ys))∨(aN X.K H p ys/\Q (.ref p) H))):=by
 intro a s σ H xs v Q I r h;obtain⟨p,ys,rfl,h⟩:=h;obtain⟨u,rfl,n⟩:=vals1 r
 cases n
 rcases h with ⟨hq,q⟩ | ⟨hq,q⟩
 ·obtain⟨c,f,g,hz⟩:=I.list hq;have i:=f.length;refine call_tuple_list g.isList (λd m=>?_) (by simp only[List.size_toArray]<;>omega)
  have j:Inv X a σ H {s with heap:=d}:=I.kept (t':=s.toks) m;have t:Inv X a σ (upd H d.objs.size<|.tup ys) {s with heap:=d.push {cls:=.type "tuple",data:=.seq c.toArray}}:=
   j.laid (t':=s.toks) (λb o e=>c8 _ e) (ea _) (show bB X.prog X.w _ _ _ (.tup ys) from ⟨hz,c,f,IsTup.new _ _⟩)
  exact⟨.ref d.objs.size,_,t,rfl,q _<|j.aY.fresh<|ea _⟩
 ·obtain⟨c,f,g,hz⟩:=I.tuple hq;exact call_tuple_same g ⟨.ref p,H,I,rfl,q⟩
def P0 (K:Frag)(T:String)(x:V)(H:Hp):Prop:=match x with
 | .str _=>T="str"
 | .int _=>T="int"
 | .ref p=>(T="list"/\∃ xs,au K H p xs)∨(T="tuple"/\∃ o,K.lookup p=some o/\o.cls=.type "tuple"/\o.dict=none)∨
   (T="dict"/\((∃ kvs,H p=some (.dK kvs))∨∃ kvs,H p=some (.dT kvs)))∨(T="set"/\∃ S n,H p=some (.set S n))
 | _=>False
def Em {pins:aO0}{σ:St}{H:Hp}{s:Shared}{T:String}{v:Value}(I:Inv X pins σ H s)(r:RelV x v)(ty:P0 X.K T x H) :
  s.TypeIs v T/\∀ a,v=.ref a->∃ ob,s.heap.get? a=some ob/\ob.dict=none:=by
 cases x with
 | str z=>
  obtain⟨t,rfl⟩:=r
  cases (show T="str" from ty)
  exact⟨typeIs_str s z t,λ_ e=>nomatch e⟩
 | int i=>
  obtain⟨t,rfl⟩:=r
  cases (show T="int" from ty)
  exact⟨typeIs_int s i t,λ_ e=>nomatch e⟩
 | ref p=>
  cases r
  rcases ty with ⟨rfl,l,hq⟩ | ⟨rfl,o,hk,hc,f⟩ | ⟨rfl,hk⟩ | ⟨rfl,S,n,hk⟩
  ·obtain⟨j,_,h,_⟩:=I.list hq;refine⟨h.isList.typeIs,λa e=>?_⟩
   cases e
   obtain⟨o,n,e,c,f,_⟩:=h;exact⟨o,e,f⟩
  ·refine⟨⟨o,I.gr p o hk,hc⟩,λa e=>?_⟩
   cases e
   exact⟨o,I.gr _ o hk,f⟩
  ·have z:∃ o,s.heap.get? p=some o/\o.ExactDict:=by
    rcases hk with ⟨g,hk⟩ | ⟨g,hk⟩
    ·obtain⟨_,_,_,_,o,_,_,e,b,_⟩:=I.aY p _ hk;exact⟨o,e,b⟩
    ·obtain⟨_,_,_,_,o,_,_,e,b,_⟩:=I.aY p _ hk;exact⟨o,e,b⟩
   obtain⟨o,e,b⟩:=z;refine⟨⟨o,e,b.1⟩,λa d=>?_⟩
   cases d
   exact⟨o,e,b.2.1⟩
  ·obtain⟨o,_,_,_,e,b,_⟩:=I.aY p _ hk;refine⟨⟨o,e,b.1⟩,λa d=>?_⟩
   cases d
   exact⟨o,e,b.2.1⟩
 | _=>exact False.elim ty
def Jm (K:Frag)(T:String)(r:V->List V->Hp->VK->Prop)(to:TE):TE:=λσ H Q=>to σ H λx H1=>P0 K T x H1/\r x [] H1 Q
def P1 (K:Frag)(T:String)(r:V->List V->Hp->VK->Prop)(to:TE)(t:TA):TE:=λσ H Q=>to σ H λx H1=>P0 K T x H1/\t σ H1 λb a=>r x b a Q
variable {o:Expr}{to:TE}{name:Str}{apos cR:Pos}{T id:String}{r:V->List V->Hp->VK->Prop}
def NF (pa:PlainAttrs T)(slot:Slot T name id)(hty:typeOf (.builtin id)=pure (.type "method_descriptor"))(hm:xR X id r)(ho:PE X o to)
  (eD:(attributeBase o name X.env (eval o X.env)=eval o X.env):=by rfl) (eE:(apos.endLine == cR.line)=true:=by rfl):PE X (.Call (.Attribute o name apos) [] [] cR) (Jm X.K T r to):=by
 intro a s σ H Q I h;refine wpAny_Call_method0_late eD eE<|bU (ho a s σ H _ I h) λv e ⟨x,H1,b,c,ty,f⟩=>?_;obtain⟨h1,d⟩:=Em b c ty;exact⟨T,id,pa,slot,hty,h1,d,Calls.callWith_builtin rfl<|PySem.evalArgs_none<|hm a e σ H1 x [] v [] Q b c .nil f⟩
variable {es:List Expr}{t:TA}
def P2 (pa:PlainAttrs T)(slot:Slot T name id)(hty:typeOf (.builtin id)=pure (.type "method_descriptor"))(hm:xR X id r)(ho:PE X o to)(ha:PA X (e::es) t)
  (eD:(attributeBase o name X.env (eval o X.env)=eval o X.env):=by rfl)
  (hfew:((backTo cR<|starEach (e::es) X.env).all (λx=>!x.1)&&(backToKw cR<|keywordEach [] X.env).all (λx=>x.1.isSome)
   &&decide ((e::es).length+([]:List Keyword).length+(if ([]:List Keyword).isEmpty then 0 else 1)<30))=true:=by rfl)
  (eE:(apos.endLine == cR.line)=true:=by rfl) (hs:starEach (e::es) X.env=(false,eval e X.env)::starEach es X.env:=by rfl) (hplain:(backTo cR<|starEach es X.env).any (·.1)=false:=by rfl) :
  PE X (.Call (.Attribute o name apos) (e::es) [] cR) (P1 X.K T r to t):=by
 intro a s σ H Q I h;refine wpAny_Call_method_late eD hfew eE rfl<|bU (ho a s σ H _ I h) λv p ⟨x,H1,c,d,ty,j⟩=>?_;obtain⟨h1,n⟩:=Em c d ty;refine⟨T,id,pa,slot,hty,h1,n,?_⟩;have b:=ha cR a p σ H1 _ c j;rw[hs] at b ⊢;refine Calls.callWith_builtin (by show (false||(backTo cR<|starEach es X.env).any (·.1))=false;rw[hplain]<;>rfl)<|Calls.evalArgs_plain ?_
 exact bU b λf m ⟨i,u,q,g,l⟩=>hm a m σ u x i v f Q q d g l
def Tf (X:Cx)(id:String)(r:V->List V->Hp->VK->Prop):Prop:=
 ∀ (pins:aO0) (s:Shared) (σ:St) (H:Hp) (x:V) (xs:List V) (v:Value) (us:List Value) (Q:VK),Inv X pins σ H s->RelV x v->Vals xs us->r x xs H Q->
  wpAny (model X.prog X.w) X.A (call (.builtin id) (v::us)) (EP X pins σ Q) X.xe s
def Vals.one:∀ {x:V} {us:List Value},Vals [x] us->∃ u,us=[u]/\RelV x u
 | _,_,.cons r .nil=>⟨_,rfl,r⟩
def Vals.two {y:V}{us:List Value}(h:Vals [x,y] us):∃ u v,us=[u,v]/\RelV x u/\RelV y v:=by
 cases h with
 | cons r h=>
  obtain⟨v,rfl,q⟩:=Vals.one h;exact⟨_,_,rfl,r,q⟩
theorem Vals.eraseIdx:∀ {xs:List V} {us:List Value} (i:Nat),Vals xs us->Vals (xs.eraseIdx i) (us.eraseIdx i)
 | _,_,_,.nil=>.nil
 | _,_,0,.cons _ t=>t
 | _,_,i+1,.cons r t=>.cons r<|Vals.eraseIdx i t
theorem qZ {α:Type}:∀ (l:List α) (i:Nat),(l.eraseIdx i).length<=l.length
 | [],_=>ea _
 | _::_,0=>le_succ _
 | _::r,i+1=>succ_le_succ<|qZ r i
variable {pins:aO0}{H:Hp}{s:Shared}{l:Addr}{xs ys:List V}{σ:St}
def Inv.NG {n:Nat}{f:Array Value->Array Value}{t':Nat}(I:Inv X pins σ H s)(hH:H l=some (.lst xs))
  (e:s.heap.get? l=some {cls:=.type "list",data:=.seq its.toArray n}) (hf:f its.toArray=its'.toArray) (hv:Vals ys its') (hz:ys.length<=sizeLine) :
  Inv X pins σ (upd H l<|.lst ys) {s with heap:=s.heap.update l<|Obj.mapSeq f,toks:=t'}:=by
 have q:=PySem.IsL.update e f;rw[hf] at q;refine I.write (x:=l) (e:=l) (by rw[hH];exact trivial) (.inl rfl) (λa u hb hu=>(S0 s.heap (Obj.mapSeq f)<|Ne.symm hb).trans hu) ⟨_,q⟩ ?_
 exact⟨hz,its',_,hv,q⟩
def Inv.P4 {t':Nat}(I:Inv X pins σ H s)(hv:Vals ys its)(hz:ys.length<=sizeLine) :
  Inv X pins σ (upd H s.heap.objs.size<|.lst ys) {s with heap:=s.heap.push {cls:=.type "list",data:=.seq its.toArray},toks:=t'}:=
 I.laid (λ_ _ q=>c8 _ q) (ea _) ⟨hz,its,0,hv,hO _ rfl⟩
theorem Inv.fresh (I:Inv X pins σ H s):H s.heap.objs.size=none:=I.aY.fresh<|ea _
def Inv.NH (I:Inv X pins σ H s)(hH:H l=some (.lst xs)):xs.length<=sizeLine/\∃ (its:List Value) (n:Nat),Vals xs its/\xs.length=its.length/\s.heap.get? l=some {cls:=.type "list",data:=.seq its.toArray n}:=by
 obtain⟨z,its,n,r,e⟩:=I.aY l _ hH;exact⟨z,its,n,r,r.length,e⟩
def Jn:V->List V->Hp->VK->Prop:=λx a H Q=>∃ l xs y,x=.ref l/\a=[y]/\H l=some (.lst xs)/\xs.length<sizeLine/\Q .bx (upd H l<|.lst<|xs++[y])
def bI:Tf X "list.append" Jn:=by
 intro c s σ H x j v i Q I f g h;obtain⟨l,m,y,rfl,rfl,b,hz,q⟩:=h
 cases f
 obtain⟨u,rfl,d⟩:=g.one;obtain⟨z,a,n,r,o,e⟩:=I.NH b;refine UV mo ⟨_,e,rfl⟩ F.entry_list_append (F.args_list_append_2 _ _) (PySem.list_append l a.toArray n u (by rw[gc];omega)) ⟨e,?_⟩
 refine⟨.bx,_,I.NG (its':=a++[u]) b e (by simp) (r.append<|.cons d .nil) ?_,rfl,q⟩
 rw[ed,List.length_singleton]
 omega
def NI:V->List V->Hp->VK->Prop:=λx a H Q=>∃ l xs i k y,x=.ref l/\a=[.int i]/\H l=some (.lst xs)/\-(2 ^ 63)<=i/\i<2 ^ 63/\seqIndex? i xs.length=some k/\xs[k]?=some y/\Q y (upd H l<|.lst<|xs.eraseIdx k)
def vw:Tf X "list.pop" NI:=by
 intro c s σ H x B v A Q I g p h;obtain⟨l,m,i,k,y,rfl,rfl,d,h1,o,hk,hy,q⟩:=h
 cases g
 obtain⟨u,rfl,f⟩:=p.one;obtain⟨t,rfl⟩:=f;obtain⟨z,a,n,r,j,e⟩:=I.NH d;obtain⟨w,hw,b⟩:=r.get hy;refine UV slot_list_pop ⟨_,e,rfl⟩ F.entry_list_pop (F.args_list_pop_2 _ _)
  (MeetsSeq.list_pop_at l a.toArray n i t k w (fitsIndex_both h1 o) (by rw[gc,<-j];exact hk) (by rw[<-getElem?_toList];exact hw) (by rw[gc];omega)) ⟨e,?_⟩
 refine⟨y,_,I.NG (its':=a.eraseIdx k) d e ?_ (r.eraseIdx k) ?_,b,q⟩
 ·show a.toArray.eraseIdxIfInBounds k=(a.eraseIdx k).toArray;rw[List.eraseIdxIfInBounds_toArray]
 ·have:=qZ m k
  omega
end L2
namespace Att
open PySem PySem.W PySem.Calls PyProof.Rows
variable {P:Params}
def mG {h:Heap}:∀ (ns:List Int) (vs:List Value),WellAll P h vs (ns.map WData.int)->IntsAre vs ns:=by
 intro ns
 induction ns with
 | nil=>
  intro vs w;rw[map_nil] at w
  cases w
  exact .nil
 | cons n ns c=>
  intro vs w;rw[map_cons] at w
  cases w with
  | cons a b=>
   cases a
   exact .cons _ _<|c _ b
variable {l:OpenLaw}
def B2 {n:Nat}(hn:l.most=some n){h:Heap}{args:List WData}{vals:List Value}
  (hpre:l.row.toRowW.claim.pre args=true) (hwl:WellAll P h vals args) :
  ∃ a vs ns,vals=[Value.ref a]/\args=[WData.list (ns.map WData.int)]/\h.get? a=some {cls:=.type "list",data:=.seq vs.toArray}/\IntsAre vs ns/\ns.length<=n:=by
 have f:WShape.hasAll [] args [.list .int]=true:=(pre_splitW hpre).1;have hc:l.pre.holds [] {args:=args}=true:=(pre_splitW hpre).2;obtain⟨d,r,rfl,h1,o⟩:=hasAllW_cons f;obtain rfl:=hasAllW_nil o;obtain⟨t,rfl,p⟩:=hasW_list h1;obtain⟨ns,rfl⟩:=items_int p;have b:ns.length<=n:=by
  unfold OpenLaw.pre at hc;have e:(WTm.not<|.lt (.lit<|.int (n:Int))<|.len<|.arg 0).holds [] {args:=[.list (ns.map .int)]}=true:=by
   have e:=(holds_andW hc).1;rw[hn] at e;exact e
  have c:=condW_of e<|w_not<|w_lt w_lit<|w_len_list<|w_arg rfl;rw[length_map] at c;refine Nat.le_of_not_lt λq=>?_;have m:(n:Int)<((ns.length:Nat):Int):=by omega
  first
   | (rw[decide_eq_true m] at c;exact absurd c ad)
   | (simp at c;omega)
 cases hwl with
 | cons s g=>
  cases g
  cases s with
  | list i j=>exact⟨_,_,ns,rfl,rfl,i,mG ns _ j,b⟩
def B3 (l:OpenLaw)(args:List WData):l.row.toRowW.claim.post args (.bool true) args=true:=
 postW_of (r:=l.row.toRowW) (X:=(true == true))
  (show WShape.has [] (.bool true) .bool=true by first | rfl | decide | simp[WShape.has,WShape.arms,WShape.armsAll])
  (show (WTm.eq .res<|.lit<|.bool true).value [] {args:=args,res:=some<|.bool true,after:=args}=some (.bool<|true == true) from w_eq_bool (w_res rfl) w_lit) rfl
variable {q:Program}{loose:List Str}{YP:World->Heap->Prop}{d:DefRec}
def vx {n:Nat}{XP:(Str->Option Value)->Heap->Prop} 
  (hn:l.most=some n) (hdf:d.params.defaults=[])
  (call:∀ (w:World) (s₀ s₁:Shared) (mg mb:Str->Option Value) (fa:Addr) (o:Obj) (pm cd doc:Value) (a:Addr) (vs:List Value) (ns:List Int),
   Ground q loose [] XP w s₀ mg mb s₁.heap->YP w s₁.heap->
   s₁.heap.get? fa=some o->o.data=.func (docDef d.name d.params d.body d.scope pm cd doc)->s₁.heap.CodeRec cd d.name->mg d.name=some (.ref fa)->
   s₁.heap.get? a=some {cls:=.type "list",data:=.seq vs.toArray}->IntsAre vs ns->ns.length<=n->s₁.gens=#[]->
   codeAny (model l.prog w) callerA (.call (.ref fa) ⟨[.ref a],[]⟩) (λr s'=>r=.ok (.ret<|.bool true)/\OldK s₁.heap s'.heap/\s'.os=s₁.os/\AllBare s'.gens) s₁) :
  WalkO q loose XP YP l.row.toRowW d [] (λf vs=>PySem.call f vs):=by
 intro w s₀ s₁ mg mb G Y fa o pm cd doc D kV A z h p i x t s E e m u j y;obtain rfl:D=.none:=Dflts.none p hdf;obtain rfl:kV=.none:=Dflts.noKw p;obtain⟨a,vs,ns,rfl,rfl,g,b,c⟩:=B2 hn e j;refine enter_call<|codeAny_mono (call w s₀ s₁ mg mb fa o pm cd doc a vs ns G Y A (fd_plain z) h i g b c x) λr s' hq=>?_;obtain⟨rfl,v,C,B⟩:=hq;exact⟨.inl ⟨.bool true,.bool true,[],rfl,λ_=>rfl,.bool true,B3 l _,λ_=>⟨List.Pairwise.nil,λ_ hm=>(nomatch hm)⟩⟩,v,C,B⟩
end Att
namespace L2
open PySem PySem.Spec PyProof.Rows
theorem rf:∀ {vs:List Value} {ns:List Int},IntsAre vs ns->Vals (ns.map V.int) vs
 | _,_,.nil=>.nil
 | _,_,.cons n t h=>.cons ⟨t,rfl⟩<|rf h
def NJ (H:Hp):Prop:=∀ b,H b=none∨∃ o xs,H b=some (.iF o<|.lst xs)
variable {a fa:Addr}{P:Program}{x:Str}
def En {w:World}{K:Frag}{mg mb:Str->Option Value}{CX:BX}{k:Nat}{fd:FuncData}{sp:Sp}{s₁:Shared}{vs:List Value}{ns:List Int}
  (KX:K.In s₁.heap) (hns:s₁.heap.Ns mainGlobals mg) (hb:s₁.heap.Ns builtinsNs mb) (hbb:∀ x:Str,x≠"__name__"->mb x=bootBuiltins x) (hlim:s₁.heap.NoLimit) (hg:s₁.gens=#[])
  (ha:s₁.heap.get? a=some {cls:=.type "list",data:=.seq vs.toArray}) (hi:IntsAre vs ns) (hl:ns.length<=sizeLine) (hr:b6 k callerA)
  (F:∀ base:Heap,K.In base->base.Ns mainGlobals mg->fi P w K mg base CX k fa fd [x] sp) (hbind:∀ (s:Shared) (u:Value),BindsTo s fd ⟨[u],[]⟩ [(x,u)])
  (hsp:∀ H:Hp,NJ H->au K H a (ns.map V.int)->sp [.ref a] H (λv _=>v=.bl true) λ_ _ _=>False)
  (hCX:∀ H e s',CX [] H s₁ (λ_ _ _=>False) e s'->False) :
  codeAny (model P w) callerA (.call (.ref fa) ⟨[.ref a],[]⟩) (λr s'=>r=.ok (.ret<|.bool true)/\OldK s₁.heap s'.heap/\s'.os=s₁.os/\AllBare s'.gens) s₁:=by
 have E:=rf hi;have l:=hi.length;have g:∀ H:Hp,NJ H->au K H a (ns.map V.int)->ia P w H s₁.heap->(∀ b,H b≠none->b=a)->(H a≠none->K.lookup a=none)->
   codeAny (model P w) callerA (.call (.ref fa) ⟨[.ref a],[]⟩) (λr s'=>r=.ok (.ret<|.bool true)/\OldK s₁.heap s'.heap/\s'.os=s₁.os/\AllBare s'.gens) s₁:=by
  intro H G Q J D U;have c:∀ {b:Addr} {o:Obj},s₁.heap.get? b=some o->H b=none->(sF s₁.heap H).get? b=some o:=λe n=>DV e n;have B:∀ {b:Addr} {o:Obj} {t:Array DictEntry} {j:Nat},s₁.heap.get? b=some o->o.data=.dict t j->H b=none:=λ{b o t j} e d=>by
   cases q:H b with
   | none=>rfl
   | some u=>
    have C:b=a:=D b (by rw[q];simp)
    subst C;rw[ha] at e;cases e
    have N:Data.seq vs.toArray _=Data.dict t j:=d
    cases N
  have f:∀ {b:Addr} {m:Str->Option Value},s₁.heap.Ns b m->(sF s₁.heap H).Ns b m:=λ{b m} ⟨o,t,j,e,d,r⟩=>⟨o,t,j,c e<|B e d,d,r⟩;have y:K.In (sF s₁.heap H):=λb o e=>c (KX b o e) (by
   cases q:H b with
   | none=>rfl
   | some u=>
    have C:b=a:=D b (by rw[q];simp)
    subst C;rw[U (by rw[q];simp)] at e;cases e)
  have L:Mod K mg (sF s₁.heap H):=⟨y,f hns,⟨mb,f hb,hbb⟩,let ⟨mc,h1,h2⟩:=hlim;⟨mc,f h1,h2⟩⟩;have S:yf P w K mg (sF s₁.heap H) callerA [] s₁ H:=⟨rfl,L,λb o e=>Iy e,Nat.le_of_eq<|BN _ _,trivial,λb hb=>absurd (show b∈([]:List Addr) from hb) (by simp),J,.of_eq hg⟩
  refine On ((F _ y<|f hns).run callerA [] s₁ H ⟨[.ref a],[]⟩ [.ref a] [.ref a] _ _ hr S (hbind s₁<|.ref a) (.cons rfl .nil)<|hsp H G Q) λr s' h=>?_
  cases r with
  | error e=>exact(hCX H e s' h).elim
  | ok R=>
   cases R with
   | next=>exact False.elim h
   | brk=>exact False.elim h
   | cont=>exact False.elim h
   | ret u=>
    obtain⟨v,Y,os,i,un,A,W,q⟩:=h;have O:v=.bl true:=q;subst O;obtain rfl:u=Value.bool true:=W;refine⟨rfl,OldK.of_keep λb o e=>?_,os,i⟩
    cases q:H b with
    | none=>exact un.keep b o e q (by intro z;exact absurd (show b∈([]:List Addr) from z) (by simp)) (by simp)
    | some u=>
     rcases G b with z | ⟨ob,X,z⟩
     ·rw[q] at z;cases z
     ·have T:=un.l9 b ob _ z;obtain⟨I,_⟩:=J b _ z;obtain⟨M,_⟩:=A b _ T;rw[e] at I;cases I
      exact M
 cases hk:K.lookup a with
 | some o=>
  have e:=KX a o hk;rw[ha] at e
  cases e
  refine g (λ_=>none) (λ_=>.inl rfl) (.inr ⟨_,vs.toArray,_,hk,rfl,rfl,rfl,by rw[gc,l];exact hl,by simpa using E⟩) (λb u z=>by have p:(none:Option HO)=some u:=z;cases p) (λb z=>absurd rfl z) λz=>absurd rfl z
 | none=>
  refine g (λb=>if b=a then some (.iF {cls:=.type "list",data:=.seq vs.toArray}<|.lst<|ns.map V.int) else none) (λb=>?_) (.inl<|.inr ⟨{cls:=.type "list",data:=.seq vs.toArray},if_pos rfl⟩) (λb u z=>?_) (λb z=>?_) λ_=>hk
  ·by_cases hb:b=a
   ·exact .inr ⟨_,_,if_pos hb⟩
   ·exact .inl<|if_neg hb
  ·by_cases hb:b=a
   ·have p:=(if_pos hb).symm.trans z
    cases p
    subst hb;exact⟨ha,by rw[b5];exact hl,vs,_,E,ha⟩
   ·have p:=(if_neg hb).symm.trans z
    cases p
  ·by_cases hb:b=a
   ·exact hb
   ·exact absurd (if_neg hb) z
def Jo {l:PySem.W.OpenLaw}{n k:Nat}{q:Program}{loose:List Str}{XP:(Str->Option Value)->Heap->Prop}{YP:World->Heap->Prop}{d:DefRec}{K:Params->Frag}{CX:World->BX}{sp:World->Sp} 
  (hn:l.most=some n) (hn2:n<=sizeLine) (hdf:d.params.defaults=[]) (hr:b6 k callerA)
  (hY:∀ (w:World) (h:Heap),YP w h->(K w.params).In h)
  (F:∀ (w:World) (mg:Str->Option Value) (fa:Addr) (h:Heap),(K w.params).In h->h.Ns mainGlobals mg->mg d.name=some (.ref fa)->
   ∃ fd:FuncData,(∀ (s:Shared) (u:Value),BindsTo s fd ⟨[u],[]⟩ [(x,u)])/\
    ∀ base:Heap,(K w.params).In base->base.Ns mainGlobals mg->fi l.prog w (K w.params) mg base (CX w) k fa fd [x] (sp w))
  (hsp:∀ (w:World) (H:Hp) (a:Addr) (ns:List Int),ns.length<=n->NJ H->au (K w.params) H a (ns.map V.int)->sp w [.ref a] H (λv _=>v=.bl true) λ_ _ _=>False)
  (hCX:∀ (w:World) (H:Hp) (s:Shared) (e:Value) (s':Shared),CX w [] H s (λ_ _ _=>False) e s'->False) :
  PySem.W.WalkO q loose XP YP l.row.toRowW d [] (λf vs=>PySem.call f vs):=by
 refine Att.vx hn hdf λw J C mg mb fa o I L B a vs ns G Y E D y m j i c r=>?_;have p:=hY w _ Y;obtain⟨fd,hb,A⟩:=F w mg fa _ p G.T.g m;exact En p G.T.g G.T.b G.T.builtins G.T.nolimit r j i (fz c hn2) hr A hb (λH t z=>hsp w H a ns c t z) λH e s'=>hCX w H C e s'
def bf (s:Stmt):Arguments:=match s with
 | .FunctionDef _ a _ _ _ _ _ _ _ _=>a
 | _=>{posonlyargs:=[],args:=[],vararg:=none,kwonlyargs:=[],kw_defaults:=[],kwarg:=none,defaults:=[]}
def aO (s:Stmt):List Stmt:=match s with
 | .FunctionDef _ _ b _ _ _ _ _ _ _=>b
 | _=>[]
def aj (s:Stmt):Scope:=match s with
 | .FunctionDef _ _ _ _ _ _ sc _ _ _=>sc
 | _=>{kind:=.function,names:=[],isGenerator:=false,isCoroutine:=false}
abbrev DM:BX:=λ_ _ _ _ _ _=>False
abbrev E0:XK:=λ_ _ _=>False
def P5 {X:Cx}:Passes DM X E0:=λ_ _ _ _ _ _ _ h=>h.elim
structure Ij (K:Frag)(x qual:Str)(st:Stmt)(f:Addr)(fd:FuncData):Prop where
 ex:∃ (oc:Value) (od:Option Addr) (kV doc pm:Value) (an:Option Addr) (cy ct:Value) (osl:Array (Option Value)),
  fd=fnOf x qual (bf st) (aO st) (aj st) .none kV doc pm an cy ct/\K.lookup f=some ⟨oc,od,.func fd,osl⟩/\codeIn K cy qual=true
 kp:keepIn K (.ref f)=true
variable {w:World}{K:Frag}{mg:Str->Option Value}{base:Heap}
def Ij.ok {qual:Str}{st:Stmt}{f:Addr}{fd:FuncData}{N ps:List Str}{k:Nat}{sp:Sp}(F:Ij K x qual st f fd)(S:j4 N ps (aj st))(len:∀ vs H Q E,sp vs H Q E->vs.length=ps.length)
  (cV:∀ (cy:Value) (A:Around) (outer:List Env) (s:Shared) (H:Hp) (vs:List V) (Q:VK) (E:XK),b6 k (A.deeper<|envOfC qual (aj st) s.heap.objs.size f cy)->sp vs H Q E->
   ∃ t,xQ (gN DM P w K mg base N qual (aj st) f cy A outer s H E).Pt (aO st) t/\t {nx:=λ_ H'=>Q .bx H',rt:=Q} (start N vs) H):fi P w K mg base DM (k+1) f fd ps sp:=by
 obtain⟨j,i,kV,c,m,l,cy,ct,d,rfl,e,b⟩:=F.ex;refine vq e b S len λA outer s H vs Q E g a=>?_;obtain⟨t,h,q⟩:=cV cy A outer s H vs Q E g a;exact⟨t,h.Pt,q⟩
def Ij.binds {qual:Str}{st:Stmt}{f:Addr}{fd:FuncData}{ps:List Str}(F:Ij K x qual st f fd)
  (h:∀ (kV doc pm:Value) (an:Option Addr) (cy ct:Value) (us:List Value),us.length=ps.length->bindArgs (fnOf x qual (bf st) (aO st) (aj st) .none kV doc pm an cy ct) ⟨us,[]⟩=pure (ps.zip us)):Binds K fd ps []:=by
 obtain⟨e,d,kV,doc,pm,an,cy,ct,a,rfl,c,b⟩:=F.ex;exact .all<|h kV doc pm an cy ct
def yl {qual:Str}{st:Stmt}{f:Addr}{oc:Value}{od an:Option Addr}{osl:Array (Option Value)}{kV doc pm cy ct:Value}(l:K.lookup f=some ⟨oc,od,.func<|fnOf x qual (bf st) (aO st) (aj st) .none kV doc pm an cy ct,osl⟩)
  (c:codeIn K cy qual=true) (k:keepIn K (.ref f)=true):Ij K x qual st f (fnOf x qual (bf st) (aO st) (aj st) .none kV doc pm an cy ct):=⟨⟨oc,od,kV,doc,pm,an,cy,ct,osl,rfl,l,c⟩,k⟩
def az {n:Nat}(h:n<=1000):n<sizeLine:=M2 h ad
variable {B:Prop}
def bp {c A:Prop}[Decidable c](h1:c->A)(h2:¬ c->B):if c then A else B:=by
 by_cases h:c
 ·rw[if_pos h];exact h1 h
 ·rw[if_neg h];exact h2 h
def ag (H H':Hp):Prop:=∀ b o,H b=some o->H' b=some o
def ag.refl (H:Hp):ag H H:=λ_ _ h=>h
variable {H2:Hp}
def ag.trans {H H1:Hp}(a:ag H H1)(b:ag H1 H2):ag H H2:=λc o h=>b c o<|a c o h
def ag.free {H H':Hp}(e:ag H H'){l:Addr}(h:H' l=Option.none):H l=Option.none:=by
 cases q:H l with
 | none=>rfl
 | some o=>
  rw[e l o q] at h
  cases h
def ag.seq {H H':Hp}{xs:List V}(e:ag H H')(h:au K H a xs):au K H' a xs:=by
 rcases h with (h | ⟨o,h⟩) | h
 ·exact .inl<|.inl<|e _ _ h
 ·exact .inl<|.inr ⟨o,e _ _ h⟩
 ·exact .inr h
variable {κ:Type}[DecidableEq κ]
def cP (kvs:List (κ × V))(k:κ):Option V:=(kvs.find? λkv=>decide<|kv.1=k).map (·.2)
def putK (kvs:List (κ × V))(k:κ)(v:V):List (κ × V):=
 if (kvs.any λkv=>decide<|kv.1=k)=true then kvs.map (λkv=>if kv.1=k then (kv.1,v) else kv) else kvs++[(k,v)]
def Eo {k:κ}:cP ([]:List (κ × V)) k=none:=rfl
def cB {p:κ × V}{r:List (κ × V)}{k:κ}(e:p.1=k):cP (p::r) k=some p.2:=by simp[cP,find?_cons,e]
def ck {p:κ × V}{r:List (κ × V)}{k:κ}(e:¬ p.1=k):cP (p::r) k=cP r k:=by simp[cP,find?_cons,e]
theorem ij (k:κ):∀ kvs:List (κ × V),(kvs.any λkv=>decide<|kv.1=k)=(cP kvs k).isSome
 | []=>rfl
 | p::r=>by
  rw[any_cons]
  by_cases e:p.1=k
  ·simp only[cB e,decide_eq_true e,Bool.true_or,isSome_some]
  ·rw[ck e,dy e,Bool.false_or];exact ij k r
theorem vy (k j:κ)(y:V):∀ kvs:List (κ × V),cP (kvs.map λkv=>if kv.1=k then (kv.1,y) else kv) j=(cP kvs j).map λx=>if j=k then y else x
 | []=>rfl
 | p::r=>by
  have a:=vy k j y r;rw[rr]
  by_cases h:p.1=k
  ·rw[if_pos h]
   by_cases e:p.1=j
   ·rw[cB (p:=(p.1,y)) e,cB e,map_some,if_pos<|e.symm.trans h]
   ·rw[ck (p:=(p.1,y)) e,ck e,a]
  ·rw[if_neg h]
   by_cases e:p.1=j
   ·rw[cB (p:=p) e,cB e,map_some,if_neg λz=>h<|e.trans z]
   ·rw[ck (p:=p) e,ck e,a]
theorem rh (k j:κ)(y:V):∀ kvs:List (κ × V),cP kvs k=none->cP (kvs++[(k,y)]) j=if j=k then some y else cP kvs j
 | [],_=>by
  by_cases e:k=j
  ·rw[if_pos e.symm];exact cB (p:=(k,y)) e
  ·rw[if_neg (λz=>e z.symm)];exact ck (p:=(k,y)) e
 | p::r,hn=>by
  rw[cons_append];have hk:¬ p.1=k:=λz=>by rw[cB z] at hn;cases hn
  rw[ck hk] at hn;have a:=rh k j y r hn
  by_cases e:p.1=j
  ·rw[cB e,cB e,if_neg λz=>hk<|e.trans z]
  ·rw[ck e,ck e,a]
def Ep (kvs:List (κ × V))(k j:κ)(y:V):cP (putK kvs k y) j=if j=k then some y else cP kvs j:=by
 unfold putK
 by_cases a:(kvs.any λkv=>decide<|kv.1=k)=true
 ·rw[if_pos a,vy];rw[ij] at a
  by_cases e:j=k
  ·obtain⟨x,hx⟩:=Option.isSome_iff_exists.mp a;rw[if_pos e,e,hx,map_some,if_pos rfl]
  ·rw[if_neg e]
   cases cP kvs j with
   | none=>rfl
   | some x=>rw[map_some,if_neg e]
 ·rw[if_neg a];refine rh k j y kvs ?_;rw[ij] at a
  cases q:cP kvs k with
  | none=>rfl
  | some x=>rw[q] at a;exact(a rfl).elim
def mn (kvs:List (κ × V))(k:κ)(v:V):(putK kvs k v).length<=kvs.length+1:=by
 unfold putK
 split
 ·rw[b5];omega
 ·rw[ed,ls,length_nil];omega
def vz {kvs:List (κ × V)}{k:κ}(v:V)(h:cP kvs k=none):putK kvs k v=kvs++[(k,v)]:=by
 unfold putK;rw[ij,h];exact if_neg ad
variable {o:Option V}
def gL.jb {u:Option Value}(r:gL o u):o.isSome=u.isSome:=by
 cases o with
 | none=>cases u with
  | none=>rfl
  | some _=>exact(show False from r).elim
 | some _=>cases u with
  | none=>exact(show False from r).elim
  | some _=>rfl
def KV.val {kvs:List (κ × V)}{vs:List (κ × Value)}(r:KV kvs vs)(k:κ):gL (cP kvs k) (valueAt vs k):=by
 unfold KV at r
 induction r with
 | nil=>exact True.intro
 | @cons p q g a h t d=>
  obtain⟨h1,f⟩:=h
  by_cases e:p.1=k
  ·have c:q.1=k:=h1.symm.trans e;have b:valueAt (q::a) k=some q.2:=by simp[valueAt,find?_cons,c]
   rw[cB e,b];exact f
  ·have c:¬ q.1=k:=λz=>e<|h1.trans z;have b:valueAt (q::a) k=valueAt a k:=by simp[valueAt,find?_cons,c]
   rw[ck e,b];exact d
theorem KV.any {kvs:List (κ × V)}{vs:List (κ × Value)}(r:KV kvs vs)(k:κ):(kvs.any λkv=>decide<|kv.1=k)=vs.any λkv=>decide (kv.1=k):=by
 unfold KV at r
 induction r with
 | nil=>rfl
 | cons h t a=>rw[any_cons,any_cons,a,h.1]
def KV.NK {kvs:List (κ × V)}{vs:List (κ × Value)}(r:KV kvs vs)(k:κ){y:V}{u:Value}(ry:RelV y u) :
  KV (kvs.map λkv=>if kv.1=k then (kv.1,y) else kv) (vs.map λkv=>if kv.1=k then (kv.1,u) else kv):=by
 unfold KV at r ⊢
 induction r with
 | nil=>exact .nil
 | @cons p q d c h t a=>
  rw[rr,rr];refine .cons ?_ a;obtain⟨h1,b⟩:=h
  by_cases e:p.1=k
  ·rw[if_pos e,if_pos<|h1.symm.trans e];exact⟨h1,ry⟩
  ·rw[if_neg e,if_neg λz=>e<|h1.trans z];exact⟨h1,b⟩
def KV.put {kvs:List (κ × V)}{vs:List (κ × Value)}(r:KV kvs vs)(k:κ){y:V}{u:Value}(ry:RelV y u):KV (putK kvs k y) (stored vs k u):=by
 unfold putK stored;rw[r.any k]
 by_cases e:(vs.any λkv=>decide<|kv.1=k)=true
 ·rw[if_pos e,if_pos e];exact r.NK k ry
 ·rw[if_neg e,if_neg e];exact Paired.snoc r ⟨rfl,ry⟩
def KV.keys {kvs:List (κ × V)}{vs:List (κ × Value)}(r:KV kvs vs):kvs.map (·.1)=vs.map (·.1):=by
 unfold KV at r
 induction r with
 | nil=>rfl
 | cons h t a=>rw[rr,rr,a,h.1]
theorem KV.length {kvs:List (κ × V)}{vs:List (κ × Value)}(r:KV kvs vs):kvs.length=vs.length:=Paired.length r
def rj {k:Key}{u:Value}(r:RelV (kV k) u):(bW P w).is k u=true:=by
 cases k with
 | inl i=>obtain⟨t,e⟩:=(show ∃ t,u=Value.int i t from r);subst e;exact ve P w i t
 | inr x=>obtain⟨t,e⟩:=(show ∃ t,u=Value.str x t from r);subst e;exact bM P w x t
theorem rk {P:Program}{w:World}:∀ {ks:List Key} {us:List Value},Vals (ks.map kV) us->ItemsAre (bW P w) ks us
 | [],_,r=>by rw[map_nil] at r;cases r;exact .nil
 | k::ks,_,r=>by
  rw[rr] at r
  cases r with
  | cons h t=>exact .cons (rj h)<|rk t
abbrev KT (H:Hp):List (List Key × V)->List (List Key × Addr × Value)->Prop:=Paired λp q=>p.1=q.1/\H q.2.1=some (.tup<|p.1.map kV)/\RelV p.2 q.2.2
variable {xs:List (List Key × Addr × Value)}{kvs:List (List Key × V)}
def KT.val {H:Hp}(r:KT H kvs xs)(k:List Key):gL (cP kvs k) ((atKey xs k).map (·.2)):=by
 induction r with
 | nil=>exact True.intro
 | @cons p q g a h t d=>
  obtain⟨h1,_,f⟩:=h
  by_cases e:p.1=k
  ·have c:q.1=k:=h1.symm.trans e;have b:atKey (q::a) k=some q.2:=by simp[atKey,find?_cons,c]
   rw[cB e,b];exact f
  ·have c:¬ q.1=k:=λz=>e<|h1.trans z;have b:atKey (q::a) k=atKey a k:=by simp[atKey,find?_cons,c]
   rw[ck e,b];exact d
def KT.NK {H:Hp}(r:KT H kvs xs)(k:List Key){y:V}{u:Value}(ry:RelV y u) :
  KT H (kvs.map λkv=>if kv.1=k then (kv.1,y) else kv) (xs.map<|putAt k u):=by
 induction r with
 | nil=>exact .nil
 | @cons p q f d h t b=>
  rw[rr,rr];refine .cons ?_ b;obtain⟨h1,a,c⟩:=h;unfold putAt
  by_cases e:p.1=k
  ·rw[if_pos e,if_pos<|h1.symm.trans e];exact⟨h1,a,ry⟩
  ·rw[if_neg e,if_neg λz=>e<|h1.trans z];exact⟨h1,a,c⟩
def KT.put {H:Hp}(r:KT H kvs xs)(k:List Key){b:Addr}{y:V}{u:Value}(hb:H b=some (.tup<|k.map kV))(ry:RelV y u) :
  KT H (putK kvs k y) (storedH xs k b u):=by
 have e:(kvs.any λkv=>decide<|kv.1=k)=(atKey xs k).isSome:=by
  rw[ij,(r.val k).jb,isSome_map]
 unfold putK storedH;rw[e]
 by_cases q:(atKey xs k).isSome=true
 ·rw[if_pos q,if_pos q];exact r.NK k ry
 ·rw[if_neg q,if_neg q];exact Paired.snoc r ⟨rfl,hb,ry⟩
def KT.keeps {H H':Hp}(r:KT H kvs xs)(ht:∀ b ys,H b=some (.tup ys)->H' b=some (.tup ys)):KT H' kvs xs:=
 Paired.MX r λ_ _ z=>⟨z.1,ht _ _ z.2.1,z.2.2⟩
variable {H:Hp}{h:Heap}
def Lv {u:HO}(ok:ia P w H h)(e:Rd H a u):bB P w H h a u:=e.ok ok
variable {kvs:List (Key × V)}
def vA (ok:ia P w H h)(e:Rd H a (.dK kvs)):kvs.length<=sizeLine/\(a == sysModules)=false/\∃ vs,KV kvs vs/\h.DictOf (bW P w) a vs:=
 show bB P w H h a (.dK kvs) from Lv ok e
def Lw (ok:ia P w H h)(e:H a=some (.dK kvs)):kvs.length<=sizeLine/\(a == sysModules)=false/\∃ vs,KV kvs vs/\h.DictOf (bW P w) a vs:=vA ok<|.inl e
def tf {ks:List Key}(ok:ia P w H h)(e:H a=some (.tup<|ks.map kV)):(tupleKind<|bW P w).is h ks a:=by
 obtain⟨_,b,r,o,h1,c,n,d⟩:=(show bB P w H h a (.tup<|ks.map kV) from ok a _ e)
 exact⟨o,b.toArray,n,h1,c,d,by simpa using rk r⟩
variable {kvs:List (List Key × V)}
def Ai (ok:ia P w H h)(e:Rd H a (.dT kvs)):kvs.length<=sizeLine/\(a == sysModules)=false/\
  ∃ xs,KT H kvs xs/\h.DictOfH (tupleKind<|bW P w) a xs:=by
 obtain⟨z,y,xs,r,o,d,i,h1,g,j,f,b⟩:=(show bB P w H h a (.dT kvs) from Lv ok e)
 refine⟨z,y,xs,r,o,d,i,h1,g,j,f,λx hx=>?_,b⟩;have all:∀ {l:List (List Key × V)} {m:List (List Key × Addr × Value)},KT H l m->∀ x∈m,(tupleKind<|bW P w).is h x.1 x.2.1:=by
  intro l m q
  induction q with
  | nil=>intro x hx;exact nomatch hx
  | @cons p q n s hq t c=>
   intro x hx
   rcases gd.mp hx with e | hx
   ·subst e;exact tf ok (by rw[<-hq.1];exact hq.2.1)
   ·exact c x hx
 exact all r x hx
def P6 (ok:ia P w H h)(e:H a=some (.dT kvs)):kvs.length<=sizeLine/\(a == sysModules)=false/\
  ∃ xs,KT H kvs xs/\h.DictOfH (tupleKind<|bW P w) a xs:=Ai ok<|.inl e
def ik (H:Hp)(a:Addr)(y:V)(r:Option V):Prop:=
 (∃ kvs k,Rd H a (.dK kvs)/\y=kV k/\r=cP kvs k)∨∃ kvs k b,Rd H a (.dT kvs)/\y=.ref b/\H b=some (.tup<|k.map kV)/\r=cP kvs k
def pZ (H:Hp)(a:Addr)(y v:V)(H':Hp):Prop:=
 (∃ kvs k,H a=some (.dK kvs)/\y=kV k/\kvs.length<sizeLine/\H'=upd H a (.dK<|putK kvs k v))∨
 ∃ kvs k b,H a=some (.dT kvs)/\y=.ref b/\H b=some (.tup<|k.map kV)/\kvs.length<sizeLine/\H'=upd H a (.dT<|putK kvs k v)
theorem ik.k {H:Hp}{a:Addr}{kvs:List (Key × V)}{k:Key}(e:H a=some (.dK kvs)):ik H a (kV k) (cP kvs k):=.inl ⟨kvs,k,.inl e,rfl,rfl⟩
theorem pZ.k {H:Hp}{a:Addr}{kvs:List (Key × V)}{k:Key}{v:V}(e:H a=some (.dK kvs))(hl:kvs.length<sizeLine):pZ H a (kV k) v (upd H a<|.dK<|putK kvs k v):=.inl ⟨kvs,k,e,rfl,hl,rfl⟩
variable {X:Cx}{pins:aO0}{s:Shared}{σ:St}
def Inv.big (I:Inv X pins σ H s):sysModules<s.heap.objs.size:=by
 have h:mainGlobals<s.heap.objs.size:=(I.mod.glob.keeps I.bk).lt;exact Vf ad h
variable {y v:V}{u:Value}{A:Around}{E:Value->Shared->Prop}
def B4 {Q:Value->Shared->Prop}(hu:A.units+1<cLine)(I:Inv X pins σ H s)(g:ik H a y (some v))(ry:RelV y u)(h:∀ w' s',Inv X pins σ H s'->RelV v w'->Q w' s') :
  wpAny (model X.prog X.w) A (getItem (.ref a) u) Q E s:=by
 rcases g with ⟨m,k,e,i,l⟩ | ⟨m,k,b,e,i,x,l⟩
 ·subst i;obtain⟨z,q,r,d,f⟩:=vA I.aY e;obtain⟨w',hw,c⟩:=gL.some_of (v:=v) (o:=valueAt r k) (by rw[l];exact d.val k)
  exact wpAny_getItem_of (rj ry) f.mapOf hw<|h w' _ (I.tok _) c
 ·subst i
  cases (show u=Value.ref b from ry)
  obtain⟨z,q,t,d,f⟩:=Ai I.aY e;obtain⟨w',hw,c⟩:=gL.some_of (v:=v) (o:=(atKey t k).map (·.2)) (by rw[l];exact d.val k)
  obtain⟨p,n,j⟩:=Option.map_eq_some_iff.mp hw;refine wpAny_getItem_heap (tupleKind_room_in1 hu) (tf I.aY x) f n ?_;rw[j];exact h w' _ (I.tok _) c
def Tg {Q:Value->Shared->Prop}(hu:A.units+1<cLine)(I:Inv X pins σ H s)(g:ik H a y o)(ry:RelV y u)(h:∀ s',Inv X pins σ H s'->Q (.bool o.isSome) s') :
  wpAny (model X.prog X.w) A (compareOp .In u<|.ref a) Q E s:=by
 rcases g with ⟨f,k,e,d,l⟩ | ⟨f,k,b,e,d,m,l⟩
 ·subst d;obtain⟨z,i,p,c,j⟩:=vA I.aY e;refine wpAny_in_of (rj ry) i j.mapOf ?_;rw[<-(c.val k).jb,<-l];exact h _<|I.tok _
 ·subst d
  cases (show u=Value.ref b from ry)
  obtain⟨z,i,n,c,j⟩:=Ai I.aY e;refine wpAny_in_heap (tupleKind_room_in1 hu) (tf I.aY m) i j ?_;have q:=(c.val k).jb;rw[isSome_map] at q;rw[<-q,<-l];exact h _<|I.tok _
def Aj {h':Heap}{t':Nat}{ob:HO}(I:Inv X pins σ H s)(mu:PJ (H a))(hs:SameBut a s.heap h')(he:∃ q,h'.get? a=some q)(new:bB X.prog X.w (upd H a ob) h' a ob) :
  Inv X pins σ (upd H a ob) {s with heap:=h',toks:=t'}:=
 I.write (x:=a) (e:=a) mu (.inl rfl) (λb q hb z=>(hs.2 b hb).trans z) he new
variable {kvs:List (Key × V)}
def NL {H':Hp}{h':Heap}{vs:List (Key × Value)}(z:kvs.length<=sizeLine)(hd:(a == sysModules)=false)(rel:KV kvs vs)(dd:h'.DictOf (bW P w) a vs) :
  bB P w H' h' a (.dK kvs):=⟨z,hd,vs,rel,dd⟩
variable {r:Value}
def B5 {H':Hp}{Q:Unit->Shared->Prop}(hu:A.units+1<cLine)(I:Inv X pins σ H s)(g:pZ H a y v H')(ry:RelV y u)(rv:RelV v r)(h:∀ s',Inv X pins σ H' s'->Q () s') :
  wpAny (model X.prog X.w) A (setItem (.ref a) u r) Q E s:=by
 rcases g with ⟨d,k,e,p,l,t⟩ | ⟨d,k,b,e,p,C,l,t⟩
 ·subst p t;obtain⟨z,j,G,f,m⟩:=Lw I.aY e;have hz:G.length<=sizeLine:=by rw[<-f.length];exact z
  have n:(putK d k v).length<=sizeLine:=by have:=mn d k v;omega
  refine wpAny_setItem_pairs (hsz:=hz) (rj ry) m λx i o=>h _ ?_;have he:∃ q,x.get? a=some q:=let ⟨q,_,_,hq,_⟩:=i;⟨q,hq⟩;exact Aj I (by rw[e];exact True.intro) o he<|NL n j (f.put k rv) i
 ·subst p t
  cases (show u=Value.ref b from ry)
  obtain⟨z,j,K,f,m⟩:=P6 I.aY e;have hz:K.length<=sizeLine:=by rw[<-Paired.length f];exact z
  have n:(putK d k v).length<=sizeLine:=by have:=mn d k v;omega
  refine wpAny_setItem_heap (hsz:=hz) (tupleKind_room_in1 hu) (tf I.aY C) m λx i o=>h _ ?_;obtain⟨q,F,M,hq,L,N,J,_,D⟩:=i;refine Aj I (by rw[e];exact True.intro) o ⟨q,hq⟩ ⟨n,j,_,(f.put k C rv).keeps λc O B=>?_,q,F,M,hq,L,N,J,D⟩
  rw[aB (fK B e λz=>nomatch z)];exact B
def P7 {Q:Value->Shared->Prop}(I:Inv X pins σ H s)(e:Rd H a (.dK kvs))(h:∀ t s',Inv X pins σ H s'->Q (.int kvs.length t) s'):wpAny (model X.prog X.w) A (call (.builtin "len") [.ref a]) Q E s:=by
 obtain⟨z,c,f,b,d⟩:=vA I.aY e;refine call_len_dict c d (by rw[<-b.length];rw[sizeLine_eq] at z;omega) ?_
 rw[<-b.length];exact h _ _<|I.tok _
def Jp (i:Expr):Prop:=∀ ov iv,subscripted i false ov iv=operate [ov,iv] (getItem ov iv)
variable {value:Expr}
def Ak {prog:Program}{env:Env}{slice:Expr}{pos:Pos}{T id:String}{Q:Value->Shared->Prop}
  (hl:typeLookup (.type T) "__getitem__"=pure (some<|.builtin id)) (hs:Jp slice)
  (h:wpAny (model prog w) A (eval value env) (λo s₁=>wpAny (model prog w) A (eval slice env) (λi s₂=>s₂.TypeIs o T/\wpAny (model prog w) A (getItem o i) Q E s₂) E s₁) E s) :
  wpAny (model prog w) A (eval (.Subscript value slice pos) env) Q E s:=by
 refine Subscript_<|xF h (λo s₁ e=>xF e (λi s₂ b=>?_) λ_ _ x=>x) λ_ _ x=>x;obtain⟨d,b⟩:=b;unfold subscriptTail;refine b7 ?_;rw[getitemInPython_of_ne d.not_modules];refine b7<|wpAny_specialOf d hl ?_;have a:wpAny (model prog w) A (subscripted slice false o i) (λr c=>wpAny (model prog w) A (letTemporaryGo value o r >>= λ_=>pure r) Q E c) E s₂:=by
  rw[hs o i];exact wpAny_operating (xF b (λr c f=>b7<|wpAny_letTemporaryGo<|ey f) λ_ _ x=>x)
 first
  | exact ey<|b7 a
  | exact b7<|ey<|b7 a
  | exact b7 a
def vB {σ:St}(I:Inv X pins σ H s)(g:ik H a y o):s.TypeIs (.ref a) "dict":=by
 rcases g with ⟨c,k,e,_,_⟩ | ⟨c,k,b,e,_,_,_⟩
 ·obtain⟨_,_,h,_,d⟩:=vA I.aY e;exact d.typeIs
 ·obtain⟨_,_,f,_,d⟩:=Ai I.aY e;exact d.typeIs
def Er (td ty:TE):TE:=λσ H Q=>td σ H λx H1=>ty σ H1 λy b=>∃ a v,x=.ref a/\ik b a y (some v)/\Q v b
def Jq (ty td:TE):TE:=λσ H Q=>ty σ H λy H1=>td σ H1 λx b=>∃ a o,x=.ref a/\ik b a y o/\Q (.bl o.isSome) b
def Es (td ty tv:TE):TS:=λD σ H=>tv σ H λv H1=>td σ H1 λx c=>ty σ c λy b=>∃ a H4,x=.ref a/\pZ b a y v H4/\D.nx σ H4
variable {o i:Expr}{pos:Pos}{td ty:TE}
def Jr (hu:X.A.units+1<cLine)(ho:PE X o td)(hi:PE X i ty)(hs:Jp i):PE X (.Subscript o i pos) (Er td ty):=by
 intro b s σ H Q I h;refine Ak PySem.F.slot_dict_getitem.lookup hs<|bU (ho b s σ H _ I h) λu q ⟨x,H1,f,l,m⟩=>bU (hi b q σ H1 _ f m) λt w ⟨y,r,d,n,a,v,j,g,p⟩=>?_;subst j;obtain rfl:u=Value.ref a:=l;exact⟨vB d g,B4 hu d g n λB z e c=>⟨v,r,e,c,p⟩⟩
def Et (hu:X.A.units+1<cLine)(hi:PE X i ty)(ho:PE X o td):PC X .In i o (Jq ty td):=by
 intro b s σ H Q I h;refine bU (hi b s σ H _ I h) λt p ⟨y,H1,d,f,j⟩=>bU (ho b p σ H1 _ d j) λu v ⟨x,r,q,l,a,n,e,g,m⟩=>?_;subst e;obtain rfl:u=Value.ref a:=l;exact Tg hu q g f λw c=>⟨.bl n.isSome,r,c,rfl,m⟩
variable {pos':Pos}{tv:TE}
def Js (hu:X.A.units+1<cLine)(ho:PE X o td)(hi:PE X i ty)(hv:PE X value tv)(hs:swapsWith value (some<|.Subscript o i pos') pos.line X.env=pure false) :
  PS X (.Assign [.Subscript o i pos'] value pos) (Es td ty tv):=by
 intro b s σ H D I h;refine wpAny_Assign_Subscript (bU (hv b s σ H _ I h) λr w ⟨v,H1,e,t,l⟩=>bU (ho b w σ H1 _ e l) λu q ⟨x,B,z,j,n⟩=>bU (hi b q σ B _ z n) λF G ⟨y,E,d,m,a,p,f,g,c⟩=>?_) hs;subst f;obtain rfl:u=Value.ref a:=j;exact B5 hu d g m t λJ C=>⟨σ,p,C,c⟩
def Eu (h:Heap)(hb:sysModules<h.objs.size):bB P w H (h.push {cls:=.type "dict",data:=.dict #[]}) h.objs.size (.dK []):=
 ⟨zero_le _,A5.mpr<|Ne.symm<|j6 hb,[],.nil,Heap.DictOf.new h⟩
def ym:TE:=λ_ H Q=>∀ p,H p=none->Q (.ref p) (upd H p<|.dK [])
def Ew:PE X (.Dict [] [] pos) ym:=λb s σ H Q I h=>
 wpAny_Dict_empty ⟨.ref s.heap.objs.size,_,I.laid (a:=s.heap.objs.size) (o:=.dK []) (t':=s.toks) (λ_ _ q=>c8 _ q) (ea _)<|Eu s.heap I.big,rfl,h _<|I.aY.fresh<|ea _⟩
def rl (scope osc:Scope):Scope:=
 {scope with names:=scope.names.map λ(n,k)=>if (k == .free&&osc.kind == .function&&osc.names.lookup n == some .cell) then (n,.cell) else (n,k)}
def fI (env:Env):List (Str × NameKind)->List (Str × Addr)->List (Str × Addr)
 | [],a=>a
 | (n,k)::r,a=>if (k == NameKind.free)=true then fI env r ((n,(env.cells.lookup n).getD 0)::a) else fI env r a
theorem jt {env:Env}:∀ (names:List (Str × NameKind)) (cs:List (Str × Addr)),(∀ x∈names,x.2=.free->∃ c,env.cells.lookup x.1=some c)->
  (forIn names cs λ(x:Str × NameKind) (r:List (Str × Addr))=>if (x.2 == NameKind.free)=true then (do let y<-cellOf env x.1;pure (ForInStep.yield ((x.1,y)::r))) else (pure (ForInStep.yield r):Sem _))=(pure (fI env names cs):Sem _)
 | [],cs,_=>rfl
 | (n,k)::r,cs,h=>by
  have e:=λb=>jt (env:=env) r b λx hx=>h x<|fA _ hx;rw[forIn_cons]
  by_cases hk:(k == NameKind.free)=true
  ·obtain⟨c,hc⟩:=h (n,k) eR (by simpa using hk)
   have a:env.cells.lookup n=some c:=hc;have f:cellOf env n=(pure c:Sem Addr):=by unfold cellOf;rw[a]
   simp only[hk,if_true,f,pure_bind];rw[e];have d:fI env ((n,k)::r) cs=fI env r ((n,c)::cs):=by
    show (if (k == NameKind.free)=true then fI env r ((n,(env.cells.lookup n).getD 0)::cs) else fI env r cs)=_
    rw[if_pos hk,a]<;>rfl
   rw[d]
  ·simp only[hk,if_false,pure_bind];show (forIn r cs _:Sem _)=_;rw[e];have d:fI env ((n,k)::r) cs=fI env r cs:=by
    show (if (k == NameKind.free)=true then fI env r ((n,(env.cells.lookup n).getD 0)::cs) else fI env r cs)=_
    rw[if_neg hk]
   rw[d]
def p0 {scope:Scope}{env:Env}(h:∀ x∈scope.names,x.2=.free->∃ c,env.cells.lookup x.1=some c):closureFor scope env=pure (fI env scope.names []):=by
 have q:=jt scope.names [] h;show ((forIn scope.names ([]:List (Str × Addr)) λ(x:Str × NameKind) (r:List (Str × Addr))=>if (x.2 == NameKind.free)=true then (do let y<-cellOf env x.1;pure (ForInStep.yield ((x.1,y)::r))) else (pure (ForInStep.yield r):Sem _)) >>= λa=>pure a)=_
 rw[q,pure_bind]
theorem nU {env:Env}:∀ (names:List (Str × NameKind)) (cs:List (Str × Addr)),(∀ x∈names,x.2=.free->∃ c,env.cells.lookup x.1=some c)->(∀ x c,cs.lookup x=some c->env.cells.lookup x=some c)->
  ∀ x c,(fI env names cs).lookup x=some c->env.cells.lookup x=some c
 | [],_,_,h,x,c,e=>h x c e
 | (n,k)::r,cs,f,h,x,c,e=>by
  have b:∀ x∈r,x.2=.free->∃ c,env.cells.lookup x.1=some c:=λx hx=>f x<|fA _ hx;unfold fI at e
  by_cases hk:(k == NameKind.free)=true
  ·rw[if_pos hk] at e;obtain⟨g,hc⟩:=f (n,k) eR (by simpa using hk)
   have a:env.cells.lookup n=some g:=hc;refine nU r _ b (λy d q=>?_) x c e;rw[Sh] at q
   cases hy:y == n with
   | true=>
    rw[hy] at q
    have:y=n:=by simpa using hy
    subst this;rw[a] at q
    cases q
    exact a
   | false=>rw[hy] at q;exact h y d q
  ·rw[if_neg hk] at e;exact nU r cs b h x c e
theorem lq {env:Env}:∀ (names:List (Str × NameKind)) (cs:List (Str × Addr)) (x:Str),(∃ c,cs.lookup x=some c)->∃ c,(fI env names cs).lookup x=some c
 | [],_,_,h=>h
 | (n,k)::r,cs,x,h=>by
  unfold fI
  split
  ·refine lq r _ x ?_;rw[Sh]
   cases hy:x == n with
   | true=>exact⟨_,rfl⟩
   | false=>exact h
  ·exact lq r cs x h
theorem kh {env:Env}:∀ (names:List (Str × NameKind)) (cs:List (Str × Addr)) (x:Str),(x,NameKind.free)∈names->∃ c,(fI env names cs).lookup x=some c
 | [],_,_,h=>(nomatch h)
 | (n,k)::r,cs,x,h=>by
  unfold fI
  rcases gd.mp h with e | h
  ·cases e
   rw[if_pos (by rfl)]
   exact lq r _ _ ⟨_,by rw[Sh,Vm]⟩
  ·split
   ·exact kh r _ x h
   ·exact kh r cs x h
structure Pw (osc:Scope)(oN N:List Str)(scope:Scope)(fv:List (Option Nat)):Prop where
 kind:scope.kind=.function
 Uy:osc.kind=.function
 zE:∀ y∈scope.names,y.2≠.cell
 loc:∀ y∈scope.names,y.2=.local->scope.names.lookup y.1=some .local
 Uz:∀ y∈scope.names,y.2=.free->osc.names.lookup y.1=some .cell
 own:∀ y∈(rl scope osc).names,y.2≠.free
 len:fv.length=N.length
 up:∀ (i j:Nat),i<20->fv[i]?=some (some j)->oN[j]?=N[i]?/\∀ x,N[i]?=some x->(rl scope osc).names.lookup x=some .cell/\osc.names.lookup x=some .cell
 fC:N.length<20
def yn (fv:List (Option Nat))(σ:St):St:=fv.map λo=>match o with
 | none=>none
 | some j=>(σ[j]?).join
def kj (X:Cx)(N:List Str)(scope:Scope)(cl:List (Str × Addr))(C:Addr)(fp:List Addr)(s:Shared)(H:Hp):Cx where
 prog:=X.prog
 w:=X.w
 K:=X.K
 mg:=X.mg
 base:=X.base
 A:=X.A
 N:=N
 s₀:=s
 H₀:=H
 env:=compEnvC scope cl C X.env
 outer:=X.stack
 stack:=X.stack
 ex:=fp
 fn:=λ_=>false
 calm:=true
 pn:=[]
 xe:=λ_ _=>False
def Lx (Y:Cx)(ifs:List Expr)(t:TT):Prop:=
 ∀ (pins:aO0) (s:Shared) (σ:St) (H:Hp) (Q:Bool->Hp->Prop),Inv Y pins σ H s->t σ H Q->
  wpAny (model Y.prog Y.w) Y.A (forIn ifs true λc r=>if r=true then do let ok<-isTrue c Y.env (eval c Y.env);pure (ForInStep.yield ok) else pure (ForInStep.yield r)) (TP Y pins σ Q) Y.xe s
def il:TT:=λ_ H Q=>Q true H
variable {Y:Cx}
def Jt:Lx Y [] il:=λ_ _ _ H _ I h=>wpAny_tests_nil ⟨H,I,h⟩
def Ju {c:Expr}{t:TT}(h:PT Y c t):Lx Y [c] t:=λa s σ H Q I hw=>wpAny_tests_one<|h a s σ H Q I hw
def vC (g:TG)(tc:TT)(te:TE)(τ0:St)(Q:VK):It->Hp->Prop:=λJ H1=>∀ acc,H1 acc=none->
 ∃ W:Nat->Nat->St->Hp->Prop,(∃ m,W 0 m τ0<|upd H1 acc<|.lst [])/\∀ i m τ H,W i m τ H->
  (J.stop i H/\Q (.ref acc) H)∨(J.go i H/\∃ N:St->Hp->Prop,(∀ τ' H',N τ' H'->∃ m',m' < m/\W (i+1) m' τ' H')/\
   ∀ x H',J.BJ i H x H'->g x τ H' λa e=>tc a e λb c=>if b=true then te a c λv d=>∃ ys,d acc=some (.lst ys)/\ys.length<sizeLine/\N a (upd d acc<|.lst<|ys++[v]) else N a c)
variable {prog:Program}{R:Result->Shared->Prop}{elt target:Expr}{ifs:List Expr}
def ip {iter:Expr}{scope:Scope}{pos:Pos}{it acc:Value}{env:Env}(I:Nat->Shared->Prop)
  (turn:∀ n s,I n s->wpAny (model prog w) A (pyNext it) (λr s₁=>match r with
   | none=>R (.ok .next) s₁
   | some v=>wpAny (model prog w) A (letOwnedTupleGo target it v) (λ_ s₁'=>wpAny (model prog w) A (assign target env v) (λ_ s₂=>
     wpAny (model prog w) A (forIn ifs true λc r=>if r=true then do let ok<-isTrue c env (eval c env);pure (ForInStep.yield ok) else pure (ForInStep.yield r)) (λok s₃=>
      if ok=true then wpAny (model prog w) A (eval elt env) (λx s₄=>
       wpAny (model prog w) A (call (.builtin "list.append") [acc,x]) (λ_ s₅=>∃ m,m<n/\I m s₅) (λ_ _=>False) s₄) (λ_ _=>False) s₃
      else ∃ m,m<n/\I m s₃) (λ_ _=>False) s₂) (λ_ _=>False) s₁') (λ_ _=>False) s₁) (λ_ _=>False) s)
  (n:Nat) (h:I n s) :
  codeAny (model prog w) A (.compLoop (.ListComp elt [⟨target,iter,ifs,0⟩] scope pos) 0 it acc env) R s:=by
 refine codeAny_loop rfl I (λn s f=>?_) n h;show wpAny _ A ((compTurn (.ListComp elt [⟨target,iter,ifs,0⟩] scope pos) 0 it acc env).onRaise (λx=>do noteFrame x env;theTreesLotGoes x)) _ _ s
 refine wpAny_noted ?_;rw[compTurn_list];refine b7<|wpAny_standAt<|b7<|xF (turn n s f) (λr s₁ d=>?_) λ_ _ a=>a.elim
 cases r with
 | none=>exact ey d
 | some v=>
  refine b7<|xF d (λ_ s₁' b=>?_) λ_ _ a=>a.elim;refine b7<|xF b (λ_ s₂ i=>b7<|xF i (λok s₃ e=>?_) λ_ _ a=>a.elim) λ_ _ a=>a.elim
  cases ok with
  | false=>exact ey ⟨rfl,e⟩
  | true=>
   exact b7<|b7<|xF e (λx s₄ g=>b7<|xF g (λ_ s₅ j=>ey<|ey ⟨rfl,j⟩) λ_ _ a=>a.elim) λ_ _ a=>a.elim
def vD {σ:St}{j:Nat}(h:(σ[j]?).join=some v):σ[j]?=some (some v):=by
 cases e:σ[j]? with
 | none=>rw[e] at h;cases h
 | some o=>rw[e] at h;exact Re some h
variable {scope:Scope}{N:List Str}{fv:List (Option Nat)}
def Jv {σ:St}{s4:Shared}{fp:List Addr}{C:Addr}{m:Str->Option Value}(hc:X.calm=true)(S:Pw X.env.scope X.N N scope fv)(I:Inv X pins σ H s)(hC:s.heap.objs.size<=C)
  (hf:∀ b∈fp,b<s.heap.objs.size/\j2 X pins H b) (hk:∀ b o,s.heap.get? b=some o->s4.heap.get? b=some o) (hn:s4.heap.Ns C m) (hos:s4.os=s.os) (hg:s4.gens=s.gens) :
  Inv (kj X N scope (fI X.env scope.names []) C fp s H) [] (yn fv σ) H s4:=by
 have D:∀ x∈scope.names,x.2=.free->∃ c,X.env.cells.lookup x.1=some c:=λx hx e=>I.ok.has x.1<|.inl<|S.Uz x hx e;have g:=nU scope.names [] D λ_ _ e=>nomatch e;have Q:=I.sz;have fresh:∀ a,s.heap.objs.size<=a->H a=none:=λa ha=>I.aY.fresh ha;refine⟨⟨I.ok.mod,S.kind,I.ok.glob,I.ok.blt,hC,λx y c M t=>I.ok.inj x y c (g x c M)<|g y c t,λx hx=>?_,λx c z _=>(nomatch z),λ_=>I.ok.hd hc,I.ok.frames,.inl rfl,λb hb=>⟨?_,λx c e=>(hf b hb).2.2.2.2.2.1 x c<|g x c e⟩,
   I.bs,fz I.ok.Ib Q,λb o e hb=>?_,λb hb z=>?_,I.stack,I.nh⟩,
  hos,?_,Un.kept hk,⟨m,hn,λi x v M t e3=>?_⟩,λx c e=>?_,fresh C hC,λx c e=>I.fH x c<|g x c e,λp Z=>absurd (show p∈([]:aO0) from Z) (by simp),I.aY.kept hk,?_⟩
 ·have O:(rl scope X.env.scope).names.lookup x=some .cell∨(rl scope X.env.scope).names.lookup x=some .free:=hx
  rcases O with e | e
  ·have hm:=F8 e;obtain⟨⟨n,k⟩,h,T⟩:=j9.mp hm;have f:(if (k == NameKind.free&&X.env.scope.kind == .function&&X.env.scope.names.lookup n == some .cell)=true then (n,NameKind.cell) else (n,k))=(x,NameKind.cell):=T
   by_cases d:(k == NameKind.free&&X.env.scope.kind == .function&&X.env.scope.names.lookup n == some .cell)=true
   ·rw[if_pos d] at f;have U:n=x:=Re Prod.fst f;have B:k=NameKind.free:=by
     rw[ef,ef] at d
     simpa using d.1.1
    subst U B;exact kh scope.names [] n h
   ·rw[if_neg d] at f;have B:k=NameKind.cell:=Re Prod.snd f;exact absurd B<|S.zE _ h
  ·exact absurd rfl<|S.own _<|F8 e
 ·exact j6<|gg (hf b hb).1 hC
 ·rcases(hf b hb).2.2.2.2.1 with z | z
  ·exact I.ok.xl b o e z
  ·exact absurd (gg (lt_size e)<|fz I.ok.Ib z)<|I1 _
 ·rcases gd.mp (I.sG b z) with q | q
  ·exact(hf b hb).2.2.1 q
  ·exact(hf b hb).2.2.2.1 q
 ·show AllBare s4.gens;rw[hg];exact I.bare
 ·have Y:i<fv.length:=by
   have:=(ka.mp t).1
   unfold yn at this
   rwa [b5] at this
  have G:i<20:=by have:=S.fC;have:=S.len;omega
  unfold yn at t;rw[et] at t
  cases R:fv[i]? with
  | none=>rw[R] at t;cases t
  | some o=>
   rw[R] at t
   cases o with
   | none=>cases t
   | some j=>
    have P:(σ[j]?).join=some v:=tx t;have hσ:=vD P;obtain⟨U,hx⟩:=S.up i j G R;obtain⟨F,K⟩:=hx x M;obtain⟨mX,hnX,hl⟩:=I.loc;obtain⟨u,r,l⟩:=hl j x v (U.trans M) hσ<|.inr<|.inl K;refine⟨u,r,?_⟩
    rcases l with ⟨k,_⟩ | ⟨k,c,ec,cl⟩
    ·have w:X.env.scope.names.lookup x=some .local:=k;rw[K] at w
     cases w
    ·obtain⟨E,A,L⟩:=cl;have hm:(x,NameKind.free)∈scope.names:=by
      have hm:=F8 F;obtain⟨⟨n,w⟩,h,T⟩:=j9.mp hm;have f:(if (w == NameKind.free&&X.env.scope.kind == .function&&X.env.scope.names.lookup n == some .cell)=true then (n,NameKind.cell) else (n,w))=(x,NameKind.cell):=T
      by_cases d:(w == NameKind.free&&X.env.scope.kind == .function&&X.env.scope.names.lookup n == some .cell)=true
      ·rw[if_pos d] at f;have W:n=x:=Re Prod.fst f;have B:w=NameKind.free:=by
        rw[ef,ef] at d
        simpa using d.1.1
       subst W B;exact h
      ·rw[if_neg d] at f;have B:w=NameKind.cell:=Re Prod.snd f;exact absurd B<|S.zE _ h
     obtain⟨c',J⟩:=kh (env:=X.env) scope.names [] x hm
     have:=g x c' J
     rw[ec] at this
     cases this
     exact .inr ⟨.inl F,c,J,E,hk c E A,L⟩
 ·obtain⟨v,E,A,L⟩:=I.cell x c<|g x c e;exact⟨v,E,hk c E A,L⟩
 ·show (yn fv σ).length=N.length;unfold yn;rw[b5];exact S.len
variable {iter:Expr}{g:TG}{tc:TT}{te:TE}{Q:VK}{wi:TI}
def rn (hc:X.calm=true)(hi:PI X target iter wi)(S:Pw X.env.scope X.N N scope fv)
  (hB:∀ cl C fp s H,PG (kj X N scope cl C fp s H) target g/\Lx (kj X N scope cl C fp s H) ifs tc/\PE (kj X N scope cl C fp s H) elt te)
  {σ:St} (I:Inv X pins σ H s) {use:Option (Value->Sem Unit)} {Post:Value->Shared->Prop} {p2:Pos}
  (h:wi σ H (vC g tc te (yn fv σ) Q))
  (hPost:∀ (acc C:Addr) (s':Shared) (H':Hp) (m:Str->Option Value),Inv X pins σ H' s'->s'.heap.Ns C m->j2 X pins H' C->Q (.ref acc) H'->compPost (model X.prog X.w) X.A X.xe use Post (.ref acc) C (.ok .next) s')
  (hs:∀ x,foldedSetIterable iter X.env x=pure x) :
  wpAny (model X.prog X.w) X.A (comprehension (.ListComp elt [⟨target,iter,ifs,0⟩] scope pos) scope X.env p2 (newList []) false (eval iter X.env) use) Post X.xe s:=by
 have G:∀ x∈scope.names,x.2=.free->∃ c,X.env.cells.lookup x.1=some c:=λx hx e=>I.ok.has x.1<|.inl<|S.Uz x hx e;refine wpAny_comprehension_free (use:=use) rfl hs (p0 G) S.kind S.loc<|bU (hi pins s σ H _ I h) λxv s1 h1=>bU h1 λitv a h2=>?_;obtain⟨it,fp,tn,J,M,e,I2,T,D,f2,rd⟩:=h2;subst e;have a0:M a.heap.objs.size=none:=I2.fresh;obtain⟨W,⟨m0,w0⟩,U⟩:=rd a.heap.objs.size a0;refine Vg (wpAny_newFunctionEnv S.zE (by intro y hy;simp at hy) (λh₁ j t=>?_) S.kind)
 dsimp only at j t ⊢
 have IA:Inv X pins σ (upd M a.heap.objs.size<|.lst []) {a with heap:=a.heap.push {cls:=.type "list",data:=.seq ([]:List Value).toArray}}:=I2.P4 (t':=a.toks) .nil<|zero_le _;generalize R:a.heap.push {cls:=.type "list",dict:=none,data:=.seq ([]:List Value).toArray}=hA at j t IA ⊢;have P:hA.objs.size=a.heap.objs.size+1:=by rw[<-R,C5]
 have aR:∀ b o,a.heap.get? b=some o->hA.get? b=some o:=λb o e=>by rw[<-R];exact c8 _ e
 have E:∀ b o,hA.get? b=some o->h₁.get? b=some o:=λb o e=>t.extBut b o (j6<|lt_size e)<|c8 _ e;have aD:∀ b∈fp,b<a.heap.objs.size:=λb hb=>by
  obtain⟨o,e,_⟩:=T.obj 0 _ D b hb;exact lt_size e
 have K:∀ b∈fp,b<hA.objs.size/\j2 X pins (upd M a.heap.objs.size<|.lst []) b:=λb hb=>⟨by rw[P];exact Vp<|aD b hb,by rw[aB (j6<|aD b hb)];exact(f2 b hb).1,(f2 b hb).2⟩
 let sA:Shared:={a with heap:=hA}
 let Y:Cx:=kj X N scope (fI X.env scope.names []) hA.objs.size fp sA<|upd M a.heap.objs.size<|.lst []
 obtain⟨hG,hIf,hE⟩:=hB (fI X.env scope.names []) hA.objs.size fp sA<|upd M a.heap.objs.size<|.lst [];have B:∀ s4:Shared,s4={a with heap:=h₁,toks:=a.toks+([]:List (Str × Value)).length}->
   codeAny (model X.prog X.w) X.A (.compLoop (.ListComp elt [⟨target,iter,ifs,0⟩] scope pos) 0 (.ref it) (.ref a.heap.objs.size)<|compEnvC scope (fI X.env scope.names []) hA.objs.size X.env)
    (compPost (model X.prog X.w) X.A X.xe use Post (.ref a.heap.objs.size) hA.objs.size) s4:=by
  rintro s4 rfl;have IY:Inv Y [] (yn fv σ) (upd M a.heap.objs.size<|.lst []) {a with heap:=h₁,toks:=a.toks+([]:List (Str × Value)).length}:=
   Jv hc S IA (ea _) K E j rfl rfl
  have f:∀ {H':Hp},(∀ b∈fp,H' b=none)->∀ b∈fp,j2 Y [] H' b:=λhn b hb=>
   ⟨hn b hb,(IY.ok.PF b hb).1,IY.ok.zG b hb,.inl hb,(IY.ok.PF b hb).2,λp hp=>absurd (show p∈([]:aO0) from hp) (by simp)⟩
  refine ip (λn s'=>∃ i τ H',Inv Y [] τ H' s'/\tn i s'.heap/\(∀ b∈fp,H' b=none)/\W i n τ H') ?_ m0
   ⟨0,yn fv σ,_,IY,T.keep _ _ _ D λb hb o e=>E b o<|aR b o e,λb hb=>(K b hb).2.1,w0⟩
  rintro n s5 ⟨i,τ,H5,I5,aF,ab,w5⟩
  rcases U i n τ H5 w5 with ⟨Z,q⟩ | ⟨go,NN,hN,step⟩
  ·refine xF (T.done Y rfl rfl rfl rfl i [] s5 τ H5 (λ_ _=>False) I5 (f ab) aF Z) (λr s6 ⟨hr,L⟩=>?_) λ_ _ z=>z;subst hr;obtain⟨m6,hn6,_⟩:=id L.loc;have IX:Inv X pins σ H5 s6:=IA.zU L.os L.base L.aY L.bare λb hb=>⟨(K b hb).2.2.2.2.1,(K b hb).2.2.1,(K b hb).2.2.2.2.2.1,(K b hb).2.2.2.2.2.2⟩;exact hPost _ _ _ _ m6 IX hn6 (IA.xV (ea _) L.free) q
  ·refine xF (T.item Y rfl rfl rfl rfl i [] s5 τ H5 (λ_ _=>False) I5 (f ab) aF go) (λr s6 ⟨u,hr,h6⟩=>?_) λ_ _ z=>z;subst hr;refine xF h6 (λ_ s7 ⟨x,H7,I7,r7,y7,F,fr7⟩=>?_) λ_ _ z=>z;have I7':=I7.pinned (f fr7)<|T.obj _ _ F;refine xF (hG _ s7 τ H7 x u _ I7' r7<|step x H7 y7) (λ_ s8 ⟨τ8,H8,I8,q8⟩=>?_) λ_ _ z=>z;refine xF (hIf _ s8 τ8 H8 _ I8 q8) (λb s9 ⟨H9,I9,q9⟩=>?_) λ_ _ z=>z;have l:∀ {O:St} {H':Hp} {s':Shared},Inv Y ([]++nL fp s7.heap) O H' s'->NN O H'->∃ m,m<n/\∃ i τ H',Inv Y [] τ H' s'/\tn i s'.heap/\(∀ b∈fp,H' b=none)/\W i m τ H':=λ{O H' s'} I' n'=>by
    obtain⟨m',hm,w'⟩:=hN O H' n';refine⟨m',hm,i+1,O,H',I'.j3,T.keep _ _ _ F λb hb o e=>(I'.pin (b,o)<|ro _<|ro _<|gM hb e).1,λb hb=>?_,w'⟩;obtain⟨o,e,d⟩:=T.obj _ _ F b hb;exact(I'.pin (b,o)<|ro _<|ro _<|gM hb e).2.1
   cases b with
   | false=>exact l I9 q9
   | true=>
    show wpAny _ _ _ _ _ _;refine xF (hE _ s9 τ8 H9 _ I9 q9) (λv s10 ⟨y,H10,I10,r10,ys,hy,hz,q10⟩=>?_) λ_ _ z=>z;refine xF (bI (X:=Y) _ s10 τ8 H10 (.ref a.heap.objs.size) [y] (.ref a.heap.objs.size) [v] (λ_ H'=>NN τ8 H') I10 rfl (.cons r10 .nil) ⟨_,ys,y,rfl,rfl,hy,hz,q10⟩) (λ_ s11 ⟨_,H11,I11,_,q11⟩=>?_) λ_ _ z=>z;exact l I11 q11
 have st1:tn 0 h₁:=T.keep _ _ _ D λb hb o e=>E b o<|aR b o e;exact codeAny_compStart_list (B _ rfl)<|T.self _ 0 _ _ _ st1<|B _ rfl
def NM (wi:TI)(g:TG)(tc:TT)(te:TE)(fv:List (Option Nat)):TE:=λσ H Q=>wi σ H<|vC g tc te (yn fv σ) Q
def P8 (hc:X.calm=true)(hi:PI X target iter wi)(S:Pw X.env.scope X.N N scope fv)
  (hB:∀ cl C fp s H,PG (kj X N scope cl C fp s H) target g/\Lx (kj X N scope cl C fp s H) ifs tc/\PE (kj X N scope cl C fp s H) elt te)
  (hs:(∀ x,foldedSetIterable iter X.env x=pure x):=by intro _;rfl):PE X (.ListComp elt [⟨target,iter,ifs,0⟩] scope pos) (NM wi g tc te fv):=by
 intro c s σ H Q I h;rw[eval_ListComp];refine rn hc hi S hB I (use:=none) h (λa C p i m t hn u q=>⟨m,hn,λv f=>?_⟩) hs;obtain⟨d,r,w,j,n,l⟩:=u;exact⟨.ref a,i,t.turned (t':=p.toks) (λb o hb e=>f.extBut b o hb e) d r j n l,rfl,q⟩
variable {px spos:Pos}
def P9 {i:Nat}(hN:X.N.Nodup)(hi':X.N[i]?=some x)(hx:X.env.scope.names.lookup x=some .local)(hc:X.calm=true)(hi:PI X target iter wi)(S:Pw X.env.scope X.N N scope fv)
  (hB:∀ cl C fp s H,PG (kj X N scope cl C fp s H) target g/\Lx (kj X N scope cl C fp s H) ifs tc/\PE (kj X N scope cl C fp s H) elt te)
  (hsw:swapsWith (.ListComp elt [⟨target,iter,ifs,0⟩] scope pos) (some<|.Name x px) spos.line X.env=pure true)
  (hs:(∀ x,foldedSetIterable iter X.env x=pure x):=by intro _;rfl):PS X (.Assign [.Name x px] (.ListComp elt [⟨target,iter,ifs,0⟩] scope pos) spos) (sI (NM wi g tc te fv)<|bN i):=by
 intro c s σ H D I h;rw[exec_Assign_Name_used _ _ _ _ hsw];refine b7<|wpAny_standAt<|b7 ?_;show wpAny _ _ (do let _<-comprehension (.ListComp elt [⟨target,iter,ifs,0⟩] scope pos) scope X.env _ (newList []) false (eval iter X.env) (some<|assign (.Name x px) X.env)) _ _ s
 refine b7<|xF (rn hc hi S hB I (use:=some<|assign (.Name x px) X.env) (Post:=λ_ l=>SP X c D .next l) h (λd C l u m B hn E q=>?_) hs) (λ_ l hq=>ey<|ey hq) λ_ _ e=>e;show wpAny _ _ (assign (.Name x px) X.env<|.ref d) _ _ _;refine wpAny_assign_Name<|qO B hN hi' (.inl hx) (show RelV (.ref d) _ from rfl) (λA F ⟨a,f,y⟩=>?_)<|.inr hx
 obtain⟨r,p,J,v,n,w⟩:=E;have j:C≠a:=by
  rcases y with z | z
  ·rw[z];exact p
  ·exact λe=>n x a z e.symm
 refine⟨m,hn.sameBut f j,λG t=>?_⟩;exact⟨_,u,F.turned (t':=A.toks) (λb o hb e=>t.extBut b o hb e) r p v n w,q⟩
def Bt (k:Nat)(i:Int):Prop:=i.natAbs<2 ^ k
variable {i:Int}{m:Nat}
def Bt.mono {k:Nat}(h:Bt k i)(hk:k<=m):Bt m i:=gg h (si ad hk)
variable {a b:Nat}{j:Int}
def Bt.mul (h:Bt a i)(h':Bt b j):Bt (a+b) (i*j):=by
 unfold Bt at *;rw[Int.natAbs_mul,Nat.pow_add];exact Nat.mul_lt_mul'' h h'
def Bt.of_le (h:Bt a i)(h0:0<=j)(h1:j<=i):Bt a j:=by
 unfold Bt at *
 omega
def Bt.ok (h:Bt a i)(h':Bt b j)(hs:a+b<=100000):IntMulOk i j:=
 PySem.IntMulOk.of_le (PySem.intBits_le_iff.mpr h) (PySem.intBits_le_iff.mpr h') (by omega)
def Bt.log (h:Bt a i)(h0:0<i)(ha:a<=9000):i.natAbs.log2<9000:=
 gg ((log2_lt (by omega)).mpr h) ha
def tj (h1:-(2 ^ 64)<i)(h2:i<2 ^ 64):IntMulOk i j:=.of_left<|intBits_le_64 h1 h2
def nV (h1:-(2 ^ 64)<j)(h2:j<2 ^ 64):IntMulOk i j:=.of_right<|intBits_le_64 h1 h2
def dZ:dY X (binaryOp .Mult) (rI IntMulOk λi j=>.int<|i*j):=Nn λ_ _ _ _ _ _ _ hc q=>mul_int q hc
def dC:dY X (binaryOp .FloorDiv) (rI (λ_ j=>0<j/\j.natAbs.log2<9000) λi j=>.int<|i / j):=Nn λi j _ _ _ _ _ hc q=>by
 have h1:(0:Int)<j:=hc.1;exact floordiv_int (by omega) (by rw[Int.fdiv_eq_ediv_of_nonneg i (by omega)];exact q)<|.inl<|PyProof.noPylong_of_log2 hc.2
def tI (f:Int->V)(ta:TE):TE:=λσ H Q=>ta σ H λx H1=>∃ i,x=.int i/\Q (f i) H1
variable {a e:Expr}{ta:TE}{k:Nat}{n:Int}
def Jw (ha:PE X a ta)(h:0<n/\n<1073741824:=by decide):PE X (.BinOp a .FloorDiv (.Constant (.int n) k pos') pos) (tI (λi=>.int<|i / n) ta):=by
 intro b s σ H Q I hq;refine vi IP ha k7 b s σ H Q I ?_;refine(show ∀ t:TE,PE X a t->_ from λ_ _=>?_) ta ha
 exact(show sM (rI Np λi j=>.int<|i / j) ta (tC<|.int n) σ H Q from by
  unfold sM tC rI;unfold tI at hq
  have:(λx H1=>∃ i,x=V.int i/\Q (.int<|i / n) H1)=(λx H1=>∃ i j,x=V.int i/\V.int n=V.int j/\Np i j/\Q (.int<|i / j) H1):=by
   funext x H1
   apply propext
   constructor
   ·rintro⟨i,e,q⟩;exact⟨i,n,e,rfl,h,q⟩
   ·rintro⟨i,j,e,c,_,q⟩;cases c;exact⟨i,e,q⟩
  rw[this] at hq;exact hq)
def Jx (ha:PE X a ta)(h:0<n:=by decide):PE X (.BinOp a .Mod (.Constant (.int n) k pos') pos) (tI (λi=>.int<|i % n) ta):=by
 intro b s σ H Q I hq;refine vi bR ha k7 b s σ H Q I ?_;unfold sM tC rI;unfold tI at hq
 have:(λx H1=>∃ i,x=V.int i/\Q (.int<|i % n) H1)=(λx H1=>∃ i j,x=V.int i/\V.int n=V.int j/\0<j/\Q (.int<|i % j) H1):=by
  funext x H1
  apply propext
  constructor
  ·rintro⟨i,e,q⟩;exact⟨i,n,e,rfl,h,q⟩
  ·rintro⟨i,j,e,c,_,q⟩;cases c;exact⟨i,e,q⟩
 rw[this] at hq;exact hq
def Jy (ha:PE X a ta)(h:-(2 ^ 64)<n/\n<2 ^ 64:=by decide):PE X (.BinOp a .Mult (.Constant (.int n) k pos') pos) (tI (λi=>.int<|i*n) ta):=by
 intro b s σ H Q I hq;refine vi dZ ha k7 b s σ H Q I ?_;unfold sM tC rI;unfold tI at hq
 have:(λx H1=>∃ i,x=V.int i/\Q (.int<|i*n) H1)=(λx H1=>∃ i j,x=V.int i/\V.int n=V.int j/\IntMulOk i j/\Q (.int<|i*j) H1):=by
  funext x H1
  apply propext
  constructor
  ·rintro⟨i,e,q⟩;exact⟨i,n,e,rfl,nV h.1 h.2,q⟩
  ·rintro⟨i,j,e,c,_,q⟩;cases c;exact⟨i,e,q⟩
 rw[this] at hq;exact hq
def Jz (ha:PE X a ta)(h:-(2 ^ 64)<n/\n<2 ^ 64:=by decide):PE X (.BinOp (.Constant (.int n) k pos') .Mult a pos) (tI (λi=>.int<|n*i) ta):=by
 intro b s σ H Q I hq;refine vi dZ k7 ha b s σ H Q I ?_;unfold sM tC rI;unfold tI at hq
 have:(λx H1=>∃ i,x=V.int i/\Q (.int<|n*i) H1)=(λx H1=>∃ i j,V.int n=V.int i/\x=V.int j/\IntMulOk i j/\Q (.int<|i*j) H1):=by
  funext x H1
  apply propext
  constructor
  ·rintro⟨i,e,q⟩;exact⟨n,i,rfl,e,tj h.1 h.2,q⟩
  ·rintro⟨i,j,c,e,_,q⟩;cases c;exact⟨j,e,q⟩
 rw[this] at hq;exact hq
def Ex (hc:X.calm=true):bO X (.builtin "sum") (λxs H Q=>∃ (p:Addr) (ns:List Int),xs=[.ref p]/\au X.K H p (ns.map V.int)/\Q (.int ns.sum) H):=by
 intro e s σ H xs o Q I r h;obtain⟨p,ns,rfl,hq,q⟩:=h;obtain⟨u,rfl,g⟩:=vals1 r
 cases g
 obtain⟨a,i,j,hz⟩:=I.list hq;have f:=intsAre_of i;obtain⟨m,hn,_⟩:=I.loc;have b:s.heap.IsList p a.toArray:=j.isList;obtain⟨xs,d⟩:=f.allInts.items;rw[d] at b;refine PySem.sum_intListG (I.ok.hd hc) b λt n l hk=>⟨.int ns.sum,H,I.kept hk,⟨l,?_⟩,q⟩;have c:(numsOf a.toArray.toList)=ns:=by rw[show a.toArray.toList=a from rfl,f.numsOf]
 rw[d,nums_intItems] at c;rw[preSum_eq,D2 (by simp),<-c]
def tyName:V->Hp->Option String
 | .bx,_=>some "NoneType"
 | .bl _,_=>some "bool"
 | .int _,_=>some "int"
 | .str _,_=>some "str"
 | .ref a,H=>match H a with
  | some (.lst _)=>some "list"
  | some (.tup _)=>some "tuple"
  | some (.dK _)=>some "dict"
  | _=>none
 | _,_=>none
variable {b:Expr}{n:String}
def B6 {x:V}(h:tyName x H=some n):lh K H x (.type n):=by
 cases x with
 | bx=>cases h;exact .bx
 | bl b=>cases h;exact .bl b
 | int i=>cases h;exact .int i
 | str y=>cases h;exact .str y
 | ref a=>
  unfold tyName at h
  cases e:H a with
  | none=>simp[e] at h
  | some o=>
   cases o<;>simp[e] at h
   ·subst h;exact .lst e
   ·subst h;exact .tup e
   ·subst h;exact .dK e
 | Dw _=>cases h
 | MS _=>cases h
 | ty _=>cases h
def JA (n T:String):Option Bool:=kitOne [] (.type n)<|.type T
def JB {T:String}:kitOne K (.type n) (.type T)=JA n T:=rfl
def Ey:bO X (.builtin "isinstance") (λxs H Q=>∃ x T n b,xs=[x,.ty T]/\tyName x H=some n/\JA n T=some b/\Q (.bl b) H):=by
 intro a s σ H xs f Q I r h;obtain⟨x,T,n,b,rfl,hn,hb,q⟩:=h;obtain⟨u,v,rfl,d,e⟩:=r.two
 cases (show v=Value.type T from e)
 exact BW I d (B6 hn) (JB.trans hb) λc=>⟨.bl b,H,I.tok c,rfl,q⟩
end L2
namespace L2
open PySem PySem.Spec PyProof.Rows
mutual
inductive Dt (K:Frag)(H:Hp):V->PyData->Prop where
 | bx:Dt K H .bx .none
 | bl (b):Dt K H (.bl b) (.bool b)
 | int (i):Dt K H (.int i) (.int i)
 | str (x):Dt K H (.str x) (.str x)
 | lst {a xs ds}:au K H a xs->eh K H xs ds->Dt K H (.ref a) (.list ds)
 | tup {a xs ds}:aN K H a xs->eh K H xs ds->Dt K H (.ref a) (.tuple ds)
inductive eh (K:Frag)(H:Hp):List V->List PyData->Prop where
 | nil:eh K H [] []
 | cons {x xs d ds}:Dt K H x d->eh K H xs ds->eh K H (x::xs) (d::ds)
end
variable {X:Cx}
mutual
theorem Dt.reads {pins:aO0}{σ:St}{H:Hp}{s:Shared}(I:Inv X pins σ H s):∀ {x:V} {d:PyData} {u:Value},Dt X.K H x d->RelV x u->∃ as,Reads s.heap u d as
 | _,_,_,.bx,r=>by cases r;exact⟨_,.none⟩
 | _,_,_,.bl b,r=>by cases r;exact⟨_,.bool b⟩
 | _,_,_,.int i,r=>by obtain⟨t,rfl⟩:=r;exact⟨_,.int i t⟩
 | _,_,_,.str x,r=>by obtain⟨t,rfl⟩:=r;exact⟨_,.str x t⟩
 | _,_,_,.lst h f,r=>by
  cases r
  obtain⟨a,g,⟨o,n,e,j,l,c⟩,_⟩:=I.list h;obtain⟨as,q⟩:=eh.reads I f g;exact⟨_,.list e j c (by simpa using q)⟩
 | _,_,_,.tup h f,r=>by
  cases r
  obtain⟨a,g,⟨o,e,j,n,c⟩,_⟩:=I.tuple h;obtain⟨as,q⟩:=eh.reads I f g;exact⟨_,.tuple e j c (by simpa using q)⟩
theorem eh.reads {pins:aO0}{σ:St}{H:Hp}{s:Shared}(I:Inv X pins σ H s):∀ {xs:List V} {ds:List PyData} {us:List Value},eh X.K H xs ds->Vals xs us->∃ as,ReadsAll s.heap us ds as
 | _,_,_,.nil,r=>by cases r;exact⟨_,.nil⟩
 | _,_,_,.cons h a,r=>by
  cases r with
  | cons r c=>
   obtain⟨as,q⟩:=Dt.reads I h r;obtain⟨bs,b⟩:=eh.reads I a c;exact⟨_,.cons q b⟩
end
def NO (hu:X.A.units+64<cLine):dY X (compareOp .Eq) (λx y H Q=>∃ d d',Dt X.K H x d/\Dt X.K H y d'/\shaped d=true/\shaped d'=true/\Q (.bl<|PyData.eqv d d') H):=by
 intro a s σ H x y v u Q I f e h;obtain⟨d,d',h1,i,j,g,q⟩:=h;obtain⟨l,c⟩:=h1.reads I f;obtain⟨bs,b⟩:=i.reads I e;exact eq_dataH c b j g hu ⟨.bl _,H,I,rfl,q⟩
def NP (hu:X.A.units+64<cLine):dY X (compareOp .NotEq) (λx y H Q=>∃ d d',Dt X.K H x d/\Dt X.K H y d'/\shaped d=true/\shaped d'=true/\Q (.bl<|!PyData.eqv d d') H):=by
 intro a s σ H x y v u Q I f e h;obtain⟨d,d',h1,i,j,g,q⟩:=h;obtain⟨l,c⟩:=h1.reads I f;obtain⟨bs,b⟩:=i.reads I e;exact ne_dataH c b j g hu ⟨.bl _,H,I,rfl,q⟩
theorem eh.ints {K:Frag}{H:Hp}:∀ ns:List Int,eh K H (ns.map V.int)<|ns.map PyData.int
 | []=>.nil
 | n::r=>.cons (.int n)<|eh.ints r
theorem mq:∀ ns ms:List Int,PyData.eqvAll (ns.map PyData.int) (ms.map PyData.int)=decide (ns=ms)
 | [],[]=>by simp[PyData.eqvAll]
 | [],_::_=>by simp[PyData.eqvAll]
 | _::_,[]=>by simp[PyData.eqvAll]
 | n::r,m::q=>by
  simp only[map_cons,PyData.eqvAll,PyData.eqv,mq r q]
  by_cases h:n=m<;>simp[h]
def kl (ns:List Int):shaped (.list<|ns.map .int)=true:=PySem.W.shaped_ints ns
def JC:dY X (binaryOp .Add) (λx y H Q=>∃ l b xs zs,x=.ref l/\y=.ref b/\au X.K H l xs/\au X.K H b zs/\xs.length+zs.length<=sizeLine/\∀ p,H p=none->Q (.ref p) (upd H p<|.lst<|xs++zs)):=by
 intro B s σ H x y v u Q I L E h;obtain⟨l,b,xs,zs,rfl,rfl,O,M,hz,q⟩:=h
 cases L
 cases E
 obtain⟨c,r,⟨⟨J,R,C,G⟩,n,e,z,A,t⟩,_⟩:=I.list O;obtain⟨a,m,⟨⟨w,D,j,i⟩,N,o,d,g,f⟩,_⟩:=I.list M
 simp only at z A t d g f
 subst z A t d g f;refine concat_meets ⟨_,e,rfl⟩ ⟨_,o,rfl⟩ noFill_list_add seq_list_add PySem.F.slot_list_add PySem.F.entry_list_add (PySem.F.args_list_add_2 _ _) (list_addW l b c.toArray a.toArray n N none none G i (by rw[gc,gc,<-r.length,<-m.length];exact hz)) ⟨e,o,?_⟩
 have P:c.toArray++a.toArray=(c++a).toArray:=by simp
 rw[P];exact⟨.ref _,_,I.P4 (t':=s.toks) (r.append m) (by rw[ed];exact hz),rfl,q _ I.fresh⟩
structure Def (K:Frag)(mg:Str->Option Value)(x:Str)(st:Stmt):Prop where
 ex:∃ f fd,Ij K x x st f fd/\mg x=some (.ref f)
structure Fn (P:Program)(w:World)(K:Frag)(mg:Str->Option Value)(base:Heap)(k:Nat)(x:Str)(ps:List Str)(sp:Sp):Prop where
 ex:∃ f fd,fi P w K mg base DM k f fd ps sp/\mg x=some (.ref f)/\keepIn K (.ref f)=true/\Binds K fd ps []
variable {P:Program}{w:World}{K:Frag}{mg:Str->Option Value}{base:Heap}{k:Nat}{x:Str}{N ps:List Str}{sp:Sp}{st:Stmt}
def Def.fn (D:Def K mg x st)(S:j4 N ps (aj st))
  (hb:∀ (kV doc pm:Value) (an:Option Addr) (cy ct:Value) (us:List Value),us.length=ps.length->bindArgs (fnOf x x (bf st) (aO st) (aj st) .none kV doc pm an cy ct) ⟨us,[]⟩=pure (ps.zip us))
  (len:∀ vs H Q E,sp vs H Q E->vs.length=ps.length)
  (cV:∀ (f:Addr) (cy:Value) (A:Around) (outer:List Env) (s:Shared) (H:Hp) (vs:List V) (Q:VK) (E:XK),b6 k (A.deeper<|envOfC x (aj st) s.heap.objs.size f cy)->sp vs H Q E->
   ∃ t,xQ (gN DM P w K mg base N x (aj st) f cy A outer s H E).Pt (aO st) t/\t {nx:=λ_ H'=>Q .bx H',rt:=Q} (start N vs) H):Fn P w K mg base (k+1) x ps sp:=by
 obtain⟨f,a,F,m⟩:=D.ex;exact⟨f,a,F.ok S len λcy A outer s H vs Q E=>cV f cy A outer s H vs Q E,m,F.kp,F.binds hb⟩
variable {m:Nat}{p pos:Pos}{e:Expr}{es:List Expr}{t:TA}
def Qa (F:Fn X.prog X.w X.K X.mg X.base k x ps sp)(hr:b6 m X.A)(hg:Gl X x)(ha:PA X (e::es) t)(hk:k<=m:=by decide)
  (hdb:(x == ("__debug__":Str))=false:=by decide) (he:starEach (e::es) X.env=(false,eval e X.env)::starEach es X.env:=by rfl) (hpl:(backTo pos<|starEach es X.env).any (·.1)=false:=by rfl) :
  PE X (.Call (.Name x p) (e::es) [] pos) (nR sp [] E0 t):=by
 obtain⟨f,b,F,hm,a,hb⟩:=F.ex;exact sO F (hr.mono hk) hg hm a hb .nil P5 ha hdb he hpl
def NQ {h:Heap}{f:Addr}{oc:Value}{od an:Option Addr}{osl:Array (Option Value)}{kV doc pm cy ct:Value}(X:K.In h)(G:h.Ns mainGlobals mg)
  (a:nsIn K mainGlobals x=some (some<|.ref f)) (l:K.lookup f=some ⟨oc,od,.func<|fnOf x x (bf st) (aO st) (aj st) .none kV doc pm an cy ct,osl⟩)
  (c:codeIn K cy x=true) (k:keepIn K (.ref f)=true):Def K mg x st:=⟨f,_,yl l c k,mg_of X G a⟩
def NR {T:String}{pos:Pos}(hg:Gl X x)(hm:X.mg x=none)(hv:bootBuiltins x=some (.type T))(hn:x≠"__name__":=by decide)(hd:(x == ("__debug__":Str))=false:=by decide):PE X (.Name x pos) (tC<|.ty T):=
 IB hg hm hv rfl hn hd
variable {H:Hp}{Q:VK}{σ:St}
def Qb {i:Nat}{v:V}(h:σ[i]?=some (some v)):sH i σ H Q=Q v H:=by
 unfold sH;rw[h];simp
def Th {v:V}:tC v σ H Q=Q v H:=rfl
def NS {r:R2}{ta tb:TE}:sM r ta tb σ H Q=ta σ H λx H1=>tb σ H1 λy H2=>r x y H2 Q:=rfl
def Qc {r:V->Hp->VK->Prop}{ta:TE}:Tc r ta σ H Q=ta σ H λx H1=>r x H1 Q:=rfl
variable {g:Int->Int->V}
def Ly {i j:Int}:DI g (.int i) (.int j) H Q=Q (g i j) H:=by unfold DI;simp
def Qd {C:Int->Int->Prop}{i j:Int}:rI C g (.int i) (.int j) H Q=(C i j/\Q (g i j) H):=by unfold rI;simp
def Qe {g:Int->V}{i:Int}:rU g (.int i) H Q=Q (g i) H:=by unfold rU;simp
def rT (f:Int->V):V->Hp->VK->Prop:=λx H Q=>∃ i,x=.int i/\Q (f i) H
variable {f:Int->V}
def Qf {ta:TE}:tI f ta σ H Q=ta σ H λx H1=>rT f x H1 Q:=rfl
def Qg {i:Int}:rT f (.int i) H Q=Q (f i) H:=by unfold rT;simp
def Ez {i j:Int}:PR (.int i) (.int j) H Q=Q (.bl<|decide<|i=j) H:=by unfold PR;simp[BU]
def Lz {i j:Int}:PU (.int i) (.int j) H Q=Q (.bl<|!decide (i=j)) H:=by unfold PU;simp[BU]
variable {i j:Str}
def rp:PR (.str i) (.str j) H Q=Q (.bl<|decide<|i=j) H:=by unfold PR;simp[BU]
def LA:PU (.str i) (.str j) H Q=Q (.bl<|!decide (i=j)) H:=by unfold PU;simp[BU]
def rB (x:V)(H:Hp)(Q:Bool->Hp->Prop):Prop:=∃ k,x=.bl k/\Q k H
variable {Q:Bool->Hp->Prop}
def yo {b:Bool} :rB (.bl b) H Q=Q b H:=by unfold rB;simp
variable {t:TE}
def EA:vj t σ H Q=t σ H λx H'=>rB x H' Q:=rfl
def Qh:tB t σ H Q=t σ H λx H'=>rB x H' Q:=rfl
variable {t:TT}
def EB:M4 t σ H Q=t σ H λc H1=>Q (!c) H1:=rfl
variable {u:TT}
def EC:M3 t u σ H Q=t σ H λc H1=>if c=true then u σ H1 Q else Q false H1:=rfl
def LB:S8 t u σ H Q=t σ H λc H1=>if c=true then Q true H1 else u σ H1 Q:=rfl
variable {Q:VK}{u t:TE}
def ED:DY t u σ H Q=t σ H λx H1=>rB x H1 λc H2=>if c=true then u σ H2 Q else Q (.bl false) H2:=rfl
def LC:M8 t u σ H Q=t σ H λx H1=>rB x H1 λc H2=>if c=true then Q (.bl true) H2 else u σ H2 Q:=rfl
def Al {r r':R2}{ta tb tc:TE}:nO r r' ta tb tc σ H Q=ta σ H λx H1=>tb σ H1 λy H2=>r x y H2 λz H3=>rB z H3 λk H4=>if k=true then tc σ H4 λw' H5=>r' y w' H5 Q else Q (.bl false) H4:=rfl
def LD {t:TT}{ta tb:TE}:S9 t ta tb σ H Q=t σ H λc H1=>if c=true then ta σ H1 Q else tb σ H1 Q:=rfl
variable {Q:List V->Hp->Prop}
def LF:vm σ H Q=Q [] H:=rfl
def EE {ta:TE}{tr:TA} :vn ta tr σ H Q=ta σ H λx H1=>tr σ H1 λxs H2=>Q (x::xs) H2:=rfl
variable {Q:VK}{E:XK}{t:TA}
def EF {nI:List V} :nR sp nI E t σ H Q=t σ H λvs H1=>sp (vs++nI) H1 Q E:=rfl
def Qi {r:List V->Hp->VK->Prop} :Nw r t σ H Q=t σ H λvs H1=>r vs H1 Q:=rfl
def LG:Ja t σ H Q=t σ H λxs H1=>xs.length<=sizeLine/\∀ p,H1 p=none->Q (.ref p) (upd H1 p<|.tup xs):=rfl
def LH:Jb t σ H Q=t σ H λxs H1=>xs.length<=sizeLine/\∀ p,H1 p=none->Q (.ref p) (upd H1 p<|.lst xs):=rfl
variable {r:V->List V->Hp->VK->Prop}
def Qj {T:String}{to:TE} :P1 K T r to t σ H Q=to σ H λx H1=>P0 K T x H1/\t σ H1 λvs H2=>r x vs H2 Q:=rfl
def LJ {T:String}{to:TE}:Jm K T r to σ H Q=to σ H λx H1=>P0 K T x H1/\r x [] H1 Q:=rfl
def Qk {r:V->Option Int->Option Int->Hp->VK->Prop}{te:TE}{tl th:TO}:Td r te tl th σ H Q=te σ H λx H1=>tl σ H1 λl H2=>th σ H2 λh H3=>r x l h H3 Q:=rfl
variable {Q:Option Int->Hp->Prop}
def vE:sP σ H Q=Q none H:=rfl
def rP (x:V)(H:Hp)(Q:Option Int->Hp->Prop):Prop:=∃ i,x=.int i/\Q (some i) H
def EG {t:TE} :Ei t σ H Q=t σ H λx H1=>rP x H1 Q:=rfl
def Ql {i:Int} :rP (.int i) H Q=Q (some i) H:=by unfold rP;simp
variable {Q:VK}{g:TG}
def Qm {wi:TI}{tc:TT}{te:TE}{fv:List (Option Nat)}:NM wi g tc te fv σ H Q=wi σ H (vC g tc te (yn fv σ) Q):=rfl
def iq {Q:Bool->Hp->Prop}:il σ H Q=Q true H:=rfl
variable {D:Ends}
def EH:D0 D σ H=D.nx σ H:=rfl
variable {u t:TS}
def Qn:BO t u D σ H=t {D with nx:=u D} σ H:=rfl
def EI {te:TE}:D4 te D σ H=te σ H λ_ H1=>D.nx σ H1:=rfl
def LK {te:TE}:Nb te D σ H=te σ H D.rt:=rfl
variable {c:TT}
def LL:Nd c t u D σ H=c σ H λb H1=>if b=true then t D σ H1 else u D σ H1:=rfl
def LM {te:TE} :sI te g D σ H=te σ H λx H1=>g x σ H1 D.nx:=rfl
variable {i:Nat}
def tm {v:V}{σ:St}{Q:St->Hp->Prop}:bN i v σ H Q=Q (σ.set i<|some v) H:=rfl
def LN {to ti:TE}{t:D5}{v:V}{σ:St}{Q:St->Hp->Prop}:Nh to ti t v σ H Q=to σ H λo H1=>ti σ H1 λi H2=>t o i v H2 λH3=>Q σ H3:=rfl
variable {tl:TE}{R:It->Hp->Prop}
def Am {σ:St} :zW K tl σ H R=tl σ H λx H1=>∃ a,x=.ref a/\(∃ xs,au K H1 a xs)/\R (Ii K a) H1:=rfl
def EJ {σ:St} :II K tl σ H R=tl σ H λx H1=>∃ a,x=.ref a/\(∃ xs,aN K H1 a xs)/\R (DH K a) H1:=rfl
def An {ta:TA}{σ:St} :zX ta σ H R=ta σ H λvs H1=>∃ j:Int,vs=[.int j]/\-(2 ^ 62)<=j/\j<2 ^ 62/\R (xW 0 j.toNat) H1:=rfl
def p9 (g:TG)(tb:TS)(D:Ends)(σ:St):It->Hp->Prop:=λJ H1=>∃ W:Nat->Nat->St->Hp->Prop,(∃ m,W 0 m σ H1)/\∀ i m σ H,W i m σ H->
 (J.stop i H/\D.nx σ H)∨(J.go i H/\∃ N:St->Hp->Prop,(∀ σ' H',N σ' H'->∃ m',m' < m/\W (i+1) m' σ' H')/\∀ x H',J.BJ i H x H'->g x σ H' λb a=>tb {D with nx:=N,ct:=N,bk:=D.nx} b a)
variable {tb:TS}
def LO {wi:TI}{σ:St} :IK wi g tb D σ H=wi σ H (p9 g tb D σ):=rfl
variable {p:Addr}
def ag.new (h:H p=none)(o:HO):ag H (upd H p o):=λb u q=>by rw[aB (aH q h)];exact q
variable {a:Addr}{xs:List V}
def ag.aT {H':Hp}(e:ag H H')(h:aN K H a xs):aN K H' a xs:=by
 rcases h with (h | ⟨o,h⟩) | h
 ·exact .inl<|.inl<|e _ _ h
 ·exact .inl<|.inr ⟨o,e _ _ h⟩
 ·exact .inr h
def ag.set {H':Hp}(e:ag H H')(h:H p=none)(o:HO):ag H (upd H' p o):=λb u q=>by rw[aB (aH q h)];exact e b u q
structure B7 (J:It)(H1:Hp)(n:Nat)(item:Nat->V):Prop where
 go:∀ i H,ag H1 H->i<n->J.go i H
 stop:∀ i H,ag H1 H->n<=i->J.stop i H
 BJ:∀ i H x H',ag H1 H->i<n->J.BJ i H x H'->H'=H/\x=item i
def km {H1:Hp}(h:aN K H1 a xs):B7 (DH K a) H1 xs.length λi=>xs.getD i .bx where
 go:=λi H e b=>⟨xs,xs[i],e.aT h,by simp[b]⟩
 stop:=λi H e b=>⟨xs,e.aT h,b⟩
 BJ:=λi H x d e b y=>by
  obtain⟨c,y⟩:=y
  have:=y xs<|e.aT h
  refine⟨c,?_⟩;show x=xs.getD i .bx;rw[b3,this];rfl
def bJ {H1:Hp}(h:au K H1 a xs):B7 (Ii K a) H1 xs.length λi=>xs.getD i .bx where
 go:=λi H e b=>⟨xs,xs[i],e.seq h,by simp[b]⟩
 stop:=λi H e b=>⟨xs,e.seq h,b⟩
 BJ:=λi H x d e b y=>by
  obtain⟨c,y⟩:=y
  have:=y xs<|e.seq h
  refine⟨c,?_⟩;show x=xs.getD i .bx;rw[b3,this];rfl
variable {n:Nat}
def nW {H1:Hp}{lo:Int} :B7 (xW lo n) H1 n λi=>.int (lo+i) where
 go:=λi H e a=>a
 stop:=λi H e a=>a
 BJ:=λi H x b e a y=>y
def SO (T:Nat->St->Prop)(F:Nat->List V)(H1:Hp)(acc:Addr)(i:Nat):St->Hp->Prop:=λb a=>T (i+1) b/\ag H1 a/\a acc=some (.lst<|F<|i+1)
variable {acc:Addr}
def NT {T:Nat->St->Prop}{F:Nat->List V}{H1 H4:Hp}{τ:St}{v:V}(hn:H1 acc=none)(h:H4 acc=some (.lst<|F i))(hs:ag H1 H4)(hz:(F i).length<sizeLine)(hF:F (i+1)=F i++[v])(hT:T (i+1) τ) :
  ∃ ys,H4 acc=some (.lst ys)/\ys.length<sizeLine/\SO T F H1 acc i τ (upd H4 acc<|.lst<|ys++[v]):=
 ⟨F i,h,hz,hT,hs.set hn _,by rw[af,hF]⟩
variable {J:It}{item:Nat->V}
def NU {tc:TT}{te:TE}{τ0:St}{H1:Hp}(ok:B7 J H1 n item)(F:Nat->List V)(T:Nat->St->Prop)
  (h0:F 0=[]) (hT:T 0 τ0)
  (step:∀ i τ H acc,i<n->T i τ->H1 acc=none->ag H1 H->H acc=some (.lst<|F i)->g (item i) τ H λτ2 H2=>tc τ2 H2 λb H3=>
   if b=true then te τ2 H3 λv H4=>∃ ys,H4 acc=some (.lst ys)/\ys.length<sizeLine/\SO T F H1 acc i τ2 (upd H4 acc<|.lst<|ys++[v]) else SO T F H1 acc i τ2 H3)
  (fin:∀ acc H,H1 acc=none->ag H1 H->H acc=some (.lst<|F n)->Q (.ref acc) H):vC g tc te τ0 Q J H1:=by
 intro acc d;refine⟨λi m τ H=>m=n - i/\i<=n/\T i τ/\ag H1 H/\H acc=some (.lst<|F i),⟨n,by simp,zero_le _,hT,ag.new d _,by rw[af,h0]⟩,?_⟩
 rintro i m τ H ⟨rfl,q,l,h,o⟩
 by_cases f:i<n
 ·refine .inr ⟨ok.go i H h f,SO T F H1 acc i,λp j ⟨a,b,c⟩=>⟨n - (i+1),by omega,rfl,f,a,b,c⟩,λx j y=>?_⟩
  obtain⟨rfl,rfl⟩:=ok.BJ i H x j h f y;exact step i τ j acc f l d h o
 ·have e:i=n:=by omega
  subst e;exact .inl ⟨ok.stop i H h<|ea _,fin acc H d h o⟩
def JD {σ:St}(Pv:St->Hp->Prop)(μ:St->Nat)(h0:Pv σ H)
  (hs:∀ σ H,Pv σ H->c σ H λb H1=>if b=true then ∃ N:St->Hp->Prop,(∀ σ' H',N σ' H'->∃ m',m' < μ σ/\m'=μ σ'/\Pv σ' H')/\tb {D with nx:=N,ct:=N,bk:=D.nx} σ H1 else D.nx σ H1):sL c tb D σ H:=
 ⟨λm σ H=>m=μ σ/\Pv σ H,⟨_,rfl,h0⟩,λm σ H ⟨e,p⟩=>by subst e;exact hs σ H p⟩
def JE {Pv:St->Hp->Prop}{μ:St->Nat}{σ:St}{R:(St->Hp->Prop)->Prop}(h:R λσ' H'=>Pv σ' H'/\μ σ' < μ σ) :
  ∃ N:St->Hp->Prop,(∀ σ' H',N σ' H'->∃ m',m' < μ σ/\m'=μ σ'/\Pv σ' H')/\R N:=⟨_,λ_ _ ⟨p,l⟩=>⟨_,l,rfl,p⟩,h⟩
def yp {v:V}{σ:St} :sH 0 (some v::σ) H Q=Q v H:=Qb rfl
def EK {o:Option V}{σ:St} :sH (i+1) (o::σ) H Q=sH i σ H Q:=rfl
def NV (osc:Scope)(oN N:List Str)(scope:Scope)(fv:List (Option Nat)):Bool:=
 decide (scope.kind=.function)&&decide (osc.kind=.function)&&scope.names.all (λy=>decide<|y.2≠.cell)&&scope.names.all (λy=>decide<|y.2=.local->scope.names.lookup y.1=some .local)&&
 scope.names.all (λy=>decide<|y.2=.free->osc.names.lookup y.1=some .cell)&&(rl scope osc).names.all (λy=>decide<|y.2≠.free)&&decide (fv.length=N.length)&&decide (N.length<20)&&
 (List.range N.length).all (λi=>match fv[i]? with
  | some (some j)=>decide (oN[j]?=N[i]?)&&(match N[i]? with | some x=>decide ((rl scope osc).names.lookup x=some .cell)&&decide (osc.names.lookup x=some .cell) | none=>false)
  | _=>true)
variable {osc:Scope}{oN:List Str}
def NW {scope:Scope}{fv:List (Option Nat)}(h1:X.env.scope=osc)(h2:X.N=oN)(h:NV osc oN N scope fv=true):Pw X.env.scope X.N N scope fv:=by
 rw[h1,h2];unfold NV at h;simp only[Bool.and_eq_true,List.all_eq_true,decide_eq_true_eq] at h;obtain⟨⟨⟨⟨⟨⟨⟨⟨l,p⟩,m⟩,n⟩,d⟩,f⟩,b⟩,g⟩,o⟩:=h;refine⟨l,p,m,n,d,f,b,λi j _ e=>?_,g⟩;have c:i<N.length:=by rw[<-b];exact(ka.mp e).1
 have q:=o i<|kf.mpr c;rw[e] at q;simp only[Bool.and_eq_true,decide_eq_true_eq] at q;refine⟨q.1,λx hx=>?_⟩;have a:=q.2;rw[hx] at a
 simpa using a
def EL (e:Expr):Bool:=match e with
 | .Starred _ _=>false
 | _=>true
def bb {env:Env}(h:EL e=true):starEach (e::es) env=(false,eval e env)::starEach es env:=by
 cases e<;>first | rfl | cases h
theorem cJ {pos:Pos}{env:Env}:∀ {es:List Expr},es.all EL=true->(backTo pos<|starEach es env).any (·.1)=false
 | [],_=>rfl
 | e::es,h=>by
  rw[all_cons,ef] at h;rw[bb h.1];show (false||(backTo pos<|starEach es env).any (·.1))=false;rw[cJ h.2];rfl
theorem lr {pos:Pos}{env:Env}:∀ {es:List Expr},es.all EL=true->(backTo pos<|starEach es env).all (λx=>!x.1)=true
 | [],_=>rfl
 | e::es,h=>by
  rw[all_cons,ef] at h;rw[bb h.1];show (true&&(backTo pos<|starEach es env).all (λx=>!x.1))=true;rw[lr h.2];rfl
structure PB (X:Cx)(es:List Expr)(t:TA):Prop where
 pa:PA X es t
 ns:es.all EL=true
def yq:PB X [] vm:=⟨Nr,rfl⟩
variable {te:TE}{t:TA}
def tq (ha:PE X e te)(hr:PB X es t)(hn:EL e=true:=by rfl):PB X (e::es) (vn te t):=
 ⟨IZ ha hr.pa<|bb hn,by rw[all_cons,hn,hr.ns];rfl⟩
def PB.he (h:PB X (e::es) t):EL e=true:=by have:=h.ns;rw[all_cons,ef] at this;exact this.1
def PB.xS (h:PB X (e::es) t):es.all EL=true:=by have:=h.ns;rw[all_cons,ef] at this;exact this.2
def Qo {x1}(h:PB X es t):PE X (.Tuple es x1 pos) (Ja t):=Nt h.pa
def Qp (h:PB X es t):PE X (.List es pos) (Jb t):=Nu h.pa
structure Sc (X:Cx)(N W G:List Str):Prop where
 eN:X.N=N
 nd:N.Nodup
 SJ:∀ x∈N,SM X.env.scope x/\(x == ("__debug__":Str))=false/\(x == ("__classdict__":Str))=false
 SI:∀ x∈W,Loc X.env.scope x/\(X.fn x=true∨X.env.scope.names.lookup x=some .local)
 gl:∀ x∈G,Gl X x/\(x == ("__debug__":Str))=false/\x≠"__name__"
def EM (sc:Scope)(x:Str):Bool:=(sc.names.lookup x == some .local||sc.names.lookup x == some .cell||sc.names.lookup x == some .free)&&!(x == ("__debug__":Str))&&!(x == ("__classdict__":Str))
def tw {sc:Scope}(h:EM sc x=true):SM sc x/\(x == ("__debug__":Str))=false/\(x == ("__classdict__":Str))=false:=by
 unfold EM at h;simp only[Bool.and_eq_true,Bool.or_eq_true,beq_iff_eq,Bool.not_eq_true'] at h;obtain⟨⟨h1,b⟩,a⟩:=h;refine⟨?_,b,a⟩
 rcases h1 with (h1 | h1) | h1
 ·exact .inl h1
 ·exact .inr<|.inl h1
 ·exact .inr<|.inr h1
def Qq (sc:Scope)(x:Str):Bool:=sc.names.lookup x == some .globalImplicit&&!(x == ("__debug__":Str))&&!(x == ("__name__":Str))
def yr {sc:Scope}(h:Qq sc x=true):sc.names.lookup x=some .globalImplicit/\(x == ("__debug__":Str))=false/\x≠"__name__":=by
 unfold Qq at h;simp only[Bool.and_eq_true,beq_iff_eq,Bool.not_eq_true',beq_eq_false_iff_ne] at h;exact⟨h.1.1,by simpa using h.1.2,h.2⟩
def Ui (sc:Scope)(N ps G:List Str):Bool:=
 decide (sc.kind=.function)&&!sc.isCoroutine&&!sc.isGenerator&&decide N.Nodup&&decide (N.take ps.length=ps)&&ps.all (λx=>sc.names.lookup x == some .local||sc.names.lookup x == some .cell)&&
 sc.names.all (λy=>decide<|y.2≠.free)&&N.all (EM sc)&&N.all (λx=>sc.names.lookup x == some .local||sc.names.lookup x == some .cell)&&G.all (Qq sc)
structure DS (sc:Scope)(N ps G:List Str):Prop where
 fs:j4 N ps sc
 SJ:∀ x∈N,EM sc x=true
 loc:∀ x∈N,Loc sc x
 gl:∀ x∈G,Qq sc x=true
variable {G:List Str}
def aQ {sc:Scope}(h:Ui sc N ps G=true:=by decide +kernel):DS sc N ps G:=by
 unfold Ui at h;simp only[Bool.and_eq_true,Bool.not_eq_true',List.all_eq_true,decide_eq_true_eq,Bool.or_eq_true,beq_iff_eq] at h;obtain⟨⟨⟨⟨⟨⟨⟨⟨⟨f,l⟩,g⟩,i⟩,b⟩,c⟩,d⟩,e⟩,j⟩,a⟩:=h;exact⟨⟨f,l,g,i,b,c,d⟩,e,j,a⟩
variable {f:Addr}{q:Str}
def DS.cx {sc:Scope}{cy:Value}{A:Around}{outer:List Env}{s:Shared}(D:DS sc N ps G):Sc (gN DM P w K mg base N q sc f cy A outer s H E).Pt N N G:=
 ⟨rfl,D.fs.nd,λx hx=>tw<|D.SJ x hx,λx hx=>⟨D.loc x hx,.inl rfl⟩,λx hx=>yr<|D.gl x hx⟩
def Def.go (D:Def K mg x st)(S:DS (aj st) N ps G)
  (hb:∀ (kV doc pm:Value) (an:Option Addr) (cy ct:Value) (us:List Value),us.length=ps.length->bindArgs (fnOf x x (bf st) (aO st) (aj st) .none kV doc pm an cy ct) ⟨us,[]⟩=pure (ps.zip us))
  (len:∀ vs H Q E,sp vs H Q E->vs.length=ps.length)
  (cV:∀ (X:Cx),Sc X N N G->X.prog=P->X.w=w->X.K=K->X.mg=mg->X.base=base->X.calm=true->X.env.scope=aj st->X.xe=(λ_ _=>False)->b6 k X.A->X.A.units+64<cLine->
   ∀ (H:Hp) (vs:List V) (Q:VK) (E:XK),sp vs H Q E->∃ t,xQ X (aO st) t/\t {nx:=λ_ H'=>Q .bx H',rt:=Q} (L2.start N vs) H):Fn P w K mg base (k+1) x ps sp:=by
 refine D.fn S.fs hb len λf cy A a s H vs Q E b h=>?_;exact cV _ S.cx rfl rfl rfl rfl rfl rfl rfl rfl b b.units H vs Q E h
variable {W:List Str}
def vv (S:Sc X N W G)(i:Nat){pos:Pos}(h:N[i]?=some x:=by rfl):PE X (.Name x pos) (sH i):=
 have q:=S.SJ x (fO h)
 MY (by rw[S.eN];exact h) q.1 q.2.1 q.2.2
def sv (S:Sc X N W G)(i:Nat){pos pos':Pos}(he:PE X e te)(h:N[i]?=some x:=by rfl)(hw:W[i]?=some x:=by rfl)(hs:swapsWith e (some<|.Name x pos') pos.line X.env=pure false:=by rfl) :
  PS X (.Assign [.Name x pos'] e pos) (sI te<|bN i):=
 have q:=S.SI x (fO hw)
 Nk (by rw[S.eN];exact S.nd) (by rw[S.eN];exact h) q.1 he hs q.2
def gv (S:Sc X N W G)(i:Nat){pos:Pos}(h:N[i]?=some x:=by rfl)(hw:W[i]?=some x:=by rfl):PG X (.Name x pos) (bN i):=
 have q:=S.SI x (fO hw)
 IG (by rw[S.eN];exact S.nd) (by rw[S.eN];exact h) q.1 q.2
variable {p:Pos}
def ff (S:Sc X N W G)(g:Nat)(F:Fn X.prog X.w X.K X.mg X.base k x ps sp)(hr:b6 m X.A)(ha:PB X (e::es) t)(hk:k<=m:=by decide)(hg:G[g]?=some x:=by rfl):PE X (.Call (.Name x p) (e::es) [] pos) (nR sp [] E0 t):=
 have q:=S.gl x (fO hg)
 Qa F hr q.1 ha.pa hk q.2.1 (bb ha.he) (cJ ha.xS)
variable {id:String}{r:List V->Hp->VK->Prop}
def cb (S:Sc X N W G)(g:Nat)(hc:bO X (.builtin id) r)(hm:X.mg x=none)(hv:bootBuiltins x=some (.builtin id))(ha:PB X (e::es) t)(hg:G[g]?=some x:=by rfl):PE X (.Call (.Name x p) (e::es) [] pos) (Nw r t):=
 have q:=S.gl x (fO hg)
 Eg hc q.1 hm hv ha.pa q.2.2 q.2.1 (bb ha.he) (cJ ha.xS)
variable {T:String}
def ct (S:Sc X N W G)(g:Nat)(hc:bO X (.type T) r)(hm:X.mg x=none)(hv:bootBuiltins x=some (.type T))(ha:PB X (e::es) t)(hg:G[g]?=some x:=by rfl):PE X (.Call (.Name x p) (e::es) [] pos) (Nw r t):=
 have q:=S.gl x (fO hg)
 BZ hc q.1 hm hv ha.pa q.2.2 q.2.1 (bb ha.he) (cJ ha.xS)
def UC (S:Sc X N W G)(g:Nat)(hm:X.mg x=none)(hv:bootBuiltins x=some (.type T))(hg:G[g]?=some x:=by rfl):PE X (.Name x pos) (tC<|.ty T):=
 have q:=S.gl x (fO hg)
 NR q.1 hm hv q.2.2 q.2.1
def UD (S:Sc X N W G)(g:Nat){tg:Expr}(hm:X.mg "range"=none)(ha:PB X [e] t)(hg:G[g]?=some "range":=by rfl):PI X tg (.Call (.Name "range" p) [e] [] pos) (zX t):=
 BQ (S.gl _<|fO hg).1 hm ha.pa (bb ha.he)
variable {a:Expr}
def UE (S:Sc X N W G)(g:Nat){tg:Expr}(hm:X.mg "range"=none)(ha:PB X [e,a] t)(hg:G[g]?=some "range":=by rfl):PI X tg (.Call (.Name "range" p) [e,a] [] pos) (zZ t):=
 have b:EL a=true:=by have:=ha.xS;rw[all_cons,ef] at this;exact this.1
 BR (S.gl _<|fO hg).1 hm ha.pa (by rw[bb ha.he,bb b];rfl) (bb b)
variable {o:Expr}{to:TE}{name:Str}{apos cR:Pos}{rm:V->List V->Hp->VK->Prop}
def mb (pa:PlainAttrs T)(slot:Slot T name id)(hty:typeOf (.builtin id)=pure (.type "method_descriptor"))(hm:xR X id rm)(ho:PE X o to)(ha:PB X (e::es) t)
  (eD:(attributeBase o name X.env (eval o X.env)=eval o X.env):=by rfl) (hlen:decide ((e::es).length<30)=true:=by rfl)
  (eE:(apos.endLine == cR.line)=true:=by rfl):PE X (.Call (.Attribute o name apos) (e::es) [] cR) (P1 X.K T rm to t):=
 P2 pa slot hty hm ho ha.pa eD (by rw[lr ha.ns];exact hlen) eE (bb ha.he) (cJ ha.xS)
def LP (osc:Scope)(oN N W G:List Str)(scope:Scope)(fv:List (Option Nat)):Bool:=
 NV osc oN N scope fv&&decide N.Nodup&&N.all (EM<|rl scope osc)&&W.all (λx=>(rl scope osc).names.lookup x == some .local)&&G.all (Qq<|rl scope osc)
variable {scope:Scope}{fv:List (Option Nat)}
def Ao {cl:List (Str × Addr)}{C:Addr}{fp:List Addr}{s:Shared}(h1:X.env.scope=osc)(h:LP osc oN N W G scope fv=true):Sc (kj X N scope cl C fp s H) N W G:=by
 unfold LP at h;simp only[Bool.and_eq_true,List.all_eq_true,decide_eq_true_eq,beq_iff_eq] at h;obtain⟨⟨⟨⟨_,d⟩,b⟩,a⟩,c⟩:=h;have e:(kj X N scope cl C fp s H).env.scope=rl scope osc:=by rw[<-h1];rfl
 exact⟨rfl,d,λx hx=>by rw[e];exact tw<|b x hx,λx hx=>by rw[e];exact⟨.inl<|a x hx,.inr<|a x hx⟩,λx hx=>by unfold Gl Env.kindOf;rw[e];exact yr<|c x hx⟩
variable {oW oG:List Str}
def Ap (S:Sc X oN oW oG)(h1:X.env.scope=osc)(h:LP osc oN N W G scope fv=true):Pw X.env.scope X.N N scope fv:=by
 unfold LP at h;simp only[Bool.and_eq_true] at h;exact NW h1 S.eN h.1.1.1.1
variable {elt target iter:Expr}{ifs:List Expr}{tc:TT}{wi:TI}
def UG (S:Sc X oN oW oG)(hc:X.calm=true)(h1:X.env.scope=osc)(hi:PI X target iter wi)(h:LP osc oN N W G scope fv=true)
  (hB:∀ cl C fp s H,Sc (kj X N scope cl C fp s H) N W G->PG (kj X N scope cl C fp s H) target g/\Lx (kj X N scope cl C fp s H) ifs tc/\PE (kj X N scope cl C fp s H) elt te)
  (hs:(∀ x,foldedSetIterable iter X.env x=pure x):=by intro _;rfl):PE X (.ListComp elt [⟨target,iter,ifs,0⟩] scope pos) (NM wi g tc te fv):=
 P8 hc hi (Ap S h1 h) (λcl C fp s H=>hB cl C fp s H<|Ao h1 h) hs
def UH {px spos:Pos}(S:Sc X oN oW oG)(hc:X.calm=true)(h1:X.env.scope=osc)(hi:PI X target iter wi)(h:LP osc oN N W G scope fv=true)
  (hB:∀ cl C fp s H,Sc (kj X N scope cl C fp s H) N W G->PG (kj X N scope cl C fp s H) target g/\Lx (kj X N scope cl C fp s H) ifs tc/\PE (kj X N scope cl C fp s H) elt te)
  (hx:X.env.scope.names.lookup x=some .local)
  (hsw:swapsWith (.ListComp elt [⟨target,iter,ifs,0⟩] scope pos) (some<|.Name x px) spos.line X.env=pure true) (hi':oN[i]?=some x:=by rfl)
  (hs:(∀ x,foldedSetIterable iter X.env x=pure x):=by intro _;rfl):PS X (.Assign [.Name x px] (.ListComp elt [⟨target,iter,ifs,0⟩] scope pos) spos) (sI (NM wi g tc te fv)<|bN i):=
 P9 (by rw[S.eN];exact S.nd) (by rw[S.eN];exact hi') hx hc hi (Ap S h1 h) (λcl C fp s H=>hB cl C fp s H<|Ao h1 h) hsw hs
def EN (h:X.xe=λ_ _=>False):PassesOwn (model X.prog X.w) X.A X.env X.xe:=by rw[h];exact PassesOwn.never
def df (h:X.K=K):NA X (lp K):=by subst h;exact Jk
def eU (h:X.K=K):NA X (B0 K):=by subst h;exact NB
def bz (h:X.K=K):Ny X (vt K):=by subst h;exact Jl
def nq (h:X.K=K):Ny X (Ji K):=by subst h;exact Nz
def lu (h:X.K=K):dY X (compareOp .In) (Lu K false):=by subst h;exact B1
def eY (h:X.K=K):dY X (compareOp .NotIn) (Lu K true):=by subst h;exact sW
def Qr (K:Frag):List V->Hp->VK->Prop:=λa H Q=>∃ p ys,a=[.ref p]/\(au K H p ys∨aN K H p ys)/\Q (.int ys.length) H
def aA (h:X.K=K):bO X (.builtin "len") (Qr K):=by subst h;exact sY
def Qs (K:Frag):List V->Hp->VK->Prop:=λa H Q=>∃ (p:Addr) (ns:List Int),a=[.ref p]/\au K H p (ns.map V.int)/\Q (.int ns.sum) H
def cN (hc:X.calm=true)(h:X.K=K):bO X (.builtin "sum") (Qs K):=by subst h;exact Ex hc
variable {l:Expr}
def NX (K:Frag):List V->Hp->VK->Prop:=λa H Q=>∃ p ys,a=[.ref p]/\((au K H p ys/\∀ l,H l=none->Q (.ref l) (upd H l<|.tup ys))∨(aN K H p ys/\Q (.ref p) H))
def gs (h:X.K=K):bO X (.type "tuple") (NX K):=by subst h;exact pY
def JF (K:Frag):List V->Hp->VK->Prop:=λa H Q=>∃ p ys,a=[.ref p]/\(au K H p ys∨aN K H p ys)/\∀ l,H l=none->Q (.ref l) (upd H l<|.lst ys)
def yt (h:X.K=K):bO X (.type "list") (JF K):=by subst h;exact sZ
def Qt (K:Frag):R2:=λx y H Q=>∃ d d',Dt K H x d/\Dt K H y d'/\shaped d=true/\shaped d'=true/\Q (.bl<|PyData.eqv d d') H
def Qu (K:Frag):R2:=λx y H Q=>∃ d d',Dt K H x d/\Dt K H y d'/\shaped d=true/\shaped d'=true/\Q (.bl<|!PyData.eqv d d') H
def ir (hu:X.A.units+64<cLine)(h:X.K=K):dY X (compareOp .Eq) (Qt K):=by subst h;exact NO hu
def lx (hu:X.A.units+64<cLine)(h:X.K=K):dY X (compareOp .NotEq) (Qu K):=by subst h;exact NP hu
def Aq (K:Frag):R2:=λx y H Q=>∃ l b xs zs,x=.ref l/\y=.ref b/\au K H l xs/\au K H b zs/\xs.length+zs.length<=sizeLine/\∀ p,H p=none->Q (.ref p) (upd H p<|.lst<|xs++zs)
def bV (h:X.K=K):dY X (binaryOp .Add) (Aq K):=by subst h;exact JC
def Qv:List V->Hp->VK->Prop:=λa H Q=>∃ x T n b,a=[x,.ty T]/\tyName x H=some n/\JA n T=some b/\Q (.bl b) H
def rq:bO X (.builtin "isinstance") Qv:=Ey
def Qw:List V->Hp->VK->Prop:=λa H Q=>∃ i j,a=[.int i,.int j]/\Q (.int<|if j>i then j else i) H
def B8 (hc:X.calm=true):bO X (.builtin "max") Qw:=BV hc
variable {i:Int}
def LQ {j:Int} :Qw [.int i,.int j] H Q=Q (.int<|if j>i then j else i) H:=propext ⟨λ⟨a,b,e,q⟩=>by cases e;exact q,λq=>⟨i,j,rfl,q⟩⟩
variable {tg:Expr}
def EO (hl:PE X l tl)(h:X.K=K):PI X tg l (zW K tl):=by subst h;exact IJ hl
def JG (hl:PE X l tl)(h:X.K=K):PI X tg l (II K tl):=by subst h;exact Nl hl
def UI (pa:PlainAttrs T)(slot:Slot T name id)(hty:typeOf (.builtin id)=pure (.type "method_descriptor"))(hm:xR X id rm)(h:X.K=K)(ho:PE X o to)(ha:PB X (e::es) t)
  (eD:(attributeBase o name X.env (eval o X.env)=eval o X.env):=by rfl) (hlen:decide ((e::es).length<30)=true:=by rfl)
  (eE:(apos.endLine == cR.line)=true:=by rfl):PE X (.Call (.Attribute o name apos) (e::es) [] cR) (P1 K T rm to t):=by subst h;exact mb pa slot hty hm ho ha eD hlen eE
def Ti (pa:PlainAttrs T)(slot:Slot T name id)(hty:typeOf (.builtin id)=pure (.type "method_descriptor"))(hm:xR X id rm)(h:X.K=K)(ho:PE X o to)
  (eD:(attributeBase o name X.env (eval o X.env)=eval o X.env):=by rfl)
  (eE:(apos.endLine == cR.line)=true:=by rfl):PE X (.Call (.Attribute o name apos) [] [] cR) (Jm K T rm to):=by subst h;exact NF pa slot hty hm ho eD eE
def ES (K:Frag):R2:=λx y H Q=>∃ a b xs ys,x=.ref a/\y=.ref b/\aN K H a xs/\aN K H b ys/\xs.length+ys.length<=sizeLine/\∀ p H',ag H H'->aN K H' p (xs++ys)->Q (.ref p) H'
def nX (h:X.K=K):dY X (binaryOp .Add) (ES K):=by
 subst h;intro g s σ H x y v u Q I B t h;obtain⟨a,b,w,J,rfl,rfl,m,hb,hz,q⟩:=h
 by_cases hx:w=[]
 ·subst hx
  cases B
  cases t
  obtain⟨L,N,⟨⟨M,E,C,G⟩,e,A,n,r⟩,_⟩:=I.tuple m;obtain⟨c,P,⟨⟨z,i,l,j⟩,o,d,O,f⟩,_⟩:=I.tuple hb
  simp only at A r d f
  subst A r d f
  cases N
  refine concat_meets ⟨_,e,rfl⟩ ⟨_,o,rfl⟩ noFill_tuple_add seq_tuple_add slot_tuple_add entry_tuple_add (args_tuple_add_2 _ _) (tuple_addW0 a b _ c.toArray n O E i G j rfl) ⟨e,o,?_⟩;exact⟨.ref b,H,I,rfl,q b H (ag.refl _) hb⟩
 ·exact Jj g s σ H _ _ v u Q I B t ⟨a,b,w,J,rfl,rfl,m,hb,hx,hz,λe=>q a H (ag.refl _) (by rw[e,F2];exact m),λ_ p D=>q p _ (ag.new D _)<|aN.of af⟩
def Qx (sc:Scope):Env:={scope:=sc,locals:=0,globals:=0,cells:=[],qual:="",func:=none,code:=.none,frame:=none,builtins:=0}
def cW (v:Expr)(t:Option Expr)(l:Nat)(env:Env):swapsWith v t l env=swapsWith v t l (Qx env.scope):=rfl
def Ar:List Expr->Option (List Int)
 | []=>some []
 | .Constant (.int i) _ _::r=>(Ar r).map (i::·)
 | _=>none
def ET (ns:List Int):TA:=λ_ H Q=>Q (ns.map V.int) H
theorem As {X:Cx}:∀ {es:List Expr} {ns:List Int},Ar es=some ns->PB X es (ET ns)
 | [],ns,h=>by cases h;exact yq
 | e::es,ns,h=>by
  unfold Ar at h
  split at h
  ·rename_i h1;cases h1
  ·rename_i i k p r h1
   cases h1
   obtain⟨b,a,rfl⟩:=Option.map_eq_some_iff.mp h;exact tq k7<|As a
  ·cases h
def Au:List Expr->Option (List Str)
 | []=>some []
 | .Constant (.str i) _ _::r=>(Au r).map (i::·)
 | _=>none
def EU (ns:List Str):TA:=λ_ H Q=>Q (ns.map V.str) H
theorem Av {X:Cx}:∀ {es:List Expr} {ns:List Str},Au es=some ns->PB X es (EU ns)
 | [],ns,h=>by cases h;exact yq
 | e::es,ns,h=>by
  unfold Au at h
  split at h
  ·rename_i h1;cases h1
  ·rename_i i k p r h1
   cases h1
   obtain⟨b,a,rfl⟩:=Option.map_eq_some_iff.mp h;exact tq DW<|Av a
  ·cases h
variable {Q:List V->Hp->Prop}
def EV {ns:List Int}{σ:St} :ET ns σ H Q=Q (ns.map V.int) H:=rfl
def EW {ns:List Str}{σ:St} :EU ns σ H Q=Q (ns.map V.str) H:=rfl
structure QE (X:Cx)(e:Expr)(t:TE):Prop where
 h:PE X e t
structure QT (X:Cx)(e:Expr)(t:TT):Prop where
 h:PT X e t
structure QW (X:Cx)(e:Expr)(t:TT):Prop where
 h:PW X e t
structure QB (X:Cx)(es:List Expr)(t:TA):Prop where
 h:PB X es t
structure QS (X:Cx)(st:Stmt)(t:TS):Prop where
 h:PS X st t
structure u6 (X:Cx)(st:List Stmt)(t:TS):Prop where
 h:xQ X st t
structure QG (X:Cx)(e:Expr)(t:TG):Prop where
 h:PG X e t
structure Qy (X:Cx)(e:List Expr)(t:zV):Prop where
 h:Pu X e t
structure QI (X:Cx)(tg iter:Expr)(wi:TI):Prop where
 h:PI X tg iter wi
structure SQ (X:Cx)(ifs:List Expr)(t:TT):Prop where
 h:Lx X ifs t
structure QO (X:Cx)(e:Option Expr)(t:TO):Prop where
 h:PO X e t
def kv (S:Sc X N W G)(i:Nat)(h:N[i]?=some x:=by rfl):QE X (.Name x pos) (sH i):=⟨vv S i h⟩
variable {j:Nat}
def aq:QE X (.Constant (.int i) j pos) (tC<|.int i):=⟨k7⟩
def vF {i:Bool} :QE X (.Constant (.bool i) j pos) (tC<|.bl i):=⟨PK⟩
def vG:QE X (.Constant .none j pos) (tC .bx):=⟨MZ⟩
def aU {i:Str} :QE X (.Constant (.str i) j pos) (tC<|.str i):=⟨DW⟩
variable {b:Expr}{ta tb:TE}
def aP {op:Operator}{r:R2}(ho:dY X (binaryOp op) r)(ha:QE X a ta)(hb:QE X b tb):QE X (.BinOp a op b pos) (sM r ta tb):=⟨vi ho ha.h hb.h⟩
variable {pos':Pos}{n:Int}
def rz (ha:QE X a ta)(h:0<n/\n<1073741824:=by decide):QE X (.BinOp a .FloorDiv (.Constant (.int n) k pos') pos) (tI (λi=>.int<|i / n) ta):=⟨Jw ha.h h⟩
def bw (ha:QE X a ta)(h:0<n:=by decide):QE X (.BinOp a .Mod (.Constant (.int n) k pos') pos) (tI (λi=>.int<|i % n) ta):=⟨Jx ha.h h⟩
def Aw (ha:QE X a ta)(h:-(2 ^ 64)<n/\n<2 ^ 64:=by decide):QE X (.BinOp a .Mult (.Constant (.int n) k pos') pos) (tI (λi=>.int<|i*n) ta):=⟨Jy ha.h h⟩
def EX (ha:QE X a ta)(h:-(2 ^ 64)<n/\n<2 ^ 64:=by decide):QE X (.BinOp (.Constant (.int n) k pos') .Mult a pos) (tI (λi=>.int<|n*i) ta):=⟨Jz ha.h h⟩
def NY {op:UnaryOp}{r:V->Hp->VK->Prop}(ho:SN X (unaryOp op) r)(ha:QE X a ta):QE X (.UnaryOp op a pos) (Tc r ta):=⟨PQ ho ha.h⟩
variable {r:R2}
def gO {op:CmpOp}(ho:dY X (compareOp op) r)(ha:QE X a ta)(hb:QE X b tb)(hm:behindInMarks op b=false):QE X (.Compare a [op] [b] pos) (sM r ta tb):=⟨IS ho ha.h hb.h hm⟩
variable {c:Expr}{tc:TE}
def EY {op op':CmpOp}{r':R2}(ho:dY X (compareOp op) r)(ho':dY X (compareOp op') r')(ha:QE X a ta)(hb:QE X b tb)(hc:QE X c tc)
  (hm:lastMarks [op,op'] [b,c]=false:=by with_unfolding_all rfl):QE X (.Compare a [op,op'] [b,c] pos) (nO r r' ta tb tc):=⟨Eb ho ho' ha.h hb.h hc.h hm⟩
def qa {op}(h:QE X a ta):QE X (.BoolOp op [a] pos) ta:=⟨M9 h.h⟩
variable {rest:List Expr}
def mH (ha:QE X a ta)(hb:QE X (.BoolOp .And (b::rest) pos) tb):QE X (.BoolOp .And (a::b::rest) pos) (DY ta tb):=⟨Na ha.h hb.h⟩
def Uj (ha:QE X a ta)(hb:QE X (.BoolOp .Or (b::rest) pos) tb):QE X (.BoolOp .Or (a::b::rest) pos) (M8 ta tb):=⟨PM ha.h hb.h⟩
variable {tA:TT}
def Tj (hc:QT X c tA)(ha:QE X a ta)(hb:QE X b tb):QE X (.IfExp c a b pos) (S9 tA ta tb):=⟨DZ hc.h ha.h hb.h⟩
def bF:QB X [] vm:=⟨yq⟩
def ah (ha:QE X e te)(hr:QB X es t)(hn:EL e=true:=by rfl):QB X (e::es) (vn te t):=⟨tq ha.h hr.h hn⟩
def tD {ns:List Int}(h:Ar es=some ns):QB X es (ET ns):=⟨As h⟩
def tE {ns:List Str}(h:Au es=some ns):QB X es (EU ns):=⟨Av h⟩
def vH {x1}(h:QB X es t):QE X (.Tuple es x1 pos) (Ja t):=⟨Qo h.h⟩
def dq (h:QB X es t):QE X (.List es pos) (Jb t):=⟨Qp h.h⟩
def nY (hr:NA X r)(ha:QE X a ta)(hb:QE X b tb)(hs:nk b):QE X (.Subscript a b pos) (sM r ta tb):=⟨PY hr ha.h hb.h hs⟩
def aV:QO X none sP:=⟨Jg⟩
def aS (h:QE X e te):QO X (some e) (Ei te):=⟨Jh h.h⟩
def iu {lo hi:Option Expr}{tl th:TO}{p2:Pos}{r:V->Option Int->Option Int->Hp->VK->Prop}(hr:Ny X r)(he:QE X e te)(hl:QO X lo tl)(hu:QO X hi th):QE X (.Subscript e (.Slice lo hi none p2) pos) (Td r te tl th):=⟨Ej hr he.h hl.h hu.h⟩
def cK (S:Sc X N W G)(g:Nat)(F:Fn X.prog X.w X.K X.mg X.base k x ps sp)(hr:b6 m X.A)(ha:QB X (e::es) t)(hk:k<=m:=by decide)(hg:G[g]?=some x:=by rfl):QE X (.Call (.Name x p) (e::es) [] pos) (nR sp [] E0 t):=⟨ff S g F hr ha.h hk hg⟩
variable {r:List V->Hp->VK->Prop}
def cE (S:Sc X N W G)(g:Nat)(hc:bO X (.builtin id) r)(hm:X.mg x=none)(hv:bootBuiltins x=some (.builtin id))(ha:QB X (e::es) t)(hg:G[g]?=some x:=by rfl):QE X (.Call (.Name x p) (e::es) [] pos) (Nw r t):=⟨cb S g hc hm hv ha.h hg⟩
def pR (S:Sc X N W G)(g:Nat)(hc:bO X (.type T) r)(hm:X.mg x=none)(hv:bootBuiltins x=some (.type T))(ha:QB X (e::es) t)(hg:G[g]?=some x:=by rfl):QE X (.Call (.Name x p) (e::es) [] pos) (Nw r t):=⟨ct S g hc hm hv ha.h hg⟩
def Tn (S:Sc X N W G)(g:Nat)(hm:X.mg x=none)(hv:bootBuiltins x=some (.type T))(hg:G[g]?=some x:=by rfl):QE X (.Name x pos) (tC<|.ty T):=⟨UC S g hm hv hg⟩
def fL (pa:PlainAttrs T)(slot:Slot T name id)(hty:typeOf (.builtin id)=pure (.type "method_descriptor"))(hm:xR X id rm)(h:X.K=K)(ho:QE X o to)(ha:QB X (e::es) t)
  (eD:(attributeBase o name X.env (eval o X.env)=eval o X.env):=by rfl) (hlen:decide ((e::es).length<30)=true:=by rfl)
  (eE:(apos.endLine == cR.line)=true:=by rfl):QE X (.Call (.Attribute o name apos) (e::es) [] cR) (P1 K T rm to t):=⟨UI pa slot hty hm h ho.h ha.h eD hlen eE⟩
def To (pa:PlainAttrs T)(slot:Slot T name id)(hty:typeOf (.builtin id)=pure (.type "method_descriptor"))(hm:xR X id rm)(h:X.K=K)(ho:QE X o to)
  (eD:(attributeBase o name X.env (eval o X.env)=eval o X.env):=by rfl)
  (eE:(apos.endLine == cR.line)=true:=by rfl):QE X (.Call (.Attribute o name apos) [] [] cR) (Jm K T rm to):=⟨Ti pa slot hty hm h ho.h eD eE⟩
variable {r:R2}
def aL {op:CmpOp}(ho:dY X (compareOp op) r)(ha:QE X a ta)(hb:QE X b tb)(hm:behindInMarks op b=false):QT X (.Compare a [op] [b] pos) (vj<|sM r ta tb):=⟨IU ho ha.h hb.h hm⟩
def EZ {op op':CmpOp}{r':R2}(ho:dY X (compareOp op) r)(ho':dY X (compareOp op') r')(ha:QE X a ta)(hb:QE X b tb)(hc:QE X c tc)
  (hm:lastMarks [op,op'] [b,c]=false:=by with_unfolding_all rfl):QT X (.Compare a [op,op'] [b,c] pos) (vj<|nO r r' ta tb tc):=⟨Ec ho ho' ha.h hb.h hc.h hm⟩
def rA (ha:QT X a tA):QW X (.BoolOp .And [a] pos) tA:=⟨IC ha.h⟩
def qb (ha:QT X a tA):QW X (.BoolOp .Or [a] pos) tA:=⟨M5 ha.h⟩
variable {tB':TT}
def vI (ha:QT X a tA)(hb:QW X (.BoolOp .And (b::rest) pos) tB'):QW X (.BoolOp .And (a::b::rest) pos) (M3 tA tB'):=⟨M6 ha.h hb.h⟩
def Ik (ha:QT X a tA)(hb:QW X (.BoolOp .Or (b::rest) pos) tB'):QW X (.BoolOp .Or (a::b::rest) pos) (S8 tA tB'):=⟨PL ha.h hb.h⟩
def xT (h:QW X a tA):QT X a tA:=⟨h.h.pt⟩
def qc (ha:QT X a tA):QT X (.UnaryOp .Not a pos) (M4 tA):=⟨M7 ha.h⟩
variable {v:TS}
def kn (h:QE X e te)(he:∀ whole,isTrue e X.env whole=(do let v<-whole;standAt e.pos;holding [v] (truthy v)):=by intro _;rfl):QT X e (tB te):=⟨M1 h.h he⟩
def kg (S:Sc X N W G)(i:Nat)(h:N[i]?=some x:=by rfl)(hw:W[i]?=some x:=by rfl):QG X (.Name x pos) (bN i):=⟨gv S i h hw⟩
def dO:Qy X [] pV:=⟨IH⟩
variable {tgs:zV}
def bq (h1:QG X e g)(h2:Qy X es tgs)(hs:(assignEach (e::es) X.env).map (·.2)=assign e X.env::(assignEach es X.env).map (·.2):=by rfl):Qy X (e::es) (dJ g tgs):=⟨D6 h1.h h2.h hs⟩
variable {n kk:Nat}
def mI (hc:X.calm=true)(hK:X.K=K)(h:Qy X es tgs)(hn:(assignEach es X.env).length=n:=by rfl)(hst:(assignEach es X.env).findIdx? (·.1)=none:=by rfl):QG X (.Tuple es kk pos) (pW K n tgs):=⟨by subst hK;exact Ng hc h.h hn hst⟩
def Tp {ti:TE}{i:Expr}{tS:D5}(ho:QE X o to)(hi:QE X i ti)(hs:Nf X tS)
  (ha:∀ v,assign (.Subscript o i pos) X.env v=(do
   let ov<-holding [v] (eval o X.env)
   let iv<-holding [v,ov] (eval i X.env)
   standAt pos
   holding [v,ov,iv] (setItem ov iv v)
   release [v,ov,iv] []):=by intro _;rfl):QG X (.Subscript o i pos) (Nh to ti tS):=⟨Ni ho.h hi.h hs ha⟩
def iw (S:Sc X N W G)(g:Nat)(hm:X.mg "range"=none)(ha:QB X [e] t)(hg:G[g]?=some "range":=by rfl):QI X tg (.Call (.Name "range" p) [e] [] pos) (zX t):=⟨UD S g hm ha.h hg⟩
def Qz (S:Sc X N W G)(g:Nat)(hm:X.mg "range"=none)(ha:QB X [e,a] t)(hg:G[g]?=some "range":=by rfl):QI X tg (.Call (.Name "range" p) [e,a] [] pos) (zZ t):=⟨UE S g hm ha.h hg⟩
def b9 (hl:QE X e te)(h:X.K=K):QI X tg e (zW K te):=⟨EO hl.h h⟩
def fj (hl:QE X e te)(h:X.K=K):QI X tg e (II K te):=⟨JG hl.h h⟩
def bG:SQ X [] il:=⟨Jt⟩
def da (h:QT X e tA):SQ X [e] tA:=⟨Ju h.h⟩
def bo (S:Sc X N W G)(i:Nat)(he:QE X e te)(h:N[i]?=some x:=by rfl)(hw:W[i]?=some x:=by rfl)(hs:swapsWith e (some<|.Name x pos') pos.line X.env=pure false:=by rfl) :
  QS X (.Assign [.Name x pos'] e pos) (sI te<|bN i):=⟨sv S i he.h h hw hs⟩
def QA (he:QE X e te)(hg:QG X tg g)(hs:swapsWithSole [tg] e pos.line X.env=pure false:=by rfl)(hw:swappedStores [tg] e X.env=pure none:=by rfl)
  (h1:(assignEach [tg] X.env).map (·.2)=[assign tg X.env]:=by rfl):QS X (.Assign [tg] e pos) (sI te g):=⟨Nj he.h hg.h hs hw h1⟩
def aI (he:QE X e te):QS X (.Return (some e) pos) (Nb te):=⟨Nc he.h⟩
def dv (he:QE X e te)(hs:swapsWith e none pos.line X.env=pure false:=by rfl):QS X (.Expr e pos) (D4 te):=⟨IF he.h hs⟩
def cj {l l':List Stmt}(hc:QT X c tA)(ha:u6 X l u)(hb:u6 X l' v):QS X (.If c l l' pos) (Nd tA u v):=⟨PN hc.h ha.h hb.h⟩
variable {sts:List Stmt}
def yu (hxe:X.xe=λ_ _=>False)(hc:QT X c tA)(hb:u6 X sts u):QS X (.While c sts [] pos) (sL tA u):=⟨D7 (EN hxe) hc.h hb.h⟩
def eV (hxe:X.xe=λ_ _=>False)(hc:X.calm=true)(hi:QI X tg iter wi)(hg:QG X tg g)(hb:u6 X sts u)(hs:(∀ x,foldedSetIterable iter X.env x=pure x):=by intro _;rfl):QS X (.For tg iter sts [] pos) (IK wi g u):=⟨D9 (EN hxe) hc hi.h hg.h hb.h hs⟩
def av:u6 X [] D0:=⟨ID⟩
def ae (h1:QS X st u)(h2:u6 X sts v):u6 X (st::sts) (BO u v):=⟨D3 h1.h h2.h⟩
def ai (h1:QS X st u):u6 X [st] u:=⟨IE h1.h⟩
def ju (S:Sc X oN oW oG)(hc:X.calm=true)(h1:X.env.scope=osc)(hi:QI X target iter wi)(h:LP osc oN N W G scope fv=true)
  (hB:∀ cl C fp s H,Sc (kj X N scope cl C fp s H) N W G->QG (kj X N scope cl C fp s H) target g/\SQ (kj X N scope cl C fp s H) ifs tA/\QE (kj X N scope cl C fp s H) elt te)
  (hs:(∀ x,foldedSetIterable iter X.env x=pure x):=by intro _;rfl):QE X (.ListComp elt [⟨target,iter,ifs,0⟩] scope pos) (NM wi g tA te fv):=
 ⟨UG S hc h1 hi.h h (λcl C fp s H a=>⟨(hB cl C fp s H a).1.h,(hB cl C fp s H a).2.1.h,(hB cl C fp s H a).2.2.h⟩) hs⟩
variable {i:Nat}
def B9 {px spos:Pos}(S:Sc X oN oW oG)(hc:X.calm=true)(h1:X.env.scope=osc)(hi:QI X target iter wi)(h:LP osc oN N W G scope fv=true)
  (hB:∀ cl C fp s H,Sc (kj X N scope cl C fp s H) N W G->QG (kj X N scope cl C fp s H) target g/\SQ (kj X N scope cl C fp s H) ifs tA/\QE (kj X N scope cl C fp s H) elt te)
  (hx:X.env.scope.names.lookup x=some .local)
  (hsw:swapsWith (.ListComp elt [⟨target,iter,ifs,0⟩] scope pos) (some<|.Name x px) spos.line X.env=pure true) (hi':oN[i]?=some x:=by rfl)
  (hs:(∀ x,foldedSetIterable iter X.env x=pure x):=by intro _;rfl):QS X (.Assign [.Name x px] (.ListComp elt [⟨target,iter,ifs,0⟩] scope pos) spos) (sI (NM wi g tA te fv)<|bN i):=
 ⟨UH S hc h1 hi.h h (λcl C fp s H a=>⟨(hB cl C fp s H a).1.h,(hB cl C fp s H a).2.1.h,(hB cl C fp s H a).2.2.h⟩) hx hsw hi' hs⟩
def Def.gq (D:Def K mg x st)(S:DS (aj st) N ps G)
  (hb:∀ (kV doc pm:Value) (an:Option Addr) (cy ct:Value) (us:List Value),us.length=ps.length->bindArgs (fnOf x x (bf st) (aO st) (aj st) .none kV doc pm an cy ct) ⟨us,[]⟩=pure (ps.zip us))
  (len:∀ vs H Q E,sp vs H Q E->vs.length=ps.length)
  (cV:∀ (X:Cx),Sc X N N G->X.prog=P->X.w=w->X.K=K->X.mg=mg->X.base=base->X.calm=true->X.env.scope=aj st->X.xe=(λ_ _=>False)->b6 k X.A->X.A.units+64<cLine->
   ∀ (H:Hp) (vs:List V) (Q:VK) (E:XK),sp vs H Q E->∃ t,u6 X (aO st) t/\t {nx:=λ_ H'=>Q .bx H',rt:=Q} (L2.start N vs) H):Fn P w K mg base (k+1) x ps sp:=
 D.go S hb len λX a b c d e f g h i j l H vs Q E q=>by
  obtain⟨t,z,y⟩:=cV X a b c d e f g h i j l H vs Q E q;exact⟨t,z.h,y⟩
def pr:List Int->Int
 | []=>1
 | c::r=>c*pr r
def tF (xs:List Int)(c:Int):pr (xs++[c])=pr xs*c:=by
 induction xs with
 | nil=>simp[pr]
 | cons a r b=>rw[cons_append,pr,b,pr,Int.mul_assoc]
def di (W:Int)(cs:List Int):Int:=(cs.map (W / ·)).sum
def sum_append (xs ys:List Int):(xs++ys).sum=xs.sum+ys.sum:=by
 induction xs with
 | nil=>simp
 | cons a r b=>rw[cons_append,U7,b,U7,Int.add_assoc]
def Ca (W:Int)(xs:List Int)(c:Int):di W (xs++[c])=di W xs+W / c:=by
 unfold di;rw[eH,sum_append];simp
theorem yv {c:Int}:∀ {cs:List Int},c∈cs->c∣pr cs
 | a::r,h=>by
  rcases gd.mp h with rfl | h
  ·exact⟨pr r,rfl⟩
  ·obtain⟨d,e⟩:=yv h;exact⟨a*d,by rw[pr,e,<-Int.mul_assoc,<-Int.mul_assoc,Int.mul_comm a c]⟩
theorem tG:∀ {cs:List Int},(∀ c∈cs,1<=c)->1<=pr cs
 | [],_=>by decide
 | a::r,h=>by
  have h1:=h a<|eR ..;have b:=tG (cs:=r) λc hc=>h c<|fA _ hc
  have:=Int.mul_le_mul h1 b ad (by omega)
  rw[pr];omega
theorem vJ {W d:Int}:∀ {cs:List Int},(∀ c∈cs,c∣W)->di (W*d) cs=di W cs*d
 | [],_=>by simp[di]
 | a::r,h=>by
  have b:=vJ (W:=W) (d:=d) (cs:=r) λc hc=>h c<|fA _ hc;unfold di at b ⊢;rw[rr,rr,U7,U7,b,Int.add_mul,Int.mul_comm W d,Int.mul_ediv_assoc d<|h a<|eR ..,Int.mul_comm d]
theorem iy {W:Int}(hW:0<=W):∀ {cs:List Int},(∀ c∈cs,1<=c)->0<=di W cs
 | [],_=>by simp[di]
 | a::r,h=>by
  have b:=iy hW (cs:=r) λc hc=>h c<|fA _ hc;have h1:=h a<|eR ..
  have:0<=W / a:=Int.ediv_nonneg hW (by omega)
  unfold di at b ⊢;rw[rr,U7];omega
variable {c:Int}
def Cb {xs:List Int}(hc:1<=c):di (pr<|xs++[c]) (xs++[c])=di (pr xs) xs*c+pr xs:=by
 rw[Ca,tF,vJ λc hc=>yv hc,Int.mul_ediv_cancel _ (by omega)]
theorem Ax {W:Int}(hW:0<=W):∀ {cs:List Int},(∀ c∈cs,1<=c)->di W cs<=cs.length*W
 | [],_=>by simp[di]
 | a::r,h=>by
  have b:=Ax hW (cs:=r) λc hc=>h c<|fA _ hc;have h1:=h a<|eR ..;have d:W / a<=W:=Int.ediv_le_self _ hW;unfold di at b ⊢;rw[rr,U7,ls,Int.natCast_succ,Int.add_mul];omega
def E4 (m n:Nat):Nat.gcd n (m % n)=Nat.gcd m n:=by
 rw[Nat.gcd_comm m n,Nat.gcd_rec n m,Nat.gcd_comm]
variable {b g:Int}
def JH {a:Int}(hg:0<g)(h1:g∣a)(h2:g∣b):(a / g) / (b / g)=a / b:=by
 obtain⟨x,rfl⟩:=h1;obtain⟨y,rfl⟩:=h2;rw[Vk _ (by omega),Vk _ (by omega),Int.mul_ediv_mul_of_pos _ _ hg]
def JI (hg:0<g)(hb:0<b)(h2:g∣b):1<=b / g:=by
 obtain⟨y,rfl⟩:=h2;rw[Vk _ (by omega)]
 have:=Int.pos_of_mul_pos_right hb (by omega)
 omega
def hV (W c start seen:Int):Int:=((start - seen) % W+W / c - 1) / (W / c) % c
variable {W seen:Int}
def E6 {start:Int}(hc:1<=c):0<=hV W c start seen:=IR _ (by omega)
def E7 {start:Int}(hc:1<=c):hV W c start seen<c:=GT _ (by omega)
def others (n i:Nat):List Nat:=(List.range n).filter λj=>decide<|¬ j=i
def seenOf (W:Int)(cs hs:List Int)(i:Nat):Int:=((others cs.length i).map λj=>hs.getD j 0*(W / cs.getD j 0)).sum
def cg (cs hs:List Int)(i:Nat):Int:=hV (pr cs) (cs.getD i 0) (di (pr cs)<|cs.take i)<|seenOf (pr cs) cs hs i
variable {cs:List Int}
def getD_mem (hi:i<cs.length):cs.getD i 0∈cs:=by
 rw[b3,b4 hi];exact pP hi
variable {hs:List Int}
def QC (h:∀ c∈cs,1<=c)(hi:i<cs.length):0<=cg cs hs i:=E6<|h _<|getD_mem hi
def QD (h:∀ c∈cs,1<=c)(hi:i<cs.length):cg cs hs i<cs.getD i 0:=E7<|h _<|getD_mem hi
def take_snoc {α:Type}(d:α){xs:List α}(h:n<xs.length):xs.take (n+1)=xs.take n++[xs.getD n d]:=by
 rw[take_succ,b4 h,b3,b4 h];rfl
def Fb (h:∀ c∈cs,1<=c)(hi:i<cs.length):pr cs / cs.getD i 0<=pr cs/\1<=pr cs / cs.getD i 0:=by
 have a:=tG h;have hc:=h _<|getD_mem hi;refine⟨Int.ediv_le_self _ (by omega),?_⟩
 obtain⟨d,e⟩:=yv<|getD_mem hi;rw[e,Vk _ (by omega)]
 have:=Int.pos_of_mul_pos_right (show 0<cs.getD i 0*d by omega) (by omega)
 omega
variable {A:Prop}
def Cc {B:Prop}[Decidable (true=true)]:(if true=true then A else B)=A:=if_pos rfl
def mr {B:Prop}[Decidable True]:(if True then A else B)=A:=if_pos trivial
theorem LR {B:Prop}[Decidable False]:(if False then A else B)=B:=if_neg id
def QF [i:Decidable True]:@decide True i=true:=by cases i with
 | isTrue _=>rfl
 | isFalse h=>exact absurd trivial h
def LS {σ:St}:yn [] σ=[]:=rfl
def LU {σ:St}:yn (none::fv) σ=none::yn fv σ:=rfl
def JJ (σ:St)(i:Nat):Option V:=(σ[i]?).join
def LV {σ:St}:yn (some i::fv) σ=JJ σ i::yn fv σ:=rfl
variable {o:Option V}
def QH {σ:St}:JJ (o::σ) 0=o:=rfl
def QK {σ:St}:JJ (o::σ) (i+1)=JJ σ i:=rfl
variable {Q:VK}
def Fc {x:V}{n:String}{b:Bool}(hn:tyName x H=some n)(hb:JA n T=some b)(q:Q (.bl b) H):Qv [x,.ty T] H Q:=⟨x,T,n,b,rfl,hn,hb,q⟩
variable {p:Addr}
def aZ {ys:List V}(h:au K H p ys∨aN K H p ys)(q:Q (.int ys.length) H):Qr K [.ref p] H Q:=⟨p,ys,rfl,h,q⟩
def nZ {ns:List Int}(h:au K H p (ns.map V.int))(q:Q (.int ns.sum) H):Qs K [.ref p] H Q:=⟨p,ns,rfl,h,q⟩
variable {i:Int}
def gu {α:Type}{xs:List α}{k:Nat}(e:i=(k:Int))(d:α)(h1:k<xs.length):uZ xs i=some (xs.getD k d):=by
 subst e;rw[ja (b4 h1),b3,b4 h1];rfl
def getD_ints {ns:List Int}{k:Nat}(h:k<ns.length):(ns.map V.int).getD k .bx=.int (ns.getD k 0):=by
 rw[b3,et,b4 h,b3,b4 h];rfl
def eW {ns:List Int}{k:Nat}(h:au K H p (ns.map V.int))(e:i=(k:Int))(h1:k<ns.length)(q:Q (.int<|ns.getD k 0) H):lp K (.ref p) (.int i) H Q:=
 ⟨p,_,i,_,rfl,rfl,h,gu e .bx (by rw[b5];exact h1),by rw[getD_ints h1];exact q⟩
def dD {ns:List Int}{k:Nat}(h:aN K H p (ns.map V.int))(e:i=(k:Int))(h1:k<ns.length)(q:Q (.int<|ns.getD k 0) H):B0 K (.ref p) (.int i) H Q:=
 ⟨p,_,i,_,rfl,rfl,h,gu e .bx (by rw[b5];exact h1),by rw[getD_ints h1];exact q⟩
variable {a:Addr}{ns:List Int}{g:TG}{tb:TS}
def JK (I:Nat->St->Hp->Prop)(h:aN K H a (ns.map V.int))(h0:I 0 σ H)(hl:∀ i σ H,I i σ H->aN K H a (ns.map V.int))
  (step:∀ i σ H,i<ns.length->I i σ H->g (.int<|ns.getD i 0) σ H λσ2 H2=>tb {D with nx:=I<|i+1,ct:=I<|i+1,bk:=D.nx} σ2 H2)
  (fin:∀ σ H,I ns.length σ H->D.nx σ H):∃ b,V.ref a=.ref b/\(∃ xs,aN K H b xs)/\p9 g tb D σ (DH K b) H:=by
 refine⟨a,rfl,⟨_,h⟩,Aa (xs:=ns.map V.int) I h0 (λi σ H _ p=>hl i σ H p) (λi x σ H e p=>?_) λσ H p=>fin σ H (by rw[b5] at p;exact p)⟩
 have c:i<ns.length:=by have:=(ka.mp e).1;rw[b5] at this;exact this
 have d:x=.int (ns.getD i 0):=by
  rw[<-getD_ints c,b3,e];rfl
 rw[d];exact step i σ H c p
def forL (I:Nat->St->Hp->Prop)(h:au K H a (ns.map V.int))(h0:I 0 σ H)(hl:∀ i σ H,I i σ H->au K H a (ns.map V.int))
  (step:∀ i σ H,i<ns.length->I i σ H->g (.int<|ns.getD i 0) σ H λσ2 H2=>tb {D with nx:=I<|i+1,ct:=I<|i+1,bk:=D.nx} σ2 H2)
  (fin:∀ σ H,I ns.length σ H->D.nx σ H):∃ b,V.ref a=.ref b/\(∃ xs,au K H b xs)/\p9 g tb D σ (Ii K b) H:=by
 refine⟨a,rfl,⟨_,h⟩,vh (xs:=ns.map V.int) I h0 (λi σ H _ p=>hl i σ H p) (λi x σ H e p=>?_) λσ H p=>fin σ H (by rw[b5] at p;exact p)⟩
 have c:i<ns.length:=by have:=(ka.mp e).1;rw[b5] at this;exact this
 have d:x=.int (ns.getD i 0):=by
  rw[<-getD_ints c,b3,e];rfl
 rw[d];exact step i σ H c p
variable {j:Int}
def forR (n:Nat)(I:Nat->St->Hp->Prop)(e:j=(n:Int))(hn:n<=1000000)(h0:I 0 σ H)
  (step:∀ i σ H,i<n->I i σ H->g (.int (i:Int)) σ H λσ2 H2=>tb {D with nx:=I<|i+1,ct:=I<|i+1,bk:=D.nx} σ2 H2)
  (fin:∀ σ H,I n σ H->D.nx σ H):∃ k:Int,[V.int j]=[.int k]/\-(2 ^ 62)<=k/\k<2 ^ 62/\p9 g tb D σ (xW 0 k.toNat) H:=by
 subst e;refine⟨_,rfl,by omega,by omega,qQ (n:=((n:Nat):Int).toNat) I h0 (λi σ H a p=>?_) λσ H p=>fin σ H (by rw[FM] at p;exact p)⟩
 rw[FM] at a
 have:=step i σ H a p
 rw[<-Int.zero_add ((i:Nat):Int)] at this;exact this
variable {tc:TT}
def n9 {rest:St}{H1:Hp}(ok:B7 J H1 n item)(keep:Nat->Bool)(val:Nat->V)(hn:n<sizeLine)
  (step:∀ i H (A:V->Hp->Prop) (B:Hp->Prop),i<n->ag H1 H->(keep i=true->∀ H',ag H H'->A (val i) H')->(keep i=false->∀ H',ag H H'->B H')->
   tc (some (item i)::rest) H λb H3=>if b=true then te (some (item i)::rest) H3 A else B H3)
  (fin:∀ acc H,H1 acc=none->ag H1 H->H acc=some (.lst<|((List.range n).filter keep).map val)->Q (.ref acc) H):vC (bN 0) tc te (none::rest) Q J H1:=by
 have c:∀ i,i<n->(((List.range i).filter keep).map val).length<sizeLine:=λi e=>by
  have:=zO keep<|List.range i
  rw[pS] at this;rw[b5];omega
 refine NU ok (λi=>((List.range i).filter keep).map val) (λ_ τ=>∃ y,τ=y::rest) rfl ⟨_,rfl⟩ ?_ fin;rintro i τ H acc e ⟨y,rfl⟩ d f g;show tc (some (item i)::rest) H _;refine step i H _ _ e f (λhk H' a=>?_) λhk H' a=>?_
 ·refine NT d (a _ _ g) (f.trans a) (c i e) ?_ ⟨_,rfl⟩
  simp[List.range_succ,List.filter_append,List.map_append,hk]
 ·refine⟨⟨_,rfl⟩,f.trans a,?_⟩;rw[a _ _ g]
  simp[List.range_succ,List.filter_append,List.map_append,hk]
def SR {rest:St}{H1:Hp}(keep:Nat->Bool)(val:Nat->Int)(h:aN K H1 a (ns.map V.int))(hn:ns.length<sizeLine)
  (step:∀ i H (A:V->Hp->Prop) (B:Hp->Prop),i<ns.length->ag H1 H->(keep i=true->∀ H',ag H H'->A (.int<|val i) H')->(keep i=false->∀ H',ag H H'->B H')->
   tc (some (.int<|ns.getD i 0)::rest) H λb H3=>if b=true then te (some (.int<|ns.getD i 0)::rest) H3 A else B H3)
  (fin:∀ acc H,H1 acc=none->ag H1 H->H acc=some (.lst<|(((List.range ns.length).filter keep).map val).map V.int)->Q (.ref acc) H) :
  ∃ b,V.ref a=.ref b/\(∃ xs,aN K H1 b xs)/\vC (bN 0) tc te (none::rest) Q (DH K b) H1:=by
 refine⟨a,rfl,⟨_,h⟩,n9 (km h) keep (λi=>.int<|val i) (by rw[b5];exact hn) (λi H A B c j d g=>?_) λacc H h1 e f=>fin acc H h1 e (by rw[f,kb,b5];rfl)⟩
 rw[b5] at c;rw[getD_ints c];exact step i H A B c j d g
def Tq {rest:St}{H1:Hp}(keep:Nat->Bool)(val:Nat->Int)(h:au K H1 a (ns.map V.int))(hn:ns.length<sizeLine)
  (step:∀ i H (A:V->Hp->Prop) (B:Hp->Prop),i<ns.length->ag H1 H->(keep i=true->∀ H',ag H H'->A (.int<|val i) H')->(keep i=false->∀ H',ag H H'->B H')->
   tc (some (.int<|ns.getD i 0)::rest) H λb H3=>if b=true then te (some (.int<|ns.getD i 0)::rest) H3 A else B H3)
  (fin:∀ acc H,H1 acc=none->ag H1 H->H acc=some (.lst<|(((List.range ns.length).filter keep).map val).map V.int)->Q (.ref acc) H) :
  ∃ b,V.ref a=.ref b/\(∃ xs,au K H1 b xs)/\vC (bN 0) tc te (none::rest) Q (Ii K b) H1:=by
 refine⟨a,rfl,⟨_,h⟩,n9 (bJ h) keep (λi=>.int<|val i) (by rw[b5];exact hn) (λi H A B c j d g=>?_) λacc H h1 e f=>fin acc H h1 e (by rw[f,kb,b5];rfl)⟩
 rw[b5] at c;rw[getD_ints c];exact step i H A B c j d g
def QL {rest:St}{H1:Hp}(n:Nat)(keep:Nat->Bool)(val:Nat->Int)(e:j=(n:Int))(hn:n<=1000000)
  (step:∀ i H (A:V->Hp->Prop) (B:Hp->Prop),i<n->ag H1 H->(keep i=true->∀ H',ag H H'->A (.int<|val i) H')->(keep i=false->∀ H',ag H H'->B H')->
   tc (some (.int (i:Int))::rest) H λb H3=>if b=true then te (some (.int (i:Int))::rest) H3 A else B H3)
  (fin:∀ acc H,H1 acc=none->ag H1 H->H acc=some (.lst<|(((List.range n).filter keep).map val).map V.int)->Q (.ref acc) H) :
  ∃ k:Int,[V.int j]=[.int k]/\-(2 ^ 62)<=k/\k<2 ^ 62/\vC (bN 0) tc te (none::rest) Q (xW 0 k.toNat) H1:=by
 subst e;refine⟨_,rfl,by omega,by omega,?_⟩
 rw[FM];refine n9 nW keep (λi=>.int<|val i) (M2 hn ad) (λi H A B g h a f=>?_) λacc H h1 c d=>fin acc H h1 c (by rw[d,kb];rfl)
 rw[Int.zero_add];exact step i H A B g h a f
def bZ (n:Nat):(List.range n).filter (λ_=>true)=List.range n:=by simp
variable {β:Type}
def map_getD (ns:List Int)(f:Int->β):(List.range ns.length).map (λi=>f<|ns.getD i 0)=ns.map f:=by
 apply ext_getElem
 ·simp
 ·intro i h1 a
  simp at h1
  simp[h1]
theorem Bt.pr {k:Nat}:∀ {cs:List Int},(∀ c∈cs,Bt k c)->Bt (cs.length*k+1) (L2.pr cs)
 | [],_=>by unfold Bt;simp[L2.pr]
 | c::r,h=>by
  have h1:=h c<|eR ..;have a:=Bt.pr (k:=k) (cs:=r) λd b=>h d<|fA _ b
  have:=h1.mul a
  rw[L2.pr];exact this.mono (by rw[ls,Nat.succ_mul];omega)
def Ij.gq {k:Nat}{fd:FuncData}(F:Ij K x x st f fd)(S:DS (aj st) N ps G)
  (len:∀ vs H Q E,sp vs H Q E->vs.length=ps.length)
  (cV:∀ (X:Cx),Sc X N N G->X.prog=P->X.w=w->X.K=K->X.mg=mg->X.base=base->X.calm=true->X.env.scope=aj st->X.xe=(λ_ _=>False)->b6 k X.A->X.A.units+64<cLine->
   ∀ (H:Hp) (vs:List V) (Q:VK) (E:XK),sp vs H Q E->∃ t,u6 X (aO st) t/\t {nx:=λ_ H'=>Q .bx H',rt:=Q} (L2.start N vs) H):fi P w K mg base DM (k+1) f fd ps sp:=
 F.ok S.fs len λc A a s H vs Q E b h=>by
  obtain⟨t,z,y⟩:=cV _ S.cx rfl rfl rfl rfl rfl rfl rfl rfl b b.units H vs Q E h;exact⟨t,z.h,y⟩
def Fd {k:Nat}(h:k<=xs.length):jo xs none (some (k:Int))=xs.take k:=by
 unfold jo;rw[HT.j7,HT.i9,drop_zero,Nat.sub_zero,Nat.min_eq_left h]
def Fe {k:Nat}(h:k<=xs.length):jo xs (some (k:Int)) none=xs.drop k:=by
 unfold jo;rw[HT.j7,HT.i9,Nat.min_eq_left h,D2];rw[mv];exact ea _
def cX {k:Nat}:jo xs (some (k:Int)) none=xs.drop k:=by
 by_cases h:k<=xs.length
 ·exact Fe h
 ·unfold jo;rw[HT.j7,HT.i9,Nat.min_eq_right (by omega),drop_eq_nil_of_le<|ea _,drop_eq_nil_of_le (by omega),List.take_nil]
def jc {k:Nat}:jo xs none (some (k:Int))=xs.take k:=by
 by_cases h:k<=xs.length
 ·exact Fd h
 ·unfold jo;rw[HT.j7,HT.i9,drop_zero,Nat.sub_zero,Nat.min_eq_right (by omega),D2<|ea _,D2 (by omega)]
def Ay (k:Nat)(h:aN K H a (ns.map V.int))(e:i=(k:Int))(hk:k<ns.length)(q:∀ p,H p=none->Q (.ref p) (upd H p<|.tup<|(ns.take k).map V.int)):Ji K (.ref a) none (some i) H Q:=by
 subst e;refine⟨a,_,rfl,h,?_,λp b=>?_⟩
 ·rw[b5,HT.i9];omega
 ·rw[jc,<-Vu];exact q p b
def Az (k:Nat)(h:aN K H a (ns.map V.int))(e:i=((k+1:Nat):Int))(hk:k<ns.length)(q:∀ p,H p=none->Q (.ref p) (upd H p<|.tup<|(ns.drop<|k+1).map V.int)):Ji K (.ref a) (some i) none H Q:=by
 subst e;refine⟨a,_,rfl,h,?_,λp b=>?_⟩
 ·rw[b5,HT.i9];omega
 ·rw[cX,<-SL];exact q p b
def JL (k:Nat)(h:au K H a (ns.map V.int))(e:i=(k:Int))(q:∀ p,H p=none->Q (.ref p) (upd H p<|.lst<|(ns.drop k).map V.int)):vt K (.ref a) (some i) none H Q:=by
 subst e;refine⟨a,_,rfl,h,λp b=>?_⟩;rw[cX,<-SL];exact q p b
variable {b:Addr}{ms:List Int}
def tH (h:au K H a (ns.map V.int))(h':au K H b (ms.map V.int))(hz:ns.length+ms.length<=sizeLine)(q:∀ p,H p=none->Q (.ref p) (upd H p<|.lst<|(ns++ms).map V.int)):Aq K (.ref a) (.ref b) H Q:=
 ⟨a,b,_,_,rfl,rfl,h,h',by rw[b5,b5];exact hz,λp c=>by rw[<-eH];exact q p c⟩
def JM (h:aN K H a (ns.map V.int))(h':aN K H b (ms.map V.int))(hz:ns.length+ms.length<=sizeLine)(q:∀ p H',ag H H'->aN K H' p ((ns++ms).map V.int)->Q (.ref p) H'):ES K (.ref a) (.ref b) H Q:=
 ⟨a,b,_,_,rfl,rfl,h,h',by rw[b5,b5];exact hz,λp H' d c=>by rw[<-eH] at c;exact q p H' d c⟩
def de (h:n<=100):n<=sizeLine:=fz h ad
variable {v:V}
def bA (h:aN K H p xs)(e:uZ xs i=some v)(q:Q v H):B0 K (.ref p) (.int i) H Q:=⟨p,_,i,_,rfl,rfl,h,e,q⟩
structure Cn (c:Int):Prop where
 lo:1<=c
 hi:c<=1000000000000000000000000000000
def LW:Sp:=λa H Q _=>∃ m n:Nat,a=[.int m,.int n]/\Q (.int<|Nat.gcd m n) H
def QM (H0:Hp)(g:Nat)(r:St)(σ:St)(H:Hp):Prop:=H=H0/\∃ (m n:Nat) (y:St),σ=some (.int m)::some (.int n)::y/\y.length=r.length/\Nat.gcd m n=g
def Uk (σ:St):Nat:=match σ with
 | _::some (.int n)::_=>n.toNat
 | _=>0
def Tr {α:Type}{y:List α}(h:y.length=1):∃ a,y=[a]:=by
 match y,h with
 | [a],_=>exact⟨a,rfl⟩
def Ts (m n:Nat):(m:Int) % (n:Int)=((m % n:Nat):Int):=(natCast_emod m n).symm
structure cA (cs:List Int):Prop where
 cn:∀ c∈cs,Cn c
 len:cs.length<=8
end L2
namespace L2
open PySem PySem.Spec PyProof.Rows
def cA.pos {cs:List Int}(h:cA cs):∀ c∈cs,1<=c:=λc hc=>(h.cn c hc).lo
theorem cA.take {cs:List Int}(h:cA cs)(i:Nat):cA (cs.take i):=⟨λc hc=>h.cn c<|UW hc,by rw[tz];have:=h.len;omega⟩
def Cn.bt {c:Int}(h:Cn c):Bt 100 c:=by
 unfold Bt;have h1:=h.lo;have a:=h.hi
 have:(2:Nat) ^ 100=1267650600228229401496703205376:=by decide
 omega
def cA.Cd {cs:List Int}(h:cA cs):Bt 801 (pr cs):=(Bt.pr λc hc=>(h.cn c hc).bt).mono (by have:=h.len;omega)
def cA.jv {cs:List Int}(h:cA cs):1<=pr cs:=tG h.pos
def cA.Tt {cs:List Int}(h:cA cs):0<=di (pr cs) cs:=iy (by have:=h.jv;omega) h.pos
def cA.Tu {cs:List Int}(h:cA cs):Bt 805 (di (pr cs) cs):=by
 have h1:=Ax (W:=pr cs) (by have:=h.jv;omega) h.pos
 have b:(cs.length:Int)*pr cs<=8*pr cs:=Int.mul_le_mul_of_nonneg_right (by have:=h.len;omega) (by have:=h.jv;omega)
 have a:Bt (4+801) (8*pr cs):=Bt.mul (by unfold Bt;decide) h.Cd
 exact a.of_le h.Tt (by omega)
def cA.get {cs:List Int}(h:cA cs){i:Nat}(hi:i<cs.length):Cn (cs.getD i 0):=h.cn _<|L2.getD_mem hi
def gC (cs:List Int):Nat:=Nat.gcd (di (pr cs) cs).toNat (pr cs).toNat
def yw {cs:List Int}(h:cA cs):0<gC cs:=Nat.gcd_pos_of_pos_right _ (by have:=h.jv;omega)
def toN {i:Int}(h:0<=i):((i.toNat:Nat):Int)=i:=Int.toNat_of_nonneg h
def QN {cs:List Int}(h:cA cs):(gC cs:Int)∣di (pr cs) cs:=by
 have:=Int.natCast_dvd_natCast.mpr<|Nat.gcd_dvd_left (di (pr cs) cs).toNat (pr cs).toNat
 rw[toN h.Tt] at this;exact this
def Ff {cs:List Int}(h:cA cs):(gC cs:Int)∣pr cs:=by
 have:=Int.natCast_dvd_natCast.mpr<|Nat.gcd_dvd_right (di (pr cs) cs).toNat (pr cs).toNat
 rw[toN (show 0<=pr cs by have:=h.jv;omega)] at this
 exact this
def Ul (cs:List Int):Int:=di (pr cs) cs / gC cs
def SS (cs:List Int):Int:=pr cs / gC cs
def yy {cs:List Int}(h:cA cs):1<=SS cs:=JI (by have:=yw h;omega) (by have:=h.jv;omega)<|Ff h
def NZ {cs:List Int}(h:cA cs):Bt 801 (SS cs):=h.Cd.of_le (by have:=yy h;omega) (Int.ediv_le_self _ (by have:=h.jv;omega))
def QP {cs:List Int}(h:cA cs):Bt 801 (gC cs):=h.Cd.of_le (by omega) (Int.le_of_dvd (by have:=h.jv;omega)<|Ff h)
def N0 {cs:List Int}(h:cA cs):Ul cs / SS cs=di (pr cs) cs / pr cs:=JH (by have:=yw h;omega) (QN h)<|Ff h
def AA (K:Frag):Sp:=λa H Q _=>∃ (p:Addr) (cs:List Int),a=[.ref p]/\aN K H p (cs.map V.int)/\cA cs/\∀ (q:Addr) (H':Hp),ag H H'->H' q=some (.tup [.int (Ul cs),.int<|SS cs])->Q (.ref q) H'
def Tv (H0:Hp)(p:Addr)(cs:List Int)(i:Nat)(σ:St)(H:Hp):Prop:=H=H0/\∃ y,σ=[some (.ref p),some<|.int<|di (pr<|cs.take i)<|cs.take i,some<|.int<|pr<|cs.take i,y,none]
def Fg (K:Frag):Sp:=λa H Q _=>∃ (p:Addr) (cs:List Int),a=[.ref p]/\aN K H p (cs.map V.int)/\cA cs/\∀ (H':Hp),ag H H'->Q (.int<|di (pr cs) cs / pr cs) H'
def N8 {i j:Int}(h:i=j):(!decide (i=j))=false:=by rw[cc h];rfl
def AB (K:Frag):Sp:=λb H Q _=>∃ (a:Addr) (ns:List Int),b=[.ref a]/\au K H a (ns.map V.int)/\ns.length<=63/\∀ H',Q (.bl true) H'
def Fh (K:Frag):Sp:=λa H Q _=>∃ (p:Addr) (cs:List Int),a=[.ref p]/\aN K H p (cs.map V.int)/\cA cs/\Q (.int<|pr cs) H
def QQ (H0:Hp)(p:Addr)(cs:List Int)(i:Nat)(σ:St)(H:Hp):Prop:=H=H0/\∃ y,σ=[some (.ref p),some<|.int<|pr<|cs.take i,y]
structure QR (cs hs:List Int):Prop where
 len:hs.length=cs.length
 bt:∀ j,j<cs.length->Bt 100 (hs.getD j 0)
def QU (K:Frag):Sp:=λa H Q _=>∃ (p h:Addr) (cs hs:List Int) (i:Nat),a=[.ref p,.ref h,.int i]/\aN K H p (cs.map V.int)/\aN K H h (hs.map V.int)/\cA cs/\QR cs hs/\i<cs.length/\∀ H',ag H H'->Q (.int<|cg cs hs i) H'
variable {i:Nat}
def N9 {cs:List Int}(hcs:cA cs)(hi:i<cs.length):(0:Int)<cs.getD i 0/\(cs.getD i 0).natAbs.log2<9000:=by
 have h1:=hcs.get hi;exact⟨by have:=h1.lo;omega,h1.bt.log (by have:=h1.lo;omega) ad⟩
def LX {cs:List Int}(hcs:cA cs)(hi:i<cs.length):Bt 801 (pr cs / cs.getD i 0):=by
 have h:=Fb hcs.pos hi;exact hcs.Cd.of_le (by omega) h.1
variable {j:Nat}
def Oa:(!decide ((j:Int)=(i:Int)))=decide (¬ j=i):=by
 by_cases h:j=i
 ·subst h;simp
 ·have a:¬ (j:Int)=(i:Int):=by omega
  rw[dy a,cc h];rfl
def putAt (hs:List Int)(i:Nat)(o:Int):List Int:=hs.take i++[o]++hs.drop (i+1)
variable {h:List Int}{x:Int}
def tJ (hj:j<h.length):(h++[x]).getD j 0=h.getD j 0:=by
 rw[b3,u5 hj,<-b3]
def tK:(h++[x]).getD h.length 0=x:=by
 rw[b3,wh<|ea _,Vr];rfl
def HN (cs h:List Int)(n:Nat):Prop:=h.length=n/\∀ i,i<n->0<=h.getD i 0/\h.getD i 0<cs.getD i 0
def gP {n:Nat}(h:n<=1000):n<=sizeLine:=Nat.le_of_lt<|az h
variable {o:HO}
def aN.gQ {K:Frag}{H:Hp}{r acc:Addr}{xs ys:List V}(h:aN K H r xs)(ha:H acc=some (.lst ys)):aN K (upd H acc o) r xs:=by
 rcases h with (h | ⟨u,h⟩) | h
 ·exact .inl (.inl (by rw[aB (fK h ha (by intro z;cases z))];exact h))
 ·exact .inl (.inr ⟨u,by rw[aB (fK h ha (by intro z;cases z))];exact h⟩)
 ·exact .inr h
def AD {n k:Nat}(h:k<n):DJ n (k:Int)=some k:=by
 unfold DJ;rw[if_pos (by omega),if_pos (by omega),FM]
def Fi (ns ms:List Int):PyData.eqv (.list<|ns.map PyData.int) (.list<|ms.map PyData.int)=decide (ns=ms):=by
 simp only[PyData.eqv,mq]
def dP {L:List Nat}{k:Nat}(h:k<L.length):L.getD k 0∈L:=by
 rw[b3,b4 h];exact pP h
def fJ (ws:List Nat)(i j:Nat):Bool:=(ws.getD i 0).testBit j
structure iA (ws:List Nat):Prop where
 lt:∀ i,i<ws.length->ws.getD i 0<2 ^ ws.length
 self:∀ i,i<ws.length->fJ ws i i=false
variable {ws:List Nat}
def iA.inside (h:iA ws)(hi:i<ws.length)(s:fJ ws i j=true):j<ws.length:=by
 by_cases c:j<ws.length
 ·exact c
 ·unfold fJ at s
  have:=Nat.testBit_lt_two_pow (x:=ws.getD i 0) (i:=j) (gg (h.lt i hi) (si ad (by omega)))
  rw[this] at s;cases s
def ready (ws:List Nat)(laid i:Nat):Bool:=!laid.testBit i&&decide (ws.getD i 0||| laid=laid)
def bS (ws:List Nat)(laid:Nat):Option Nat:=(List.range ws.length).find?<|ready ws laid
variable {b:Nat}
def Ob {a:Nat}:a||| b=b↔∀ j,a.testBit j=true->b.testBit j=true:=by
 constructor
 ·intro h j hj;rw[<-h,testBit_or,hj];rfl
 ·intro h
  apply U2
  intro j;rw[testBit_or]
  cases e:a.testBit j with
  | false=>rfl
  | true=>rw[h j e];rfl
def iB {m:Nat}:(m||| 2 ^ i).testBit j=(m.testBit j||decide (i=j)):=by
 rw[testBit_or,G3]
def fT (ws:List Nat):Nat->List Nat->Nat->List Nat
 | 0,order,_=>order
 | f+1,order,laid=>match bS ws laid with
  | none=>order
  | some i=>fT ws f (order++[i]) (laid||| 2 ^ i)
def laidOut (ws:List Nat):List Nat:=fT ws (ws.length+1) [] 0
structure Laid (ws order:List Nat)(laid:Nat):Prop where
 bits:∀ j,laid.testBit j=true↔j∈order
 nd:order.Nodup
 lt:∀ i∈order,i<ws.length
 ok:∀ k,k<order.length->∀ j,fJ ws (order.getD k 0) j=true->j∈order.take k
def Laid.nil (ws:List Nat):Laid ws [] 0:=⟨by simp,nodup_nil,by simp,by simp⟩
def ly {laid:Nat}:ready ws laid i=true↔laid.testBit i=false/\∀ j,fJ ws i j=true->laid.testBit j=true:=by
 unfold ready fJ;rw[ef,Bool.not_eq_true',r4,Ob]
def hX {laid:Nat}(h:bS ws laid=some i):i<ws.length/\laid.testBit i=false/\∀ j,fJ ws i j=true->laid.testBit j=true:=by
 have h1:=List.find?_some h;have a:=List.mem_of_find?_eq_some h;exact⟨kf.mp a,ly.mp h1⟩
variable {h:List Nat}{x d:Nat}
def ee (hj:j<h.length):(h++[x]).getD j d=h.getD j d:=by
 rw[b3,u5 hj,<-b3]
def fU:(h++[x]).getD h.length d=x:=by
 rw[b3,wh<|ea _,Vr];rfl
variable {order:List Nat}
def Laid.put {laid:Nat}(h:Laid ws order laid)(hf:bS ws laid=some i):Laid ws (order++[i]) (laid||| 2 ^ i):=by
 obtain⟨h1,f,g⟩:=hX hf;have d:i∉order:=λz=>by rw[(h.bits i).mpr z] at f;cases f
 refine⟨λj=>?_,?_,?_,?_⟩
 ·rw[iB,Vd,h.bits,eG,dt,r4]
  constructor
  ·rintro(a | a)
   ·exact .inl a
   ·exact .inr a.symm
  ·rintro(a | a)
   ·exact .inl a
   ·exact .inr a.symm
 ·rw[Os];refine⟨h.nd,by simp,?_⟩
  intro a l b hb e;rw[dt] at hb;subst hb;subst e;exact d l
 ·intro j hj
  rcases eG.mp hj with hj | hj
  ·exact h.lt j hj
  ·rw[dt.mp hj];exact h1
 ·intro k hk j hj;rw[ed] at hk
  by_cases e:k=order.length
  ·subst e;rw[fU] at hj;rw[GE (ea _),SC];exact(h.bits j).mp (g j hj)
  ·have c:k<order.length:=by simp at hk;omega
   rw[ee c] at hj;rw[GE (by omega)]
   exact h.ok k c j hj
theorem cC:∀ {n:Nat} {order:List Nat},order.Nodup->(∀ i∈order,i<n)->order.length<=n
 | 0,[],_,_=>ea _
 | 0,a::r,_,h=>absurd (h a<|eR ..)<|SF a
 | n+1,order,b,h=>by
  have h1:(order.erase n).Nodup:=b.erase n;have e:=cC (n:=n) h1 λi d=>by
   have:=(b.mem_erase_iff).mp d
   have:=h i this.2
   omega
  have c:=length_erase (a:=n) (l:=order)
  split at c<;>omega
theorem rC:∀ {xs ys:List Nat},xs.Nodup->(∀ i∈xs,i∈ys)->xs.length<=ys.length
 | [],_,_,_=>zero_le _
 | a::r,ys,e,h=>by
  have b:=AC.mp e;have h1:=rC (xs:=r) (ys:=ys.erase a) b.2 λi c=>by
   have:i≠a:=λz=>b.1<|z ▸ c
   exact(List.mem_erase_of_ne this).mpr (h i<|fA _ c)
  have d:=length_erase (a:=a) (l:=ys);rw[if_pos (h a<|eR ..)] at d
  have:0<ys.length:=length_pos_of_mem<|h a<|eR ..
  rw[ls];omega
theorem oa {ws:List Nat}:∀ (f:Nat) (order:List Nat) (laid:Nat),Laid ws order laid->ws.length<f+order.length->∃ l,Laid ws (fT ws f order laid) l/\bS ws l=none
 | 0,order,l,h,a=>by
  have:=cC h.nd h.lt
  omega
 | f+1,order,laid,h,a=>by
  unfold fT
  cases e:bS ws laid with
  | none=>exact⟨_,h,e⟩
  | some i=>exact oa f _ _ (h.put e) (by rw[ed];simp;omega)
variable {f:Nat}
def vK {laid:Nat}(e:bS ws laid=some i):fT ws (f+1) order laid=fT ws f (order++[i]) (laid||| 2 ^ i):=by
 rw[fT,e]
def vL {laid:Nat}(e:bS ws laid=none):fT ws f order laid=order:=by
 cases f with
 | zero=>rfl
 | succ f=>rw[fT,e]
def ko (ws:List Nat):∃ l,Laid ws (laidOut ws) l/\bS ws l=none:=oa _ _ _ (Laid.nil ws) (by simp)
def Ce (hw:iA ws)(hi:i<ws.length)(hn:i∉laidOut ws):∃ j,j<ws.length/\fJ ws i j=true/\j∉laidOut ws:=by
 obtain⟨l,h,e⟩:=ko ws;have h1:ready ws l i=false:=by
  have:=List.find?_eq_none.mp e i<|kf.mpr hi
  simpa using this
 have a:l.testBit i=false:=by
  cases q:l.testBit i with
  | false=>rfl
  | true=>exact absurd ((h.bits i).mp q) hn
 have b:¬ ∀ j,fJ ws i j=true->l.testBit j=true:=λz=>by
  have:=ly.mpr ⟨a,z⟩
  rw[this] at h1;cases h1
 have d:∃ j,fJ ws i j=true/\¬ l.testBit j=true:=by
  apply vr
  intro q
  apply b
  intro j hj
  apply vr
  intro r;exact q ⟨j,hj,r⟩
 obtain⟨j,hj,c⟩:=d;exact⟨j,hw.inside hi hj,hj,λz=>c<|(h.bits j).mpr z⟩
def Fj:(laidOut ws).length<ws.length↔∃ i,i<ws.length/\i∉laidOut ws:=by
 obtain⟨l,h,e⟩:=ko ws
 constructor
 ·intro c
  apply vr
  intro q
  have:∀ i,i<ws.length->i∈laidOut ws:=λi a=>vr λz=>q ⟨i,a,z⟩
  have h1:=rC (List.nodup_range (n:=ws.length)) λi a=>this i<|kf.mp a;rw[pS] at h1
  omega
 ·rintro⟨i,a,hn⟩;have h1:(i::laidOut ws).Nodup:=AC.mpr ⟨hn,h.nd⟩;have b:=cC h1 λj hj=>by
   rcases gd.mp hj with rfl | hj
   ·exact a
   ·exact h.lt j hj
  rw[ls] at b
  omega
structure Ring (ws r:List Nat):Prop where
 two:2<=r.length
 nd:r.Nodup
 lt:∀ i∈r,i<ws.length
 next:∀ k,k+1<r.length->fJ ws (r.getD k 0) (r.getD (k+1) 0)=true
 last:fJ ws (r.getD (r.length - 1) 0) (r.getD 0 0)=true
structure Path (ws left path:List Nat)(i:Nat):Prop where
 nd:path.Nodup
 sub:∀ j∈path,j∈left
 here:i∈left
 next:∀ k,k+1<path.length->fJ ws (path.getD k 0) (path.getD (k+1) 0)=true
 last:path≠[]->fJ ws (path.getD (path.length - 1) 0) i=true
variable {left:List Nat}
def Path.nil (h:i∈left):Path ws left [] i:=⟨nodup_nil,by simp,h,by simp,by simp⟩
variable {path:List Nat}
def Path.put (h:Path ws left path i)(hn:i∉path)(hj:j∈left)(hs:fJ ws i j=true):Path ws left (path++[i]) j:=by
 refine⟨?_,?_,hj,?_,?_⟩
 ·rw[Os];refine⟨h.nd,by simp,?_⟩
  intro a c b hb e;rw[dt] at hb;subst hb;subst e;exact hn c
 ·intro k hk
  rcases eG.mp hk with hk | hk
  ·exact h.sub k hk
  ·rw[dt.mp hk];exact h.here
 ·intro k hk;rw[ed] at hk
  simp at hk
  by_cases e:k+1=path.length
  ·rw[e,fU,ee (by omega)]
   have:=h.last (λz=>by subst z;simp at e)
   rw[<-e] at this
   simpa using this
  ·rw[ee (by omega),ee (by omega)]
   exact h.next k (by omega)
 ·intro _;rw[ed];show fJ ws ((path++[i]).getD (path.length+1 - 1) 0) j=true;rw[Nat.add_sub_cancel,fU];exact hs
variable {l:List Nat}
def gR {n k:Nat}:(l.drop n).getD k d=l.getD (n+k) d:=by
 rw[b3,getElem?_drop,<-b3]
def Path.ring (hw:iA ws)(hl:∀ j∈left,j<ws.length)(h:Path ws left path i)(hi:i∈path):Ring ws (path.drop<|path.idxOf i):=by
 have d:=UZ hi;have c:path.getD (path.idxOf i) 0=i:=by
  rw[b3,b4 d];exact U1 d
 have a:=h.last<|List.ne_nil_of_mem hi;generalize path.idxOf i=n at d c;have b:(path.drop n).length=path.length - n:=mv;refine⟨?_,h.nd.sublist<|List.drop_sublist _ _,λj hj=>hl j<|h.sub j<|FS hj,λk hk=>?_,?_⟩
 ·rw[b]
  apply vr
  intro q;have e:path.length - 1=n:=by omega
  rw[e,c] at a;rw[hw.self i (hl i h.here)] at a
  cases a
 ·rw[gR,gR];rw[b] at hk;exact h.next (n+k) (by omega)
 ·rw[gR,gR,b,Nat.add_zero,c,show n+(path.length - n - 1)=path.length - 1 by omega]
  exact a
def JN (m n:Nat):Builtin.bitAnd (m:Int) (n:Int)=((m&&& n:Nat):Int):=by
 have h1:decide (0<=(m:Int))=true:=cc (by omega)
 have a:decide (0<=(n:Int))=true:=cc (by omega)
 unfold Builtin.bitAnd;rw[h1,a];simp only[toNat_natCast]
def JO (m n:Nat):Builtin.bitAnd (Builtin.bitNot (m:Int)) (Builtin.bitNot (n:Int))=Builtin.bitNot ((m||| n:Nat):Int):=by
 have h1:decide (0<=Builtin.bitNot (m:Int))=false:=dy (by unfold Builtin.bitNot;omega)
 have a:decide (0<=Builtin.bitNot (n:Int))=false:=dy (by unfold Builtin.bitNot;omega)
 have e:∀ k:Nat,(Builtin.bitNot<|Builtin.bitNot (k:Int)).toNat=k:=λk=>by unfold Builtin.bitNot;omega
 unfold Builtin.bitAnd;rw[h1,a];simp only[e]
def Tw (m n:Nat):Builtin.bitOr (m:Int) (n:Int)=((m||| n:Nat):Int):=by
 unfold Builtin.bitOr;rw[JO];unfold Builtin.bitNot
 omega
def tL (m n:Nat):Builtin.bitAnd (m:Int) (Builtin.bitNot (n:Int))=((m - (m&&& n):Nat):Int):=by
 have h1:decide (0<=(m:Int))=true:=cc (by omega)
 have a:decide (0<=Builtin.bitNot (n:Int))=false:=dy (by unfold Builtin.bitNot;omega)
 have e:(Builtin.bitNot<|Builtin.bitNot (n:Int)).toNat=n:=by unfold Builtin.bitNot;omega
 unfold Builtin.bitAnd;rw[h1,a];simp only[e,toNat_natCast]
 have:=Nat.and_le_left (n:=m) (m:=n)
 omega
def JP (K:Frag):V->List V->Hp->VK->Prop:=λx a H Q=>∃ (l:Addr) (ns:List Int) (k:Int),x=.ref l/\a=[.int k]/\au K H l (ns.map V.int)/\k∈ns/\Q (.int (ns.idxOf k:Nat)) H
variable {X:Cx}
def Cf {K:Frag}(hK:X.K=K):xR X "list.index" (JP K):=by
 subst hK;intro A s σ H x O v P Q I M D h;obtain⟨l,e,k,rfl,rfl,E,hk,q⟩:=h
 cases M
 obtain⟨u,rfl,G⟩:=D.one;obtain⟨t,rfl⟩:=G;obtain⟨i,r,N,hz⟩:=I.list E;have f:=intsAre_of r;obtain⟨⟨L,C,B,J⟩,w,m,n,p⟩:=id N.isList
 simp only at m p
 subst m p;have d:=f.length;have c:e.idxOf k<e.length:=kc.mpr hk;rw[b5] at hz;have o:sizeLine<2 ^ 62:=by decide
 refine UV slot_list_index ⟨_,w,rfl⟩ PySem.F.entry_list_index (PySem.F.args_list_index_2 _ _) (list_indexAt l i.toArray n C J (.int k t) (isInt k) (e.idxOf k) (by rw[gc,d];exact c) (by omega) ?a ?b) ⟨w,λy hy=>(eq_isInt k t f y (by simpa using hy)).at _ _,?_⟩
 case a=>
  have z:=isInt_at k f (e.idxOf k) (by rw[d];exact c) c
  rw[U1 c,Vm] at z;exact z
 case b=>
  intro j hj g;have z:=isInt_at k f j (by simpa using hj) (by omega)
  rw[ne_of_lt_idxOf g] at z;exact z
 exact⟨.int _,H,I.tok _,⟨_,rfl⟩,q⟩
def yz:List V->Hp->VK->Prop:=λa H Q=>∃ (p:Addr) (n:Nat),a=[.ref p]/\H p=some (.Iw 0 n)/\n<=1000000/\∀ l,H l=none->Q (.ref l) (upd H l<|.lst<|((List.range n).map λi=>((i:Nat):Int)).map V.int)
def JQ:List V->Hp->VK->Prop:=λa H Q=>∃ n:Nat,a=[.int n]/\n<=1000000/\∀ l,H l=none->Q (.ref l) (upd H l<|.Iw 0 n)
def kq:bO X (.type "range") JQ:=by
 intro a s σ H f d Q I r h;obtain⟨n,rfl,hn,q⟩:=h;obtain⟨u,rfl,c⟩:=vals1 r;obtain⟨t,rfl⟩:=c;refine call_range_1 ?_;exact⟨.ref _,_,I.laid (λb o e=>c8 _ e) (ea _)<|show bB X.prog X.w _ _ _ (.Iw 0 n) from ⟨_,_,_,hO _ rfl⟩,rfl,q _ I.fresh⟩
def yA {n:Nat}{acc:Array Value}(h:ItemsOf (λi v=>∃ t,v=Value.int ((0:Int)+i*1) t) acc n):Vals (((List.range n).map λi=>((i:Nat):Int)).map V.int) acc.toList:=by
 obtain⟨h1,d⟩:=h;have b:∀ (l:List Value) (k:Nat),(∀ i v,l[i]?=some v->∃ t,v=Value.int (((k+i:Nat):Int)) t)->Vals ((List.range' k l.length).map λi=>V.int ((i:Nat):Int)) l:=by
  intro l
  induction l with
  | nil=>intro k _;exact .nil
  | cons a r c=>
   intro k h;rw[ls,List.range'_succ,rr];refine .cons ?_ (c (k+1) λi v e=>?_)
   ·obtain⟨t,e⟩:=h 0 a rfl;exact⟨t,by rw[e,Nat.add_zero]⟩
   ·obtain⟨t,e⟩:=h (i+1) v (by simpa using e)
    exact⟨t,by rw[e,show k+(i+1)=k+1+i by omega]⟩
 have z:=b acc.toList 0 λi v e=>by
  obtain⟨t,q⟩:=d i v (by rw[<-getElem?_toList];exact e)
  exact⟨t,by rw[q];congr 1;omega⟩
 rw[kb];rw[UY,h1] at z;rw[List.range_eq_range'];exact z
def gw (hc:X.calm=true):bO X (.type "list") yz:=by
 intro c s σ H x t Q I r h;obtain⟨p,n,rfl,d,hn,q⟩:=h;obtain⟨u,rfl,f⟩:=vals1 r
 cases f
 obtain⟨y,o,v,j⟩:=I.aY p _ d;refine PySem.call_list_range (n:=n) (I.ok.hd hc) j (small_one (by omega) (by omega) (by omega) (by omega)) (by rw[rangeSize_one];split<;>omega) (by omega) λi m a l g e b=>?_
 refine⟨.ref _,_,I.laid g (ea _) (show bB X.prog X.w _ i _ (.lst _) from ⟨?_,a.toList,l,yA b,by simpa using e⟩),rfl,q _ I.fresh⟩
 rw[b5,b5,pS];exact fz hn ad
abbrev ib (led:Bool):Obj:={cls:=.type "set",dict:=none,data:=.set #[] 0 (.fresh 0 0 led)}
def jq (ns:List Int)(n:Nat):List Int:=firstMet (λi=>ns.getD i 0) n
variable {prog:Program}{w:World}{A:Around}{E Q:Value->Shared->Prop}{s:Shared}{vs:Array Value}
def tM {p:Addr}{ns:List Int}(hA:A.handled=none)(hp:s.heap.IsTuple p vs)(hi:IntsAre vs.toList ns)(hb:vs.size+1<scanBound)
  (h:∀ (h1:Heap) (k:Nat),h1.SetOf (intKind prog w) s.heap.objs.size (λj=>(jq ns vs.size).any (· == j)) (jq ns vs.size).length->(∀ b o,b<s.heap.objs.size->s.heap.get? b=some o->h1.get? b=some o)->Q (.ref s.heap.objs.size) {s with heap:=h1,toks:=k}) :
  wpAny (model prog w) A (call (.type "set") [.ref p]) Q E s:=by
 obtain⟨c0,t0,m0⟩:=C4.mro;have m1:=C4.made;have m2:=C4.sub;have m3:=C4.notType;have m4:=C4.canCreate;have m5:=F.typeCall_set_1<|.ref p;refine wpAny_call (codeAny_of_tree (show wpAny _ _ (callAny (.type "set") _) _ _ _ from ey ⟨Code.quiet_builtin _ Dk0,codeAny_builtin F.entry_type_call ?_⟩))
 rw[Around.under_plain (weight_type_call_type "set" [.ref p] []) rfl]
 repeat (any_goals (first | assumption | wp_step))
 refine On (code_set_new_1 (.ref p) (E:=E) (Q₁:=λo H=>∃ a:Bool,o=.ref s.heap.objs.size/\H={s with heap:=s.heap.push (ib a)}) λa=>⟨a,rfl,rfl⟩) λr H q=>?_
 cases r with
 | error e=>exact q
 | ok fl=>
  cases fl with
  | ret obj=>
   obtain⟨a,rfl,rfl⟩:=q;have I:(s.heap.push<|ib a).get? s.heap.objs.size=some (ib a):=hO _ rfl;have Z:Shared.TypeIs {s with heap:=s.heap.push (ib a)} (.ref s.heap.objs.size) "set":=⟨_,I,rfl⟩;have k3:=C4.init.lookup;have k4:=C4.init.bind (.ref s.heap.objs.size)
   repeat (any_goals (first | assumption | wp_step))
   refine On (codeAny_call_builtin (R:=wants (λr u=>r=.none/\∃ h1 k,u={s with heap:=h1,toks:=k}/\h1.SetOf (intKind prog w) s.heap.objs.size (λj=>(jq ns vs.size).any (· == j)) (jq ns vs.size).length/\
     (∀ b o,b<s.heap.objs.size->s.heap.get? b=some o->h1.get? b=some o)) E) C4.init.plain F.entry_set_init<|check_set_init_1 Z ?_) λJ u d=>?_
   ·obtain⟨L,D,B,M,C⟩:=hp;obtain⟨u1,u2,u3,u4⟩:=L
    simp only at B C
    subst B;subst C;have W:=c8 (ib a) D;have z1:=F.sub_tuple_set;have z2:=F.sub_tuple_frozenset;have z3:(Value.type "tuple" == Value.type "dict")=false:=by decide
    have z:(s.heap.push<|ib a).IsTuple p vs:=⟨_,W,rfl,M,rfl⟩;unfold Builtin.«set.__init__» noKeywords Builtin.Frozenset.updateFrom;generalize l:pyIter=PI
    wp_walk
    subst l;refine U4 z<|b7<|wpAny_runValue ?_;have G:p<s.heap.objs.size:=lt_size D;have S:A.in1.in1.in1.handled=none:=by simp[hA]
    have g:(s.heap.push<|ib a).objs.size=s.heap.objs.size+1:=C5 ..;have U:p≠(s.heap.push<|ib a).objs.size:=by rw[g];exact j6<|Vp G
    have X:s.heap.objs.size∉[(s.heap.push<|ib a).objs.size,p]:=by
     rw[g];simp only[mem_cons,not_mem_nil,or_false,not_or];exact⟨j6<|Vo _,Ve G⟩
    have T:∀ (i:Nat) (v:Value),vs[i]?=some v->∃ t,v=.int ((λi=>ns.getD i 0) i) t:=λi v Y=>IntsAre.int_at hi i v (by rw[getElem?_toList];exact Y)
    refine codeAny_set_update_loopS ((Walks.tuple S _ p U vs).toS) s.heap.objs.size X (λi=>ns.getD i 0) T hb (vs.size - 0) 0 _ (by omega) (zero_le _) ⟨⟨_,hO _ rfl,rfl,rfl⟩,(z.push _)⟩ ?x ?y
    case x=>
     exact SetOf_congr ((setObjOf_fresh (knd:=intKind prog w) a).setOf (c8 _ I) (by unfold scanBound;omega)) (λ_=>rfl) rfl
    case y=>
     intro P hm c;obtain⟨h1,K,N,m,f⟩:=P;obtain rfl:K=s.gens:=hm.gens;obtain rfl:N=s.drawn:=hm.drawn;obtain rfl:f=s.os:=hm.os;show wpAny _ _ _ _ _ _;refine ey<|show wpAny _ _ (ret Value.none) _ _ _ from ey ⟨rfl,h1,m,rfl,c,λb o hb e=>?_⟩
     refine hm.heap b o ?_ (c8 _<|c8 _ e);rw[g];simp only[mem_cons,not_mem_nil,or_false,not_or];exact⟨j6 hb,j6<|Vp hb⟩
   ·cases J with
    | error e=>exact d
    | ok O=>
     cases O with
     | ret r=>
      obtain⟨rfl,h1,k,rfl,c,n⟩:=d
      repeat (any_goals (first | assumption | wp_step))
      exact h _ _ c n
     | _=>exact d.elim
  | _=>exact q.elim
def unlike (ns:List Int):Nat:=(jq ns ns.length).length
def Oc (K:Frag):List V->Hp->VK->Prop:=λa H Q=>∃ (p:Addr) (ns:List Int),a=[.ref p]/\(au K H p (ns.map V.int)∨aN K H p (ns.map V.int))/\ns.length<1000/\∀ l,H l=none->Q (.ref l) (upd H l (.set (λj=>(jq ns ns.length).any (· == j))<|unlike ns))
def Cg {K:Frag}(hc:X.calm=true)(hK:X.K=K):bO X (.type "set") (Oc K):=by
 subst hK;intro f s σ H y x Q I r h;obtain⟨p,ns,rfl,hq,z,q⟩:=h;obtain⟨u,rfl,v⟩:=vals1 r
 cases v
 have t:(1001:Nat)<scanBound:=by decide
 have g:∀ (h1:Heap) (k:Nat),h1.SetOf (intKind X.prog X.w) s.heap.objs.size (λj=>(jq ns ns.length).any (· == j)) (jq ns ns.length).length->(∀ b o,b<s.heap.objs.size->s.heap.get? b=some o->h1.get? b=some o)->EP X f σ Q (.ref s.heap.objs.size) {s with heap:=h1,toks:=k}:=λh1 k c d=>
  ⟨.ref _,_,I.laid (λb o e=>d b o (lt_size e) e) (ea _)<|show bB X.prog X.w _ h1 _ (.set _ _) from c,rfl,q _ I.fresh⟩
 rcases hq with hq | hq
 ·obtain⟨a,l,m,hz⟩:=I.list hq;have i:=intsAre_of l;have n:=i.length;refine call_set_list (items:=a.toArray) (ns:=ns) (I.ok.hd hc) m.isList (by simpa using i) (by rw[gc];omega) λh1 k c d=>?_
  rw[show a.toArray.size=ns.length by rw[gc];exact n] at c
  exact g h1 k c d
 ·obtain⟨a,l,m,hz⟩:=I.tuple hq;have i:=intsAre_of l;have n:=i.length;refine tM (vs:=a.toArray) (ns:=ns) (I.ok.hd hc) (show s.heap.IsTuple p a.toArray from m) (by simpa using i) (by rw[gc];omega) λh1 k c d=>?_
  rw[show a.toArray.size=ns.length by rw[gc];exact n] at c
  exact g h1 k c d
def Inv.JR {pins:aO0}{σ:St}{H:Hp}{h':Heap}{t':Nat}{ch:List Addr}(I:Inv X pins σ H s)(k:∀ b o,b∉ch->s.heap.get? b=some o->h'.get? b=some o)(hf:∀ b∈ch,j2 X pins H b):Inv X pins σ H {s with heap:=h',toks:=t'}:=by
 have a:∀ b u,H b=some u->b∉ch:=λb u e z=>by rw[(hf b z).1] at e;cases e
 refine I.step (g':=s.gens) (d':=s.drawn) (ch:=ch) (λb hb=>⟨(hf b hb).2.2.2.1,(hf b hb).2.1,(hf b hb).2.2.2.2.1,(hf b hb).2.2.2.2.2⟩) (λb o _ _ hc e _=>k b o hc e) (λb o _ _ hc e _=>⟨o.slots,k b o hc e⟩) (λ_ _ _ _ n=>n)
  (λb o hc e=>⟨o,k b o hc e⟩) (λ_ _ e=>e) (λ_ _ _ e=>e) (λb h e=>⟨#[],by rw[e];simp⟩) (λm hm=>?_) (λb u e=>?_) I.bare
 ·obtain⟨o,d,g,f,r⟩:=hm;exact⟨o,d,g,k _ o (λz=>(hf _ z).2.1 rfl) f,r⟩
 ·refine(I.aY b u e).nJ (λc v hc q=>k c v ?_ q) (λ_ q=>q) λ_ _ q=>q
  rcases hc with z | z
  ·rw[z];exact a b u e
  ·exact a c _ z
def vM {it p:Addr}{x:Value}(h1:s.heap.IsTupleIter it p i)(h2:s.heap.IsTuple p vs)(hx:vs[i]?=some x)
  (q:∀ h',h'.IsTupleIter it p (i+1)->SameBut it s.heap h'->Q x {s with heap:=h'}):wpAny (model prog w) A (Builtin.SmallTypes.nextOf<|.ref it) Q E s:=by
 obtain⟨o,b,e,a⟩:=id h1;obtain⟨f,d,_,g,c⟩:=h2;unfold Builtin.SmallTypes.nextOf;refine b7<|S4 (name:=Str.ofString "__next__") h1.typeIs F.slot_tuple_iterator_next<|U3 F.slot_tuple_iterator_next h1.typeIs F.entry_tuple_iterator_next ?_ (F.args_tuple_iterator_next_1 _);refine b7 (m:=field (.ref it) 0)<|L4 b a (x:=.ref p) rfl ?_;rw[if_neg (id hI:¬ ((Value.ref p == Value.none)=true))];refine b7 (m:=field (.ref it) 1)<|L4 b a (x:=.int i 0) rfl<|b7 (m:=seqItems?<|.ref p)<|U8 d c ?_;simp only[toNat_natCast,hx];refine b7 (wpAny_setField b a (by simp)<|ey ⟨x,rfl,ey<|q _ ⟨_,get?_update_self _ b<|Obj.isFreed_of_fields<|U9 a _,(Obj.cls_mapFields ..).trans e,?_⟩<|Heap.SameBut.update ..⟩)
 rw[U9 a]
 simp[rawInt]
def kr {it p:Addr}(hA:A.handled=none)(h1:s.heap.IsTupleIter it p i)(h2:s.heap.IsTuple p vs)(hx:vs[i]?=none)
  (q:∀ h' e,ExtBut it s.heap h'->(∃ o,h'.get? e=some o/\o.cls=.type "StopIteration")->E (.ref e) {s with heap:=h'}):wpAny (model prog w) A (Builtin.SmallTypes.nextOf<|.ref it) Q E s:=by
 obtain⟨o,d,g,c⟩:=id h1;obtain⟨h,f,_,j,b⟩:=h2;unfold Builtin.SmallTypes.nextOf;refine b7<|S4 (name:=Str.ofString "__next__") h1.typeIs F.slot_tuple_iterator_next<|U3 F.slot_tuple_iterator_next h1.typeIs F.entry_tuple_iterator_next ?_ (F.args_tuple_iterator_next_1 _);refine b7 (m:=field (.ref it) 0)<|L4 d c (x:=.ref p) rfl ?_;rw[if_neg (id hI:¬ ((Value.ref p == Value.none)=true))];refine b7 (m:=field (.ref it) 1)<|L4 d c (x:=.int i 0) rfl<|b7 (m:=seqItems?<|.ref p)<|U8 f b ?_;simp only[toNat_natCast,hx];refine b7 (wpAny_rule (b7 (wpAny_setField d c (by simp)<|b7 (m:=newExc (.type "StopIteration") []) ?_)))
 simp only[newExc,newTuple];refine b7 (Vg (b7 (m:=firstArgMember _ _) (wpAny_of_eq (a:=Value.none) (by first | rfl | (simp only[firstArgMember];rfl)) (Vg ?_ (by size_fits)))) (by size_fits))
 simp only[raiseNew];refine b7 (wpAny_handled ?_)
 first | rw[show A.in1.handled=none from hA] | rw[hA]
 exact b7<|ey<|wpAny_throw<|q _ _ (((Heap.SameBut.update ..).extBut.push _).push _) ⟨_,hO _ rfl,rfl⟩
def Od (hA:A.handled=none)(it p:Addr)(hne:p≠it)(vs:Array Value):Draws prog w A it [it,p] vs.size (λi v=>vs[i]?=some v) (λi h=>h.IsTupleIter it p i/\h.IsTuple p vs) where
 live:=λ_ _ c=>⟨_,c.1.choose_spec.1⟩
 frame:=λ_ _ _ c hk=>⟨c.1.at λo e=>hk it (by simp) o e,c.2.at λo e=>hk p (by simp) o e⟩
 item:=λi s Q E d c f=>vM c.1 c.2 (x:=vs[i]) (by simp[d]) λg a b=>f _ g s.toks (by simp[d]) ⟨a,c.2.extBut b.extBut hne⟩ b
 done:=λs Q E c j=>kr hA c.1 c.2 (by simp) j
def Ci (p:Addr)(vs:Array Value)(n:Nat)(PH:Option Addr)(sl:Array (Option Value)) :
  Meets (Builtin.«enumerate.__new__» ⟨[.type "enumerate",.ref p],[]⟩) (λ_ R s=>s.heap.get? p=some {cls:=.type "tuple",dict:=PH,data:=.seq vs n,slots:=sl}/\
   R (.ok<|.ret<|.ref (s.heap.push {cls:=.type "tuple_iterator",data:=.fields #[.ref p,.int 0 0]}).objs.size)
    {s with heap:=(s.heap.push {cls:=.type "tuple_iterator",data:=.fields #[.ref p,.int 0 0]}).push {cls:=.type "enumerate",data:=.fields #[.none,.bool false,.ref s.heap.objs.size,rawInt 0,.none,.none]}}):=
 .of_wp λb w A R s h=>by
  obtain⟨j,g,d,f,i⟩:=s;obtain⟨a,h⟩:=h;have z:=sub_enumerate;have e:Heap.IsTuple (Shared.heap ⟨j,g,d,f,i⟩) p vs:=⟨_,a,rfl,n,rfl⟩
  wp_walk using PySem.AutoSeq1.wpAny_loadPart' a
  refine wpAny_stack_any λl=>ey ?_
  split
  ·rename_i c _ _ _ _ _
   cases (c == Value.type "enumerate")<;>(wp_walk using PySem.AutoSeq1.wpAny_loadPart' a,U4 e;exact⟨_,rfl,h⟩)
  ·wp_walk using PySem.AutoSeq1.wpAny_loadPart' a,U4 e
   exact⟨_,rfl,h⟩
def yB {p:Addr}(hT:s.heap.IsTuple p vs)
  (q:∀ h',IsEnum h' (s.heap.objs.size+1) s.heap.objs.size 0 .none->h'.IsTupleIter s.heap.objs.size p 0->(∀ b o,s.heap.get? b=some o->h'.get? b=some o)->Q (.ref<|s.heap.objs.size+1) {s with heap:=h'}) :
  wpAny (model prog w) A (call (.type "enumerate") [.ref p]) Q E s:=by
 obtain⟨⟨c,h,i,e⟩,d,g,n,f⟩:=hT;obtain rfl:c=.type "tuple":=g;obtain rfl:i=.seq vs n:=f;have hz:(s.heap.push {cls:=.type "tuple_iterator",data:=.fields #[.ref p,.int 0 0]}).objs.size=s.heap.objs.size+1:=C5 ..;have a:=hO (s.heap.push {cls:=.type "tuple_iterator",data:=.fields #[.ref p,.int 0 0]}) (o:={cls:=.type "enumerate",data:=.fields #[.none,.bool false,.ref s.heap.objs.size,rawInt 0,.none,.none]}) rfl;refine callType_new F.called_enumerate ad (F.typeCall_enumerate_1 _) (F.newCall_enumerate_1 _) (λobj=>F.args_object_init_2 obj _) F.entry_enumerate_new (Ci p vs n h e) ⟨d,?_⟩
 rw[hz] at a;show _/\_;rw[hz];exact⟨⟨_,a,rfl⟩,q _ a ⟨_,c8 _<|hO _ rfl,rfl,rfl⟩ λb o x=>c8 _<|c8 _ x⟩
def Inv.rD {pins:aO0}{σ:St}{H:Hp}{h':Heap}{t':Nat}{ch:List Addr}{a:Addr}(I:Inv X pins σ H s)(k:∀ b u,b∉ch->s.heap.get? b=some u->h'.get? b=some u)(hf:∀ b∈ch,j2 X pins H b)
  (ha:s.heap.objs.size<=a) (new:bB X.prog X.w (upd H a o) h' a o):Inv X pins σ (upd H a o) {s with heap:=h',toks:=t'}:=by
 have f:∀ b u,H b=some u->b∉ch:=λb u e z=>by rw[(hf b z).1] at e;cases e
 have hn:H a=none:=I.aY.fresh ha;have d:∀ b u,H b=some u->upd H a o b=some u:=λb u e=>by rw[aB (aH e hn)];exact e
 refine I.step (g':=s.gens) (d':=s.drawn) (ch:=ch) (λb hb=>⟨(hf b hb).2.2.2.1,(hf b hb).2.1,(hf b hb).2.2.2.2.1,(hf b hb).2.2.2.2.2⟩) (λb u _ _ hc e _=>k b u hc e) (λb u _ _ hc e _=>⟨u.slots,k b u hc e⟩) (λb u _ e n=>?_)
  (λb u hc e=>⟨u,k b u hc e⟩) (λb i e=>d b _ e) (λb v u e=>d b _ e) (λb l e=>⟨#[],by rw[d b _ e];simp⟩) (λm hm=>?_) (λb u e=>?_) I.bare
 ·rw[aB (j6<|gg (lt_size e) ha)];exact n
 ·obtain⟨v,g,j,h,r⟩:=hm;exact⟨v,g,j,k _ v (λz=>(hf _ z).2.1 rfl) h,r⟩
 ·by_cases hb:b=a
  ·subst hb;rw[af] at e
   cases e
   exact new
  ·rw[aB hb] at e;refine(I.aY b u e).nJ (λc v hc q=>k c v ?_ q) (λc q=>d c _ q) λc i q=>d c _ q
   rcases hc with z | z
   ·rw[z];exact f b u e
   ·exact f c _ z
def Fo:R2:=λx y H Q=>y=.bx/\Q (.bl<|decide<|x=.bx) H
def og:R2:=λx y H Q=>y=.bx/\Q (.bl<|!decide (x=.bx)) H
def AE:dY X (compareOp .Is) Fo:=Nq
def vN:dY X (compareOp .IsNot) og:=IQ
variable {H:Hp}{Q:VK}
def Fp:Fo .bx .bx H Q=Q (.bl true) H:=by unfold Fo;simp
def Fq {a:Addr}:Fo (.ref a) .bx H Q=Q (.bl false) H:=by unfold Fo;simp
def Fs:og .bx .bx H Q=Q (.bl false) H:=by unfold og;simp
def Ft {i:Int}:og (.int i) .bx H Q=Q (.bl true) H:=by unfold og;simp
def JS:List V->Hp->VK->Prop:=λa H Q=>∃ p S n,a=[.ref p]/\H p=some (.set S n)/\Q (.int n) H
def vO:bO X (.builtin "len") JS:=by
 intro a s σ H m j Q I r h;obtain⟨p,S,n,rfl,c,q⟩:=h;obtain⟨u,rfl,g⟩:=vals1 r
 cases g
 obtain⟨o,l,v,t,f,d,e,_,_,hb,i,hn⟩:=I.aY p _ c;have b:scanBound<2 ^ 62:=by decide
 refine PySem.call_len_set f d e i (by omega) ⟨.int n,H,I.tok _,⟨_,by rw[hn]⟩,q⟩
def QV {k:Nat}:(1:Int)*2 ^ ((k:Nat):Int).toNat=((2 ^ k:Nat):Int):=by rw[FM,Int.one_mul,Int.natCast_pow];rfl
def QX {m k:Nat}:((m:Nat):Int) / 2 ^ ((k:Nat):Int).toNat=((m / 2 ^ k:Nat):Int):=by rw[FM,Int.natCast_ediv,Int.natCast_pow];rfl
def eS {k:Nat}(h:k<=1000):sN 1 (k:Int):=⟨by omega,by omega,ad⟩
def QY {m k:Nat}:decide (((m / 2 ^ k:Nat):Int) % 2=1)=m.testBit k:=by
 rw[uU]
 congr 1
 apply propext
 omega
def QZ {m k:Nat}:decide (((m / 2 ^ k:Nat):Int) % 2=0)=!m.testBit k:=by
 rw[uU]
 by_cases h:m / 2 ^ k % 2=1
 ·rw[cc h,dy (by omega)];rfl
 ·rw[dy h,cc (by omega)];rfl
def LY {a:Nat}:decide (((a||| b:Nat):Int)=(b:Int))=decide (a||| b=b):=by
 congr 1
 apply propext
 omega
def aK (ws:List Nat):List Int:=ws.map λm=>((m:Nat):Int)
def ak (ws:List Nat):(aK ws).length=ws.length:=b5 _
def bg (ws:List Nat)(i:Nat):(aK ws).getD i 0=((ws.getD i 0:Nat):Int):=by
 unfold aK;rw[b3,et,b3]
 cases ws[i]?<;>rfl
def dQ (a b:List Nat):aK (a++b)=aK a++aK b:=eH
def Fu (a:List Nat)(n:Nat):(aK a).take n=aK (a.take n):=Vu.symm
def vP (a:List Nat)(n:Nat):(aK a).drop n=aK (a.drop n):=SL.symm
variable {a:List Nat}
def nr {k:Nat}:(k:Int)∈aK a↔k∈a:=by
 unfold aK;rw[j9]
 constructor
 ·rintro⟨m,h,e⟩
  rwa [show k=m by omega]
 ·exact λh=>⟨k,h,rfl⟩
def JT {b:List Nat}:aK a=aK b↔a=b:=by
 constructor
 ·intro h
  apply UF
  intro i
  have:=Re (λl=>l[i]?) h
  unfold aK at this;simp only[List.getElem?_map] at this
  cases p:a[i]?<;>cases q:b[i]?<;>rw[p,q] at this<;>simp at this
  ·rename_i u v
   rw[show u=v by omega]
 ·rintro rfl;rfl
def AF {k:Nat}:(aK a).idxOf (k:Int)=a.idxOf k:=by
 unfold aK
 induction a with
 | nil=>rfl
 | cons m r d=>
  rw[rr,idxOf_cons,idxOf_cons,d]
  by_cases e:m=k
  ·have c:((m:Int) == (k:Int))=true:=by rw[e];exact Vm _
   have b:(m == k)=true:=by rw[e];exact Vm _
   rw[c,b]
  ·have c:((m:Int) == (k:Int))=false:=A5.mpr (by omega)
   have b:(m == k)=false:=A5.mpr e;rw[c,b]
def Fv (k:Int)(ns:List Int):Ls (.int k) (ns.map V.int)=decide (k∈ns):=by
 induction ns with
 | nil=>simp[Ls]
 | cons a r b=>
  unfold Ls at b ⊢;rw[rr,any_cons,b]
  by_cases e:a=k
  ·subst e;simp[DL]
  ·have:¬ k=a:=λz=>e z.symm
   simp[DL,e,this]
variable {neg:Bool}
def AG {K:Frag}{p:Addr}{k:Nat}(h:au K H p ((aK a).map V.int)∨aN K H p ((aK a).map V.int))(q:Q (.bl<|if neg then !decide (k∈a) else decide (k∈a)) H):Lu K neg (.int k) (.ref p) H Q:=by
 refine⟨p,_,rfl,h,rfl,?_,?_⟩
 ·rw[Pi];exact ih.mpr λ_ _=>rfl
 ·rw[Fv,show decide ((k:Int)∈aK a)=decide (k∈a) by congr 1;exact propext nr]
  exact q
def AH {c:TT}{tb:TS}{D:Ends}{σ:St}(P:Nat->St->Hp->Prop)(m0:Nat)(h0:P m0 σ H)
  (hs:∀ m σ H,P m σ H->c σ H λb H1=>if b=true then ∃ N:St->Hp->Prop,(∀ σ' H',N σ' H'->∃ m',m' < m/\P m' σ' H')/\tb {D with nx:=N,ct:=N,bk:=D.nx} σ H1 else D.nx σ H1):sL c tb D σ H:=⟨P,⟨m0,h0⟩,hs⟩
def AI {P:Nat->St->Hp->Prop}{m:Nat}{R:(St->Hp->Prop)->Prop}(h:R λσ' H'=>∃ m',m' < m/\P m' σ' H'):∃ N:St->Hp->Prop,(∀ σ' H',N σ' H'->∃ m',m' < m/\P m' σ' H')/\R N:=⟨_,λ_ _ h=>h,h⟩
variable {p:Nat->Bool}
def find_some {n k:Nat}(h:∀ j,j<k->p j=false)(hk:p k=true)(hn:k<n):(List.range n).find? p=some k:=by
 rw[List.find?_eq_some_iff_getElem];refine⟨hk,k,by rw[pS];exact hn,by simp,λj hj=>?_⟩
 simp[h j hj]
def find_none {n:Nat}(h:∀ j,j<n->p j=false):(List.range n).find? p=none:=by
 rw[List.find?_eq_none];intro j hj;rw[h j (kf.mp hj)];exact hI
theorem oh {ns:List Int}:∀ n,n<=ns.length->ns.Nodup->jq ns n=ns.take n
 | 0,_,_=>by unfold jq;rw[firstMet_zero,take_zero]
 | n+1,hn,b=>by
  have a:=oh n (by omega) b
  unfold jq at a ⊢;rw[firstMet_succ,a,take_snoc 0 (by omega)]
  unfold step_dedup;rw[if_neg];intro z;obtain⟨y,hy,e⟩:=List.any_eq_true.mp z;have e:y=ns.getD n 0:=by simpa using e
  subst e;have h1:=b.sublist<|List.take_sublist (n+1) _;rw[take_snoc 0 (by omega),Os] at h1
  exact h1.2.2 _ hy _ (dt.mpr rfl) rfl
def Cj {ns:List Int}(h:ns.Nodup):unlike ns=ns.length:=by
 unfold unlike;rw[oh _ (ea _) h,SC]
theorem vQ {ns:List Int}:∀ n,n<=ns.length->(jq ns n).Nodup/\∀ x,x∈jq ns n↔x∈ns.take n
 | 0,_=>by unfold jq;rw[firstMet_zero,take_zero];exact⟨nodup_nil,λ_=>Iff.rfl⟩
 | n+1,hn=>by
  obtain⟨f,d⟩:=vQ (ns:=ns) n (by omega)
  unfold jq at f d ⊢;rw[firstMet_succ,take_snoc 0 (by omega)]
  unfold step_dedup
  by_cases c:((firstMet (λi=>ns.getD i 0) n).any λx=>x == ns.getD n 0)=true
  ·rw[if_pos c];obtain⟨y,hy,e⟩:=List.any_eq_true.mp c;have e:y=ns.getD n 0:=by simpa using e
   refine⟨f,λx=>?_⟩;rw[eG,dt,d]
   constructor
   ·exact .inl
   ·rintro(z | z)
    ·exact z
    ·rw[z,<-e];exact(d y).mp hy
  ·rw[if_neg c];refine⟨?_,λx=>by rw[eG,eG,d]⟩
   rw[Os];refine⟨f,by simp,λa g b hb e=>c ?_⟩
   rw[dt] at hb;subst hb;subst e;exact List.any_eq_true.mpr ⟨_,g,by simp⟩
def yC (K:Frag):Sp:=λa H Q _=>∃ (w:Addr) (ws:List Nat) (i j:Nat),a=[.ref w,.int i,.int j]/\aN K H w ((aK ws).map V.int)/\i<ws.length/\Q (.bl<|fJ ws i j) H
def Oe (K:Frag):Sp:=λa H Q _=>∃ (w:Addr) (ws:List Nat) (laid:Nat),a=[.ref w,.int laid]/\aN K H w ((aK ws).map V.int)/\ws.length<=8/\∀ H',ag H H'->(bS ws laid=none->Q .bx H')/\∀ i:Nat,bS ws laid=some i->Q (.int i) H'
def LZ (H0:Hp)(w:Addr)(ws:List Nat)(laid k:Nat)(σ:St)(H:Hp):Prop:=ag H0 H/\(∀ j,j<k->ready ws laid j=false)/\∃ y1 y2:Option V,σ=[some (.ref w),some<|.int laid,y1,y2]
def Q0 (K:Frag):Sp:=λa H Q _=>∃ (w:Addr) (ws:List Nat),a=[.ref w]/\aN K H w ((aK ws).map V.int)/\ws.length<=8/\∀ (l:Addr) (H':Hp),ag H H'->H l=none->H' l=some (.lst<|(aK<|laidOut ws).map V.int)->Q (.ref l) H'
def L6 (ws:List Nat)(laid:Nat):V:=match bS ws laid with
 | none=>.bx
 | some i=>.int i
def Q1 (H0:Hp)(w l:Addr)(ws:List Nat)(f:Nat)(σ:St)(H:Hp):Prop:=∃ (order:List Nat) (laid:Nat),σ=[some (.ref w),some<|.ref l,some<|.int laid,some<|L6 ws laid]/\ag H0 H/\H l=some (.lst<|(aK order).map V.int)/\Laid ws order laid/\fT ws f order laid=laidOut ws/\ws.length<f+order.length
def Q2 (K:Frag):Sp:=λa H Q _=>∃ (w l:Addr) (ws left:List Nat) (i:Nat),a=[.ref w,.int i,.ref l]/\aN K H w ((aK ws).map V.int)/\au K H l ((aK left).map V.int)/\i<ws.length/\left.length<=8/\(∃ j∈left,fJ ws i j=true)/\∀ (H':Hp) (j:Nat),ag H H'->j∈left->fJ ws i j=true->Q (.int j) H'
def cQ (ws:List Nat):List Nat:=(List.range ws.length).filter λi=>!decide (i∈laidOut ws)
def iC:i∈cQ ws↔i<ws.length/\i∉laidOut ws:=by
 unfold cQ;rw[tp,kf]
 simp
def vR:cQ ws=[]↔¬ (laidOut ws).length<ws.length:=by
 rw[Fj]
 constructor
 ·rintro h ⟨i,h1,b⟩
  have:i∈cQ ws:=iC.mpr ⟨h1,b⟩
  rw[h] at this;cases this
 ·intro h
  cases e:cQ ws with
  | nil=>rfl
  | cons a r=>
   have:a∈cQ ws:=by rw[e];exact eR ..
   exact absurd ⟨a,iC.mp this⟩ h
def Fw (ws:List Nat):(cQ ws).length<=ws.length:=by
 have:=zO (λi=>!decide (i∈laidOut ws))<|List.range ws.length
 rw[pS] at this;exact this
def Q3 (K:Frag)(H0:Hp)(w o lf pa:Addr)(ws:List Nat)(m:Nat)(σ:St)(H:Hp):Prop:=∃ (path:List Nat) (i:Nat),σ=[some (.ref w),some<|.ref o,some<|.ref lf,some<|.ref pa,some<|.int i]/\ag H0 H/\au K H lf ((aK<|cQ ws).map V.int)/\H pa=some (.lst<|(aK path).map V.int)/\Path ws (cQ ws) path i/\m=ws.length - path.length
def oi:∀ m n:Nat,m+n=(m||| n)+(m&&& n):=by
 intro m
 induction m using Nat.strongRecOn with
 | _ m f=>
  intro n
  by_cases e:m=0
  ·subst e;simp
  have c:=f (m / 2) (by omega)<|n / 2
  rw[<-Nat.and_div_two,<-Nat.or_div_two] at c;have a:=Nat.and_mod_two_pow (a:=m) (b:=n) (n:=1);have b:=Nat.or_mod_two_pow (a:=m) (b:=n) (n:=1);have d:m % 2 ^ 1+n % 2 ^ 1=(m % 2 ^ 1||| n % 2 ^ 1)+(m % 2 ^ 1&&& n % 2 ^ 1):=by
   have hm:m % 2 ^ 1=0∨m % 2 ^ 1=1:=by omega
   have hn:n % 2 ^ 1=0∨n % 2 ^ 1=1:=by omega
   rcases hm with hm | hm<;>rcases hn with hn | hn<;>rw[hm,hn]<;>decide
  rw[<-a,<-b] at d
  omega
variable {a:Nat}
def AJ {k:Nat}(h:a.testBit k=false):a+2 ^ k=a||| 2 ^ k:=by
 have z:a&&& 2 ^ k=0:=by
  apply U2
  intro j;rw[testBit_and,G3,Vs]
  by_cases e:k=j
  ·subst e;rw[h];rfl
  ·rw[dy e,KE]
 have:=oi a<|2 ^ k
 omega
def iD (m n j:Nat):(m - (m&&& n)).testBit j=(m.testBit j&&!n.testBit j):=by
 have h:m ^^^ (m&&& n)=m - (m&&& n):=by
  have p:∀ a b:Nat,(a ^^^ b)+(a&&& b)=a||| b:=by
   intro a
   induction a using Nat.strongRecOn with
   | _ m g=>
    intro n
    by_cases f:m=0
    ·subst f;simp
    have d:=g (m / 2) (by omega)<|n / 2
    rw[<-Nat.and_div_two,<-Nat.or_div_two,<-Nat.xor_div_two] at d;have a:=Nat.and_mod_two_pow (a:=m) (b:=n) (n:=1);have b:=Nat.or_mod_two_pow (a:=m) (b:=n) (n:=1);have c:=Nat.xor_mod_two_pow (a:=m) (b:=n) (n:=1);have e:(m % 2 ^ 1 ^^^ n % 2 ^ 1)+(m % 2 ^ 1&&& n % 2 ^ 1)=(m % 2 ^ 1||| n % 2 ^ 1):=by
     have hm:m % 2 ^ 1=0∨m % 2 ^ 1=1:=by omega
     have hn:n % 2 ^ 1=0∨n % 2 ^ 1=1:=by omega
     rcases hm with hm | hm<;>rcases hn with hn | hn<;>rw[hm,hn]<;>decide
    rw[<-a,<-b,<-c] at e
    omega
  have i:=p m<|m&&& n;have l:m&&& (m&&& n)=m&&& n:=by rw[<-Nat.and_assoc,Nat.and_self]
  have o:m||| (m&&& n)=m:=by
   apply U2
   intro j;rw[testBit_or,testBit_and]
   cases m.testBit j<;>rfl
  rw[l,o] at i
  omega
 rw[<-h,Nat.testBit_xor,testBit_and]
 cases m.testBit j<;>cases n.testBit j<;>rfl
def sub_zero {m:Nat}(h:∀ j,m.testBit j=true->a.testBit j=true):m - (m&&& a)=0:=by
 apply U2
 intro j;rw[iD,Vs]
 cases e:m.testBit j with
 | false=>rfl
 | true=>rw[h j e];rfl
def yD {m n:Nat}(h:∀ j,n<=j->m.testBit j=false):m<2 ^ n:=by
 apply Nat.lt_pow_two_of_testBit
 exact λj hj=>h j hj
def jD {m n:Nat}(h:m<2 ^ n)(hj:n<=j):m.testBit j=false:=Nat.testBit_lt_two_pow (gg h (si ad hj))
def Ma {n k:Nat}(h:k<n):seqIndex? (k:Int) n=some k:=(sR<|AD h).1
def JU (l:List Nat):(aK l).sum=((l.sum:Nat):Int):=by
 unfold aK
 induction l with
 | nil=>rfl
 | cons a r b=>rw[rr,U7,b,U7,natCast_add]
def Q4 {m:Nat}:((m:Nat):Int) / ((2 ^ j:Nat):Int)=((m / 2 ^ j:Nat):Int):=(Int.natCast_ediv _ _).symm
def ahead (n k:Nat):Nat:=if k=0 then n - 1 else k - 1
variable {r:List Nat}
def rE (h:r.Nodup):(aK r).Nodup:=by
 unfold aK;rw[KF,List.pairwise_map];exact(KF.mp h).imp λh=>by omega
abbrev DO (a b:Value):Obj:={cls:=.type "tuple",data:=.seq #[a,b]}
variable {h:Heap}
def gS {a b:Addr}{o u:Obj}{n m:String}(ha:h.get? a=some o)(hn:o.cls=.type n)(hb:h.get? b=some u)(hm:u.cls=.type m)(hc:n≠m):a≠b:=λz=>by
 subst z;rw[ha] at hb;cases hb
 rw[hn] at hm;exact hc (by injection hm)
def Q5 (K:Frag):List V->Hp->VK->Prop:=λa H Q=>∃ (p:Addr) (bs:List Bool),a=[.ref p]/\au K H p (bs.map V.bl)/\Q (.bl<|bs.all id) H
theorem tN:∀ {bs:List Bool} {its:List Value},Vals (bs.map V.bl) its->its=bs.map Value.bool
 | [],_,.nil=>rfl
 | b::r,_,.cons h t=>by rw[tN t,show _=Value.bool b from h];rfl
def cY {K:Frag}(hc:X.calm=true)(hK:X.K=K):bO X (.builtin "all") (Q5 K):=by
 subst hK;intro j s σ H C E Q I r h;obtain⟨p,bs,rfl,hq,q⟩:=h;obtain⟨u,rfl,w⟩:=vals1 r
 cases w
 obtain⟨a,x,f,hz⟩:=I.list hq;have g:=tN x;have m:p<s.heap.objs.size:=by obtain⟨o,e,_⟩:=f.isList;exact lt_size e
 refine PySem.call_all_walk<|SZ f.isList ?_;refine⟨s.heap.objs.size,_,_,_,_,_,λi=>bs.getD i false,rfl,Walks.list (by simpa using I.ok.hd hc) s.heap.objs.size p (j6 m) a.toArray,⟨⟨_,hO _ rfl,rfl,rfl⟩,f.isList.push _⟩,?_,λB D hk=>?_⟩
 ·intro i v n l A c d;have c:a[i]?=some v:=by simpa using c
  rw[g,et] at c
  cases e:bs[i]? with
  | none=>rw[e] at c;cases c
  | some b=>
   rw[e] at c
   cases c
   have d:l (bs.getD i false) n:=d;rw[b3,e] at d;exact D1 d
 ·have t:a.toArray.size=bs.length:=by rw[gc,g,b5]
  have y:(List.range a.toArray.size).all (λi=>bs.getD i false)=bs.all id:=by
   rw[t]
   apply L0.mpr
   simp only[List.all_eq_true,List.mem_range,id_eq]
   constructor
   ·intro h b hb;obtain⟨k,hk,e⟩:=C2 hb
    have:=h k hk
    rw[b3,b4 hk] at this;rw[<-e];exact this
   ·intro h k hk;rw[b3,b4 hk];exact h _<|pP hk
  rw[y];refine⟨.bl _,H,I.kept λb o e=>hk b o ?_ (c8 _ e),rfl,q⟩
  have:=lt_size e
  intro z
  have:b=s.heap.objs.size:=by simpa using z
  subst this;exact I1 _<|lt_size e
def JV:V->List V->Hp->VK->Prop:=λx a H Q=>∃ m:Nat,x=.int m/\a=[]/\∀ n:Nat,m<2 ^ n->(∀ k,m<2 ^ k->n<=k)->Q (.int n) H
def Ck:xR X "int.bit_length" JV:=by
 intro b s σ H x f v e Q I c d h;obtain⟨m,rfl,rfl,q⟩:=h;obtain⟨t,rfl⟩:=c
 cases d
 refine call_int_bit_length ⟨.int (Builtin.Int.intBits (m:Int):Nat),H,I.tok _,⟨_,rfl⟩,?_⟩;unfold Builtin.Int.intBits
 by_cases a:m=0
 ·subst a;exact q 0 ad λk _=>zero_le k
 ·have h1:((m:Int) == 0)=false:=A5.mpr (by omega)
  rw[h1];simp only[Bool.false_eq_true,if_false,natAbs_natCast];refine q _ (Nat.lt_log2_self) λk hk=>?_
  have:=(log2_lt a).mpr hk
  omega
def aW (m:Nat):List Nat:=(List.range<|m.log2+1).filter m.testBit
theorem iE {p:Nat->Bool}:∀ (d n:Nat),(∀ j,n<=j->p j=false)->(List.range<|n+d).filter p=(List.range n).filter p
 | 0,n,_=>rfl
 | d+1,n,h=>by
  rw[<-Nat.add_assoc,Me,G4,iE d n h]
  simp[h (n+d) (by omega)]
def rF {m n:Nat}(h:m<2 ^ n):(List.range n).filter m.testBit=aW m:=by
 unfold aW;have a:m<2 ^ (m.log2+1):=Nat.lt_log2_self
 rcases Nat.le_total n (m.log2+1) with c | c
 ·have:=iE (p:=m.testBit) (m.log2+1 - n) n λj hj=>jD h hj
  rw[show n+(m.log2+1 - n)=m.log2+1 by omega] at this
  exact this.symm
 ·have:=iE (p:=m.testBit) (n - (m.log2+1)) (m.log2+1) λj hj=>jD a hj
  rw[show m.log2+1+(n - (m.log2+1))=n by omega] at this
  exact this
def mask (l:List Nat):Nat:=(l.map λj=>2 ^ j).sum
theorem eA:∀ {l:List Nat},l.Nodup->∀ j,(mask l).testBit j=decide (j∈l)
 | [],_,j=>by simp[mask]
 | a::r,h,j=>by
  have c:=AC.mp h;have b:=eA c.2;have d:(mask r).testBit a=false:=by rw[b];simp[c.1]
  show (2 ^ a+mask r).testBit j=_;rw[Nat.add_comm,AJ d,iB,b]
  by_cases e:a=j
  ·subst e;simp
  ·have:¬ j=a:=λz=>e z.symm
   simp[e,this]
def AL {n:Nat}(h:l.Nodup)(hl:∀ i∈l,i<n):mask l<2 ^ n:=yD λj hj=>by
 rw[eA h,dy];exact λz=>absurd (hl j z) (by omega)
def dh (ws l:List Nat):Bool:=l.all λi=>l.all λj=>decide (j=i)||fJ ws i j
def tO:a&&& b=b↔∀ j,b.testBit j=true->a.testBit j=true:=by
 constructor
 ·intro h j hj
  have:(a&&& b).testBit j=true:=by rw[h];exact hj
  rw[testBit_and,ef] at this;exact this.1
 ·intro h
  apply U2
  intro j;rw[testBit_and]
  cases e:b.testBit j with
  | false=>rw[KE]
  | true=>rw[h j e];rfl
def om (h:l.Nodup)(hi:i∈l):∀ j,(mask l - 2 ^ i).testBit j=decide (j∈l/\j≠i):=by
 intro j;have e:mask l&&& 2 ^ i=2 ^ i:=tO.mpr λj hj=>by
  rw[G3,r4] at hj;subst hj;rw[eA h,cc hi]
 have:=iD (mask l) (2 ^ i) j
 rw[e] at this;rw[this,eA h,G3]
 by_cases c:j∈l<;>by_cases a:i=j
 ·subst a;simp
 ·have:¬ j=i:=λz=>a z.symm
  simp[c,a,this]
 ·simp[c]
 ·simp[c]
def vS (hi:i∈l):2 ^ i<=mask l:=by
 unfold mask
 induction l with
 | nil=>cases hi
 | cons a r b=>
  rw[rr,U7]
  rcases gd.mp hi with rfl | h
  ·omega
  ·exact fz (b h)<|Nat.le_add_left _ _
def yE (h:l.Nodup)(hi:i∈l):decide (ws.getD i 0&&& (mask l - 2 ^ i)=mask l - 2 ^ i)=l.all λj=>decide (j=i)||fJ ws i j:=by
 apply L0.mpr
 rw[r4,tO,ih]
 constructor
 ·intro z j hj
  by_cases e:j=i
  ·rw[cc e];rfl
  ·have:=z j (by rw[om h hi,cc ⟨hj,e⟩])
   unfold fJ;rw[this,Bool.or_true]
 ·intro z j hj;rw[om h hi,r4] at hj
  have:=z j hj.1
  rw[dy hj.2,Bool.false_or] at this;exact this
def ku:Sp:=λa H Q _=>∃ m:Nat,a=[.int m]/\m<2 ^ 64/\∀ (l:Addr) (H':Hp),ag H H'->H l=none->H' l=some (.lst<|(aK<|aW m).map V.int)->Q (.ref l) H'
def Of (K:Frag):Sp:=λa H Q _=>∃ (w p:Addr) (ws l:List Nat),a=[.ref w,.ref p]/\aN K H w ((aK ws).map V.int)/\aN K H p ((aK l).map V.int)/\ws.length<=8/\l.Nodup/\(∀ i∈l,i<ws.length)/\∀ H',ag H H'->Q (.bl<|dh ws l) H'
def Q6 (H0:Hp)(w p:Addr)(ws l:List Nat)(k:Nat)(σ:St)(H:Hp):Prop:=H=H0/\(∀ j,j<k->(l.all λx=>decide (x=l.getD j 0)||fJ ws (l.getD j 0) x)=true)/\∃ y1 y2:Option V,σ=[some (.ref w),some<|.ref p,some<|.int (mask l:Nat),y1,y2]
def AM (l:List Nat):((List.range (aK l).length).map λj=>((2 ^ l.getD j 0:Nat):Int)).sum=((mask l:Nat):Int):=by
 have e:(List.range (aK l).length).map (λj=>((2 ^ l.getD j 0:Nat):Int))=aK (l.map λj=>2 ^ j):=by
  unfold aK
  apply UF
  intro i;rw[b5,et,et,et]
  by_cases h:i<l.length
  ·rw[LI h,b4 h];show some (((2 ^ l.getD i 0:Nat):Int))=some (((2 ^ l[i]:Nat):Int));rw[b3,b4 h];rfl
  ·rw[ot (by rw[pS];omega),ot (by omega)];rfl
 rw[e,JU];rfl
def JW (h:2 ^ i<=a):(a:Int) - ((2 ^ i:Nat):Int)=((a - 2 ^ i:Nat):Int):=by omega
def Q7:(((a:Nat):Int)=((b:Nat):Int))=(a=b):=propext ⟨λh=>by omega,λh=>by rw[h]⟩
def jw (ws r:List Nat):Bool:=decide (2<=r.length)&&(decide r.Nodup&&(List.range r.length).all λk=>fJ ws (r.getD (ahead r.length k) 0)<|r.getD k 0)
def qd (r:List Nat):List Nat:=r.drop 1++r.take 1
def Fx (h:1<=r.length):(qd r).length=r.length:=by unfold qd;rw[ed,mv,tz];omega
def oq {k:Nat}(hk:k<r.length):(qd r).getD k 0=r.getD (if k+1<r.length then k+1 else 0) 0:=by
 unfold qd;rw[b3,b3]
 by_cases c:k+1<r.length
 ·rw[if_pos c,u5 (by rw[mv];omega),getElem?_drop,Nat.add_comm]
 ·rw[if_neg c,wh (by rw[mv];omega),mv,show k - (r.length - 1)=0 by omega,List.getElem?_take_of_lt ad]
def Cm:((List.range r.length).map λk=>fJ ws (r.getD k 0)<|(qd r).getD k 0).all id=(List.range r.length).all λk=>fJ ws (r.getD (ahead r.length k) 0) (r.getD k 0):=by
 apply L0.mpr
 rw[Pi];simp only[List.all_eq_true,List.mem_range,Function.comp,id_eq]
 constructor
 ·intro h k hk;unfold ahead
  by_cases c:k=0
  ·subst c;rw[if_pos rfl]
   have:=h (r.length - 1) (by omega)
   rw[oq (by omega),if_neg (by omega)] at this
   exact this
  ·rw[if_neg c]
   have:=h (k - 1) (by omega)
   rw[oq (by omega),if_pos (by omega),show k - 1+1=k by omega] at this
   exact this
 ·intro h k hk;rw[oq hk]
  by_cases c:k+1<r.length
  ·rw[if_pos c]
   have:=h (k+1) c
   unfold ahead at this;rw[if_neg (by omega),Nat.add_sub_cancel] at this
   exact this
  ·rw[if_neg c]
   have:=h 0 (by omega)
   unfold ahead at this;rw[if_pos rfl,show r.length - 1=k by omega] at this
   exact this
def qf:(aK r).Nodup↔r.Nodup:=by
 constructor
 ·intro h;unfold aK at h;rw[KF,List.pairwise_map] at h;rw[KF];exact h.imp λh=>by omega
 ·exact rE
theorem rG:∀ {ns:List Int},¬ ns.Nodup->∃ x∈ns,x∈ns.erase x
 | [],h=>absurd nodup_nil h
 | a::r,h=>by
  by_cases c:a∈r
  ·exact⟨a,eR ..,by rw[List.erase_cons_head];exact c⟩
  ·have e:¬ r.Nodup:=λz=>h<|AC.mpr ⟨c,z⟩;obtain⟨x,h1,d⟩:=rG e;refine⟨x,fA _ h1,?_⟩;have b:a≠x:=λz=>c<|z ▸ h1;rw[List.erase_cons_tail (by simpa using b)]
   exact fA _ d
theorem ou:∀ {xs ys:List Int},xs.Nodup->(∀ i∈xs,i∈ys)->xs.length<=ys.length
 | [],_,_,_=>zero_le _
 | a::r,ys,e,h=>by
  have b:=AC.mp e;have h1:=ou (xs:=r) (ys:=ys.erase a) b.2 λi c=>by
   have:i≠a:=λz=>b.1<|z ▸ c
   exact(List.mem_erase_of_ne this).mpr (h i<|fA _ c)
  have d:=length_erase (a:=a) (l:=ys);rw[if_pos (h a<|eR ..)] at d
  have:0<ys.length:=length_pos_of_mem<|h a<|eR ..
  rw[ls];omega
def Co {ns:List Int}(h:¬ ns.Nodup):unlike ns<ns.length:=by
 obtain⟨x,h1,d⟩:=rG h;obtain⟨f,c⟩:=vQ (ns:=ns) ns.length<|ea _;have j:=ou (ys:=ns.erase x) f λi b=>by
  have b:=(c i).mp b;rw[SC] at b
  by_cases e:i=x
  ·rw[e];exact d
  ·exact(List.mem_erase_of_ne e).mpr b
 have g:=length_erase (a:=x) (l:=ns);rw[if_pos h1] at g
 have:0<ns.length:=length_pos_of_mem h1
 unfold unlike
 omega
def Q8 (K:Frag):Sp:=λa H Q _=>∃ (w p:Addr) (ws r:List Nat),a=[.ref w,.ref p]/\aN K H w ((aK ws).map V.int)/\aN K H p ((aK r).map V.int)/\ws.length<=8/\r.length<=90/\(∀ i∈r,i<ws.length)/\∀ H',ag H H'->Q (.bl<|jw ws r) H'
def Off (wb:Addr)(H H':Hp):Prop:=∀ b o,b≠wb->H b=some o->H' b=some o
variable {wb:Addr}
def Off.trans {H1 H2:Hp}(a:Off wb H H1)(b:Off wb H1 H2):Off wb H H2:=λc o n h=>b c o n<|a c o n h
def ag.Mb {H':Hp}(s:ag H H'):Off wb H H':=λb o _ h=>s b o h
theorem Off.upd {wb:Addr}{H:Hp}{o:HO}:Off wb H (L2.upd H wb o):=λb u n h=>by rw[aB n];exact h
variable {p:Addr}
def ax {K:Frag}{xs:List V}{i:Int}{v:V}(h:au K H p xs)(e:uZ xs i=some v)(q:Q v H):lp K (.ref p) (.int i) H Q:=⟨p,_,i,_,rfl,rfl,h,e,q⟩
def JX {ds:List PyData}:PyData.eqv (.list ds) (.list [])=decide (ds=[]):=by
 cases ds with
 | nil=>rfl
 | cons a r=>simp[PyData.eqv,PyData.eqvAll]
variable {j:Int}
def lcAny {te:TE}{rest:St}{H1:Hp}(n:Nat)(e:j=(n:Int))(hn:n<=1000000)(Ok:Nat->Prop)
  (step:∀ i H (A:V->Hp->Prop),i<n->ag H1 H->(∀ (x:Nat) H',ag H H'->Ok x->A (.int (x:Int)) H')->te (some (.int (i:Int))::rest) H A)
  (fin:∀ acc (row:List Nat) H,H1 acc=none->ag H1 H->H acc=some (.lst<|(aK row).map V.int)->row.length=n->(∀ x∈row,Ok x)->Q (.ref acc) H) :
  ∃ k:Int,[V.int j]=[.int k]/\-(2 ^ 62)<=k/\k<2 ^ 62/\vC (bN 0) il te (none::rest) Q (xW 0 k.toNat) H1:=by
 subst e;refine⟨_,rfl,by omega,by omega,?_⟩
 rw[FM];intro acc d;refine⟨λi m τ H=>m=n - i/\i<=n/\(∃ y,τ=y::rest)/\ag H1 H/\∃ row:List Nat,H acc=some (.lst<|(aK row).map V.int)/\row.length=i/\∀ x∈row,Ok x,⟨n,by simp,zero_le _,⟨_,rfl⟩,ag.new d _,[],af,rfl,(λ_ h=>nomatch h)⟩,?_⟩
 rintro i m τ H ⟨rfl,t,⟨y,rfl⟩,o,row,s,l,r⟩
 by_cases f:i<n
 ·refine .inr ⟨f,λq H'=>(∃ y,q=y::rest)/\ag H1 H'/\∃ row:List Nat,H' acc=some (.lst<|(aK row).map V.int)/\row.length=i+1/\∀ x∈row,Ok x,λq H' ⟨a,b,c⟩=>⟨n - (i+1),by omega,rfl,f,a,b,c⟩,λx H' y=>?_⟩
  obtain⟨rfl,rfl⟩:=y;rw[Int.zero_add];simp only[tm,iq,set_cons_zero,Cc,mr];refine step i H' _ f o λx u g hx=>?_;have p:=g _ _ s;refine⟨_,p,?_,⟨_,rfl⟩,(o.trans g).set d _,row++[x],?_,by rw[ed,l];rfl,λz hz=>?_⟩
  ·rw[b5,ak,l];exact gg (gg f hn) ad
  ·rw[af,dQ,eH];rfl
  ·rcases eG.mp hz with z1 | z1
   ·exact r z z1
   ·rw[dt.mp z1];exact hx
 ·have e:i=n:=by omega
  subst e;exact .inl ⟨ea _,fin acc row H d o s l r⟩
def Fy {k:Nat}(hd:l.Nodup)(h:x∈l.take k):l.idxOf x<k:=by
 obtain⟨i,a,e⟩:=C2 h;rw[tz] at a;rw[List.getElem_take] at e;rw[<-e,hd.idxOf_getElem i (by omega)]
 omega
variable {a:Addr}
def Mc {K:Frag}{xs:List V}{g:TG}{tb:TS}{D:Ends}{σ:St}(I:Nat->St->Hp->Prop)(h:au K H a xs)(h0:I 0 σ H)(hl:∀ i σ H,I i σ H->au K H a xs)
  (step:∀ i x σ H,xs[i]?=some x->I i σ H->g x σ H λσ2 H2=>tb {D with nx:=I<|i+1,ct:=I<|i+1,bk:=D.nx} σ2 H2)
  (fin:∀ σ H,I xs.length σ H->D.nx σ H):∃ b,V.ref a=.ref b/\(∃ xs,au K H b xs)/\p9 g tb D σ (Ii K b) H:=
 ⟨a,rfl,⟨_,h⟩,vh (xs:=xs) I h0 (λi σ H _ p=>hl i σ H p) step fin⟩
def Fz {te:TE}{rest:St}{H1:Hp}(n:Nat)(e:j=(n:Int))(hn:n<=1000000)(Ok:Nat->Int->Prop)
  (step:∀ i H (A:V->Hp->Prop),i<n->ag H1 H->(∀ (x:Int) H',ag H H'->Ok i x->A (.int x) H')->te (some (.int (i:Int))::rest) H A)
  (fin:∀ acc (row:List Int) H,H1 acc=none->ag H1 H->H acc=some (.lst<|row.map V.int)->row.length=n->(∀ i,i<n->Ok i (row.getD i 0))->Q (.ref acc) H) :
  ∃ k:Int,[V.int j]=[.int k]/\-(2 ^ 62)<=k/\k<2 ^ 62/\vC (bN 0) il te (none::rest) Q (xW 0 k.toNat) H1:=by
 subst e;refine⟨_,rfl,by omega,by omega,?_⟩
 rw[FM];intro acc d;refine⟨λi m τ H=>m=n - i/\i<=n/\(∃ y,τ=y::rest)/\ag H1 H/\∃ row:List Int,H acc=some (.lst<|row.map V.int)/\row.length=i/\∀ k,k<i->Ok k (row.getD k 0),⟨n,by simp,zero_le _,⟨_,rfl⟩,ag.new d _,[],af,rfl,λk hk=>absurd hk<|SF k⟩,?_⟩
 rintro i m τ H ⟨rfl,s,⟨y,rfl⟩,l,row,r,g,q⟩
 by_cases f:i<n
 ·refine .inr ⟨f,λp H'=>(∃ y,p=y::rest)/\ag H1 H'/\∃ row:List Int,H' acc=some (.lst<|row.map V.int)/\row.length=i+1/\∀ k,k<i+1->Ok k (row.getD k 0),λp H' ⟨a,b,c⟩=>⟨n - (i+1),by omega,rfl,f,a,b,c⟩,λx H' y=>?_⟩
  obtain⟨rfl,rfl⟩:=y;rw[Int.zero_add];simp only[tm,iq,set_cons_zero,Cc,mr];refine step i H' _ f l λx t h hx=>?_;have o:=h _ _ r;refine⟨_,o,?_,⟨_,rfl⟩,(l.trans h).set d _,row++[x],?_,by rw[ed,g];rfl,λk hk=>?_⟩
  ·rw[b5,g];exact gg (gg f hn) ad
  ·rw[af,eH];rfl
  ·by_cases e:k=i
   ·subst e;rw[<-g,tK,g];exact hx
   ·rw[tJ (by omega)];exact q k (by omega)
 ·have e:i=n:=by omega
  subst e;exact .inl ⟨ea _,fin acc row H d l r g q⟩
variable {us:List V}
def ay {v:V}(h:us[i]?=some v):uZ us (i:Int)=some v:=by
 have a:=(ka.mp h).1
 have:=gu (xs:=us) (i:=(i:Int)) (k:=i) rfl .bx a
 rw[this,b3,h];rfl
def Tx (K:Frag):List V->Hp->VK->Prop:=λa H Q=>∃ (p:Addr) (bs:List Bool),a=[.ref p]/\au K H p (bs.map V.bl)/\Q (.bl<|bs.any id) H
def Q9 (K:Frag):List V->Hp->VK->Prop:=λa H Q=>∃ (p:Addr) (ns:List Int),a=[.ref p]/\(au K H p (ns.map V.int)∨aN K H p (ns.map V.int))/\ns≠[]/\∀ m∈ns,(∀ n∈ns,n<=m)->Q (.int m) H
theorem ow:∀ {ns:List Int} {its:List Value} {i:Nat} {v:Value},Vals (ns.map V.int) its->its[i]?=some v->∃ t,v=.int (ns.getD i 0) t/\i<ns.length
 | [],_,i,v,.nil,h=>by simp at h
 | n::r,_,0,v,.cons h _,e=>by
  obtain⟨t,h⟩:=h
  simp at e
  exact⟨t,by rw[<-e,h];rfl,by simp⟩
 | n::r,_,i+1,v,.cons _ t,e=>by
  obtain⟨b,h1,a⟩:=ow t (i:=i) (v:=v) (by simpa using e)
  exact⟨b,by rw[h1];simp,by simp;exact a⟩
theorem vT:∀ {xs:List V} {its:List Value},Vals xs its->Vals xs.reverse its.reverse
 | [],_,.nil=>.nil
 | _::_,_,.cons h t=>by rw[List.reverse_cons,List.reverse_cons];exact(vT t).append (.cons h .nil)
variable {K:Frag}
def Cp (hc:X.calm=true)(hK:X.K=K):bO X (.builtin "any") (Tx K):=by
 subst hK;intro j s σ H C E Q I r h;obtain⟨p,bs,rfl,hq,q⟩:=h;obtain⟨u,rfl,w⟩:=vals1 r
 cases w
 obtain⟨a,x,f,hz⟩:=I.list hq;have g:=tN x;have m:p<s.heap.objs.size:=by obtain⟨o,e,_⟩:=f.isList;exact lt_size e
 refine PySem.call_any_walk<|SZ f.isList ?_;refine⟨s.heap.objs.size,_,_,_,_,_,λi=>bs.getD i false,rfl,Walks.list (by simpa using I.ok.hd hc) s.heap.objs.size p (j6 m) a.toArray,⟨⟨_,hO _ rfl,rfl,rfl⟩,f.isList.push _⟩,?_,λB D hk=>?_⟩
 ·intro i v n l A c d;have c:a[i]?=some v:=by simpa using c
  rw[g,et] at c
  cases e:bs[i]? with
  | none=>rw[e] at c;cases c
  | some b=>
   rw[e] at c
   cases c
   have d:l (bs.getD i false) n:=d;rw[b3,e] at d;exact D1 d
 ·have t:a.toArray.size=bs.length:=by rw[gc,g,b5]
  have y:(List.range a.toArray.size).any (λi=>bs.getD i false)=bs.any id:=by
   rw[t]
   apply L0.mpr
   simp only[List.any_eq_true,List.mem_range,id_eq]
   constructor
   ·rintro⟨k,hk,h⟩;rw[b3,b4 hk] at h;exact⟨_,pP hk,h⟩
   ·rintro⟨b,hb,h⟩;obtain⟨k,hk,e⟩:=C2 hb;refine⟨k,hk,?_⟩;rw[b3,b4 hk];show bs[k]=true;rw[e];exact h
  rw[y];refine⟨.bl _,H,I.kept λb o e=>hk b o ?_ (c8 _ e),rfl,q⟩;intro z
  have:b=s.heap.objs.size:=by simpa using z
  subst this;exact I1 _<|lt_size e
def Cq {pins:aO0}{σ:St}{ns:List Int}(hc:X.calm=true)(I:Inv X pins σ H s)(hq:au X.K H p (ns.map V.int)∨aN X.K H p (ns.map V.int)){R:Value->Shared->Prop}
  (h:∀ (J:Addr) (fp wr:List Addr) (Pv:Nat->Value->Prop) (St:Nat->Heap->Prop) (s2:Shared),Walks X.prog X.w X.A.in1 J fp wr ns.length Pv St->St 0 s2.heap->(∀ b∈fp,b<s2.heap.objs.size)->(∀ i v,Pv i v->∃ t,v=.int (ns.getD i 0) t)->
   (∀ h' tk,(∀ b o,b∉wr->s2.heap.get? b=some o->h'.get? b=some o)->Inv X pins σ H {s2 with heap:=h',toks:=tk})->R (.ref J) s2):wpAny (model X.prog X.w) X.A.in1 (pyIter<|.ref p) R E s:=by
 have kept:∀ {o:Obj} {h':Heap} {tk:Nat},(∀ b u,b∉[s.heap.objs.size]->(s.heap.push o).get? b=some u->h'.get? b=some u)->Inv X pins σ H {s with heap:=h',toks:=tk}:=λhk=>I.kept λb u e=>hk b u (λz=>by
  have:b=s.heap.objs.size:=by simpa using z
  subst this;exact I1 _<|lt_size e)<|c8 _ e
 rcases hq with hq | hq
 ·obtain⟨a,d,f,hz⟩:=I.list hq;have j:a.toArray.size=ns.length:=by rw[gc,<-d.length,b5]
  have c:p<s.heap.objs.size:=by obtain⟨o,e,_⟩:=f.isList;exact lt_size e
  refine SZ f.isList ?_;have W:=Walks.list (prog:=X.prog) (w:=X.w) (A:=X.A.in1) (by simpa using I.ok.hd hc) s.heap.objs.size p (j6 c) a.toArray
  rw[j] at W;refine h _ _ _ _ _ _ W ⟨⟨_,hO _ rfl,rfl,rfl⟩,f.isList.push _⟩ (λb hb=>?_) (λi v g=>?_) λh' tk hk=>kept hk
  ·show b<(s.heap.push _).objs.size;rw[C5]
   rcases gd.mp hb with rfl | hb
   ·exact Vo _
   ·have:b=p:=by simpa using hb
    rw[this];exact Vp c
  ·obtain⟨t,e,_⟩:=ow d (by simpa using g)
   exact⟨t,e⟩
 ·obtain⟨a,d,f,hz⟩:=I.tuple hq;have pt:s.heap.IsTuple p a.toArray:=f;have j:a.toArray.size=ns.length:=by rw[gc,<-d.length,b5]
  have c:p<s.heap.objs.size:=by obtain⟨o,e,_⟩:=pt;exact lt_size e
  refine U4 pt ?_;have W:=Walks.tuple (prog:=X.prog) (w:=X.w) (A:=X.A.in1) (by simpa using I.ok.hd hc) s.heap.objs.size p (j6 c) a.toArray
  rw[j] at W;refine h _ _ _ _ _ _ W ⟨⟨_,hO _ rfl,rfl,rfl⟩,pt.at λo e=>c8 _ e⟩ (λb hb=>?_) (λi v g=>?_) λh' tk hk=>kept hk
  ·show b<(s.heap.push _).objs.size;rw[C5]
   rcases gd.mp hb with rfl | hb
   ·exact Vo _
   ·have:b=p:=by simpa using hb
    rw[this];exact Vp c
  ·obtain⟨t,e,_⟩:=ow d (by simpa using g)
   exact⟨t,e⟩
def yF (hc:X.calm=true)(hK:X.K=K):bO X (.builtin "max") (Q9 K):=by
 subst hK;intro l s σ H D F Q I r h;obtain⟨p,c,rfl,hq,g,q⟩:=h;obtain⟨u,rfl,z⟩:=vals1 r
 cases z
 have hn:0<c.length:=Do.mpr g;refine PySem.call_max_walk<|Cq hc I hq λJ y A Pv St E W o d a b=>?_;refine⟨J,y,A,_,Pv,St,_,rfl,W,o,d,hn,CmpOf.ints_gt (λi=>c.getD i 0) a,λv m w B hk=>?_⟩;obtain⟨t,rfl⟩:=a _ _ B;obtain⟨C,x⟩:=argBest_gt (λi=>c.getD i 0)<|c.length - 1;refine⟨.int _,H,b m w hk,⟨t,rfl⟩,q _ (L2.getD_mem (by omega)) λn f=>?_⟩
 obtain⟨k,j,e⟩:=C2 f
 have:=x k (by omega)
 rw[b3,b4 j] at this;rw[<-e];exact this
def Md:TS:=λ_ _ _=>False
def jx {st:Stmt}:QS X st Md:=⟨λ_ _ _ _ _ _ h=>h.elim⟩
def FA {D:Ends}{σ:St} :Md D σ H=False:=rfl
def Ra (K:Frag):V->Hp->VK->Prop:=λx H Q=>∃ a xs,x=.ref a/\au K H a xs/\∀ p,H p=none->Q (.ref p) (upd H p<|.lst xs.reverse)
def Tz (K:Frag)(te ts:TE):TE:=λσ H Q=>te σ H λx H1=>ts σ H1 λy a=>y=.int (-1)/\Ra K x a Q
variable {e st:Expr}{te ts:TE}{pos p2:Pos}{ops:Value->Value->List Value}
def Og (he:PE X e te)(hs:PE X st ts)(hsub:∀ o i,subscripted (.Slice none none (some st) p2) false o i=operate (ops o i) (getItem o i)):PE X (.Subscript e (.Slice none none (some st) p2) pos) (Tz X.K te ts):=by
 intro c s σ H Q I h;refine Subscript_<|bU (he c s σ H _ I h) λv E ⟨x,H1,u,z,B⟩=>?_;refine wpAny_Slice ?_;rw[evalPart_none];refine ey<|ey ?_;rw[evalPart_some];refine bU (hs c E σ H1 _ u B) λF d ⟨y,m,p,D,n⟩=>?_;obtain⟨rfl,a,C,rfl,hx,q⟩:=n
 cases z
 obtain⟨t,rfl⟩:=D;have g:Inv X c σ m {d with heap:=d.heap.push {cls:=.type "slice",data:=.fields #[.none,.none,.int (-1) t]}}:=p.kept (t':=d.toks) λb ob q=>c8 _ q;obtain⟨f,r,l,hz⟩:=g.list hx;have j:=r.length;show wpAny (model X.prog X.w) X.A (subscriptTail e (.Slice none none (some st) p2) (.ref a)<|.ref d.heap.objs.size) (EP X c σ Q) X.xe {d with heap:=d.heap.push {cls:=.type "slice",data:=.fields #[.none,.none,.int (-1) t]}};refine tail_any (T:="list") (ops:=ops (.ref a)<|.ref d.heap.objs.size) l.isList.typeIs slot_list_getitem.lookup ?_ (hsub _ _);refine wpAny_getItem_list_slice l.isList (Heap.IsSliceOf.new ..) .none .none (.int (-1) t) (by simp) ?_ (by rw[gc]<;>omega)
 rw[PySem.W.krv_pick];refine⟨.ref _,_,g.laid (t':=d.toks) (o:=.lst C.reverse) (λb ob q=>c8 _ q) (ea _) ?_,rfl,q _<|g.aY.fresh<|ea _⟩;exact⟨by rw[List.length_reverse];exact hz,f.reverse,0,vT r,hO _ rfl⟩
def Oh (he:QE X e te)(hs:QE X st ts)(h:X.K=K)(hsub:∀ o i,subscripted (.Slice none none (some st) p2) false o i=operate (ops o i) (getItem o i):=by intro _ _;with_unfolding_all rfl):QE X (.Subscript e (.Slice none none (some st) p2) pos) (Tz K te ts):=⟨by subst h;exact Og he.h hs.h hsub⟩
def Rb {σ:St} :Tz K te ts σ H Q=te σ H λx H1=>ts σ H1 λy H2=>y=.int (-1)/\Ra K x H2 Q:=rfl
def rg (n i:Nat)(s:Int):Int:=if i=n - 1 then s else 1 - s
def Rc:Sp:=λa H Q _=>∃ (n i:Nat) (s:Int),a=[.int n,.int i,.int s]/\1<=n/\Q (.int<|rg n i s) H
def kd (b:Bool):Str:=if b then "ring" else "circle"
def tP (b:Bool):decide (kd b="ring")=b:=by cases b<;>decide
def GL (K:Frag)(H:Hp):List V->List (Bool × List Nat)->Prop
 | [],[]=>True
 | v::a,g::L=>(∃ r p,v=.ref r/\aN K H r [.str (kd g.1),.ref p]/\aN K H p ((aK g.2).map V.int))/\GL K H a L
 | _,_=>False
variable {H':Hp}
theorem GL.mono (s:ag H H'):∀ {vs:List V} {L:B0L},GL K H vs L->GL K H' vs L
 | [],[],h=>h
 | _::_,_::_,⟨⟨r,p,e,h,a⟩,t⟩=>⟨⟨r,p,e,s.aT h,s.aT a⟩,GL.mono s t⟩
 | [],_::_,h=>h.elim
 | _::_,[],h=>h.elim
theorem GL.length:∀ {vs:List V} {L:B0L},GL K H vs L->vs.length=L.length
 | [],[],_=>rfl
 | _::_,_::_,⟨_,t⟩=>by rw[ls,ls,GL.length t]
 | [],_::_,h=>h.elim
 | _::_,[],h=>h.elim
theorem GL.get:∀ {vs:List V} {L:B0L} {i:Nat} {v:V},GL K H vs L->vs[i]?=some v->∃ g r p,L[i]?=some g/\v=.ref r/\aN K H r [.str (kd g.1),.ref p]/\aN K H p ((aK g.2).map V.int)
 | [],[],i,v,_,e=>by simp at e
 | _::_,g::_,0,v,⟨⟨r,p,e,h,d⟩,_⟩,c=>by simp at c;subst c;exact⟨g,r,p,rfl,e,h,d⟩
 | _::_,_::_,i+1,v,⟨_,t⟩,c=>by
  obtain⟨g,r,p,a,b⟩:=GL.get (i:=i) (v:=v) t (by simpa using c)
  exact⟨g,r,p,by simpa using a,b⟩
 | [],_::_,_,_,h,_=>h.elim
 | _::_,[],_,_,h,_=>h.elim
variable {L:B0L}
def UJ {rest:St}{H1:Hp}(val:(Bool × List Nat)->Int)(h:aN K H1 a us)(hg:GL K H1 us L)(hn:L.length<sizeLine)
  (step:∀ (i:Nat) g p H (A:V->Hp->Prop),L[i]?=some g->ag H1 H->aN K H p ((aK g.2).map V.int)->(∀ H',ag H H'->A (.int<|val g) H')->te (some (.str<|kd g.1)::some (.ref p)::rest) H A)
  (fin:∀ acc H,H1 acc=none->ag H1 H->H acc=some (.lst<|(L.map val).map V.int)->Q (.ref acc) H) :
  ∃ b,V.ref a=.ref b/\(∃ xs,aN K H1 b xs)/\vC (pW K 2<|dJ (bN 0)<|dJ (bN 1) pV) il te (none::none::rest) Q (DH K b) H1:=by
 have E:=hg.length;refine⟨a,rfl,⟨_,h⟩,λacc c=>?_⟩;refine⟨λi m τ H=>m=L.length - i/\i<=L.length/\(∃ y z,τ=y::z::rest)/\ag H1 H/\H acc=some (.lst<|((L.take i).map val).map V.int),⟨L.length,by simp,zero_le _,⟨_,_,rfl⟩,ag.new c _,af⟩,?_⟩
 rintro i m τ H ⟨rfl,F,⟨y,z,rfl⟩,d,t⟩;have o:=d.aT h
 by_cases n:i<L.length
 ·have hx:us[i]?=some (us[i]' (by omega)):=b4 _
  refine .inr ⟨⟨_,_,o,hx⟩,λs H'=>(∃ y z,s=y::z::rest)/\ag H1 H'/\H' acc=some (.lst<|((L.take<|i+1).map val).map V.int),λs H' ⟨u,v,w⟩=>⟨L.length - (i+1),by omega,rfl,n,u,v,w⟩,λx H' y=>?_⟩
  obtain⟨rfl,D⟩:=y;have l:=D _ o;obtain⟨g,r,p,f,rfl,C,B⟩:=(hg.mono d).get l;refine⟨r,_,rfl,C,rfl,_,_,rfl,_,_,rfl,rfl,?_⟩;simp only[iq,Cc,mr,set_cons_zero,set_cons_succ];refine step i g p _ _ f d B λG j=>?_;have q:=j _ _ t;refine⟨_,q,?_,⟨_,_,rfl⟩,(d.trans j).set c _,?_⟩
  ·rw[b5,b5,tz];omega
  ·rw[af]
   have:L.take (i+1)=L.take i++[g]:=by rw[take_succ,f];rfl
   rw[this,eH,eH];rfl
 ·have e:i=L.length:=by omega
  subst e;refine .inl ⟨⟨_,o,by omega⟩,fin acc H c d ?_⟩
  rw[t,SC]
def pk (cs:List Int)(l:List Nat):List Int:=l.map λi=>cs.getD i 0
def AN (cs:List Int)(g:Bool × List Nat):Int:=if g.1 then 1 else di (pr<|pk cs g.2) (pk cs g.2) / pr (pk cs g.2)
structure Oi (n:Nat)(g:Bool × List Nat):Prop where
 lt:∀ i∈g.2,i<n
 len:g.2.length<=8
variable {g:Bool × List Nat}
def Mf {cs:List Int}(h:cA cs)(hg:Oi cs.length g):cA (pk cs g.2):=by
 refine⟨λc hc=>?_,by unfold pk;rw[b5];exact hg.len⟩
 obtain⟨i,a,e⟩:=j9.mp hc;rw[<-e];exact h.get<|hg.lt i a
def tQ {cs:List Int} :(pk cs l).length=l.length:=by unfold pk;rw[b5]
def Oj {cs:List Int}{k:Nat}(h:k<l.length):(pk cs l).getD k 0=cs.getD (l.getD k 0) 0:=by
 unfold pk;rw[b3,et,b4 h,b3 (l:=l),b4 h];rfl
def ox (K:Frag):Sp:=λa H Q _=>∃ (c p:Addr) (cs:List Int) (l:List Nat),a=[.ref c,.ref p]/\aN K H c (cs.map V.int)/\aN K H p ((aK l).map V.int)/\(∀ i∈l,i<cs.length)/\l.length<=8/\∀ (t:Addr) (H':Hp),ag H H'->H' t=some (.tup<|(pk cs l).map V.int)->Q (.ref t) H'
def AO (K:Frag):Sp:=λa H Q _=>∃ (c p:Addr) (cs:List Int) (g:Bool × List Nat),a=[.ref c,.str<|kd g.1,.ref p]/\aN K H c (cs.map V.int)/\aN K H p ((aK g.2).map V.int)/\cA cs/\Oi cs.length g/\∀ (H':Hp),ag H H'->Q (.int<|AN cs g) H'
def FC (K:Frag):Sp:=λa H Q _=>∃ (c g:Addr) (cs:List Int) (us:List V) (L:B0L),a=[.ref c,.ref g]/\aN K H c (cs.map V.int)/\aN K H g us/\GL K H us L/\cA cs/\(∀ g∈L,Oi cs.length g)/\L.length<=100/\∀ (H':Hp),ag H H'->Q (.int (L.map<|AN cs).sum) H'
def vU (cs:List Int)(l:List Nat):List Int:=l.map λi=>cs.getD i 0
def JY {cs:List Int} :(vU cs l).length=l.length:=by unfold vU;rw[b5]
def JZ {cs:List Int}{k:Nat}(h:k<l.length):(vU cs l).getD k 0=cs.getD (l.getD k 0) 0:=by
 unfold vU;rw[b3,et,b4 h,b3 (l:=l),b4 h];rfl
def Rf (cs hs:List Int)(g:Bool × List Nat)(i:Nat):Int:=if g.1 then rg g.2.length (g.2.idxOf i) (hs.getD (g.2.getD ((g.2.idxOf i+1) % g.2.length) 0) 0) else cg (vU cs g.2) (vU hs g.2) (g.2.idxOf i)
def vV (cs:List Int)(L:B0L)(hs:List Int)(i:Nat):Int:=match L.find? (λg=>decide<|i∈g.2) with
 | none=>0
 | some g=>Rf cs hs g i
structure Rg (cs:List Int)(ws:List Nat)(g:Bool × List Nat):Prop where
 lt:∀ x∈g.2,x<cs.length
 nd:g.2.Nodup
 ring:g.1=true->2<=g.2.length/\(∀ x∈g.2,cs.getD x 0=2)/\∀ k,k<g.2.length->fJ ws (g.2.getD k 0) (g.2.getD ((k+1) % g.2.length) 0)=true
 KP:g.1=false->∀ x∈g.2,∀ y∈g.2,x≠y->fJ ws x y=true
structure Cr (cs:List Int)(ws:List Nat)(L:B0L):Prop where
 each:∀ g∈L,Rg cs ws g
 zF:L.Pairwise λg h=>∀ x∈g.2,x∉h.2
def vW {k:Nat}(h:k<l.length):l.getD k 0∈l:=by
 rw[b3,b4 h];exact pP h
def TB {k:Nat}(hd:l.Nodup)(h:k<l.length):l.idxOf (l.getD k 0)=k:=by
 rw[b3,b4 h];exact hd.idxOf_getElem k h
def getIdx (h:x∈l):l.getD (l.idxOf x) 0=x:=by
 have a:=UZ h;rw[b3,b4 a];exact U1 a
def yG (h:L.find? (λg=>decide<|i∈g.2)=some g):g∈L/\i∈g.2:=⟨List.mem_of_find?_eq_some h,by have:=List.find?_some h;exact h9 this⟩
def Ka {cs hs:List Int}(hp:∀ c∈cs,1<=c)(hn:HN cs hs cs.length)(h:Rg cs ws g)(hi:i∈g.2):0<=Rf cs hs g i/\Rf cs hs g i<cs.getD i 0:=by
 have f:=UZ hi;unfold Rf
 cases hb:g.1 with
 | true=>
  obtain⟨n,hc,_⟩:=h.ring hb;have a:=vW (l:=g.2) (k:=(g.2.idxOf i+1) % g.2.length) (mod_lt _ (by omega))
  have m:=hn.2 _<|h.lt _ a;rw[hc _ a] at m;rw[hc i hi];simp only[if_true];unfold rg
  split<;>omega
 | false=>
  simp only[Bool.false_eq_true,if_false];have d:∀ c∈vU cs g.2,1<=c:=λc hc=>by
   obtain⟨x,hx,e⟩:=j9.mp hc;rw[<-e];exact hp _<|getD_mem<|h.lt x hx
  have j:g.2.idxOf i<(vU cs g.2).length:=by rw[JY];exact f
  have b:=QD (hs:=vU hs g.2) d j;rw[JZ f,getIdx hi] at b;exact⟨QC d j,b⟩
def AQ {cs hs:List Int}(hp:∀ c∈cs,1<=c)(hn:HN cs hs cs.length)(h:Cr cs ws L)(hi:i<cs.length):0<=vV cs L hs i/\vV cs L hs i<cs.getD i 0:=by
 unfold vV
 cases a:L.find? (λg=>decide<|i∈g.2) with
 | none=>have:=hp _<|getD_mem hi;exact⟨by show (0:Int)<=0;decide,by show (0:Int)<_;omega⟩
 | some g=>
  obtain⟨h1,b⟩:=yG a;exact Ka hp hn (h.each g h1) b
def AR (cs:List Int)(g:Bool × List Nat):Int:=if g.1 then 1 else di (pr<|vU cs g.2) (vU cs g.2) / pr (vU cs g.2)
theorem mx:∀ {vs:List Value} {ns:List Int},IntsAre vs ns->∀ i,i<ns.length->∃ u,vs[i]?=some (.int (ns.getD i 0) u)
 | _,_,.nil,i,h=>absurd h<|SF i
 | _,_,.cons n t _,0,_=>⟨t,rfl⟩
 | _,_,.cons n t r,i+1,h=>by
  obtain⟨u,e⟩:=mx r i (by simpa using h)
  exact⟨u,by simpa using e⟩
def lA {vs:List Value}{ns:List Int}{k:Int}{t:Tok}{Q:Value->Shared->Prop}(hp:s.heap.IsTuple p vs.toArray)(hi:IntsAre vs ns)(hk:k∈ns)(q:∀ tk,Q (.int (ns.idxOf k:Nat) tk) {s with toks:=s.toks+1}) :
  wpAny (model prog w) A (call (.builtin "tuple.index") [.ref p,.int k t]) Q E s:=by
 obtain⟨o,v,B,n,r⟩:=id hp;refine U3 slot_tuple_index hp.typeIs F.entry_tuple_index ?_ (F.args_tuple_index_2 _ _);unfold Builtin.«tuple.index»;refine b7 (wpAny_of_eq (a:=(Value.ref p,[Value.int k t])) rfl ?_)
 dsimp only
 have h:=hi.length;have c:ns.idxOf k<ns.length:=kc.mpr hk;have bY:=mx hi;unfold Builtin.Tuple.tupleItemsOf;refine b7<|b7<|U8 v r<|ey<|b7<|ey<|b7<|ey<|b7 ?_;rw[Std.Legacy.Range.forIn_eq_forIn_range'];have b:∀ (m i:Nat) (R:Option Fin × Unit->Shared->Prop),i+m=vs.length->i<=ns.idxOf k->R (some<|.done<|.ret<|.int (ns.idxOf k:Nat) s.toks,()) {s with toks:=s.toks+1}->
   wpAny (model prog w) A.in1 (forIn (List.range' i m) ((none,()):Option Fin × Unit) λ(i:Nat) __s=>
    match vs.toArray[i]? with
    | some y=>do
     let __do_lift<-eqBool y (Value.int k t)
     if __do_lift=true then do
       let __do_lift<-retInt ((i:Nat):Int)
       pure (ForInStep.done (some __do_lift,()))
      else pure (ForInStep.yield (none,()))
    | x=>pure<|ForInStep.yield (none,())) R E s:=by
  intro m
  induction m with
  | zero=>intro i R h1 z _;omega
  | succ m l=>
   intro i R h1 z j;obtain⟨u,hu⟩:=bY i (by omega)
   rw[List.range'_succ,forIn_cons];have f:vs.toArray[i]?=some (.int (ns.getD i 0) u):=by simpa using hu
   simp only[f];refine b7<|b7<|wpAny_eqBool_int ?_
   by_cases e:i=ns.idxOf k
   ·have g:(ns.getD i 0 == k)=true:=by
     rw[e,b3,b4 c];show (ns[ns.idxOf k] == k)=true;rw[U1 c,Vm]
    rw[g,if_pos rfl];unfold retInt;refine b7<|b7<|wpAny_mkInt<|ey<|ey<|ey ?_;rw[e];exact j
   ·have g:(ns.getD i 0 == k)=false:=by
     rw[b3,b4 (by omega)]
     exact ne_of_lt_idxOf (show i<ns.idxOf k by omega) (by omega)
    rw[g,if_neg ad]
    exact ey (l (i+1) R (by omega) (by omega) j)
 have d:(([: min vs.toArray.size vs.toArray.size]:Std.Legacy.Range)).size=vs.length:=by simp[Std.Legacy.Range.size]
 rw[d];exact b vs.length 0 _ (by omega) (zero_le _)<|ey ⟨_,rfl,q _⟩
def Kb (K:Frag):V->List V->Hp->VK->Prop:=λx a H Q=>∃ (l:Addr) (ns:List Int) (k:Int),x=.ref l/\a=[.int k]/\aN K H l (ns.map V.int)/\k∈ns/\Q (.int (ns.idxOf k:Nat)) H
def yH (hK:X.K=K):xR X "tuple.index" (Kb K):=by
 subst hK;intro a s σ H x n v j Q I d e h;obtain⟨l,m,k,rfl,rfl,g,hk,q⟩:=h
 cases d
 obtain⟨u,rfl,c⟩:=e.one;obtain⟨t,rfl⟩:=c;obtain⟨b,r,f,hz⟩:=I.tuple g;exact lA (show s.heap.IsTuple l b.toArray from f) (intsAre_of r) hk (Q:=EP X a σ Q) λi=>⟨.int _,H,I.tok _,⟨_,rfl⟩,q⟩
def Rh (K:Frag)(H0:Hp)(c g h:Addr)(L:B0L)(i:Nat)(k:Nat)(σ:St)(H:Hp):Prop:=ag H0 H/\(∀ t,t<k->∀ x,L[t]?=some x->i∉x.2)/\∃ y1 y2 y3:Option V,σ=[some (.ref c),some<|.ref g,some<|.ref h,some<|.int (i:Int),y1,y2,y3]
def yI (h:∀ t,t<L.length->∀ x,L[t]?=some x->i∉x.2):L.find? (λg=>decide<|i∈g.2)=none:=by
 rw[List.find?_eq_none];intro g b;obtain⟨t,a,e⟩:=C2 b;rw[r4];exact h t a g (by rw[b4 a,e])
def yJ {k:Nat}(h:∀ t,t<k->∀ x,L[t]?=some x->i∉x.2)(hk:L[k]?=some g)(hi:i∈g.2):L.find? (λg=>decide<|i∈g.2)=some g:=by
 induction L generalizing k with
 | nil=>simp at hk
 | cons a r c=>
  cases k with
  | zero=>
   simp at hk
   subst hk;rw[find?_cons,cc hi]
  | succ k=>
   have b:=h 0 (Nat.succ_pos k) a rfl;rw[find?_cons,dy b];exact c (k:=k) (λt d x hx=>h (t+1) (by omega) x (by simpa using hx)) (by simpa using hk)
def Kc {cs hs:List Int}(hcs:cA cs)(hn:HN cs hs cs.length)(hl:∀ x∈l,x<cs.length):QR (pk cs l) (pk hs l):=by
 refine⟨by rw[tQ,tQ],λj hj=>?_⟩
 rw[tQ] at hj;rw[Oj hj];have hx:=hl _<|dP hj;have a:=hn.2 _ hx;exact(hcs.get hx).bt.of_le a.1 (by omega)
def vX (K:Frag)(H:Hp)(p:Addr):Prop:=(∃ o,K.lookup p=some o/\o.cls=.type "tuple"/\o.dict=none)∨∃ o u,H p=some (.iF o u)/\o.cls=.type "tuple"/\o.dict=none
def vX.mono (s:ag H H'):vX K H p->vX K H' p
 | .inl h=>.inl h
 | .inr ⟨o,u,h,c⟩=>.inr ⟨o,u,s _ _ h,c⟩
def vX.gQ {acc:Addr}{ys:List V}(ha:H acc=some (.lst ys)):vX K H p->vX K (upd H acc o) p
 | .inl h=>.inl h
 | .inr ⟨ob,u,h,c⟩=>.inr ⟨ob,u,by rw[aB (fK h ha λz=>nomatch z)];exact h,c⟩
def Ol {pins:aO0}{σ:St}(I:Inv X pins σ H s)(ty:vX X.K H p):s.TypeIs (.ref p) "tuple"/\∀ a,Value.ref p=.ref a->∃ ob,s.heap.get? a=some ob/\ob.dict=none:=by
 rcases ty with ⟨o,hk,hc,b⟩ | ⟨o,u,hk,hc,b⟩
 ·refine⟨⟨o,I.gr p o hk,hc⟩,λa e=>?_⟩
  cases e
  exact⟨o,I.gr _ o hk,b⟩
 ·obtain⟨c,_⟩:=I.aY p _ hk;refine⟨⟨o,c,hc⟩,λa e=>?_⟩
  cases e
  exact⟨o,c,b⟩
def Om (K:Frag)(r:V->List V->Hp->VK->Prop)(to:TE)(t:TA):TE:=λσ H Q=>to σ H λx H1=>(∃ p,x=.ref p/\vX K H1 p)/\t σ H1 λb a=>r x b a Q
variable {r:V->List V->Hp->VK->Prop}
def Mg {to:TE}{t:TA}{σ:St} :Om K r to t σ H Q=to σ H λx H1=>(∃ p,x=.ref p/\vX K H1 p)/\t σ H1 λxs H2=>r x xs H2 Q:=rfl
variable {o:Expr}{es:List Expr}{to:TE}{t:TA}{name:Str}{apos cR:Pos}{id:String}
def Oo (pa:PlainAttrs "tuple")(slot:Slot "tuple" name id)(hty:typeOf (.builtin id)=pure (.type "method_descriptor"))(hm:xR X id r)(ho:PE X o to)(ha:PA X (e::es) t)
  (eD:(attributeBase o name X.env (eval o X.env)=eval o X.env):=by rfl)
  (hfew:((backTo cR<|starEach (e::es) X.env).all (λx=>!x.1)&&(backToKw cR<|keywordEach [] X.env).all (λx=>x.1.isSome)
   &&decide ((e::es).length+([]:List Keyword).length+(if ([]:List Keyword).isEmpty then 0 else 1)<30))=true:=by rfl)
  (eE:(apos.endLine == cR.line)=true:=by rfl) (hs:starEach (e::es) X.env=(false,eval e X.env)::starEach es X.env:=by rfl) (hplain:(backTo cR<|starEach es X.env).any (·.1)=false:=by rfl) :
  PE X (.Call (.Attribute o name apos) (e::es) [] cR) (Om X.K r to t):=by
 intro a s σ H Q I h;refine wpAny_Call_method_late eD hfew eE rfl<|bU (ho a s σ H _ I h) λv u ⟨x,H1,c,g,⟨p,q,ty⟩,j⟩=>?_;subst q
 cases g
 obtain⟨h1,n⟩:=Ol c ty;refine⟨"tuple",id,pa,slot,hty,h1,n,?_⟩;have b:=ha cR a u σ H1 _ c j;rw[hs] at b ⊢;refine Calls.callWith_builtin (by show (false||(backTo cR<|starEach es X.env).any (·.1))=false;rw[hplain]<;>rfl)<|Calls.evalArgs_plain ?_
 exact bU b λd m ⟨i,y,w,f,l⟩=>hm a m σ y (.ref p) i (.ref p) d Q w rfl f l
def Um (pa:PlainAttrs "tuple")(slot:Slot "tuple" name id)(hty:typeOf (.builtin id)=pure (.type "method_descriptor"))(hm:xR X id r)(h:X.K=K)(ho:QE X o to)(ha:QB X (e::es) t)
  (eD:(attributeBase o name X.env (eval o X.env)=eval o X.env):=by rfl) (hlen:decide ((e::es).length<30)=true:=by rfl)
  (eE:(apos.endLine == cR.line)=true:=by rfl):QE X (.Call (.Attribute o name apos) (e::es) [] cR) (Om K r to t):=by
 subst h;exact⟨Oo pa slot hty hm ho.h ha.h.pa eD (by rw[lr ha.h.ns];exact hlen) eE (bb ha.h.he)<|cJ ha.h.xS⟩
def Ri (K:Frag):List V->Hp->VK->Prop:=λa H Q=>∃ p ys,a=[.ref p]/\au K H p ys/\∀ l o,H l=none->o.cls=.type "tuple"->o.dict=none->Q (.ref l) (upd H l<|.iF o<|.tup ys)
def oy (hK:X.K=K):bO X (.type "tuple") (Ri K):=by
 subst hK;intro a s σ H x v Q I r h;obtain⟨p,g,rfl,hq,q⟩:=h;obtain⟨u,rfl,m⟩:=vals1 r
 cases m
 obtain⟨c,j,n,hz⟩:=I.list hq;have f:=j.length;refine call_tuple_list n.isList (λd l=>?_) (by simp only[List.size_toArray]<;>omega)
 have i:Inv X a σ H {s with heap:=d}:=I.kept (t':=s.toks) l;have t:Inv X a σ (upd H d.objs.size<|.iF {cls:=.type "tuple",data:=.seq c.toArray}<|.tup g) {s with heap:=d.push {cls:=.type "tuple",data:=.seq c.toArray}}:=
  i.laid (t':=s.toks) (λb o e=>c8 _ e) (ea _) (show bB X.prog X.w _ _ _ (.iF _<|.tup g) from ⟨hO _ rfl,hz,c,j,IsTup.new _ _⟩)
 exact⟨.ref d.objs.size,_,t,rfl,q _ _ (i.aY.fresh<|ea _) rfl rfl⟩
theorem aN.iF {K:Frag}{H:Hp}{a:Addr}{o:Obj}{xs:List V}(h:H a=some (.iF o<|.tup xs)):aN K H a xs:=.inl<|.inr ⟨o,h⟩
def GF (K:Frag)(H:Hp):List V->List (Bool × List Nat)->Prop
 | [],[]=>True
 | v::a,g::L=>(∃ r p,v=.ref r/\aN K H r [.str (kd g.1),.ref p]/\aN K H p ((aK g.2).map V.int)/\vX K H p)/\GF K H a L
 | _,_=>False
theorem GF.gl:∀ {vs:List V} {L:B0L},GF K H vs L->GL K H vs L
 | [],[],h=>h
 | _::_,_::_,⟨⟨r,p,e,h,a,_⟩,t⟩=>⟨⟨r,p,e,h,a⟩,GF.gl t⟩
 | [],_::_,h=>h.elim
 | _::_,[],h=>h.elim
theorem GF.mono (s:ag H H'):∀ {vs:List V} {L:B0L},GF K H vs L->GF K H' vs L
 | [],[],h=>h
 | _::_,_::_,⟨⟨r,p,e,h,a,b⟩,t⟩=>⟨⟨r,p,e,s.aT h,s.aT a,b.mono s⟩,GF.mono s t⟩
 | [],_::_,h=>h.elim
 | _::_,[],h=>h.elim
theorem GF.gQ {acc:Addr}{ys:List V}{o:HO}(ha:H acc=some (.lst ys)):∀ {vs:List V} {L:B0L},GF K H vs L->GF K (upd H acc o) vs L
 | [],[],h=>h
 | _::_,_::_,⟨⟨r,p,e,h,a,b⟩,t⟩=>⟨⟨r,p,e,h.gQ ha,a.gQ ha,b.gQ ha⟩,GF.gQ ha t⟩
 | [],_::_,h=>h.elim
 | _::_,[],h=>h.elim
theorem GF.append:∀ {vs ws:List V} {L M:B0L},GF K H vs L->GF K H ws M->GF K H (vs++ws) (L++M)
 | [],_,[],_,_,h=>h
 | _::_,_,_::_,_,⟨a,t⟩,h=>⟨a,GF.append t h⟩
 | [],_,_::_,_,h,_=>h.elim
 | _::_,_,[],_,h,_=>h.elim
theorem GF.length {vs:List V}{L:B0L}(h:GF K H vs L):vs.length=L.length:=h.gl.length
theorem GF.get:∀ {vs:List V} {L:B0L} {i:Nat} {v:V},GF K H vs L->vs[i]?=some v->∃ g r p,L[i]?=some g/\v=.ref r/\aN K H r [.str (kd g.1),.ref p]/\aN K H p ((aK g.2).map V.int)/\vX K H p
 | [],[],i,v,_,e=>by simp at e
 | _::_,g::_,0,v,⟨⟨r,p,e,h,d⟩,_⟩,c=>by simp at c;subst c;exact⟨g,r,p,rfl,e,h,d⟩
 | _::_,_::_,i+1,v,⟨_,t⟩,c=>by
  obtain⟨g,r,p,a,b⟩:=GF.get (i:=i) (v:=v) t (by simpa using c)
  exact⟨g,r,p,by simpa using a,b⟩
 | [],_::_,_,_,h,_=>h.elim
 | _::_,[],_,_,h,_=>h.elim
def Oq {i0 j0:Nat}{tb:TS}{D:Ends}{σ:St}(I:Nat->St->Hp->Prop)(h:aN K H a us)(hL:GF K H us L)(h0:I 0 σ H)(hl:∀ i σ H,I i σ H->aN K H a us/\GF K H us L)
  (step:∀ (i:Nat) g p σ H,L[i]?=some g->aN K H p ((aK g.2).map V.int)->vX K H p->I i σ H->tb {D with nx:=I<|i+1,ct:=I<|i+1,bk:=D.nx} ((σ.set i0<|some<|.str<|kd g.1).set j0<|some<|.ref p) H)
  (fin:∀ σ H,I L.length σ H->D.nx σ H):∃ b,V.ref a=.ref b/\(∃ xs,aN K H b xs)/\p9 (pW K 2<|dJ (bN i0)<|dJ (bN j0) pV) tb D σ (DH K b) H:=by
 refine⟨a,rfl,⟨_,h⟩,Aa (xs:=us) I h0 (λi σ H _ p=>(hl i σ H p).1) (λi x σ H e p=>?_) λσ H p=>fin σ H (by rw[hL.length] at p;exact p)⟩
 obtain⟨g,r,d,c,rfl,j,f,l⟩:=(hl i σ H p).2.get e;exact⟨r,_,rfl,j,rfl,_,_,rfl,_,_,rfl,rfl,step i g d σ H c f l p⟩
def Rj (K:Frag):Sp:=λa H Q _=>∃ (c g h:Addr) (cs hs:List Int) (ws:List Nat) (us:List V) (L:B0L) (i:Nat),a=[.ref c,.ref g,.ref h,.int i]/\aN K H c (cs.map V.int)/\aN K H g us/\GF K H us L/\aN K H h (hs.map V.int)/\cA cs/\HN cs hs cs.length/\Cr cs ws L/\i<cs.length/\∀ (H':Hp),ag H H'->Q (.int<|vV cs L hs i) H'
def FD:QE X (.Dict [] [] pos) ym:=⟨Ew⟩
variable {i:Expr}{td ty:TE}
def Rk (hu:X.A.units+1<cLine)(hi:QE X i ty)(ho:QE X o td)(hm:behindInMarks .In o=false):QE X (.Compare i [.In] [o] pos) (Jq ty td):=⟨M0 (Et hu hi.h ho.h) hm⟩
variable {value:Expr}{pos':Pos}{tv:TE}
def FE (hu:X.A.units+1<cLine)(hv:QE X value tv)(ho:QE X o td)(hi:QE X i ty)(hs:swapsWith value (some<|.Subscript o i pos') pos.line X.env=pure false:=by rfl):QS X (.Assign [.Subscript o i pos'] value pos) (Es td ty tv):=⟨Js hu ho.h hi.h hv.h hs⟩
variable {σ:St}
def FF:ym σ H Q=∀ p,H p=none->Q (.ref p) (upd H p<|.dK []):=rfl
def Mh:Jq ty td σ H Q=ty σ H λy H1=>td σ H1 λx H2=>∃ a o,x=.ref a/\ik H2 a y o/\Q (.bl o.isSome) H2:=rfl
variable {D:Ends}
def FG:Es td ty tv D σ H=tv σ H λv H1=>td σ H1 λx H2=>ty σ H2 λy H3=>∃ a H4,x=.ref a/\pZ H3 a y v H4/\D.nx σ H4:=rfl
def u1 (hu:X.A.units+64<cLine):X.A.units+1<cLine:=by omega
def FH (H:Hp)(d:Addr)(ns:List Int):Prop:=∃ kvs:List (Key × V),H d=some (.dK kvs)/\kvs.length<=ns.length/\∀ k:Int,(cP kvs<|Sum.inl k).isSome=decide (k∈ns)
variable {d:Addr}
def FH.nil (h:H d=some (.dK [])):FH H d []:=⟨[],h,ea _,λk=>by rw[Eo];rfl⟩
def FH.same {ns:List Int}(s:ag H H'):FH H d ns->FH H' d ns
 | ⟨a,h,l,v⟩=>⟨a,s _ _ h,l,v⟩
def Ot {ns:List Int}{k:Int}(h:FH H d ns)(q:Q (.bl<|decide<|k∈ns) H):∃ a o,V.ref d=.ref a/\ik H a (.int k) o/\Q (.bl o.isSome) H:=by
 obtain⟨b,e,_,v⟩:=h;exact⟨d,_,rfl,ik.k (k:=Sum.inl k) e,by rw[v];exact q⟩
def FI (kvs:List (Key × V))(k:Key)(y:V):(putK kvs k y).length<=kvs.length+1:=by
 unfold putK
 split
 ·rw[b5];omega
 ·rw[ed];exact ea _
def Kd {ns:List Int}{k:Int}{y:V}{Q:Hp->Prop}(h:FH H d ns)(hl:ns.length<sizeLine)(q:∀ o,FH (upd H d o) d (ns++[k])->Q (upd H d o)):∃ a H4,V.ref d=.ref a/\pZ H a (.int k) y H4/\Q H4:=by
 obtain⟨b,e,l,v⟩:=h;refine⟨d,_,rfl,pZ.k (k:=Sum.inl k) e<|M2 l hl,q _ ⟨_,af,?_,λj=>?_⟩⟩
 ·rw[ed];exact fz (FI _ _ _)<|succ_le_succ l
 ·rw[Ep]
  by_cases c:j=k
  ·subst c;rw[if_pos rfl]
   simp
  ·rw[if_neg (λz=>c<|Sum.inl.inj z),v]
   congr 1
   simp[c]
def oz (l:List Nat):Bool:=(List.range<|l.length - 1).all λk=>decide<|l.getD k 0<l.getD (k+1) 0
def vY (h:oz l=true):l.Nodup:=by
 have b:∀ k,k+1<l.length->l.getD k 0<l.getD (k+1) 0:=λk hk=>by
  have:=ih.mp h k (kf.mpr (by omega))
  simpa using this
 have lt:∀ d i,i+d+1<l.length->l.getD i 0<l.getD (i+d+1) 0:=by
  intro d
  induction d with
  | zero=>intro i a;exact b i a
  | succ d f=>intro i a;exact Vf (f i (by omega)) (b (i+d+1) (by omega))
 rw[KF,List.pairwise_iff_getElem];intro i j a hj g e
 have:=lt (j - i - 1) i (by omega)
 rw[show i+(j - i - 1)+1=j by omega,b3,b3,b4 a,b4 hj] at this
 exact I1 _ (by have c:l[i]<l[j]:=this;rw[e] at c;exact c)
def nats (ns:List Int):List Nat:=ns.map toNat
def Il (n:Nat)(ns:List Int):Bool:=ns.all λi=>decide (0<=i)&&decide (i<(n:Int))
def Ke {n:Nat}{ns:List Int}(h:Il n ns=true):ns=aK (nats ns)/\∀ x∈nats ns,x<n:=by
 have hb:∀ i∈ns,0<=i/\i<(n:Int):=λi a=>by
  have:=ih.mp h i a
  simpa using this
 refine⟨?_,λx hx=>?_⟩
 ·unfold aK nats;rw[kb]
  apply ext_getElem
  ·simp
  ·intro i h1 b
   have:=hb _<|pP h1
   simp
   omega
 ·obtain⟨i,a,rfl⟩:=j9.mp hx
  have:=hb i a
  omega
def Ct (cs:List Int)(ws:List Nat)(b:Bool)(l:List Nat):Bool:=if b then jw ws l&&l.all (λx=>decide<|cs.getD x 0=2) else oz l&&dh ws l
def DP (cs:List Int)(ws:List Nat)(g:Bool × List Int):Bool:=decide (1<=g.2.length)&&(Il cs.length g.2&&Ct cs ws g.1 (nats g.2))
def DR (cs:List Int)(ws:List Nat):List Int->Nat->List (Bool × List Int)->Option Nat
 | _,_,[]=>none
 | gone,k,g::r=>if (DP cs ws g&&!(g.2.any λi=>decide<|i∈gone))=true then DR cs ws (gone++g.2) (k+1) r else some k
def oV:Option Nat->V
 | none=>.bx
 | some k=>.int (k:Int)
def GI (K:Frag)(H:Hp):List V->List (Bool × List Int)->Prop
 | [],[]=>True
 | v::a,g::L=>(∃ r p,v=.ref r/\aN K H r [.str (kd g.1),.ref p]/\aN K H p (g.2.map V.int))/\GI K H a L
 | _,_=>False
theorem GI.length:∀ {vs:List V} {L:List (Bool × List Int)},GI K H vs L->vs.length=L.length
 | [],[],_=>rfl
 | _::_,_::_,⟨_,t⟩=>by rw[ls,ls,GI.length t]
 | [],_::_,h=>h.elim
 | _::_,[],h=>h.elim
theorem GI.get:∀ {vs:List V} {L:List (Bool × List Int)} {i:Nat} {v:V},GI K H vs L->vs[i]?=some v->∃ g r p,L[i]?=some g/\v=.ref r/\aN K H r [.str (kd g.1),.ref p]/\aN K H p (g.2.map V.int)
 | [],[],i,v,_,e=>by simp at e
 | _::_,g::_,0,v,⟨⟨r,p,e,h,d⟩,_⟩,c=>by simp at c;subst c;exact⟨g,r,p,rfl,e,h,d⟩
 | _::_,_::_,i+1,v,⟨_,t⟩,c=>by
  obtain⟨g,r,p,a,b⟩:=GI.get (i:=i) (v:=v) t (by simpa using c)
  exact⟨g,r,p,by simpa using a,b⟩
 | [],_::_,_,_,h,_=>h.elim
 | _::_,[],_,_,h,_=>h.elim
def AS (K:Frag):Sp:=λa H Q _=>∃ (p:Addr) (l:List Nat),a=[.ref p]/\aN K H p ((aK l).map V.int)/\1<=l.length/\l.length<=90/\∀ H',ag H H'->Q (.bl<|oz l) H'
def Mi (K:Frag):Sp:=λa H Q _=>∃ (c w p:Addr) (cs:List Int) (ws:List Nat) (g:Bool × List Int),a=[.ref c,.ref w,.str<|kd g.1,.ref p]/\aN K H c (cs.map V.int)/\aN K H w ((aK ws).map V.int)/\aN K H p (g.2.map V.int)/\ws.length=cs.length/\cs.length<=8/\g.2.length<=90/\∀ H',ag H H'->Q (.bl<|DP cs ws g) H'
def vZ (K:Frag):Sp:=λa H Q _=>∃ (c w g:Addr) (cs:List Int) (ws:List Nat) (us:List V) (L:List (Bool × List Int)),a=[.ref c,.ref w,.ref g]/\aN K H c (cs.map V.int)/\aN K H w ((aK ws).map V.int)/\aN K H g us/\GI K H us L/\ws.length=cs.length/\cs.length<=8/\(∀ g∈L,g.2.length<=30)/\L.length<=30/\∀ H',ag H H'->Q (oV<|DR cs ws [] 0 L) H'
def FJ (l:List Nat):nats (aK l)=l:=by
 unfold nats aK;rw[kb]
 conv=>rhs;rw[<-List.map_id l]
 apply List.map_congr_left
 intro x _;exact FM x
def Uo (a h:Nat):Nat->Nat
 | 0=>0
 | n+1=>Uo a h n ^^^ (if h.testBit n=true/\n<a then n+1 else 0)
def act (m:Nat):Nat:=2 ^ (Nat.log2<|m+1) - 1
def ch (m h:Nat):Nat:=Uo (act m) h 64
def my (L:List Nat):(List.range L.length).map (λk=>L.getD k 0)=L:=by
 apply UF
 intro k
 by_cases hk:k<L.length
 ·rw[et,LI hk,b4 hk];show some (L.getD k 0)=_;rw[b3,b4 hk];rfl
 ·rw[ot (by rw[b5,pS];omega),ot (by omega)]
def AU {σ:St}{R:It->Hp->Prop}:zZ t σ H R=t σ H λvs H1=>∃ i j:Int,vs=[.int i,.int j]/\(-(2 ^ 62)<=i/\i<2 ^ 62/\-(2 ^ 62)<=j/\j<2 ^ 62)/\R (xW i (j - i).toNat) H1:=rfl
def Mj {i:Int}{lo n:Nat}{g:TG}{tb:TS}{σ:St}(I:Nat->St->Hp->Prop)(ei:i=(lo:Int))(ej:j=((lo+n:Nat):Int))(hn:lo+n<=1000000)(h0:I 0 σ H)
  (step:∀ k σ H,k<n->I k σ H->g (.int ((lo+k:Nat):Int)) σ H λσ2 H2=>tb {D with nx:=I<|k+1,ct:=I<|k+1,bk:=D.nx} σ2 H2)
  (fin:∀ σ H,I n σ H->D.nx σ H):∃ i' j':Int,[V.int i,V.int j]=[.int i',.int j']/\(-(2 ^ 62)<=i'/\i' < 2 ^ 62/\-(2 ^ 62)<=j'/\j' < 2 ^ 62)/\p9 g tb D σ (xW i' (j' - i').toNat) H:=by
 subst ei ej;refine⟨_,_,rfl,⟨by omega,by omega,by omega,by omega⟩,?_⟩
 rw[show (((lo+n:Nat):Int) - (lo:Int)).toNat=n by omega]
 refine qQ (n:=n) I h0 (λk σ H hk p=>?_) λσ H p=>fin σ H p;rw[show (lo:Int)+(k:Nat)=((lo+k:Nat):Int) by omega]
 exact step k σ H hk p
variable {z:Str}
def rH {m:Made}{pins:aO0}{σ:St}(I:Inv X pins σ H s)(hm:(∃ t,m=.val (.str z t))∨m=.str z)(hz:z.length<=sizeLine)(q:Q (.str z) H):m.post (EP X pins σ Q) s:=by
 rcases hm with ⟨t,rfl⟩ | rfl
 ·exact⟨.str z,H,I,⟨_,rfl⟩,q⟩
 ·exact⟨hz,.str z,H,I.tok _,⟨_,rfl⟩,q⟩
def TC:V->Option Int->Option Int->Hp->VK->Prop:=λx l u H Q=>∃ z,x=.str z/\(StrLaws.sliceText z l u).length<=sizeLine/\Q (.str<|StrLaws.sliceText z l u) H
def fV:Ny X TC:=by
 intro d s σ H x v y A a b r Q I g j m n h;obtain⟨z,rfl,hz,q⟩:=h;obtain⟨t,rfl⟩:=g;refine⟨"str",_,slot_str_getitem.lookup,typeIs_str s z t,?_⟩;have part:∀ {w:Value} {o:Option Int},IsPart w o->∃ p:Option (Int × Tok),w=partValue p/\p.map (·.1)=o:=λ{w o} h=>by
  cases h with
  | none=>exact⟨none,rfl,rfl⟩
  | int=>exact⟨some (_,_),rfl,rfl⟩
 obtain⟨l,rfl,i⟩:=part m;obtain⟨u,rfl,hu⟩:=part n;refine wpAny_getItem_str_slice (st:=none) j rfl ?_;refine rH I ?_ hz q;have e:sliceMade z t l u none=if ((Builtin.Str.strSliceIndices a b 1 z.length).length == z.length)=true then Made.val (Value.str z t) else Made.str ⟨((Builtin.Str.strSliceIndices a b 1 z.length).filterMap λx=>z.cps[x]?).toArray⟩:=by
  unfold sliceMade slicePicked;rw[i,hu]
  rfl
 have f:StrLaws.sliceText z a b=if ((Builtin.Str.strSliceIndices a b 1 z.length).length == z.length)=true then z else ⟨((Builtin.Str.strSliceIndices a b 1 z.length).filterMap λx=>z.cps[x]?).toArray⟩:=by
  unfold StrLaws.sliceText
  rfl
 rw[e,f]
 by_cases c:((Builtin.Str.strSliceIndices a b 1 z.length).length == z.length)=true
 ·rw[if_pos c,if_pos c];exact .inl ⟨t,rfl⟩
 ·rw[if_neg c,if_neg c];exact .inr rfl
def Px (z:Str):It:=⟨λi _=>i<z.cps.size,λi H x a=>a=H/\∃ c,z.cps[i]?=some c/\x=.str ⟨#[c]⟩,λi _=>z.cps.size<=i⟩
def Ou (te:TE):TI:=λσ H R=>te σ H λx H1=>∃ z,x=.str z/\R (Px z) H1
def rJ {P:Program}(hA:A.handled=none)(I:Addr)(x:Str)(t:Tok):Walks P w A I [I] [I] x.cps.size (SignAt x) λi h=>h.IsStrIter I (strIterType x) x t i:=by
 unfold strIterType
 split
 ·exact Walks.strAscii hA I x t
 ·exact Walks.strWide hA I x t
variable {x:Str}{Q:Value->Shared->Prop}{t:Tok}
def FK {P:Program}{it:Addr}{i:Nat}(st:s.heap.IsStrIter it (strIterType x) x t i)(h:Q (.ref it) s):wpAny (model P w) A (pyIter<|.ref it) Q E s:=by
 unfold strIterType at st
 split at st
 ·exact wpAny_pyIter_striter_ascii st h
 ·exact wpAny_pyIter_striter_wide st h
def FN {P:Program}{tg:Expr}(z:Str)(t:Tok)(it:Addr):Turn P w K tg (Px z) [it] it (λi h=>i<=z.cps.size/\h.IsStrIter it (strIterType z) z t i) where
 mem:=by simp
 obj:=λi h f b hb=>by
  have e:b=it:=by simpa using hb
  subst e;obtain⟨_,o,e,c,d⟩:=f;exact⟨o,e,λv z=>by rw[d] at z;cases z⟩
 keep:=λi h l f k=>by
  obtain⟨a,o,e,c,d⟩:=f;exact⟨a,o,k it (by simp) o e,c,d⟩
 item:=by
  intro X F hw D hc i g s σ H E I m f n;subst F hw D;obtain⟨y,x,L,q,r,B⟩:=m it (by simp)
  refine(rJ (I.ok.hd hc) it z t).item i s _ E n f.2 λv l j M G p=>?_;obtain⟨c,u,C,rfl⟩:=M;have J:Inv X g σ H {s with heap:=l,toks:=j}:=I.turned (t':=j) (λb o hb e=>p b o (by simpa using hb) e) y x q r B
  have go:∀ {Q:Unit->Shared->Prop},Q () {s with heap:=l,toks:=j}->wpAny (model X.prog X.w) X.A (letOwnedTupleGo tg (.ref it)<|.str ⟨#[c]⟩ u) Q E {s with heap:=l,toks:=j}:=λhq=>by
   unfold letOwnedTupleGo
   cases tg<;>exact ey hq
  exact⟨_,rfl,go ⟨.str ⟨#[c]⟩,H,J,⟨_,rfl⟩,⟨rfl,c,C,rfl⟩,⟨n,G⟩,λb hb=>(m b hb).1⟩⟩
 done:=by
  intro X F hw D hc i g s σ H E I m f n;subst F hw D;obtain⟨y,x,L,q,r,B⟩:=m it (by simp)
  have e:i=z.cps.size:=Nat.le_antisymm f.1 n;subst e;exact(rJ (I.ok.hd hc) it z t).done s _ E f.2 λl j p=>⟨rfl,I.turned (t':=j) (λb o hb e=>p b o (by simpa using hb) e) y x q r B⟩
 self:=λA i s Q E f h=>FK f.2 h
variable {tg:Expr}
def Kf (he:PE X e te):PI X tg e (Ou te):=by
 intro a s σ H R I h;refine bU (he a s σ H _ I h) λv c ⟨x,H1,d,f,g⟩=>?_;obtain⟨z,rfl,q⟩:=g;obtain⟨t,rfl⟩:=f;refine wpAny_pyIter_strU ?_;refine⟨c.heap.objs.size,[c.heap.objs.size],_,_,H1,rfl,d.kept (t':=c.toks) λb o e=>c8 _ e,FN z t _,⟨zero_le _,_,hO _ rfl,rfl,rfl⟩,λb hb=>?_,q⟩;have e:b=c.heap.objs.size:=by simpa using hb
 subst e;exact d.xV (ea _)<|d.aY.fresh<|ea _
def AV (he:QE X e te)(hK:X.K=K):QI X tg e (Ou te):=⟨Kf he.h⟩
def FO {σ:St}{R:It->Hp->Prop}:Ou te σ H R=te σ H λx H1=>∃ z,x=.str z/\R (Px z) H1:=rfl
def v3 {H1:Hp}:B7 (Px z) H1 z.cps.size λi=>.str ⟨#[(z.cps[i]?).getD 0]⟩ where
 go:=λi H _ a=>a
 stop:=λi H _ a=>a
 BJ:=λi H x b _ _ y=>by
  obtain⟨rfl,c,e,rfl⟩:=y;exact⟨rfl,by rw[e];rfl⟩
def FP:V->List V->Hp->VK->Prop:=λx a H Q=>∃ z y,x=.str z/\a=[.str y]/\y.length≠0/\z.length+2<=sizeLine/\(Txt.split z y).length<=sizeLine/\∀ l,H l=none->Q (.ref l) (upd H l<|.lst<|(Txt.split z y).map V.str)
theorem rK:∀ (k:Nat) (l:List Str),Vals (l.map V.str)<|strsFrom k l
 | _,[]=>.nil
 | k,x::r=>.cons ⟨_,rfl⟩<|rK _ r
def bK:xR X "str.split" FP:=by
 intro d s σ H x r v p Q I m n h;obtain⟨z,y,rfl,rfl,hy,hz,l,q⟩:=h;obtain⟨t,rfl⟩:=m;obtain⟨u,rfl,t',rfl⟩:=vals1 n;have f:(y.length == 0)=false:=by simpa using hy
 have one:Txt.split z y=[z]->EP X d σ Q (.ref s.heap.objs.size) {s with heap:=s.heap.push {cls:=.type "list",data:=.seq #[.str z t]}}:=λe=>by
  rw[e] at q;exact⟨.ref _,_,I.laid (t':=s.toks) (λb o j=>c8 _ j) (ea _) (show bB X.prog X.w _ _ _ (.lst [V.str z]) from ⟨by show 1<=sizeLine;decide,[.str z t],0,.cons (show RelV (.str z) _ from ⟨t,rfl⟩) .nil,hO _ rfl⟩),rfl,q _<|I.aY.fresh<|ea _⟩
 by_cases c:(decide (z.length<y.length)||decide (Builtin.Str.strKind z<Builtin.Str.strKind y))=true
 ·refine UV C6 (typeIs_str s z t) F.entry_str_split (F.args_str_split_2 _ _) (meets_str_split_cannot_occur z y t t' c) ?_;exact one (by unfold Txt.split;rw[if_pos c])
 ·have a:(decide (z.length<y.length)||decide (Builtin.Str.strKind z<Builtin.Str.strKind y))=false:=by simpa using c
  by_cases g:(Builtin.Str.occurrences z y 0 z.length<|z.length+1).isEmpty=true
  ·refine UV C6 (typeIs_str s z t) F.entry_str_split (F.args_str_split_2 _ _) (meets_str_split_not_found z y t t' a f g) ?_;exact one (by unfold Txt.split;rw[if_neg c,if_pos g])
  ·have i:(Builtin.Str.occurrences z y 0 z.length<|z.length+1).isEmpty=false:=by simpa using g
   have e:Txt.split z y=Builtin.Str.partsBetween z (Builtin.Str.occurrences z y 0 z.length<|z.length+1) y.length:=by unfold Txt.split;rw[if_neg c,if_neg g]
   refine UV C6 (typeIs_str s z t) F.entry_str_split (F.args_str_split_2 _ _) (meets_str_split_sep z y t t' a f i (by omega) (by rw[<-e];exact l)) ?_
   rw[<-e];exact⟨.ref _,_,I.laid (λb o j=>c8 _ j) (ea _) (show bB X.prog X.w _ _ _ (.lst _) from ⟨by rw[b5];exact l,_,0,rK _ _,hO _ rfl⟩),rfl,q _<|I.aY.fresh<|ea _⟩
def rJoin (K:Frag):V->List V->Hp->VK->Prop:=λx a H Q=>∃ y p l,x=.str y/\a=[.ref p]/\au K H p (l.map V.str)/\(l.map λz=>z.length+y.length).sum<=sizeLine/\(y.join l).length<=sizeLine/\Q (.str<|y.join l) H
theorem lB:∀ {l:List Str} {us:List Value},Vals (l.map V.str) us->∃ m:List (Str × Tok),us=strValues m/\m.map (·.1)=l
 | [],_,.nil=>⟨[],rfl,rfl⟩
 | x::r,_,.cons ⟨t,rfl⟩ h=>by
  obtain⟨m,rfl,e⟩:=lB h;exact⟨(x,t)::m,rfl,by rw[rr,e]⟩
theorem rL (k:Nat):∀ (l:List Str) (a:Nat),l.foldl (λx1 x2=>x1+x2.length+k) a=a+(l.map λz=>z.length+k).sum
 | [],a=>by simp
 | x::r,a=>by rw[List.foldl_cons,rL k r,rr,U7];omega
def bD (hK:X.K=K):xR X "str.join" (rJoin K):=by
 subst hK;intro e s σ H x B v A Q I j w h;obtain⟨y,p,l,rfl,rfl,f,hz,hj,q⟩:=h;obtain⟨t,rfl⟩:=j;obtain⟨u,rfl,g⟩:=vals1 w
 cases g
 obtain⟨i,r,o,n⟩:=I.list f;obtain⟨m,rfl,d⟩:=lB r;refine UV Da (typeIs_str s y t) F.entry_str_join (F.args_str_join_2 _ _) (meets_str_join_list y t p m ?_) ⟨o.isList,?_⟩
 ·rw[d,<-Array.foldl_toList,rL,Nat.zero_add,show l.toArray.toList=l from rfl]
  unfold Builtin.Str.tooLong;exact dy (by omega)
 ·refine rH I (z:=y.join l) ?_ hj q;unfold joinMade
  match m,d with
  | [],d=>exact .inr (by
    show Made.str (Builtin.Str.glued y [])=_;rw[StrLaws.glued_eq_join,<-d];rfl)
  | [a],d=>exact .inl ⟨a.2,by rw[<-d];rfl⟩
  | a::b::c,d=>exact .inr (by
    show Made.str (Builtin.Str.glued y ((a::b::c).map (·.1)))=_;rw[StrLaws.glued_eq_join,<-d])
def Rl:List V->Hp->VK->Prop:=λa H Q=>∃ x n,a=[.str x]/\intText? x=some n/\x.length<=640/\Q (.int n) H
def tR:bO X (.type "int") Rl:=by
 intro a s σ H c b Q I r h;obtain⟨x,n,rfl,hx,hz,q⟩:=h;obtain⟨u,rfl,t,rfl⟩:=vals1 r;exact PySem.W.KIN.call_text hx hz ⟨.int n,H,I.tok _,⟨_,rfl⟩,q⟩
def qh (val:Nat->Str):Nat->Nat->(Str->Bool)->Nat->(Str->Bool) × Nat
 | 0,_,F,m=>(F,m)
 | k+1,i,F,m=>qh val k (i+1) (λx=>F x||decide (x=val i))<|if F (val i)=true then m else m+1
variable {R:Result->Shared->Prop}{I:Addr}{fp wr:List Addr}{G:Array GenState->Array GenState->Prop}{n:Nat}{P:Nat->Value->Prop}{St:Nat->Shared->Prop}
def tT (Wk:WalksS prog w A.in1 I fp wr G n P St)(S:Addr)(hS:S∉fp)(val:Nat->Str)(hv:∀ i v,P i v->∃ t,v=.str (val i) t)(hn:n+1<scanBound) :
  ∀ (k i:Nat) (s:Shared) (Fm:Str->Bool) (m:Nat),n - i=k->i<=n->m<=i->St i s->s.heap.SetOf (PySem.strKind prog w) S Fm m->
   (∀ s',Moved (S::wr) G s s'->s'.heap.SetOf (PySem.strKind prog w) S (qh val k i Fm m).1 (qh val k i Fm m).2->R (.ok<|.ret .none) s')->
   codeAny (model prog w) A (.builtin "set.update.loop" ⟨[.ref S,.ref I],[]⟩) R s:=by
 intro k
 induction k with
 | zero=>
  intro i s Fm m hk L hm j l h;have e:i=n:=by omega
  subst e;refine codeAny_builtin F.entry_set_update_loop ?_;rw[Around.under_plainId F.plain_set_update_loop _];show wpAny _ A.in1 (pyNext (.ref I) >>= _) _ _ s;refine b7<|Wk.done s _ _ j λs' K=>?_;refine ey ?_;refine h s' (K.mono λb hb=>fA _ hb) ?_;obtain⟨o,u,q,t,y,r⟩:=l;exact⟨o,u,q,t,K.heap S o (λz=>hS<|Wk.sub S z) y,r⟩
 | succ k M=>
  intro i s Fm m hk L hm j l h;refine codeAny_builtin F.entry_set_update_loop ?_;rw[Around.under_plainId F.plain_set_update_loop _];show wpAny _ A.in1 (pyNext (.ref I) >>= _) _ _ s;refine b7 (Wk.item i s _ _ (by omega) j λv a N C d=>?_)
  obtain⟨t,rfl⟩:=hv i v N;have E:a.heap.SetOf (PySem.strKind prog w) S Fm m:=by
   obtain⟨o,u,q,t,y,r⟩:=l;exact⟨o,u,q,t,d.heap S o (λz=>hS<|Wk.sub S z) y,r⟩
  have c:(PySem.strKind prog w).is (val i) (.str (val i) t)=true:=by
   show Value.isStrOf (val i) (.str (val i) t)=true
   simp[Value.isStrOf]
  show wpAny _ A.in1 (holding [.str (val i) t] (setAdd S<|.str (val i) t) >>= _) _ _ a;refine b7 ?_;show wpAny _ A.in1 (setAdd S<|.str (val i) t) _ _ a;unfold setAdd;show wpAny _ A.in1 (pyHash (.str (val i) t) >>= λx=>setAddHashed S (.str (val i) t) x) _ _ a;refine b7<|(PySem.strKind prog w).pyHash c ?_;refine wpAny_setAddHashed_of (knd:=PySem.strKind prog w) (s:={a with toks:=a.toks+1}) c rfl E (by omega) λJ H f=>?_
  refine ey ⟨plainId_quiet F.plain_set_update_loop _,?_⟩;have g:Moved (S::wr) G a {a with heap:=J,toks:=a.toks+1}:=⟨λb o hb e=>(H.2 b (λz=>hb (by rw[z];exact eR))).trans e,Wk.grefl _,rfl,rfl,le_succ _⟩
  have p:=Wk.frame (i+1) a J (a.toks+1) C (le_succ _) λb hb o e=>(H.2 b (λz=>hS (by rw[<-z];exact hb))).trans e
  refine M (i+1) _ _ _ (by omega) (by omega) (by split<;>omega) p f λs' B D=>?_
  exact h s' (Moved.trans Wk.gtrans (Moved.trans Wk.gtrans (d.mono λb hb=>fA _ hb) g) B) D
def qi (val:Nat->Str)(hA:A.handled=none)(hp:s.heap.IsList p vs)(vl:∀ (i:Nat) (v:Value),vs[i]?=some v->∃ t,v=.str (val i) t)(hb:vs.size+1<scanBound)
  (h:∀ (h1:Heap) (k:Nat),h1.SetOf (PySem.strKind prog w) s.heap.objs.size (qh val vs.size 0 (λ_=>false) 0).1 (qh val vs.size 0 (λ_=>false) 0).2->(∀ b o,b<s.heap.objs.size->s.heap.get? b=some o->h1.get? b=some o)->Q (.ref s.heap.objs.size) {s with heap:=h1,toks:=k}) :
  wpAny (model prog w) A (call (.type "set") [.ref p]) Q E s:=by
 obtain⟨c0,Y,m0⟩:=C4.mro;have Z:=C4.made;have m2:=C4.sub;have m3:=C4.notType;have m4:=C4.canCreate;have m5:=F.typeCall_set_1<|.ref p;refine wpAny_call (codeAny_of_tree (show wpAny _ _ (callAny (.type "set") _) _ _ _ from ey ⟨Code.quiet_builtin _ Dk0,codeAny_builtin F.entry_type_call ?_⟩))
 rw[Around.under_plain (weight_type_call_type "set" [.ref p] []) rfl]
 repeat (any_goals (first | assumption | wp_step))
 refine On (code_set_new_1 (.ref p) (E:=E) (Q₁:=λo G=>∃ a:Bool,o=.ref s.heap.objs.size/\G={s with heap:=s.heap.push (ib a)}) λa=>⟨a,rfl,rfl⟩) λr G n=>?_
 cases r with
 | error e=>exact n
 | ok X=>
  cases X with
  | ret obj=>
   obtain⟨a,rfl,rfl⟩:=n;have H:(s.heap.push<|ib a).get? s.heap.objs.size=some (ib a):=hO _ rfl;have W:Shared.TypeIs {s with heap:=s.heap.push (ib a)} (.ref s.heap.objs.size) "set":=⟨_,H,rfl⟩;have k3:=C4.init.lookup;have k4:=C4.init.bind (.ref s.heap.objs.size)
   repeat (any_goals (first | assumption | wp_step))
   refine On (codeAny_call_builtin (R:=wants (λr q=>r=.none/\∃ h1 k,q={s with heap:=h1,toks:=k}/\h1.SetOf (PySem.strKind prog w) s.heap.objs.size (qh val vs.size 0 (λ_=>false) 0).1 (qh val vs.size 0 (λ_=>false) 0).2/\
     (∀ b o,b<s.heap.objs.size->s.heap.get? b=some o->h1.get? b=some o)) E) C4.init.plain F.entry_set_init<|check_set_init_1 W ?_) λI q d=>?_
   ·obtain⟨K,C,z,L,B⟩:=hp;obtain⟨u1,u2,u3,u4⟩:=K
    simp only at z B
    subst z;subst B;have T:=c8 (ib a) C;have z1:=F.sub_list_set;have z2:=F.sub_list_frozenset;have z3:(Value.type "list" == Value.type "dict")=false:=by decide
    have u:(s.heap.push<|ib a).IsList p vs:=⟨_,T,rfl,L,rfl⟩;unfold Builtin.«set.__init__» noKeywords Builtin.Frozenset.updateFrom;generalize j:pyIter=PI
    wp_walk
    subst j;refine SZ u<|b7<|wpAny_runValue ?_;have D:p<s.heap.objs.size:=lt_size C;have P:A.in1.in1.in1.handled=none:=by simp[hA]
    have g:(s.heap.push<|ib a).objs.size=s.heap.objs.size+1:=C5 ..;have S:p≠(s.heap.push<|ib a).objs.size:=by rw[g];exact j6<|Vp D
    have U:s.heap.objs.size∉[(s.heap.push<|ib a).objs.size,p]:=by
     rw[g];simp only[mem_cons,not_mem_nil,or_false,not_or];exact⟨j6<|Vo _,Ve D⟩
    refine tT ((Walks.list P _ p S vs).toS) s.heap.objs.size U val vl hb (vs.size - 0) 0 _ (λ_=>false) 0 (by omega) (zero_le _) (ea _) ⟨⟨_,hO _ rfl,rfl,rfl⟩,(u.push _)⟩ ?x ?y
    case x=>
     exact SetOf_congr ((setObjOf_fresh (knd:=PySem.strKind prog w) a).setOf (c8 _ H) (by unfold scanBound;omega)) (λ_=>rfl) rfl
    case y=>
     intro O hm c;obtain⟨h1,J,M,l,f⟩:=O;obtain rfl:J=s.gens:=hm.gens;obtain rfl:M=s.drawn:=hm.drawn;obtain rfl:f=s.os:=hm.os;show wpAny _ _ _ _ _ _;refine ey<|show wpAny _ _ (ret Value.none) _ _ _ from ey ⟨rfl,h1,l,rfl,c,λb o hb e=>?_⟩
     refine hm.heap b o ?_ (c8 _<|c8 _ e);rw[g];simp only[mem_cons,not_mem_nil,or_false,not_or];exact⟨j6 hb,j6<|Vp hb⟩
   ·cases I with
    | error e=>exact d
    | ok N=>
     cases N with
     | ret r=>
      obtain⟨rfl,h1,k,rfl,c,m⟩:=d
      repeat (any_goals (first | assumption | wp_step))
      exact h _ _ c m
     | _=>exact d.elim
  | _=>exact n.elim
def v5 (P:Program)(w:World)(a:Addr)(n:Nat):HO:=.ext λh=>∃ Fm,h.SetOf (PySem.strKind P w) a Fm n
def tU (l:List Str):Nat:=(qh (λi=>l.getD i ⟨#[]⟩) l.length 0 (λ_=>false) 0).2
def Cu (l:List Str):∀ (k i:Nat) (Fm:Str->Bool) (m:Nat),l.length - i=k->i<=l.length->(∀ x,Fm x=true↔x∈l.take i)->m<=i->(m=i↔(l.take i).Nodup)->(qh (λi=>l.getD i ⟨#[]⟩) k i Fm m).2<=l.length/\((qh (λi=>l.getD i ⟨#[]⟩) k i Fm m).2=l.length↔l.Nodup):=by
 intro k
 induction k with
 | zero=>
  intro i Fm m hk o f hm hn;have e:i=l.length:=by omega
  subst e;rw[SC] at hn;exact⟨hm,hn⟩
 | succ k j=>
  intro i Fm m hk o f hm hn;have d:i<l.length:=by omega
  have g:l.take (i+1)=l.take i++[l.getD i ⟨#[]⟩]:=by rw[take_succ,b4 d,b3,b4 d];rfl
  refine j (i+1) _ _ (by omega) (by omega) (λx=>?_) ?_ ?_
  ·rw[g,eG,dt,Vd,f x,r4]
  ·split<;>omega
  ·rw[g,Os]
   by_cases c:Fm (l.getD i ⟨#[]⟩)=true
   ·rw[if_pos c]
    constructor
    ·intro e;omega
    ·intro h;exact absurd rfl<|h.2.2 _ ((f _).mp c) _<|dt.mpr rfl
   ·rw[if_neg c]
    constructor
    ·intro e;refine⟨hn.mp (by omega),by simp,λa n b hb=>?_⟩
     rw[dt.mp hb];intro z;exact c ((f _).mpr (by rw[<-z];exact n))
    ·intro h
     have:=hn.mpr h.1
     omega
def AW (l:List Str):tU l<=l.length/\(tU l=l.length↔l.Nodup):=
 Cu l l.length 0 (λ_=>false) 0 (by omega) (zero_le _) (λx=>by simp) (ea _) (by simp)
def Kg (K:Frag):List V->Hp->VK->Prop:=λb H Q=>∃ p l,b=[.ref p]/\au K H p (l.map V.str)/\l.length<1000/\∀ (P:Program) (w:World) a,H a=none->Q (.ref a) (upd H a<|v5 P w a<|tU l)
def kx (hc:X.calm=true)(hK:X.K=K):bO X (.type "set") (Kg K):=by
 subst hK;intro A s σ H L O Q I r h;obtain⟨p,l,rfl,hq,N,q⟩:=h;obtain⟨u,rfl,F⟩:=vals1 r
 cases F
 obtain⟨E,G,J,hz⟩:=I.list hq;obtain⟨m,rfl,n⟩:=lB G;have g:m.length=l.length:=by rw[<-n,b5]
 have d:(strValues m).toArray.size=l.length:=by rw[gc];unfold strValues;rw[b5,g]
 have y:(1001:Nat)<scanBound:=by decide
 refine qi (vs:=(strValues m).toArray) (λi=>l.getD i ⟨#[]⟩) (I.ok.hd hc) J.isList (λi v c=>?_) (by rw[d];omega) λh1 k f B=>?_
 ·rw[List.getElem?_toArray] at c;unfold strValues at c;rw[et] at c
  cases e:m[i]? with
  | none=>rw[e] at c;cases c
  | some a=>
   rw[e] at c
   cases c
   refine⟨a.2,?_⟩;rw[<-n,b3,et,e];rfl
 ·rw[d] at f;refine⟨.ref _,_,I.laid (λb o e=>B b o (lt_size e) e) (ea _)<|show bB X.prog X.w _ h1 _ (v5 X.prog X.w _<|tU l) from ⟨⟨_,f⟩,?_,λh1 M ⟨C,D⟩ k=>?_⟩,rfl,q X.prog X.w _ I.fresh⟩
  ·obtain⟨o,z,x,t,j,_⟩:=f;exact⟨o,j⟩
  ·obtain⟨o,z,x,t,j,r⟩:=D;exact⟨C,o,z,x,t,k o j,r⟩
def Ov:List V->Hp->VK->Prop:=λa H Q=>∃ p n P w,a=[.ref p]/\H p=some (v5 P w p n)/\Q (.int n) H
def oA:bO X (.builtin "len") Ov:=by
 intro a s σ H v j Q I r h;obtain⟨p,n,P,w,rfl,c,q⟩:=h;obtain⟨u,rfl,g⟩:=vals1 r
 cases g
 obtain⟨⟨m,o,l,x,t,f,d,e,_,_,hb,i,hn⟩,_,_⟩:=I.aY p _ c;have b:scanBound<2 ^ 62:=by decide
 refine PySem.call_len_set f d e i (by omega) ⟨.int n,H,I.tok _,⟨_,by rw[hn]⟩,q⟩
variable {N W G:List Str}
def Rm (S:Sc X N W G)(g:Nat)(h:∃ t,X.mg x=some (.str z t))(hg:G[g]?=some x:=by rfl):QE X (.Name x pos) (tC<|.str z):=by
 obtain⟨t,h⟩:=h;have q:=S.gl _<|fO hg;exact⟨ni q.1 h ⟨t,rfl⟩ q.2.1⟩
def Ow (S:Sc X N W G)(g:Nat){z:Int}(h:∃ t,X.mg x=some (.int z t))(hg:G[g]?=some x:=by rfl):QE X (.Name x pos) (tC<|.int z):=by
 obtain⟨t,h⟩:=h;have q:=S.gl _<|fO hg;exact⟨ni q.1 h ⟨t,rfl⟩ q.2.1⟩
structure Rn (K:Frag)(x qual:Str)(st:Stmt)(f:Addr)(fd:FuncData)(d:List Value):Prop where
 ex:∃ (oc:Value) (od:Option Addr) (T:Addr) (kV doc pm:Value) (an:Option Addr) (cy ct:Value) (osl:Array (Option Value)) (o:Obj) (n:Nat),
  fd=fnOf x qual (bf st) (aO st) (aj st) (.ref T) kV doc pm an cy ct/\K.lookup f=some ⟨oc,od,.func fd,osl⟩/\codeIn K cy qual=true/\K.lookup T=some o/\o.data=.seq d.toArray n
 kp:keepIn K (.ref f)=true
structure FQ (K:Frag)(mg:Str->Option Value)(x:Str)(st:Stmt)(i:Int):Prop where
 ex:∃ f fd t,Rn K x x st f fd [.int i t]/\mg x=some (.ref f)
variable {f T:Addr}
def Kh {mg:Str->Option Value}{st:Stmt}{i:Int}{o:Obj}{m:Nat}{oc:Value}{od an:Option Addr}{osl:Array (Option Value)}{kV doc pm cy ct:Value}(X:K.In h)(G:h.Ns mainGlobals mg)
  (a:nsIn K mainGlobals x=some (some<|.ref f)) (l:K.lookup f=some ⟨oc,od,.func<|fnOf x x (bf st) (aO st) (aj st) (.ref T) kV doc pm an cy ct,osl⟩)
  (c:codeIn K cy x=true) (k:keepIn K (.ref f)=true) (lt:K.lookup T=some o) (ld:o.data=.seq #[.int i t] m):FQ K mg x st i:=
 ⟨f,_,t,⟨⟨oc,od,T,kV,doc,pm,an,cy,ct,osl,o,m,rfl,l,c,lt,ld⟩,k⟩,mg_of X G a⟩
def SU {α:Type}:List α->List α->List α
 | [a],[b]=>[a,b]
 | _,_=>[]
variable {us:List Value}{zs:List V}
def FR {vs:List V}{ws:List Value}(h:Vals vs us)(k:Vals zs ws):Vals (SU vs zs) (SU us ws):=by
 cases h with
 | nil=>exact .nil
 | cons a t=>
  cases t with
  | cons _ _=>exact .nil
  | nil=>
   cases k with
   | nil=>exact .nil
   | cons b s=>
    cases s with
    | nil=>exact .cons a<|.cons b .nil
    | cons _ _=>exact .nil
variable {k:Nat}
def Ml (x:Str)(st:Stmt)(p1 p2:Str):Prop:=∀ (T:Addr) (kV doc pm:Value) (an:Option Addr) (cy ct u v:Value),
 (∃ k,bindArgs (fnOf x x (bf st) (aO st) (aj st) (.ref T) kV doc pm an cy ct) ⟨[u],[]⟩=(seqItems? (.ref T) >>= k)/\∀ d,k (some #[d])=pure [(p1,u),(p2,d)])/\
 (∃ k,bindArgs (fnOf x x (bf st) (aO st) (aj st) (.ref T) kV doc pm an cy ct) ⟨[u,v],[]⟩=(seqItems? (.ref T) >>= k)/\∀ d,k (some #[d])=pure [(p1,u),(p2,v)])/\
 (∃ k,bindArgs (fnOf x x (bf st) (aO st) (aj st) (.ref T) kV doc pm an cy ct) ⟨[u],[(p2,v)]⟩=(seqItems? (.ref T) >>= k)/\∀ d,k (some #[d])=pure [(p1,u),(p2,v)])
abbrev cz (x:Str):List Nat:=x.cps.toList
variable {b:Str}
def tV {a:Str}(h:cz a=cz b):a=b:=by
 obtain⟨a⟩:=a;obtain⟨b⟩:=b
 congr 1
 exact Array.toList_inj.mp h
def cO (a b:Str):cz (a++b)=cz a++cz b:=by show (a.cps++b.cps).toList=_;rw[Array.toList_append]
def aw (a:Str):a.length=(cz a).length:=by show a.cps.size=_;rw[UY]
def FU (c:Nat):cz ⟨#[c]⟩=[c]:=rfl
def bj (s x y:Str)(r:List Str):cz (s.join (x::y::r))=cz x++cz s++cz (s.join (y::r)):=by
 show cz (x++s++s.join (y::r))=_;rw[cO,cO]
theorem FV {c:Nat}:∀ {p p' q q':List Nat},c∉p->c∉p'->p++c::q=p'++c::q'->p=p'/\q=q'
 | [],[],_,_,_,_,e=>⟨rfl,(Pp e).2⟩
 | [],a::p',_,_,_,d,e=>absurd (gd.mpr<|.inl (Pp e).1) d
 | a::p,[],_,_,h,_,e=>absurd (gd.mpr<|.inl (Pp e).1.symm) h
 | a::p,b::p',_,_,h,d,e=>by
  obtain⟨j,f⟩:=Pp e;obtain⟨g,i⟩:=FV (λz=>h<|fA _ z) (λz=>d<|fA _ z) f;exact⟨by rw[j,g],i⟩
theorem v7 (c:Nat):∀ {a b:List Str},a≠[]->b≠[]->(∀ x∈a,c∉cz x)->(∀ x∈b,c∉cz x)->cz (Str.join ⟨#[c]⟩ a)=cz (Str.join ⟨#[c]⟩ b)->a=b
 | [],_,h,_,_,_,_=>absurd rfl h
 | _::_,[],_,h,_,_,_=>absurd rfl h
 | [x],[y],_,_,_,_,e=>by rw[tV (show cz x=cz y from e)]
 | [x],y::z::r,_,_,d,_,e=>by
  rw[bj] at e;have e:cz x=cz y++[c]++_:=e;refine absurd ?_ (d x eR);rw[e];simp
 | x::y::r,[z],_,_,_,hb,e=>by
  rw[bj] at e;have e:cz x++[c]++_=cz z:=e;refine absurd ?_ (hb z eR);rw[<-e];simp
 | x::y::r,g::j::l,_,_,d,hb,e=>by
  rw[bj,bj,FU,UU,UU] at e;obtain⟨i,f⟩:=FV (d x eR) (hb g eR) e;rw[tV i,v7 c (by simp) (by simp) (λx hx=>d x<|fA _ hx) (λx hx=>hb x<|fA _ hx) f]
def oB (x:Str)(c:Nat):Txt.split x ⟨#[c]⟩≠[]:=by
 unfold Txt.split
 split
 ·simp
 split
 ·simp
 ·unfold Builtin.Str.partsBetween
  cases Builtin.Str.occurrences x ⟨#[c]⟩ 0 x.length (x.length+1)<;>simp
variable {a:List Str}
def dR (c:Nat)(h:a≠[])(hf:∀ x∈a,c∉cz x):Txt.split (Str.join ⟨#[c]⟩ a) ⟨#[c]⟩=a:=
 v7 c (oB _ c) h (λp b=>StrLaws.split_free _ c p b) hf (by rw[N6])
def gT:Str:="abcdefghijklmnopqrstuvwxyz"
def FW:Str:="0123456789"
def FX (c:Nat):Bool:=decide<|c∈cz gT
def Ki (c:Nat):Bool:=decide<|c∈cz FW
def br (x:Str):Bool:=decide (1<=x.length/\x.length<=12)&&(cz x).all FX
def bX (x:Str):Bool:=decide (1<=x.length/\x.length<=30)&&(decide ((cz x).getD 0 0≠48)&&(cz x).all Ki)
def dS (l:List Str):Bool:=decide (l.length=3)&&(decide (l.getD 0 ⟨#[]⟩="hat")&&(br (l.getD 1 ⟨#[]⟩)&&bX (l.getD 2 ⟨#[]⟩)))
def cL (l:List Str):Bool:=decide (3<=l.length)&&(decide (l.getD 0 ⟨#[]⟩="sees")&&(l.drop 1).all br)
variable {c:Nat}
def nu (h:FX c=true):c≠32/\c≠10:=by
 have a:=h9 h
 have:∀ c∈cz gT,c≠32/\c≠10:=by decide +kernel
 exact this c a
def gA:Ki c=true↔48<=c/\c<=57:=by
 unfold Ki;rw[decide_eq_true_iff,show cz FW=List.range' 48 10 by decide +kernel,List.mem_range'_1]
 omega
def dU (h:br x=true):32∉cz x/\10∉cz x:=by
 unfold br at h;rw[ef,ih] at h;exact⟨λz=>(nu<|h.2 _ z).1 rfl,λz=>(nu<|h.2 _ z).2 rfl⟩
def fM (h:bX x=true):32∉cz x/\10∉cz x:=by
 unfold bX at h;rw[ef,ef,ih] at h;exact⟨λz=>by have:=gA.mp<|h.2.2 _ z;omega,λz=>by have:=gA.mp<|h.2.2 _ z;omega⟩
def oC (n:Nat):cz (Str.ofString<|toString ((n:Nat):Int))=(toDigits 10 n).map Char.toNat:=by
 show (Str.ofString<|toString<|Int.ofNat n).cps.toList=_;rw[text_ofNat n]
def v8:∀ (n:Nat),0<n->∃ c r,toDigits 10 n=c::r/\c≠'0':=by
 intro n
 induction n using Nat.strongRecOn with
 | _ n a=>
  intro h;rw[Nat.toDigits_eq_if ad]
  by_cases c:n<10
  ·rw[if_pos c];refine⟨_,_,rfl,?_⟩
   have:∀ n,n<10->0<n->digitChar n≠'0':=by decide
   exact this n c h
  ·rw[if_neg c];obtain⟨d,r,e,b⟩:=a (n / 10) (by omega) (by omega)
   exact⟨d,r++[digitChar (n % 10)],by rw[e];rfl,b⟩
def cq (h0:0<n)(h30:n<10 ^ 30):bX (Str.ofString<|toString ((n:Nat):Int))=true/\intText? (Str.ofString<|toString ((n:Nat):Int))=some (n:Int):=by
 have e:=oC n;have a:∀ c∈(toDigits 10 n).map Char.toNat,48<=c/\c<=57:=λc hc=>by
  obtain⟨d,a,rfl⟩:=j9.mp hc
  have:=Nat.isDigit_of_mem_toDigits ad ad a
  simp only[Char.isDigit,Bool.and_eq_true,decide_eq_true_eq] at this;exact this
 have h:(toDigits 10 n).length<=30:=(Nat.length_toDigits_le_iff ad ad).mpr h30
 have g:0<(toDigits 10 n).length:=Nat.length_toDigits_pos;obtain⟨c,r,f,hc⟩:=v8 n h0
 constructor
 ·unfold bX;rw[aw,e,b5,cc<|show 1<=(toDigits 10 n).length/\(toDigits 10 n).length<=30 from ⟨g,h⟩,o6,ef]
  refine⟨cc ?_,ih.mpr λc hc=>gA.mpr<|a c hc⟩;rw[f];show c.toNat≠48;intro z;exact hc<|Char.toNat_inj.mp z
 ·have b:(Str.ofString<|toString ((n:Nat):Int)).cps.toList=(toDigits 10 n).map Char.toNat:=e;rw[intText_digits (by rw[b];exact a) (by rw[b,f];simp) (by rw[aw,e,b5];omega),b,PySem.W.KIN.val_back]
def bc:(Str.ofString " ")=⟨#[32]⟩:=by decide +kernel
theorem lC (c:Nat):∀ {l:List Str} {x:Str},x∈l->x.length<=(Str.join ⟨#[c]⟩ l).length
 | [y],x,h=>by rw[dt.mp h];exact ea _
 | y::z::r,x,h=>by
  have e:(Str.join ⟨#[c]⟩ (y::z::r)).length=y.length+1+(Str.join ⟨#[c]⟩ (z::r)).length:=by
   rw[aw,bj,ed,ed,<-aw,<-aw];rfl
  rcases gd.mp h with rfl | h
  ·omega
  ·have:=lC c h
   omega
def jE (h:x∈Txt.split z ⟨#[32]⟩):x.length<=z.length:=by
 have:=lC 32 h
 rw[N6] at this;exact this
abbrev aE:Str:=⟨#[]⟩
def ky:Sp:=λa H Q _=>∃ z:Str,a=[.str z]/\z.length<=1000000/\∀ H',ag H H'->Q (.bl<|br z) H'
def lD:Sp:=λa H Q _=>∃ z:Str,a=[.str z]/\z.length<=1000000/\∀ H',ag H H'->Q (.bl<|bX z) H'
structure Ws (K:Frag)(H:Hp)(p:Addr)(l:List Str):Prop where
 sq:au K H p (l.map V.str)
 fC:l.length<=900
 short:∀ x∈l,x.length<=1000000
def AX (K:Frag):Sp:=λa H Q _=>∃ (p:Addr) (l:List Str),a=[.ref p]/\Ws K H p l/\∀ H',ag H H'->Q (.bl<|dS l) H'
def v9 (K:Frag):Sp:=λa H Q _=>∃ (p:Addr) (l:List Str),a=[.ref p]/\Ws K H p l/\∀ H',ag H H'->Q (.bl<|cL l) H'
def jd (h:n<=1000000):n<=sizeLine:=fz h ad
variable {l:List Str}
def aC {k:Nat}(h:k<l.length):(l.map V.str)[k]?=some (.str<|l.getD k aE):=by
 rw[et,b4 h,b3,b4 h];rfl
def getD_memS {k:Nat}(h:k<l.length):l.getD k aE∈l:=by
 rw[b3,b4 h];exact pP h
end L2
namespace L2
open PySem PySem.Spec PyProof.Rows
def Cv (z:Str)(p:Nat->Bool):((List.range z.cps.size).map λi=>p<|(z.cps[i]?).getD 0).all id=(cz z).all p:=by
 rw[Pi];have e:cz z=(List.range z.cps.size).map λi=>(z.cps[i]?).getD 0:=by
  apply UF
  intro i
  by_cases a:i<z.cps.size
  ·rw[et,LI a,getElem?_toList,Array.getElem?_eq_getElem a];show some z.cps[i]=some ((z.cps[i]?).getD 0);rw[Array.getElem?_eq_getElem a];rfl
  ·rw[ot (by rw[UY];omega),ot (by rw[b5,pS];omega)]
 rw[e,Pi]
 rfl
variable {Q:VK}{y:Str}
def wc {K:Frag}{z:Str}{H:Hp}(hz:z.length<=1000000)(q:∀ H',ag H H'->Q (.bl<|(cz z).all λc=>decide<|c∈cz y) H') :
  vC (bN 0) il (sM (λx y H Q=>∃ i j,x=V.str i/\y=V.str j/\Q (V.bl !(Builtin.Str.occurrences j i 0 j.length 1).isEmpty) H) (sH 0)<|tC<|.str y) [none] (λx H1=>Q5 K [x] H1 Q) (Px z) H:=by
 refine n9 v3 (λ_=>true) (λi=>.bl<|decide<|(z.cps[i]?).getD 0∈cz y) (M2 hz ad) ?_ ?_
 ·intro i H1 A B f g d _;simp only[iq,Cc,mr,NS,yp,Th];refine⟨_,_,rfl,rfl,?_⟩;rw[StrLaws.found_one];exact d rfl _<|ag.refl _
 ·intro b H1 hn e a;rw[bZ] at a;refine⟨b,(List.range z.cps.size).map λi=>decide<|(z.cps[i]?).getD 0∈cz y,rfl,au.of (by rw[a,kb];rfl),?_⟩
  rw[Cv z λc=>decide<|c∈cz y];exact q H1 e
def FY (k:Str)(ns:List Str):Ls (.str k) (ns.map V.str)=decide (k∈ns):=by
 induction ns with
 | nil=>simp[Ls]
 | cons a r b=>
  unfold Ls at b ⊢;rw[rr,any_cons,b]
  by_cases e:a=k
  ·subst e;simp[DL]
  ·have:¬ k=a:=λz=>e z.symm
   simp[DL,e,this]
def jF {K:Frag}{neg:Bool}{H:Hp}{p:Addr}{k:Str}{a:List Str}(h:au K H p (a.map V.str)∨aN K H p (a.map V.str))(q:Q (.bl<|if neg then !decide (k∈a) else decide (k∈a)) H):Lu K neg (.str k) (.ref p) H Q:=by
 refine⟨p,_,rfl,h,rfl,?_,?_⟩
 ·rw[Pi];exact ih.mpr λ_ _=>rfl
 ·rw[FY];exact q
def iG (x:Str):Prop:=∀ c∈cz x,FX c=true
def iG.append {a b:Str}(ha:iG a)(hb:iG b):iG (a++b):=λc hc=>by
 rw[cO] at hc
 rcases eG.mp hc with z | z
 ·exact ha c z
 ·exact hb c z
def aG (a b:Str):(a++b).length=a.length+b.length:=by rw[aw,cO,ed,<-aw,<-aw]
def ny {x:Str}(h:iG x)(h1:1<=x.length)(h2:x.length<=12):br x=true:=by
 unfold br;rw[cc (show 1<=x.length/\x.length<=12 from ⟨h1,h2⟩),o6]
 exact ih.mpr h
def dj {x:Str}(h:br x=true):iG x/\1<=x.length/\x.length<=12:=by
 unfold br at h;rw[ef,ih] at h;exact⟨h.2,(h9 h.1).1,(h9 h.1).2⟩
def kA {x:Str}{k:Nat}(h:k<=x.length):cz (StrLaws.sliceText x none<|some (k:Int))=(cz x).take k:=by
 have a:k<=x.cps.toList.length:=by rw[aw] at h;exact h
 rw[StrLaws.sliceText_to ⟨by omega,by omega⟩]
 show List.take ((k:Int) - 0).toNat (List.drop 0 _)=_;rw[drop_zero,show ((k:Int) - 0).toNat=k by omega]
def jG {x:Str}{k:Nat}(h:k<=x.length):cz (StrLaws.sliceText x (some (k:Int)) none)=(cz x).drop k:=by
 have a:k<=x.cps.toList.length:=by rw[aw] at h;exact h
 rw[StrLaws.sliceText_from ⟨by omega,by omega⟩]
 show List.take _ (List.drop ((k:Int)).toNat _)=_;rw[FM,D2 (by rw[mv];omega)]
def yK {x:Str}{k:Nat}(h0:1<=k)(h:k<=x.length):cz (StrLaws.sliceText x (some (-(k:Int))) none)=(cz x).drop ((cz x).length - k):=by
 have e:=aw x;rw[StrLaws.sliceText_from_neg (by omega) (by omega)]
 show List.take _ (List.drop (-(k:Int)+(x.length:Nat)).toNat _)=_;rw[show (-(k:Int)+(x.length:Nat)).toNat=(cz x).length - k by omega,D2 (by rw[mv];show (cz x).length - _<=(((cz x).length:Int) - _).toNat;omega)]
def we {x:Str}{k:Nat}(h:iG x)(e:cz y=(cz x).take k):iG y:=λc hc=>h c (UW (by rw[<-e];exact hc))
def wg {x:Str}{k:Nat}(h:iG x)(e:cz y=(cz x).drop k):iG y:=λc hc=>h c (FS (by rw[<-e];exact hc))
def Kj {c:Nat}{i:Nat}(h:(cz gT)[i]?=some c):iG ⟨#[c]⟩:=λd a=>by
 have e:d=c:=by simpa using a
 subst e;unfold FX;exact cc<|fO h
def FZ:(cz gT).length=26:=by decide +kernel
def Ga {i:Int}(h0:0<=i)(h1:i<26):∃ c,uZ (cz gT) i=some c/\iG ⟨#[c]⟩:=by
 obtain⟨n,rfl⟩:=j5 h0;have hn:n<(cz gT).length:=by rw[FZ];omega
 refine⟨(cz gT).getD n 0,gu rfl 0 hn,Kj (i:=n) ?_⟩;rw[b3,b4 hn];rfl
def gB:Sp:=λa H Q _=>∃ (cell:Int) (n:Nat),a=[.int cell,.int n]/\n<=100/\∀ (l:Addr) (ns:List Int) (H':Hp),ag H H'->H l=none->H' l=some (.lst<|ns.map V.int)->ns.length=n->(∀ x∈ns,0<=x)->Q (.ref l) H'
def Ro (H0:Hp)(cell:Int)(n:Nat)(l:Addr)(k:Nat)(σ:St)(H:Hp):Prop:=∃ (num:Int) (ns:List Int) (y:Option V),σ=[some (.int cell),some<|.int n,some<|.int num,some<|.ref l,y]/\ag H0 H/\H l=some (.lst<|ns.map V.int)/\ns.length=k/\∀ x∈ns,0<=x
def tW:Sp:=λa H Q _=>∃ (num:Int) (k:Nat),a=[.int num,.int k]/\k<=12/\∀ z:Str,z.length=k->iG z->Q (.str z) H
def Rp (H0:Hp)(n:Nat)(k:Nat)(σ:St)(H:Hp):Prop:=∃ (num:Int) (z:Str) (y:Option V),σ=[some (.int num),some<|.int n,some<|.str gT,some<|.str z,y]/\H=H0/\z.length=k/\iG z
structure Kk (ns:List Str)(n:Nat):Prop where
 fC:ns.length<=n
 nd:ns.Nodup
 nm:∀ x∈ns,br x=true
def AY:Sp:=λa H Q _=>∃ (cell:Int) (n:Nat),a=[.int cell,.int n]/\1<=n/\n<=8/\∀ (l:Addr) (ns:List Str) (H':Hp),ag H H'->H l=none->H' l=some (.lst<|ns.map V.str)->ns≠[]->Kk ns n->Q (.ref l) H'
def mz:List Str:=["hat","sees","put","guess","right","ring","order","book","sure","share","groups","circle","hats"]
def Gb:∀ x∈mz,br x=true:=by decide +kernel
def Rq (H0:Hp)(cell:Int)(n:Nat)(sm dr:Addr)(base:Str)(a:Nat)(l:Addr)(dn:List Int)(k:Nat)(σ:St)(H:Hp):Prop:=∃ (ns:List Str) (y1 y2 y3 y4:Option V),σ=[some (.int cell),some<|.int n,some<|.str gT,some<|.ref sm,some<|.ref dr,some<|.str base,some<|.int a,some<|.ref l,y1,y2,y3,y4]/\ag H0 H/\H l=some (.lst<|ns.map V.str)/\H sm=some (.lst<|mz.map V.str)/\H dr=some (.lst<|dn.map V.int)/\Kk ns k/\(1<=k->ns≠[])
def oE:Sp:=λa H Q _=>∃ (cell:Int) (k:Int),a=[.int cell,.int k]/\∀ (c:Nat) (H':Hp),0<c->c<10 ^ 30->ag H H'->Q (.int (c:Int)) H'
theorem dE {K:Frag}{H:Hp}:∀ l:List Str,eh K H (l.map V.str)<|l.map PyData.str
 | []=>.nil
 | x::r=>.cons (.str x)<|dE r
theorem jH:∀ l:List Str,PyData.depthAll (l.map PyData.str)<=1
 | []=>by simp[PyData.depthAll]
 | x::r=>by
  have:=jH r
  simp only[map_cons,PyData.depthAll,PyData.depth]
  omega
def je {d:PyData}(h1:PyData.canLay0 d=true)(h2:PyData.depth d<=64):shaped d=true:=by
 show (PyData.canLay0 d&&decide (PyData.depth d<=64))=true;rw[h1,cc h2];rfl
def Ox (H:Hp)(f:Addr)(n:Str)(l:List Str):Prop:=∃ p,H f=some (.tup [.str "sees",.str n,.ref p])/\H p=some (.tup<|l.map V.str)
def Rr (H:Hp)(f:Addr)(n:Str)(c:Int):Prop:=H f=some (.tup [.str "hat",.str n,.int c])
abbrev fk (c:Nat):Str:=Str.ofString<|toString ((c:Nat):Int)
structure SV (l:List Str):Prop where
 two:2<=l.length
 fC:l.length<=40
 nd:l.Nodup
 nm:∀ x∈l,br x=true
theorem fm (c:Nat):∀ l:List Str,(Str.join ⟨#[c]⟩ l).length<=(l.map λz=>z.length+1).sum
 | []=>by show (0:Nat)<=_;omega
 | [x]=>by show x.length<=(x.length+1)+0;omega
 | x::y::r=>by
  have a:=fm c (y::r);have e:(Str.join ⟨#[c]⟩ (x::y::r)).length=x.length+1+(Str.join ⟨#[c]⟩ (y::r)).length:=by
   rw[aw,bj,ed,ed,<-aw,<-aw];rfl
  rw[e,rr,U7]
  omega
theorem eK (b:Nat):∀ l:List Str,(∀ x∈l,x.length<=b)->(l.map λz=>z.length+1).sum<=l.length*(b+1)
 | [],_=>by simp
 | x::r,h=>by
  have a:=eK b r λx hx=>h x<|fA _ hx
  have:=h x eR
  rw[rr,U7,ls,Nat.add_mul]
  omega
def dz {x:Str}(h:bX x=true):x.length<=30:=by
 unfold bX at h;rw[ef] at h;exact(h9 h.1).2
variable {n:Str}
def Cw {c:Nat}(hn:br n=true)(h0:0<c)(h30:c<10 ^ 30):∀ x∈[Str.ofString "hat",n,fk c],32∉cz x/\10∉cz x/\x.length<=30:=by
 intro x hx;have h1:32∉cz (Str.ofString "hat")/\10∉cz (Str.ofString "hat")/\(Str.ofString "hat").length<=30:=by decide +kernel
 have b:=dU hn;have a:=(cq h0 h30).1
 rcases gd.mp hx with rfl | hx
 ·exact h1
 rcases gd.mp hx with rfl | hx
 ·exact⟨b.1,b.2,fz (dj hn).2.2 ad⟩
 rw[dt.mp hx];exact⟨(fM a).1,(fM a).2,dz a⟩
def yL {l:List Str}(h:∀ x∈l,br x=true):∀ x∈(Str.ofString "sees"::l),32∉cz x/\10∉cz x/\x.length<=30:=by
 intro x hx;have h1:32∉cz (Str.ofString "sees")/\10∉cz (Str.ofString "sees")/\(Str.ofString "sees").length<=30:=by decide +kernel
 rcases gd.mp hx with rfl | hx
 ·exact h1
 ·exact⟨(dU<|h x hx).1,(dU<|h x hx).2,fz (dj<|h x hx).2.2 ad⟩
def oF (n c:Str):(((Str.ofString "hat "++n)++Str.ofString " ")++c)=Str.join ⟨#[32]⟩ [Str.ofString "hat",n,c]:=by
 apply tV
 rw[cO,cO,cO,bj,bj,show cz (Str.ofString "hat ")=cz (Str.ofString "hat")++[32] by decide +kernel,show cz (Str.ofString " ")=[32] by decide +kernel]
 show _=cz (Str.ofString "hat")++[32]++(cz n++[32]++cz c);simp only[List.append_assoc]
def SW:List Str:=(List.range 12).map λi=>(⟨#[((Str.ofString "abcdefghijkl").cps[i]?).getD 0]⟩:Str)++Str.ofString "zx"
def Oy:∀ x∈SW,br x=true:=by decide +kernel
def AZ:(Str.ofString "abcdefghijkl").cps.size=12:=by decide +kernel
variable {prog:Program}{w:World}{κ:Type}{a:Addr}[DecidableEq κ]{knd:KeyKind prog w κ}
def Cy {h:Heap}{kvs:List (κ × Value)}(x:h.DictOf knd a kvs):∃ ep,h.DictAt knd a kvs ep:=by
 obtain⟨o,b,ep,r⟩:=x;exact⟨ep,o,b,r⟩
variable {A:Around}{E:Value->Shared->Prop}{s:Shared}{ep:Nat}
def jr {d:Addr}{kvs:List (κ × Value)}{Q₁:Value->Shared->Prop}(lo:(d == sysModules)=false)(hh:A.handled=none)(hd:s.heap.DictAt knd d kvs ep)(hn:kvs.length<=sizeLine)
  (h:∀ (h':Heap) (tk:Nat) (acc:Array Value),(∀ b o,s.heap.get? b=some o->h'.get? b=some o)->ItemsOf (λi v=>∃ k x,kvs[i]?=some (k,x)/\knd.is k v=true) acc kvs.length->Q₁ (.ref h'.objs.size) {s with heap:=h'.push {cls:=.type "tuple",data:=.seq acc},toks:=tk}) :
  codeAny (model prog w) A (.call (.builtin "tuple.__new__") ⟨[.type "tuple",.ref d],[]⟩) (wants Q₁ E) s:=by
 refine codeAny_of_tree ?_;show wpAny _ A.in1 (do checkBuiltinCall "tuple.__new__" ⟨[.type "tuple",.ref d],[]⟩;again (.builtin "tuple.__new__" ⟨[.type "tuple",.ref d],[]⟩)) _ _ s
 refine b7<|wpAny_of_eq (F.newCall_tuple_1 _)<|ey ⟨plainId_quiet F.plain_tuple_new _,codeAny_builtin F.entry_tuple_new ?_⟩;rw[Around.under_plainId F.plain_tuple_new _];have g:=sub_tuple_self;have c:=init_tuple_lookup;have j:=madeHere_tuple;have f:=hd.dictOf.typeIs
 wp_walk using wpAny_typeOf f,PySem.W.kdu_collect (A:=A.in1) (PySem.W.kdl_dict (knd:=knd) (ep:=ep) lo) hh hd hn
 intro h' tk acc hm a;show wpAny _ _ (Builtin.Tuple.tupleExact acc.toList.toArray >>= λv=>ret v) _ _ _;unfold Builtin.Tuple.tupleExact;refine b7 (Vg ?_ (by show acc.toList.toArray.size<=sizeLine;simp only[Array.toArray_toList];rw[a.1];exact hn))
 refine ey ?_;have e:acc.toList.toArray=acc:=by simp
 rw[e];exact h h' tk acc hm a
def mJ {d:Addr}{kvs:List (κ × Value)}{Q:Value->Shared->Prop}(lo:(d == sysModules)=false)(hh:A.handled=none)(hd:s.heap.DictAt knd d kvs ep)(hn:kvs.length<=sizeLine)
  (h:∀ (h':Heap) (tk:Nat) (acc:Array Value),(∀ b o,s.heap.get? b=some o->h'.get? b=some o)->ItemsOf (λi v=>∃ k x,kvs[i]?=some (k,x)/\knd.is k v=true) acc kvs.length->Q (.ref h'.objs.size) {s with heap:=h'.push {cls:=.type "tuple",data:=.seq acc},toks:=tk}) :
  wpAny (model prog w) A (call (.type "tuple") [.ref d]) Q E s:=by
 refine callType_codes (Q₁:=λobj c=>c.TypeIs obj "tuple"/\Q obj c) F.called_tuple (F.typeCall_tuple_1 _) F.entry_object_init
  (jr lo hh hd hn λh' tk acc hm a=>⟨⟨_,hO _ rfl,rfl⟩,h h' tk acc hm a⟩) λobj c e=>?_
 exact⟨e.1,F.args_object_init_2 obj _,object_init_meets F.called_tuple.init.lookup F.called_tuple.made ad prog w A.in1 _ c ⟨e.1,rfl,e.2⟩⟩
variable {X:Cx}{o i:Expr}{pos:Pos}{td ty:TE}
def A0 (hu:X.A.units+1<cLine)(ho:QE X o td)(hi:QE X i ty)(hs:Jp i:=by intro _ _;rfl):QE X (.Subscript o i pos) (Er td ty):=⟨Jr hu ho.h hi.h hs⟩
def Mm:List V->Hp->VK->Prop:=λb H Q=>∃ a kvs,b=[.ref a]/\H a=some (.dK kvs)/\Q (.int kvs.length) H
def rM:bO X (.builtin "len") Mm:=by
 intro c s σ H i g Q I r h;obtain⟨a,b,rfl,e,q⟩:=h;obtain⟨u,rfl,d⟩:=vals1 r
 cases d
 exact P7 I (.inl e) λt j f=>⟨.int b.length,H,f,⟨_,rfl⟩,q⟩
variable {u:Value}{P:Program}
def Oz {i:Int}(h:(bW P w).is (Sum.inl i) u=true):RelV (.int i) u:=by
 rcases bL (show mf (Sum.inl i) u=true from h) with ⟨j,t,e,rfl⟩ | ⟨x,t,e,rfl⟩
 ·cases e;exact⟨t,rfl⟩
 ·cases e
def OA {x:Str}(h:(bW P w).is (Sum.inr x) u=true):RelV (.str x) u:=by
 rcases bL (show mf (Sum.inr x) u=true from h) with ⟨j,t,e,rfl⟩ | ⟨y,t,e,rfl⟩
 ·cases e
 ·cases e;exact⟨t,rfl⟩
theorem rN {α β:Type}{F:α->β->Prop}:∀ {l₁:List α} {l₂:List β},l₁.length=l₂.length->(∀ (i:Nat) a b,l₁[i]?=some a->l₂[i]?=some b->F a b)->Paired F l₁ l₂
 | [],[],_,_=>.nil
 | a::l₁,b::l₂,e,h=>.cons (h 0 a b rfl rfl)<|rN (Nat.succ.inj e) λi a b h1 c=>h (i+1) a b h1 c
def Kl {k:Key}(h:(bW P w).is k u=true):RelV (kV k) u:=by
 cases k with
 | inl i=>exact Oz h
 | inr x=>exact OA h
def Cz {kvs:List (Key × V)}{vs:List (Key × Value)}{acc:Array Value}(rel:KV kvs vs)(h:ItemsOf (λi v=>∃ k x,vs[i]?=some (k,x)/\(bW P w).is k v=true) acc vs.length):Vals (kvs.map λp=>kV p.1) acc.toList:=by
 have hk:=rel.keys;have l:=rel.length;refine rN (by rw[b5,l,<-h.1];exact(UY (xs:=acc)).symm) λi a b h1 f=>?_
 obtain⟨k,x,e,j⟩:=h.2 i b (by rw[<-getElem?_toList];exact f)
 rw[et] at h1;obtain⟨p,d,rfl⟩:=Option.map_eq_some_iff.mp h1;have c:(kvs.map (·.1))[i]?=some p.1:=by rw[et,d];rfl
 have g:(vs.map (·.1))[i]?=some k:=by rw[et,e];rfl
 rw[hk,g] at c
 cases c
 exact Kl j
variable {H:Hp}{σ:St}
def Gd:Er td ty σ H Q=td σ H λx H1=>ty σ H1 λy H2=>∃ a v,x=.ref a/\ik H2 a y (some v)/\Q v H2:=rfl
def OB {pos:Pos}(hu:X.A.units+1<cLine)(hi:QE X i ty)(ho:QE X o td)(hm:behindInMarks .In o=false):QT X (.Compare i [.In] [o] pos) (tB<|Jq ty td):=⟨DX (Et hu hi.h ho.h) hm⟩
def xU:Nat->List Str->List (Key × V)
 | _,[]=>[]
 | k,x::r=>(Sum.inr x,.int (k:Int))::xU (k+1) r
theorem tX:∀ (k:Nat) (ns:List Str),(xU k ns).length=ns.length
 | _,[]=>rfl
 | k,x::r=>by rw[xU,ls,tX,ls]
theorem wj:∀ (k:Nat) (ns:List Str),(xU k ns).map (λp=>kV p.1)=ns.map V.str
 | _,[]=>rfl
 | k,x::r=>by rw[xU,rr,wj,rr];rfl
theorem wk:∀ (k:Nat) (ns:List Str) (x:Str),xU k (ns++[x])=xU k ns++[(Sum.inr x,.int ((k+ns.length:Nat):Int))]
 | k,[],x=>rfl
 | k,y::r,x=>by
  rw[cons_append,xU,wk,xU,ls,show k+1+r.length=k+(r.length+1) by omega]
  rfl
theorem kB (x:Str):∀ (k:Nat) (ns:List Str),cP (xU k ns) (Sum.inr x)=if x∈ns then some (.int ((k+ns.idxOf x:Nat):Int)) else none
 | _,[]=>rfl
 | k,y::r=>by
  rw[xU]
  by_cases e:y=x
  ·subst e;rw[cB rfl,if_pos eR,List.idxOf_cons_self]
   rfl
  ·rw[ck (λz=>e<|Sum.inr.inj z),kB x (k+1) r]
   by_cases m:x∈r
   ·have a:List.idxOf x (y::r)=List.idxOf x r+1:=by
     rw[idxOf_cons,show (y == x)=false from A5.mpr e];rfl
    rw[if_pos m,if_pos<|fA _ m,a,show k+1+List.idxOf x r=k+(List.idxOf x r+1) by omega]
   ·rw[if_neg m,if_neg λz=>(gd.mp z).elim (λz=>e z.symm) m]
def DN (H:Hp)(d:Addr)(ns:List Str):Prop:=H d=some (.dK<|xU 0 ns)
variable {ns:List Str}
def Km {d:Addr}{x:Str}(h:DN H d ns)(q:Q (.bl<|decide<|x∈ns) H):∃ a o,V.ref d=.ref a/\ik H a (.str x) o/\Q (.bl o.isSome) H:=by
 refine⟨d,_,rfl,ik.k (k:=Sum.inr x) h,?_⟩;rw[kB]
 by_cases m:x∈ns
 ·rw[if_pos m];rw[cc m] at q;exact q
 ·rw[if_neg m];rw[dy m] at q;exact q
def wm {d:Addr}{x:Str}(h:DN H d ns)(m:x∈ns):ik H d (.str x) (some<|.int (ns.idxOf x:Nat)):=by
 have:=ik.k (k:=Sum.inr x) h
 rw[kB,if_pos m,Nat.zero_add] at this;exact this
def Ge {d:Addr}{x:Str}(h:DN H d ns)(m:x∉ns):ik H d (.str x) none:=by
 have:=ik.k (k:=Sum.inr x) h
 rw[kB,if_neg m] at this;exact this
def Gf {Q:Hp->Prop}{d:Addr}{x:Str}{k:Int}(h:DN H d ns)(hk:k=(ns.length:Nat))(m:x∉ns)(hl:ns.length<sizeLine)(q:Q (upd H d<|.dK<|xU 0<|ns++[x])):∃ a H4,V.ref d=.ref a/\pZ H a (.str x) (.int k) H4/\Q H4:=by
 subst hk;refine⟨d,_,rfl,pZ.k (k:=Sum.inr x) h (by rw[tX];exact hl),?_⟩
 rw[vz _ (by rw[kB,if_neg m]),show ((ns.length:Nat):Int)=((0+ns.length:Nat):Int) by rw[Nat.zero_add],<-wk]
 exact q
def wo {d:Addr}(h:DN H d ns)(q:Q (.int (ns.length:Nat)) H):Mm [.ref d] H Q:=⟨d,_,rfl,h,by rw[tX];exact q⟩
inductive Ln where
 | bY (n:Str) (c:Nat)
 | sees (n:Str) (l:List Str)
def gU:Ln->List Str
 | .bY n c=>[Str.ofString "hat",n,fk c]
 | .sees n l=>Str.ofString "sees"::n::l
def cM (x:Ln):Str:=Str.join ⟨#[32]⟩<|gU x
def eB:Ln->Prop
 | .bY n c=>br n=true/\0<c/\c<10 ^ 30
 | .sees n l=>SV (n::l)
structure Bk where
 ns:List Str
 cs:List Nat
 ws:List Nat
def cF (ns l:List Str):Nat:=(l.map λy=>2 ^ ns.idxOf y).sum
def jy (b:Bk):Ln->Option Bk
 | .bY n c=>if n∉b.ns/\b.ns.length<8 then some ⟨b.ns++[n],b.cs++[c],b.ws++[0]⟩ else none
 | .sees n l=>if n∈b.ns/\b.ws.getD (b.ns.idxOf n) 0=0/\∀ y∈l,y∈b.ns then some ⟨b.ns,b.cs,b.ws.set (b.ns.idxOf n)<|cF b.ns l⟩ else none
variable {b b2:Bk}
def CA {c:Nat}(h:jy b (.bY n c)=some b2):n∉b.ns/\b.ns.length<8/\b2=⟨b.ns++[n],b.cs++[c],b.ws++[0]⟩:=by
 have h:(if n∉b.ns/\b.ns.length<8 then some (⟨b.ns++[n],b.cs++[c],b.ws++[0]⟩:Bk) else none)=some b2:=h
 by_cases a:n∉b.ns/\b.ns.length<8
 ·rw[if_pos a] at h;exact⟨a.1,a.2,(tx h).symm⟩
 ·rw[if_neg a] at h;cases h
def yM {l:List Str}(h:jy b (.sees n l)=some b2):n∈b.ns/\b.ws.getD (b.ns.idxOf n) 0=0/\(∀ y∈l,y∈b.ns)/\b2=⟨b.ns,b.cs,b.ws.set (b.ns.idxOf n)<|cF b.ns l⟩:=by
 have h:(if n∈b.ns/\b.ws.getD (b.ns.idxOf n) 0=0/\∀ y∈l,y∈b.ns then some (⟨b.ns,b.cs,b.ws.set (b.ns.idxOf n)<|cF b.ns l⟩:Bk) else none)=some b2:=h
 by_cases a:n∈b.ns/\b.ws.getD (b.ns.idxOf n) 0=0/\∀ y∈l,y∈b.ns
 ·rw[if_pos a] at h;exact⟨a.1,a.2.1,a.2.2,(tx h).symm⟩
 ·rw[if_neg a] at h;cases h
def fN:Bk->List Ln->Option Bk
 | b,[]=>some b
 | b,x::r=>(jy b x).bind λa=>fN a r
theorem kC:∀ (b:Bk) (l r:List Ln),fN b (l++r)=(fN b l).bind λb'=>fN b' r
 | b,[],r=>rfl
 | b,x::l,r=>by
  rw[cons_append,fN,fN]
  cases jy b x with
  | none=>rfl
  | some b'=>exact kC b' l r
def oH {α:Type}(g:Str->α)(l:List Str):((List.range l.length).map λi=>g<|l.getD i aE)=l.map g:=by
 apply UF
 intro i
 by_cases a:i<l.length
 ·rw[et,LI a,et,b4 a];show some (g<|l.getD i aE)=some (g l[i]);rw[b3,b4 a];rfl
 ·rw[ot (by rw[b5,pS];omega),ot (by rw[b5];omega)]
theorem rO {α:Type}(f:α->Nat):∀ l:List α,(l.map λi=>((f i:Nat):Int)).sum=((l.map f).sum:Nat)
 | []=>rfl
 | x::r=>by rw[rr,U7,rO f r,rr,U7];rfl
def Gg (ns l:List Str):((List.range l.length).map λi=>((2 ^ ns.idxOf (l.getD i aE):Nat):Int)).sum=(cF ns l:Nat):=by
 rw[rO (λi=>2 ^ ns.idxOf (l.getD i aE)),oH λy=>2 ^ ns.idxOf y];rfl
def Gh (ws:List Nat)(i m:Nat):((aK ws).map V.int).set i (.int (m:Int))=(aK<|ws.set i m).map V.int:=by
 unfold aK;rw[List.map_set,List.map_set]
def oI (ws:List Nat)(m:Nat):(aK ws).map V.int++[.int (m:Int)]=(aK<|ws++[m]).map V.int:=by
 unfold aK;rw[eH,eH];rfl
variable {x:Ln}
def gW (h:eB x):(∀ y∈gU x,32∉cz y/\10∉cz y/\y.length<=30)/\(gU x).length<=41/\3<=(gU x).length:=by
 cases x with
 | bY n c=>exact⟨Cw h.1 h.2.1 h.2.2,by show 3<=41;decide,ea 3⟩
 | sees n l=>exact⟨yL h.nm,succ_le_succ h.fC,succ_le_succ h.two⟩
theorem rQ {c d:Nat}(hcd:d≠c):∀ {l:List Str},(∀ y∈l,d∉cz y)->d∉cz (Str.join ⟨#[c]⟩ l)
 | [],_=>by show d∉([]:List Nat);simp
 | [x],h=>h x eR
 | x::y::r,h=>by
  rw[bj];intro z
  rcases eG.mp z with z | z
  ·rcases eG.mp z with z | z
   ·exact h x eR z
   ·exact hcd (by simpa using z)
  ·exact rQ hcd (λy hy=>h y<|fA _ hy) z
def Gi (h:eB x):10∉cz (cM x):=rQ ad λy hy=>((gW h).1 y hy).2.1
def nz (h:eB x):(cM x).length<=1271:=by
 have h1:=fm 32<|gU x;have b:=eK 30 (gU x) λy hy=>((gW h).1 y hy).2.2;have a:=(gW h).2.1;have c:(gU x).length*31<=41*31:=yx _ a;unfold cM
 omega
def Kn (x:Ln):0<(cM x).length:=by
 cases x with
 | bY n c=>
  have e:(cM<|.bY n c).length=(cz<|Str.join ⟨#[32]⟩ [Str.ofString "hat",n,fk c]).length:=aw _;rw[e,bj,ed,ed];show 0<_+1+_
  omega
 | sees n l=>
  have e:(cM<|.sees n l).length=(cz<|Str.join ⟨#[32]⟩ (Str.ofString "sees"::n::l)).length:=aw _;rw[e,bj,ed,ed];show 0<_+1+_
  omega
def oK (L:List Ln):Str:=Str.join ⟨#[10]⟩<|L.map cM
def bH (z:Str):List Str:=if z=Str.ofString "" then [] else Txt.split z ⟨#[10]⟩
variable {L:List Ln}
def yN (h:∀ x∈L,eB x):bH (oK L)=L.map cM:=by
 cases L with
 | nil=>rfl
 | cons x r=>
  have a:0<(oK (x::r)).length:=by
   have h1:=lC 10 (l:=(x::r).map cM) (x:=cM x) (by simp)
   have b:=Kn x;unfold oK
   omega
  unfold bH;rw[if_neg (λz=>by rw[z] at a;exact absurd a Dk0)]
  exact dR 10 (by simp) λy hy=>by
   obtain⟨u,hu,rfl⟩:=j9.mp hy;exact Gi<|h u hu
def rR (h:∀ x∈L,eB x)(hl:L.length<=100):(oK L).length<=127200:=by
 have h1:=fm 10<|L.map cM;have a:=eK 1271 (L.map cM) λy hy=>by
  obtain⟨u,hu,rfl⟩:=j9.mp hy;exact nz<|h u hu
 rw[b5] at a;have b:L.length*1272<=100*1272:=yx _ hl;unfold oK
 omega
def yO:Sp:=λa H Q _=>∃ z:Str,a=[.str z]/\z.length<=1000000/\(bH z).length<=900/\∀ l H',ag H H'->H l=none->H' l=some (.lst<|(bH z).map V.str)->Q (.ref l) H'
theorem Mn {it t:Addr}{items:Array Value}(hne:t≠it):∀ (n i:Nat) (s:Shared) (Q:List Value->Shared->Prop),s.heap.IsListIter it t i->s.heap.IsList t items->i+n<=items.size->
  (∀ h',h'.IsListIter it t (i+n)->SameBut it s.heap h'->Q ((items.toList.drop i).take n) {s with heap:=h'})->wpAny (model prog w) A (draw (.ref it) n) Q E s
 | 0,i,s,Q,a,_,_,g=>by
  show wpAny _ _ (pure []) Q E s;exact ey (by simpa using g s.heap a (Heap.SameBut.refl ..))
 | n+1,i,s,Q,a,h,j,g=>by
  have b:i<items.size:=by omega
  show wpAny _ _ (pyNext (.ref it) >>= _) Q E s;refine b7 (wpAny_pyNext_list_item a h (x:=items[i]) (by simp[b]) λo d c=>?_)
  refine b7 (U0 (Mn hne n (i+1) _ _ d (h.extBut c.extBut hne) (by omega) λm e f=>ey ?_))
  have l:items.toList.drop i=items[i]::items.toList.drop (i+1):=by simp[drop_eq_getElem_cons,b]
  have:=g m (by rw[show i+(n+1)=i+1+n by omega];exact e)<|c.trans f
  rw[l,List.take_succ_cons] at this;exact this
variable {t:Addr}
def tY {items:Array Value}{Q:List Value->Shared->Prop}(hh:A.handled=none)(ht:s.heap.IsList t items)
  (hQ:∀ h',ExtBut s.heap.objs.size s.heap h'->Q items.toList {s with heap:=h'}):wpAny (model prog w) A (unpackItems (.ref t) items.size none) Q E s:=by
 have a:t≠s.heap.objs.size:=by obtain⟨o,i,_⟩:=ht;exact j6<|lt_size i
 unfold unpackItems;refine b7 ?_
 ·unfold notIterableAtAll;refine b7<|wpAny_specialOf ht.typeIs F.slot_list_iter.lookup ?_;refine ey ?_;simp only[Bool.false_eq_true,if_false];refine b7<|U0<|SZ ht ?_;refine b7 (U0 (Mn a items.size 0 _ _ ⟨_,hO _ rfl,rfl,rfl⟩ (ht.push _) (by omega) λj d c=>?_))
  have h:List.take items.size (List.drop 0 items.toList)=items.toList:=by
   rw[drop_zero];exact D2 (by simp)
  rw[h];rw[if_neg (by simp)]
  have f:j.IsList t items:=(ht.push _).extBut c.extBut a;refine b7 (U0 (wpAny_pyNext_list_end hh d f (by simp) λl g=>?_))
  simp only[isSome_none,Bool.false_eq_true,if_false];refine ey<|hQ l λb o hb e=>g b o hb<|c.extBut b o hb<|c8 _ e
variable {elts:List Expr}
def Ko {env:Env}{x1}{pos:Pos}{items:Array Value}{Q:Unit->Shared->Prop}(hh:A.handled=none)(ht:s.heap.IsList t items)
  (hn:(assignEach elts env).length=items.size) (hstar:(assignEach elts env).findIdx? (·.1)=none)
  (h:∀ h',ExtBut s.heap.objs.size s.heap h'->wpAny (model prog w) A (assignInOrder ((assignEach elts env).map (·.2)) items.toList) Q E {s with heap:=h'}) :
  wpAny (model prog w) A (assign (.Tuple elts x1 pos) env<|.ref t) Q E s:=by
 rw[assign_Tuple];refine b7<|wpAny_standAt ?_;unfold unpack;rw[hn,hstar];exact b7<|U0<|tY hh ht h
def OC (K:Frag)(n:Nat)(t:zV):TG:=λv σ H Q=>∃ a xs,v=.ref a/\au K H a xs/\xs.length=n/\t xs σ H Q
variable {t:zV}{n:Nat}
def OD {es:List Expr}{k:Nat}(hc:X.calm=true)(h:Pu X es t)
  (hn:(assignEach es X.env).length=n:=by rfl) (hst:(assignEach es X.env).findIdx? (·.1)=none:=by rfl):PG X (.Tuple es k pos) (OC X.K n t):=by
 intro c s σ H v u Q I r hw;obtain⟨a,l,m,hq,p,hw⟩:=hw;subst m
 cases r
 obtain⟨f,d,j,hz⟩:=I.list hq;refine Ko (I.ok.hd hc) j.isList (by simp[hn,<-p,d.length]) hst λi hx=>?_
 have g:Inv X c σ H {s with heap:=i}:=I.kept (t':=s.toks) λb o e=>hx b o (j6<|lt_size e) e;exact h c _ σ H l _ Q g (by simpa using d) hw
variable {K:Frag}
def TF {es:List Expr}{kk:Nat}{tgs:zV}(hc:X.calm=true)(hK:X.K=K)(h:Qy X es tgs)(hn:(assignEach es X.env).length=n:=by rfl)(hst:(assignEach es X.env).findIdx? (·.1)=none:=by rfl):QG X (.Tuple es kk pos) (OC K n tgs):=⟨by subst hK;exact OD hc h.h hn hst⟩
def Gj {v:V}{σ:St}{Q:St->Hp->Prop}:OC K n t v σ H Q=∃ a xs,v=.ref a/\au K H a xs/\xs.length=n/\t xs σ H Q:=rfl
def cZ {α:Type}(l:List α)(k:Nat)(x:α):List α:=l.take k++x::l.drop k
def Kp:V->List V->Hp->VK->Prop:=λx a H Q=>∃ (l:Addr) (xs:List V) (k:Nat) (y:V),x=.ref l/\a=[.int (k:Int),y]/\H l=some (.lst xs)/\xs.length<1000000/\k<=xs.length/\Q .bx (upd H l<|.lst<|cZ xs k y)
def Kq {x y:V}{us:List Value}(r:Vals [x,y] us):∃ u v,us=[u,v]/\RelV x u/\RelV y v:=by
 cases r with
 | cons a r=>cases r with
  | cons b r=>cases r;exact⟨_,_,rfl,a,b⟩
def Gk {k:Nat}(h:k<=1000000):¬(!Builtin.List.listFitsIndex (k:Int))=true:=by
 have:Builtin.List.listFitsIndex (k:Int)=true:=by
  unfold Builtin.List.listFitsIndex;rw[ef];have a:(2:Int) ^ 63=9223372036854775808:=by decide
  exact⟨cc (by rw[a];omega),cc (by rw[a];omega)⟩
 rw[this];decide
theorem A1 {α β:Type}{F:α->β->Prop}{a:α}{b:β}:∀ {l₁:List α} {l₂:List β} (k:Nat),Paired F l₁ l₂->F a b->Paired F (cZ l₁ k a) (cZ l₂ k b)
 | _,_,0,r,h=>.cons h r
 | [],_,k+1,.nil,h=>.cons h .nil
 | _::_,_::_,k+1,.cons c r,h=>.cons c<|A1 k r h
def lE:Tf X "list.insert" Kp:=by
 intro i s σ H x A v D Q I o m h;obtain⟨l,B,k,y,rfl,rfl,j,hz,hk,q⟩:=h
 cases o
 obtain⟨u,w,rfl,⟨t,rfl⟩,f⟩:=Kq m;obtain⟨z,a,n,r,C,e⟩:=I.NH j;have g:=r.length;have p:(1000002:Nat)<=sizeLine:=by decide
 have c:a.toArray.size<=sizeLine:=by rw[gc];omega
 have b:=Gk (k:=k) (by omega)
 generalize d:(k:Int)=ki at b ⊢;have M:=PySem.AutoSeq1.list_insert_list_int_val_1 l a.toArray n ki t w b c;refine UV slot_list_insert ⟨_,e,rfl⟩ F.entry_list_insert (F.args_list_insert_3 _ _ _) M ⟨e,?_⟩;refine⟨.bx,_,I.NG (its':=cZ a k w) j e ?_ (A1 k r f) ?_,rfl,q⟩
 ·subst d;show (a.toArray.extract 0<|if (k:Int)<0 then ((k:Int)+(a.toArray.size:Int)).toNat else min (k:Int).toNat a.toArray.size).push w++a.toArray.extract (if (k:Int)<0 then ((k:Int)+(a.toArray.size:Int)).toNat else min (k:Int).toNat a.toArray.size)=_
  rw[if_neg (by omega),FM,gc,Nat.min_eq_left (by omega)]
  apply Array.toList_inj.mp
  simp[cZ]
  exact D2 (by rw[mv];omega)
 ·unfold cZ;rw[ed,ls,tz,mv]
  omega
def isStr (k:Str):Value->Bool
 | .str x _=>x == k
 | _=>false
theorem oM (k:Str):∀ {xs:List Str} {vs:List Value},Vals (xs.map V.str) vs->∀ (j:Nat) (h1:j<vs.length) (h2:j<xs.length),isStr k vs[j]=(xs[j] == k)
 | x::xs,_,.cons ⟨t,rfl⟩ r,0,_,_=>rfl
 | x::xs,_,.cons ⟨t,rfl⟩ r,j+1,h1,h2=>oM k r j (Nat.lt_of_succ_lt_succ h1)<|Nat.lt_of_succ_lt_succ h2
theorem wq (k:Str)(t:Tok){A:Around}{s:Shared}:∀ {xs:List Str} {vs:List Value},Vals (xs.map V.str) vs->∀ y,y∈vs->EqAt A s y (.str k t) (isStr k y)
 | [],_,.nil,_,hy=>nomatch hy
 | x::xs,_,.cons ⟨u,rfl⟩ r,y,hy=>by
  rcases gd.mp hy with rfl | hy
  ·exact PySem.SeqAt.EqAt.str_str x u k t
  ·exact wq k t r y hy
variable {j:Nat}
def A3 {k:Str}(h:j<ns.idxOf k)(h2:j<ns.length):(ns[j] == k)=false:=by
 have:=List.not_of_lt_findIdx (p:=(· == k)) h
 simpa using this
def Kr (K:Frag):V->List V->Hp->VK->Prop:=λx a H Q=>∃ (l:Addr) (ns:List Str) (k:Str),x=.ref l/\a=[.str k]/\au K H l (ns.map V.str)/\k∈ns/\Q (.int (ns.idxOf k:Nat)) H
def CB (hK:X.K=K):xR X "list.index" (Kr K):=by
 subst hK;intro w s σ H x N v O Q I L C h;obtain⟨l,e,k,rfl,rfl,D,hk,q⟩:=h
 cases L
 obtain⟨u,rfl,E⟩:=C.one;obtain⟨t,rfl⟩:=E;obtain⟨g,r,M,hz⟩:=I.list D;obtain⟨⟨J,B,A,G⟩,p,i,n,o⟩:=id M.isList
 simp only at i o
 subst i o;have c:=r.length;rw[b5] at c;have d:e.idxOf k<e.length:=kc.mpr hk;rw[b5] at hz;have m:sizeLine<2 ^ 62:=by decide
 refine UV slot_list_index ⟨_,p,rfl⟩ PySem.F.entry_list_index (PySem.F.args_list_index_2 _ _) (list_indexAt l g.toArray n B G (.str k t) (isStr k) (e.idxOf k) (by rw[gc,<-c];exact d) (by omega) ?a ?b) ⟨p,λy hy=>wq k t r y (by simpa using hy),?_⟩
 case a=>
  have z:=oM k r (e.idxOf k) (by rw[<-c];exact d) d
  rw[U1 d,Vm] at z;exact z
 case b=>
  intro j hj f;have z:=oM k r j (by simpa using hj) (by omega)
  rw[A3 f] at z;exact z
 exact⟨.int _,H,I.tok _,⟨_,rfl⟩,q⟩
structure mB (ns:List Str)(cs ws:List Nat):Prop where
 nm:Kk ns 8
 lc:cs.length=ns.length
 lw:ws.length=ns.length
 UA:∀ c∈cs,0<c/\c<10 ^ 30
 Uc:∀ j,j<ns.length->ws.getD j 0<2 ^ ns.length
 MO:∀ j,j<ns.length->ws.getD j 0 / 2 ^ j % 2=0
def rS (H:Hp)(b:Addr)(ns:List Str)(cs ws:List Nat):Prop:=∃ a1 a2 a3,H b=some (.lst [.ref a1,.ref a2,.ref a3])/\H a1=some (.lst<|ns.map V.str)/\H a2=some (.lst<|(aK cs).map V.int)/\H a3=some (.lst<|(aK ws).map V.int)
variable {cs:List Nat}
def rS.mono {H':Hp}{b:Addr}{ws:List Nat}(h:rS H b ns cs ws)(s:ag H H'):rS H' b ns cs ws:=by
 obtain⟨e,f,a,d,h1,g,c⟩:=h;exact⟨e,f,a,s _ _ d,s _ _ h1,s _ _ g,s _ _ c⟩
def kX (n w:Nat):List Nat:=(List.range n).filter λj=>decide<|w / 2 ^ j % 2=1
theorem A4 (w:Nat):∀ n,((kX n w).map λj=>2 ^ j).sum=w % 2 ^ n
 | 0=>by show 0=_;rw[Nat.pow_zero,Nat.mod_one]
 | n+1=>by
  have a:=A4 w n;unfold kX at a ⊢;rw[Me,G4,eH,List.sum_append,a,Nat.mod_pow_succ]
  congr 1
  rcases Va (w / 2 ^ n) with e | e
  ·rw[List.filter_cons_of_neg (by simp[e]),e];simp
  ·rw[List.filter_cons_of_pos (by simp[e]),e];simp
variable {w:Nat}
def nA:j∈kX n w↔j<n/\w / 2 ^ j % 2=1:=by
 unfold kX;rw[tp,kf,decide_eq_true_iff]
def OE (n w:Nat):(kX n w).Nodup:=List.nodup_range.sublist List.filter_sublist
inductive Mx where
 | bY (j:Nat)
 | sees (i:Nat) (l:List Nat)
def jf (ns:List Str)(cs:List Nat):Mx->Ln
 | .bY j=>.bY (ns.getD j aE)<|cs.getD j 0
 | .sees i l=>.sees (ns.getD i aE)<|l.map λj=>ns.getD j aE
def jg {α β:Type}(f:α->β)(M:List α)(q:Nat)(x:α):(cZ M q x).map f=cZ (M.map f) q (f x):=by
 unfold cZ;rw[eH,rr,Vu,SL]
abbrev jz (ns:List Str)(cs:List Nat)(x:Mx):Str:=cM<|jf ns cs x
variable {ws:List Nat}{i:Nat}
def getD_inj (P:mB ns cs ws)(hi:i<ns.length)(hj:j<ns.length)(e:ns.getD i aE=ns.getD j aE):i=j:=by
 rw[b3,b3,b4 hi,b4 hj] at e;exact(List.getElem_inj P.nm.nd).mp e
def tZ (P:mB ns cs ws)(hj:j<ns.length):eB (jf ns cs<|.bY j):=by
 have hc:cs.getD j 0∈cs:=by
  rw[b3,b4 (by rw[P.lc];exact hj)];exact pP _
 exact⟨P.nm.nm _<|getD_memS hj,P.UA _ hc⟩
theorem Gm (P:mB ns cs ws):∀ {l:List Nat},l.Nodup->(∀ j∈l,j<ns.length)->(l.map λj=>ns.getD j aE).Nodup
 | [],_,_=>.nil
 | x::r,h,a=>by
  have b:=AC.mp h;rw[rr,AC];refine⟨λz=>?_,Gm P b.2 λj hj=>a j<|fA _ hj⟩;obtain⟨j,hj,e⟩:=j9.mp z
  have:=getD_inj P (a j<|fA _ hj) (a x eR) e
  exact b.1<|this ▸ hj
variable {l:List Nat}
def uc (P:mB ns cs ws)(hi:i<ns.length)(hp:l.Perm (kX ns.length<|ws.getD i 0))(hl:l≠[]):eB (jf ns cs<|.sees i l):=by
 have hm:∀ j∈l,j<ns.length/\ws.getD i 0 / 2 ^ j % 2=1:=λj hj=>nA.mp<|hp.mem_iff.mp hj;have b:l.Nodup:=hp.nodup_iff.mpr<|OE _ _;have a:i∉l:=λz=>by have:=(hm i z).2;rw[P.MO i hi] at this;cases this
 have c:l.length<=ns.length:=by
  rw[hp.length_eq];unfold kX
  have:=zO (λj=>decide<|ws.getD i 0 / 2 ^ j % 2=1)<|List.range ns.length
  rw[pS] at this;exact this
 have f:=P.nm.fC;have d:0<l.length:=Do.mpr hl;have e:(ns.getD i aE::l.map λj=>ns.getD j aE)=(i::l).map λj=>ns.getD j aE:=rfl;show SV (ns.getD i aE::l.map λj=>ns.getD j aE);rw[e];refine⟨by rw[b5,ls];omega,by rw[b5,ls];omega,Gm P (AC.mpr ⟨a,b⟩) ?_,?_⟩
 ·intro j hj
  rcases gd.mp hj with z | z
  ·rw[z];exact hi
  ·exact(hm j z).1
 ·intro x hx;obtain⟨j,hj,rfl⟩:=j9.mp hx
  rcases gd.mp hj with z | z
  ·rw[z];exact P.nm.nm _<|getD_memS hi
  ·exact P.nm.nm _<|getD_memS (hm j z).1
def gD {k:Nat}(h:k<l.length):((aK l).map V.int).getD k .bx=.int ((l.getD k 0:Nat):Int):=by
 unfold aK;rw[b3,et,et,b4 h,b3,b4 h];rfl
def fq {α:Type}(g:Nat->α)(l:List Nat):((List.range l.length).map λi=>g<|l.getD i 0)=l.map g:=by
 apply UF
 intro i
 by_cases a:i<l.length
 ·rw[et,LI a,et,b4 a];show some (g<|l.getD i 0)=some (g l[i]);rw[b3,b4 a];rfl
 ·rw[ot (by rw[b5,pS];omega),ot (by rw[b5];omega)]
def gE {k:Nat}(h:k<l.length):l.getD k 0∈l:=by
 rw[b3,b4 h];exact pP h
def Rt (H0:Hp)(b dr a1 a2 a3 l:Addr)(ns:List Str)(cs:List Nat)(k:Nat)(σ:St)(H:Hp):Prop:=∃ y6 y7 y8 y9 y10 y11 y12:Option V,σ=[some (.ref b),some<|.ref dr,some<|.ref a1,some<|.ref a2,some<|.ref a3,some<|.ref l,y6,y7,y8,y9,y10,y11,y12]/\ag H0 H/\H l=some (.lst<|(((List.range k).map Mx.bY).map<|jz ns cs).map V.str)
def Ru (H0:Hp)(b dr a1 a2 a3 l:Addr)(ns:List Str)(cs:List Nat)(σ:St)(H:Hp):Prop:=∃ (o:Addr) (od:List Nat) (y6 y8 y9 y10 y11 y12:Option V),σ=[some (.ref b),some<|.ref dr,some<|.ref a1,some<|.ref a2,some<|.ref a3,some<|.ref l,y6,some<|.ref o,y8,y9,y10,y11,y12]/\ag H0 H/\H l=some (.lst<|(((List.range ns.length).map Mx.bY).map<|jz ns cs).map V.str)/\H o=some (.lst<|(aK od).map V.int)/\od.Perm (List.range ns.length)/\l≠o
def Rv (H0:Hp)(b dr a1 a2 a3 l o:Addr)(i:Nat)(bt:List Nat)(σ:St)(H:Hp):Prop:=∃ (s:Addr) (sm:List Nat) (y6 y10 y11 y12:Option V),σ=[some (.ref b),some<|.ref dr,some<|.ref a1,some<|.ref a2,some<|.ref a3,some<|.ref l,y6,some<|.ref o,some<|.int (i:Int),some<|.ref s,y10,y11,y12]/\ag H0 H/\H s=some (.lst<|(aK sm).map V.int)/\sm.Perm bt
def Rw:V->Hp->VK->Prop:=λx H Q=>(∃ y,x=.str y/\y.length<=sizeLine/\Q (.str y) H)∨(∃ i:Int,x=.int i/\i.natAbs.log2<1920/\Q (.str<|Str.ofString<|toString i) H)
def Rx (tv:TE):TE:=λσ H Q=>tv σ H λx H1=>Rw x H1 Q
variable {v:Expr}{tv:TE}
def Ry (hv:QE X v tv):QE X (.FormattedValue v (-1) none pos) (Rx tv):=⟨by
 intro a s σ H Q I h;refine FormattedValue_plain<|bU (hv.h a s σ H _ I h) λu j ⟨x,H1,b,c,g⟩=>?_
 rcases g with ⟨y,rfl,hy,q⟩ | ⟨i,rfl,d,q⟩
 ·obtain⟨t,rfl⟩:=c;exact formatField_str (λt' f=>⟨.str y,H1,b.kept (t':=f) λ_ _ e=>e,⟨_,rfl⟩,q⟩) hy
 ·obtain⟨t,rfl⟩:=c;exact formatField_int_small d ⟨.str _,H1,b.kept (t':=_) λ_ _ e=>e,⟨_,rfl⟩,q⟩⟩
def Py:List TE->Str->TE
 | [],a=>λ_ H Q=>a.length<=sizeLine/\Q (.str a) H
 | t::r,a=>λσ H Q=>t σ H λx H1=>∃ y,x=.str y/\(a++y).length<=sizeLine/\Py r (a++y) σ H1 Q
structure QJ (X:Cx)(es:List Expr)(ts:List TE):Prop where
 h:∀ (acc:Str) (pins:aO0) (s:Shared) (σ:St) (H:Hp) (Q:VK),Inv X pins σ H s->Py ts acc σ H Q->wpAny (model X.prog X.w) X.A (joinParts acc<|evalEach es X.env) (EP X pins σ Q) X.xe s
def OF:QJ X [] []:=⟨λa b s σ H Q I h=>joinParts_nil ⟨.str a,H,I.tok _,⟨_,rfl⟩,h.2⟩ h.1⟩
variable {t:TE}{ts:List TE}
def nB {e:Expr}{es:List Expr}(he:QE X e t)(hr:QJ X es ts):QJ X (e::es) (t::ts):=⟨λf a s σ H Q I h=>by
 refine joinParts_cons (x:=eval e X.env) (rest:=evalEach es X.env)<|bU (he.h a s σ H _ I h) λu g ⟨x,H1,b,c,d⟩=>?_;obtain⟨y,rfl,hy,q⟩:=d;obtain⟨i,rfl⟩:=c;exact⟨hy,hr.h _ a g σ H1 Q b q⟩⟩
variable {e2:Expr}
def Rz {e:Expr}{es:List Expr}(h:QJ X (e::e2::es) ts):QE X (.JoinedStr (e::e2::es) pos) (Py ts Str.empty):=⟨λa s σ H Q I q=>JoinedStr_many<|h.h Str.empty a s σ H Q I q⟩
def Mo {σ:St} :Rx tv σ H Q=tv σ H λx H1=>Rw x H1 Q:=rfl
variable {acc:Str}
def Mp {σ:St} :Py [] acc σ H Q=(acc.length<=sizeLine/\Q (.str acc) H):=rfl
def Mq {r:List TE}{σ:St} :Py (t::r) acc σ H Q=t σ H λx H1=>∃ y,x=.str y/\(acc++y).length<=sizeLine/\Py r (acc++y) σ H1 Q:=rfl
def Mr (K:Frag):V->Int->Int->Hp->VK->Prop:=λx a b H Q=>∃ l xs,x=.ref l/\au K H l xs/\b≠0/\∀ (R:List Nat) p,H p=none->(R.filterMap λi=>xs[i]?).length<=sizeLine->Q (.ref p) (upd H p<|.lst<|R.filterMap λi=>xs[i]?)
def Gn (K:Frag)(te tl ts:TE):TE:=λσ H Q=>te σ H λx H1=>tl σ H1 λy d=>∃ a,y=.int a/\ts σ d λz c=>∃ b,z=.int b/\Mr K x a b c Q
theorem rV {xs:List V}{its:List Value}(r:Vals xs its):∀ R:List Nat,Vals (R.filterMap λi=>xs[i]?)<|R.filterMap λi=>its[i]?
 | []=>.nil
 | k::R=>by
  have a:=rV r R;have c:=r.length;rw[filterMap_cons,filterMap_cons]
  by_cases hk:k<xs.length
  ·obtain⟨u,hu,b⟩:=r.get<|b4 hk;rw[b4 hk,hu];exact .cons b a
  ·rw[ot (by omega),ot (by omega)]
   exact a
variable {e lo st:Expr}{te tl ts:TE}{p2:Pos}
def Ks {ops:Value->Value->List Value}(he:PE X e te)(hlo:PE X lo tl)(hs:PE X st ts)(hsub:∀ o i,subscripted (.Slice (some lo) none (some st) p2) false o i=operate (ops o i) (getItem o i)):PE X (.Subscript e (.Slice (some lo) none (some st) p2) pos) (Gn X.K te tl ts):=by
 intro d s σ H Q I h;refine Subscript_<|bU (he d s σ H _ I h) λv P ⟨x,H1,J,Y,L⟩=>?_;refine wpAny_Slice ?_;rw[evalPart_some];refine bU (hlo d P σ H1 _ J L) λvl O ⟨y,H2,I2,G,p⟩=>?_;obtain⟨f,rfl,p⟩:=p;rw[evalPart_none];refine ey ?_;rw[evalPart_some];refine bU (hs d O σ H2 _ I2 p) λvs g ⟨z,S,W,N,U⟩=>?_;obtain⟨j,rfl,a,D,rfl,hx,hb,q⟩:=U
 cases Y
 obtain⟨m,rfl⟩:=G;obtain⟨t,rfl⟩:=N;have u:Inv X d σ S {g with heap:=g.heap.push {cls:=.type "slice",data:=.fields #[.int f m,.none,.int j t]}}:=W.kept (t':=g.toks) λb ob q=>c8 _ q;obtain⟨c,r,C,hz⟩:=u.list hx;have B:=r.length;show wpAny (model X.prog X.w) X.A (subscriptTail e (.Slice (some lo) none (some st) p2) (.ref a)<|.ref g.heap.objs.size) (EP X d σ Q) X.xe {g with heap:=g.heap.push {cls:=.type "slice",data:=.fields #[.int f m,.none,.int j t]}};refine tail_any (T:="list") (ops:=ops (.ref a)<|.ref g.heap.objs.size) C.isList.typeIs slot_list_getitem.lookup ?_ (hsub _ _);refine wpAny_getItem_list_slice C.isList (Heap.IsSliceOf.new ..) (.int f m) .none (.int j t) (by simpa using hb) ?_ (by rw[gc]<;>omega)
 obtain⟨R,Z⟩:∃ R:List Nat,slicePick c.toArray (some f) none (some j)=(R.filterMap λi=>c[i]?).toArray:=by
  unfold slicePick;refine⟨sliceRange (sliceBounds (some f) none (some j) c.toArray.size).1 (sliceBounds (some f) none (some j) c.toArray.size).2.1 (sliceBounds (some f) none (some j) c.toArray.size).2.2,?_⟩;have M:(λk=>c.toArray[k]?)=(λk:Nat=>c[k]?):=by funext k;simp
  rw[M]
 have n:=slicePick_size_le c.toArray (some f) none<|some j;rw[Z] at n ⊢;rw[gc,gc] at n;have E:=rV r R;have F:=E.length;have l:(R.filterMap λi=>D[i]?).length<=sizeLine:=by omega
 exact⟨.ref _,_,u.laid (t':=g.toks) (o:=.lst<|R.filterMap λi=>D[i]?) (λb ob q=>c8 _ q) (ea _) ⟨l,_,0,E,hO _ rfl⟩,rfl,q R _ (u.aY.fresh<|ea _) l⟩
def A7 {ops:Value->Value->List Value}(he:QE X e te)(hlo:QE X lo tl)(hs:QE X st ts)(h:X.K=K)(hsub:∀ o i,subscripted (.Slice (some lo) none (some st) p2) false o i=operate (ops o i) (getItem o i):=by intro _ _;with_unfolding_all rfl):QE X (.Subscript e (.Slice (some lo) none (some st) p2) pos) (Gn K te tl ts):=⟨by subst h;exact Ks he.h hlo.h hs.h hsub⟩
def Gp {σ:St} :Gn K te tl ts σ H Q=te σ H λx H1=>tl σ H1 λy H2=>∃ a,y=.int a/\ts σ H2 λz H3=>∃ b,z=.int b/\Mr K x a b H3 Q:=rfl
def jh (ns:List Int)(R:List Nat):(R.filterMap λi=>(ns.map V.int)[i]?)=(R.filterMap λi=>ns[i]?).map V.int:=by
 rw[List.map_filterMap];have a:(λi=>(ns.map V.int)[i]?)=(λi:Nat=>Option.map V.int ns[i]?):=by funext k;rw[et]
 rw[a]
def cf (ns:List Str)(ws:List Nat):List Mx:=(List.range ns.length).map Mx.bY++((List.range ns.length).filter λi=>decide<|ws.getD i 0≠0).map λi=>.sees i<|kX ns.length<|ws.getD i 0
def Ms (P:mB ns cs ws)(hi:i<ns.length):kX ns.length (ws.getD i 0)≠[]↔ws.getD i 0≠0:=by
 have a:=A4 (ws.getD i 0) ns.length;rw[Nat.mod_eq_of_lt (P.Uc i hi)] at a
 constructor
 ·intro h z;refine h ?_
  apply List.eq_nil_iff_forall_not_mem.mpr
  intro j hj
  have:=(nA.mp hj).2
  rw[z,Nat.zero_div] at this
  cases this
 ·intro h z;rw[z] at a;exact h a.symm
def rW:(cf ns ws).length<=2*ns.length:=by
 unfold cf
 have:=zO (λi=>decide<|ws.getD i 0≠0)<|List.range ns.length
 rw[pS] at this;rw[ed,b5,b5,pS]
 omega
def Kt (ns:List Str)(ws:List Nat)(k:Nat):List Mx:=(List.range ns.length).map Mx.bY++((List.range k).filter λi=>decide<|ws.getD i 0≠0).map λi=>.sees i<|kX ns.length<|ws.getD i 0
def wt (ns:List Str)(ws:List Nat)(k:Nat):Kt ns ws (k+1)=if ws.getD k 0≠0 then Kt ns ws k++[.sees k (kX ns.length<|ws.getD k 0)] else Kt ns ws k:=by
 unfold Kt;rw[Me,G4,eH]
 by_cases c:ws.getD k 0≠0
 ·have e:(List.filter (λi=>decide<|ws.getD i 0≠0) [k])=[k]:=by
   rw[List.filter_cons,if_pos<|cc c];rfl
  rw[if_pos c,e,<-UU];rfl
 ·have e:(List.filter (λi=>decide<|ws.getD i 0≠0) [k])=[]:=by
   rw[List.filter_cons,if_neg (by rw[dy c];exact hI)];rfl
  rw[if_neg c,e,map_nil,F2]
def Ku (h:w<2 ^ n):aW w=kX n w:=by
 rw[<-rF h];unfold kX;have a:w.testBit=λj=>decide (w / 2 ^ j % 2=1):=by funext j;exact uU
 rw[a]
def RA (H0:Hp)(t a1 r:Addr)(ns:List Str)(cs ws:List Nat)(k:Nat)(σ:St)(H:Hp):Prop:=∃ y3 y4 y5:Option V,σ=[some (.ref t),some<|.ref a1,some<|.ref r,y3,y4,y5]/\ag H0 H/\H r=some (.lst<|((Kt ns ws k).map<|jz ns cs).map V.str)
def Fl (h:Heap)(a T C:Addr)(d:Option Addr)(fl:Value):Prop:=
 ∃ oe vs oT ts,h.get? a=some oe/\oe.cls=.ref C/\oe.dict=d/\oe.data=.fields vs/\vs[1]?=some (.ref T)/\T≠a/\h.get? T=some oT/\oT.data=.fields ts/\ts[3]?=some fl
def RB (h:Heap)(H:Hp)(a T C:Addr)(d:Option Addr):Prop:=Fl h a T C d .none/\H a=none/\H T=none
def kY (P:Program)(w:World):BX:=λb H s E e c=>
 ∃ a T C d H',e=.ref a/\c.os=s.os/\AllBare c.gens/\Un (js b) [] H H' s.heap c.heap/\ia P w H' c.heap/\s.heap.get? a=none/\s.heap.get? T=none/\RB c.heap H' a T C d/\E (.ref C) d H'
variable {w:World}
def oO:Passes (kY P w) X E0:=λ_ _ _ _ _ _ _ h=>by
 obtain⟨_,_,_,_,_,_,_,_,_,_,_,_,_,q⟩:=h;exact q.elim
variable {fs bad:List Addr}{H0 H1:Hp}{h0 h1 h2:Heap}
def Gq (u:Un fs [] H0 H1 h0 h1)(hb:∀ b∈bad,h0.get? b=none)(k:∀ b o,h1.get? b=some o->b∉fs->b∉bad->h2.get? b=some o)
  (sl:∀ b o,h1.get? b=some o->b∈fs->b∉bad->∃ s,h2.get? b=some {o with slots:=s}):Un fs [] H0 H1 h0 h2:=by
 have c:∀ b o,h0.get? b=some o->b∉bad:=λb o e z=>by rw[hb b z] at e;cases e
 refine⟨λb o e n a hx=>k b o (u.keep b o e n a hx) a<|c b o e,λb o e n a hx=>?_,u.free,λb o e hx=>?_,u.mT,u.l9,u.mS⟩
 ·obtain⟨i,d⟩:=u.slot b o e n a hx;obtain⟨g,f⟩:=sl b _ d a<|c b o e;exact⟨g,f⟩
 ·obtain⟨h,d⟩:=u.there b o e hx
  by_cases a:b∈fs
  ·obtain⟨g,f⟩:=sl b _ d a<|c b o e;exact⟨_,f⟩
  ·exact⟨_,k b _ d a<|c b o e⟩
def A8 (x:ia P w H1 h1)(k:∀ b o,h1.get? b=some o->b∉fs->b∉bad->h2.get? b=some o)(nf:∀ b∈fs,H1 b=none)(nb:∀ b∈bad,H1 b=none):ia P w H1 h2:=λa o e=>
 (x a o e).nJ (λb u hb q=>k b u q (λz=>by
  rcases hb with rfl | hb
  ·rw[nf b z] at e;cases e
  ·rw[nf b z] at hb;cases hb) (λz=>by
  rcases hb with rfl | hb
  ·rw[nb b z] at e;cases e
  ·rw[nb b z] at hb;cases hb)) (λ_ q=>q) λ_ _ q=>q
def ia.there {h:Heap}{o:HO}(x:ia P w H h)(e:H a=some o):∃ u,h.get? a=some u:=by
 have z:=x a o e
 cases o with
 | lst c=>obtain⟨_,_,_,_,e⟩:=z;exact⟨_,e⟩
 | tup c=>obtain⟨_,_,_,o,e,_⟩:=z;exact⟨_,e⟩
 | dK b=>obtain⟨_,_,_,_,o,_,_,e,_⟩:=z;exact⟨_,e⟩
 | dT b=>obtain⟨_,_,_,_,o,_,_,e,_⟩:=z;exact⟨_,e⟩
 | set S n=>obtain⟨o,_,_,_,e,_⟩:=z;exact⟨_,e⟩
 | ins C d fs=>obtain⟨_,_,_,e,_⟩:=z;exact⟨_,e⟩
 | own y=>exact z
 | xd fs=>obtain⟨_,⟨_,_,_,e,_⟩,_⟩:=z;exact⟨_,e⟩
 | Iw g j=>obtain⟨_,_,_,e⟩:=z;exact⟨_,e⟩
 | iF ob u=>obtain⟨e,_⟩:=z;exact⟨_,e⟩
 | MR i=>exact⟨_,z⟩
 | met f y=>exact⟨_,z⟩
 | ext φ=>obtain⟨_,e,_⟩:=z;exact e
def ia.OG {h:Heap}(x:ia P w H h)(e:h.get? a=none):H a=none:=by
 cases q:H a with
 | none=>rfl
 | some o=>obtain⟨u,z⟩:=x.there q;rw[e] at z;cases z
def CC (o:Obj)(f):(o.mapFields f).dict=o.dict:=by
 cases o with
 | mk c d a b=>cases a<;>rfl
def Kept (l:List Addr)(bad:List Addr)(h h':Heap):Prop:=(∀ b o,h.get? b=some o->b∉l->b∉bad->h'.get? b=some o)/\∀ b o,h.get? b=some o->b∉bad->∃ sl,h'.get? b=some {o with slots:=sl}
variable {l:List Addr}
def Kept.trans {bad':List Addr}{h:Heap}(x:Kept l bad h h1)(y:Kept l bad' h1 h2)(hs:∀ b o,h.get? b=some o->b∈bad'->b∈bad):Kept l bad h h2:=by
 refine⟨λb o e c a=>y.1 b o (x.1 b o e c a) c λz=>a<|hs b o e z,λb o e a=>?_⟩;obtain⟨i,f⟩:=x.2 b o e a;obtain⟨d,g⟩:=y.2 b _ f λz=>a<|hs b o e z;exact⟨d,g⟩
variable {M:Model}{base:Heap}{env:Env}{outer:List Env}{L C:Addr}{d:Option Addr}{Q:Unit->Shared->Prop}{oe:Obj}
def rX {vs:Array Value}{head:Value}{nx:Bool}(hfr:A.frames=some (env::outer))(hl:s.heap.FunFrames base (env::outer))(hf:env.frame=some L)
  (he:s.heap.get? a=some oe) (hc:oe.cls=.ref C) (hdi:oe.dict=d) (hd:oe.data=.fields vs) (hsz:1<vs.size)
  (h:∀ h' T,s.heap.get? T=none->Fl h' a T C d (rawInt L)->Kept (js (env::outer)) [a] s.heap h'->Q () {s with heap:=h'}) :
  wpAny M A (do let fr<-frameOf env;let pl<-entryPlaceOf L nx;let t<-EntryCells.newEntry head fr .none (rawInt L) .none pl;setField (.ref a) 1 t) Q E s:=by
 have y:a∉(env::outer).filterMap (·.frame):=λhm=>by
  obtain⟨_,o,r,hn⟩:=hl.mem hm;rw[he] at r;cases r;exact hn vs hd
 refine b7<|wpAny_frameOf_fun hfr hl hf λh1 g=>?_;refine b7<|wpAny_entryPlaceOf λpl f=>?_;unfold EntryCells.newEntry newFields;refine b7<|Vg ?_ (f.sizeOk5 _ _ _ _ _);have u:h1.get? a=some oe:=(g.2.1 a y).trans he;have lt:a<h1.objs.size:=lt_size u;generalize n:({cls:=.type "traceback",dict:=none,data:=.fields ([head,.ref L,.none,rawInt L,.none]++(if pl.isEmpty then List.replicate 6 Value.none else pl)).toArray}:Obj)=oT
 have i:oT.isFreed=false:=by rw[<-n];rfl
 have p:(h1.push oT).get? a=some oe:=c8 _ u;have w:(h1.push oT).get? h1.objs.size=some oT:=hO h1 i;refine wpAny_setField p hd hsz<|h _ h1.objs.size (get?_none_of_le<|Nat.le_of_eq g.1.symm) ?_ ⟨λb o l x j=>?_,λb o l j=>?_⟩
 ·have m:h1.objs.size≠a:=Ve lt;have e:=U9 hd (·.setIfInBounds 1 (Value.ref h1.objs.size));refine⟨_,_,oT,_,get?_update_self _ p<|Obj.isFreed_of_fields e,(Obj.cls_mapFields _ _).trans hc,(CC _ _).trans hdi,e,by simp[hsz],m,(S0 _ _ m.symm).trans w,by rw[<-n],?_⟩
  first | (simp;done) | (rcases f with rfl | ⟨_,_,_,_,_,_,_,rfl⟩<;>simp)
 ·have c:b≠a:=λz=>j (by rw[z];exact eR)
  rw[S0 _ _ c.symm];exact c8 _<|(g.2.1 b x).trans l
 ·have c:b≠a:=λz=>j (by rw[z];exact eR)
  obtain⟨v,q⟩:=g.2.2 b o l;refine⟨v,?_⟩;rw[S0 _ _ c.symm];exact c8 _ q
def yP {vs:Array Value}(hfr:A.frames=some (env::outer))(hl:s.heap.FunFrames base (env::outer))(hf:env.frame=some L)
  (he:s.heap.get? a=some oe) (hc:oe.cls=.ref C) (hdi:oe.dict=d) (hd:oe.data=.fields vs) (h1:vs[1]?=some .none)
  (h:∀ h' T,s.heap.get? T=none->Fl h' a T C d (rawInt L)->Kept (js (env::outer)) [a] s.heap h'->Q () {s with heap:=h'}):wpAny M A (noteFrame (.ref a) env) Q E s:=by
 unfold noteFrame;simp only[hf];refine b7<|L4 he hd h1 ?_;rw[if_neg ad]
 exact rX hfr hl hf he hc hdi hd (Fk.mp h1).1 h
def A9 {T:Addr}(hfr:A.frames=some (env::outer))(hl:s.heap.FunFrames base (env::outer))(hf:env.frame=some L)(f:Fl s.heap a T C d .none)
  (h:∀ h' T',s.heap.get? T'=none->Fl h' a T' C d (rawInt L)->Kept (js (env::outer)) [a,T] s.heap h'->Q () {s with heap:=h'}):wpAny M A (noteFrame (.ref a) env) Q E s:=by
 obtain⟨D,u,F,B,he,hc,l,t,h1,j,i,g,v⟩:=f;unfold noteFrame;simp only[hf];refine b7<|L4 he t h1 ?_;rw[if_pos (show (Value.ref T != Value.none)=true from by simp)]
 refine b7<|L4 i g v ?_;rw[if_neg (show ¬ ((Value.none == rawInt L)=true) from by simp[rawInt])]
 refine b7<|wpAny_setField i g (Fk.mp v).1 ?_;have c:∀ b,b≠T->(s.heap.update T (Obj.mapFields (·.setIfInBounds 3 Value.none))).get? b=s.heap.get? b:=λb hb=>S0 _ _ hb.symm;have w:Kept (js (env::outer)) [a,T] s.heap (s.heap.update T (Obj.mapFields (·.setIfInBounds 3 Value.none))):=by
  refine⟨λb o e _ n=>(c b λz=>n (by simp[z])).trans e,λb o e n=>⟨o.slots,(c b λz=>n (by simp[z])).trans e⟩⟩
 have p:∀ b o,s.heap.get? b=some o->(∀ u,o.data≠.fields u)->b≠T:=λb o hb hn q=>by rw[q,i] at hb;cases hb;exact hn B g
 refine rX hfr (hl.of_keeps λb o hb hn=>⟨o,(c b<|p b o hb hn).trans hb,rfl⟩) hf ((c a j.symm).trans he) hc l t (Fk.mp h1).1 λh' T' m x y=>?_;refine h h' T' ?_ x (w.trans y λb _ _ z=>by rw[dt.mp z];exact eR)
 have r:T'≠T:=λz=>by
  rw[z,get?_update_self _ i<|Obj.isFreed_of_fields<|U9 g _] at m
  cases m
 rw[<-c T' r];exact m
def fP {T:Addr}{fl:Value}(f:Fl s.heap a T C d fl)(h:∀ h',Fl h' a T C d .none->Kept l [T] s.heap h'->Q () {s with heap:=h'}):wpAny M A (setFlight (.ref a) none) Q E s:=by
 obtain⟨t,r,w,v,he,hc,m,p,h1,i,q,g,u⟩:=f;have j:3<v.size:=(Fk.mp u).1;unfold setFlight;refine b7<|L4 he p h1 ?_;rw[if_pos (show (Value.ref T != Value.none)=true from by simp)]
 have c:∀ b,b≠T->(s.heap.update T (Obj.mapFields (·.setIfInBounds 3 ((none:Option Addr).elim Value.none λf=>rawInt f)))).get? b=s.heap.get? b:=λb hb=>S0 _ _ hb.symm;refine wpAny_setField q g j (h _ ⟨t,r,_,_,(c a i.symm).trans he,hc,m,p,h1,i,get?_update_self _ q<|Obj.isFreed_of_fields<|U9 g _,U9 g _,by simp[j]⟩ ?_)
 exact⟨λb o e _ n=>(c b λz=>n (by simp[z])).trans e,λb o e n=>⟨o.slots,(c b λz=>n (by simp[z])).trans e⟩⟩
def wu {vs:Array Value}(hfr:A.frames=some (env::outer))(hl:s.heap.FunFrames base (env::outer))(hf:env.frame=some L)
  (he:s.heap.get? a=some oe) (hc:oe.cls=.ref C) (hdi:oe.dict=d) (hd:oe.data=.fields vs) (h1:vs[1]?=some .none)
  (h:∀ h' T,s.heap.get? T=none->Fl h' a T C d .none->Kept (js (env::outer)) [a] s.heap h'->Q () {s with heap:=h'}):wpAny M A (leaving env<|.ref a) Q E s:=by
 unfold leaving;refine b7<|yP hfr hl hf he hc hdi hd h1 λh' T c f k=>?_;refine fP (l:=js (env::outer)) f λi g j=>h i T c g<|k.trans j λb o e z=>?_;rw[dt.mp z,c] at e;cases e
def Gr {T:Addr}(hfr:A.frames=some (env::outer))(hl:s.heap.FunFrames base (env::outer))(hf:env.frame=some L)(f:Fl s.heap a T C d .none)
  (h:∀ h' T',s.heap.get? T'=none->Fl h' a T' C d .none->Kept (js (env::outer)) [a,T] s.heap h'->Q () {s with heap:=h'}):wpAny M A (leaving env<|.ref a) Q E s:=by
 unfold leaving;refine b7<|A9 hfr hl hf f λh' T' c f k=>?_;refine fP (l:=js (env::outer)) f λi g j=>h i T' c g<|k.trans j λb o e z=>?_;rw[dt.mp z,c] at e;cases e
variable {mg:Str->Option Value}{N:List Str}{qual:Str}{scope:Scope}{f e:Addr}{cd:Value}{s0:Shared}{E:XK}{pins:aO0}
def Ba {T:Addr}(I:Inv (gN (kY P w) P w K mg base N qual scope f cd A outer s0 H0 E) pins σ H s)
  (hb:∀ b∈bad,s0.heap.get? b=none/\H b=none) (k:Kept (js (envOfC qual scope s0.heap.objs.size f cd::outer)) bad s.heap h2) (he:s0.heap.get? e=none) (nT:s.heap.get? T=none) (hH:H e=none)
  (fl:Fl h2 e T C d .none) (q:E (.ref C) d H):kY P w outer H0 s0 E (.ref e) {s with heap:=h2}:=by
 have c:∀ b,b∉js outer->b≠(envOfC qual scope s0.heap.objs.size f cd).locals->b∉js (envOfC qual scope s0.heap.objs.size f cd::outer):=λb h1 h2 z=>by
  rcases gd.mp (I.sG b z) with z | z
  ·exact h2 z
  ·exact h1 z
 have a:∀ b∈(envOfC qual scope s0.heap.objs.size f cd).locals::bad,s0.heap.get? b=none/\H b=none:=λb hm=>by
  rcases gd.mp hm with z | z
  ·rw[z];exact⟨get?_none_of_le<|ea _,I.free⟩
  ·exact hb b z
 have l:∀ b o,s.heap.get? b=some o->b∉js outer->b∉(envOfC qual scope s0.heap.objs.size f cd).locals::bad->h2.get? b=some o:=λb o h m j=>
  k.1 b o h (c b m λz=>j (by rw[z];exact eR)) λz=>j<|fA _ z
 have g:∀ b∈js outer,H b=none:=λb hm=>I.nh b (by
  show b∈js (envOfC qual scope s0.heap.objs.size f cd::outer);unfold js;rw[filterMap_cons];exact fA _ hm)
 refine⟨e,T,C,d,H,rfl,I.os,I.bare,Gq I.base (λb hm=>(a b hm).1) l λb o h _ n=>k.2 b o h λz=>n<|fA _ z,A8 I.aY l g λb hm=>(a b hm).2,he,?_,⟨fl,hH,I.aY.OG nT⟩,q⟩
 cases z:s0.heap.get? T with
 | none=>rfl
 | some o=>
  obtain⟨p,i⟩:=I.base.there T o z (by simp[gN])
  rw[nT] at i;cases i
def lF (I:Inv (gN (kY P w) P w K mg base N qual scope f cd A outer s0 H0 E) pins σ H s)(n:s.heap.get? a=none):s0.heap.get? a=none:=by
 cases z:s0.heap.get? a with
 | none=>rfl
 | some o=>
  obtain⟨c,b⟩:=I.base.there a o z (by simp[gN])
  rw[n] at b;cases b
def ji {vs:Array Value}(I:Inv (gN (kY P w) P w K mg base N qual scope f cd A outer s0 H0 E) pins σ H s)
  (he:s.heap.get? e=some oe) (n0:s0.heap.get? e=none) (hH:H e=none) (hc:oe.cls=.ref C) (hdi:oe.dict=d) (hd:oe.data=.fields vs) (h1:vs[1]?=some .none) (q:E (.ref C) d H) :
  (gN (kY P w) P w K mg base N qual scope f cd A outer s0 H0 E).xe (.ref e) s:=by
 refine wu (L:=s0.heap.objs.size) I.ok.frames I.stack rfl he hc hdi hd h1 λg T a c k=>?_;exact Ba I (λb hb=>by rw[dt.mp hb];exact⟨n0,hH⟩) k n0 a hH c q
def yQ {s':Shared}{e:Value}(I:Inv (gN (kY P w) P w K mg base N qual scope f cd A outer s0 H0 E) pins σ H s)(h:kY P w (envOfC qual scope s0.heap.objs.size f cd::outer) H s E e s') :
  (gN (kY P w) P w K mg base N qual scope f cd A outer s0 H0 E).xe e s':=by
 obtain⟨a,T,C,d,o,rfl,r,c,un,t,m,n,⟨u,l,p⟩,q⟩:=h;have j:Inv (gN (kY P w) P w K mg base N qual scope f cd A outer s0 H0 E) pins σ o s':=I.zU (ch:=[]) r un t c λb z=>absurd z (by simp)
 refine Gr (L:=s0.heap.objs.size) j.ok.frames j.stack rfl u λx v g i k=>?_;refine Ba j (λb hb=>?_) k (lF I m) g l i q
 rcases gd.mp hb with z | z
 ·rw[z];exact⟨lF I m,l⟩
 ·rw[dt.mp z];exact⟨lF I n,p⟩
def jj:Passes (kY P w) (gN (kY P w) P w K mg base N qual scope f cd A outer s0 H0 E) E:=λ_ _ _ _ _ _ I h=>yQ I h
variable {E:Value->Shared->Prop}{h:Heap}{g:Array GenState}{d:Drawn}{t:Nat}{os:OsState}{od:Option Obj}
def CD {nv:Value}(X:K.In h)(I:PySem.W.InstAt h a oe C od)(hb:mroIn K C (.type "BaseException")=some true)(hq:Q () ⟨h,g,d,t,os⟩) :
  wpAny M A (checkBuiltinCall "BaseException.__getattribute__" ⟨[.ref a,nv],[]⟩) Q E ⟨h,g,d,t,os⟩:=by
 have hk:builtinKind "BaseException.__getattribute__"=some .slot:=by decide +kernel
 have c:splitId "BaseException.__getattribute__"=some ("BaseException","__getattribute__"):=by decide +kernel
 have e:=I.type (M:=M);have b:=looks_mroIn (M:=M) X hb;have f:Looks M h (isInstance (.ref a)<|.type "BaseException") true:=e.andThen b;have i:=F.args_bexc_ga (.ref a) nv;simp only[checkBuiltinCall,hk,c];refine b7 (f.at ?_)
 repeat (first | assumption | wp_step)
variable {name:Str}{v:Value}{Q:Fin->Shared->Prop}{tk:Tok}
def oP {gt at':Value}(X:K.In h)(I:PySem.W.InstAt h a oe C od)(hf:findObj K C od name=some (.bind gt at'))
  (hc:∀ (A:Around) (R:Result->Shared->Prop) (s:Shared),s.heap=h->R (.ok<|.ret v) s->codeAny (model prog w) A (.call gt ⟨[at',.ref a,.ref C],[]⟩) R s) (hq:Q (.done<|.ret v) ⟨h,g,d,t,os⟩) :
  wpAny (model prog w) A (Builtin.«object.__getattribute__» ⟨[.ref a,.str name tk],[]⟩) Q E ⟨h,g,d,t,os⟩:=by
 have c:=I.type (M:=model prog w);have b:=looks_find (M:=model prog w) X I hf;unfold Builtin.«object.__getattribute__»
 repeat (first | with_reducible refine c.at ?_ | with_reducible refine b.at ?_ | wp_step)
 refine hc _ _ _ rfl ?_
 repeat (first | assumption | wp_step)
def mK (X:K.In h)(I:PySem.W.InstAt h a oe C od)(hf:findObj K C od name=some (.value v))(hq:Q (.done<|.ret v) ⟨h,g,d,t,os⟩) :
  wpAny (model prog w) A (Builtin.«object.__getattribute__» ⟨[.ref a,.str name tk],[]⟩) Q E ⟨h,g,d,t,os⟩:=by
 have c:=I.type (M:=model prog w);have b:=looks_find (M:=model prog w) X I hf;unfold Builtin.«object.__getattribute__»
 repeat (first | with_reducible refine c.at ?_ | with_reducible refine b.at ?_ | assumption | wp_step)
structure yR (K:Frag)(C:Addr):Prop where
 ga:findIn K (.ref C) "__getattribute__"=some (some<|.builtin "BaseException.__getattribute__")
 no:findIn K (.ref C) "__getattr__"=some none
 base:mroIn K C (.type "BaseException")=some true
variable {Q:Value->Shared->Prop}
def Gs {fill expr:Bool}(X:K.In h)(I:PySem.W.InstAt h a oe C od)(G:yR K C)
  (hc:∀ (A:Around) (Q:Fin->Shared->Prop) (E:Value->Shared->Prop),Q (.done<|.ret v) ⟨h,g,d,t,os⟩->wpAny (model prog w) A (Builtin.«object.__getattribute__» ⟨[.ref a,.str name tk],[]⟩) Q E ⟨h,g,d,t,os⟩)
  (hv:handedIn v=true) (hq:Q v ⟨h,g,d,t,os⟩):wpAny (model prog w) A (getAttrBy (.ref a) (.str name tk) fill expr) Q E ⟨h,g,d,t,os⟩:=by
 have j:=I.type (M:=model prog w);have e:=looks_findIn (M:=model prog w) X G.ga;have i:=looks_findIn (M:=model prog w) X G.no;have FB:=F.excAttr_ValueError;have l:=FB.ga.bind<|.ref a;have f:(expr&&onTheHeap (Value.builtin "BaseException.__getattribute__"))=false:=by cases expr<;>rfl
 have b:(Value.builtin "BaseException.__getattribute__" == Value.builtin "object.__getattribute__")=false:=by decide +kernel
 have c:(onTheHeap (Value.ref C)&&Value.builtin "BaseException.__getattribute__" == Value.builtin "object.__getattribute__")=false:=by rw[b];rfl
 unfold getAttrBy getAttrByItsOwn hookBefore
 repeat (first | with_reducible refine j.at ?_ | with_reducible refine e.at ?_ | with_reducible refine i.at ?_ | assumption | wp_step)
 refine codeAny_call_builtin FB.ga.plain F.entry_bexc_ga<|CD X I G.base<|hc _ _ _ ?_;exact PySem.W.handed_on hv hq
def Gu {expr:Bool}(X:K.In h)(I:PySem.W.InstAt h a oe C od)(G:yR K C)(hf:findObj K C od name=some (.value v))
  (hv:handedIn v=true) (hq:Q v ⟨h,g,d,t+1,os⟩):wpAny (model prog w) A (getAttr (.ref a) name expr) Q E ⟨h,g,d,t,os⟩:=by
 unfold getAttr;refine b7<|wpAny_mkText ?_;exact Gs X I G (λA Q E q=>mK X I hf q) hv hq
def yS (X:K.In h){t:Value}(z:mroIn K C t=some true):Looks M h (isType<|.ref C) true:=by
 unfold mroIn clsIn at z
 split at z
 ·rename_i c' d' cd' sl' ho
  intro d a b c k q;unfold isType loadHead;exact b7<|wpAny_loadPart (k _ _<|X _ _ ho)<|ey q
 ·cases z
structure ud (K:Frag)(C:Addr):Prop extends yR K C where
 cl:findIn K (.ref C) "__class__"=some (some<|.builtin "object.__class__")
 gt:specialIn K (.builtin "object.__class__") "__get__"=some (some<|.builtin "getset_descriptor.__get__")
 tk:takesIn K (.builtin "object.__class__")=some true
 ob:mroIn K C (.type "object")=some true
def CF {Q:Option Value->Shared->Prop}(X:K.In h)(I:PySem.W.InstAt h a oe C od)(G:ud K C)(hq:Q (some<|.ref C) ⟨h,g,d,t+1,os⟩) :
  wpAny (model prog w) A (getAttr? (.ref a) "__class__") Q E ⟨h,g,d,t,os⟩:=by
 have b:(clsIn K C).isSome=true:=by
  have z:=G.ob;unfold mroIn at z
  cases q:clsIn K C with
  | none=>rw[q] at z;cases z
  | some _=>rfl
 have c:findObj K C od "__class__"=some (.bind (.builtin "getset_descriptor.__get__")<|.builtin "object.__class__"):=by
  obtain⟨m,hc⟩:=Option.isSome_iff_exists.mp b;unfold findObj;rw[hc,bind_some,G.cl,bind_some]
  simp[G.gt,G.tk]
 unfold getAttr? getAttrBy?;refine b7<|wpAny_mkText<|b7<|wpAny_attempt ?_;refine Gs (v:=.ref C) X I ⟨G.ga,G.no,G.base⟩ (λA Q E q=>oP X I c (λA R s e r=>?_) q) rfl ?_
 ·obtain⟨n,f,j,l,i⟩:=s
  cases e
  exact PySem.W.class_get X I G.ob r
 ·exact ey hq
def wx (G:ud K C):KitX K (.ref a) (.ref C) (λh=>PySem.W.InstAt h a oe C od) where
 ty:=λ_ _ _ I=>I.type
 it:=λ_ _ X _=>by
  have z:=G.ob;unfold mroIn clsIn at z
  split at z
  ·rename_i c' d' cd' sl' ho
   intro j g m r k q;unfold isType loadHead;exact b7<|wpAny_loadPart (k _ _<|X _ _ ho)<|ey q
  ·cases z
 ne:=λh d f c n i X b=>by
  have z:=G.ob;refine Bool.eq_false_iff.mpr λq=>?_;have e:C=d:=Value.ref.inj<|Vj.mp q;subst e;unfold mroIn clsIn at z
  split at z
  ·rename_i c' d' cd' sl' ho
   have z:=(X _ _ ho).symm.trans b
   cases z
  ·cases z
 ca:=λ{_ _ _ _ _ s} X I k=>by
  obtain⟨p,l,f,o,t⟩:=s;exact CF X I G k
def jI (x y:Str):Bool:=x == y||y == "HatError"||(y == "LineError"&&(x == "NoLine"||x == "Twice"||x == "Unknown"||x == "TooMany"))
def gF (x:Str):Bool:=x == "LineError"||x == "NoLine"||x == "Twice"||x == "Unknown"||x == "TooMany"
def qj:List Value:=[.type "ValueError",.type "Exception",.type "BaseException",.type "object"]
def Gv (K:Frag)(C:Addr):Bool:=
 findIn K (.ref C) "__getattribute__" == some (some<|.builtin "BaseException.__getattribute__")&&findIn K (.ref C) "__getattr__" == some none&&mroIn K C (.type "BaseException") == some true&&
 findIn K (.ref C) "__class__" == some (some<|.builtin "object.__class__")&&specialIn K (.builtin "object.__class__") "__get__" == some (some<|.builtin "getset_descriptor.__get__")&&
 takesIn K (.builtin "object.__class__") == some true&&mroIn K C (.type "object") == some true&&typeIn K (.ref C) == some (.type "type")&&kitOne K (.ref C) (.type "ValueError") == some true
def Mt (K:Frag)(names:List Str)(er:Str->Addr):Bool:=
 names.all λx=>nsIn K mainGlobals x == some (some<|.ref<|er x)&&Gv K (er x)&&(gF x||excIn K (er x) qj "ValueError.__new__")&&
  names.all λy=>kitOne K (.ref<|er x) (.ref<|er y) == some (jI x y)&&mroIn K (er x) (.ref<|er y) == some (jI x y)
structure lG (K:Frag)(mg:Str->Option Value)(names:List Str)(er:Str->Addr):Prop where
 gl:∀ x∈names,mg x=some (.ref<|er x)
 cls:∀ x∈names,ud K (er x)
 ty:∀ x∈names,typeIn K (.ref<|er x)=some (.type "type")
 val:∀ x∈names,kitOne K (.ref<|er x) (.type "ValueError")=some true
 own:∀ x∈names,gF x=false->excIn K (er x) qj "ValueError.__new__"=true
 UR:∀ x∈names,∀ y∈names,kitOne K (.ref<|er x) (.ref<|er y)=some (jI x y)
 US:∀ x∈names,∀ y∈names,mroIn K (er x) (.ref<|er y)=some (jI x y)
variable {names:List Str}{er:Str->Addr}
def Kv (X:K.In h)(G:h.Ns mainGlobals mg)(e:Mt K names er=true):lG K mg names er:=by
 have z:∀ x∈names,_:=ih.mp e;simp only[Bool.and_eq_true,Bool.or_eq_true,beq_iff_eq,Gv,List.all_eq_true] at z;refine⟨λx hx=>mg_of X G (z x hx).1.1.1,λx hx=>?_,λx hx=>(z x hx).1.1.2.1.2,λx hx=>(z x hx).1.1.2.2,λx hx hn=>?_,λx hx y hy=>((z x hx).2 y hy).1,λx hx y hy=>((z x hx).2 y hy).2⟩
 ·obtain⟨⟨⟨_,⟨⟨⟨⟨⟨⟨⟨⟨a,b⟩,c⟩,d⟩,e⟩,f⟩,g⟩,_⟩,_⟩⟩,_⟩,_⟩:=z x hx;exact⟨⟨a,b,c⟩,d,e,f,g⟩
 ·rcases(z x hx).1.2 with q | q
  ·rw[hn] at q;cases q
  ·exact q
def CG {D:Addr}{b:Bool}{Q:Bool->Shared->Prop}(X:K.In h)
  (he:h.get? a=some oe) (hc:oe.cls=.ref C) (hD:typeIn K (.ref D)=some (.type "type")) (GD:ud K D) (hs:mroIn K C (.ref D)=some b) (hq:Q b ⟨h,g,d,t,os⟩) :
  wpAny M A (excMatches (.ref a)<|.ref D) Q E ⟨h,g,d,t,os⟩:=by
 have e:Looks M h (typeOf<|.ref a) (.ref C):=hc ▸ (PySem.W.Looks.ld he).andThen .now;have c:=PySem.W.looks_typeIn (M:=M) X hD;have j:=looks_mroIn (M:=M) X GD.base;have l:=looks_mroIn (M:=M) X hs;have i:Looks M h (isType<|.ref D) true:=yS X GD.base;have f:=tc_notTuple;unfold excMatches isExcClass isInstance
 repeat (first | with_reducible refine e.at ?_ | with_reducible refine c.at ?_ | with_reducible refine j.at ?_ | with_reducible refine l.at ?_ | with_reducible refine i.at ?_ | wp_step)
 all_goals (cases b<;>first | exact hq | (wp_walk;exact hq))
structure Kw (P:Program)(w:World)(K:Frag)(mg:Str->Option Value)(base:Heap)(k:Nat)(x:Str)(ps:List Str)(sp:Sp):Prop where
 ex:∃ f fd,fi P w K mg base (kY P w) k f fd ps sp/\mg x=some (.ref f)/\keepIn K (.ref f)=true/\Binds K fd ps []
variable {x:Str}{ps G:List Str}{E:XK}
def DS.SX {CX:BX}{sc:Scope}{q:Str}{cy:Value}(D:DS sc N ps G):Sc (gN CX P w K mg base N q sc f cy A outer s H E) N N G:=
 ⟨rfl,D.fs.nd,λx hx=>tw<|D.SJ x hx,λx hx=>⟨D.loc x hx,.inl rfl⟩,λx hx=>yr<|D.gl x hx⟩
def Own (X:Cx):Prop:=X.stack=X.env::X.outer/\X.env.frame=some X.env.locals
variable {W:List Str}{k m:Nat}{sp:Sp}{p:Pos}{e:Expr}{es:List Expr}{t:TA}
def TH (S:Sc X N W G)(g:Nat)(F:Kw X.prog X.w X.K X.mg X.base k x ps sp)(hx:Passes (kY X.prog X.w) X E)(hr:b6 m X.A)(ha:QB X (e::es) t)(hk:k<=m:=by decide)(hg:G[g]?=some x:=by rfl) :
  QE X (.Call (.Name x p) (e::es) [] pos) (nR sp [] E t):=by
 obtain⟨f,b,F,hm,a,hb⟩:=F.ex;have q:=S.gl x<|fO hg;exact⟨sO F (hr.mono hk) q.1 hm a hb .nil hx ha.h.pa q.2.1 (bb ha.h.he)<|cJ ha.h.xS⟩
abbrev RC:=St->Hp->VK->XK->Prop
abbrev Mu:=Ends->(St->XK)->St->Hp->Prop
def XP (X:Cx)(pins:aO0)(W:St->XK)(e:Value)(s':Shared):Prop:=∃ σ' H0 s0,Inv X pins σ' H0 s0/\kY X.prog X.w X.stack H0 s0 (W σ') e s'
structure TJ (X:Cx)(e:Expr)(t:RC):Prop where
 h:∀ (pins:aO0) (s:Shared) (σ:St) (H:Hp) (Q:VK) (E:XK),Inv X pins σ H s->t σ H Q E->wpAny (model X.prog X.w) X.A (eval e X.env) (EP X pins σ Q) (λx s'=>∃ H0 s0,Inv X pins σ H0 s0/\kY X.prog X.w X.stack H0 s0 E x s') s
structure Up (X:Cx)(st:Stmt)(t:Mu):Prop where
 h:∀ (pins:aO0) (s:Shared) (σ:St) (H:Hp) (D:Ends) (W:St->XK),Inv X pins σ H s->t D W σ H->wpAny (model X.prog X.w) X.A (exec st X.env) (SP X pins D) (XP X pins W) s
structure RD (X:Cx)(st:List Stmt)(t:Mu):Prop where
 h:∀ (pins:aO0) (s:Shared) (σ:St) (H:Hp) (D:Ends) (W:St->XK),Inv X pins σ H s->t D W σ H->wpAny (model X.prog X.w) X.A (execs st X.env) (SP X pins D) (XP X pins W) s
def Mv (te:RC)(g:TG):Mu:=λD W σ H=>te σ H (λx H1=>g x σ H1 D.nx)<|W σ
variable {pos':Pos}{te:RC}{v:Mu}
def TL (S:Sc X N W G)(i:Nat)(he:TJ X e te)(h:N[i]?=some x:=by rfl)(hw:W[i]?=some x:=by rfl)(hs:swapsWith e (some<|.Name x pos') pos.line X.env=pure false:=by rfl) :
  Up X (.Assign [.Name x pos'] e pos) (Mv te<|bN i):=by
 have q:=S.SI x<|fO hw;refine⟨λa s σ H D W I z=>wpAny_Assign_Name (xF (he.h a s σ H _ _ I z) (λv o ⟨y,H1,c,d,j⟩=>?_) λx n ⟨f,b,l,z⟩=>⟨σ,f,b,l,z⟩) hs⟩;exact j1 c (by rw[S.eN];exact S.nd) (by rw[S.eN];exact h) q.1 d (λm g=>⟨_,H1,g,j⟩) q.2
variable {u:Mu}{st:Stmt}
def OH (h1:Up X st u):RD X [st] u:=by
 refine⟨λa s σ H D W I h=>wpAny_execs_cons<|bU (h1.h a s σ H D W I h) λf b q=>?_⟩
 cases f with
 | next=>exact wpAny_execs_nil q
 | ret v=>exact q
 | brk=>exact q
 | cont=>exact q
def nC {E:Value->Shared->Prop}{pos:Pos}{Q:Unit->Shared->Prop}(I:Inv X pins σ H s)(hN:X.N.Nodup)(hi:X.N[i]?=some x)(hk:X.env.kindOf x=some .local)
  (h:∀ s',Inv X pins (σ.set i none) H s'->Q () s'):wpAny M A (do bindName X.env x .none;unbindBehindTheSuite X.env x pos) Q E s:=by
 obtain⟨m,hn,G⟩:=id I.loc;have g:(X.env.scope.kind == .class||(X.env.scope.kind == .module&&X.env.locals != X.env.globals))=false:=by rw[I.ok.kind];rfl
 refine wpAny_nameGoes_keeps hk hn g λP v r a=>h _ ?_;have t:∀ b o,X.s₀.heap.get? b=some o->b≠X.env.locals:=λb o e=>j6<|gg (lt_size e) I.ok.above;refine⟨I.ok,I.os,I.bare,⟨λb o e n hb hx=>(a.2 b<|t b o e).trans<|I.base.keep b o e n hb hx,λb o e n hb hx=>?_,I.base.free,λb o e hx=>?_,I.base.mT,I.base.l9,I.base.mS⟩,
  ⟨_,r,λj y K f l L=>?_⟩,λy c e=>?_,I.free,I.fH,λp B=>?_,λb ob e=>?_,by simpa using I.len⟩
 ·obtain⟨J,f⟩:=I.base.slot b o e n hb hx;exact⟨J,(a.2 b<|t b o e).trans f⟩
 ·obtain⟨C,f⟩:=I.base.there b o e hx;exact⟨C,(a.2 b<|t b o e).trans f⟩
 ·by_cases hj:j=i
  ·subst hj;rw[KB (by rw[I.len];exact(ka.mp hi).1)] at l
   cases l
  ·rw[P3 (Ne.symm hj)] at l;obtain⟨D,O,q⟩:=G j y K f l L;refine⟨D,O,?_⟩
   rcases q with ⟨k,e⟩ | ⟨k,c,e,z⟩
   ·have:y≠x:=λe=>hj<|nK hN f<|e ▸ hi
    exact .inl ⟨k,by simp[this,e]⟩
   ·exact .inr ⟨k,c,e,z.sameBut a<|I.Iz y c e⟩
 ·obtain⟨w,z⟩:=I.cell y c e;exact⟨w,z.sameBut a<|I.Iz y c e⟩
 ·obtain⟨e,n,u,F,d⟩:=I.pin p B;exact⟨(a.2 p.1 u).trans e,n,u,F,d⟩
 ·refine(I.aY b ob e).nJ (λc w hc q=>(a.2 c ?_).trans q) (λ_ q=>q) λ_ _ q=>q;rintro rfl
  rcases hc with rfl | hc
  ·rw[I.free] at e;cases e
  ·rw[I.free] at hc;cases hc
def Cx.held (X:Cx)(a:Addr):Cx:={X with A:=X.A.mark<|some<|.ref a,calm:=false}
theorem Inv.held (I:Inv X pins σ H s)(a:Addr):Inv (X.held a) pins σ H s:=
 ⟨⟨I.ok.mod,I.ok.kind,I.ok.glob,I.ok.blt,I.ok.above,I.ok.inj,I.ok.has,I.ok.Pm,(λz=>by cases z),I.ok.frames,I.ok.MN,I.ok.PF,I.ok.bs,I.ok.Ib,I.ok.xl,I.ok.zG,I.ok.jZ,I.ok.Li⟩,I.os,I.bare,I.base,I.loc,I.cell,I.free,I.fH,I.pin,I.aY,I.len⟩
def RE (o:Obj)(C:Addr)(d:Option Addr):Prop:=o.cls=.ref C/\o.dict=d/\∃ vs,o.data=.fields vs
def Kx (H:Hp):Option Addr->Prop
 | none=>True
 | some a=>∃ fs,H a=some (.xd fs)
def RF (S:Sc X N W G)(g:Nat)(ER:lG X.K X.mg names er)(hy:y∈names)(hg:G[g]?=some y:=by rfl):QE X (.Name y pos) (tC<|.ref<|er y):=by
 have q:=S.gl y<|fO hg;exact⟨ni q.1 (ER.gl y hy) rfl q.2.1⟩
variable {D:Ends}
def Gw {g:TG}{W:St->XK}:Mv te g D W σ H=te σ H (λx H1=>g x σ H1 D.nx) (W σ):=rfl
def mL:bootBuiltins "ValueError"=some (.type "ValueError"):=by decide +kernel
theorem yT {K:Frag}{H:Hp}:∀ bs:List Bool,eh K H (bs.map V.bl)<|bs.map PyData.bool
 | []=>.nil
 | b::bs=>.cons (.bl b)<|yT bs
def lH:fillsNumberSlot (.type "tuple") "mul"=pure false:=by
 first | (unfold fillsNumberSlot;kernel_rfl) | kernel_rfl
def ue:seqRepeat? (.type "tuple")=pure (some<|.builtin "tuple.__mul__"):=by
 first | (unfold seqRepeat?;kernel_rfl) | kernel_rfl
def yU (a:Int)(t:Tok)(l:Addr)(dd:Option Addr)(items:Array Value)(n:Nat)(sl:Array (Option Value)) :
  Meets (Builtin.«int.__rmul__» ⟨[.int a t,.ref l],[]⟩) (λ_ R s=>s.heap.get? l=some ⟨.type "tuple",dd,.seq items n,sl⟩/\R (.ok<|.ret Value.notImplemented) s):=
 .of_wp λb w A R s h=>by obtain⟨f,g,d,c,e⟩:=s;obtain⟨i,h⟩:=h;wp_walk;exact⟨_,rfl,h⟩
section
variable {k:Int}(t:Tok)(l:Addr)(dd:Option Addr)(it:Value)(n:Nat)(sl:Array (Option Value))
def Gx (m:Nat):List.foldl (λx1 x2=>x1++x2) #[] (List.replicate m #[it])=(List.replicate m it).toArray:=by
 have:∀ (m:Nat) (a:List Value),List.foldl (λx1 x2=>x1++x2) a.toArray (List.replicate m #[it])=(a++List.replicate m it).toArray:=by
  intro m
  induction m with
  | zero=>intro a;simp
  | succ m b=>
   intro a;rw[List.replicate_succ,List.foldl_cons,show a.toArray++#[it]=(a++[it]).toArray from by simp,b,UU]
   simp[List.replicate_succ]
 simpa using this m []
def CH (h1:1<k)(h2:k<=1000) :
  Meets (Builtin.«tuple.__mul__» ⟨[.ref l,.int k t],[]⟩) (λ_ R s=>s.heap.get? l=some ⟨.type "tuple",dd,.seq #[it] n,sl⟩/\R (.ok<|.ret<|.ref s.heap.objs.size) {s with heap:=s.heap.push {cls:=.type "tuple",data:=.seq (List.replicate k.toNat it).toArray}}):=
 .of_wp λb w A R s h=>by
  obtain⟨o,g,d,m,p⟩:=s;obtain⟨q,h⟩:=h;have i:(decide (k < -(2 ^ 63))||decide (k ≥ 2 ^ 63))=false:=by rw[dy (by omega),dy (by omega)];rfl
  have j:((#[it]:Array Value).isEmpty||k == 1)=false:=by rw[show (k == 1)=false from A5.mpr (by omega)];rfl
  have e:(decide (k<=0)||(#[it]:Array Value).isEmpty)=false:=by rw[dy (by omega)];rfl
  have f:¬ (((#[it]:Array Value).size:Int)*k>(2 ^ 63 - 1) / 8):=by show ¬ ((1:Int)*k>_);omega
  have sl:(sizeLine:Int) ≥ 1000:=by decide
  have c:Builtin.Tuple.tupleTooMany (((#[it]:Array Value).size:Int)*k)=false:=by
   unfold Builtin.Tuple.tupleTooMany;exact dy (by show ¬ ((1:Int)*k>_);omega)
  have a:(List.replicate k.toNat it).toArray.size<=sizeLine:=by rw[gc,length_replicate];omega
  unfold Builtin.«tuple.__mul__»
  k_delta "repeated"
  wp_walk
  rw[if_neg (by rw[i];exact hI)]
  wp_walk
  rw[if_neg (by rw[j];exact hI)]
  wp_walk
  rw[if_neg (by rw[e];exact hI)]
  rw[if_neg f,if_neg (by rw[c];exact hI),Gx]
  unfold Builtin.Tuple.tupleExact;refine b7<|Vg ?_ a;exact ey ⟨_,rfl,h⟩
def yV :
  Meets (Builtin.«tuple.__mul__» ⟨[.ref l,.int 1 t],[]⟩) (λ_ R s=>s.heap.get? l=some ⟨.type "tuple",dd,.seq #[it] n,sl⟩/\R (.ok<|.ret<|.ref l) s):=
 .of_wp λa w A R s h=>by
  obtain⟨e,g,d,b,c⟩:=s;obtain⟨f,h⟩:=h;unfold Builtin.«tuple.__mul__»
  k_delta "repeated"
  wp_walk
  exact⟨_,rfl,h⟩
def yW :
  Meets (Builtin.«tuple.__mul__» ⟨[.ref l,.int 0 t],[]⟩) (λ_ R s=>s.heap.get? l=some ⟨.type "tuple",dd,.seq #[it] n,sl⟩/\R (.ok<|.ret<|.ref s.heap.objs.size) {s with heap:=s.heap.push {cls:=.type "tuple",data:=.seq #[]}}):=
 .of_wp λa w A R s h=>by
  obtain⟨e,g,d,b,c⟩:=s;obtain⟨f,h⟩:=h;unfold Builtin.«tuple.__mul__»
  k_delta "repeated"
  wp_walk
  exact⟨_,rfl,h⟩
end
def Mw (K:Frag):R2:=λx y H Q=>∃ (l:Addr) (k:Nat) (v:V),x=.ref l/\y=.int (k:Int)/\aN K H l [v]/\k<=1000/\∀ p H',ag H H'->aN K H' p (List.replicate k v)->Q (.ref p) H'
theorem wy {v:V}{u:Value}(r:RelV v u):∀ k:Nat,Vals (List.replicate k v)<|List.replicate k u
 | 0=>.nil
 | k+1=>.cons r<|wy r k
def Gy (h:X.K=K):dY X (binaryOp .Mult) (Mw K):=by
 subst h;intro p s σ H x y v u Q I D A h;obtain⟨l,k,w,rfl,rfl,z,hk,q⟩:=h
 cases D
 obtain⟨t,rfl⟩:=A;obtain⟨g,r,⟨⟨cls,d,data,f⟩,e,m,n,j⟩,_⟩:=I.tuple z
 simp only at m j
 subst m j;obtain⟨c,rfl,C⟩:∃ c,g=[c]/\RelV w c:=by
  cases r with
  | cons a b=>cases b;exact⟨_,rfl,a⟩
 have hz:(List.replicate k w).length<=sizeLine:=by
  have:1000<=sizeLine:=by decide
  rw[length_replicate];omega
 refine wpAny_binaryOp_repeat_ref (T:="tuple") (U:="int") ad ⟨_,e,rfl⟩ (λB=>typeIs_int B k t) lH F.fills_int_mul F.slot_int_rmul ue F.slot_int_index.lookup
  (UV F.slot_int_rmul (typeIs_int s k t) F.entry_int_rmul (F.args_int_rmul_2 _ _) (yU k t l d [c].toArray n f) ⟨e,rfl,⟨_,e,rfl⟩,?_⟩)
 rcases Nat.lt_or_ge 1 k with h1 | h1
 ·refine UV F.slot_tuple_mul ⟨_,e,rfl⟩ F.entry_tuple_mul (F.args_tuple_mul_2 _ _) (CH t l d c n f (k:=(k:Int)) (by omega) (by omega)) ⟨e,?_⟩
  rw[FM];have i:=I.laid (t':=s.toks) (a:=s.heap.objs.size) (o:=.tup<|List.replicate k w) (h':=s.heap.push {cls:=.type "tuple",data:=.seq (List.replicate k c).toArray}) (λ_ _ q=>c8 _ q) (ea _) ⟨hz,_,wy C k,_,hO _ rfl,rfl,0,rfl⟩;exact⟨.ref _,_,i,rfl,q _ _ (ag.new I.fresh _)<|aN.of af⟩
 ·have hc:k=0∨k=1:=by omega
  rcases hc with rfl | rfl
  ·refine UV F.slot_tuple_mul ⟨_,e,rfl⟩ F.entry_tuple_mul (F.args_tuple_mul_2 _ _) (yW t l d c n f) ⟨e,?_⟩;have i:=I.laid (t':=s.toks) (a:=s.heap.objs.size) (o:=.tup []) (h':=s.heap.push {cls:=.type "tuple",data:=.seq #[]}) (λ_ _ q=>c8 _ q) (ea _) ⟨zero_le _,[],.nil,_,hO _ rfl,rfl,0,rfl⟩;exact⟨.ref _,_,i,rfl,q _ _ (ag.new I.fresh _)<|aN.of af⟩
  ·refine UV F.slot_tuple_mul ⟨_,e,rfl⟩ F.entry_tuple_mul (F.args_tuple_mul_2 _ _) (yV t l d c n f) ⟨e,?_⟩;exact⟨.ref l,H,I,rfl,q _ _ (ag.refl _) z⟩
variable {Q:VK}
def Gz {x y:V} :Mw K x y H Q=∃ (l:Addr) (k:Nat) (v:V),x=.ref l/\y=.int (k:Int)/\aN K H l [v]/\k<=1000/\∀ p H',ag H H'->aN K H' p (List.replicate k v)->Q (.ref p) H':=rfl
def Bb (K:Frag)(x:Str)(C:Addr)(fields:List Str):Bool:=
 nsIn K mainGlobals x == some (some<|.ref C)&&plainGet K C Str.empty&&hasDictIn K C&&plainOver K C&&findIn K (.ref C) "__setattr__" == some (some<|.builtin "object.__setattr__")&&
 makesIn K C&&keepIn K (.ref C)&&fields.all λf=>findIn K (.ref C) f == some none
structure gX (K:Frag)(mg:Str->Option Value)(x:Str)(C:Addr)(fields:List Str):Prop where
 gl:mg x=some (.ref C)
 cls:IW K C
 makes:makesIn K C=true
 kp:keepIn K (.ref C)=true
 no:∀ f∈fields,nP K C f
variable {fields:List Str}
def Bc (X:K.In h)(G:h.Ns mainGlobals mg)(e:Bb K x C fields=true):gX K mg x C fields:=by
 unfold Bb at e;simp only[Bool.and_eq_true,beq_iff_eq,List.all_eq_true] at e;obtain⟨⟨⟨⟨⟨⟨⟨a,b⟩,c⟩,d⟩,f⟩,g⟩,i⟩,j⟩:=e;exact⟨mg_of X G a,⟨b,c,d,f⟩,g,i,j⟩
structure qk (K:Frag)(C:Addr)(m qual:Str)(st:Stmt):Prop where
 ex:∃ f fd,Ij K m qual st f fd/\Meth K C m f
variable {m:Str}{od:Option Addr}
def Bd {oc:Value}{an:Option Addr}{osl:Array (Option Value)}{kV doc pm cy ct:Value}
  (a:findIn K (.ref C) m=some (some<|.ref f)) (l:K.lookup f=some ⟨oc,od,.func<|fnOf m qual (bf st) (aO st) (aj st) .none kV doc pm an cy ct,osl⟩)
  (c:codeIn K cy qual=true) (k:keepIn K (.ref f)=true) (i:isFn K (.ref f)=true):qk K C m qual st:=⟨f,_,yl l c k,a,i,k⟩
def kD (s:Stmt)(j:Nat):Stmt:=match s with
 | .ClassDef _ _ _ a _ _ _ _ _ _ _=>a.getD j<|.Pass ⟨0,0,0,0⟩
 | _=>.Pass ⟨0,0,0,0⟩
structure rY (P:Program)(w:World)(K:Frag)(mg:Str->Option Value)(base:Heap)(k:Nat)(C:Addr)(m:Str)(ps:List Str)(sp:Sp):Prop where
 ex:∃ f fd,fi P w K mg base (kY P w) k f fd ps sp/\Meth K C m f/\Binds K fd ps []
def fi.lift {fd:FuncData}(F:fi P w K mg base DM k f fd ps sp):fi P w K mg base (kY P w) k f fd ps sp:=
 ⟨F.len,λA a s H b c g Q E j d hb l h=>On (F.run A a s H b c g Q E j d hb l h) λr m z=>by
  cases r with
  | error e=>exact False.elim z
  | ok i=>cases i<;>exact z⟩
def qk.gq (D:qk K C m qual st)(S:DS (aj st) N ps G)
  (hb:∀ (kV doc pm:Value) (an:Option Addr) (cy ct:Value) (us:List Value),us.length=ps.length->bindArgs (fnOf m qual (bf st) (aO st) (aj st) .none kV doc pm an cy ct) ⟨us,[]⟩=pure (ps.zip us))
  (len:∀ vs H Q E,sp vs H Q E->vs.length=ps.length)
  (cV:∀ (X:Cx),Sc X N N G->X.prog=P->X.w=w->X.K=K->X.mg=mg->X.base=base->X.calm=true->X.env.scope=aj st->X.xe=(λ_ _=>False)->b6 k X.A->X.A.units+64<cLine->
   ∀ (H:Hp) (vs:List V) (Q:VK) (E:XK),sp vs H Q E->∃ t,u6 X (aO st) t/\t {nx:=λ_ H'=>Q .bx H',rt:=Q} (L2.start N vs) H):rY P w K mg base (k+1) C m ps sp:=by
 obtain⟨f,c,F,M⟩:=D.ex;refine⟨f,c,fi.lift ?_,M,F.binds hb⟩;refine F.ok S.fs len λcy A a s H vs Q E b h=>?_;obtain⟨t,z,y⟩:=cV _ S.cx rfl rfl rfl rfl rfl rfl rfl rfl b b.units H vs Q E h;exact⟨t,z.h,y⟩
def Uq (C:Addr)(f:Str)(ta:TE):TE:=λσ H Q=>ta σ H λx H1=>∃ a dx fs v,x=.ref a/\H1 a=some (.ins C dx fs)/\fs.lookup f=some v/\Q v H1
def Ur (C:Addr)(f:Str)(ta tv:TE):TS:=λD σ H=>tv σ H λy H1=>ta σ H1 λx b=>∃ a dx fs,x=.ref a/\b a=some (.ins C dx fs)/\fs.length<1000/\D.nx σ (upd b a<|.ins C dx<|eg f y fs)
variable {f:Str}{ta:TE}
def DT (T:gX X.K X.mg x C fields)(he:QE X e ta)(hf:f∈fields:=by decide)(hb:attributeBase e f X.env (eval e X.env)=eval e X.env:=by rfl):QE X (.Attribute e f pos) (Uq C f ta):=by
 refine⟨λb s σ H Q I h=>Ag hb<|bU (he.h b s σ H _ I h) λu o ⟨x,H1,d,i,a,n,fs,v,g,j,l,q⟩=>?_⟩;subst g;obtain rfl:u=Value.ref a:=i;exact yb d j T.cls (T.no f hf) l λr p m c=>⟨v,H1,m,c,q⟩
variable {value:Expr}
def RG (T:gX X.K X.mg x C fields)(ha:QE X o ta)(hv:QE X value tv)(hf:f∈fields:=by decide)(hs:swapsWith value (some<|.Attribute o f pos') pos.line X.env=pure false:=by rfl):QS X (.Assign [.Attribute o f pos'] value pos) (Ur C f ta tv):=by
 refine⟨λb s σ H D I h=>plainObj_wpAny_Assign_Attribute (bU (hv.h b s σ H _ I h) λu r ⟨y,H1,d,i,q⟩=>bU (ha.h b r σ H1 _ d q) λn v ⟨x,z,g,m,a,t,fs,e,p,l,j⟩=>?_) hs⟩;subst e;obtain rfl:n=Value.ref a:=m;exact yc g p T.cls (T.no f hf) l i λw c=>⟨σ,_,c,j⟩
variable {apos:Pos}
def RH {pl:Sem Bool}(T:gX X.K X.mg x C fields)(F:rY X.prog X.w X.K X.mg X.base k C m ps sp)(hx:Passes (kY X.prog X.w) X E)(hr:b6 n X.A)(he:QE X o ta)(ha:QB X (e::es) t)(hk:k<=n:=by decide)
  (ht:eval (.Call (.Attribute o m apos) (e::es) [] pos) X.env=(do
   let ov<-eval o X.env
   standAt apos.atName
   let (f,first)<-holding [ov] (getMethod ov m pl)
   callWith pos f first (backTo pos<|starEach (e::es) X.env) (backToKw pos<|keywordEach [] X.env)):=by rfl) :
  QE X (.Call (.Attribute o m apos) (e::es) [] pos) (qU C m sp [] E ta t):=by
 obtain⟨f,a,F,M,hb⟩:=F.ex;exact⟨Jd he.h T.cls M F (hr.mono hk) hb .nil hx ha.h.pa (bb ha.h.he) (cJ ha.h.xS) ht⟩
def TM {pl:Sem Bool}(T:gX X.K X.mg x C fields)(F:rY X.prog X.w X.K X.mg X.base k C m ps sp)(hx:Passes (kY X.prog X.w) X E)(hr:b6 n X.A)(he:QE X o ta)(hk:k<=n:=by decide)
  (ht:eval (.Call (.Attribute o m apos) [] [] pos) X.env=(do
   let ov<-eval o X.env
   standAt apos.atName
   let (f,first)<-holding [ov] (getMethod ov m pl)
   callWith pos f first (backTo pos<|starEach [] X.env) (backToKw pos<|keywordEach [] X.env)):=by rfl) :
  QE X (.Call (.Attribute o m apos) [] [] pos) (qU C m sp [] E ta vm):=by
 obtain⟨f,a,F,M,hb⟩:=F.ex;exact⟨Ee he.h T.cls M F (hr.mono hk) hb .nil hx ht⟩
def UK (S:Sc X N W G)(g:Nat)(T:gX X.K X.mg x C fields)(F:rY X.prog X.w X.K X.mg X.base k C "__init__" ps sp)(hx:Passes (kY X.prog X.w) X E)(hr:b6 n X.A)(ha:QB X (e::es) t)(hk:k+1<=n:=by decide)(hg:G[g]?=some x:=by rfl) :
  QE X (.Call (.Name x p) (e::es) [] pos) (vo C sp [] E t):=by
 obtain⟨f,a,F,M,hb⟩:=F.ex;have q:=S.gl x<|fO hg;exact⟨Je ⟨T.makes,M.at_,M.fn,T.kp⟩ F (hr.mono hk) q.1 T.gl hb .nil hx ha.h.pa q.2.1 (bb ha.h.he)<|cJ ha.h.xS⟩
def RI:Uq C f ta σ H Q=ta σ H λx H1=>∃ a dx fs v,x=.ref a/\H1 a=some (.ins C dx fs)/\fs.lookup f=some v/\Q v H1:=rfl
def My:Ur C f ta tv D σ H=tv σ H λy H1=>ta σ H1 λx H2=>∃ a dx fs,x=.ref a/\H2 a=some (.ins C dx fs)/\fs.length<1000/\D.nx σ (upd H2 a<|.ins C dx<|eg f y fs):=rfl
def GA:qU C m sp [] E ta t σ H Q=ta σ H λx H1=>∃ a dx fs,x=.ref a/\H1 a=some (.ins C dx fs)/\fs.lookup m=none/\t σ H1 λvs H2=>sp (x::vs) H2 Q E:=by
 unfold qU;simp only[append_nil]
def GB:vo C sp [] E t σ H Q=t σ H λvs H1=>∀ x dx,H1 x=none->H1 dx=none->dx≠x->sp (.ref x::vs) (upd (upd H1 dx<|.own x) x<|.ins C dx []) (λv H2=>v=.bx/\Q (.ref x) H2) E:=by
 unfold vo;simp only[append_nil]
def GC (c g n:Addr):List (Str × V):=[("counts",.ref c),("groups",.ref g),("worn",.ref n)]
structure ft (K:Frag)(C:Addr)(H:Hp)(a:Addr)(c g:Addr)(cs:List Int)(us:List V)(hs:List Int):Prop where
 ex:∃ dx n,H a=some (.ins C dx<|GC c g n)/\aN K H n (hs.map V.int)
 Ud:aN K H c (cs.map V.int)
 Ug:aN K H g us
def Ky (K:Frag)(C:Addr)(er:Str->Addr):Sp:=λa H Q E=>∃ (x dx c w g:Addr) (cs:List Int) (ws:List Nat) (us:List V) (L:List (Bool × List Int)),a=[.ref x,.ref c,.ref w,.ref g]/\H x=some (.ins C dx [])/\aN K H c (cs.map V.int)/\aN K H w ((aK ws).map V.int)/\aN K H g us/\GI K H us L/\ws.length=cs.length/\cs.length<=8/\(∀ g∈L,g.2.length<=30)/\L.length<=30/\
 (DR cs ws [] 0 L≠none->∀ H',ag H H'->E (.ref<|er "NoGroups") none H')/\(DR cs ws [] 0 L=none->∀ H',Off x H H'->ft K C H' x c g cs us (List.replicate cs.length 0)->Q .bx H')
def Mz (c:Addr):List (Str × V):=[("counts",.ref c)]
def Im (c g:Addr):List (Str × V):=[("counts",.ref c),("groups",.ref g)]
variable {c:Addr}
def CI:eg "counts" (.ref c) []=Mz c:=rfl
variable {g:Addr}
def CJ:eg "groups" (.ref g) (Mz c)=Im c g:=by
 unfold Mz eg;rw[if_neg ad];rfl
variable {n:Addr}
def Kz:eg "worn" (.ref n) (Im c g)=GC c g n:=by
 unfold Im eg;rw[if_neg ad];unfold eg;rw[if_neg ad];rfl
def CK:(GC c g n).lookup ("counts":Str)=some (.ref c):=rfl
def rZ:(GC c g n).lookup ("groups":Str)=some (.ref g):=by
 unfold GC;rw[Sh,show (("groups":Str) == ("counts":Str))=false from by decide];rfl
def Be:(GC c g n).lookup ("worn":Str)=some (.ref n):=by
 unfold GC;rw[Sh,show (("worn":Str) == ("counts":Str))=false from by decide];dsimp only;rw[Sh,show (("worn":Str) == ("groups":Str))=false from by decide];rfl
def GH (h1:(m == ("counts":Str))=false:=by decide)(h2:(m == ("groups":Str))=false:=by decide)(h3:(m == ("worn":Str))=false:=by decide):(GC c g n).lookup m=none:=by
 unfold GC;rw[Sh,h1];dsimp only;rw[Sh,h2];dsimp only;rw[Sh,h3];rfl
variable {r dx:Addr}{fs:List (Str × V)}{H':Hp}{xs:List V}
def aN.eX (s:Off a H H')(ha:H a=some (.ins C dx fs))(h:aN K H r xs):aN K H' r xs:=by
 rcases h with (h | ⟨o,h⟩) | h
 ·exact .inl<|.inl<|s r _ (fK h ha λz=>nomatch z) h
 ·exact .inl<|.inr ⟨o,s r _ (fK h ha λz=>nomatch z) h⟩
 ·exact .inr h
def vX.eX {p:Addr}(s:Off a H H')(ha:H a=some (.ins C dx fs)):vX K H p->vX K H' p
 | .inl h=>.inl h
 | .inr ⟨o,u,h,c⟩=>.inr ⟨o,u,s p _ (fK h ha λz=>nomatch z) h,c⟩
theorem GF.eX (s:Off a H H')(ha:H a=some (.ins C dx fs)):∀ {vs:List V} {L:B0L},GF K H vs L->GF K H' vs L
 | [],[],h=>h
 | _::_,_::_,⟨⟨r,p,e,h,b,t⟩,q⟩=>⟨⟨r,p,e,h.eX s ha,b.eX s ha,t.eX s ha⟩,GF.eX s ha q⟩
 | [],_::_,h=>h.elim
 | _::_,[],h=>h.elim
variable {cs:List Int}
def ft.mono {hs:List Int}{us:List V}(h:ft K C H a c g cs us hs)(s:ag H H'):ft K C H' a c g cs us hs:=by
 obtain⟨d,n,b,hn⟩:=h.ex;exact⟨⟨d,n,s _ _ b,s.aT hn⟩,s.aT h.Ud,s.aT h.Ug⟩
def oQ (K:Frag)(C:Addr):Sp:=λb H Q _=>∃ (a c g:Addr) (cs hs:List Int) (ws:List Nat) (us:List V) (L:B0L) (i:Nat),b=[.ref a,.int i]/\ft K C H a c g cs us hs/\GF K H us L/\cA cs/\HN cs hs cs.length/\Cr cs ws L/\i<cs.length/\∀ H',ag H H'->Q (.int<|vV cs L hs i) H'
structure Us (cs:List Int)(g:Bool × List Nat):Prop where
 lt:∀ x∈g.2,x<cs.length
 nd:g.2.Nodup
 ne:1<=g.2.length
 ring:g.1=true->2<=g.2.length/\∀ x∈g.2,cs.getD x 0=2
 KP:g.1=false->oz g.2=true
def gI (L:B0L):List (Bool × List Int):=L.map λg=>(g.1,aK g.2)
theorem GF.gi {K:Frag}{H:Hp}:∀ {vs:List V} {L:B0L},GF K H vs L->GI K H vs (gI L)
 | [],[],h=>h
 | _::_,_::_,⟨⟨r,p,e,h,a,_⟩,q⟩=>⟨⟨r,p,e,h,a⟩,GF.gi q⟩
 | [],_::_,h=>h.elim
 | _::_,[],h=>h.elim
def OI {g:Bool × List Nat}(h:Rg cs ws g)(a:Us cs g):DP cs ws (g.1,aK g.2)=true:=by
 unfold DP;have d:decide (1<=(aK g.2).length)=true:=cc (by rw[ak];exact a.ne)
 have f:Il cs.length (aK g.2)=true:=by
  unfold Il aK;rw[Pi,ih];intro x hx
  have:=a.lt x hx
  simp only[Function.comp,Bool.and_eq_true,decide_eq_true_eq]
  omega
 show (decide (1<=(aK g.2).length)&&(Il cs.length (aK g.2)&&Ct cs ws g.1 (nats<|aK g.2)))=true;rw[d,f,FJ,o6,o6];unfold Ct
 cases hb:g.1 with
 | true=>
  obtain⟨c,hc,b⟩:=h.ring hb;rw[if_pos rfl,ef];refine⟨?_,?_⟩
  ·unfold jw;rw[cc c,cc h.nd,o6,o6,ih];intro k hk;have hk:=kf.mp hk
   have:=b (ahead g.2.length k) (by unfold ahead;split<;>omega)
   have e:(ahead g.2.length k+1) % g.2.length=k:=by
    unfold ahead
    split
    ·rename_i z;rw[show g.2.length - 1+1=g.2.length by omega,Nat.mod_self,z]
    ·rw[show k - 1+1=k by omega,Nat.mod_eq_of_lt hk]
   rw[e] at this;exact this
  ·rw[ih];exact λx hx=>cc<|hc x hx
 | false=>
  rw[if_neg hI,a.KP hb,o6];unfold dh;rw[ih];intro x hx;rw[ih];intro y hy
  by_cases e:y=x
  ·rw[cc e];rfl
  ·rw[h.KP hb x hx y hy (Ne.symm e),Bool.or_true]
theorem Bf {cs:List Int}{ws:List Nat}:∀ {L:B0L} {gone:List Nat} {k:Nat},(∀ g∈L,Rg cs ws g/\Us cs g)->(L.Pairwise λg h=>∀ x∈g.2,x∉h.2)->(∀ g∈L,∀ x∈g.2,x∉gone)->DR cs ws (aK gone) k (gI L)=none
 | [],_,_,_,_,_=>rfl
 | g::L,gone,k,h,d,n=>by
  have h1:=h g eR;show (if (DP cs ws (g.1,aK g.2)&&!((aK g.2).any λi=>decide<|i∈aK gone))=true then DR cs ws (aK gone++aK g.2) (k+1) (gI L) else some k)=none
  have e:((aK g.2).any λi=>decide<|i∈aK gone)=false:=by
   rw[List.any_eq_false];intro i j;obtain⟨x,hx,rfl⟩:=j9.mp j;rw[r4];exact λz=>n g eR x hx<|nr.mp z
  rw[OI h1.1 h1.2,e,if_pos ad,<-dQ]
  obtain⟨c,f⟩:=List.pairwise_cons.mp d;refine Bf (λb a=>h b<|fA _ a) f λb a x hx z=>?_
  rcases eG.mp z with z | z
  ·exact n b (fA _ a) x hx z
  ·exact c b a x z hx
def GJ (row:List Nat)(p:Nat->Bool):(((List.range (aK row).length).filter λj=>p<|row.getD j 0).map λj=>((row.getD j 0:Nat):Int))=aK (row.filter p):=by
 have e:row=(List.range row.length).map λk=>row.getD k 0:=by
  apply ext_getElem
  ·simp
  ·intro i h1 a;simp[h1]
 have f:=List.filter_map (f:=λk=>row.getD k 0) (p:=p) (l:=List.range row.length);rw[<-e] at f;rw[ak,f];unfold aK;rw[kb]
 rfl
def dF (cs hs:List Int)(L:B0L):List Nat:=(List.range cs.length).filter λi=>decide<|vV cs L hs i=hs.getD i 0
def HN.OJ (h:∀ c∈cs,1<=c):HN cs (List.replicate cs.length 0) cs.length:=by
 refine⟨length_replicate,λi a=>?_⟩
 have:=h _<|L2.getD_mem a
 rw[show (List.replicate cs.length (0:Int)).getD i 0=0 by rw[b3,List.getElem?_replicate,if_pos a];rfl]
 omega
variable {B:TS}
def wA {A:TS}{σ:L2.St}(I:L2.St->Hp->Prop)(h2:∀ σ' H',I σ' H'->B D σ' H')(h1:∀ R:L2.St->Hp->Prop,(∀ σ' H',I σ' H'->R σ' H')->A {D with nx:=R} σ H):BO A B D σ H:=h1 (B D) h2
def TN (a C:Addr)(d:Option Addr):Heap->Prop:=λh=>∃ oe,h.get? a=some oe/\RE oe C d
def oR (a C:Addr)(d:Option Addr):HO:=.ext<|TN a C d
variable {d:Option Addr}
def KA (e:h.get? a=some oe)(o:RE oe C d):bB P w H h a (oR a C d):=
 ⟨⟨oe,e,o⟩,⟨oe,e⟩,λh1 g ⟨c,f,b⟩ k=>⟨c,k _ f,b⟩⟩
variable {o:HO}
def Inv.MA (I:Inv X pins σ H s)(n:H a=none)(n0:X.s₀.heap.get? a=none)(ne:a≠X.env.locals)(nc:∀ x c,X.env.cells.lookup x=some c->c≠a)(np:∀ p∈X.pn++pins,p.1≠a)(new:bB X.prog X.w (upd H a o) s.heap a o):Inv X pins σ (upd H a o) s:=by
 have d:∀ b u,H b=some u->b≠a:=λb u e=>aH e n;refine⟨I.ok,I.os,I.bare,⟨I.base.keep,I.base.slot,λb u e j hx=>?_,I.base.there,λb h e=>?_,λb u v e=>?_,λb i e=>?_⟩,I.loc,I.cell,?_,λx c e=>?_,λp g=>?_,λb u e=>?_,I.len⟩
 ·rw[aB (λz=>by rw[z,n0] at e;cases e)];exact I.base.free b u e j hx
 ·have:=I.base.mT b h e;rw[aB (d _ _ this)];exact this
 ·have:=I.base.l9 b u v e;rw[aB (d _ _ this)];exact this
 ·obtain⟨f,z⟩:=I.base.mS b i e;exact⟨f,by rw[aB (d _ _ z)];exact z⟩
 ·rw[aB (Ne.symm ne)];exact I.free
 ·rw[aB (nc x c e)];exact I.fH x c e
 ·obtain⟨e,q,r⟩:=I.pin p g;exact⟨e,by rw[aB (np p g)];exact q,r⟩
 ·by_cases hb:b=a
  ·subst hb;rw[af] at e;cases e;exact new
  ·rw[aB hb] at e;exact(I.aY b u e).nJ (λc v _ q=>q) (λc q=>by rw[aB (d _ _ q)];exact q) λc h q=>by rw[aB (d _ _ q)];exact q
def Inv.uf (hc:X.calm=true->X.A.handled=none)(hf:X.A.frames=some X.stack)(I:Inv (X.held a) pins σ H s):Inv X pins σ H s:=
 ⟨⟨I.ok.mod,I.ok.kind,I.ok.glob,I.ok.blt,I.ok.above,I.ok.inj,I.ok.has,I.ok.Pm,hc,hf,I.ok.MN,I.ok.PF,I.ok.bs,I.ok.Ib,I.ok.xl,I.ok.zG,I.ok.jZ,I.ok.Li⟩,I.os,I.bare,I.base,I.loc,I.cell,I.free,I.fH,I.pin,I.aY,I.len⟩
theorem Sc.held {N W G:List Str}(S:Sc X N W G):Sc (X.held a) N W G:=⟨S.eN,S.nd,S.SJ,S.SI,S.gl⟩
def GK (names:List Str)(er:Str->Addr)(tb:Mu)(i:Nat)(y:Str)(th:Addr->TS):TS:=λD σ H=>
 tb D (λe C d c=>∃ x,x∈names/\C=.ref (er x)/\jI x y=true/\∀ a,c a=none->th a {nx:=λb=>D.nx<|b.set i none,rt:=D.rt,bk:=λb=>D.bk<|b.set i none,ct:=λb=>D.ct (b.set i none)} (e.set i<|some<|.ref a) (upd c a<|oR a (er x) d)) σ H
variable {th:Addr->TS}
def RJ {n:Str}{np hpos pos:Pos}{b0:Stmt}{suite body:List Stmt}{rest:List ExceptHandler}{tb:Mu}(S:Sc X N W G)(g i:Nat)
  (hxe:X.xe=λ_ _=>False) (hc:X.calm=true) (ho:Own X) (hex:X.ex=[]) (ER:lG X.K X.mg names er) (hy:y∈names) (hb:RD X body tb)
  (hh:∀ (a:Addr),Sc (X.held a) N W G->u6 (X.held a) (b0::suite) (th a))
  (hk:X.env.scope.names.lookup n=some .local) (hg:G[g]?=some y:=by rfl) (hi:N[i]?=some n:=by rfl) (hw:W[i]?=some n:=by rfl) :
  QS X (.Try body (.ExceptHandler (some<|.Name y np) (some n) (b0::suite) hpos::rest) [] [] pos) (GK names er tb i y th):=by
 have qg:=S.gl y<|fO hg;have qs:=S.SI n<|fO hw;have hN:X.N.Nodup:=by rw[S.eN];exact S.nd
 have B:X.N[i]?=some n:=by rw[S.eN];exact hi
 refine⟨λj s σ H D I h=>?_⟩;refine wpAny_Try_except<|xF (hb.h j s σ H D _ I h) (λf E q=>?_) λe E ⟨σ',H0,s0,Z,z⟩=>?_
 ·cases f with
  | next=>exact wpAny_execs_nil q
  | ret v=>exact q
  | brk=>exact q
  | cont=>exact q
 obtain⟨a,T,C,d,Q,rfl,os,P,un,aY,na,nT,⟨fl,ha,hT⟩,x,hx,hC,hxy,w⟩:=z
 cases hC
 have J:Inv X j σ' Q E:=Z.zU (ch:=[]) os un aY P λb z=>absurd z (by simp)
 have fr:X.A.frames=some (X.env::X.outer):=by rw[I.ok.frames,ho.1]
 have MN:E.heap.FunFrames X.base (X.env::X.outer):=by rw[<-ho.1];exact J.stack
 refine A9 fr MN ho.2 fl λh4 T4 nT4 f4 k4=>?_;refine fP (l:=js (X.env::X.outer)) f4 λh5 f5 k5=>?_;have k45:Kept (js (X.env::X.outer)) [a,T] E.heap h5:=k4.trans k5 λb o e z=>by rw[dt.mp z,nT4] at e;cases e
 have step:∀ (Y:List Addr) (h2:Heap),(∀ b∈Y,s0.heap.get? b=none/\Q b=none)->Kept (js (X.env::X.outer)) Y E.heap h2->Inv X j σ' Q {E with heap:=h2}:=λY h2 M k=>by
  refine Z.zU (ch:=[]) os ?_ ?_ P λb z=>absurd z (by simp)
  ·exact Gq un (λb hb=>(M b hb).1) (λb o e n1 n2=>k.1 b o e (by rw[<-ho.1];exact n1) n2) λb o e _ n2=>k.2 b o e n2
  ·exact A8 aY (λb o e n1 n2=>k.1 b o e (by rw[<-ho.1];exact n1) n2) J.nh λb hb=>(M b hb).2
 have F:∀ b∈[a,T],s0.heap.get? b=none/\Q b=none:=λb hb=>by
  rcases gd.mp hb with z | z
  ·rw[z];exact⟨na,ha⟩
  ·rw[dt.mp z];exact⟨nT,hT⟩
 have I5:Inv X j σ' Q {E with heap:=h5}:=step _ _ F k45;obtain⟨oe5,vs5,oT5,ts5,he5,hc5,hd5,hdt5,_⟩:=id f5;refine wpAny_handleBy_cons (codeAny_handlers_test<|i8 (X:=X.held a) (I5.held a) qg.1 (ER.gl y hy) ?_ qg.2.1) (by intro q;cases q)
 refine CG (K:=X.K) I5.gr he5 hc5 (ER.ty y hy) (ER.cls y hy) ((ER.US x hx y hy).trans (by rw[hxy])) ?_
 show codeAny _ _ _ _ _;refine codeAny_handlers_suite_as ?_;refine fP (l:=js (X.env::X.outer)) f5 λh6 f6 k6=>?_;have k56:Kept (js (X.env::X.outer)) [a,T] E.heap h6:=k45.trans k6 λb o e z=>by rw[dt.mp z,nT4] at e;cases e
 have I6:Inv X j σ' Q {E with heap:=h6}:=step _ _ F k56;obtain⟨oe6,vs6,oT6,ts6,ab,hc6,hd6,L,_⟩:=id f6;have nal:a≠X.env.locals:=λz=>by
  obtain⟨m,⟨o,es,ep,O,e2,_⟩,_⟩:=I6.loc;rw[<-z,ab] at O;cases O
  rw[L] at e2;cases e2
 have n0:X.s₀.heap.get? a=none:=by
  cases z:X.s₀.heap.get? a with
  | none=>rfl
  | some o=>
   obtain⟨o',e'⟩:=Z.base.there a o z (by rw[hex];simp)
   rw[na] at e';cases e'
 have nc:∀ x c,X.env.cells.lookup x=some c->c≠a:=λx c e z=>by
  obtain⟨v,o,O,_⟩:=Z.cell x c e;rw[z,na] at O;cases O
 have np:∀ p∈X.pn++j,p.1≠a:=λp hp z=>by
  have O:=(Z.pin p hp).1;rw[z,na] at O;cases O
 have I7:Inv (X.held a) j σ' (upd Q a<|oR a (er x) d) {E with heap:=h6}:=(I6.MA ha n0 nal nc np<|KA ab ⟨hc6,hd6,vs6,L⟩).held a;refine j1 (X:=X.held a) (v:=.ref a) I7 hN B qs.1 rfl (λs7 I8=>?_) qs.2;refine xF ((hh a S.held).h j s7 _ _ _ I8<|w a ha) (λf s8 q=>?_) λe s8 z=>?_
 ·cases f with
  | next=>
   obtain⟨σ8,U,R,q⟩:=q;exact nC (R.uf I.ok.hd I.ok.frames) hN B hk λs9 t=>⟨_,U,t,q⟩
  | brk=>
   obtain⟨σ8,U,R,q⟩:=q;exact nC (R.uf I.ok.hd I.ok.frames) hN B hk λs9 t=>⟨_,U,t,q⟩
  | cont=>
   obtain⟨σ8,U,R,q⟩:=q;exact nC (R.uf I.ok.hd I.ok.frames) hN B hk λs9 t=>⟨_,U,t,q⟩
  | ret u=>
   obtain⟨v,σ8,U,R,r,q⟩:=q;exact nC (R.uf I.ok.hd I.ok.frames) hN B hk λs9 t=>⟨v,_,U,t,r,q⟩
 ·have z':X.xe e s8:=z;rw[hxe] at z';exact z'.elim
def Def.gz (D:Def K mg x st)(S:DS (aj st) N ps G)
  (hb:∀ (kV doc pm:Value) (an:Option Addr) (cy ct:Value) (us:List Value),us.length=ps.length->bindArgs (fnOf x x (bf st) (aO st) (aj st) .none kV doc pm an cy ct) ⟨us,[]⟩=pure (ps.zip us))
  (len:∀ vs H Q E,sp vs H Q E->vs.length=ps.length)
  (cV:∀ (X:Cx),Sc X N N G->X.prog=P->X.w=w->X.K=K->X.mg=mg->X.base=base->X.calm=true->X.env.scope=aj st->Own X->X.ex=[]->X.xe=(λ_ _=>False)->b6 k X.A->X.A.units+64<cLine->
   ∀ (H:Hp) (vs:List V) (Q:VK) (E:XK),sp vs H Q E->∃ t,u6 X (aO st) t/\t {nx:=λ_ H'=>Q .bx H',rt:=Q} (L2.start N vs) H):Fn P w K mg base (k+1) x ps sp:=by
 refine D.fn S.fs hb len λf cy A a s H vs Q E b h=>?_;obtain⟨t,z,y⟩:=cV _ S.cx rfl rfl rfl rfl rfl rfl rfl ⟨rfl,rfl⟩ rfl rfl b b.units H vs Q E h;exact⟨t,z.h,y⟩
def wB {σ:St}(I:Inv X pins σ H s)(h:H a=some (oR a (er x) d))(v:Kx H d):∃ o od,PySem.W.InstAt s.heap a o (er x) od:=by
 obtain⟨⟨o,e,h1,b,g,c⟩,_⟩:=I.aY a _ h;have hn:notCls o=true:=by unfold notCls;rw[c]
 cases d with
 | none=>exact⟨o,none,⟨e,h1,hn,by rw[b];trivial⟩⟩
 | some f=>
  obtain⟨fs,q⟩:=v;obtain⟨u,z⟩:=I.aY.there q;exact⟨o,some u,⟨e,h1,hn,by rw[b];exact z⟩⟩
def TQ (names:List Str)(er:Str->Addr)(y:Str):List V->Hp->VK->Prop:=λb H Q=>∃ a x d,b=[.ref a,.ref<|er y]/\x∈names/\H a=some (oR a (er x) d)/\Kx H d/\Q (.bl<|jI x y) H
def RK (names:List Str)(er:Str->Addr):List V->Hp->VK->Prop:=λb H Q=>∃ a x d,b=[.ref a,.ty "ValueError"]/\x∈names/\H a=some (oR a (er x) d)/\Kx H d/\Q (.bl true) H
def iH (ER:lG X.K X.mg names er)(hy:y∈names):bO X (.builtin "isinstance") (TQ names er y):=by
 intro b s σ H m j Q I r h;obtain⟨a,x,d,rfl,hx,i,v,q⟩:=h;obtain⟨u1,g,rfl,f,e⟩:=r.two
 cases (show u1=Value.ref a from f)
 cases (show g=Value.ref (er y) from e)
 obtain⟨o,l,J⟩:=wB I i v;exact kia_one (wx<|ER.cls x hx) I.gr J (ER.UR x hx y hy) (by intro z;cases z) λc=>⟨.bl _,H,I.tok c,rfl,q⟩
def CL (ER:lG X.K X.mg names er):bO X (.builtin "isinstance") (RK names er):=by
 intro b s σ H m j Q I r h;obtain⟨a,x,d,rfl,hx,i,v,q⟩:=h;obtain⟨u1,g,rfl,f,e⟩:=r.two
 cases (show u1=Value.ref a from f)
 cases (show g=Value.type "ValueError" from e)
 obtain⟨o,l,J⟩:=wB I i v;exact kia_one (wx<|ER.cls x hx) I.gr J (ER.val x hx) (by intro z;cases z) λc=>⟨.bl _,H,I.tok c,rfl,q⟩
def yX (C:Addr)(sp:Sp)(t:TA):RC:=λσ H Q E=>t σ H λb H1=>∀ x dx,H1 x=none->H1 dx=none->dx≠x->sp (.ref x::b) (upd (upd H1 dx<|.own x) x<|.ins C dx []) (λv a=>v=.bx/\Q (.ref x) a) E
variable {n:Nat}
def TR (S:Sc X N W G)(hxe:X.xe=λ_ _=>False)(g:Nat)(T:gX X.K X.mg x C fields)(F:rY X.prog X.w X.K X.mg X.base k C "__init__" ps sp)(hr:b6 n X.A)(ha:QB X (e::es) t)(hk:k+1<=n:=by decide)(hg:G[g]?=some x:=by rfl) :
  TJ X (.Call (.Name x p) (e::es) [] pos) (yX C sp t):=by
 obtain⟨f,Z,F,m,hb⟩:=F.ex;have y:=S.gl x<|fO hg;have M:Mk X.K C f:=⟨T.makes,m.at_,m.fn,T.kp⟩;refine⟨λj s σ H Q E I h=>?_⟩;refine U6<|i8 I y.1 T.gl ?_ y.2.1;refine callWith_K (h₀:=X.base) I.ok.mod.MP M.kp (xF (ha.h.pa pos j s σ H _ I h) (λc b ⟨B,H1,d,r,q⟩=>⟨d.gr,?_⟩) λx D z=>by rw[hxe] at z;exact z.elim) (bb ha.h.he)<|cJ ha.h.xS
 have hq:=q (b.heap.objs.size+1) b.heap.objs.size (d.aY.fresh<|le_succ _) (d.aY.fresh<|ea _)<|j6<|Vo _;have l:=Inv.made (C:=C) d;have o:Vals (V.ref (b.heap.objs.size+1)::B) (Value.ref (b.heap.objs.size+1)::c):=.cons rfl r;have O:(Value.ref (b.heap.objs.size+1)::c).length=ps.length:=by rw[<-o.length];exact F.len _ _ _ _ hq
 have i:=hb _ (Value.ref (b.heap.objs.size+1)::c) l.gr (by rw[F2];exact O)
 rw[F2] at i;refine wpAny_call<|vk (f:=f) d.gr M.makes M.init (Vj.mp M.fn)<|On (F.run _ X.stack _ _ ⟨Value.ref (b.heap.objs.size+1)::c,[]⟩ _ _ _ E ((hr.mono hk).make C c []) (l.Jc.make C c []) i o hq) λr D a=>?_
 cases r with
 | error e=>exact⟨_,_,l,a⟩
 | ok Y=>
  cases Y with
  | ret u=>
   obtain⟨v,U,R,J,L,P⟩:=l.after a;subst L;exact⟨J,⟨V.ref<|b.heap.objs.size+1,U,R,rfl,P⟩⟩
  | next=>exact False.elim a
  | brk=>exact False.elim a
  | cont=>exact False.elim a
def oS:List Value->Bool
 | []=>false
 | v::r=>(v::r == qj)||(match v with | .ref _=>oS r | _=>false)
theorem dW {t:String}:∀ {l:List Value},oS l=true->l.contains (.type t)=qj.contains (.type t)
 | [],e=>by cases e
 | v::r,e=>by
  unfold oS at e
  rcases Bool.or_eq_true_iff.mp e with q | q
  ·rw[Vj.mp q]
  ·cases v with
   | ref a=>rw[Vq,dW (l:=r) q];rfl
   | _=>cases q
theorem oU (self:Value):∀ {l:List Value},oS l=true->refuseLoop self "__setattr__" l=pure ()
 | [],e=>by cases e
 | v::r,e=>by
  unfold oS at e
  rcases Bool.or_eq_true_iff.mp e with q | q
  ·rw[Vj.mp q];exact PySem.F.store_ValueError.passes self
  ·cases v with
   | ref a=>rw[refuseLoop_ref];exact oU self q
   | _=>cases q
structure RL (h:Heap)(C:Addr)(bm:List Value):Prop where
 obj:∃ nm qn N bs sn sub ab col dd k0 k1 k2 k3 k5,h.get? C=some (excClassObj nm qn C N bs bm true sn sub ab col dd k0 k1 k2 k3 k5 "ValueError.__new__")
 ends:oS bm=true
def oX (K:Frag)(C:Addr):Bool:=match K.lookup C with
 | some ⟨.type "type",_,.cls a,c⟩=>(match a.mro,c.toList with
  | .ref d::e,[_,_,_,_,some<|.builtin n,_]=>d == C&&n == "ValueError.__new__"&&!a.hasDel&&a.hasDict&&oS e
  | _,_=>false)
 | _=>false
def kE (X:K.In h)(q:oX K C=true):∃ bm,RL h C bm/\∃ cd,clsIn K C=some cd/\cd.hasDict=true/\cd.mro=.ref C::bm:=by
 unfold oX at q
 split at q
 ·rename_i dd cd sl ho
  split at q
  ·rename_i C' bm k0 k1 k2 k3 n k5 hm hs
   simp only[Bool.and_eq_true,beq_iff_eq,Bool.not_eq_true'] at q;obtain⟨⟨⟨⟨i,j⟩,d⟩,b⟩,p⟩:=q;subst i j;have hc:clsIn K C'=some cd:=by unfold clsIn;rw[ho]
   refine⟨bm,⟨?_,p⟩,cd,hc,b,hm⟩;obtain⟨e,bs,mro,f,m,s,r,c,g,a,o⟩:=cd
   dsimp only at hm d b
   subst hm d b;obtain⟨l⟩:=sl
   dsimp only at hs
   subst hs;exact⟨e,m,f,bs,r,c,g,a,dd,k0,k1,k2,k3,k5,X _ _ ho⟩
  ·cases q
 ·cases q
abbrev cI (C t:Addr)(d:Option Addr):Obj:={cls:=.ref C,dict:=d,data:=.fields #[.ref t,.none,.none,.none,.bool false,.none]}
abbrev iI (us:List Value):Obj:={cls:=.type "tuple",data:=.seq us.toArray}
variable {E:Value->Shared->Prop}{g:Array GenState}{d:Drawn}{t:Nat}{bm us:List Value}{Q:Unit->Shared->Prop}
def KD (S:RL h C bm)(q:Q () ⟨h,g,d,t,os⟩):wpAny M A (checkBuiltinCall "ValueError.__new__" ⟨.ref C::us,[]⟩) Q E ⟨h,g,d,t,os⟩:=by
 obtain⟨⟨l,r,N,bs,o,e,n,b,m,i,s,u,j,f,a⟩,hb⟩:=S;have FB:=excBase_ValueError;have c:(Value.ref C::bm).contains (.type "ValueError")=true:=by rw[Vq,dW hb,show qj.contains (.type "ValueError")=true by decide +kernel];rfl
 have p:=FB.noStar;simp only[checkBuiltinCall,FB.newKind,FB.newSplit,FB.newRow]
 repeat (first | refine Vh a ?_ | (refine wpAny_isSubtype_exc a ?_;rw[c]) | refine wpAny_staticBase_exc a ?_ | refine wpAny_madeBy_exc a ?_ | simp only[bne_self_eq_false,Bool.false_eq_true,if_false] | wp_step)
 exact q
variable {R:Result->Shared->Prop}
def KG (S:RL h C bm)(hl:us.length<=sizeLine)(q:R (.ok<|.ret<|.ref<|h.objs.size+1) ⟨(h.push<|iI us).push<|cI C h.objs.size none,g,d,t,os⟩):codeAny (model prog w) A (.builtin "ValueError.__new__" ⟨.ref C::us,[]⟩) R ⟨h,g,d,t,os⟩:=by
 obtain⟨⟨o,v,N,bs,u,j,s,c,r,m,y,z,n,l,b⟩,hb⟩:=S;have FB:=excBase_ValueError;have x:=FB.ends;have f:(Value.ref C::bm).contains (.type "ValueError")=true:=by rw[Vq,dW hb,show qj.contains (.type "ValueError")=true by decide +kernel];rfl
 have e:(Value.ref C::bm).contains (.type "AttributeError")=false:=by rw[Vq,dW hb,show qj.contains (.type "AttributeError")=false by decide +kernel];rfl
 have i:(Value.ref C::bm).contains (.type "NameError")=false:=by rw[Vq,dW hb,show qj.contains (.type "NameError")=false by decide +kernel];rfl
 refine codeAny_builtinAt FB.entry ?_;unfold Builtin.«BaseException.__new__»;refine PySem.wpAt_bind ?_;show PySem.wpAt _ _ _ (stack >>= _) _ _ _;refine PySem.wpAt_bind (PySem.wpAt_stack λp a=>PySem.wpAt_of_wpAny ?_)
 wp_walk
 refine PySem.wpAt_of_wpAny ?_;rw[FB.owner]
 repeat (first | with_reducible refine wpAny_madeHere_exc FB.canon b ?_ | with_reducible refine Vh b ?_ | (with_reducible refine wpAny_isSubtype_exc b ?_;first | rw[f] | rw[e] | rw[i]) | wp_step)
 show R _ _;rw[C5];exact q
variable {f:Addr}
def GN (X:K.In h)(S:RL h C bm)(hl:us.length<=sizeLine)(hi:findIn K (.ref C) "__init__"=some (some<|.ref f))(hf:typeIn K (.ref f)=some (.type "function"))
  (hcl:specialIn K (.ref C) "__call__"=some (some<|.builtin "type.__call__")) (hty:instIn K (.ref C) (.type "type")=some true)
  (q:codeAny (model prog w) (A.under<|.builtin "type.__call__" ⟨.ref C::us,[]⟩) (.call (.ref f) ⟨.ref (h.objs.size+1)::us,[]⟩) (InitBack (h.objs.size+1) R) ⟨(h.push<|iI us).push<|cI C h.objs.size none,g,d,t,os⟩) :
  codeAny (model prog w) A (.call (.ref C) ⟨us,[]⟩) R ⟨h,g,d,t,os⟩:=by
 have l:=S;obtain⟨⟨E,J,N,bs,I,x,H,p,G,B,O,P,D,y,c⟩,hb⟩:=S;have FB:=excBase_ValueError;have n:=PySem.W.looks_specialIn (M:=model prog w) X hcl;refine codeAny_of_tree ?_;show wpAny _ _ (callAny (.ref C) _) _ _ _;refine PySem.W.nd_load c ?_;show wpAny _ _ (callAny.viaDunder (.ref C) _) _ _ _;unfold callAny.viaDunder;refine b7<|n.at ?_;dsimp only;rw[tc_bind];refine b7<|ey<|b7<|ey<|ey (a:=Fin.again<|.call (.builtin "type.__call__") ⟨.ref C::us,[]⟩)<|And.intro rfl ?_;refine codeAny_call_builtin_at (Code.quiet_builtin _ Dk0) entry_typeCall<|PySem.W.check_slot tc_kind tc_split (PySem.W.looks_instIn X hty) (PySem.W.tc_args _ _ _) ?_
 unfold Builtin.«type.__call__»
 repeat (first | with_reducible refine Vh c ?_ | with_reducible refine wpAny_madeBy_exc c ?_ | with_reducible refine wpAny_call ?_ | wp_step)
 refine codeAny_call_builtin_code (Code.quiet_builtin _ FB.quiet)<|KD l<|KG l hl ?_;show wpAny _ _ _ _ _ _;have k:∀ b o,h.get? b=some o->((h.push<|iI us).push<|cI C h.objs.size none).get? b=some o:=λb o e=>c8 _<|c8 _ e;have j:=X.keeps k;have hx:((h.push<|iI us).push<|cI C h.objs.size none).get? (h.objs.size+1)=some (cI C h.objs.size none):=by heap_get
 have m:(Value.ref C::bm).contains (.ref C)=true:=by simp
 have i:=k _ _ c;have s:=looks_findIn (M:=model prog w) j hi;have u:=bind_fn (M:=model prog w) j (.ref<|h.objs.size+1) hf;unfold isInstance
 repeat (first | with_reducible refine Vh hx ?_ | (with_reducible refine wpAny_isSubtype_exc i ?_;rw[m]) | wp_step)
 show wpAny _ _ (typeLookup (.ref C) _) _ _ _;refine s.at ?_;refine U0<|b7<|u.at ?_;refine b7<|wpAny_call<|On q λr L z=>?_
 rcases r with e | (v | _ | _ | _)<;>first | exact z | exact z.elim | skip
 obtain⟨rfl,z⟩:=z
 wp_walk;exact z
variable {e t:Addr}{v:Value}
def KH (X:K.In s.heap)(he:s.heap.get? e=some (cI C t none))(hs:findIn K (.ref C) "__setattr__"=some (some<|.builtin "object.__setattr__"))(ha:findIn K (.ref C) name=some none)
  (hsh:oX K C=true) (q:∀ h',h'.get? e=some (cI C t<|some s.heap.objs.size)->h'.Ns1 s.heap.objs.size (λy=>if y=name then some v else none)->(∀ b o,b≠e->s.heap.get? b=some o->h'.get? b=some o)->Q () {s with heap:=h',toks:=s.toks+2}) :
  wpAny (model prog w) A (setAttr (.ref e) name v) Q E s:=by
 have J:PySem.W.InstAt s.heap e (cI C t none) C none:=⟨he,rfl,rfl,trivial⟩;obtain⟨n,S,D,hc,x,hm⟩:=kE X hsh;have d:=PySem.F.store_object;have r:Looks (model prog w) s.heap (mroOf<|.ref C) (.ref C::n):=by rw[<-hm];exact(looks_clsIn X hc).andThen .now
 have l:(Value.ref C::n).contains (.type "object")=true:=by rw[Vq,dW S.ends,show qj.contains (.type "object")=true by decide +kernel];rfl
 have p:Looks (model prog w) s.heap (isInstance (.ref e)<|.type "object") true:=J.type.andThen (looks_mroIn X (by unfold mroIn;rw[hc,bind_some,hm,if_neg (by simp),l]))
 refine set_plain X J hs ?_;refine codeAny_call_builtin d.slot.plain d.entry<|@PySem.W.check_slot (model prog w) _ _ {s with toks:=s.toks+1} "object.__setattr__" "object" "__setattr__" (.ref e) [.str name s.toks,v] [] _ d.kind d.split p (d.args (.ref e) (.str name s.toks) v) ?_;rw[osa_eq,refuse_eq];refine b7<|b7<|U5 (s:={s with toks:=s.toks+1}) J.type<|b7<|U5 (s:={s with toks:=s.toks+1}) r ?_;rw[refuseLoop_ref,oU _ S.ends];refine ey<|b7<|U5 (s:={s with toks:=s.toks+1}) J.type<|b7<|U5 (s:={s with toks:=s.toks+1}) (looks_findIn X ha)<|b7<|ey ?_;have hx:s.heap.get? e=some ⟨.ref C,none,.fields #[.ref t,.none,.none,.none,.bool false,.none],#[]⟩:=he;refine b7<|ey<|b7<|b7<|wpAny_loadPart hx<|b7<|U5 (s:={s with toks:=s.toks+1}) (looks_clsIn X hc) ?_;rw[x];have c:(s.heap.push emptyDict).get? e=some (cI C t none):=c8 _ he;have xS:e≠s.heap.objs.size:=j6<|lt_size he;refine b7<|wpAny_alloc' ?_;refine b7<|wpAny_update' c ?_;refine ey ?_;have h:((s.heap.push emptyDict).update e λo=>{cls:=o.cls,dict:=some s.heap.objs.size,data:=o.data,slots:=o.slots}).get? e=some (cI C t<|some s.heap.objs.size):=get?_update_self _ c rfl;have m:((s.heap.push emptyDict).update e λo=>{cls:=o.cls,dict:=some s.heap.objs.size,data:=o.data,slots:=o.slots}).get? s.heap.objs.size=some emptyDict:=(Heap.get?_update_ne _ _ _ _ xS.symm).trans<|Heap.get?_push_at rfl rfl;have g:((s.heap.push emptyDict).update e λo=>{cls:=o.cls,dict:=some s.heap.objs.size,data:=o.data,slots:=o.slots}).Ns s.heap.objs.size (λ_=>none):=⟨_,#[],_,m,rfl,λe he=>absurd he (by simp),λ_=>rfl⟩
 show wpAny _ _ (Builtin.ObjectAttr.storeInDict s.heap.objs.size (.str name s.toks) name v) _ _ _;unfold Builtin.ObjectAttr.storeInDict Builtin.ObjectAttr.newKeyGuard;refine b7<|ey<|b7<|wpAny_nsSet1 (Heap.Ns1.of_empty g) λh' a hs=>?_;obtain⟨B,u,z,i,f,j⟩:=a.count<|Within.cons name v Within.nil;refine b7 (wpAny_lookBehind i (by rw[f];exact pastItsLine_dict (fz j (by rw[ls,length_nil,sizeLine_eq];omega))) ?_)
 refine ey ?_;show Q _ _;refine q h' ((hs.2 e xS).trans h) a λb o hb e=>?_;exact(hs.2 b<|j6<|lt_size e).trans ((Heap.get?_update_ne _ _ _ _ hb).trans<|c8 _ e)
def CM {x:Sem Value}{Q:Flow->Shared->Prop}(hh:A.handled=none)(h:wpAny M A x (λv s1=>∃ e t C d bm,v=.ref e/\RL s1.heap C bm/\s1.heap.get? e=some (cI C t d)/\E (.ref e) s1) E s):wpAny M A (raiseStmt env (some x) none) Q E s:=by
 unfold raiseStmt;refine b7<|xF h (λv s1 h1=>?_) λ_ _ x=>x;obtain⟨e,t,C,d,bm,rfl,⟨⟨p,w,N,bs,D,i,r,b,q,n,u,B,o,m,a⟩,hb⟩,he,f⟩:=h1;have c:(Value.ref C::bm).contains (.type "BaseException")=true:=by rw[Vq,dW hb,show qj.contains (.type "BaseException")=true by decide +kernel];rfl
 obtain⟨l,g,z,j,y⟩:=s1
 repeat (first | with_reducible refine Vh he ?_ | with_reducible refine Vh a ?_ | (with_reducible refine wpAny_isSubtype_exc a ?_;rw[c]) | wp_step)
 exact wpAny_raiseNew_none hh f
structure TU (K:Frag)(C L:Addr):Prop where
 sh:oX K C=true
 UT:findIn K (.ref C) "__init__"=findIn K (.ref L) "__init__"
 Uh:specialIn K (.ref C) "__call__"=some (some<|.builtin "type.__call__")
 ty:instIn K (.ref C) (.type "type")=some true
 sa:findIn K (.ref C) "__setattr__"=some (some<|.builtin "object.__setattr__")
 no:findIn K (.ref C) "line"=some none
 kp:keepIn K (.ref C)=true
def GO (K:Frag)(C L:Addr):Bool:=
 oX K C&&findIn K (.ref C) "__init__" == findIn K (.ref L) "__init__"&&specialIn K (.ref C) "__call__" == some (some<|.builtin "type.__call__")&&instIn K (.ref C) (.type "type") == some true&&
 findIn K (.ref C) "__setattr__" == some (some<|.builtin "object.__setattr__")&&findIn K (.ref C) "line" == some none&&keepIn K (.ref C)
def MB (K:Frag)(names:List Str)(er:Str->Addr):Bool:=names.all λx=>!gF x||GO K (er x) (er "LineError")
def ql (K:Frag)(names:List Str)(er:Str->Addr):Prop:=∀ x∈names,gF x=true->TU K (er x) (er "LineError")
def KI (e:MB K names er=true):ql K names er:=λx hx h=>by
 have z:=ih.mp e x hx;rw[h] at z;simp only[Bool.not_true,Bool.false_or,GO,Bool.and_eq_true,beq_iff_eq] at z;obtain⟨⟨⟨⟨⟨⟨a,b⟩,c⟩,d⟩,e⟩,f⟩,g⟩:=z;exact⟨a,b,c,d,e,f,g⟩
def TV (a C:Addr)(d:Option Addr):Heap->Prop:=λh=>∃ t,h.get? a=some (cI C t d)
def yY (a C:Addr)(d:Option Addr):HO:=.ext<|TV a C d
def GP {d:Option Addr}(e:h.get? a=some (cI C t d)):bB P w H h a (yY a C d):=⟨⟨t,e⟩,⟨_,e⟩,λh1 f ⟨b,c⟩ k=>⟨b,k _ c⟩⟩
def RM {y:V}{u:Value}(n:h.Ns1 dx (λz=>if z="line" then some u else none))(r:RelV y u):bB P w H h dx (.xd [("line",y)]):=by
 refine⟨_,n,λf=>?_⟩;show gL (List.lookup f [("line",y)]) (if f="line" then some u else none)
 by_cases c:f="line"
 ·have hb:(f == ("line":Str))=true:=Vj.mpr c;simp only[List.lookup,hb,if_pos c];exact r
 ·have hb:(f == ("line":Str))=false:=A5.mpr c;simp only[List.lookup,hb,if_neg c];exact trivial
def KJ (H:Hp)(a:Addr):Hp:=λb=>if b=a then none else H b
variable {φ ψ:Heap->Prop}
def Inv.drop (I:Inv X pins σ H s)(e:H a=some (.ext φ)):Inv X pins σ (KJ H a) s:=by
 have g:∀ b,H b=none->KJ H a b=none:=λb h=>by unfold KJ;split<;>first | rfl | exact h
 have d:∀ b u,H b=some u->(∀ ψ,u≠.ext ψ)->KJ H a b=some u:=λb u h n=>by
  unfold KJ;rw[if_neg λz=>by rw[z,e] at h;cases h;exact n _ rfl]
  exact h
 refine⟨I.ok,I.os,I.bare,⟨I.base.keep,I.base.slot,λb u q n hx=>g b<|I.base.free b u q n hx,I.base.there,λb i q=>d b _ (I.base.mT b i q) (λ_ z=>by cases z),λb u v q=>d b _ (I.base.l9 b u v q) (λ_ z=>by cases z),λb m q=>?_⟩,I.loc,I.cell,g _ I.free,λx c q=>g _<|I.fH x c q,λp j=>?_,λb u q=>?_,I.len⟩
 ·obtain⟨f,z⟩:=I.base.mS b m q;exact⟨f,d b _ z (λ_ z=>by cases z)⟩
 ·obtain⟨o,r,l⟩:=I.pin p j;exact⟨o,g _ r,l⟩
 ·have hb:H b=some u:=by
   unfold KJ at q
   by_cases c:b=a
   ·rw[if_pos c] at q;cases q
   ·rw[if_neg c] at q;exact q
  exact(I.aY b u hb).nJ (λc v _ q=>q) (λc q=>d c _ q (λ_ z=>by cases z)) λc i q=>d c _ q (λ_ z=>by cases z)
def Ut (names:List Str)(er:Str->Addr)(ta tv:TE):TS:=λD σ H=>tv σ H λy H1=>ta σ H1 λx b=>∃ a n,x=.ref a/\n∈names/\gF n=true/\b a=some (yY a (er n) none)/\
 ∀ dx,b dx=none->D.nx σ (upd (upd b a<|yY a (er n)<|some dx) dx<|.xd [("line",y)])
variable {e o:Expr}{t:TA}
def sle (IT:ql X.K names er)(ha:QE X o ta)(hv:QE X value tv)(hs:swapsWith value (some<|.Attribute o "line" pos') pos.line X.env=pure false:=by rfl):QS X (.Assign [.Attribute o "line" pos'] value pos) (Ut names er ta tv):=by
 refine⟨λd s σ H D I h=>plainObj_wpAny_Assign_Attribute (bU (hv.h d s σ H _ I h) λu L ⟨y,H1,A,E,q⟩=>bU (ha.h d L σ H1 _ A q) λQ g ⟨x,p,f,O,a,n,B,hn,J,l,F⟩=>?_) hs⟩;subst B;obtain rfl:Q=Value.ref a:=O;have T:=IT n hn J;obtain⟨⟨t,N⟩,_⟩:=f.aY a _ l;refine KH f.gr N T.sa T.no T.sh λC m P R=>?_;have b:p g.heap.objs.size=none:=f.aY.fresh<|ea _;have i:g.heap.objs.size≠a:=(aH l b).symm;have G:Inv X d σ (upd p a<|yY a (er n)<|some g.heap.objs.size) {g with heap:=C,toks:=g.toks+2}:=f.write (x:=a) (e:=a) (by rw[l];exact True.intro) (.inl rfl) R ⟨_,m⟩<|GP m
 refine⟨σ,_,G.MA (a:=g.heap.objs.size) (o:=.xd [("line",y)]) (by rw[aB i];exact b) (get?_none_of_le f.sz) (Ve f.lt) (λz c M=>?_) (λr w=>?_)<|RM P E,F _ b⟩
 ·obtain⟨v,ob,j,_⟩:=f.cell z c M;exact j6<|lt_size j
 ·exact j6<|lt_size (f.pin r w).1
def oY (names:List Str)(er:Str->Addr):Sp:=λb H Q _=>∃ a n v,b=[.ref a,v]/\n∈names/\gF n=true/\H a=some (yY a (er n) none)/\∀ dx,H dx=none->Q .bx (upd (upd H a<|yY a (er n)<|some dx) dx<|.xd [("line",v)])
def OK (S:Sc X N W G)(g:Nat)(ER:lG X.K X.mg names er)(IT:ql X.K names er)(F:rY X.prog X.w X.K X.mg X.base k (er "LineError") "__init__" ["self","line"] (oY names er))(hr:b6 n X.A)(hx:x∈names)(hh:gF x=true)(ha:QB X [e] t)
  (hk:k+1<=n) (hg:G[g]?=some x) {σ:St} {R:V->Hp->Prop} (I:Inv X pins σ H s) (h:t σ H λvs H1=>∃ v,vs=[v]/\R v H1) :
  wpAny (model X.prog X.w) X.A (eval (.Call (.Name x p) [e] [] pos) X.env) (λu s'=>∃ a dx v H1,u=.ref a/\Inv X pins σ (upd (upd H1 a<|yY a (er x)<|some dx) dx<|.xd [("line",v)]) s'/\H1 a=none/\H1 dx=none/\dx≠a/\X.s₀.heap.get? a=none/\R v H1) X.xe s:=by
 obtain⟨f,fd,F,E,hb⟩:=F.ex;have T:=IT x hx hh;have J:=S.gl x<|fO hg;refine U6<|i8 I J.1 (ER.gl x hx) ?_ J.2.1;refine callWith_K (h₀:=X.base) I.ok.mod.MP T.kp (bU (ha.h.pa pos pins s σ H _ I h) λus c ⟨vs,H1,j,r,v,B,q⟩=>⟨j.gr,?_⟩) (bb ha.h.he)<|cJ ha.h.xS;subst B;obtain⟨u,rfl,ru⟩:=vals1 r;obtain⟨bm,U,_⟩:=kE j.gr T.sh;have na:H1 (c.heap.objs.size+1)=none:=j.aY.fresh<|le_succ _;have nt:H1 c.heap.objs.size=none:=j.aY.fresh<|ea _;have kk:∀ b o,c.heap.get? b=some o->((c.heap.push<|iI [u]).push<|cI (er x) c.heap.objs.size none).get? b=some o:=λb o e=>c8 _<|c8 _ e;have bY:((c.heap.push<|iI [u]).push<|cI (er x) c.heap.objs.size none).get? (c.heap.objs.size+1)=some (cI (er x) c.heap.objs.size none):=by heap_get
 have D:Inv X pins σ (upd H1 (c.heap.objs.size+1)<|yY (c.heap.objs.size+1) (er x) none) {c with heap:=(c.heap.push<|iI [u]).push (cI (er x) c.heap.objs.size none)}:=j.laid (t':=c.toks) kk (le_succ _) (GP bY)
 let Q:VK:=λz O=>z=.bx/\∃ dx,H1 dx=none/\dx≠c.heap.objs.size+1/\O=upd (upd H1 (c.heap.objs.size+1)<|yY (c.heap.objs.size+1) (er x)<|some dx) dx (.xd [("line",v)])
 have C:oY names er [.ref (c.heap.objs.size+1),v] (upd H1 (c.heap.objs.size+1)<|yY (c.heap.objs.size+1) (er x) none) Q E0:=by
  refine⟨_,x,v,rfl,hx,hh,af,λdx i=>⟨rfl,dx,?_,?_,by rw[zS]⟩⟩
  ·have L:dx≠c.heap.objs.size+1:=λz=>by rw[z,af] at i;cases i
   rw[aB L] at i;exact i
  ·exact λz=>by rw[z,af] at i;cases i
 have M:Vals [V.ref (c.heap.objs.size+1),v] [Value.ref (c.heap.objs.size+1),u]:=.cons rfl<|.cons ru .nil;have m:=hb {c with heap:=(c.heap.push<|iI [u]).push (cI (er x) c.heap.objs.size none)} [Value.ref (c.heap.objs.size+1),u] D.gr rfl;rw[F2] at m;obtain⟨l,g1,d1,t1,Z⟩:=c;refine wpAny_call (GN (f:=f) j.gr U (by show 1<=sizeLine;decide) (T.UT.trans E.at_) (Vj.mp E.fn) T.Uh T.ty<|On (F.run _ X.stack _ _ ⟨[Value.ref (l.objs.size+1),u],[]⟩ _ _ Q E0 ((hr.mono hk).make (er x) [u] []) (D.Jc.make (er x) [u] []) m M C) λr s' d=>?_)
 cases r with
 | error e=>
  obtain⟨_,_,_,_,_,_,_,_,_,_,_,_,_,z⟩:=d;exact z.elim
 | ok fl=>
  cases fl with
  | ret u=>
   obtain⟨v',H',I3,Y,B,dx,i,y,P⟩:=D.after d;subst B P;exact⟨Y,⟨l.objs.size+1,dx,v,H1,rfl,I3,na,i,y,get?_none_of_le<|fz j.sz<|le_succ _,q⟩⟩
  | next=>exact False.elim d
  | brk=>exact False.elim d
  | cont=>exact False.elim d
def kF (X:Cx)(E:XK):Prop:=∀ (pins:aO0) (σ:St) (H:Hp) (s:Shared) (e C t:Addr) (d:Option Addr),Inv X pins σ H s->s.heap.get? e=some (cI C t d)->X.s₀.heap.get? e=none->H e=none->E (.ref C) d H->X.xe (.ref e) s
def Bg (E:XK)(er:Str->Addr)(x:Str)(t:TA):TS:=λ_ σ H=>t σ H λa H1=>∃ v,a=[v]/\∀ dx,H1 dx=none->E (.ref<|er x) (some dx) (upd H1 dx<|.xd [("line",v)])
variable {E:XK}
def jk {cR:Pos}(S:Sc X N W G)(g:Nat)(hc:X.calm=true)(hx:kF X E)(ER:lG X.K X.mg names er)(IT:ql X.K names er)(F:rY X.prog X.w X.K X.mg X.base k (er "LineError") "__init__" ["self","line"] (oY names er))(hr:b6 n X.A)(ha:QB X [e] t)
  (hxn:x∈names:=by decide) (hh:gF x=true:=by decide) (hk:k+1<=n:=by decide) (hg:G[g]?=some x:=by rfl):QS X (.Raise (some<|.Call (.Name x p) [e] [] cR) none pos) (Bg E er x t):=by
 refine⟨λf s σ H D I h=>?_⟩;rw[arm_exec_Raise];have go:=OK (p:=p) (pos:=cR) S g ER IT F hr hxn hh ha hk hg I h;refine b7<|wpAny_standAt<|CM (I.ok.hd hc)<|b7<|xF go (λu C ⟨a,d,v,H1,r,J,y,L,i,o,q⟩=>b7<|wpAny_standAt<|ey ?_) λ_ _ z=>z;subst r;have m:upd (upd H1 a<|yY a (er x)<|some d) d (.xd [("line",v)]) a=some (yY a (er x)<|some d):=by rw[aB i.symm,af]
 obtain⟨⟨l,j⟩,_⟩:=J.aY a _ m;obtain⟨O,M,_⟩:=kE J.gr (IT x hxn hh).sh;have B:KJ (upd (upd H1 a<|yY a (er x)<|some d) d<|.xd [("line",v)]) a=upd H1 d (.xd [("line",v)]):=by
  funext b;unfold KJ upd
  by_cases c:b=a
  ·rw[if_pos c,c,if_neg<|Ne.symm i,y]
  ·rw[if_neg c,if_neg c]
 refine⟨a,l,er x,some d,O,rfl,M,j,hx f σ _ C a (er x) l (some d) (J.drop m) j o ?_ ?_⟩
 ·unfold KJ;rw[if_pos rfl]
 ·rw[B];exact q d L
def RN (names:List Str)(er:Str->Addr)(ta:TE):TE:=λσ H Q=>ta σ H λx H1=>∃ a n dx v,x=.ref a/\n∈names/\gF n=true/\H1 a=some (oR a (er n)<|some dx)/\H1 dx=some (.xd [("line",v)])/\Q v H1
def kle (ER:lG X.K X.mg names er)(IT:ql X.K names er)(he:QE X e ta)(hb:attributeBase e "line" X.env (eval e X.env)=eval e X.env:=by rfl):QE X (.Attribute e "line" pos) (RN names er ta):=by
 refine⟨λc s σ H Q I h=>Ag hb<|bU (he.h c s σ H _ I h) λu j ⟨x,H1,b,F,a,n,l,v,m,hn,A,L,D,q⟩=>?_⟩;subst m;obtain rfl:u=Value.ref a:=F;obtain⟨⟨o,C,h1,z,N,G⟩,_⟩:=b.aY a _ L;obtain⟨y,p,r⟩:=b.aY l _ D;obtain⟨w,f,B⟩:=qS p;have T:=IT n hn A;obtain⟨R,P,S,hc,E,_⟩:=kE b.gr T.sh;obtain⟨u,hu,i⟩:=gL.some_of (v:=v) (o:=y "line")<|r "line";have J:PySem.W.InstAt j.heap a o (er n) (some w):=⟨C,h1,by unfold notCls;rw[G],by rw[z];exact f⟩
 obtain⟨M,g,d,t,O⟩:=j;exact Gu (K:=X.K) b.gr J ⟨(ER.cls n hn).ga,(ER.cls n hn).no,(ER.cls n hn).base⟩ (findObj_own (by unfold hasDictIn;rw[hc];exact E) T.no rfl (by rw[B,hu])) (qT i) ⟨v,H1,b.tok _,i,q⟩
def MC:Ut names er ta tv D σ H=tv σ H λy H1=>ta σ H1 λx H2=>∃ a n,x=.ref a/\n∈names/\gF n=true/\H2 a=some (yY a (er n) none)/\∀ dx,H2 dx=none->D.nx σ (upd (upd H2 a<|yY a (er n)<|some dx) dx<|.xd [("line",y)]):=rfl
def wC:Bg E er x t D σ H=t σ H λvs H1=>∃ v,vs=[v]/\∀ dx,H1 dx=none->E (.ref<|er x) (some dx) (upd H1 dx<|.xd [("line",v)]):=rfl
variable {Q:VK}
def RO:RN names er ta σ H Q=ta σ H λx H1=>∃ a n dx v,x=.ref a/\n∈names/\gF n=true/\H1 a=some (oR a (er n)<|some dx)/\H1 dx=some (.xd [("line",v)])/\Q v H1:=rfl
def Def.gf (D:Def K mg x st)(S:DS (aj st) N ps G)
  (hb:∀ (kV doc pm:Value) (an:Option Addr) (cy ct:Value) (us:List Value),us.length=ps.length->bindArgs (fnOf x x (bf st) (aO st) (aj st) .none kV doc pm an cy ct) ⟨us,[]⟩=pure (ps.zip us))
  (len:∀ vs H Q E,sp vs H Q E->vs.length=ps.length)
  (cV:∀ (X:Cx) (E:XK),Sc X N N G->X.prog=P->X.w=w->X.K=K->X.mg=mg->X.base=base->X.calm=true->X.env.scope=aj st->kF X E->Passes (kY P w) X E->b6 k X.A->X.A.units+64<cLine->
   ∀ (H:Hp) (vs:List V) (Q:VK),sp vs H Q E->∃ t,u6 X (aO st) t/\t {nx:=λ_ H'=>Q .bx H',rt:=Q} (L2.start N vs) H):Kw P w K mg base (k+1) x ps sp:=by
 obtain⟨f,g,F,m⟩:=D.ex;refine⟨f,g,?_,m,F.kp,F.binds hb⟩;obtain⟨o,l,kV,doc,pm,an,cy,ct,i,rfl,j,b⟩:=F.ex;refine vq j b S.fs len λA c s H vs Q E d a=>?_;obtain⟨t,h,q⟩:=cV _ E S.SX rfl rfl rfl rfl rfl rfl rfl (λ_ _ _ _ _ _ _ _ I e n hn q=>ji I e n hn rfl rfl rfl rfl q) jj d d.units H vs Q a;exact⟨t,h.h,q⟩
variable {p1 p2:Str}{i:Int}
structure SY (P:Program)(w:World)(K:Frag)(mg:Str->Option Value)(base:Heap)(k:Nat)(x p1 p2:Str)(i:Int)(sp:Sp):Prop where
 ex:∃ f fd t,fi P w K mg base (kY P w) k f fd [p1,p2] sp/\mg x=some (.ref f)/\keepIn K (.ref f)=true/\Binds K fd [p1,p2] []/\Binds K fd [p1,p2] [.int i t]/\Nv K fd [p1,p2] [p2] SU SU
def FQ.gf (D:FQ K mg x st i)(S:DS (aj st) N [p1,p2] G)(hb:Ml x st p1 p2)
  (len:∀ vs H Q E,sp vs H Q E->vs.length=2)
  (cV:∀ (X:Cx) (E:XK),Sc X N N G->X.prog=P->X.w=w->X.K=K->X.mg=mg->X.base=base->X.calm=true->X.env.scope=aj st->kF X E->Passes (kY P w) X E->b6 k X.A->X.A.units+64<cLine->
   ∀ (H:Hp) (vs:List V) (Q:VK),sp vs H Q E->∃ t,u6 X (aO st) t/\t {nx:=λ_ H'=>Q .bx H',rt:=Q} (L2.start N vs) H):SY P w K mg base (k+1) x p1 p2 i sp:=by
 obtain⟨f,U,t,F,hm⟩:=D.ex;obtain⟨Z,Y,T,kV,g,y,J,B,ct,O,o,n,rfl,R,r,lt,p⟩:=F.ex;refine⟨f,_,t,vq R r S.fs len λA C s H vs Q E M z=>?_,hm,F.kp,λs d l c=>?_,λs d l c=>?_,λs d L l c=>?_,λa b=>FR a b⟩
 ·obtain⟨t,h,q⟩:=cV _ E S.SX rfl rfl rfl rfl rfl rfl rfl (λ_ _ _ _ _ _ _ _ I e n hn q=>ji I e n hn rfl rfl rfl rfl q) jj M M.units H vs Q z;exact⟨t,h.h,q⟩
 ·rw[F2] at c ⊢
  match d,c with
  | [u,v],_=>
   obtain⟨k,m,j⟩:=(hb T kV g y J B ct u v).2.1;exact binds_K l rfl lt p m<|j _
 ·obtain⟨u,rfl⟩:∃ u,d=[u]:=by
   rw[ed] at c
   have:d.length=1:=by simpa using c
   exact List.length_eq_one_iff.mp this
  obtain⟨k,m,j⟩:=(hb T kV g y J B ct u u).1;exact binds_K l rfl lt p m<|j _
 ·obtain⟨u,v,rfl,rfl⟩:∃ u v,d=[u]/\L=[v]:=by
   match d,L,c with
   | [u],[v],_=>exact⟨u,v,rfl,rfl⟩
  obtain⟨k,m,j⟩:=(hb T kV g y J B ct u v).2.2;exact binds_K l rfl lt p m<|j _
variable {m:Nat}
def TX (S:Sc X N W G)(g:Nat)(F:SY X.prog X.w X.K X.mg X.base k x p1 p2 i sp)(hx:Passes (kY X.prog X.w) X E)(hr:b6 m X.A)(ha:QB X [e,e2] t)(hk:k<=m:=by decide)(hg:G[g]?=some x:=by rfl):QE X (.Call (.Name x p) [e,e2] [] pos) (nR sp [] E t):=by
 obtain⟨f,c,b,F,hm,a,hb,_⟩:=F.ex;have q:=S.gl _<|fO hg;exact⟨sO F (hr.mono hk) q.1 hm a hb .nil hx ha.h.pa q.2.1 (bb ha.h.he)<|cJ ha.h.xS⟩
theorem mem_join {c k:Nat}:∀ {l:List Str},k∈cz (Str.join ⟨#[c]⟩ l)->k=c∨∃ x∈l,k∈cz x
 | [],h=>by cases h
 | [x],h=>.inr ⟨x,dt.mpr rfl,h⟩
 | x::y::r,h=>by
  rw[bj,eG,eG] at h
  rcases h with (h | h) | h
  ·exact .inr ⟨x,eR,h⟩
  ·exact .inl<|dt.mp h
  ·rcases mem_join h with z | ⟨w,hw,z⟩
   ·exact .inl z
   ·exact .inr ⟨w,fA _ hw,z⟩
theorem wD (c:Nat):∀ {l:List Str},l.length<=(Str.join ⟨#[c]⟩ l).length+1
 | []=>by simp
 | [x]=>by simp
 | x::y::r=>by
  have a:=wD c (l:=y::r);have e:(Str.join ⟨#[c]⟩ (x::y::r)).length=x.length+1+(Str.join ⟨#[c]⟩ (y::r)).length:=by
   rw[aw,bj,ed,ed,<-aw,<-aw];rfl
  rw[ls]
  omega
def eZ (z:Str):(Txt.split z ⟨#[32]⟩).length<=z.length+1:=by
 have:=wD 32 (l:=Txt.split z ⟨#[32]⟩)
 rw[N6] at this;exact this
def CN (h:bX x=true):∃ c:Int,intText? x=some c:=by
 have a:=dz h;unfold bX at h;rw[ef,ef,ih] at h;refine⟨_,intText_digits (λc hc=>gA.mp<|h.2.2 c hc) ?_ (by omega)⟩
 have:=(h9 h.1).1
 rw[aw] at this;intro e;rw[show (cz x).length=0 by show x.cps.toList.length=0;rw[e];rfl] at this
 omega
def iJ (k:Nat):cz (StrLaws.sliceText x (some (k:Int)) none)=(cz x).drop k:=by
 by_cases h:k<=x.length
 ·exact jG h
 ·have e:StrLaws.sliceText x (some (k:Int)) none=StrLaws.sliceText x (some ((x.length:Nat):Int)) none:=by
   unfold StrLaws.sliceText
   have:Builtin.Str.strSliceIndices (some (k:Int)) none 1 x.length=Builtin.Str.strSliceIndices (some ((x.length:Nat):Int)) none 1 x.length:=by
    unfold Builtin.Str.strSliceIndices
    dsimp only
    rw[if_neg (show ¬ ((k:Int)<0) by omega),if_neg (show ¬ (((x.length:Nat):Int)<0) by omega),if_pos ad,if_pos ad,if_pos ad,show max (0:Int) (min (k:Int) (x.length:Int))=max 0 (min ((x.length:Nat):Int) (x.length:Int)) by omega]
   rw[this]
  rw[e,jG<|ea _,drop_eq_nil_of_le (by rw[aw];omega),drop_eq_nil_of_le (by rw[aw] at h;omega)]
def fe (k:Nat):cz (StrLaws.sliceText x none<|some (k:Int))=(cz x).take k:=by
 by_cases h:k<=x.length
 ·exact kA h
 ·have e:StrLaws.sliceText x none (some (k:Int))=StrLaws.sliceText x none (some ((x.length:Nat):Int)):=by
   unfold StrLaws.sliceText
   have:Builtin.Str.strSliceIndices none (some (k:Int)) 1 x.length=Builtin.Str.strSliceIndices none (some ((x.length:Nat):Int)) 1 x.length:=by
    unfold Builtin.Str.strSliceIndices
    dsimp only
    rw[if_neg (show ¬ ((k:Int)<0) by omega),if_neg (show ¬ (((x.length:Nat):Int)<0) by omega),show max (0:Int) (min (k:Int) (x.length:Int))=max 0 (min ((x.length:Nat):Int) (x.length:Int)) by omega]
    rfl
   rw[this]
  rw[e,kA<|ea _,D2 (by rw[aw];omega),D2 (by rw[aw] at h;omega)]
def yZ (k:Nat):(StrLaws.sliceText x (some (k:Int)) none).length<=x.length:=by rw[aw,iJ,aw,mv];omega
def jJ (k:Nat):(StrLaws.sliceText x none<|some (k:Int)).length<=x.length:=by rw[aw,fe,aw,tz];omega
variable {g:TG}
def TY {z:Str}{tb:TS}{σ:St}(I:Nat->St->Hp->Prop)(h0:I 0 σ H)
  (step:∀ i σ H,i<(cz z).length->I i σ H->g (.str ⟨#[(cz z).getD i 0]⟩) σ H λσ2 H2=>tb {D with nx:=I<|i+1,ct:=I<|i+1,bk:=D.nx} σ2 H2)
  (fin:∀ σ H,I (cz z).length σ H->D.nx σ H):∃ y,V.str z=.str y/\p9 g tb D σ (Px y) H:=by
 refine⟨z,rfl,λi m σ H=>m=z.cps.size - i/\i<=z.cps.size/\I i σ H,⟨_,rfl,zero_le _,h0⟩,?_⟩;rintro i m σ H ⟨rfl,h,p⟩
 by_cases a:i<z.cps.size
 ·refine .inr ⟨a,I<|i+1,λf d b=>⟨z.cps.size - (i+1),by omega,rfl,a,b⟩,λx d y=>?_⟩
  obtain⟨rfl,c,e,rfl⟩:=y
  have:=step i σ _ (by rw[UY];exact a) p
  rw[show (cz z).getD i 0=c by rw[b3,getElem?_toList,e];rfl] at this
  exact this
 ·have e:i=z.cps.size:=by omega
  refine .inl ⟨by show z.cps.size<=i;omega,fin σ H ?_⟩
  rw[UY,<-e];exact p
def wF (z:Str):Prop:=∀ c∈cz z,c<1114112
theorem oZ {c k:Nat}:∀ {l:List Str} {x:Str},x∈l->k∈cz x->k∈cz (Str.join ⟨#[c]⟩ l)
 | [],x,h,_=>nomatch h
 | [y],x,h,hk=>by rw[<-dt.mp h];exact hk
 | y::z::r,x,h,hk=>by
  rw[bj,eG,eG]
  rcases gd.mp h with rfl | h
  ·exact .inl<|.inl hk
  ·exact .inr<|oZ h hk
def wF.part {z:Str}(h:wF z)(hx:x∈Txt.split z ⟨#[32]⟩):wF x:=λc hc=>h c (by
 have:=oZ (c:=32) hx hc
 rw[N6] at this;exact this)
def wF.ok {z:Str}(h:wF z):PyData.strOk z=true:=by
 show (z.cps.all λx=>decide<|x<1114112)=true;rw[<-all_toList,ih];exact λc hc=>cc<|h c hc
theorem Bh:∀ l:List Str,(∀ x∈l,wF x)->PyData.canLayAll0 (l.map PyData.str)=true
 | [],_=>by simp[PyData.canLayAll0]
 | x::r,h=>by simp[PyData.canLayAll0,PyData.canLay0,Bh r λx hx=>h x<|mem_cons_of_mem _ hx,(h x mem_cons_self).ok]
variable {l:List Str}
def fQ (h:∀ x∈l,wF x):shaped (.list<|l.map PyData.str)=true:=je
 (by simp[PyData.canLay0,Bh l h])
 (by have:=jH l;simp only[PyData.depth];omega)
def wG (l:List Str):PyData.eqv (.list<|l.map PyData.str) (.list [])=l.isEmpty:=by cases l<;>simp[PyData.eqv,PyData.eqvAll]
def wF.low {z:Str}(h:iG z):wF z:=λc hc=>by
 have a:=h9<|h c hc
 have:∀ c∈cz gT,c<1114112:=by decide +kernel
 exact this c a
def wF.count {z:Str}(h:bX z=true):wF z:=λc hc=>by
 unfold bX at h;rw[ef,ef,ih] at h
 have:=gA.mp<|h.2.2 c hc
 omega
abbrev wz (z:Str):List Str:=Txt.split z ⟨#[32]⟩
def mM (z:Str):Option Nat:=if dS (wz z)=true then none else if cL (wz z)=true then (if ((wz z).drop 1).Nodup then none else some 1) else some 0
def kG:Nat->Str
 | 0=>"NoLine"
 | 1=>"Twice"
 | 2=>"Unknown"
 | _=>"TooMany"
def Told (H:Hp)(f:Addr)(z:Str):Prop:=(dS (wz z)=true/\∃ c,intText? ((wz z).getD 2 aE)=some c/\Rr H f ((wz z).getD 1 aE) c)∨(dS (wz z)=false/\cL (wz z)=true/\Ox H f ((wz z).getD 1 aE) ((wz z).drop 2))
def GQ {z:Str}(h:dS (wz z)=true):mM z=none:=by unfold mM;rw[if_pos h]
def Bi {z:Str}(h:dS (wz z)=false)(s:cL (wz z)=false):mM z=some 0:=by unfold mM;rw[h,s];rfl
def jK {z:Str}(h:dS (wz z)=false)(s:cL (wz z)=true)(n:¬ ((wz z).drop 1).Nodup):mM z=some 1:=by unfold mM;rw[h,s,if_neg ad,if_pos rfl,if_neg n]
def CO {z:Str}(h:dS (wz z)=false)(s:cL (wz z)=true)(n:((wz z).drop 1).Nodup):mM z=none:=by unfold mM;rw[h,s,if_neg ad,if_pos rfl,if_pos n]
def Bj (er:Str->Addr):Sp:=λa H Q E=>∃ (z:Str) (i:Int),a=[.str z,.int i]/\z.length<=800/\(∀ f H',mM z=none->ag H H'->Told H' f z->Q (.ref f) H')/\
 (∀ k dx H',mM z=some k->ag H H'->H' dx=some (.xd [("line",.int i)])->E (.ref<|er<|kG k) (some dx) H')
def r6 (z y:Str):Bool:=(cz z).all λc=>decide<|c∈cz y
def wH:Sp:=λa H Q _=>∃ (z y:Str) (m:Nat),a=[.str z,.str y,.int (m:Int)]/\z.length<=1000000/\Q (.bl<|r6 z y&&decide (1<=z.length/\z.length<=m)) H
def RP (H0:Hp)(z y:Str)(m:Nat)(i:Nat)(σ:St)(H:Hp):Prop:=(∃ y3:Option V,σ=[some (.str z),some<|.str y,some<|.int (m:Int),y3])/\H=H0/\((cz z).take i).all (λc=>decide<|c∈cz y)=true
structure Dn (H:Hp)(dr:Addr)(dn:List Int)(m:Nat):Prop where
 at_:H dr=some (.lst<|dn.map V.int)
 len:dn.length=m
 nn:∀ x∈dn,0<=x
variable {tb:Mu}
def GR {σ:St}{i:Nat} :GK names er tb i y th D σ H=
 tb D (λσ' C d H'=>∃ x,x∈names/\C=.ref (er x)/\jI x y=true/\∀ a,H' a=none->th a {nx:=λσ''=>D.nx<|σ''.set i none,rt:=D.rt,bk:=λσ''=>D.bk<|σ''.set i none,ct:=λσ''=>D.ct (σ''.set i none)} (σ'.set i<|some<|.ref a) (upd H' a<|oR a (er x) d)) σ H:=rfl
variable {p:Addr}
def nw {o:HO}(hp:H p=none)(e:upd H p o=H1):ag H H1/\H1 p=some o:=by subst e;exact⟨ag.new hp _,af⟩
variable {b:Addr}{zs:List V}
def ug (h:au K H a xs)(h':au K H b zs)(hz:xs.length+zs.length<=sizeLine)(q:∀ p H',ag H H'->H p=none->H' p=some (.lst<|xs++zs)->Q (.ref p) H'):Aq K (.ref a) (.ref b) H Q:=
 ⟨a,b,xs,zs,rfl,rfl,h,h',hz,λp c=>q p _ (ag.new c _) c af⟩
def o7 (k:Nat)(h:au K H a xs)(q:∀ p H',ag H H'->H p=none->H' p=some (.lst<|xs.drop k)->Q (.ref p) H'):vt K (.ref a) (some (k:Int)) none H Q:=
 ⟨a,xs,rfl,h,λp b=>q p _ (ag.new b _) b (by rw[cX];exact af)⟩
def GS (k:Nat)(h:au K H a xs)(q:∀ p H',ag H H'->H p=none->H' p=some (.lst<|xs.take k)->Q (.ref p) H'):vt K (.ref a) none (some (k:Int)) H Q:=
 ⟨a,xs,rfl,h,λp b=>q p _ (ag.new b _) b (by rw[jc];exact af)⟩
def kH {ss:List Str}(h:au K H a (ss.map V.str))(h0:0<=i)(h1:i<ss.length)(q:∀ x∈ss,Q (.str x) H):lp K (.ref a) (.int i) H Q:=by
 obtain⟨m,rfl⟩:=j5 h0;exact ax h (ay (aC (by omega))) (q _ (getD_memS (by omega)))
variable {dn:List Int}{dr:Addr}
def bC (h:Dn H dr dn m)(h0:0<=i)(h1:i<m)(q:∀ x:Int,0<=x->Q (.int x) H):lp K (.ref dr) (.int i) H Q:=by
 obtain⟨k,rfl⟩:=j5 h0;have hm:k<dn.length:=by have:=h.len;omega
 exact ax (au.of h.at_) (ay (by rw[et,b4 hm];rfl))<|q _<|h.nn _<|pP hm
def Dn.mono (h:Dn H dr dn m)(s:ag H H'):Dn H' dr dn m:=⟨s _ _ h.at_,h.len,h.nn⟩
variable {i:Nat}
def TZ {σ:St}(P:St->XK)(h1:∀ W:St->XK,(∀ σ' C d H',P σ' C d H'->W σ' C d H')->tb D W σ H)
  (h2:∀ σ' C d H',P σ' C d H'->∃ x,x∈names/\C=.ref (er x)/\jI x y=true/\∀ a,H' a=none->th a {nx:=λσ''=>D.nx<|σ''.set i none,rt:=D.rt,bk:=λσ''=>D.bk<|σ''.set i none,ct:=λσ''=>D.ct (σ''.set i none)} (σ'.set i<|some<|.ref a) (upd H' a<|oR a (er x) d)):GK names er tb i y th D σ H:=h1 _ h2
def dg (s:List Str × List Str)(z:Str):Nat ⊕ (List Str × List Str):=
 if dS (wz z)=true then
  (if (wz z).getD 1 aE∈s.1 then .inl 1 else if s.1.length=8 then .inl 3 else .inr (s.1++[(wz z).getD 1 aE],s.2))
 else if cL (wz z)=true then
  (if ¬ ((wz z).drop 1).Nodup∨(wz z).getD 1 aE∈s.2 then .inl 1 else if ∃ y∈(wz z).drop 1,y∉s.1 then .inl 2 else .inr (s.1,s.2++[(wz z).getD 1 aE]))
 else .inl 0
def mN:List Str × List Str->List Str->Option (List Str × List Str)
 | s,[]=>some s
 | s,z::r=>match dg s z with
  | .inl _=>none
  | .inr a=>mN a r
def fu:Nat->List Str × List Str->List Str->Option (Nat × Nat)
 | _,_,[]=>none
 | k,s,z::r=>match dg s z with
  | .inl e=>some (e,k)
  | .inr a=>fu (k+1) a r
theorem kJ {s2:List Str × List Str}{z:Str}:∀ {L:List Str} {k:Nat} {s s1:List Str × List Str},mN s (L.take k)=some s1->L[k]?=some z->dg s1 z=.inr s2->mN s (L.take<|k+1)=some s2
 | [],k,s,s1,_,h,_=>by simp at h
 | x::r,0,s,s1,h,hx,e=>by
  have h:some s=some s1:=h;have hx:some x=some z:=hx
  cases h;cases hx
  show mN s [_]=_;rw[mN,e];rfl
 | x::r,k+1,s,s1,h,hx,e=>by
  rw[List.take_succ_cons,mN] at h ⊢
  cases c:dg s x with
  | inl _=>rw[c] at h;cases h
  | inr a=>
   rw[c] at h;exact kJ (L:=r) (k:=k) h hx e
theorem o8 {z:Str}{e:Nat}:∀ {L:List Str} {j k:Nat} {s s1:List Str × List Str},mN s (L.take k)=some s1->L[k]?=some z->dg s1 z=.inl e->fu j s L=some (e,j+k)
 | [],j,k,s,s1,_,h,_=>by simp at h
 | x::r,j,0,s,s1,h,hx,he=>by
  have h:some s=some s1:=h;have hx:some x=some z:=hx
  cases h;cases hx
  rw[fu,he];rfl
 | x::r,j,k+1,s,s1,h,hx,he=>by
  rw[List.take_succ_cons,mN] at h;rw[fu]
  cases c:dg s x with
  | inl _=>rw[c] at h;cases h
  | inr a=>
   rw[c] at h
   have:=o8 (L:=r) (j:=j+1) (k:=k) h hx he
   rw[show j+1+k=j+(k+1) by omega] at this
   exact this
theorem jL:∀ {L:List Str} {j:Nat} {s s1:List Str × List Str},mN s L=some s1->fu j s L=none
 | [],j,s,s1,_=>rfl
 | x::r,j,s,s1,h=>by
  rw[mN] at h;rw[fu]
  cases c:dg s x with
  | inl _=>rw[c] at h;cases h
  | inr a=>rw[c] at h;exact jL (L:=r) h
def GU {s:List Str × List Str}{z:Str}{e:Nat}(h:dg s z=.inl e):e<4:=by
 unfold dg at h
 split at h
 ·split at h
  ·cases h;decide
  split at h
  ·cases h;decide
  ·cases h
 split at h
 ·split at h
  ·cases h;decide
  split at h
  ·cases h;decide
  ·cases h
 ·cases h;decide
theorem o9 {e k:Nat}:∀ {L:List Str} {j:Nat} {s:List Str × List Str},fu j s L=some (e,k)->e<4/\j<=k/\k<j+L.length
 | [],j,s,h=>by cases h
 | x::r,j,s,h=>by
  rw[fu] at h
  cases c:dg s x with
  | inl b=>
   rw[c] at h
   cases h
   exact⟨GU c,ea _,by rw[ls];omega⟩
  | inr a=>
   rw[c] at h
   have:=o9 (L:=r) h
   rw[ls];exact⟨this.1,by omega,by omega⟩
abbrev mO (L:List Str):Option (Nat × Nat):=fu 0 ([],[]) L
def GV:Option (Nat × Nat)->List V
 | none=>[]
 | some (e,k)=>[.int (e:Int),.int (k:Int)]
structure OL (ns sr:List Str)(ws:List Nat):Prop where
 lw:ws.length=ns.length
 fC:ns.length<=8
 sub:∀ y∈sr,y∈ns
 iff:∀ n∈ns,ws.getD (ns.idxOf n) 0≠0↔n∈sr
variable {n:Str}{sr:List Str}
def OL.bY (h:OL ns sr ws)(hn:n∉ns)(h8:ns.length<8):OL (ns++[n]) sr (ws++[0]) where
 lw:=by rw[ed,ed,h.lw];rfl
 fC:=by rw[ed];show _+1<=8;omega
 sub:=λy hy=>eG.mpr (.inl<|h.sub y hy)
 iff:=λm hm=>by
  by_cases c:m∈ns
  ·have b:=kc.mpr c;rw[List.idxOf_append,if_pos c,b3,u5 (by rw[h.lw];exact b),<-b3]
   exact h.iff m c
  ·have e:m=n:=by
    rcases eG.mp hm with z | z
    ·exact absurd z c
    ·exact dt.mp z
   subst e;rw[List.idxOf_append,if_neg c];have a:(ws++[0]).getD (ns.length+List.idxOf m [m]) 0=0:=by
    rw[List.idxOf_cons_self,Nat.add_zero,b3,wh (by rw[h.lw];exact ea _),h.lw,Vr];rfl
   rw[Nat.add_comm] at a
   first
    | (rw[a];exact⟨λz=>absurd rfl z,λz=>absurd (h.sub m z) c⟩)
    | (rw[Nat.add_comm,a];exact⟨λz=>absurd rfl z,λz=>absurd (h.sub m z) c⟩)
def OL.sees (h:OL ns sr ws)(hn:n∈ns)(hm:m≠0):OL ns (sr++[n]) (ws.set (ns.idxOf n) m) where
 lw:=by rw[length_set];exact h.lw
 fC:=h.fC
 sub:=λy hy=>by
  rcases eG.mp hy with z | z
  ·exact h.sub y z
  ·rw[dt.mp z];exact hn
 iff:=λy hy=>by
  have a:=kc.mpr hn
  by_cases c:y=n
  ·subst c;rw[b3,KB (by rw[h.lw];exact a)]
   exact⟨λ_=>eG.mpr<|.inr<|dt.mpr rfl,λ_=>hm⟩
  ·have b:ns.idxOf n≠ns.idxOf y:=λe=>c (by
    have h1:=U1<|kc.mpr hy;have d:=U1 a;rw[<-h1,<-d]
    congr 1
    exact e.symm)
   rw[b3,P3 b,<-b3,h.iff y hy]
   constructor
   ·exact λz=>eG.mpr<|.inl z
   ·intro z
    rcases eG.mp z with z | z
    ·exact z
    ·exact absurd (dt.mp z) c
def GW:∀ {l:List Str},l≠[]->cF ns l≠0
 | [],h=>absurd rfl h
 | x::r,_=>by
  unfold cF;rw[rr,U7]
  have:=F0<|ns.idxOf x
  omega
def r8 (er:Str->Addr):Sp:=λa H Q E=>∃ (d:Addr) (ns:List Str) (x:Str) (i:Int),a=[.ref d,.str x,.int i]/\DN H d ns/\ns.length<=8/\
 (x∈ns->∀ dx H',ag H H'->H' dx=some (.xd [("line",.int i)])->E (.ref<|er "Twice") (some dx) H')/\
 (x∉ns->ns.length=8->∀ dx H',ag H H'->H' dx=some (.xd [("line",.int i)])->E (.ref<|er "TooMany") (some dx) H')/\
 (x∉ns->ns.length<8->Q .bx (upd H d<|.dK<|xU 0<|ns++[x]))
def mC (er:Str->Addr):Sp:=λa H Q E=>∃ (d w t:Addr) (ns l:List Str) (ws:List Nat) (x:Str) (i:Int),a=[.ref d,.ref w,.str x,.ref t,.int i]/\DN H d ns/\H w=some (.lst<|(aK ws).map V.int)/\ws.length=ns.length/\ns.length<=8/\H t=some (.tup<|l.map V.str)/\l.length<=850/\
 (x∈ns->ws.getD (ns.idxOf x) 0≠0->∀ dx H',ag H H'->H' dx=some (.xd [("line",.int i)])->E (.ref<|er "Twice") (some dx) H')/\
 (¬ (x∈ns/\ws.getD (ns.idxOf x) 0≠0)->(∃ y∈x::l,y∉ns)->∀ dx H',ag H H'->H' dx=some (.xd [("line",.int i)])->E (.ref<|er "Unknown") (some dx) H')/\
 (¬ (x∈ns/\ws.getD (ns.idxOf x) 0≠0)->(∀ y∈x::l,y∈ns)->∀ H1,ag H H1->Q .bx (upd H1 w<|.lst<|(aK<|ws.set (ns.idxOf x)<|cF ns l).map V.int))
def RQ {tg iter:Expr}{wi:TI}{u:TS}{sts:List Stmt}{pos:Pos}(hpo:PassesOwn (model X.prog X.w) X.A X.env X.xe)(hc:X.calm=true)(hi:QI X tg iter wi)(hg:QG X tg g)(hb:u6 X sts u)(hs:(∀ x,foldedSetIterable iter X.env x=pure x):=by intro _;rfl):QS X (.For tg iter sts [] pos) (IK wi g u):=⟨D9 hpo hc hi.h hg.h hb.h hs⟩
def Def.UL (D:Def K mg x st)(S:DS (aj st) N ps G)
  (hb:∀ (kV doc pm:Value) (an:Option Addr) (cy ct:Value) (us:List Value),us.length=ps.length->bindArgs (fnOf x x (bf st) (aO st) (aj st) .none kV doc pm an cy ct) ⟨us,[]⟩=pure (ps.zip us))
  (len:∀ vs H Q E,sp vs H Q E->vs.length=ps.length)
  (cV:∀ (X:Cx) (E:XK),Sc X N N G->X.prog=P->X.w=w->X.K=K->X.mg=mg->X.base=base->X.calm=true->X.env.scope=aj st->kF X E->Passes (kY P w) X E->PassesOwn (model X.prog X.w) X.A X.env X.xe->b6 k X.A->X.A.units+64<cLine->
   ∀ (H:Hp) (vs:List V) (Q:VK),sp vs H Q E->∃ t,u6 X (aO st) t/\t {nx:=λ_ H'=>Q .bx H',rt:=Q} (L2.start N vs) H):Kw P w K mg base (k+1) x ps sp:=by
 obtain⟨f,g,F,m⟩:=D.ex;refine⟨f,g,?_,m,F.kp,F.binds hb⟩;obtain⟨o,l,kV,doc,pm,an,cy,ct,i,rfl,j,b⟩:=F.ex;refine vq j b S.fs len λA c s H vs Q E d a=>?_;obtain⟨t,h,q⟩:=cV _ E S.SX rfl rfl rfl rfl rfl rfl rfl (λ_ _ _ _ _ _ _ _ I e n hn q=>ji I e n hn rfl rfl rfl rfl q) jj PassesOwn.leaving d d.units H vs Q a;exact⟨t,h.h,q⟩
def u9 (z:Str):Prop:=∀ c∈cz z,c<1114112/\c≠10
def fW (n:Nat)(z:Str):Prop:=z.length<=n/\u9 z
structure OM (H:Hp)(l:Addr)(L:List Str):Prop where
 at_:H l=some (.lst<|L.map V.str)
 fC:L.length<=30
 ok:∀ x∈L,fW 400 x
variable {n:Nat}
def fW.mono {z:Str}(h:fW n z)(hm:n<=m):fW m z:=⟨fz h.1 hm,h.2⟩
def u9.app {a b:Str}(ha:u9 a)(hb:u9 b):u9 (a++b):=λc hc=>by
 rw[cO] at hc;exact(eG.mp hc).elim (ha c) (hb c)
theorem fW.app {n m:Nat}{a b:Str}(ha:fW n a)(hb:fW m b):fW (n+m) (a++b):=⟨by rw[aG];have:=ha.1;have:=hb.1;omega,ha.2.app hb.2⟩
def u9.UM {z:Str}(h:u9 z)(k:Nat):u9 (StrLaws.sliceText z (some (k:Int)) none):=λc hc=>h c (FS (by rw[iJ] at hc;exact hc))
def u9.UN {z:Str}(h:u9 z)(k:Nat):u9 (StrLaws.sliceText z none<|some (k:Int)):=λc hc=>h c (UW (by rw[fe] at hc;exact hc))
theorem u9.join {l:List Str}(h:∀ x∈l,u9 x):u9 (Str.join ⟨#[32]⟩ l):=λc hc=>by
 rcases mem_join hc with z | ⟨x,hx,z⟩
 ·omega
 ·exact h x hx c z
def u9.part {z:Str}(h:u9 z)(hx:x∈Txt.split z ⟨#[32]⟩):u9 x:=λc hc=>h c (by
 have:=oZ (c:=32) hx hc
 rw[N6] at this;exact this)
end L2
namespace L2
open PySem PySem.Spec PyProof.Rows
def fW.name {z:Str}(h:br z=true):fW 12 z:=⟨(dj h).2.2,λc hc=>⟨wF.low (dj h).1 c hc,λe=>(dU h).2 (by rw[<-e];exact hc)⟩⟩
theorem fW.count {z:Str}(h:bX z=true):fW 30 z:=⟨dz h,λc hc=>⟨wF.count h c hc,λe=>(fM h).2 (by rw[<-e];exact hc)⟩⟩
def S1 (n:Nat)(x:Str):Bool:=decide (x.length<=n)&&(cz x).all λc=>decide<|c<1114112/\c≠10
def jM {n:Nat}{x:Str}(h:S1 n x=true):fW n x:=by
 unfold S1 at h;rw[ef] at h;exact⟨h9 h.1,λc hc=>h9<|ih.mp h.2 c hc⟩
def fW.glue {l:List Str}{m b n:Nat}(h:∀ x∈l,fW b x)(hl:l.length<=m)(hn:m*(b+1)<=n):fW n (Str.join ⟨#[32]⟩ l):=by
 refine⟨?_,u9.join λx hx=>(h x hx).2⟩;have h1:=fm 32 l;have c:=eK b l λx hx=>(h x hx).1;have a:l.length*(b+1)<=m*(b+1):=yx _ hl
 omega
def RR {x:Ln}(h:eB x):∀ w∈gU x,fW 30 w:=by
 cases x with
 | bY n c=>
  intro w hw
  rcases gd.mp hw with rfl | hw
  ·exact(jM (n:=4) Dk0).mono ad
  rcases gd.mp hw with rfl | hw
  ·exact(fW.name h.1).mono ad
  rw[dt.mp hw];exact fW.count (cq h.2.1 h.2.2).1
 | sees n l=>
  intro w hw
  rcases gd.mp hw with rfl | hw
  ·exact(jM (n:=4) Dk0).mono ad
  ·exact(fW.name<|h.nm w hw).mono ad
variable {H:Hp}{Q:VK}{E:XK}{C:Addr}{sp:Sp}{t:TA}{σ:St}
def Bl:yX C sp t σ H Q E=t σ H λvs H1=>∀ x dx,H1 x=none->H1 dx=none->dx≠x->sp (.ref x::vs) (upd (upd H1 dx<|.own x) x<|.ins C dx []) (λv H2=>v=.bx/\Q (.ref x) H2) E:=rfl
def ON (L:B0L):(gI L).length=L.length:=b5 _
def ag.GX {H':Hp}(s:ag H H'){b:Addr}(h:H' b=none):H b=none:=by
 cases e:H b with
 | none=>rfl
 | some o=>rw[s _ _ e] at h;cases h
def Sub (a m:Nat):Prop:=∀ j,a.testBit j=true->m.testBit j=true
def RS (a b:Nat):Prop:=∀ j,a.testBit j=true->b.testBit j=false
variable {a b:Nat}
def Sub.trans {c:Nat}(h:Sub a b)(k:Sub b c):Sub a c:=λj hj=>k j<|h j hj
def Sub.and {m:Nat}(h:Sub a m):m&&& a=a:=tO.mpr h
def KL (a b:Nat):a&&& b=2*(a / 2&&& b / 2)+(a % 2)*(b % 2):=by
 have h1:(a&&& b) / 2=a / 2&&& b / 2:=Nat.and_div_two;have c:(a&&& b) % 2=(a % 2)*(b % 2):=by
  have:=Nat.and_mod_two_pow (a:=a) (b:=b) (n:=1)
  rw[Nat.pow_one] at this;rw[this]
  rcases Va a with e | e<;>rcases Va b with f | f<;>rw[e,f]<;>decide
 omega
def Sub.le {m:Nat}(h:Sub a m):a<=m:=by
 have:=h.and
 rw[<-this];exact Nat.and_le_left
def KN:∀ (m:Nat),0<m->∃ i,m.testBit i=true/\m - (m&&& (m - 1))=2 ^ i:=by
 intro m
 induction m using Nat.strongRecOn with
 | _ m b=>
  intro d;have hm:=KL m<|m - 1
  rcases Va m with e | e
  ·obtain⟨i,h1,f⟩:=b (m / 2) (by omega) (by omega)
   refine⟨i+1,by rw[Nat.testBit_succ];exact h1,?_⟩
   have a:(m - 1) / 2=m / 2 - 1:=by omega
   rw[a,e,Nat.zero_mul] at hm;rw[Nat.pow_succ]
   omega
  ·refine⟨0,by rw[Nat.testBit_zero,e];rfl,?_⟩
   have a:(m - 1) / 2=m / 2:=by omega
   have c:(m - 1) % 2=0:=by omega
   rw[a,c,Nat.and_self] at hm;rw[Nat.pow_zero]
   omega
def kK {m:Nat}(h:Sub a m)(j:Nat):(m - a).testBit j=(m.testBit j&&!a.testBit j):=by
 have:=iD m a j
 rwa [h.and] at this
def uh (h:RS a b)(j:Nat):(a+b).testBit j=(a.testBit j||b.testBit j):=by
 have z:a&&& b=0:=by
  apply U2
  intro j;rw[testBit_and,Vs]
  cases e:a.testBit j with
  | false=>rfl
  | true=>rw[h j e];rfl
 rw[oi,z,Nat.add_zero,testBit_or]
def ui {m i:Nat}(h:m.testBit i=true):Sub (2 ^ i) m:=λj hj=>by
 rw[G3,r4] at hj;rw[<-hj];exact h
def fw {m i:Nat}(h:m.testBit i=true)(j:Nat):(m - 2 ^ i).testBit j=(m.testBit j&&!decide (i=j)):=by
 rw[kK (ui h),G3]
def Uu (m:Nat)(l:List Nat):Prop:=(∀ a∈l,Sub a m)/\l.Pairwise RS
def val (v:Nat->Nat)(l:List Nat):Nat:=(l.map v).sum
variable {l:List Nat}
def KO {m i part:Nat}(hi:m.testBit i=true)(hp:Sub part (m - 2 ^ i))(h:Uu ((m - 2 ^ i) - part) l):Uu m ((2 ^ i+part)::l):=by
 have c:RS (2 ^ i) part:=λj hj=>by
  rw[G3,r4] at hj
  cases e:part.testBit j with
  | false=>rfl
  | true=>
   have:=hp j e
   rw[fw hi,hj] at this
   simp at this
 have b:Sub (2 ^ i+part) m:=λj hj=>by
  rw[uh c,Vd] at hj
  rcases hj with hj | hj
  ·exact ui hi j hj
  ·have:=hp j hj
   rw[fw hi,ef] at this;exact this.1
 have d:Sub (m - 2 ^ i - part) m:=λj hj=>by
  rw[kK hp,fw hi,ef,ef] at hj;exact hj.1.1
 refine⟨λa f=>?_,List.pairwise_cons.mpr ⟨λa f j hj=>?_,h.2⟩⟩
 ·rcases gd.mp f with e | e
  ·rw[e];exact b
  ·exact(h.1 a e).trans d
 ·cases e:a.testBit j with
  | false=>rfl
  | true=>
   have:=h.1 a f j e
   rw[kK hp,fw hi] at this;rw[uh c,Vd,G3,r4] at hj
   rcases hj with hj | hj
   ·rw[hj] at this;simp at this
   ·rw[hj] at this;simp at this
variable {x:Nat}
def lI {m n:Nat}(h:m<2 ^ n)(hx:m.testBit x=true):x<n:=vr λq=>by
 rw[jD h (by omega)] at hx;cases hx
def fB {m:Nat}:x∈aW m↔m.testBit x=true:=by
 unfold aW;rw[tp,kf];exact⟨λh=>h.2,λh=>⟨lI Nat.lt_log2_self h,h⟩⟩
def mD (m:Nat):(aW m).Pairwise (· < ·):=List.pairwise_lt_range.sublist List.filter_sublist
def dk (m:Nat):(aW m).Nodup:=(mD m).imp λh=>by omega
def CP (m:Nat):mask (aW m)=m:=by
 apply U2
 intro j;rw[eA (dk m)]
 by_cases c:m.testBit j=true
 ·rw[c,cc<|fB.mpr c]
 ·rw[dy (λz=>c<|fB.mp z)]
  cases e:m.testBit j with
  | false=>rfl
  | true=>exact absurd e c
def uj (cs:List Int)(l:List Nat):Int:=di (pr<|vU cs l) (vU cs l) / pr (vU cs l)
def KP (cs:List Int)(ws:List Nat)(m:Nat):Int:=if dh ws (aW m)=true then uj cs (aW m) else 0
def OO {cs:List Int}(hp:∀ c∈cs,1<=c)(hl:∀ x∈l,x<cs.length):∀ c∈vU cs l,1<=c:=λc hc=>by
 unfold vU at hc;obtain⟨x,hx,e⟩:=j9.mp hc;rw[<-e];exact hp _<|getD_mem<|hl x hx
def qm {cs:List Int}(hp:∀ c∈cs,1<=c)(hl:∀ x∈l,x<cs.length):0<=uj cs l:=by
 have h:=OO hp hl;have h1:=tG h;exact Int.ediv_nonneg (iy (by omega) h) (by omega)
structure GG (cs:List Int)(ws:List Nat)(m:Nat)(g:Bool × List Nat):Prop where
 ok:Rg cs ws g
 ne:g.2≠[]
 rise:g.1=false->g.2.Pairwise (· < ·)
 Ue:∀ x∈g.2,m.testBit x=true
def GG.mono {cs:List Int}{ws:List Nat}{k m:Nat}{g:Bool × List Nat}(h:GG cs ws k g)(s:Sub k m):GG cs ws m g:=⟨h.ok,h.ne,h.rise,λx hx=>s x<|h.Ue x hx⟩
def y0 {ws:List Nat}(h:dh ws l=true):∀ x∈l,∀ y∈l,x≠y->fJ ws x y=true:=λx hx y hy n=>by
 unfold dh at h;rw[ih] at h
 have:=h x hx
 rw[ih] at this
 have:=this y hy
 rw[Vd,r4] at this
 rcases this with e | e
 ·exact absurd e.symm n
 ·exact e
def za (cs:List Int)(l:List Nat):AR cs (false,l)=uj cs l:=rfl
def GY (cs:List Int)(l:List Nat):List Nat:=l.filter λi=>decide<|cs.getD i 0=2
def lJ (ws l:List Nat):List Nat:=(List.range ws.length).map λi=>if i∈l then ws.getD i 0 else 0
def gG (ws l:List Nat):(lJ ws l).length=ws.length:=by unfold lJ;rw[b5,pS]
def pb {ws:List Nat}{i:Nat}(hi:i<ws.length):(lJ ws l).getD i 0=if i∈l then ws.getD i 0 else 0:=by
 unfold lJ;rw[b3,et,LI hi];rfl
def uk {ws:List Nat}{i j:Nat}(hi:i<ws.length):fJ (lJ ws l) i j=(decide (i∈l)&&fJ ws i j):=by
 unfold fJ;rw[pb hi]
 by_cases c:i∈l
 ·rw[if_pos c,cc c];rfl
 ·rw[if_neg c,dy c,Vs];rfl
def KQ {ws:List Nat}(h:iA ws):iA (lJ ws l):=by
 refine⟨λi a=>?_,λi a=>?_⟩
 ·rw[gG] at a;rw[pb a,gG]
  split
  ·exact h.lt i a
  ·exact F0 _
 ·rw[gG] at a;rw[uk a,h.self i a,KE]
abbrev nD:=Int × List (Bool × List Nat)
def Ch (K:Frag)(H:Hp)(v:V)(x:nD):Prop:=∃ r g us,v=.ref r/\aN K H r [.int x.1,.ref g]/\aN K H g us/\GF K H us x.2
def lK (K:Frag)(H:Hp):List V->List nD->Prop
 | [],[]=>True
 | v::b,x::a=>Ch K H v x/\lK K H b a
 | _,_=>False
variable {K:Frag}{H':Hp}
theorem Ch.mono {v:V}{x:nD}(s:ag H H')(h:Ch K H v x):Ch K H' v x:=by
 obtain⟨r,g,b,e,h1,c,a⟩:=h;exact⟨r,g,b,e,s.aT h1,s.aT c,a.mono s⟩
theorem Ch.gQ {v:V}{x:nD}{acc:Addr}{ys:List V}{o:HO}(ha:H acc=some (.lst ys))(h:Ch K H v x):Ch K (upd H acc o) v x:=by
 obtain⟨r,g,b,e,h1,c,a⟩:=h;exact⟨r,g,b,e,h1.gQ ha,c.gQ ha,a.gQ ha⟩
theorem lK.mono (s:ag H H'):∀ {vs:List V} {xs:List nD},lK K H vs xs->lK K H' vs xs
 | [],[],h=>h
 | _::_,_::_,⟨a,t⟩=>⟨a.mono s,lK.mono s t⟩
 | [],_::_,h=>h.elim
 | _::_,[],h=>h.elim
theorem lK.gQ {acc:Addr}{ys:List V}{o:HO}(ha:H acc=some (.lst ys)):∀ {vs:List V} {xs:List nD},lK K H vs xs->lK K (upd H acc o) vs xs
 | [],[],h=>h
 | _::_,_::_,⟨a,t⟩=>⟨a.gQ ha,lK.gQ ha t⟩
 | [],_::_,h=>h.elim
 | _::_,[],h=>h.elim
theorem lK.length:∀ {vs:List V} {xs:List nD},lK K H vs xs->vs.length=xs.length
 | [],[],_=>rfl
 | _::_,_::_,⟨_,t⟩=>by rw[ls,ls,lK.length t]
 | [],_::_,h=>h.elim
 | _::_,[],h=>h.elim
theorem lK.get:∀ {vs:List V} {xs:List nD} {i:Nat},lK K H vs xs->i<xs.length->∃ v,vs[i]?=some v/\Ch K H v (xs.getD i (0,[]))
 | [],[],i,_,h=>by simp at h
 | v::_,x::_,0,⟨a,_⟩,_=>⟨v,rfl,a⟩
 | _::_,_::xs,i+1,⟨_,t⟩,h=>by
  obtain⟨v,e,c⟩:=lK.get (i:=i) t (by simpa using h)
  exact⟨v,by simpa using e,by simpa using c⟩
 | [],_::_,_,h,_=>h.elim
 | _::_,[],_,h,_=>h.elim
theorem lK.append:∀ {vs ws:List V} {xs ys:List nD},lK K H vs xs->lK K H ws ys->lK K H (vs++ws) (xs++ys)
 | [],_,[],_,_,h=>h
 | _::_,_,_::_,_,⟨a,t⟩,h=>⟨a,lK.append t h⟩
 | [],_,_::_,_,h,_=>h.elim
 | _::_,_,[],_,h,_=>h.elim
structure zb (cs:List Int)(ws:List Nat)(m:Nat)(x:nD):Prop where
 each:∀ g∈x.2,GG cs ws m g
 zF:x.2.Pairwise λg h=>∀ x∈g.2,x∉h.2
 sum:(x.2.map<|AR cs).sum=x.1
 nn:0<=x.1
theorem zb.mono {cs:List Int}{ws:List Nat}{k m:Nat}{x:nD}(h:zb cs ws k x)(s:Sub k m):zb cs ws m x:=⟨λg a=>(h.each g a).mono s,h.zF,h.sum,h.nn⟩
variable {x:nD}
def zb.len {cs:List Int}{ws:List Nat}{m:Nat}(h:zb cs ws m x):x.2.length<=cs.length:=by
 have j:∀ {L:B0L},(∀ g∈L,GG cs ws m g)->(L.Pairwise λg h=>∀ x∈g.2,x∉h.2)->(L.map λg=>g.2.getD 0 0).Nodup/\∀ y∈L.map λg=>g.2.getD 0 0,y<cs.length/\∃ g∈L,y∈g.2:=λ{L} h1 q=>by
  induction L with
  | nil=>exact⟨nodup_nil,λ_ h=>nomatch h⟩
  | cons g L n=>
   obtain⟨p,r⟩:=List.pairwise_cons.mp q;obtain⟨o,l⟩:=n (λg d=>h1 g<|fA _ d) r;have d:=h1 g eR;have hm:g.2.getD 0 0∈g.2:=vW<|Do.mpr d.ne;refine⟨?_,λy hy=>?_⟩
   ·rw[rr,AC];refine⟨λz=>?_,o⟩;obtain⟨_,i,f,hy⟩:=l _ z;exact p i f _ hm hy
   ·rcases gd.mp hy with e | e
    ·rw[e];exact⟨d.ok.lt _ hm,g,eR,hm⟩
    ·obtain⟨a,i,b,c⟩:=l y e;exact⟨a,i,fA _ b,c⟩
 obtain⟨a,b⟩:=j h.each h.zF
 have:=cC a λy hy=>(b y hy).1
 rwa [b5] at this
def zb.add {cs:List Int}{ws:List Nat}{m:Nat}{y:nD}(h:zb cs ws a x)(k:zb cs ws b y)(d:RS a b)(s1:Sub a m)(s2:Sub b m):zb cs ws m (x.1+y.1,x.2++y.2):=by
 refine⟨λg f=>?_,List.pairwise_append.mpr ⟨h.zF,k.zF,λg f l c z hz i=>?_⟩,?_,?_⟩
 ·rcases eG.mp f with e | e
  ·exact(h.each g e).mono s1
  ·exact(k.each g e).mono s2
 ·have h1:=(h.each g f).Ue z hz;have j:=(k.each l c).Ue z i;rw[d z h1] at j;cases j
 ·show ((x.2++y.2).map<|AR cs).sum=x.1+y.1;rw[eH,L2.sum_append,h.sum,k.sum]
 ·show 0<=x.1+y.1
  have:=h.nn;have:=k.nn;omega
def pd (cs:List Int)(ws:List Nat)(m:Nat)(x:nD):Prop:=zb cs ws m x/\True
def lL (cs:List Int)(ws:List Nat)(m:Nat)(x:nD):Prop:=zb cs ws m x/\True
def um (cs:List Int)(ws:List Nat)(m:Nat):zb cs ws m (0,[]):=⟨(λ_ h=>nomatch h),.nil,rfl,Int.le_refl _⟩
def CQ (cs:List Int)(ws:List Nat):pd cs ws 0 (0,[]):=⟨um cs ws 0,trivial⟩
def CS (cs:List Int)(ws:List Nat):lL cs ws 0 (0,[]):=⟨um cs ws 0,trivial⟩
def wI {m k i:Nat}{ps:List Nat}(hk:k<(aW m).length)(hi:i=(aW m).getD k 0)(h:∀ q∈ps,Sub q m/\∀ j,q.testBit j=true->j∈(aW m).take k) :
  ∀ q∈ps++ps.map (λx=>x+2 ^ i),Sub q m/\∀ j,q.testBit j=true->j∈(aW m).take (k+1):=by
 rw[take_snoc 0 hk,<-hi];intro q hq
 rcases eG.mp hq with hq | hq
 ·exact⟨(h q hq).1,λj hj=>C1 _<|(h q hq).2 j hj⟩
 ·obtain⟨q,c,rfl⟩:=j9.mp hq;obtain⟨a,b⟩:=h q c;have hb:q.testBit i=false:=by
   cases e:q.testBit i with
   | false=>rfl
   | true=>
    have h1:=Fy (dk m)<|b i e;rw[hi,TB (dk m) hk] at h1
    omega
  have g:∀ j,(q+2 ^ i).testBit j=true->q.testBit j=true∨i=j:=λj hj=>by
   rw[AJ hb,iB,Vd,r4] at hj;exact hj
  refine⟨λj hj=>?_,λj hj=>?_⟩
  ·rcases g j hj with hj | rfl
   ·exact a j hj
   ·rw[hi];exact fB.mp<|vW hk
  ·rcases g j hj with hj | rfl
   ·exact C1 _<|b j hj
   ·exact ro _ eR
def MD (K:Frag):Sp:=λa H Q _=>∃ (w:Addr) (ws:List Nat),a=[.ref w]/\aN K H w ((aK ws).map V.int)/\ws.length<=8/\iA ws/\∀ (H':Hp),ag H H'->(¬ (laidOut ws).length<ws.length->Q .bx H')/\((laidOut ws).length<ws.length->∀ p r o,H' p=some (.iF o<|.tup<|(aK r).map V.int)->o.cls=.type "tuple"->o.dict=none->Ring ws r->Q (.ref p) H')
def RU (K:Frag):Sp:=λa H Q _=>∃ (w p:Addr) (ws l:List Nat),a=[.ref w,.ref p]/\aN K H w ((aK ws).map V.int)/\au K H p ((aK l).map V.int)/\ws.length<=8/\l.length<=8/\∀ (t:Addr) (H':Hp),ag H H'->aN K H' t ((aK<|lJ ws l).map V.int)->Q (.ref t) H'
def RV (K:Frag):Sp:=λa H Q _=>∃ (c w:Addr) (cs:List Int) (ws:List Nat) (m:Nat),a=[.ref c,.ref w,.int (m:Int)]/\aN K H c (cs.map V.int)/\aN K H w ((aK ws).map V.int)/\cA cs/\ws.length=cs.length/\iA ws/\0<m/\m<2 ^ cs.length/\
 ∀ (t:Addr) (us:List V) (L:B0L) (H':Hp),ag H H'->aN K H' t us->GF K H' us L->pd cs ws m ((L.map<|AR cs).sum,L)->Q (.ref t) H'
def ME (K:Frag):Sp:=λa H Q _=>∃ (c w:Addr) (cs:List Int) (ws:List Nat),a=[.ref c,.ref w]/\aN K H c (cs.map V.int)/\aN K H w ((aK ws).map V.int)/\cA cs/\ws.length=cs.length/\iA ws/\
 ∀ (l:Addr) (us:List V) (fl:List nD) (H':Hp),ag H H'->H l=none->H' l=some (.lst us)->lK K H' us fl->fl.length=2 ^ cs.length->(∀ k,k<2 ^ cs.length->pd cs ws k (fl.getD k (0,[])))->Q (.ref l) H'
def RW:Sp:=λa H Q _=>∃ (m:Nat),a=[.int (m:Int)]/\m<256/\∀ (l:Addr) (ps:List Nat) (H':Hp),ag H H'->H l=none->H' l=some (.lst<|(aK ps).map V.int)->(∀ q∈ps,Sub q m)->ps.length<=256->Q (.ref l) H'
def RX (K:Frag):Sp:=λa H Q _=>∃ (lo be:Addr) (cs:List Int) (ws:List Nat) (ul ub:List V) (fl fb:List nD) (m:Nat),a=[.ref lo,.ref be,.int (m:Int)]/\au K H lo ul/\au K H be ub/\lK K H ul fl/\lK K H ub fb/\cA cs/\ws.length=cs.length/\fl.length=2 ^ cs.length/\fb.length=m/\0<m/\m<2 ^ cs.length/\
 (∀ k,k<2 ^ cs.length->pd cs ws k (fl.getD k (0,[])))/\(∀ k,k<m->lL cs ws k (fb.getD k (0,[])))/\∀ (v:V) (x:nD) (H':Hp),ag H H'->Ch K H' v x->lL cs ws m x->Q v H'
def RY (K:Frag):Sp:=λa H Q _=>∃ (c w:Addr) (cs:List Int) (ws:List Nat),a=[.ref c,.ref w]/\aN K H c (cs.map V.int)/\aN K H w ((aK ws).map V.int)/\cA cs/\ws.length=cs.length/\iA ws/\
 ∀ (t:Addr) (us:List V) (L:B0L) (H':Hp),ag H H'->aN K H' t us->GF K H' us L->lL cs ws (2 ^ cs.length - 1) ((L.map<|AR cs).sum,L)->Q (.ref t) H'
def GZ {n:Nat}{us:List Value}(h:us.length=n+1):∃ a t,us=a::t/\t.length=n:=by
 cases us with
 | nil=>cases h
 | cons a t=>exact⟨a,t,rfl,Nat.succ.inj h⟩
def RZ {us:List Value}(h:us.length=1):∃ a0,us=[a0]:=by
 obtain⟨a,t,rfl,k⟩:=GZ h
 cases t with
 | nil=>exact⟨a,rfl⟩
 | cons _ _=>cases k
def R0 {us:List Value}(h:us.length=2):∃ a0 a1,us=[a0,a1]:=by
 obtain⟨a,t,rfl,k⟩:=GZ h;obtain⟨b,rfl⟩:=RZ k;exact⟨a,b,rfl⟩
def R4 {us:List Value}(h:us.length=3):∃ a0 a1 a2,us=[a0,a1,a2]:=by
 obtain⟨a,t,rfl,k⟩:=GZ h;obtain⟨b,c,rfl⟩:=R0 k;exact⟨a,b,c,rfl⟩
def R5 {us:List Value}(h:us.length=4):∃ a0 a1 a2 a3,us=[a0,a1,a2,a3]:=by
 obtain⟨a,t,rfl,k⟩:=GZ h;obtain⟨b,d,c,rfl⟩:=R4 k;exact⟨a,b,d,c,rfl⟩
def T1 {us:List Value}(h:us.length=5):∃ a0 a1 a2 a3 a4,us=[a0,a1,a2,a3,a4]:=by
 obtain⟨a,t,rfl,k⟩:=GZ h;obtain⟨b,e,c,d,rfl⟩:=R5 k;exact⟨a,b,e,c,d,rfl⟩
def T2 {A B:TS}{D:Ends}{σ:St}(h:∀ R:St->Hp->Prop,(∀ σ' H',B D σ' H'->R σ' H')->A {D with nx:=R} σ H):BO A B D σ H:=h (B D) λ_ _ z=>z
structure CT (P:Program)(w:World)(K:Frag)(a:Addr)(kvs:List (Key × V)):Prop where
 ns:(a == sysModules)=false
 ex:∃ o vs,K.lookup a=some o/\o.IsDictOf (bW P w) vs/\KV kvs vs
def MF (kvs:List (Key × V))(a:Addr)(td ty:TE):TE:=λσ H Q=>td σ H λx H1=>ty σ H1 λy b=>∃ k v,x=.ref a/\y=kV k/\cP kvs k=some v/\Q v b
def G0 (kvs:List (Key × V))(a:Addr)(ty td:TE):TE:=λσ H Q=>ty σ H λy H1=>td σ H1 λx b=>∃ k,x=.ref a/\y=kV k/\Q (.bl<|!(cP kvs k).isSome) b
variable {X:Cx}{N W G:List Str}{x:Str}{pos:Pos}{a:Addr}
def R6 (S:Sc X N W G)(g:Nat)(h:X.mg x=some (.ref a))(hg:G[g]?=some x:=by rfl):QE X (.Name x pos) (tC<|.ref a):=by
 have q:=S.gl _<|fO hg;exact⟨ni q.1 h rfl q.2.1⟩
variable {kvs:List (Key × V)}{o:Expr}
def CT.at_ {pins:aO0}{σ:St}{s:Shared}(D:CT X.prog X.w X.K a kvs)(I:Inv X pins σ H s):∃ vs,KV kvs vs/\s.heap.DictOf (bW X.prog X.w) a vs:=by
 obtain⟨o,vs,hk,b,r⟩:=D.ex;exact⟨vs,r,Heap.dictOf_iff.mpr ⟨o,I.gr a o hk,b⟩⟩
variable {i:Expr}{td ty:TE}
def R7 (D:CT X.prog X.w X.K a kvs)(ho:QE X o td)(hi:QE X i ty)(hs:Jp i:=by intro _ _;rfl):QE X (.Subscript o i pos) (MF kvs a td ty):=by
 refine⟨λb s σ H Q I h=>Ak PySem.F.slot_dict_getitem.lookup hs<|bU (ho.h b s σ H _ I h) λu z ⟨x,H1,g,p,n⟩=>bU (hi.h b z σ H1 _ g n) λB C ⟨y,A,f,r,k,v,j,t,l,q⟩=>?_⟩;subst j t;obtain rfl:u=Value.ref a:=p;obtain⟨m,c,e⟩:=D.at_ f;obtain⟨E,hw,d⟩:=gL.some_of (v:=v) (o:=valueAt m k) (by rw[<-l];exact c.val k)
 exact⟨e.typeIs,wpAny_getItem_of (rj r) e.mapOf hw ⟨v,A,f.tok _,d,q⟩⟩
def KR (D:CT X.prog X.w X.K a kvs)(hi:PE X i ty)(ho:PE X o td):PC X .NotIn i o (G0 kvs a ty td):=by
 intro b s σ H Q I h;refine bU (hi b s σ H _ I h) λt q ⟨y,H1,e,j,l⟩=>bU (ho b q σ H1 _ e l) λu z ⟨x,r,d,m,k,f,p,n⟩=>?_;subst f p;obtain rfl:u=Value.ref a:=m;obtain⟨v,c,g⟩:=D.at_ d;refine wpAny_notIn_of (rj j) D.ns g.mapOf ?_;rw[<-(c.val k).jb];exact⟨.bl<|!(cP kvs k).isSome,r,d.tok _,rfl,n⟩
def R8 (D:CT X.prog X.w X.K a kvs)(hi:QE X i ty)(ho:QE X o td)(hm:behindInMarks .NotIn o=false):QT X (.Compare i [.NotIn] [o] pos) (tB<|G0 kvs a ty td):=⟨DX (KR D hi.h ho.h) hm⟩
def G8 {σ:St} :MF kvs a td ty σ H Q=td σ H λx H1=>ty σ H1 λy H2=>∃ k v,x=.ref a/\y=kV k/\cP kvs k=some v/\Q v H2:=rfl
def G9 {σ:St} :G0 kvs a ty td σ H Q=ty σ H λy H1=>td σ H1 λx H2=>∃ k,x=.ref a/\y=kV k/\Q (.bl<|!(cP kvs k).isSome) H2:=rfl
def pe (e:Nat->Addr):List (Key × V):=[(.inr "sure",.ref<|e 0),(.inr "share",.ref<|e 1),(.inr "groups",.ref<|e 2),(.inr "ring",.ref<|e 3),(.inr "order",.ref<|e 4),(.inr "put",.ref<|e 5),(.inr "guess",.ref<|e 6),(.inr "right",.ref<|e 7),(.inr "book",.ref<|e 8)]
structure uo (P:Program)(w:World)(K:Frag)(mg:Str->Option Value)(a:Addr)(e:Nat->Addr):Prop where
 gl:mg "FORMS"=some (.ref a)
 PH:CT P w K a (pe e)
 t0:∀ k,k<9->k≠5->k≠6->∀ H,aN K H (e k) []
 t5:∀ H,aN K H (e 5) [.str "name",.str "colour"]
 t6:∀ H,aN K H (e 6) [.str "name"]
def T3 (e0 e1 e2 e3 e4 e5 e6 e7 e8:Addr):Nat->Addr
 | 0=>e0
 | 1=>e1
 | 2=>e2
 | 3=>e3
 | 4=>e4
 | 5=>e5
 | 6=>e6
 | 7=>e7
 | _=>e8
variable {u0 u2:Tok}{n1 n2:Nat}
def Ha {P:Program}{w:World}{mg:Str->Option Value}{h:Heap}{e0 e1 e2 e3 e4 e5 e6 e7 e8:Addr}{t0 t1 t2 t3 t4 t5 t6 t7 t8 u1:Tok}{ep n0 n3 n4 n5 n6 n7 n8:Nat}{d0 d1 d2 d3 d4 d5 d6 d7 d8:Option Addr}{s0 s1 s2 s3 s4 s5 s6 s7 s8:Array (Option Value)}(X:K.In h)(G:h.Ns mainGlobals mg)
  (a0:nsIn K mainGlobals "FORMS"=some (some<|.ref a)) (hs:(a == sysModules)=false)
  (a1:K.lookup a=some ⟨.type "dict",none,.dict #[⟨PyData.keyHash w.params "sure",.str "sure" t0,.ref e0⟩,⟨PyData.keyHash w.params "share",.str "share" t1,.ref e1⟩,⟨PyData.keyHash w.params "groups",.str "groups" t2,.ref e2⟩,⟨PyData.keyHash w.params "ring",.str "ring" t3,.ref e3⟩,⟨PyData.keyHash w.params "order",.str "order" t4,.ref e4⟩,⟨PyData.keyHash w.params "put",.str "put" t5,.ref e5⟩,⟨PyData.keyHash w.params "guess",.str "guess" t6,.ref e6⟩,⟨PyData.keyHash w.params "right",.str "right" t7,.ref e7⟩,⟨PyData.keyHash w.params "book",.str "book" t8,.ref e8⟩] ep,#[]⟩)
  (l0:K.lookup e0=some ⟨.type "tuple",d0,.seq #[] n0,s0⟩) (l1:K.lookup e1=some ⟨.type "tuple",d1,.seq #[] n1,s1⟩) (l2:K.lookup e2=some ⟨.type "tuple",d2,.seq #[] n2,s2⟩) (l3:K.lookup e3=some ⟨.type "tuple",d3,.seq #[] n3,s3⟩) (l4:K.lookup e4=some ⟨.type "tuple",d4,.seq #[] n4,s4⟩) (l5:K.lookup e5=some ⟨.type "tuple",d5,.seq #[.str "name" u0,.str "colour" u1] n5,s5⟩) (l6:K.lookup e6=some ⟨.type "tuple",d6,.seq #[.str "name" u2] n6,s6⟩) (l7:K.lookup e7=some ⟨.type "tuple",d7,.seq #[] n7,s7⟩) (l8:K.lookup e8=some ⟨.type "tuple",d8,.seq #[] n8,s8⟩):uo P w K mg a (T3 e0 e1 e2 e3 e4 e5 e6 e7 e8):=by
 refine⟨mg_of X G a0,⟨hs,_,[(.inr "sure",.ref e0),(.inr "share",.ref e1),(.inr "groups",.ref e2),(.inr "ring",.ref e3),(.inr "order",.ref e4),(.inr "put",.ref e5),(.inr "guess",.ref e6),(.inr "right",.ref e7),(.inr "book",.ref e8)],a1,⟨_,_,⟨rfl,rfl,rfl⟩,rfl,?_,?_,?_⟩,?_⟩,λk hk b c H=>?_,λH=>.inr ⟨_,_,_,l5,rfl,rfl,by show 2<=sizeLine;decide,.cons ⟨_,rfl⟩<|.cons ⟨_,rfl⟩ .nil⟩,λH=>.inr ⟨_,_,_,l6,rfl,rfl,by show 1<=sizeLine;decide,.cons ⟨_,rfl⟩ .nil⟩⟩
 ·intro e he;simp only[List.mem_toArray,mem_cons,not_mem_nil,or_false] at he
  rcases he with rfl | rfl | rfl | rfl | rfl | rfl | rfl | rfl | rfl<;>exact⟨.inr _,bM P w _ _,rfl⟩
 ·exact .cons (bM P w _ _) rfl<|.cons (bM P w _ _) rfl<|.cons (bM P w _ _) rfl<|.cons (bM P w _ _) rfl<|.cons (bM P w _ _) rfl<|.cons (bM P w _ _) rfl<|.cons (bM P w _ _) rfl<|.cons (bM P w _ _) rfl<|.cons (bM P w _ _) rfl .nil
 ·show ([.inr "sure",.inr "share",.inr "groups",.inr "ring",.inr "order",.inr "put",.inr "guess",.inr "right",.inr "book"]:List Key).Nodup
  decide +kernel
 ·exact .cons ⟨rfl,rfl⟩<|.cons ⟨rfl,rfl⟩<|.cons ⟨rfl,rfl⟩<|.cons ⟨rfl,rfl⟩<|.cons ⟨rfl,rfl⟩<|.cons ⟨rfl,rfl⟩<|.cons ⟨rfl,rfl⟩<|.cons ⟨rfl,rfl⟩<|.cons ⟨rfl,rfl⟩ .nil
 ·match k,hk,b,c with
  | 0,_,_,_=>exact .inr ⟨_,_,_,l0,rfl,rfl,ad,.nil⟩
  | 1,_,_,_=>exact .inr ⟨_,_,_,l1,rfl,rfl,ad,.nil⟩
  | 2,_,_,_=>exact .inr ⟨_,_,_,l2,rfl,rfl,ad,.nil⟩
  | 3,_,_,_=>exact .inr ⟨_,_,_,l3,rfl,rfl,ad,.nil⟩
  | 4,_,_,_=>exact .inr ⟨_,_,_,l4,rfl,rfl,ad,.nil⟩
  | 7,_,_,_=>exact .inr ⟨_,_,_,l7,rfl,rfl,ad,.nil⟩
  | 8,_,_,_=>exact .inr ⟨_,_,_,l8,rfl,rfl,ad,.nil⟩
structure wJ (K:Frag)(C:Addr)(m qual:Str)(st:Stmt)(z:Str):Prop where
 ex:∃ f fd t,Rn K m qual st f fd [.str z t]/\Meth K C m f
variable {m:Str}
def Hb {qual z:Str}{st:Stmt}{f T:Addr}{t:Tok}{o:Obj}{n:Nat}{oc:Value}{od an:Option Addr}{osl:Array (Option Value)}{kV doc pm cy ct:Value}
  (a:findIn K (.ref C) m=some (some<|.ref f)) (l:K.lookup f=some ⟨oc,od,.func<|fnOf m qual (bf st) (aO st) (aj st) (.ref T) kV doc pm an cy ct,osl⟩)
  (c:codeIn K cy qual=true) (k:keepIn K (.ref f)=true) (i:isFn K (.ref f)=true) (lt:K.lookup T=some o) (ld:o.data=.seq #[.str z t] n):wJ K C m qual st z:=
 ⟨f,_,t,⟨⟨oc,od,T,kV,doc,pm,an,cy,ct,osl,o,n,rfl,l,c,lt,ld⟩,k⟩,a,i,k⟩
structure KS (P:Program)(w:World)(K:Frag)(mg:Str->Option Value)(base:Heap)(k:Nat)(C:Addr)(m p1 p2:Str)(z:Str)(sp:Sp):Prop where
 ex:∃ f fd t,fi P w K mg base (kY P w) k f fd [p1,p2] sp/\Meth K C m f/\Binds K fd [p1,p2] []/\Binds K fd [p1,p2] [.str z t]
def bindM (m qual:Str)(st:Stmt)(p1 p2:Str):Prop:=∀ (T:Addr) (kV doc pm:Value) (an:Option Addr) (cy ct u v:Value),
 (∃ k,bindArgs (fnOf m qual (bf st) (aO st) (aj st) (.ref T) kV doc pm an cy ct) ⟨[u],[]⟩=(seqItems? (.ref T) >>= k)/\∀ d,k (some #[d])=pure [(p1,u),(p2,d)])/\
 (∃ k,bindArgs (fnOf m qual (bf st) (aO st) (aj st) (.ref T) kV doc pm an cy ct) ⟨[u,v],[]⟩=(seqItems? (.ref T) >>= k)/\∀ d,k (some #[d])=pure [(p1,u),(p2,v)])
variable {z:Str}
def Bm:vo C sp [.str z] E vm σ H Q=∀ x dx,H x=none->H dx=none->dx≠x->sp [.ref x,.str z] (upd (upd H dx<|.own x) x<|.ins C dx []) (λv H2=>v=.bx/\Q (.ref x) H2) E:=rfl
abbrev qo (k:Bool)(h:Heap)(i l:Addr)(n:Nat):Prop:=cond k (h.IsListIter i l n)<|h.IsTupleIter i l n
abbrev uq (k:Bool)(h:Heap)(l:Addr)(ys:Array Value):Prop:=cond k (h.IsList l ys)<|h.IsTuple l ys
abbrev eC (k:Bool)(K:Frag)(H:Hp)(l:Addr)(ys:List V):Prop:=cond k (au K H l ys)<|aN K H l ys
theorem qo.at {k:Bool}{h h':Heap}{i l:Addr}{n:Nat}(t:qo k h i l n)(q:∀ o,h.get? i=some o->h'.get? i=some o):qo k h' i l n:=by
 cases k
 ·exact Heap.IsTupleIter.at t q
 ·exact Heap.IsListIter.at t q
theorem uq.at {k:Bool}{h h':Heap}{l:Addr}{ys:Array Value}(t:uq k h l ys)(q:∀ o,h.get? l=some o->h'.get? l=some o):uq k h' l ys:=by
 cases k
 ·exact Heap.IsTuple.at t q
 ·exact Heap.IsList.at t q
variable {i l:Addr}
def qo.ob {k:Bool}{h:Heap}{n:Nat}(t:qo k h i l n):∃ o m,h.get? i=some o/\o.cls=.type m/\"zip"≠m/\"tuple"≠m/\∃ d,o.data=.fields d:=by
 cases k
 ·obtain⟨o,e,c,d⟩:=t;exact⟨o,_,e,c,ad,ad,_,d⟩
 ·obtain⟨o,e,c,d⟩:=t;exact⟨o,_,e,c,ad,ad,_,d⟩
variable {prog:Program}{w:World}{A:Around}{E Q:Value->Shared->Prop}{s:Shared}{ys:Array Value}
def Uv {k:Bool}{n:Nat}{y:Value}(t:qo k s.heap i l n)(p:uq k s.heap l ys)(e:ys[n]?=some y)
  (q:∀ h',qo k h' i l (n+1)->h'.objs.size=s.heap.objs.size/\(∀ c,c≠i->h'.get? c=s.heap.get? c)->Q y {s with heap:=h'}):wpAny (model prog w) A (Builtin.SmallTypes.nextOf<|.ref i) Q E s:=by
 cases k
 ·exact vM t p e λh' a b=>q h' a b
 ·exact wpAny_nextOf_list_item t p e λh' a b=>q h' a b
def T5 {k:Bool}{n:Nat}(hA:A.handled=none)(t:qo k s.heap i l n)(p:uq k s.heap l ys)(e:ys[n]?=none)
  (q:∀ h' e,ExtBut i s.heap h'->(∃ o,h'.get? e=some o/\o.cls=.type "StopIteration")->E (.ref e) {s with heap:=h'}):wpAny (model prog w) A (Builtin.SmallTypes.nextOf<|.ref i) Q E s:=by
 cases k
 ·exact kr hA t p e q
 ·exact wpAny_nextOf_list_end hA t p e q
variable {j:Bool}{xs:Array Value}{z i1 i2:Addr}
def R9 {k:Bool}{TI TO l1 l2:Addr}{a b:Value}(hA:A.handled=none)(D:ZipApart z TI TO i1 i2 l1 l2)(kz:IsZip s.heap z TI TO .none)(kI:IsPair s.heap TI (.ref i1) (.ref i2))(kO:IsPair s.heap TO a b)
  (t1:qo j s.heap i1 l1 n1) (t2:qo k s.heap i2 l2 n2) (p1:uq j s.heap l1 xs) (p2:uq k s.heap l2 ys)
  (q:∀ x y h',xs[n1]?=some x->ys[n2]?=some y->IsZip h' z TI TO (rawInt s.heap.objs.size)->IsPair h' TO x y->qo j h' i1 l1 (n1+1)->qo k h' i2 l2 (n2+1)->IsPair h' s.heap.objs.size x y->
   (∀ c o,c≠z->c≠TO->c≠i1->c≠i2->s.heap.get? c=some o->h'.get? c=some o)->Q (.ref s.heap.objs.size) {s with heap:=h'})
  (qe:∀ h' e,xs[n1]?=none∨ys[n2]?=none->(∀ c o,c≠z->c≠TO->c≠i1->c≠i2->s.heap.get? c=some o->h'.get? c=some o)->(∃ o,h'.get? e=some o/\o.cls=.type "StopIteration")->E (.ref e) {s with heap:=h'}) :
  wpAny (model prog w) A (Builtin.«zip.__next__» ⟨[.ref z],[]⟩) (λf s'=>∃ v,f=.done (.ret v)/\Q v s') E s:=by
 refine b7 (m:=field (.ref z) 2)<|L4 kz rfl (x:=.bool false) rfl<|b7 (m:=field (.ref z) 3)<|L4 kz rfl (x:=.ref TI) rfl<|b7<|U8 kI rfl<|b7 (m:=Builtin.SmallTypes.ownedTupleIsFree<|.ref z) ?_;unfold Builtin.SmallTypes.ownedTupleIsFree;refine b7<|L4 kz rfl (x:=.none) rfl<|ey ?_;simp only[if_true];refine b7 (wpAny_rule (b7 (L4 kz rfl (x:=.ref TO) rfl (b7 (wpAny_setField_rec kz (by simp) λu1 z1 B=>?_)))))
 have z1:IsZip u1 z TI TO .ellipsis:=z1;refine b7 ?_;simp only[List.zipIdx_cons,List.zipIdx_nil,forIn_cons,List.forIn_nil];have H:∀ (i:Addr) (v u:Heap) (e:Addr),i=i1∨i=i2->xs[n1]?=none∨ys[n2]?=none->i≠z->IsZip v z TI TO .ellipsis->(∀ c o,c≠z->c≠i1->c≠TO->s.heap.get? c=some o->v.get? c=some o)->ExtBut i v u->(∃ o,u.get? e=some o/\o.cls=.type "StopIteration")->
   IsZip u z TI TO .ellipsis/\∀ d,SameBut z u d->E (.ref e) {s with heap:=d}:=by
  intro i v u e hi hn iz zv kv l ⟨oe,ge,ce⟩;have z4:u.get? z=some _:=l _ _ iz.symm zv;have ne:e≠z:=gS ge ce z4 rfl ad
  exact⟨z4,λd h=>qe d e hn (λc o g p t G x=>(h.2 c g).trans<|l c o (λq=>hi.elim (λr=>t<|q.trans r) λr=>G<|q.trans r)<|kv c o g t p x) ⟨oe,(h.2 e ne).trans ge,ce⟩⟩
 cases K:xs[n1]? with
 | none=>
  refine b7<|b7<|wpAny_onRaise<|b7 (m:=Builtin.SmallTypes.nextOf<|.ref i1)<|T5 hA (t1.at λo e=>(B.2 _ D.i1z).trans e) (p1.at λo e=>(B.2 _ D.l1z).trans e) K λR e C he=>?_;have f:=H i1 u1 R e (.inl rfl) (.inl K) D.i1z z1 (λc o g _ _ e=>(B.2 c g).trans e) C he;exact wpAny_setField_rec f.1 (by simp) λd _ h=>f.2 d h
 | some x=>
 refine b7<|b7<|wpAny_onRaise<|b7 (m:=Builtin.SmallTypes.nextOf<|.ref i1)<|Uv (t1.at λo e=>(B.2 _ D.i1z).trans e) (p1.at λo e=>(B.2 _ D.l1z).trans e) K λR s1 C=>ey ?_;have o2:IsPair R TO a b:=(C.2 _ D.TOi1).trans<|(B.2 _ D.TOz).trans kO;refine b7<|U8 o2 rfl<|b7<|wpAny_updateSeq_pair o2 λN U M=>?_;have U:IsPair N TO x b:=U;have F:∀ c o,c≠z->c≠i1->c≠TO->s.heap.get? c=some o->N.get? c=some o:=λc o g p t e=>(M.2 c t).trans<|(C.2 c p).trans<|(B.2 c g).trans e;have z3:IsZip N z TI TO .ellipsis:=(M.2 _ D.TOz.symm).trans<|(C.2 _ D.i1z.symm).trans z1;refine b7<|wpAny_letGo<|ey ?_
 cases L:ys[n2]? with
 | none=>
  refine b7<|b7<|wpAny_onRaise<|b7 (m:=Builtin.SmallTypes.nextOf<|.ref i2)<|T5 hA (t2.at λo e=>F _ o D.i2z D.i12.symm D.TOi2.symm e) (p2.at λo e=>F _ o D.l2z D.l2i1 D.l2TO e) L λT e l he=>?_;have f:=H i2 N T e (.inr rfl) (.inr L) D.i2z z3 F l he;exact wpAny_setField_rec f.1 (by simp) λd _ h=>f.2 d h
 | some y=>
 refine b7<|b7<|wpAny_onRaise<|b7 (m:=Builtin.SmallTypes.nextOf<|.ref i2)<|Uv (t2.at λo e=>F _ o D.i2z D.i12.symm D.TOi2.symm e) (p2.at λo e=>F _ o D.l2z D.l2i1 D.l2TO e) L λT s2 l=>ey ?_;have Y:IsPair T TO x b:=(l.2 _ D.TOi2).trans U;refine b7<|U8 Y rfl<|b7<|wpAny_updateSeq_pair Y λd I h=>?_;have I:IsPair d TO x y:=I;refine b7<|wpAny_letGo<|ey<|ey<|b7<|U8 I rfl<|b7<|wpAny_newTuple ?_;have Z:d.objs.size=s.heap.objs.size:=by rw[h.1,l.1,M.1,C.1,B.1]
 have k5:∀ c o,c≠z->c≠TO->c≠i1->c≠i2->s.heap.get? c=some o->d.get? c=some o:=λc o g p t G e=>(h.2 c p).trans<|(l.2 c G).trans<|F c o g t p e;have z5:IsZip d z TI TO .ellipsis:=(h.2 _ D.TOz.symm).trans<|(l.2 _ D.i2z.symm).trans z3;have r1:qo j d i1 l1 (n1+1):=s1.at λo e=>(h.2 _ D.TOi1.symm).trans<|(l.2 _ D.i12).trans<|(M.2 _ D.TOi1.symm).trans e;have r2:qo k d i2 l2 (n2+1):=s2.at λo e=>(h.2 _ D.TOi2.symm).trans e;have X:z<d.objs.size:=lt_size z5;refine b7 (m:=Builtin.SmallTypes.ownedTupleHandOut (.ref z)<|.ref d.objs.size) ?_;unfold Builtin.SmallTypes.ownedTupleHandOut;have z6:IsZip (d.push {cls:=.type "tuple",data:=.seq #[x,y]}) z TI TO .ellipsis:=c8 _ z5;refine b7 (wpAny_setField_rec z6 (by simp) λu7 S W=>?_)
 have S:IsZip u7 z TI TO (rawInt d.objs.size):=S;refine wpAny_setField_rec S (by simp) λP O b8=>?_
 have O:IsZip P z TI TO (rawInt d.objs.size):=O;have J:∀ c o,c≠z->d.get? c=some o->P.get? c=some o:=λc o g e=>(b8.2 c g).trans<|(W.2 c g).trans<|c8 _ e;have new:IsPair P d.objs.size x y:=(b8.2 _<|Ve X).trans<|(W.2 _<|Ve X).trans<|hO _ rfl;rw[Z] at O new;refine ey ⟨_,rfl,(show ∀ n:Nat,n=s.heap.objs.size->Q (.ref n) _ from λn en=>?_) d.objs.size Z⟩
 subst en;exact q x y P K L O (J _ _ D.TOz I) (r1.at λo e=>J _ o D.i1z e) (r2.at λo e=>J _ o D.i2z e) new λc o g p t G e=>J c o g<|k5 c o g p t G e
abbrev vc (k:Bool)(p:Addr):Obj:={cls:=.type<|cond k "list_iterator" "tuple_iterator",data:=.fields #[.ref p,.int 0 0]}
def Pz (j k:Bool)(h:Heap)(p1 p2:Addr):Heap:=(h.push<|vc j p1).push<|vc k p2
def T6 (j k:Bool)(h:Heap)(p1 p2:Addr):Heap:=
 (((Pz j k h p1 p2).push<|DO (.ref h.objs.size)<|.ref (h.push<|vc j p1).objs.size).push<|DO .none .none).push {cls:=.type "zip",data:=.fields #[.none,.bool false,.bool false,.ref (Pz j k h p1 p2).objs.size,.ref ((Pz j k h p1 p2).push<|DO (.ref h.objs.size)<|.ref (h.push<|vc j p1).objs.size).objs.size]}
def Sa {k:Bool}{p:Addr}(h:uq k s.heap p ys)(q:Q (.ref s.heap.objs.size) {s with heap:=s.heap.push (vc k p)}):wpAny (model prog w) A (pyIter<|.ref p) Q E s:=by
 cases k
 ·exact U4 h q
 ·exact SZ h q
theorem uq.push {k:Bool}{h:Heap}{p:Addr}{ys:Array Value}(t:uq k h p ys)(o:Obj):uq k (h.push o) p ys:=t.at λ_ e=>c8 _ e
def Hc (j k:Bool)(p1 p2:Addr)(xs ys:Array Value) :
  Meets (Builtin.«zip.__new__» ⟨[.type "zip",.ref p1,.ref p2],[]⟩) (λ_ R s=>uq j s.heap p1 xs/\uq k s.heap p2 ys/\R (.ok<|.ret<|.ref (((Pz j k s.heap p1 p2).push<|DO (.ref s.heap.objs.size)<|.ref (s.heap.push<|vc j p1).objs.size).push<|DO .none .none).objs.size) {s with heap:=T6 j k s.heap p1 p2}):=
 .of_wp λb w A R s h=>by
  obtain⟨e,g,d,a,c⟩:=s;obtain⟨f,i,h⟩:=h;have z:=sub_zip;have l:uq j (Shared.heap ⟨e,g,d,a,c⟩) p1 xs:=f;have m:uq k (Shared.heap ⟨e.push<|vc j p1,g,d,a,c⟩) p2 ys:=i.push _
  wp_walk using Sa l,Sa m
  exact⟨_,rfl,h⟩
def CU {k:Bool}{p1 p2:Addr}(e1:uq j s.heap p1 xs)(e2:uq k s.heap p2 ys)
  (q:∀ h',IsZip h' (s.heap.objs.size+4) (s.heap.objs.size+2) (s.heap.objs.size+3) .none->IsPair h' (s.heap.objs.size+2) (.ref s.heap.objs.size) (.ref<|s.heap.objs.size+1)->IsPair h' (s.heap.objs.size+3) .none .none->
   qo j h' s.heap.objs.size p1 0->qo k h' (s.heap.objs.size+1) p2 0->(∀ c o,s.heap.get? c=some o->h'.get? c=some o)->Q (.ref<|s.heap.objs.size+4) {s with heap:=h'}) :
  wpAny (model prog w) A (call (.type "zip") [.ref p1,.ref p2]) Q E s:=by
 refine callType_new F.called_zip ad (F.typeCall_zip_2 _ _) (F.newCall_zip_2 _ _) (λobj=>F.args_object_init_3 obj _ _) F.entry_zip_new (Hc j k p1 p2 xs ys) ⟨e1,e2,?_⟩
 generalize f:s.heap.push (vc j p1)=a;have m:a.objs.size=s.heap.objs.size+1:=by rw[<-f];exact C5 ..
 have y:a.get? s.heap.objs.size=some (vc j p1):=by rw[<-f];exact hO _ rfl
 have B:∀ c o,s.heap.get? c=some o->a.get? c=some o:=λc o e=>by rw[<-f];exact c8 _ e
 have hb:Pz j k s.heap p1 p2=a.push (vc k p2):=by unfold Pz;rw[f]
 have h:(a.push<|vc k p2).objs.size=s.heap.objs.size+2:=by rw[C5,m]
 have t:(a.push<|vc k p2).get? (s.heap.objs.size+1)=some (vc k p2):=by rw[<-m];exact hO _ rfl
 have n:∀ c o,a.get? c=some o->(a.push<|vc k p2).get? c=some o:=λc o e=>c8 _ e;have C:T6 j k s.heap p1 p2=(((a.push<|vc k p2).push<|DO (.ref s.heap.objs.size)<|.ref a.objs.size).push<|DO .none .none).push {cls:=.type "zip",data:=.fields #[.none,.bool false,.bool false,.ref (a.push<|vc k p2).objs.size,.ref ((a.push<|vc k p2).push<|DO (.ref s.heap.objs.size)<|.ref a.objs.size).objs.size]}:=by
  unfold T6;rw[hb,f]
 rw[C,hb];generalize a.push (vc k p2)=b at h t n;generalize hc:b.push (DO (.ref s.heap.objs.size)<|.ref a.objs.size)=c;have i:c.objs.size=s.heap.objs.size+3:=by rw[<-hc,C5,h]
 have r:c.get? (s.heap.objs.size+2)=some (DO (.ref s.heap.objs.size)<|.ref a.objs.size):=by rw[<-hc,<-h];exact hO _ rfl
 have p:∀ x o,b.get? x=some o->c.get? x=some o:=λx o e=>by rw[<-hc];exact c8 _ e
 generalize l:c.push (DO .none .none)=d;have v:d.objs.size=s.heap.objs.size+4:=by rw[<-l,C5,i]
 have z:d.get? (s.heap.objs.size+3)=some (DO .none .none):=by rw[<-l,<-i];exact hO _ rfl
 have kd:∀ x o,c.get? x=some o->d.get? x=some o:=λx o e=>by rw[<-l];exact c8 _ e
 have g:∀ x o u,d.get? x=some o->(d.push u).get? x=some o:=λx o u e=>c8 _ e;rw[m] at r;rw[h,i];have gz:=hO d (o:={cls:=.type "zip",data:=.fields #[.none,.bool false,.bool false,.ref<|s.heap.objs.size+2,.ref<|s.heap.objs.size+3]}) rfl;rw[v] at gz;show _/\_;rw[v];exact⟨⟨_,gz,rfl⟩,q _ gz (g _ _ _<|kd _ _ r) (g _ _ _ z) (by cases j<;>exact⟨_,g _ _ _<|kd _ _<|p _ _<|n _ _ y,rfl,rfl⟩) (by cases k<;>exact⟨_,g _ _ _<|kd _ _<|p _ _ t,rfl,rfl⟩) λx o e=>g _ _ _<|kd _ _<|p _ _<|n _ _<|B _ _ e⟩
def PD (j k:Bool)(K:Frag)(a b:Addr):It:=
 ⟨λi H=>∃ xs ys x y,eC j K H a xs/\eC k K H b ys/\xs[i]?=some x/\ys[i]?=some y,λi H v c=>∃ p x y,H p=none/\v=.ref p/\c=upd H p (.tup [x,y])/\∀ xs ys,eC j K H a xs->eC k K H b ys->xs[i]?=some x/\ys[i]?=some y,λi H=>∃ xs ys,eC j K H a xs/\eC k K H b ys/\(xs.length<=i∨ys.length<=i)⟩
structure Sb (j k:Bool)(z TI TO i1 i2 a b:Addr)(i:Nat)(h:Heap):Prop where
 zz:IsZip h z TI TO .none
 ti:IsPair h TI (.ref i1) (.ref i2)
 to:∃ u v,IsPair h TO u v
 t1:qo j h i1 a i
 t2:qo k h i2 b i
variable {pins:aO0}{xs:List V}{k:Bool}
def eC.ar (I:Inv X pins σ H s)(h:eC k X.K H a xs):∃ its,Vals xs its/\uq k s.heap a its.toArray:=by
 cases k
 ·obtain⟨its,r,p,_⟩:=I.tuple h;exact⟨its,r,show s.heap.IsTuple a its.toArray from p⟩
 ·obtain⟨its,r,p,_⟩:=I.list h;exact⟨its,r,p.isList⟩
variable {ys:List V}
def eC.inj (I:Inv X pins σ H s)(h:eC k X.K H a xs)(h':eC k X.K H a ys):xs=ys:=by
 cases k
 ·exact I.qP h h'
 ·exact I.vf h h'
variable {b:Addr}
def fX (I:Inv X pins σ H s)(h:eC k X.K H a xs)(f:j2 X pins H b):a≠b:=λz=>by
 subst z
 cases k
 all_goals
  rcases h with (h | ⟨o,h⟩) | ⟨o,c,n,hk,_⟩
  ·rw[f.1] at h;cases h
  ·rw[f.1] at h;cases h
  ·have e:=I.mod.MP a o hk
   rcases f.2.2.2.1 with z | z
   ·exact I.ok.xl a o e z
   ·exact absurd (gg (lt_size (I.ok.bs a o e).1) z)<|I1 _
variable {TI TO:Addr}{i:Nat}
def Sb.apart (I:Inv X pins σ H s)(hTT:TI≠TO)(hii:i1≠i2)(st:Sb j k z TI TO i1 i2 a b i s.heap)(ha:eC j X.K H a xs)(hb:eC k X.K H b ys)
  (f:∀ c∈[z,TI,TO,i1,i2],j2 X pins H c):ZipApart z TI TO i1 i2 a b:=by
 obtain⟨d,h,⟨u,v,l⟩,A,x⟩:=st;obtain⟨C,E,m,n,y,w,_⟩:=A.ob;obtain⟨D,F,g,e,B,r,_⟩:=x.ob;have o:=f z (by simp)
 have p:=f TO (by simp)
 have t:=f i1 (by simp)
 have q:=f i2 (by simp)
 exact⟨gS h rfl d rfl ad,gS l rfl d rfl ad,gS m n d rfl y.symm,gS g e d rfl B.symm,hTT,gS h rfl m n w,gS h rfl g e r,gS l rfl m n w,gS l rfl g e r,hii,
  fX I ha o,fX I ha p,fX I ha t,fX I ha q,fX I hb o,fX I hb p,fX I hb t,fX I hb q⟩
def Sb.obj {h:Heap}(st:Sb j k z TI TO i1 i2 a b i h)(c:Addr)(hc:c∈[z,TI,TO,i1,i2]):∃ o,h.get? c=some o/\∀ v,o.data≠.cell v:=by
 obtain⟨g,n,⟨u,v,d⟩,l,e⟩:=st;obtain⟨s,_,f,_,_,_,_,p⟩:=l.ob;obtain⟨t,_,m,_,_,_,_,r⟩:=e.ob;simp only[mem_cons,not_mem_nil,or_false] at hc
 rcases hc with rfl | rfl | rfl | rfl | rfl
 ·exact⟨_,g,λv q=>by cases q⟩
 ·exact⟨_,n,λv q=>by cases q⟩
 ·exact⟨_,d,λv q=>by cases q⟩
 ·exact⟨_,f,λv q=>by rw[p] at q;cases q⟩
 ·exact⟨_,m,λv q=>by rw[r] at q;cases q⟩
variable {x1:Nat}
def CV {k:Bool}{P:Program}{elts:List Expr}{pos:Pos}(z TI TO i1 i2 a b:Addr)(hTT:TI≠TO)(hii:i1≠i2):Turn P w K (.Tuple elts x1 pos) (PD j k K a b) [z,TI,TO,i1,i2] z (Sb j k z TI TO i1 i2 a b) where
 mem:=by simp
 obj:=λ_ _ m=>m.obj
 keep:=λi h h' m k=>by
  obtain⟨t,B,⟨u,v,M⟩,Q,J⟩:=m;exact⟨k z (by simp) _ t,k TI (by simp) _ B,⟨u,v,k TO (by simp) _ M⟩,Q.at λo q=>k i1 (by simp) o q,J.at λo q=>k i2 (by simp) o q⟩
 item:=by
  intro X hP hw hK hc i O s σ H E I C m Y;subst hP hw hK;obtain⟨xs,ys,x,y,hq,l,hx,hy⟩:=Y;obtain⟨r,W,p⟩:=eC.ar I hq;obtain⟨f,A,U⟩:=eC.ar I l;obtain⟨u,hu,ru⟩:=W.get hx;obtain⟨v,hv,Z⟩:=A.get hy;have eu:r.toArray[i]?=some u:=by simpa using hu
  have ev:f.toArray[i]?=some v:=by simpa using hv
  have S:r.toArray[i]?=none∨f.toArray[i]?=none->False:=λhn=>by
   rw[eu,ev] at hn
   rcases hn with hn | hn<;>cases hn
  have D:=m.apart I hTT hii hq l C;have ob:=m.obj;obtain⟨t,B,⟨c,d,M⟩,Q,J⟩:=m;have L:s.TypeIs (.ref z) "zip":=⟨_,t,rfl⟩;unfold pyNext;refine b7 (wpAny_attempt (S4 (name:=Str.ofString "__next__") L F.slot_zip_next (U3 F.slot_zip_next L F.entry_zip_next
   (R9 (by simpa using I.ok.hd hc) D t B M Q J p U (λx' y' h1 gx gy z1 R r1 r2 new k1=>ey ?_) λ_ _ hn=>(S hn).elim) (F.args_zip_next_1 _))))
  rw[eu] at gx;cases gx
  rw[ev] at gy;cases gy
  refine⟨_,rfl,wpAny_letOwnedTupleGo_zip z1 λn z2 N=>?_⟩;have lz:z<s.heap.objs.size:=lt_size t;have G:∀ c o,c≠z->c≠TO->c≠i1->c≠i2->s.heap.get? c=some o->n.get? c=some o:=λc o a1 a2 a3 a4 e=>(N.2 c a1).trans<|k1 c o a1 a2 a3 a4 e;refine⟨.ref s.heap.objs.size,upd H s.heap.objs.size<|.tup [x,y],I.rD (ch:=[z,TI,TO,i1,i2]) (λc o hc q=>?_) C (ea _) (show bB X.prog X.w _ n _ (.tup _) from ⟨by show 2<=sizeLine;decide,[u,v],.cons ru<|.cons Z .nil,?_⟩),rfl,⟨_,x,y,I.fresh,rfl,rfl,λxs' ys' h1 n=>by rw[eC.inj I h1 hq,eC.inj I n l];exact⟨hx,hy⟩⟩,⟨z2,?_,⟨u,v,?_⟩,?_,?_⟩,λc hc=>?_⟩
  ·simp only[mem_cons,not_mem_nil,or_false,not_or] at hc;exact G c o hc.1 hc.2.2.1 hc.2.2.2.1 hc.2.2.2.2 q
  ·exact⟨_,(N.2 _<|Ve lz).trans new,rfl,_,rfl⟩
  ·exact G _ _ D.TIz hTT D.TIi1 D.TIi2 B
  ·exact(N.2 _ D.TOz).trans R
  ·exact r1.at λo q=>(N.2 _ D.i1z).trans q
  ·exact r2.at λo q=>(N.2 _ D.i2z).trans q
  ·obtain⟨o,e,_⟩:=ob c hc;rw[aB (j6<|lt_size e)];exact(C c hc).1
 done:=by
  intro X hP hw hK hc i O s σ H E I C m Y;subst hP hw hK;obtain⟨xs,ys,hq,l,hx⟩:=Y;obtain⟨r,W,p⟩:=eC.ar I hq;obtain⟨f,A,U⟩:=eC.ar I l;have hl:=W.length;have hl2:=A.length;have D:=m.apart I hTT hii hq l C;obtain⟨t,B,⟨c,d,M⟩,Q,J⟩:=m;have L:s.TypeIs (.ref z) "zip":=⟨_,t,rfl⟩;have S:∀ x y,r.toArray[i]?=some x->f.toArray[i]?=some y->False:=λx y h1 n=>by
   have h1:=(Fk.mp h1).1;have n:=(Fk.mp n).1
   simp at h1 n
   omega
  unfold pyNext;refine b7 (wpAny_attempt (S4 (name:=Str.ofString "__next__") L F.slot_zip_next (U3 F.slot_zip_next L F.entry_zip_next
   (R9 (by simpa using I.ok.hd hc) D t B M Q J p U (λx y _ h1 n _ _ _ _ _ _=>(S x y h1 n).elim) λh' e _ k he=>?_) (F.args_zip_next_1 _))))
  obtain⟨o,g,ce⟩:=he;refine b7<|wpAny_isInstance (T:="StopIteration") (b:=true) ⟨o,g,ce⟩ isSubtype_stop<|ey ⟨rfl,I.JR (t':=s.toks) (ch:=[z,TI,TO,i1,i2]) (λc o hc q=>?_) C⟩;simp only[mem_cons,not_mem_nil,or_false,not_or] at hc;exact k c o hc.1 hc.2.2.1 hc.2.2.2.1 hc.2.2.2.2 q
 self:=λ_ _ _ _ _ m h=>wpAny_pyIter_zip m.zz h
end L2
namespace L2
open PySem PySem.Spec PyProof.Rows
def Uw (j k:Bool)(K:Frag)(ta:TA):TI:=λσ H R=>ta σ H λc H1=>∃ a b,c=[.ref a,.ref b]/\(∃ xs,eC j K H1 a xs)/\(∃ ys,eC k K H1 b ys)/\R (PD j k K a b) H1
variable {X:Cx}{N W G:List Str}{K:Frag}{e f:Expr}{t:TA}{p pos tpos:Pos}{elts:List Expr}{x1:Nat}
def S3 (j k:Bool)(S:Sc X N W G)(g:Nat)(hm:X.mg "zip"=none)(hK:X.K=K)(ha:QB X [e,f] t)(hg:G[g]?=some "zip":=by rfl):QI X (.Tuple elts x1 tpos) (.Call (.Name "zip" p) [e,f] [] pos) (Uw j k K t):=by
 subst hK;refine⟨λi s σ H R I h=>?_⟩;have ha:=ha.h;have q:=S.gl _<|fO hg;have x:EL f=true:=by have:=ha.xS;rw[all_cons,ef] at this;exact this.1
 refine Call_ (jB I q.1 hm boot_zip (I0 (bU (ha.pa pos i s σ H _ I h) λus o ⟨U,H1,d,F,A⟩=>?_) (by rw[bb ha.he,bb x]) (by rw[bb x];rfl)))
 obtain⟨a,b,rfl,⟨Y,hq⟩,⟨ys,m⟩,q⟩:=A;obtain⟨u,v,rfl,J,B⟩:=F.two
 cases J
 cases B
 obtain⟨E,Z,M⟩:=eC.ar d hq;obtain⟨w,O,r⟩:=eC.ar d m;refine CU M r λT y P D Q C L=>wpAny_pyIter_zip y ?_;generalize hn:o.heap.objs.size=n at *;refine⟨n+4,[n+4,n+2,n+3,n,n+1],_,_,H1,rfl,d.kept (t':=o.toks) L,CV _ _ _ _ _ a b (λz=>by have z:n+2=n+3:=z;omega) (λz=>by have z:n=n+1:=z;omega),⟨y,P,⟨_,_,D⟩,Q,C⟩,λc hc=>?_,q⟩
 have l:o.heap.objs.size<=c:=by
  simp only[mem_cons,not_mem_nil,or_false] at hc;rw[hn]
  rcases hc with rfl | rfl | rfl | rfl | rfl
  all_goals first | exact ea _ | exact Nat.le_add_right _ _
 exact d.xV l<|d.aY.fresh l
variable {ta:TA}{R:It->Hp->Prop}
def MG {j k:Bool}{σ:St}{H:Hp} :Uw j k K ta σ H R=ta σ H λvs H1=>∃ a b,vs=[.ref a,.ref b]/\(∃ xs,eC j K H1 a xs)/\(∃ ys,eC k K H1 b ys)/\R (PD j k K a b) H1:=rfl
def eC.mono {k:Bool}{H H':Hp}{l:Addr}{ys:List V}(h:eC k K H l ys)(s:ag H H'):eC k K H' l ys:=by
 cases k
 ·exact s.aT h
 ·exact s.seq h
variable {j k:Bool}{a b:Addr}{te:TE}{Q:VK}{H1:Hp}{vs us:List V}{rest:St}
def Sd (n:Nat)(val:Nat->V)(h:eC j K H1 a us)(h':eC k K H1 b vs)(hu:n<=us.length)(hv:n<=vs.length)(hl:us.length<=n∨vs.length<=n)(hn:n<sizeLine)
  (step:∀ i H (A:V->Hp->Prop),i<n->ag H1 H->(∀ H',ag H H'->A (val i) H')->te (some (us.getD i .bx)::some (vs.getD i .bx)::rest) H A)
  (fin:∀ acc H,H1 acc=none->ag H1 H->H acc=some (.lst<|(List.range n).map val)->Q (.ref acc) H) :
  ∃ c d,[V.ref a,V.ref b]=[.ref c,.ref d]/\(∃ xs,eC j K H1 c xs)/\(∃ ys,eC k K H1 d ys)/\vC (pW K 2<|dJ (bN 0)<|dJ (bN 1) pV) il te (none::none::rest) Q (PD j k K c d) H1:=by
 refine⟨a,b,rfl,⟨_,h⟩,⟨_,h'⟩,λacc f=>?_⟩;refine⟨λi m τ H=>m=n - i/\i<=n/\(∃ y z,τ=y::z::rest)/\ag H1 H/\H acc=some (.lst<|(List.range i).map val),⟨n,by simp,zero_le _,⟨_,_,rfl⟩,ag.new f _,af⟩,?_⟩
 rintro i m τ H ⟨rfl,P,⟨y,z,rfl⟩,o,L⟩;have s:=h.mono o;have t:=h'.mono o
 by_cases g:i<n
 ·have J:∀ q:List V,n<=q.length->q[i]?=some (q.getD i .bx):=λq hw=>by
   rw[b3,b4<|gg g hw];rfl
  have G:=J us hu;have I:=J vs hv;refine .inr ⟨⟨_,_,_,_,s,t,G,I⟩,λF H'=>(∃ y z,F=y::z::rest)/\ag H1 H'/\H' acc=some (.lst<|(List.range<|i+1).map val),λF H' ⟨u,v,w⟩=>⟨n - (i+1),by omega,rfl,g,u,v,w⟩,λx H' y=>?_⟩
  obtain⟨p,O,N,M,rfl,rfl,E⟩:=y;obtain⟨D,C⟩:=E _ _ s t;have D:O=us.getD i .bx:=tx<|D.symm.trans G;have C:N=vs.getD i .bx:=tx<|C.symm.trans I;subst D C;have r:=ag.new M<|.tup [us.getD i .bx,vs.getD i .bx];refine⟨p,_,rfl,aN.of af,rfl,_,_,rfl,_,_,rfl,rfl,?_⟩;simp only[iq,Cc,mr,set_cons_zero,set_cons_succ];refine step i _ _ g (o.trans r) λR l=>?_;have B:=l _ _<|r _ _ L;refine⟨_,B,?_,⟨_,_,rfl⟩,((o.trans r).trans l).set f _,?_⟩
  ·rw[b5,pS];omega
  ·rw[af,Me,eH];rfl
 ·have e:i=n:=by omega
  subst e;exact .inl ⟨⟨_,_,s,t,hl⟩,fin acc H f o L⟩
def Se (val:Nat->V)(h:eC j K H1 a us)(h':eC k K H1 b vs)(hl:us.length=vs.length)(hn:us.length<sizeLine)
  (step:∀ i H (A:V->Hp->Prop),i<us.length->ag H1 H->(∀ H',ag H H'->A (val i) H')->te (some (us.getD i .bx)::some (vs.getD i .bx)::rest) H A)
  (fin:∀ acc H,H1 acc=none->ag H1 H->H acc=some (.lst<|(List.range us.length).map val)->Q (.ref acc) H) :
  ∃ c d,[V.ref a,V.ref b]=[.ref c,.ref d]/\(∃ xs,eC j K H1 c xs)/\(∃ ys,eC k K H1 d ys)/\vC (pW K 2<|dJ (bN 0)<|dJ (bN 1) pV) il te (none::none::rest) Q (PD j k K c d) H1:=
 Sd us.length val h h' (ea _) (Nat.le_of_eq hl) (.inl<|ea _) hn step fin
variable {ns:List Int}
def Sf {ms:List Int}(n:Nat)(val:Nat->V)(h:aN K H1 a (ns.map V.int))(h':aN K H1 b (ms.map V.int))(hu:n<=ns.length)(hv:n<=ms.length)(hl:ns.length<=n∨ms.length<=n)(hn:n<sizeLine)
  (step:∀ i H (A:V->Hp->Prop),i<n->ag H1 H->(∀ H',ag H H'->A (val i) H')->te (some (.int<|ns.getD i 0)::some (.int<|ms.getD i 0)::rest) H A)
  (fin:∀ acc H,H1 acc=none->ag H1 H->H acc=some (.lst<|(List.range n).map val)->Q (.ref acc) H) :
  ∃ c d,[V.ref a,V.ref b]=[.ref c,.ref d]/\(∃ xs,eC false K H1 c xs)/\(∃ ys,eC false K H1 d ys)/\vC (pW K 2<|dJ (bN 0)<|dJ (bN 1) pV) il te (none::none::rest) Q (PD false false K c d) H1:=by
 have g:∀ (e:List Int) i,i<e.length->(e.map V.int).getD i .bx=.int (e.getD i 0):=λe i f=>by
  rw[b3,b3,et,b4 f];rfl
 refine Sd (j:=false) (k:=false) n val h h' (by rw[b5];exact hu) (by rw[b5];exact hv) (by rw[b5,b5];exact hl) hn (λi H A f l q=>?_) fin
 rw[g ns i (by omega),g ms i (by omega)]
 exact step i H A f l q
def CW (k:Bool)(K:Frag)(a:Addr):It:=
 ⟨λi H=>∃ xs x,eC k K H a xs/\xs[i]?=some x,λi H x b=>∃ p v,H p=none/\x=.ref p/\b=upd H p (.tup [.int i,v])/\∀ xs,eC k K H a xs->xs[i]?=some v,λi H=>∃ xs,eC k K H a xs/\xs.length=i⟩
def OP {k:Bool}{prog:Program}{w:World}{A:Around}(hA:A.handled=none)(it p:Addr)(hne:p≠it)(vs:Array Value):Draws prog w A it [it,p] vs.size (λi v=>vs[i]?=some v) (λi h=>qo k h it p i/\uq k h p vs):=by
 cases k
 ·exact Od hA it p hne vs
 ·exact Draws.list hA it p hne vs
def Hd {k:Bool}{P:Program}{w:World}{pos:Pos}(a e it:Addr)(hei:e≠it):Turn P w K (.Tuple elts x1 pos) (CW k K a) [e,it] e (λi h=>(∃ old,IsEnum h e it i old)/\qo k h it a i) where
 mem:=by simp
 obj:=λi h f b hb=>by
  obtain⟨⟨old,he⟩,t⟩:=f;obtain⟨o,_,eo,_,_,_,_,d⟩:=t.ob
  rcases gd.mp hb with rfl | hb
  ·exact⟨_,he,λv z=>by cases z⟩
  ·rw[dt.mp hb];exact⟨o,eo,λv z=>by rw[d] at z;cases z⟩
 keep:=λi h U f k=>by
  obtain⟨⟨old,he⟩,f⟩:=f;exact⟨⟨old,k e (by simp) _ he⟩,f.at λo q=>k it (by simp) o q⟩
 item:=by
  intro X O hw N hc i y s σ H E I l f M;subst O hw N;obtain⟨Z,x,hq,hx⟩:=M;obtain⟨g,L,p⟩:=eC.ar I hq;obtain⟨u,hu,ru⟩:=L.get hx;obtain⟨⟨old,he⟩,A⟩:=f;have G:=fX I hq (l e (by simp))
  have D:i<g.toArray.size:=by
   rw[gc];exact(ka.mp hu).1
  refine wpAny_pyNext_enum_itemD (OP (by simpa using I.ok.hd hc) it a (fX I hq (l it (by simp))) g.toArray) he ⟨A,p⟩ D hei (by simp only[mem_cons,not_mem_nil,or_false,not_or];exact⟨hei,Ne.symm G⟩) λv h1 tk hv ho Q W Y hk=>?_
  refine⟨_,rfl,wpAny_letOwnedTupleGo_enum ho λh2 C j=>?_⟩;have n:e<s.heap.objs.size:=lt_size he;have ev:v=u:=by
   have r:g[i]?=some v:=by simpa using hv
   rw[hu] at r;cases r;rfl
  subst ev;refine⟨.ref s.heap.objs.size,upd H s.heap.objs.size<|.tup [.int i,x],I.rD (ch:=[e,it]) (λb o hb q=>?_) l (ea _) (show bB X.prog X.w _ h2 _ (.tup _) from ⟨by show 2<=sizeLine;decide,[.int i tk,v],.cons ⟨_,rfl⟩<|.cons ru .nil,?_⟩),rfl,⟨_,x,I.fresh,rfl,rfl,λys hy=>by rw[eC.inj I hy hq];exact hx⟩,⟨⟨v,?_⟩,?_⟩,λb hb=>?_⟩
  ·simp only[mem_cons,not_mem_nil,or_false,not_or] at hb;exact(j.2 b hb.1).trans (hk b o hb.1 hb.2 q)
  ·exact⟨_,(j.2 _<|Ve n).trans W,rfl,_,rfl⟩
  ·exact C
  ·exact Q.1.at λo q=>(j.2 it<|Ne.symm hei).trans q
  ·rw[aB (λz=>?_)]
   ·exact(l b hb).1
   ·obtain⟨_,_,J,_⟩:=A.ob
    rcases gd.mp hb with rfl | hb
    ·exact absurd z<|j6 n
    ·rw[dt.mp hb] at z;exact absurd z (j6<|lt_size J)
 done:=by
  intro X O hw N hc i y s σ H E I l f M;subst O hw N;obtain⟨Z,hq,hx⟩:=M;obtain⟨g,L,p⟩:=eC.ar I hq;obtain⟨⟨old,he⟩,A⟩:=f;have hl:=L.length;have R:s.TypeIs (.ref e) "enumerate":=⟨_,he,rfl⟩;unfold pyNext;refine b7<|wpAny_attempt<|S4 (name:=Str.ofString "__next__") R F.slot_enumerate_next<|U3 F.slot_enumerate_next R F.entry_enumerate_next ?_ (F.args_enumerate_next_1 _);refine b7 (m:=field (.ref e) 2) (L4 he rfl (x:=.ref it) rfl (b7 (T5 (by simpa using I.ok.hd hc) A p (by simp;omega) λU x eb B=>?_)))
  obtain⟨o,q,c⟩:=B;refine b7<|wpAny_isInstance (T:="StopIteration") (b:=true) ⟨o,q,c⟩ isSubtype_stop ?_;obtain⟨f0,f1,f2,S,f4,f5⟩:=l it (by simp)
  exact ey ⟨rfl,I.turned (t':=s.toks) (λb o hb z=>eb b o hb z) f0 f1 S f4 f5⟩
 self:=λ_ _ _ _ _ f h=>by
  obtain⟨⟨old,he⟩,_⟩:=f;exact wpAny_pyIter_enum he h
def OQ (k:Bool)(K:Frag)(ta:TA):TI:=λσ H R=>ta σ H λb H1=>∃ a,b=[.ref a]/\(∃ xs,eC k K H1 a xs)/\R (CW k K a) H1
def OR (S:Sc X N W G)(g:Nat)(hm:X.mg "enumerate"=none)(hK:X.K=K)(ha:PB X [e] t)(hg:G[g]?=some "enumerate":=by rfl):PI X (.Tuple elts x1 tpos) (.Call (.Name "enumerate" p) [e] [] pos) (OQ k K t):=by
 subst hK;intro f s σ H R I h;have q:=S.gl _<|fO hg;refine Call_<|jB I q.1 hm boot_enumerate<|I0 (bU (ha.pa pos f s σ H _ I h) λB c ⟨C,H1,n,x,y⟩=>?_) (bb ha.he) rfl;obtain⟨a,rfl,⟨D,hq⟩,q⟩:=y;obtain⟨u,rfl,z⟩:=vals1 x
 cases z
 obtain⟨v,E,r⟩:=eC.ar n hq;have go:∀ d,IsEnum d (c.heap.objs.size+1) c.heap.objs.size 0 .none->qo k d c.heap.objs.size a 0->(∀ b o,c.heap.get? b=some o->d.get? b=some o)->wpAny (model X.prog X.w) X.A (pyIter<|.ref<|c.heap.objs.size+1) (Tb X f σ (.Tuple elts x1 tpos) R) X.xe {c with heap:=d}:=λd i m j=>by
  refine wpAny_pyIter_enum i ?_;refine⟨c.heap.objs.size+1,[c.heap.objs.size+1,c.heap.objs.size],_,_,H1,rfl,n.kept (t':=c.toks) j,Hd a _ _<|Nat.succ_ne_self _,⟨⟨_,i⟩,m⟩,λb hb=>?_,q⟩;have l:c.heap.objs.size<=b:=by
   rcases gd.mp hb with rfl | hb
   ·exact le_succ _
   ·rw[dt.mp hb];exact ea _
  exact n.xV l<|n.aY.fresh l
 cases k
 ·exact yB r λd i m j=>go d i m j
 ·exact call_enumerate_list r λd i m _ j=>go d i m j
def CY (k:Bool)(S:Sc X N W G)(g:Nat)(hm:X.mg "enumerate"=none)(hK:X.K=K)(ha:QB X [e] t)(hg:G[g]?=some "enumerate":=by rfl):QI X (.Tuple elts x1 tpos) (.Call (.Name "enumerate" p) [e] [] pos) (OQ k K t):=⟨OR S g hm hK ha.h hg⟩
def He {σ:St}{H:Hp} :OQ k K ta σ H R=ta σ H λvs H1=>∃ a,vs=[.ref a]/\(∃ xs,eC k K H1 a xs)/\R (CW k K a) H1:=rfl
variable {j:Nat}{tb:TS}
def Hf (k:Bool){i:Nat}{D:Ends}{σ:St}{H:Hp}(I:Nat->St->Hp->Prop)(h:eC k K H a us)(h0:I 0 σ H)(hl:∀ i σ H,I i σ H->eC k K H a us)
  (step:∀ k v σ H H2,us[k]?=some v->I k σ H->ag H H2->tb {D with nx:=I<|k+1,ct:=I<|k+1,bk:=D.nx} ((σ.set i<|some<|.int k).set j<|some v) H2)
  (fin:∀ σ H,I us.length σ H->D.nx σ H):∃ b,[V.ref a]=[.ref b]/\(∃ xs,eC k K H b xs)/\p9 (pW K 2<|dJ (bN i)<|dJ (bN j) pV) tb D σ (CW k K b) H:=by
 refine⟨a,rfl,⟨_,h⟩,λk m σ H=>m=us.length - k/\k<=us.length/\I k σ H,⟨us.length,by simp,zero_le _,h0⟩,?_⟩
 rintro k m σ H ⟨rfl,hk,p⟩;have q:=hl k σ H p
 by_cases c:k<us.length
 ·obtain⟨v,hx⟩:∃ v,us[k]?=some v:=⟨_,b4 c⟩;refine .inr ⟨⟨_,_,q,hx⟩,I<|k+1,λl f d=>⟨us.length - (k+1),by omega,rfl,c,d⟩,λx f y=>?_⟩
  obtain⟨t,n,hn,rfl,rfl,g⟩:=y
  have:=g _ q
  rw[hx] at this;cases this
  refine⟨t,[.int k,v],rfl,aN.of af,rfl,?_⟩;exact⟨_,_,rfl,_,_,rfl,rfl,step k v σ H _ hx p<|ag.new hn _⟩
 ·have e:k=us.length:=by omega
  subst e;exact .inl ⟨⟨_,q,rfl⟩,fin σ H p⟩
def MH {i:Nat}{D:Ends}{σ:St}{H:Hp}(I:Nat->St->Hp->Prop)(h:aN K H a (ns.map V.int))(h0:I 0 σ H)(hl:∀ i σ H,I i σ H->aN K H a (ns.map V.int))
  (step:∀ k σ H H2,k<ns.length->I k σ H->ag H H2->tb {D with nx:=I<|k+1,ct:=I<|k+1,bk:=D.nx} ((σ.set i<|some<|.int k).set j<|some<|.int<|ns.getD k 0) H2)
  (fin:∀ σ H,I ns.length σ H->D.nx σ H):∃ b,[V.ref a]=[.ref b]/\(∃ xs,eC false K H b xs)/\p9 (pW K 2<|dJ (bN i)<|dJ (bN j) pV) tb D σ (CW false K b) H:=
 Hf false I h h0 hl (λk v σ H H2 e p s=>by
  rw[et] at e;have hk:k<ns.length:=Nat.lt_of_not_le λz=>by rw[ot z] at e;cases e
  have:=step k σ H H2 hk p s
  rw[b3] at this;rw[b4 hk] at e this
  cases e;exact this) (λσ H p=>fin σ H (by rw[b5] at p;exact p))
def Sg {tc:TT}{rest:St}(keep:Nat->Bool)(val:Nat->Int)(h:aN K H1 a (ns.map V.int))(hn:ns.length<sizeLine)
  (step:∀ i H (A:V->Hp->Prop) (B:Hp->Prop),i<ns.length->ag H1 H->(keep i=true->∀ H',ag H H'->A (.int<|val i) H')->(keep i=false->∀ H',ag H H'->B H')->
   tc (some (.int (i:Int))::some (.int<|ns.getD i 0)::rest) H λb H3=>if b=true then te (some (.int (i:Int))::some (.int<|ns.getD i 0)::rest) H3 A else B H3)
  (fin:∀ acc H,H1 acc=none->ag H1 H->H acc=some (.lst<|(((List.range ns.length).filter keep).map val).map V.int)->Q (.ref acc) H) :
  ∃ b,[V.ref a]=[.ref b]/\(∃ xs,eC false K H1 b xs)/\vC (pW K 2<|dJ (bN 0)<|dJ (bN 1) pV) tc te (none::none::rest) Q (CW false K b) H1:=by
 refine⟨a,rfl,⟨_,h⟩,λacc c=>?_⟩;refine⟨λi m τ H=>m=ns.length - i/\i<=ns.length/\(∃ y z,τ=y::z::rest)/\ag H1 H/\H acc=some (.lst<|(((List.range i).filter keep).map val).map V.int),⟨ns.length,by simp,zero_le _,⟨_,_,rfl⟩,ag.new c _,af⟩,?_⟩
 rintro i m τ H ⟨rfl,D,⟨y,z,rfl⟩,j,n⟩;have o:=j.aT h
 by_cases f:i<ns.length
 ·have hx:(ns.map V.int)[i]?=some (.int<|ns.getD i 0):=by
   rw[et,b4 f,b3,b4 f];rfl
  refine .inr ⟨⟨_,_,o,hx⟩,λr H'=>(∃ y z,r=y::z::rest)/\ag H1 H'/\H' acc=some (.lst<|(((List.range<|i+1).filter keep).map val).map V.int),λr H' ⟨u,v,w⟩=>⟨ns.length - (i+1),by omega,rfl,f,u,v,w⟩,λx H' y=>?_⟩
  obtain⟨t,v,l,rfl,rfl,s⟩:=y
  have:=s _ o
  rw[hx] at this;cases this
  have g:=ag.new l<|.tup [.int (i:Int),.int<|ns.getD i 0];refine⟨t,_,rfl,aN.of af,rfl,_,_,rfl,_,_,rfl,rfl,?_⟩;simp only[set_cons_zero,set_cons_succ];have q:(((List.range i).filter keep).map val).length<=i:=by
   have:=zO keep<|List.range i
   rw[pS] at this;rw[b5];exact this
  refine step i _ _ _ f (j.trans g) (λhk C d=>?_) λhk C d=>?_
  ·have p:=d _ _<|g _ _ n;refine⟨_,p,?_,⟨_,_,rfl⟩,((j.trans g).trans d).set c _,?_⟩
   ·rw[b5];omega
   ·rw[af,Me,G4,eH,eH]
    simp[hk]
  ·refine⟨⟨_,_,rfl⟩,(j.trans g).trans d,?_⟩;rw[d _ _ (g _ _ n),Me,G4,eH,eH]
   simp[hk]
 ·have e:i=ns.length:=by omega
  subst e;exact .inl ⟨⟨_,o,by rw[b5]⟩,fin acc H c j n⟩
theorem mE:∀ {vs:List Value} {ns:List Str},Vals (ns.map V.str) vs->∀ i,i<ns.length->∃ u,vs[i]?=some (.str (ns.getD i aE) u)
 | _,[],.nil,i,h=>absurd h<|SF i
 | _,_::_,.cons ⟨t,rfl⟩ _,0,_=>⟨t,rfl⟩
 | _,_::_,.cons ⟨t,rfl⟩ r,i+1,h=>by
  obtain⟨u,e⟩:=mE r i (by simpa using h)
  exact⟨u,by simpa using e⟩
variable {prog:Program}{w:World}{A:Around}{E:Value->Shared->Prop}{s:Shared}{p:Addr}{ns:List Str}
def kL {vs:List Value}{k:Str}{t:Tok}{Q:Value->Shared->Prop}(hp:s.heap.IsTuple p vs.toArray)(hi:Vals (ns.map V.str) vs)(hk:k∈ns)(q:∀ tk,Q (.int (ns.idxOf k:Nat) tk) {s with toks:=s.toks+1}) :
  wpAny (model prog w) A (call (.builtin "tuple.index") [.ref p,.str k t]) Q E s:=by
 obtain⟨o,v,B,n,r⟩:=id hp;refine U3 slot_tuple_index hp.typeIs F.entry_tuple_index ?_ (F.args_tuple_index_2 _ _);unfold Builtin.«tuple.index»;refine b7 (wpAny_of_eq (a:=(Value.ref p,[Value.str k t])) rfl ?_)
 dsimp only
 have b:=hi.length;rw[b5] at b;have d:ns.idxOf k<ns.length:=kc.mpr hk;have bY:=mE hi;unfold Builtin.Tuple.tupleItemsOf;refine b7<|b7<|U8 v r<|ey<|b7<|ey<|b7<|ey<|b7 ?_;rw[Std.Legacy.Range.forIn_eq_forIn_range'];have c:∀ (m i:Nat) (R:Option Fin × Unit->Shared->Prop),i+m=vs.length->i<=ns.idxOf k->R (some<|.done<|.ret<|.int (ns.idxOf k:Nat) s.toks,()) {s with toks:=s.toks+1}->
   wpAny (model prog w) A.in1 (forIn (List.range' i m) ((none,()):Option Fin × Unit) λ(i:Nat) __s=>
    match vs.toArray[i]? with
    | some y=>do
     let __do_lift<-eqBool y (Value.str k t)
     if __do_lift=true then do
       let __do_lift<-retInt ((i:Nat):Int)
       pure (ForInStep.done (some __do_lift,()))
      else pure (ForInStep.yield (none,()))
    | x=>pure<|ForInStep.yield (none,())) R E s:=by
  intro m
  induction m with
  | zero=>intro i R h1 z _;omega
  | succ m l=>
   intro i R h1 z j;obtain⟨u,hu⟩:=bY i (by omega)
   rw[List.range'_succ,forIn_cons];have g:vs.toArray[i]?=some (.str (ns.getD i aE) u):=by simpa using hu
   simp only[g];refine b7<|b7<|wpAny_eqBool_str ?_
   by_cases e:i=ns.idxOf k
   ·have h:decide (ns.getD i aE=k)=true:=by
     rw[e,b3,b4 d];show decide (ns[ns.idxOf k]=k)=true;rw[U1 d];exact cc rfl
    rw[h,if_pos rfl];unfold retInt;refine b7<|b7<|wpAny_mkInt<|ey<|ey<|ey ?_;rw[e];exact j
   ·have h:decide (ns.getD i aE=k)=false:=by
     rw[b3,b4 (by omega)]
     show decide (ns[i]=k)=false
     have:=A3 (show i<ns.idxOf k by omega) (by omega)
     exact dy (by simpa using this)
    rw[h,if_neg ad]
    exact ey (l (i+1) R (by omega) (by omega) j)
 have f:(([: min vs.toArray.size vs.toArray.size]:Std.Legacy.Range)).size=vs.length:=by simp[Std.Legacy.Range.size]
 rw[f];exact c vs.length 0 _ (by omega) (zero_le _)<|ey ⟨_,rfl,q _⟩
def Hg (K:Frag):V->List V->Hp->VK->Prop:=λx a H Q=>∃ (l:Addr) (ns:List Str) (k:Str),x=.ref l/\a=[.str k]/\aN K H l (ns.map V.str)/\k∈ns/\Q (.int (ns.idxOf k:Nat)) H
def zc (hK:X.K=K):xR X "tuple.index" (Hg K):=by
 subst hK;intro a s σ H x n v j Q I d e h;obtain⟨l,m,k,rfl,rfl,g,hk,q⟩:=h
 cases d
 obtain⟨u,rfl,c⟩:=e.one;obtain⟨t,rfl⟩:=c;obtain⟨b,r,f,hz⟩:=I.tuple g;exact kL (show s.heap.IsTuple l b.toArray from f) r hk (Q:=EP X a σ Q) λi=>⟨.int _,H,I.tok _,⟨_,rfl⟩,q⟩
def Hh:List V->Hp->VK->Prop:=λb H Q=>∃ a kvs,b=[.ref a]/\H a=some (.dK kvs)/\∀ l o,H l=none->o.cls=.type "tuple"->o.dict=none->Q (.ref l) (upd H l<|.iF o<|.tup<|kvs.map λp=>kV p.1)
def zd (hc:X.calm=true):bO X (.type "tuple") Hh:=by
 intro d s σ H C A Q I r h;obtain⟨a,i,rfl,e,q⟩:=h;obtain⟨u,rfl,v⟩:=vals1 r
 cases v
 obtain⟨z,t,B,g,m⟩:=Lw I.aY e;obtain⟨D,m⟩:=Cy m;refine mJ t (I.ok.hd hc) m (by rw[<-g.length];exact z) λl j c hk f=>?_
 have n:Inv X d σ H {s with heap:=l,toks:=j}:=I.kept (t':=j) hk;have x:Vals (i.map λp=>kV p.1) c.toList:=Cz g f;have y:Inv X d σ (upd H l.objs.size<|.iF {cls:=.type "tuple",data:=.seq c}<|.tup<|i.map λp=>kV p.1) {s with heap:=l.push {cls:=.type "tuple",data:=.seq c},toks:=j}:=
  n.laid (t':=j) (λb o e=>c8 _ e) (ea _) (show bB X.prog X.w _ _ _ (.iF _<|.tup _) from ⟨hO _ rfl,by rw[b5];exact z,c.toList,x,IsTup.new _ _⟩)
 exact⟨.ref l.objs.size,_,y,rfl,q _ _ (n.aY.fresh<|ea _) rfl rfl⟩
def Io (K:Frag)(H:Hp)(t:Addr)(b:Bk):Prop:=∃ a1 a2 a3,aN K H t [.ref a1,.ref a2,.ref a3]/\aN K H a1 (b.ns.map V.str)/\vX K H a1/\aN K H a2 ((aK b.cs).map V.int)/\aN K H a3 ((aK b.ws).map V.int)
variable {H H':Hp}{t:Addr}{b:Bk}
theorem Io.mono (s:ag H H')(h:Io K H t b):Io K H' t b:=by
 obtain⟨c,g,e,a,h1,d,f,i⟩:=h;exact⟨c,g,e,s.aT a,s.aT h1,d.mono s,s.aT f,s.aT i⟩
variable {C dx:Addr}{fs:List (Str × V)}
theorem Io.eX (s:Off a H H')(ha:H a=some (.ins C dx fs))(h:Io K H t b):Io K H' t b:=by
 obtain⟨d,i,f,c,h1,e,g,j⟩:=h;exact⟨d,i,f,c.eX s ha,h1.eX s ha,e.eX s ha,g.eX s ha,j.eX s ha⟩
variable {d:Addr}
def CZ (h:DN H d ns)(q:∀ l o,H l=none->o.cls=.type "tuple"->o.dict=none->Q (.ref l) (upd H l<|.iF o<|.tup<|ns.map V.str)):Hh [.ref d] H Q:=⟨d,_,rfl,h,by rw[wj];exact q⟩
def wK (K:Frag):Sp:=λa H Q _=>∃ (t:Addr) (ns:List Str) (cs ws:List Nat),a=[.ref t]/\Io K H t ⟨ns,cs,ws⟩/\mB ns cs ws/\∀ H',ag H H'->Q (.str<|oK<|(cf ns ws).map<|jf ns cs) H'
def KU (b h:Addr):List (Str × V):=[("book",.ref b),("hall",.ref h)]
def wL (b:Addr):List (Str × V):=[("book",.ref b)]
variable {b:Addr}
def KW:eg "book" (.ref b) []=wL b:=rfl
variable {h:Addr}
def KY:eg "hall" (.ref h) (wL b)=KU b h:=by
 unfold wL eg;rw[if_neg ad];rfl
def wM:(wL b).lookup ("book":Str)=some (.ref b):=rfl
def Bo:(KU b h).lookup ("book":Str)=some (.ref b):=rfl
def ur:(KU b h).lookup ("hall":Str)=some (.ref h):=by
 unfold KU;rw[Sh,show (("hall":Str) == ("book":Str))=false from by decide];rfl
def Hi {m:Str}(h1:(m == ("book":Str))=false:=by decide)(h2:(m == ("hall":Str))=false:=by decide):(KU b h).lookup m=none:=by
 unfold KU;rw[Sh,h1];dsimp only;rw[Sh,h2];rfl
structure jN (K:Frag)(cH cD:Addr)(H:Hp)(d hl:Addr)(ns:List Str)(cs ws:List Nat)(L:B0L)(hs:List Int):Prop where
 ex:∃ dx b,H d=some (.ins cD dx<|KU b hl)/\Io K H b ⟨ns,cs,ws⟩
 dI:∃ c g us,ft K cH H hl c g (aK cs) us hs/\GF K H us L
structure eL (ns:List Str)(cs ws:List Nat)(L:B0L)(hs:List Int):Prop where
 Ip:mB ns cs ws
 best:lL (aK cs) ws (2 ^ (aK cs).length - 1) ((L.map<|AR<|aK cs).sum,L)
 qv:HN (aK cs) hs (aK cs).length
def ft.T7 {C' c g x:Addr}{cs hs:List Int}{fs:List (Str × V)}(h:ft K C H a c g cs us hs)(s:Off x H H')(hx:H x=some (.ins C' dx fs))(ne:a≠x):ft K C H' a c g cs us hs:=by
 obtain⟨d,n,h1,b⟩:=h.ex;exact⟨⟨d,n,s _ _ ne h1,b.eX s hx⟩,h.Ud.eX s hx,h.Ug.eX s hx⟩
variable {cH cD hl:Addr}{cs ws:List Nat}{L:B0L}{hs:List Int}
theorem jN.mono (h:jN K cH cD H d hl ns cs ws L hs)(s:ag H H'):jN K cH cD H' d hl ns cs ws L hs:=by
 obtain⟨⟨a,b,h1,f⟩,c,g,e,i,j⟩:=h;exact⟨⟨a,b,s _ _ h1,f.mono s⟩,c,g,e,i.mono s,j.mono s⟩
def pf (i:Int):Str:=Str.ofString<|toString i
def jO (ns:List Str)(l:List Nat):Str:=Str.join ⟨#[32]⟩<|l.map λi=>ns.getD i aE
def iK (ns:List Str)(l:List Nat):List Str:=if l=[] then [] else [jO ns l]
inductive TK where
 | sure | share | groups | ring | order | book
def ze:TK->Str
 | .sure=>"sure"
 | .share=>"share"
 | .groups=>"groups"
 | .ring=>"ring"
 | .order=>"order"
 | .book=>"book"
inductive AK where
 | told (k:TK)
 | right
 | hV (i:Nat)
 | put (i c:Nat)
def mP (ns:List Str):AK->List Str
 | .told k=>[ze k]
 | .right=>["right"]
 | .hV i=>["guess",ns.getD i aE]
 | .put i c=>["put",ns.getD i aE,fk c]
def Hj (ns:List Str):AK->Prop
 | .told _=>True
 | .right=>True
 | .hV i=>i<ns.length
 | .put i c=>i<ns.length/\c<10 ^ 30
def r9 (p z:Str):Bool:=if p="name" then br z else decide (z="0")||bX z
def Hk:Sp:=λa H Q _=>∃ p z:Str,a=[.str p,.str z]/\z.length<=1000000/\∀ H',ag H H'->Q (.bl<|r9 p z) H'
def Bp (K:Frag)(e:Nat->Addr):Sp:=λa H Q _=>∃ (p x:Addr) (w0:Str) (f b:List Str),a=[.ref p]/\au K H p ((w0::b).map V.str)/\cP (pe e) (.inr w0)=some (.ref x)/\aN K H x (f.map V.str)/\b.length=f.length/\b.length<=8/\(∀ z∈b,z.length<=1000000)/\(∀ k,k<f.length->r9 (f.getD k aE) (b.getD k aE)=true)/\(∀ H':Hp,aN K H' x<|f.map V.str)/\∀ H',ag H H'->Q (.bl true) H'
def Si (K:Frag)(er:Str->Addr):Sp:=λa H Q E=>∃ (p:Addr) (ns:List Str) (z:Str),a=[.ref p,.str z]/\aN K H p (ns.map V.str)/\vX K H p/\(z∉ns->∀ H',ag H H'->E (.ref<|er "NoName") none H')/\(z∈ns->∀ H',ag H H'->Q (.int (ns.idxOf z:Nat)) H')
structure nE (ns:List Str)(l:List Nat):Prop where
 nm:∀ x∈ns,x.length<=12
 lt:∀ i∈l,i<ns.length
 fC:l.length<=8
def wN (K:Frag):Sp:=λb H Q _=>∃ (p q:Addr) (ns:List Str) (l:List Nat),b=[.ref p,.ref q]/\aN K H p (ns.map V.str)/\au K H q ((aK l).map V.int)/\nE ns l/\∀ a H',ag H H'->H a=none->H' a=some (.lst<|(iK ns l).map V.str)->Q (.ref a) H'
def wO (K:Frag)(C:Addr):Sp:=λa H Q _=>Ky K C (λ_=>0) a H Q λ_ _ _=>False
def Hl (K:Frag):Sp:=λa H Q _=>Si K (λ_=>0) a H Q λ_ _ _=>False
def mB.len (P:mB ns cs ws):(aK cs).length=ns.length:=by rw[ak,P.lc]
def mB.OS (P:mB ns cs ws):cA (aK cs):=by
 refine⟨λc hc=>?_,by rw[P.len];exact P.nm.fC⟩
 unfold aK at hc;obtain⟨n,hn,rfl⟩:=j9.mp hc;have h:=P.UA n hn;have e:(10:Nat) ^ 30=1000000000000000000000000000000:=by decide
 rw[e] at h;refine⟨?_,?_⟩
 ·show (1:Int)<=((n:Nat):Int)
  omega
 ·show ((n:Nat):Int)<=_
  omega
def mB.Sj (P:mB ns cs ws):iA ws:=by
 refine⟨λi a=>?_,λi a=>?_⟩
 ·rw[P.lw] at a ⊢;exact P.Uc i a
 ·rw[P.lw] at a
  have:=P.MO i a
  unfold fJ;rw[uU,this];rfl
def eL.KZ (D:eL ns cs ws L hs):Cr (aK cs) ws L:=⟨λg a=>(D.best.1.each g a).ok,D.best.1.zF⟩
variable {l:List Nat}
def OT {n:Nat}(nd:l.Nodup)(h:∀ x∈l,x<n):l.length<=n:=cC nd h
def eL.g8 (D:eL ns cs ws L hs):∀ g∈L,g.2.length<=8:=λg a=>by
 have h:=(D.best.1.each g a).ok
 have:=OT h.nd h.lt
 rw[D.Ip.len] at this
 have:=D.Ip.nm.fC
 omega
theorem eL.fC (D:eL ns cs ws L hs):L.length<=8:=by
 have:=D.best.1.len
 rw[D.Ip.len] at this
 have:=D.Ip.nm.fC
 show L.length<=8;have h:((L.map<|AR<|aK cs).sum,L).2.length<=ns.length:=by assumption
 exact fz h this
def K0 (h:l.Pairwise (· < ·)):oz l=true:=by
 unfold oz;refine ih.mpr λk hk=>cc ?_;rw[kf] at hk;rw[b3,b3,b4 (by omega),b4 (by omega)]
 exact List.pairwise_iff_getElem.mp h k (k+1) (by omega) (by omega) (by omega)
variable {m:Nat}
def Hm {cs:List Int}{x:Int × List (Bool × List Nat)}(h:zb cs ws m x):DR cs ws [] 0 (gI x.2)=none:=by
 refine Bf (gone:=[]) (λg a=>?_) h.zF λ_ _ _ _ z=>nomatch z;have G:=h.each g a;exact⟨G.ok,G.ok.lt,G.ok.nd,Do.mpr G.ne,λe=>⟨(G.ok.ring e).1,(G.ok.ring e).2.1⟩,λe=>K0<|G.rise e⟩
def mB.UO (P:mB ns cs ws):∀ x∈ns,x.length<=12:=λx hx=>(dj<|P.nm.nm x hx).2.2
def sf (P:mB ns cs ws):nE ns (dF (aK cs) hs L):=by
 unfold dF;refine⟨P.UO,λi a=>?_,?_⟩
 ·have:=(tp.mp a).1
  rw[kf,P.len] at this;exact this
 ·refine fz (zO _ _) ?_;rw[pS,P.len];exact P.nm.fC
def wQ (n:Nat):cz (pf (n:Int))=(toDigits 10 n).map Char.toNat:=oC n
def Hn {n:Nat}{k:Nat}(h:n<10 ^ k)(hk:0<k):(pf (n:Int)).length<=k:=by
 rw[aw,wQ,b5];exact(Nat.length_toDigits_le_iff ad hk).mpr h
def zf {i:Int}{k:Nat}(h0:0<=i)(h:Bt k i)(hk:k<=900):(pf i).length<=300/\i.natAbs.log2<1920:=by
 obtain⟨n,rfl⟩:∃ n:Nat,i=(n:Int):=⟨i.toNat,by omega⟩
 have h:n<2 ^ k:=by unfold Bt at h;rwa [Vb] at h
 have a:n<2 ^ 900:=gg h (si ad hk)
 refine⟨Hn (Vf a Dk0) ad,?_⟩
 rw[Vb]
 by_cases z:n=0
 ·subst z;decide
 ·exact(log2_lt z).mpr (Vf a Dk0)
def namesW (h:nE ns l):∀ x∈l.map (λi=>ns.getD i aE),x.length<=12:=λx hx=>by
 obtain⟨i,a,rfl⟩:=j9.mp hx;exact h.nm _<|getD_memS<|h.lt i a
theorem lM (c:Nat)(k:Nat):∀ (l:List Str),(∀ x∈l,x.length<=k)->(Str.join ⟨#[c]⟩ l).length<=l.length*(k+1)
 | [],_=>by show 0<=_;omega
 | [x],h=>by have:=h x eR;show x.length<=1*(k+1);omega
 | x::y::r,h=>by
  have a:=lM c k (y::r) λz hz=>h z<|fA _ hz
  have:=h x eR
  rw[aw,bj,ed,ed,FU,<-aw,<-aw];show x.length+1+_<=((y::r).length+1)*(k+1);rw[Nat.add_mul,Nat.one_mul]
  omega
def zg (k:TK):ze k≠"put"/\ze k≠"guess"/\ze k≠"right"/\32∉cz (ze k)/\(ze k).length<=12:=by cases k<;>decide +kernel
variable {c:Nat}
def wR (h:c<10 ^ 30):r9 "colour" (fk c)=true/\intText? (fk c)=some (c:Int)/\32∉cz (fk c)/\(fk c).length<=30:=by
 unfold r9;rw[if_neg ad]
 by_cases z:c=0
 ·subst z;decide +kernel
 ·have q:=cq (n:=c) (by omega) h
  have a:bX (fk c)=true:=q.1;refine⟨?_,q.2,(fM a).1,dz a⟩;rw[a,Bool.or_true]
def OU (e:Nat->Addr)(k:TK):∃ j,j<9/\j≠5/\j≠6/\cP (pe e) (.inr<|ze k)=some (.ref<|e j):=by
 cases k with
 | sure=>exact⟨0,ad,ad,ad,rfl⟩
 | share=>exact⟨1,ad,ad,ad,rfl⟩
 | groups=>exact⟨2,ad,ad,ad,rfl⟩
 | ring=>exact⟨3,ad,ad,ad,rfl⟩
 | order=>exact⟨4,ad,ad,ad,rfl⟩
 | book=>exact⟨8,ad,ad,ad,rfl⟩
def C0 (e:Nat->Addr):cP (pe e) (.inr "right")=some (.ref<|e 7):=rfl
def K1 (e:Nat->Addr):cP (pe e) (.inr "put")=some (.ref<|e 5):=rfl
def C7 (e:Nat->Addr):cP (pe e) (.inr "guess")=some (.ref<|e 6):=rfl
variable {a:AK}
def C8 (P:mB ns cs ws)(h:Hj ns a):mP ns a≠[]/\(∀ x∈mP ns a,32∉cz x/\x.length<=30)/\(mP ns a).length<=3:=by
 have b:∀ i,i<ns.length->32∉cz (ns.getD i aE)/\(ns.getD i aE).length<=30:=λi d=>by
  have q:=P.nm.nm _<|getD_memS d;exact⟨(dU q).1,fz (dj q).2.2 ad⟩
 cases a with
 | told k=>
  refine⟨(λz=>nomatch z),λx hx=>?_,by show 1<=3;decide⟩
  obtain rfl:x=ze k:=dt.mp hx;exact⟨(zg k).2.2.2.1,fz (zg k).2.2.2.2 ad⟩
 | right=>
  refine⟨(λz=>nomatch z),λx hx=>?_,by show 1<=3;decide⟩
  obtain rfl:x="right":=dt.mp hx
  decide +kernel
 | hV i=>
  refine⟨(λz=>nomatch z),λx hx=>?_,by show 2<=3;decide⟩
  rcases gd.mp hx with rfl | hx
  ·decide +kernel
  ·obtain rfl:x=ns.getD i aE:=dt.mp hx;exact b i h
 | put i c=>
  refine⟨(λz=>nomatch z),λx hx=>?_,by show 3<=3;decide⟩
  rcases gd.mp hx with rfl | hx
  ·decide +kernel
  ·rcases gd.mp hx with rfl | hx
   ·exact b i h.1
   ·obtain rfl:x=fk c:=dt.mp hx;have q:=wR h.2;exact⟨q.2.2.1,q.2.2.2⟩
variable {aF:Addr}
def Ho {P:Program}{mg:Str->Option Value}{e:Nat->Addr}(FT:uo P w K mg aF e)(PP:mB ns cs ws)(h:Hj ns a) :
  ∃ (x:Addr) (w0:Str) (f b:List Str),mP ns a=w0::b/\cP (pe e) (.inr w0)=some (.ref x)/\b.length=f.length/\b.length<=8/\(∀ z∈b,z.length<=1000000)/\(∀ k,k<f.length->r9 (f.getD k aE) (b.getD k aE)=true)/\∀ H':Hp,aN K H' x (f.map V.str):=by
 have d:∀ i,i<ns.length->br (ns.getD i aE)=true/\(ns.getD i aE).length<=1000000:=λi m=>by
  have q:=PP.nm.nm _<|getD_memS m;exact⟨q,fz (dj q).2.2 ad⟩
 cases a with
 | told k=>
  obtain⟨j,p,o,r,s⟩:=OU e k;exact⟨e j,ze k,[],[],rfl,s,rfl,ad,(λ_ z=>nomatch z),(λ_ z=>absurd z<|SF _),FT.t0 j p o r⟩
 | right=>exact⟨e 7,"right",[],[],rfl,C0 e,rfl,ad,(λ_ z=>nomatch z),(λ_ z=>absurd z<|SF _),FT.t0 7 ad ad ad⟩
 | hV i=>
  obtain⟨g,l⟩:=d i h;refine⟨e 6,"guess",["name"],[ns.getD i aE],rfl,C7 e,rfl,by show 1<=8;decide,λz hz=>?_,λk hk=>?_,FT.t6⟩
  ·rw[dt.mp hz];exact l
  ·obtain rfl:k=0:=by have:k<1:=hk;omega
   exact g
 | put i c=>
  obtain⟨g,l⟩:=d i h.1;obtain⟨t,_,_,n⟩:=wR h.2;refine⟨e 5,"put",["name","colour"],[ns.getD i aE,fk c],rfl,K1 e,rfl,by show 2<=8;decide,λz hz=>?_,λk hk=>?_,FT.t5⟩
  ·rcases gd.mp hz with rfl | hz
   ·exact l
   ·rw[dt.mp hz];exact fz n ad
  ·have hk:k<2:=hk
   rcases(show k=0∨k=1 by omega) with rfl | rfl
   ·exact g
   ·exact t
def OV {cs:List Int}{i:Nat}(hc:cA cs)(hn:HN cs hs cs.length)(h:Cr cs ws L)(hi:i<cs.length):0<=vV cs L hs i/\Bt 100 (vV cs L hs i):=by
 obtain⟨h1,a⟩:=AQ hc.pos hn h hi;have hm:cs.getD i 0∈cs:=by
  rw[b3,b4 hi];exact pP hi
 exact⟨h1,(hc.cn _ hm).bt.of_le h1 (by omega)⟩
variable {o:HO}
def vd (hp:H p=none)(e:upd H p o=H1):ag H H1/\H1 p=some o:=by
 subst e;exact⟨ag.new hp o,af⟩
variable {a:Addr}{xs:List V}
def K2 (k:Nat)(h:au K H a xs)(q:∀ p H',ag H H'->H p=none->H' p=some (.lst<|xs.drop k)->Q (.ref p) H'):vt K (.ref a) (some (k:Int)) none H Q:=
 ⟨a,xs,rfl,h,λp b=>q p _ (ag.new b _) b (by rw[cX];exact af)⟩
def K3 (k:Nat)(h:au K H a xs)(q:∀ p H',ag H H'->H p=none->H' p=some (.lst<|xs.take k)->Q (.ref p) H'):vt K (.ref a) none (some (k:Int)) H Q:=
 ⟨a,xs,rfl,h,λp b=>q p _ (ag.new b _) b (by rw[jc];exact af)⟩
def Bq:Sp:=λb H Q _=>∃ (a:Addr) (dn:List Int) (many:Nat) (kind:Int) (i:Nat),b=[.ref a,.int many,.int kind,.int i]/\H a=some (.lst<|dn.map V.int)/\dn.length=24/\(∀ x∈dn,0<=x)/\1<=many/\many<=8/\i<many/\∀ m:Nat,m<2 ^ many->m.testBit i=false->Q (.int (m:Int)) H
def Hq:Sp:=λb H Q _=>∃ (a:Addr) (dn:List Int) (kind:Int) (i:Nat),b=[.ref a,.int kind,.int i]/\H a=some (.lst<|dn.map V.int)/\dn.length=8/\(∀ x∈dn,0<=x)/\i<8/\∀ (c:Nat) H',ag H H'->0<c->c<10 ^ 30->Q (.int (c:Int)) H'
def sj (K:Frag):Sp:=λc H Q _=>∃ (a:Addr) (xs:List Int) (most kinds:Nat),c=[.ref a,.int most,.int kinds]/\au K H a (xs.map V.int)/\xs.length=3/\1<=most/\most<=8/\1<=kinds/\kinds<=6/\∀ b ns cs ws H',ag H H'->rS H' b ns cs ws->mB ns cs ws->ns.length<=most->Q (.ref b) H'
def zh {n i:Nat}(h:i<n):2 ^ n - 1 - 2 ^ i<2 ^ n/\(2 ^ n - 1 - 2 ^ i).testBit i=false:=by
 have h1:2 ^ i<2 ^ n:=Vi ad h
 have b:=F0 i;generalize a:2 ^ n=N at h1 ⊢;refine⟨by omega,?_⟩
 subst a;rw[show 2 ^ n - 1 - 2 ^ i=2 ^ n - (2 ^ i+1) by omega,Nat.testBit_two_pow_sub_succ h1,Nat.testBit_two_pow_self]
 simp
def Br {n i:Nat}(h:i<n):((2 ^ n:Nat):Int) - 1 - ((2 ^ i:Nat):Int)=((2 ^ n - 1 - 2 ^ i:Nat):Int):=by
 have h1:2 ^ i<2 ^ n:=Vi ad h
 omega
def Bs {x e n i:Nat}(h:e<2 ^ n)(h2:e.testBit i=false):x&&& e<2 ^ n/\(x&&& e).testBit i=false:=by
 refine⟨M2 Nat.and_le_right h,?_⟩;rw[testBit_and,h2,KE]
variable {i:Int}
def cT {dn:List Int}{dr:Addr}(hd:H dr=some (.lst<|dn.map V.int))(hl:dn.length=m)(hnn:∀ x∈dn,0<=x)(h0:0<=i)(h1:i<m)(q:∀ x:Nat,Q (.int (x:Int)) H):lp K (.ref dr) (.int i) H Q:=by
 obtain⟨m,rfl⟩:=j5 h0;have hm:m<dn.length:=by omega
 obtain⟨x,hx⟩:=j5<|hnn _<|pP hm;exact ax (au.of hd) (ay (by rw[et,b4 hm,hx];rfl))<|q x
def lN (z:Str):Prop:=∀ c∈cz z,c<1114112
theorem lN.join {d:Nat}(hd:d<1114112):∀ {l:List Str},(∀ x∈l,lN x)->lN (Str.join ⟨#[d]⟩ l)
 | [],_=>λc hc=>nomatch hc
 | [x],h=>h x eR
 | x::y::r,h=>λc hc=>by
  rw[bj,FU] at hc
  rcases eG.mp hc with z | z
  ·rcases eG.mp z with z | z
   ·exact h x eR c z
   ·rw[dt.mp z];exact hd
  ·exact lN.join hd (λx hx=>h x<|fA _ hx) c z
variable {z:Str}
def lN.ok (h:lN z):PyData.strOk z=true:=by
 unfold PyData.strOk;rw[<-all_toList];exact ih.mpr λc hc=>cc<|h c hc
def lN.low (h:iG z):lN z:=λc hc=>by
 have a:=h9<|h c hc
 have:∀ c∈cz gT,c<1114112:=by decide +kernel
 exact this c a
theorem lN.pf {i:Int}(h:0<=i):lN (pf i):=by
 obtain⟨n,rfl⟩:=j5 h;intro c hc;rw[wQ] at hc;obtain⟨d,a,rfl⟩:=j9.mp hc
 have:=Nat.isDigit_of_mem_toDigits ad ad a
 simp only[Char.isDigit,Bool.and_eq_true,decide_eq_true_eq] at this;have b:d.toNat<=57:=this.2
 omega
theorem Bu:∀ l:List Str,(∀ x∈l,lN x)->PyData.canLayAll0 (l.map PyData.str)=true
 | [],_=>by simp[PyData.canLayAll0]
 | x::r,h=>by simp[PyData.canLayAll0,PyData.canLay0,Bu r λx hx=>h x<|mem_cons_of_mem _ hx,(h x mem_cons_self).ok]
variable {l:List Str}
def fR (h:∀ x∈l,lN x):shaped (.list<|l.map PyData.str)=true:=je
 (by simp[PyData.canLay0,Bu l h]) (by have:=jH l;simp only[PyData.depth];omega)
theorem kM:∀ l m:List Str,PyData.eqvAll (l.map PyData.str) (m.map PyData.str)=decide (l=m)
 | [],[]=>by simp[PyData.eqvAll]
 | [],_::_=>by simp[PyData.eqvAll]
 | _::_,[]=>by simp[PyData.eqvAll]
 | x::r,y::s=>by
  simp only[map_cons,PyData.eqvAll,PyData.eqv,kM r s]
  by_cases h:x=y<;>by_cases a:r=s<;>simp[h,a]
def sk (l m:List Str):PyData.eqv (.list<|l.map PyData.str) (.list<|m.map PyData.str)=decide (l=m):=by
 simp only[PyData.eqv,kM]
variable {q:Addr}{m:List Str}
def uu (hp:au K H p (l.map V.str))(hq:au K H q (m.map V.str))(cl:∀ x∈l,lN x)(cm:∀ x∈m,lN x)(h:Q (.bl<|!decide (l=m)) H):Qu K (.ref p) (.ref q) H Q:=
 ⟨_,_,.lst hp<|dE _,.lst hq<|dE _,fR cl,fR cm,by rw[sk];exact h⟩
def K4 (hp:au K H p (l.map V.str))(hq:au K H q (m.map V.str))(cl:∀ x∈l,lN x)(cm:∀ x∈m,lN x)(h:Q (.bl<|decide<|l=m) H):Qt K (.ref p) (.ref q) H Q:=
 ⟨_,_,.lst hp<|dE _,.lst hq<|dE _,fR cl,fR cm,by rw[sk];exact h⟩
def zi (ns:List Str)(i:Nat):Str.ofString "guess "++ns.getD i aE=Str.join ⟨#[32]⟩ (mP ns<|.hV i):=by
 rw[show Str.ofString "guess "=Str.ofString "guess"++⟨#[32]⟩ by decide +kernel];rfl
def DQ (K:Frag)(x:Str)(st:Stmt):Prop:=∃ (f:Addr) (oc:Value) (od an:Option Addr) (sl:Array (Option Value)) (kV doc pm cd ct:Value),nsIn K mainGlobals x=some (some<|.ref f)/\K.lookup f=some ⟨oc,od,.func<|fnOf x x (bf st) (aO st) (aj st) .none kV doc pm an cd ct,sl⟩/\codeIn K cd x=true/\keepIn K (.ref f)=true
variable {h:Heap}
def DQ.def {x:Str}{st:Stmt}{mg:Str->Option Value}(q:DQ K x st)(X:K.In h)(G:h.Ns mainGlobals mg):Def K mg x st:=by
 obtain⟨_,_,_,_,_,_,_,_,_,_,a,b,c,d⟩:=q;exact NQ X G a b c d
def MQ (K:Frag)(C:Addr)(m qual:Str)(st:Stmt):Prop:=∃ (f:Addr) (oc:Value) (od an:Option Addr) (sl:Array (Option Value)) (kV doc pm cd ct:Value),findIn K (.ref C) m=some (some<|.ref f)/\K.lookup f=some ⟨oc,od,.func<|fnOf m qual (bf st) (aO st) (aj st) .none kV doc pm an cd ct,sl⟩/\codeIn K cd qual=true/\keepIn K (.ref f)=true/\isFn K (.ref f)=true
variable {m:Str}
def MQ.def {qual:Str}{st:Stmt}(q:MQ K C m qual st):qk K C m qual st:=by
 obtain⟨_,_,_,_,_,_,_,_,_,_,a,b,c,d,e⟩:=q;exact Bd a b c d e
variable {R:Prop}
def wU (h:H a=some (.ins C dx fs))(n:fs.lookup m=none)(r:R):∃ a' dx' fs',V.ref a=.ref a'/\H a'=some (.ins C dx' fs')/\fs'.lookup m=none/\R:=⟨a,dx,fs,rfl,h,n,r⟩
variable {f:Str}{v:V}{G:V->Prop}
def wV (h:H a=some (.ins C dx fs))(n:fs.lookup f=some v)(r:G v):∃ a' dx' fs' v',V.ref a=.ref a'/\H a'=some (.ins C dx' fs')/\fs'.lookup f=some v'/\G v':=⟨a,dx,fs,v,rfl,h,n,r⟩
variable {y:Str}
def uw (h:au K H p (l.map V.str))(h1:(l.map λz=>z.length+y.length).sum<=sizeLine)(h2:(y.join l).length<=sizeLine)(r:Q (.str<|y.join l) H):rJoin K (.str y) [.ref p] H Q:=⟨y,p,l,rfl,rfl,h,h1,h2,r⟩
def kN (hy:y.length≠0)(h1:z.length+2<=sizeLine)(h2:(Txt.split z y).length<=sizeLine)(r:∀ t,H t=none->Q (.ref t) (upd H t<|.lst<|(Txt.split z y).map V.str)):FP (.str z) [.str y] H Q:=⟨z,y,rfl,rfl,hy,h1,h2,r⟩
variable {P:Program}{mg:Str->Option Value}{base:Heap}{k:Nat}{qual p1 p2:Str}{G:List Str}{sp:Sp}{st:Stmt}
def wJ.gf (D:wJ K C m qual st z)(S:DS (aj st) N [p1,p2] G)(hb:bindM m qual st p1 p2)
  (len:∀ vs H Q E,sp vs H Q E->vs.length=2)
  (cV:∀ (X:Cx) (E:XK),Sc X N N G->X.prog=P->X.w=w->X.K=K->X.mg=mg->X.base=base->X.calm=true->X.env.scope=aj st->kF X E->Passes (kY P w) X E->b6 k X.A->X.A.units+64<cLine->
   ∀ (H:Hp) (vs:List V) (Q:VK),sp vs H Q E->∃ t,u6 X (aO st) t/\t {nx:=λ_ H'=>Q .bx H',rt:=Q} (L2.start N vs) H):KS P w K mg base (k+1) C m p1 p2 z sp:=by
 obtain⟨f,R,t,F,M⟩:=D.ex;obtain⟨Y,U,T,kV,b,x,J,y,ct,L,o,n,rfl,O,g,lt,r⟩:=F.ex;refine⟨f,_,t,vq O g S.fs len λA p s H vs Q E B i=>?_,M,λs c j a=>?_,λs c j a=>?_⟩
 ·obtain⟨t,h,q⟩:=cV _ E S.SX rfl rfl rfl rfl rfl rfl rfl (λ_ _ _ _ _ _ _ _ I e n hn q=>ji I e n hn rfl rfl rfl rfl q) jj B B.units H vs Q i;exact⟨t,h.h,q⟩
 ·rw[F2] at a ⊢
  match c,a with
  | [u,v],_=>
   obtain⟨k,l,d⟩:=(hb T kV b x J y ct u v).2;exact binds_K j rfl lt r l<|d _
 ·obtain⟨u,rfl⟩:∃ u,c=[u]:=by
   rw[ed] at a
   have:c.length=1:=by simpa using a
   exact List.length_eq_one_iff.mp this
  obtain⟨k,l,d⟩:=(hb T kV b x J y ct u u).1;exact binds_K j rfl lt r l<|d _
variable {fields:List Str}{n:Nat}{x:Str}{p:Pos}{es:List Expr}{t:TA}
def Sk (S:Sc X N W G)(hxe:X.xe=λ_ _=>False)(g:Nat)(T:gX X.K X.mg x C fields)(F:KS X.prog X.w X.K X.mg X.base k C "__init__" p1 p2 z sp)(hr:b6 n X.A)(ha:QB X (e::es) t)(hk:k+1<=n:=by decide)(hg:G[g]?=some x:=by rfl) :
  TJ X (.Call (.Name x p) (e::es) [] pos) (yX C sp t):=by
 obtain⟨f,a,_,F,M,hb,_⟩:=F.ex;exact TR S hxe g T ⟨f,a,F,M,hb⟩ hr ha hk hg
def wW:∀ j,j<10->(digitChar j).toNat=j+48:=by decide
theorem Bv:∀ (k:Nat) (ds:List Nat),ds.length=k+1->(∀ c∈ds,48<=c/\c<=57)->ds.getD 0 0≠48->∃ n,0<n/\n<10 ^ (k+1)/\ds=(toDigits 10 n).map Char.toNat
 | 0,[d],_,h,a=>by
  have h1:=h d eR;have a:d≠48:=a;refine⟨d - 48,by omega,by omega,?_⟩
  rw[Nat.toDigits_eq_if ad,if_pos (by omega),rr,wW _ (by omega),map_nil,show d - 48+48=d by omega]
 | k+1,ds,b,h,a=>by
  obtain⟨r,d,rfl⟩:∃ r d,ds=r++[d]:=⟨ds.dropLast,ds.getLast (λe=>by rw[e] at b;cases b),(List.dropLast_concat_getLast _).symm⟩
  rw[ed] at b;have f:r.length=k+1:=Nat.succ.inj b;have h1:=h d<|ro _ eR;obtain⟨n,g,i,e⟩:=Bv k r f (λc hc=>h c<|C1 _ hc) (by rw[b3,u5 (by omega),<-b3] at a;exact a)
  refine⟨n*10+(d - 48),by omega,by rw[Nat.pow_succ];omega,?_⟩
  rw[Nat.toDigits_eq_if ad,if_neg (by omega),eH,rr,map_nil,show (n*10+(d - 48)) / 10=n by omega,show (n*10+(d - 48)) % 10=d - 48 by omega,wW _ (by omega),show d - 48+48=d by omega,<-e]
def ux {a b:Str}(h:cz a=cz b):a=b:=by
 obtain⟨a⟩:=a;obtain⟨b⟩:=b
 have:a=b:=ext' h
 rw[this]
def wX (h:bX x=true):∃ c,0<c/\c<10 ^ 30/\x=fk c:=by
 have a:=dz h;unfold bX at h;rw[ef,ef,ih] at h;obtain⟨h1,f,g⟩:=h;have h1:=h9 h1;have i:(cz x).length=(x.length - 1)+1:=by rw[<-aw];omega
 obtain⟨n,b,d,e⟩:=Bv (x.length - 1) (cz x) i (λc hc=>gA.mp<|g c hc)<|h9 f;refine⟨n,b,gg d (si ad (by omega)),?_⟩
 rw[<-oC] at e;exact ux e
def Hr (h:dS (wz z)=true):∃ c:Nat,eB (.bY ((wz z).getD 1 aE) c)/\cM (.bY ((wz z).getD 1 aE) c)=z/\intText? ((wz z).getD 2 aE)=some (c:Int):=by
 unfold dS at h;rw[ef,ef,ef] at h;obtain⟨h1,a,f,j⟩:=h;obtain⟨c,b,d,e⟩:=wX j;have g:=(cq b d).2;have h1:=h9 h1;have a:(wz z).getD 0 aE=Str.ofString "hat":=h9 a;refine⟨c,⟨f,b,d⟩,?_,by rw[show (wz z).getD 2 aE=_ from e];exact g⟩
 have i:wz z=gU (.bY ((wz z).getD 1 aE) c):=by
  show wz z=[Str.ofString "hat",(wz z).getD 1 aE,fk c];rw[<-a,<-(show (wz z).getD 2 aE=fk c from e)]
  match wz z,h1 with
  | [_,_,_],_=>rfl
 unfold cM;rw[<-i];exact N6 _ _
def C9 (h:cL (wz z)=true)(nd:((wz z).drop 1).Nodup)(hl:((wz z).drop 1).length<=40):eB (.sees ((wz z).getD 1 aE)<|(wz z).drop 2)/\cM (.sees ((wz z).getD 1 aE)<|(wz z).drop 2)=z:=by
 unfold cL at h;rw[ef,ef] at h;obtain⟨h1,b,c⟩:=h;have h1:=h9 h1;have b:(wz z).getD 0 aE=Str.ofString "sees":=h9 b;have a:(wz z).drop 1=(wz z).getD 1 aE::(wz z).drop 2:=by
  rw[drop_eq_getElem_cons (show 1<(wz z).length by omega),b3,b4 (show 1<(wz z).length by omega)];rfl
 have d:((wz z).drop 1).length=(wz z).length - 1:=mv;rw[a] at nd hl c d;refine⟨⟨by omega,hl,nd,λx hx=>ih.mp c x hx⟩,?_⟩
 have e:wz z=gU (.sees ((wz z).getD 1 aE)<|(wz z).drop 2):=by
  show wz z=Str.ofString "sees"::(wz z).getD 1 aE::(wz z).drop 2;rw[<-b,<-a]
  match wz z,h1 with
  | _::_,_=>rfl
 unfold cM;rw[<-e];exact N6 _ _
structure Ux (H:Hp)(d c w:Addr)(L:List Str)(s:List Str × List Str):Prop where
 ex:∃ (M:List Ln) (cs ws:List Nat),L=M.map cM/\(∀ y∈M,eB y)/\fN ⟨[],[],[]⟩ M=some ⟨s.1,cs,ws⟩/\DN H d s.1/\H c=some (.lst<|(aK cs).map V.int)/\cs.length=s.1.length/\H w=some (.lst<|(aK ws).map V.int)/\OL s.1 s.2 ws
def Sl (H0:Hp)(z:Str)(d c w r:Addr)(L:List Str)(k:Nat)(σ:St)(H:Hp):Prop:=∃ (s:List Str × List Str) (y1 y2 y3:Option V),σ=[some (.str z),some<|.ref d,some<|.ref c,some<|.ref w,y1,y2,y3]/\ag H0 H/\H r=some (.lst<|L.map V.str)/\mN ([],[]) (L.take k)=some s/\Ux H d c w (L.take k) s
def Bw (K:Frag)(er:Str->Addr):Sp:=λa H Q E=>∃ z:Str,a=[.str z]/\z.length<=1000000/\(bH z).length<=100/\(∀ x∈bH z,x.length<=800)/\
 (mO (bH z)=none->∀ t M b H',bH z=M.map cM->(∀ y∈M,eB y)->fN ⟨[],[],[]⟩ M=some b->ag H H'->Io K H' t b->Q (.ref t) H')/\
 (∀ e k,mO (bH z)=some (e,k)->∀ dx H',ag H H'->H' dx=some (.xd [("line",.int (k:Int))])->E (.ref<|er<|kG e) (some dx) H')
def zj {L:List Str}{k:Nat}(h:L[k]?=some x):L.take (k+1)=L.take k++[x]:=by rw[take_add_one,h];rfl
variable {b:Bk}{M:List Ln}
def ph {b2:Bk}{x:Ln}(h:fN ⟨[],[],[]⟩ M=some b)(hx:jy b x=some b2):fN ⟨[],[],[]⟩ (M++[x])=some b2:=by
 rw[kC,h];show (jy b x).bind (λa=>fN a [])=_;rw[hx];rfl
theorem su {α:Type}[DecidableEq α]:∀ {xs ys:List α},xs.Nodup->(∀ i∈xs,i∈ys)->xs.length<=ys.length
 | [],_,_,_=>zero_le _
 | x::r,ys,a,h=>by
  rw[AC] at a;have hx:=h x eR;have c:=su (xs:=r) (ys:=ys.erase x) a.2 λi b=>(List.mem_erase_of_ne (λe:i=x=>a.1 (by rw[<-e];exact b))).mpr<|h i<|fA _ b
  rw[List.length_erase_of_mem hx] at c
  have:=length_pos_of_mem hx
  rw[ls]
  omega
variable {n:Str}
def Dc (h1:n∉b.ns)(h2:b.ns.length<8):jy b (.bY n c)=some ⟨b.ns++[n],b.cs++[c],b.ws++[0]⟩:=if_pos ⟨h1,h2⟩
def Dd (h1:n∈b.ns)(h2:b.ws.getD (b.ns.idxOf n) 0=0)(h3:∀ y∈l,y∈b.ns):jy b (.sees n l)=some ⟨b.ns,b.cs,b.ws.set (b.ns.idxOf n)<|cF b.ns l⟩:=if_pos ⟨h1,h2,h3⟩
def iL:Ln->Option Str
 | .bY n _=>some n
 | _=>none
def eO (x:Str):Ln->Option (List Str)
 | .sees n l=>if n=x then some l else none
 | _=>none
def K5 (ns:List Str):Option (List Str)->Nat
 | none=>0
 | some l=>cF ns l
def hZ:Ln->Option (Str × List Str)
 | .sees n l=>some (n,l)
 | _=>none
def OW (b:Bk)(k:Nat):Ln:=.bY (b.ns.getD k aE)<|b.cs.getD k 0
structure pT (M:List Ln)(b:Bk):Prop where
 qv:M.filter (λx=>(iL x).isSome)=(List.range b.ns.length).map (OW b)
 snd:((M.filterMap hZ).map (·.1)).Nodup
 ok:∀ y∈M,eB y
 ns:b.ns=M.filterMap iL
 lc:b.cs.length=b.ns.length
 lw:b.ws.length=b.ns.length
 fC:b.ns.length<=8
 nd:b.ns.Nodup
 bY:∀ k,k<b.ns.length->Ln.bY (b.ns.getD k aE) (b.cs.getD k 0)∈M
 sees:∀ n l,Ln.sees n l∈M->n∈b.ns/\(∀ y∈l,y∈b.ns)/\b.ws.getD (b.ns.idxOf n) 0=cF b.ns l
 Pl:∀ k,k<b.ns.length->b.ws.getD k 0=K5 b.ns (M.findSome?<|eO<|b.ns.getD k aE)
def Bx (h:y∈ns):(ns++[n]).idxOf y=ns.idxOf y:=by rw[List.idxOf_append,if_pos h]
def wY:∀ {l:List Str},(∀ y∈l,y∈ns)->cF (ns++[n]) l=cF ns l:=λ{l} h=>by
 unfold cF;rw[List.map_congr_left λy hy=>by rw[Bx (h y hy)]]
def dX {α:Type}{l r:List α}{k:Nat}{d:α}(h:k<l.length):(l++r).getD k d=l.getD k d:=by
 rw[b3,u5 h,<-b3]
def fg {α:Type}{l:List α}{x d:α}:(l++[x]).getD l.length d=x:=by
 rw[b3,wh<|ea _,Vr];rfl
def wZ (nd:ns.Nodup){k:Nat}(h:k<ns.length):ns.idxOf (ns.getD k aE)=k:=by
 have e:ns.getD k aE=ns[k]:=by rw[b3,b4 h];rfl
 rw[e];exact List.Nodup.idxOf_getElem nd k h
def iM (h:x∈ns):ns.getD (ns.idxOf x) aE=x:=by
 have a:=kc.mpr h;rw[b3,b4 a];exact U1 a
def gH (h:M.findSome? (eO x)=some l):Ln.sees x l∈M:=by
 obtain⟨y,hy,e⟩:=List.exists_of_findSome?_eq_some h
 cases y with
 | bY n c=>cases e
 | sees n a=>
  have e:(if n=x then some a else none)=some l:=e
  by_cases c:n=x
  ·rw[if_pos c] at e;cases e;rw[<-c];exact hy
  ·rw[if_neg c] at e;cases e
def pT.nil:pT [] ⟨[],[],[]⟩ where
 qv:=rfl
 snd:=nodup_nil
 ok:=λ_ h=>nomatch h
 ns:=rfl
 lc:=rfl
 lw:=rfl
 fC:=zero_le _
 nd:=nodup_nil
 bY:=λk h=>absurd h (SF k)
 sees:=λ_ _ h=>nomatch h
 Pl:=λk h=>absurd h<|SF k
def nF (h:eB (.sees n l)):cF ns l≠0:=by
 cases l with
 | nil=>exact absurd h.two (by show ¬ 2<=1;omega)
 | cons y r=>
  unfold cF;rw[rr,U7]
  have:=F0<|ns.idxOf y
  omega
variable {x:Ln}
def pT.step {b2:Bk}(h:pT M b)(hx:eB x)(hs:jy b x=some b2):pT (M++[x]) b2:=by
 have w:∀ y∈M++[x],eB y:=λy hy=>by
  rcases eG.mp hy with hy | hy
  ·exact h.ok y hy
  ·rw[dt.mp hy];exact hx
 cases x with
 | bY n c=>
  obtain⟨h1,m,rfl⟩:=CA hs;have g:∀ d l,Ln.sees d l∈M++[Ln.bY n c]->Ln.sees d l∈M:=λd l hm=>by
   rcases eG.mp hm with hm | hm
   ·exact hm
   ·cases dt.mp hm
  have B:(M++[Ln.bY n c]).filter (λx=>(iL x).isSome)=(List.range (b.ns++[n]).length).map (OW ⟨b.ns++[n],b.cs++[c],b.ws++[0]⟩):=by
   rw[G4,h.qv,ed,show b.ns.length + [n].length=b.ns.length+1 from rfl,Me,eH]
   congr 1
   ·refine List.map_congr_left λk hk=>?_;have hk:=kf.mp hk;show Ln.bY _ _=Ln.bY _ _;rw[dX hk,dX (by rw[h.lc];exact hk)]
   ·show [Ln.bY n c]=[Ln.bY ((b.ns++[n]).getD b.ns.length aE) ((b.cs++[c]).getD b.ns.length 0)];rw[fg,<-h.lc,fg]
  refine⟨B,by rw[GM,show [Ln.bY n c].filterMap hZ=[] from rfl,F2];exact h.snd,w,?_,?_,?_,?_,?_,λk hk=>?_,λd l hm=>?_,λk hk=>?_⟩
  ·show b.ns++[n]=_;rw[GM,<-h.ns];rfl
  ·show (b.cs++[c]).length=(b.ns++[n]).length;rw[ed,ed,h.lc];rfl
  ·show (b.ws++[0]).length=(b.ns++[n]).length;rw[ed,ed,h.lw];rfl
  ·show (b.ns++[n]).length<=8;rw[ed];exact m
  ·show (b.ns++[n]).Nodup;exact Os.mpr ⟨h.nd,by simp,λa u y hy=>by rw[dt.mp hy];rintro rfl;exact h1 u⟩
  ·show Ln.bY ((b.ns++[n]).getD k aE) ((b.cs++[c]).getD k 0)∈_;have hk:k<(b.ns++[n]).length:=hk;rw[ed] at hk
   by_cases j:k<b.ns.length
   ·rw[dX j,dX (by rw[h.lc];exact j)]
    exact C1 _<|h.bY k j
   ·have e:k=b.ns.length:=by have:k<b.ns.length+1:=hk;omega
    rw[e,fg,<-h.lc,fg];exact ro _ eR
  ·obtain⟨q,s,f⟩:=h.sees d l<|g d l hm;refine⟨C1 _ q,λy hy=>C1 _<|s y hy,?_⟩;show (b.ws++[0]).getD ((b.ns++[n]).idxOf d) 0=cF (b.ns++[n]) l;rw[Bx q,dX (by rw[h.lw];exact kc.mpr q),f,wY s]
  ·show (b.ws++[0]).getD k 0=K5 (b.ns++[n]) ((M++[Ln.bY n c]).findSome?<|eO<|(b.ns++[n]).getD k aE);have hk:k<(b.ns++[n]).length:=hk;rw[ed] at hk;have r:∀ y,(M++[Ln.bY n c]).findSome? (eO y)=M.findSome? (eO y):=λy=>by
    rw[List.findSome?_append]
    cases M.findSome? (eO y)<;>rfl
   rw[r]
   by_cases j:k<b.ns.length
   ·rw[dX (by rw[h.lw];exact j),dX j,h.Pl k j]
    cases e:M.findSome? (eO<|b.ns.getD k aE) with
    | none=>rfl
    | some l=>exact(wY (h.sees _ l<|gH e).2.1).symm
   ·have e:k=b.ns.length:=by have:k<b.ns.length+1:=hk;omega
    rw[e,fg,<-h.lw,fg]
    cases e:M.findSome? (eO n) with
    | none=>rfl
    | some l=>exact absurd (h.sees _ l<|gH e).1 h1
 | sees n l=>
  obtain⟨h1,m,C,rfl⟩:=yM hs;have v:=kc.mpr h1;have o:n∉(M.filterMap hZ).map (·.1):=λz=>by
   obtain⟨p,A,e⟩:=j9.mp z;obtain⟨y,hy,r⟩:=List.mem_filterMap.mp A
   cases y with
   | bY _ _=>cases r
   | sees d i=>
    cases r
    have e:d=n:=e;subst e;have f:=(h.sees _ i hy).2.2;rw[m] at f;exact nF (h.ok _ hy) f.symm
  refine⟨by rw[G4,h.qv];exact F2 _,by
   rw[GM,eH];exact Os.mpr ⟨h.snd,by show [n].Nodup;simp,λa u y hy=>by rw[show y=n from dt.mp hy];rintro rfl;exact o u⟩,w,?_,h.lc,by show (b.ws.set _ _).length=_;rw[length_set];exact h.lw,h.fC,h.nd,λk hk=>C1 _<|h.bY k hk,λd i hm=>?_,λk hk=>?_⟩
  ·show b.ns=_;rw[GM,<-h.ns];exact(F2 _).symm
  ·show d∈b.ns/\(∀ y∈i,y∈b.ns)/\(b.ws.set (b.ns.idxOf n)<|cF b.ns l).getD (b.ns.idxOf d) 0=cF b.ns i
   rcases eG.mp hm with hm | hm
   ·obtain⟨q,s,f⟩:=h.sees d i hm;refine⟨q,s,?_⟩;have t:b.ns.idxOf n≠b.ns.idxOf d:=λe=>by
     rw[<-e,m] at f;exact nF (h.ok _ hm) f.symm
    rw[b3,P3 t,<-b3];exact f
   ·cases dt.mp hm
    refine⟨h1,C,?_⟩;rw[b3,KB (by rw[h.lw];exact v)];rfl
  ·show (b.ws.set (b.ns.idxOf n)<|cF b.ns l).getD k 0=K5 b.ns ((M++[Ln.sees n l]).findSome?<|eO<|b.ns.getD k aE);have hk:k<b.ns.length:=hk;rw[List.findSome?_append]
   by_cases c:k=b.ns.idxOf n
   ·subst c;rw[iM h1,b3,KB (by rw[h.lw];exact v)]
    cases e:M.findSome? (eO n) with
    | none=>
     show cF b.ns l=K5 b.ns (([Ln.sees n l].findSome? (eO n)));rw[show [Ln.sees n l].findSome? (eO n)=some l by simp[eO]];rfl
    | some i=>
     have f:=(h.sees n i<|gH e).2.2;rw[m] at f;exact absurd f.symm<|nF<|h.ok _<|gH e
   ·have t:n≠b.ns.getD k aE:=λe=>c (by rw[e,wZ h.nd hk])
    rw[b3,P3<|Ne.symm c,<-b3,h.Pl k hk];rw[show [Ln.sees n l].findSome? (eO<|b.ns.getD k aE)=none by rw[findSome?_cons,show eO (b.ns.getD k aE) (Ln.sees n l)=none from if_neg t];rfl,Option.or_none]
theorem pT.of:∀ {r M:List Ln} {b b2:Bk},pT M b->(∀ y∈r,eB y)->fN b r=some b2->pT (M++r) b2
 | [],M,b,b2,h,_,e=>by cases e;rw[F2];exact h
 | x::r,M,b,b2,h,a,e=>by
  rw[fN] at e
  cases c:jy b x with
  | none=>rw[c] at e;cases e
  | some d=>
   rw[c] at e
   have:=pT.of (h.step (a x eR) c) (λy hy=>a y<|fA _ hy) e
   rw[UU] at this;exact this
def UP (hr:∀ y∈M,eB y)(e:fN ⟨[],[],[]⟩ M=some b):pT M b:=pT.of pT.nil hr e
def w4 (h:∀ y∈l,y∈ns)(nd:l.Nodup):cF ns l=mask (l.map ns.idxOf)/\(l.map ns.idxOf).Nodup/\∀ i∈l.map ns.idxOf,i<ns.length:=by
 refine⟨by unfold cF mask;rw[kb];rfl,?_,λi b=>?_⟩
 ·exact List.pairwise_map.mpr (nd.imp_of_mem λ{x y} hx hy a e=>a (by rw[<-iM (h x hx),e,iM<|h y hy]))
 ·obtain⟨y,hy,rfl⟩:=j9.mp b;exact kc.mpr<|h y hy
def pT.Ip (h:pT M b):mB b.ns b.cs b.ws:=by
 have i:∀ j,j<b.ns.length->b.ws.getD j 0=0∨∃ l,Ln.sees (b.ns.getD j aE) l∈M/\b.ws.getD j 0=cF b.ns l:=λj hj=>by
  have:=h.Pl j hj
  cases e:M.findSome? (eO<|b.ns.getD j aE) with
  | none=>rw[e] at this;exact .inl this
  | some l=>rw[e] at this;exact .inr ⟨l,gH e,this⟩
 have a:∀ j,j<b.ns.length->b.ws.getD j 0<2 ^ b.ns.length/\(b.ws.getD j 0).testBit j=false:=λj hj=>by
  rcases i j hj with e | ⟨l,f,e⟩
  ·rw[e];exact⟨F0 _,Vs _⟩
  ·have p:SV (b.ns.getD j aE::l):=h.ok _ f;have d:=AC.mp p.nd;obtain⟨m,g,n⟩:=w4 (h.sees _ l f).2.1 d.2;rw[e,m];refine⟨AL g n,?_⟩;rw[eA g,dy];intro z;obtain⟨y,hy,o⟩:=j9.mp z
   have:y=b.ns.getD j aE:=by rw[<-o,iM<|(h.sees _ l f).2.1 y hy]
   exact d.1<|this ▸ hy
 refine⟨⟨h.fC,h.nd,λx hx=>?_⟩,h.lc,h.lw,λc hc=>?_,λj hj=>(a j hj).1,λj hj=>?_⟩
 ·obtain⟨k,hk,rfl⟩:=C2 hx
  have:=h.ok _<|h.bY k hk
  rw[b3,b4 hk] at this;exact this.1
 ·obtain⟨k,hk,rfl⟩:=C2 hc
  have:=h.ok _ (h.bY k (by rw[<-h.lc];exact hk))
  rw[b3 (l:=b.cs),b4 hk] at this;exact this.2
 ·have:=(a j hj).2
  rw[uU] at this
  have:=of_decide_eq_false this
  omega
def w6 (K:Frag)(cH cD:Addr)(er:Str->Addr):Sp:=λa H Q E=>∃ (x dx:Addr) (z:Str),a=[.ref x,.str z]/\H x=some (.ins cD dx [])/\z.length<=1000000/\(bH z).length<=100/\(∀ x∈bH z,x.length<=800)/\
 (mO (bH z)=none->∀ M b hl L H',bH z=M.map cM->pT M b->Off x H H'->H hl=none->jN K cH cD H' x hl b.ns b.cs b.ws L (List.replicate b.cs.length 0)->eL b.ns b.cs b.ws L (List.replicate b.cs.length 0)->Q .bx H')/\
 (∀ e k,mO (bH z)=some (e,k)->∀ dx' H',ag H H'->H' dx'=some (.xd [("line",.int (k:Int))])->E (.ref<|er<|kG e) (some dx') H')
def By:Sp:=λa H Q _=>∃ (b dr:Addr) (ns:List Str) (cs ws:List Nat) (dn:List Int),a=[.ref b,.ref dr]/\rS H b ns cs ws/\mB ns cs ws/\Dn H dr dn 40/\∀ l L H',OM H' l L->Q (.ref l) H'
def Hs (x:Ln):(StrLaws.sliceText (cM x) none (some ((4:Nat):Int))=Str.ofString "hat ")↔(iL x).isSome=true:=by
 have e:=fe (x:=cM x) 4
 cases x with
 | bY n c=>
  have a:cz (cM<|.bY n c)=cz (Str.ofString "hat")++cz (⟨#[32]⟩:Str)++cz (Str.join ⟨#[32]⟩ [n,fk c]):=bj _ _ _ _;refine⟨λ_=>rfl,λ_=>ux ?_⟩;rw[e,a,GE Dk0]
  decide +kernel
 | sees n l=>
  have a:cz (cM<|.sees n l)=cz (Str.ofString "sees")++cz (⟨#[32]⟩:Str)++cz (Str.join ⟨#[32]⟩ (n::l)):=bj _ _ _ _;refine⟨λh=>?_,λh=>by cases h⟩
  rw[h,a,GE Dk0] at e
  exact absurd e Dk0
def OX (x:Ln):(StrLaws.sliceText (cM x) none (some ((5:Nat):Int))=Str.ofString "sees ")↔(iL x).isSome=false:=by
 have e:=fe (x:=cM x) 5
 cases x with
 | bY n c=>
  have a:cz (cM<|.bY n c)=cz (Str.ofString "hat")++cz (⟨#[32]⟩:Str)++cz (Str.join ⟨#[32]⟩ [n,fk c]):=bj _ _ _ _;refine⟨λh=>?_,λh=>by cases h⟩
  rw[h,a] at e;have b:=Re (λl=>l.getD 0 0) e;exact absurd b (by
   show ¬ ((cz<|Str.ofString "sees ").getD 0 0=((cz (Str.ofString "hat")++cz (⟨#[32]⟩:Str)++_).take 5).getD 0 0);rw[show cz (Str.ofString "hat")=[104,97,116] by decide +kernel]
   show ¬ ((cz<|Str.ofString "sees ").getD 0 0=104)
   decide +kernel)
 | sees n l=>
  have a:cz (cM<|.sees n l)=cz (Str.ofString "sees")++cz (⟨#[32]⟩:Str)++cz (Str.join ⟨#[32]⟩ (n::l)):=bj _ _ _ _;refine⟨λ_=>rfl,λ_=>ux ?_⟩;rw[e,a,GE Dk0]
  decide +kernel
def jl (h:eB x):wz (cM x)=gU x:=by
 have hw:=gW h;exact dR 32 (by intro z;rw[z] at hw;exact absurd hw.2.2 ad) λy hy=>(hw.1 y hy).1
def Ht {y:Ln}(hx:eB x)(hy:eB y)(e:cM x=cM y):gU x=gU y:=by
 rw[<-jl hx,<-jl hy,e]
def iN {α β:Type}(p:α->Bool)(g:α->β)(d:α)(M:List α):((List.range M.length).filter λi=>p<|M.getD i d).map (λi=>g<|M.getD i d)=(M.filter p).map g:=by
 have e:(List.range M.length).map (λi=>M.getD i d)=M:=by
  refine ext_getElem (by rw[b5,pS]) λi h1 a=>?_
  rw[List.getElem_map,List.getElem_range,b3,b4 a];rfl
 conv=>rhs;rw[<-e]
 rw[List.filter_map,kb];rfl
theorem lO:∀ (M:List Ln),(M.filter λx=>(iL x).isSome).map (λx=>(gU x).getD 1 aE)=M.filterMap iL
 | []=>rfl
 | .bY n c::r=>by
  rw[List.filter_cons_of_pos rfl,rr,lO r];rfl
 | .sees n l::r=>by
  rw[List.filter_cons_of_neg (λz=>by cases z),lO r];rfl
def Hu (nd:ns.Nodup)(h:∀ y∈l,y∈ns)(hl:l.Nodup):(kX ns.length<|cF ns l).map (λj=>ns.getD j aE)=ns.filter λy=>decide (y∈l):=by
 obtain⟨c,a,d⟩:=w4 h hl;have e:(List.range ns.length).filter (λj=>decide<|cF ns l / 2 ^ j % 2=1)=(List.range ns.length).filter λj=>decide (ns.getD j aE∈l):=by
  refine List.filter_congr λj hj=>?_;have hj:=kf.mp hj;have hb:=eA a j;rw[<-c,uU] at hb;rw[hb];refine Vt.mpr ⟨λz=>?_,λz=>?_⟩
  ·obtain⟨y,hy,b⟩:=j9.mp z;rw[<-b,iM<|h y hy];exact hy
  ·exact j9.mpr ⟨_,z,wZ nd hj⟩
 unfold kX;rw[e]
 have:=iN (λy=>decide<|y∈l) (λy:Str=>y) aE ns
 rw[List.map_id'] at this;exact this
def Hv (ns:List Str)(x:Str):Option (List Str)->List Str
 | none=>[]
 | some l=>[cM (.sees x<|ns.filter λy=>decide<|y∈l)]
def kP (M:List Ln)(ns:List Str)(k:Nat):List Str:=((ns.take k).map λx=>Hv ns x<|M.findSome?<|eO x).flatten
def pj {k:Nat}(h:k<ns.length):kP M ns (k+1)=kP M ns k++Hv ns (ns.getD k aE) (M.findSome?<|eO<|ns.getD k aE):=by
 unfold kP;rw[take_add_one,b4 h,eH,List.flatten_append,b3,b4 h]
 simp
def zk (h:pT M b):(cf b.ns b.ws).map (λx=>cM<|jf b.ns b.cs x)=((M.filter λx=>(iL x).isSome).map cM)++kP M b.ns b.ns.length:=by
 unfold cf;rw[eH,h.qv]
 congr 1
 ·rw[kb,kb];rfl
 ·unfold kP;have d:∀ n,n<=b.ns.length->(((List.range n).filter λi=>decide<|b.ws.getD i 0≠0).map λi=>Mx.sees i<|kX b.ns.length<|b.ws.getD i 0).map (λx=>cM<|jf b.ns b.cs x)=((b.ns.take n).map λx=>Hv b.ns x<|M.findSome?<|eO x).flatten:=by
   intro n
   induction n with
   | zero=>intro _;rfl
   | succ n c=>
    intro hn;have a:n<b.ns.length:=hn;have c:=c<|Nat.le_of_lt a;have f:=pj (M:=M) a;unfold kP at f;rw[f,<-c,Me,G4,eH,eH]
    congr 1
    have hw:=h.Pl n a
    cases e:M.findSome? (eO<|b.ns.getD n aE) with
    | none=>
     rw[e] at hw;rw[List.filter_cons_of_neg (by rw[hw];show ¬ decide ((0:Nat)≠0)=true;decide)];rfl
    | some l=>
     rw[e] at hw;have hm:=gH e;have g:SV (b.ns.getD n aE::l):=h.ok _ hm;have hw:b.ws.getD n 0=cF b.ns l:=hw;rw[List.filter_cons_of_pos (by rw[hw];exact cc<|nF<|h.ok _ hm)]
     show [cM (.sees (b.ns.getD n aE)<|(kX b.ns.length<|b.ws.getD n 0).map λj=>b.ns.getD j aE)]=[cM (.sees (b.ns.getD n aE)<|b.ns.filter λy=>decide<|y∈l)];rw[hw,Hu h.nd (h.sees _ l hm).2.1 (AC.mp g.nd).2]
  exact d _<|ea _
def qp (du:Addr)(H:Hp):List (Key × V)->List (Str × List Str)->Prop
 | [],[]=>True
 | (k,v)::r,(n,l)::P=>(k=.inr n/\∃ a,v=.ref a/\a≠du/\H a=some (.lst<|l.map V.str))/\qp du H r P
 | [],_::_=>False
 | _::_,[]=>False
def qr (x:Str)(p:Str × List Str):Option (List Str):=if p.1=x then some p.2 else none
variable {du:Addr}
theorem qp.mono (s:∀ a ys,a≠du->H a=some (.lst ys)->H' a=some (.lst ys)):∀ {kvs:List (Key × V)} {P:List (Str × List Str)},qp du H kvs P->qp du H' kvs P
 | [],[],_=>trivial
 | (_,_)::_,(_,_)::_,⟨⟨e,a,b,n,h⟩,t⟩=>⟨⟨e,a,b,n,s _ _ n h⟩,qp.mono s t⟩
 | [],_::_,h=>h.elim
 | _::_,[],h=>h.elim
theorem qp.snoc (hn:a≠du)(ha:H a=some (.lst<|l.map V.str)):∀ {kvs:List (Key × V)} {P:List (Str × List Str)},qp du H kvs P->qp du H (kvs++[(.inr n,.ref a)]) (P++[(n,l)])
 | [],[],_=>⟨⟨rfl,a,rfl,hn,ha⟩,trivial⟩
 | (_,_)::_,(_,_)::_,⟨h,t⟩=>⟨h,qp.snoc hn ha t⟩
 | [],_::_,h=>h.elim
 | _::_,[],h=>h.elim
theorem qp.len:∀ {kvs:List (Key × V)} {P:List (Str × List Str)},qp du H kvs P->kvs.length=P.length
 | [],[],_=>rfl
 | (_,_)::_,(_,_)::_,⟨_,t⟩=>by rw[ls,ls,qp.len t]
 | [],_::_,h=>h.elim
 | _::_,[],h=>h.elim
variable {x:Str}
theorem qp.none:∀ {kvs:List (Key × V)} {P:List (Str × List Str)},qp du H kvs P->P.findSome? (qr x)=Option.none->cP kvs (.inr x)=Option.none
 | [],[],_,_=>rfl
 | (k,v)::r,(n,l)::P,⟨⟨e,a,b,_,h⟩,t⟩,f=>by
  rw[findSome?_cons] at f
  by_cases c:n=x
  ·rw[show qr x (n,l)=some l from if_pos c] at f;cases f
  ·rw[show qr x (n,l)=Option.none from if_neg c] at f
   rw[e,ck λz=>c<|Sum.inr.inj z,qp.none t f]
 | [],_::_,h,_=>h.elim
 | _::_,[],h,_=>h.elim
theorem qp.some:∀ {kvs:List (Key × V)} {P:List (Str × List Str)},qp du H kvs P->P.findSome? (qr x)=Option.some l->∃ a,cP kvs (.inr x)=Option.some (.ref a)/\H a=Option.some (.lst<|l.map V.str)
 | [],[],_,f=>by cases f
 | (k,v)::r,(n,b)::P,⟨⟨e,a,i,_,h⟩,t⟩,f=>by
  rw[findSome?_cons] at f
  by_cases c:n=x
  ·rw[show qr x (n,b)=Option.some b from if_pos c] at f
   cases f
   exact⟨a,by rw[e,c,i];exact cB rfl,h⟩
  ·rw[show qr x (n,b)=Option.none from if_neg c] at f
   obtain⟨a,g,d⟩:=qp.some t f;exact⟨a,by rw[e,ck λz=>c<|Sum.inr.inj z,g],d⟩
 | [],_::_,h,_=>h.elim
 | _::_,[],h,_=>h.elim
theorem lP (x:Str):∀ M:List Ln,(M.filterMap hZ).findSome? (qr x)=M.findSome? (eO x)
 | []=>rfl
 | .bY n c::r=>by
  rw[show (Ln.bY n c::r).filterMap hZ=r.filterMap hZ from rfl,lP x r];rfl
 | .sees n l::r=>by
  rw[show (Ln.sees n l::r).filterMap hZ=(n,l)::r.filterMap hZ from rfl,findSome?_cons,findSome?_cons,lP x r];rfl
theorem Bz {x:Str}:∀ {P:List (Str × List Str)},x∉P.map (·.1)->P.findSome? (qr x)=none
 | [],_=>rfl
 | (n,l)::r,h=>by
  rw[rr,gd,not_or] at h;rw[findSome?_cons,show qr x (n,l)=none from if_neg λe=>h.1 e.symm]
  exact Bz h.2
def pT.fresh (h:pT M b){k:Nat}(hk:M[k]?=some (.sees n l)):((M.take k).filterMap hZ).findSome? (qr n)=none:=by
 refine Bz λz=>?_;have e:M=M.take k++(Ln.sees n l::M.drop (k+1)):=by
  have c:k<M.length:=(ka.mp hk).1
  have:=take_append_drop k M
  rw[drop_eq_getElem_cons c,(ka.mp hk).2] at this;exact this.symm
 have a:=h.snd;rw[e,GM,eH] at a;exact(Os.mp a).2.2 n z n eR rfl
def BA (K:Frag)(cH cD:Addr):Sp:=λa H Q _=>∃ (d hl l:Addr) (M:List Ln) (b:Bk) (L:B0L),a=[.ref d,.ref l]/\H l=some (.lst<|(M.map cM).map V.str)/\pT M b/\M.length<=30/\(∀ x∈M,(cM x).length<=400)/\jN K cH cD H d hl b.ns b.cs b.ws L (List.replicate b.cs.length 0)/\eL b.ns b.cs b.ws L (List.replicate b.cs.length 0)/\∀ H',ag H H'->Q (.bl true) H'
def OY (H0:Hp)(d l nm sd du:Addr)(M:List Ln)(k:Nat)(σ:L2.St)(H:Hp):Prop:=∃ (kvs:List (Key × V)) (y5:Option V),σ=[some (.ref d),some<|.ref l,some<|.ref nm,some<|.ref sd,some<|.ref du,y5,none,none,none]/\Off sd H0 H/\H sd=some (.dK kvs)/\qp du H kvs ((M.take k).filterMap hZ)
def zl (k:Nat)(hk:k<=100):(StrLaws.sliceText z none<|some (k:Int)).length<=sizeLine:=by
 rw[aw,fe,tz];exact de (by omega)
def OZ (H0:Hp)(d l nm sd du:Addr)(y5:Option V)(M:List Ln)(b:Bk)(k:Nat)(σ:L2.St)(H:Hp):Prop:=∃ y6:Option V,σ=[some (.ref d),some<|.ref l,some<|.ref nm,some<|.ref sd,some<|.ref du,y5,y6,none,none]/\Off du H0 H/\H du=some (.lst<|(((M.filter λx=>(iL x).isSome).map cM)++kP M b.ns k).map V.str)
def Hw:∀ k,(kP M ns k).length<=ns.length:=λk=>by
 unfold kP
 have:∀ l:List Str,((l.map λx=>Hv ns x<|M.findSome?<|eO x).flatten).length<=l.length:=by
  intro l
  induction l with
  | nil=>exact ea _
  | cons x r a=>
   rw[rr,List.flatten_cons,ed,ls]
   have:(Hv ns x<|M.findSome?<|eO x).length<=1:=by
    cases M.findSome? (eO x) with
    | none=>exact zero_le _
    | some _=>exact ea _
   omega
 exact fz (this _) (by rw[tz];omega)
def Sm (n:Str):Str.ofString "hat "++n++Str.ofString " 1"=cM (.bY n 1):=by
 refine ux ?_;have e:cz (cM<|.bY n 1)=cz (Str.ofString "hat")++cz (⟨#[32]⟩:Str)++cz (Str.join ⟨#[32]⟩ [n,fk 1]):=bj _ _ _ _;rw[e,bj,cO,cO,show cz (Str.ofString "hat ")=cz (Str.ofString "hat")++cz (⟨#[32]⟩:Str) by decide +kernel,show cz (Str.ofString " 1")=cz (⟨#[32]⟩:Str)++cz (Str.join ⟨#[32]⟩ [fk 1]) by decide +kernel]
 simp only[List.append_assoc]
def pT.one (h:pT M b)(hy:y∈b.ns)(hm:cM (.bY y 1)∈M.map cM):∃ k,k<b.ns.length/\y=b.ns.getD k aE/\b.cs.getD k 0=1:=by
 obtain⟨x,hx,e⟩:=j9.mp hm;have f:=h.Ip.nm.nm y hy;have r:eB (.bY y 1):=⟨f,ad,ad⟩
 have g:=Ht (h.ok x hx) r e
 cases x with
 | sees n l=>exact absurd (Pp g).1 Dk0
 | bY n c=>
  have q:n=y:=(Pp (Pp g).2).1;have o:fk c=fk 1:=(Pp (Pp (Pp g).2).2).1;have hc:=h.ok _ hx;have m:=(cq hc.2.1 hc.2.2).2;have p:=(cq (n:=1) ad ad).2
  rw[show Str.ofString (toString ((c:Nat):Int))=_ from o,p] at m
  have s:c=1:=by have:=tx m;omega
  subst q s;have a:Ln.bY n 1∈(List.range b.ns.length).map (OW b):=by rw[<-h.qv];exact tp.mpr ⟨hx,rfl⟩
  obtain⟨k,hk,j⟩:=j9.mp a;have j:Ln.bY (b.ns.getD k aE) (b.cs.getD k 0)=Ln.bY n 1:=j
  injection j with d i
  exact⟨k,kf.mp hk,d.symm,i⟩
def O0 {x:Ln}(h:eB x):lN (cM x):=by
 refine lN.join ad λy hy=>?_
 cases x with
 | bY n c=>
  rcases gd.mp hy with rfl | hy
  ·unfold lN;decide +kernel
  ·rcases gd.mp hy with rfl | hy
   ·exact lN.low (dj h.1).1
   ·rw[dt.mp hy];exact(lN.pf (i:=(c:Int)) (Int.natCast_nonneg c) :)
 | sees n l=>
  rcases gd.mp hy with rfl | hy
  ·unfold lN;decide +kernel
  ·exact lN.low (dj<|h.nm y hy).1
def sx (D:eL ns cs ws L (List.replicate cs.length 0)){k:Nat}(hk:k<ns.length)(h1:cs.getD k 0=1):vV (aK cs) L (List.replicate cs.length 0) k=0/\k∈dF (aK cs) (List.replicate cs.length 0) L:=by
 have P:=D.Ip;have a:=AQ P.OS.pos D.qv D.KZ (by rw[ak,P.lc];exact hk)
 rw[bg,h1] at a;have e:vV (aK cs) L (List.replicate cs.length 0) k=0:=by omega
 refine⟨e,?_⟩;unfold dF;refine tp.mpr ⟨kf.mpr ?_,?_⟩
 ·first
   | (rw[ak,P.lc];exact hk)
   | (rw[length_replicate,P.lc];exact hk)
 ·rw[e];refine cc ?_;rw[b3,List.getElem?_replicate]
  split<;>rfl
variable {R:List Nat}
def Hx {k:Nat}(hn:∀ x∈ns,br x=true)(hR:∀ i∈R,i<ns.length)(hk:k∈R):ns.getD k aE∈Txt.split (Str.join ⟨#[32]⟩<|iK ns R) ⟨#[32]⟩:=by
 have a:R≠[]:=λz=>by rw[z] at hk;cases hk
 unfold iK;rw[if_neg a];show _∈Txt.split (jO ns R) ⟨#[32]⟩;unfold jO;rw[dR 32 (λz=>a<|Vl.mp z) λx hx=>by
  obtain⟨i,b,rfl⟩:=j9.mp hx;exact(dU<|hn _<|getD_memS<|hR i b).1]
 exact j9.mpr ⟨k,hk,rfl⟩
def w8 (hn:∀ x∈ns,br x=true)(hR:nE ns R):((iK ns R).map λz=>z.length+1).sum<=200/\(Str.join ⟨#[32]⟩<|iK ns R).length<=200:=by
 have a:(jO ns R).length<=150:=by
  unfold jO;have h1:=fm 32<|R.map λi=>ns.getD i aE;have b:=eK 12 (R.map λi=>ns.getD i aE) λx hx=>by
   obtain⟨i,c,rfl⟩:=j9.mp hx;exact hR.nm _<|getD_memS<|hR.lt i c
  rw[b5] at b
  have:=hR.fC
  have d:R.length*13<=8*13:=yx _ this
  omega
 unfold iK
 split
 ·exact⟨zero_le _,zero_le _⟩
 ·refine⟨?_,?_⟩
  ·show (jO ns R).length+1+0<=200;omega
  ·show (jO ns R).length<=200;omega
def UQ:AK->Prop
 | .told k=>k=.book
 | .put _ _=>False
 | _=>True
def T8 (ns:List Str)(cs ws:List Nat)(L:B0L)(hs:List Int):AK->List Str
 | .told _=>(cf ns ws).map λx=>cM<|jf ns cs x
 | .right=>iK ns<|dF (aK cs) hs L
 | .hV i=>[pf (vV (aK cs) L hs i)]
 | .put _ _=>[]
def BB (K:Frag):Sp:=λa H Q _=>∃ (b g:Addr) (ns:List Str) (cs ws:List Nat),a=[.ref b,.ref g,.str<|ze .book]/\Io K H b ⟨ns,cs,ws⟩/\mB ns cs ws/\∀ l H',ag H H'->H l=none->H' l=some (.lst<|((cf ns ws).map λx=>cM<|jf ns cs x).map V.str)->Q (.ref l) H'
def Hy (K:Frag)(cH cD:Addr):Sp:=λb H Q _=>∃ (d hl:Addr) (ns:List Str) (cs ws:List Nat) (L:B0L) (hs:List Int) (a:AK),b=[.ref d,.str<|Str.join ⟨#[32]⟩<|mP ns a]/\jN K cH cD H d hl ns cs ws L hs/\eL ns cs ws L hs/\Hj ns a/\UQ a/\∀ l H',ag H H'->H l=none->H' l=some (.lst<|(T8 ns cs ws L hs a).map V.str)->Q (.ref l) H'
structure pq (ns:List Str)(cs:List Nat)(M:List Mx):Prop where
 bY:∀ j,j<ns.length->Mx.bY j∈M
 ok:∀ x∈M,eB (jf ns cs x)/\(gU<|jf ns cs x).length<=10
def lQ (P:mB ns cs ws):∀ y∈(cf ns ws).map (jf ns cs),eB y:=λy hy=>by
 obtain⟨x,hx,rfl⟩:=j9.mp hy
 rcases eG.mp hx with hx | hx
 ·obtain⟨j,hj,rfl⟩:=j9.mp hx;exact tZ P<|kf.mp hj
 ·obtain⟨i,a,rfl⟩:=j9.mp hx;obtain⟨h1,b⟩:=tp.mp a;exact uc P (kf.mp h1) (List.Perm.refl _)<|(Ms P<|kf.mp h1).mpr<|h9 b
def pq.start (P:mB ns cs ws):pq ns cs ((List.range ns.length).map Mx.bY) where
 bY:=λj hj=>List.mem_map_of_mem (kf.mpr hj)
 ok:=λx hx=>by
  obtain⟨j,hj,rfl⟩:=j9.mp hx;exact⟨tZ P<|kf.mp hj,by show 3<=10;decide⟩
variable {M:List Mx}
def pq.idx (h:pq ns cs M)(hj:j<ns.length):jz ns cs (.bY j)∈M.map (jz ns cs)/\(M.map<|jz ns cs).idxOf (jz ns cs<|.bY j)<M.length:=by
 have h1:jz ns cs (.bY j)∈M.map (jz ns cs):=j9.mpr ⟨_,h.bY j hj,rfl⟩;have a:=kc.mpr h1;rw[b5] at a;exact⟨h1,a⟩
def pq.ins {ns:List Str}{cs:List Nat}{M:List Mx}(h:pq ns cs M){q:Nat}{x:Mx}(hx:eB (jf ns cs x)/\(gU<|jf ns cs x).length<=10):pq ns cs (cZ M q x) where
 bY:=λj hj=>by
  have:=h.bY j hj
  unfold cZ;rw[<-take_append_drop q M] at this
  rcases eG.mp this with z | z
  ·exact C1 _ z
  ·exact ro _ (fA _ z)
 ok:=λy hy=>by
  unfold cZ at hy
  rcases eG.mp hy with z | z
  ·exact h.ok y<|UW z
  ·rcases gd.mp z with rfl | z
   ·exact hx
   ·exact h.ok y<|FS z
def pq.lines (h:pq ns cs M):∀ x∈M.map (jz ns cs),fW 310 x/\∀ w∈wz x,w.length<=30:=λy hy=>by
 obtain⟨x,hx,rfl⟩:=j9.mp hy;obtain⟨h1,a⟩:=h.ok x hx;refine⟨fW.glue (m:=10) (b:=30) (RR h1) a ad,?_⟩
 rw[show wz (jz ns cs x)=gU (jf ns cs x) from jl h1]
 exact λw hw=>((gW h1).1 w hw).2.2
def O1 (H0:Hp)(b dr a1 a2 a3 l o:Addr)(ns:List Str)(cs od:List Nat)(k:Nat)(σ:St)(H:Hp):Prop:=∃ (M:List Mx) (y6 y8 y9 y10 y11 y12:Option V),σ=[some (.ref b),some<|.ref dr,some<|.ref a1,some<|.ref a2,some<|.ref a3,some<|.ref l,y6,some<|.ref o,y8,y9,y10,y11,y12]/\ag H0 H/\H o=some (.lst<|(aK od).map V.int)/\H l=some (.lst<|(M.map<|jz ns cs).map V.str)/\pq ns cs M/\M.length<=ns.length+k
def w9:Sp:=λa H Q _=>∃ (b dr:Addr) (ns:List Str) (cs ws:List Nat) (dn:List Int),a=[.ref b,.ref dr]/\rS H b ns cs ws/\mB ns cs ws/\H dr=some (.lst<|dn.map V.int)/\dn.length=40/\(∀ x∈dn,0<=x)/\
 ∀ l G H',ag H H'->H l=none->H' l=some (.lst<|G.map V.str)->(∀ x∈G,fW 310 x/\∀ w∈wz x,w.length<=30)->(2<=ns.length->G≠[])->G.length<=16->Q (.ref l) H'
variable {a b:Expr}{ta tb:TE}
def fh {pos:Pos}(ha:QE X a ta)(hb:QE X b tb)(hs:nk b:=by exact λ_ _=>rfl):QE X (.Subscript a b pos) (sM (lp X.K) ta tb):=nY (df rfl) ha hb hs
def O2 {pos:Pos}(ha:QE X a ta)(hb:QE X b tb)(hs:nk b:=by exact λ_ _=>rfl):QE X (.Subscript a b pos) (sM (B0 X.K) ta tb):=nY (eU rfl) ha hb hs
def cp {pos pos':Pos}(ha:QE X a ta):QE X (.Subscript a (.Constant (.int i) j pos') pos) (sM (lp X.K) ta<|tC<|.int i):=nY (df rfl) ha aq λ_ _=>rfl
def kZ {pos pos':Pos}(ha:QE X a ta):QE X (.Subscript a (.Constant (.int i) j pos') pos) (sM (B0 X.K) ta<|tC<|.int i):=nY (eU rfl) ha aq λ_ _=>rfl
def aa (ha:QE X e te)(hn:EL e=true:=by rfl):QB X [e] (vn te vm):=ah ha bF hn
end L2
namespace K77
open PySem L2 PyProof.Rows
def top (i:Nat):Stmt:=PySem.Challenge.pw_hatsight_k77_texts.main.body.getD i<|.Pass ⟨0,0,0,0⟩
abbrev dm:Stmt:=top 1
abbrev uy:Stmt:=top 2
abbrev zm:Stmt:=top 3
abbrev lR:Stmt:=top 4
abbrev fD:Stmt:=top 5
abbrev gY:Stmt:=top 18
abbrev pv:Stmt:=top 20
abbrev zo:Stmt:=top 21
abbrev iO:Stmt:=top 22
abbrev lS:Stmt:=top 23
abbrev fY:Stmt:=top 24
abbrev jP:Stmt:=top 25
abbrev Iq:Stmt:=top 26
abbrev gZ:Stmt:=top 27
abbrev g4:Stmt:=top 28
abbrev uz:Stmt:=top 30
abbrev jQ:Stmt:=top 31
abbrev fZ:Stmt:=top 32
abbrev pw:Stmt:=top 33
abbrev g5:Stmt:=top 34
abbrev iP:Stmt:=top 35
abbrev f7:Stmt:=top 36
abbrev f9:Stmt:=top 37
abbrev g6:Stmt:=top 38
abbrev fE:Stmt:=top 39
abbrev jR:Stmt:=top 40
abbrev gh:Stmt:=top 41
abbrev gj:Stmt:=top 42
abbrev O3:Stmt:=top 44
abbrev lT:Stmt:=top 52
abbrev jS:Stmt:=top 53
abbrev gk:Stmt:=top 54
abbrev fF:Stmt:=top 55
abbrev cU:Stmt:=top 56
abbrev lU:Stmt:=top 57
abbrev iQ:Stmt:=top 58
abbrev lV:Stmt:=top 59
abbrev iR:Stmt:=top 60
abbrev g7:Stmt:=top 61
abbrev zp:Stmt:=top 64
abbrev pz:Stmt:=top 65
abbrev iS:Stmt:=top 66
abbrev uA:Stmt:=top 67
abbrev Ir:Stmt:=top 68
abbrev Iu:Stmt:=top 69
abbrev lW:Stmt:=top 70
abbrev iT:Stmt:=top 73
abbrev Iv:Stmt:=top 74
abbrev iU:Stmt:=top 75
abbrev iV:Stmt:=top 76
abbrev iW:Stmt:=top 77
abbrev dG:Stmt:=top 78
abbrev iX:Stmt:=top 79
abbrev eP:Stmt:=top 80
abbrev iY:Stmt:=top 81
abbrev gm:Stmt:=top 82
abbrev gn:Stmt:=top 83
abbrev iZ:Stmt:=top 84
abbrev fG:Stmt:=top 85
abbrev dH:Stmt:=top 86
abbrev i3:Stmt:=top 87
abbrev i4:Stmt:=top 88
abbrev kQ:Stmt:=top 89
abbrev eQ:Stmt:=kD (top 45) 0
abbrev Hz:Stmt:=kD (top 45) 1
abbrev O4:Stmt:=kD (top 45) 2
abbrev MI:Stmt:=kD (top 45) 3
abbrev g9:Stmt:=kD (top 45) 4
abbrev hJ:Stmt:=kD (top 45) 5
abbrev bT:Stmt:=kD (top 71) 0
abbrev jT:Stmt:=kD (top 71) 1
abbrev bE:Stmt:=kD (top 8) 0
structure Bn (mg:Str->Option Value):Prop where
 range:mg "range"=none
 len:mg "len"=none
 sum:mg "sum"=none
 max:mg "max"=none
 isinstance:mg "isinstance"=none
 int:mg "int"=none
 bool:mg "bool"=none
 str:mg "str"=none
 tuple:mg "tuple"=none
 list:mg "list"=none
 sorted:mg "sorted"=none
 set:mg "set"=none
 all:mg "all"=none
 any:mg "any"=none
 zip:mg "zip"=none
 enumerate:mg "enumerate"=none
 ValueError:mg "ValueError"=none
structure Cs (mg:Str->Option Value):Prop where
 Lj:∃ t,mg "LETTERS"=some (.str "abcdefghijklmnopqrstuvwxyz" t)
 Lh:∃ t,mg "FIGURES"=some (.str "0123456789" t)
 uJ:∃ t,mg "LONGEST_NAME"=some (.int 12 t)
 qw:∃ t,mg "LONGEST_COUNT"=some (.int 30 t)
 xk:∃ t,mg "MOST_PEOPLE"=some (.int 8 t)
abbrev mQ:List Str:=["LineError","HatError","NoLine","Twice","Unknown","TooMany"]
local macro_rules | `(tactic| walk_at $s) => do
 let l<-match s.getString with | "d" => `(Lean.Parser.Tactic.simpLemma| Qn) | "r0" => `(Lean.Parser.Tactic.simpLemma| yp) | _ => Lean.Macro.throwUnsupported
 `(tactic| try simp only [L2.start,map_cons,map_nil,length_cons,length_nil,List.replicate,cons_append,List.nil_append,append_nil,set_cons_zero,set_cons_succ,Nat.reduceAdd,Nat.reduceSub,yp,EK,Th,NS,Qc,Ly,Qd,Qe,Qf,Qg,Ez,Lz,yo,EA,Qh,EB,EC,LB,ED,LC,Al,LD,LF,EE,EF,Qi,LG,LH,Qj,LJ,Mg,FF,Mh,Gp,Mo,Mp,Mq,Gj,Gd,FG,Qk,vE,EG,Ql,Qm,iq,EH,EI,LK,LL,LM,tm,LN,Am,EJ,An,AU,Rb,FA,MC,wC,RO,RI,My,GA,GB,Bm,G8,G9,Gz,GR,Bl,Gw,He,MG,Fp,Fq,Fs,Ft,rp,LA,FO,QV,QX,JN,Tw,tL,bitAnd_m1,Q4,QY,QZ,LY,LO,LQ,EV,EW,QF,mr,LR,Bool.false_eq_true,LS,LU,LV,QH,QK,Bool.not_true,Bool.not_false,decide_eq_true_eq,$l:simpLemma])
local macro_rules | `(tactic| omega) => `(tactic| first | with_reducible assumption | with_reducible exact Nat.le_of_lt (by assumption) | with_reducible exact Nat.le_trans (by assumption) (by decide) | with_reducible exact Nat.lt_of_le_of_lt (by assumption) (by decide) | with_reducible exact Nat.lt_of_lt_of_le (by assumption) (by decide) | with_reducible exact Nat.lt_of_lt_of_le (by assumption) (by assumption) | with_reducible exact Nat.lt_of_le_of_lt (by assumption) (by assumption) | with_reducible exact Nat.le_trans (by assumption) (by assumption) | with_reducible exact Nat.le_trans (by assumption) (Nat.le_trans (by assumption) (by decide)) | with_reducible exact Nat.le_of_lt (Nat.lt_of_lt_of_le (by assumption) (by decide)) | with_reducible exact Nat.le_trans (Nat.le_of_lt (by assumption)) (Nat.le_trans (by assumption) (by decide)) | with_reducible exact Nat.lt_of_lt_of_le (by assumption) (Nat.le_trans (by assumption) (by decide)) | with_reducible exact Int.natCast_nonneg _ | with_reducible exact Int.ofNat_lt.mpr (by assumption) | with_reducible exact Int.ofNat_le.mpr (by assumption) | with_reducible exact Int.ofNat_lt.mp (by assumption) | decide | omega +splitDisjunctions)
set_option hygiene false in
local macro_rules | `(tactic| walk_at"s") => `(tactic| ((try with_reducible refine zH _ _ ?_); (walk_at"r0"); try (with_reducible refine zH _ _ ?_; walk_at"r0")))
set_option hygiene false in
local macro_rules | `(tactic| walk_at"g") => `(tactic| ((try with_reducible refine zH _ _ ?_); refine T2 λzR zH => ?_))
local macro_rules | `(tactic| walk_at"h") => `(tactic| (walk_at"g";walk_at"s"))
local macro_rules | `(tactic| walk_at"i") => `(tactic| (walk_at"s";walk_at"g";walk_at"s"))
set_option hygiene false in
local macro_rules | `(tactic| walk_at"hI") => `(tactic| (intro X S e1 e2 e3 e4 e5 hc hsc hxe hr hu H vs Q E h; subst e1 e2 e3 e4 e5))
set_option hygiene false in
local macro_rules | `(tactic| walk_at"hH") => `(tactic| (refine D.gq zY (by walk_at"hB") (by walk_at"hL") ?_; walk_at"hI"))
set_option hygiene false in
local macro_rules | `(tactic| walk_at"hB") => `(tactic| (intro _ _ _ _ _ _ us hl; first | (obtain ⟨_, rfl⟩ := RZ hl; rfl) | (obtain ⟨_, _, rfl⟩ := R0 hl; rfl) | (obtain ⟨_, _, _, rfl⟩ := R4 hl; rfl) | (obtain ⟨_, _, _, _, rfl⟩ := R5 hl; rfl) | (obtain ⟨_, _, _, _, _, rfl⟩ := T1 hl; rfl)))
set_option hygiene false in
local macro_rules | `(tactic| walk_at"hL") => `(tactic| (intro vs H Q E h; first | (obtain ⟨_, rfl, _⟩ := h; rfl) | (obtain ⟨_, _, rfl, _⟩ := h; rfl) | (obtain ⟨_, _, _, rfl, _⟩ := h; rfl) | (obtain ⟨_, _, _, _, rfl, _⟩ := h; rfl) | (obtain ⟨_, _, _, _, _, rfl, _⟩ := h; rfl) | (obtain ⟨_, _, _, _, _, _, rfl, _⟩ := h; rfl) | (obtain ⟨_, _, _, _, _, _, _, rfl, _⟩ := h; rfl) | (obtain ⟨_, _, _, _, _, _, _, _, rfl, _⟩ := h; rfl) | (obtain ⟨_, _, _, _, _, _, _, _, _, rfl, _⟩ := h; rfl)))
variable {P:Program}{w:World}{K:Frag}{mg:Str->Option Value}{base:Heap}
def De (B:Bn mg)(KC:Cs mg)(D:Def K mg "is_name" lT):Fn P w K mg base 1 "is_name" ["word"] ky:=by
 have zY:DS (aj lT) ["word"] ["word"] ["LONGEST_NAME","len","all"]:=aQ;walk_at"hH";obtain⟨z,rfl,hz,q⟩:=h;refine⟨_,(ae (cj (qc<|EZ nN nN aq (cE S 1 dB B.len oD<|aa<|kv S 0)<|Ow S 0 KC.uJ) (ai<|aI vF) av)
   (ai (aI (cE S 2 (cY hc rfl) B.all boot_all (aa (ju S hc hsc (AV (kv S 0) rfl) (N:=["sign"]) (W:=["sign"]) (G:=["LETTERS"]) (fv:=[none]) Dk0 (λi C g s H a=>⟨(kg a 0),bG,(gO qR (kv a 0) (Rm a 0 KC.Lj) (by with_unfolding_all rfl))⟩))))))),?_⟩
 cbv;refine⟨z,rfl,jd hz,?_⟩;have d:¬ (1<=z.length/\z.length<=12)->Q (.bl false) H:=λc=>by
  have:=q H<|ag.refl _
  unfold br at this;rw[dy c,q5] at this;exact this
 refine bp (λc=>?_) (λc=>d (by omega))
 refine bp (λb=>d (by simp at b;omega)) λb=>?_
 refine⟨z,rfl,wc hz λe f=>?_⟩
 have:=q e f
 unfold br at this;rw[cc (show 1<=z.length/\z.length<=12 by simp at b;omega),o6] at this
 exact this
def zq (B:Bn mg)(KC:Cs mg)(D:Def K mg "is_count" jS):Fn P w K mg base 1 "is_count" ["word"] lD:=by
 have zY:DS (aj jS) ["word"] ["word"] ["LONGEST_COUNT","len","all"]:=aQ;walk_at"hH";obtain⟨z,rfl,hz,q⟩:=h;refine⟨_,(ae (cj (xT<|Ik (qc<|EZ nN nN aq (cE S 1 dB B.len oD<|aa<|kv S 0)<|Ow S 0 KC.qw)<|qb<|aL aM (nY sT (kv S 0) aq λ_ _=>rfl) aU<|ao _) (ai<|aI vF) av)
   (ai (aI (cE S 2 (cY hc rfl) B.all boot_all (aa (ju S hc hsc (AV (kv S 0) rfl) (N:=["sign"]) (W:=["sign"]) (G:=["FIGURES"]) (fv:=[none]) Dk0 (λp C o s H i=>⟨(kg i 0),bG,(gO qR (kv i 0) (Rm i 0 KC.Lh) (by with_unfolding_all rfl))⟩))))))),?_⟩
 cbv;refine⟨z,rfl,jd hz,?_⟩;have l:¬ (1<=z.length/\z.length<=30)->Q (.bl false) H:=λc=>by
  have:=q H<|ag.refl _
  unfold bX at this;rw[dy c,q5] at this;exact this
 refine bp (λc=>?_) (λc=>l (by omega))
 refine bp (λd=>l (by simp at d;omega)) λd=>?_
 have n:1<=z.length/\z.length<=30:=by simp at d;omega
 have m:0<(cz z).length:=by rw[<-aw];omega
 refine⟨z,0,(cz z).getD 0 0,rfl,rfl,jd hz,?_,?_⟩
 ·show uZ (cz z) ((0:Nat):Int)=_;exact gu rfl 0 m
 cbv;have b:decide ((⟨#[(cz z).getD 0 0]⟩:Str)=Str.ofString "0")=decide ((cz z).getD 0 0=48):=by
  rw[show Str.ofString "0"=⟨#[48]⟩ by decide +kernel]
  exact Vt.mpr ⟨λe=>by simpa using Re cz e,λe=>by rw[e]⟩
 have j:∀ a,ag H a->Q (.bl<|decide ((cz z).getD 0 0≠48)&&(cz z).all Ki) a:=λa g=>by
  have:=q a g
  unfold bX at this;rw[cc n,o6] at this;exact this
 refine bp (λf=>?_) λf=>?_
 ·have e:(cz z).getD 0 0=48:=h9 (by rw[<-b];exact cc f)
  have:=j H<|ag.refl _
  rw[dy (λh=>h e),q5] at this;exact this
 ·have e:(cz z).getD 0 0≠48:=λe=>f (h9 (by rw[b];exact cc e))
  refine⟨z,rfl,wc hz λa g=>?_⟩
  have:=j a g
  rw[cc e,o6] at this;exact this
def HA (B:Bn mg)(D:Def K mg "is_hat_line" gk)(gK:Fn P w K mg base 1 "is_name" ["word"] ky)(jV:Fn P w K mg base 1 "is_count" ["word"] lD):Fn P w K mg base 2 "is_hat_line" ["words"] (AX K):=by
 have zY:DS (aj gk) ["words"] ["words"] ["is_name","is_count","len"]:=aQ;walk_at"hH";obtain⟨p,l,rfl,a,q⟩:=h;refine⟨_,(ai<|aI<|mH (gO aM (cE S 2 (aA rfl) B.len oD<|aa<|kv S 0) aq<|ao _)<|mH (gO aM (cp<|kv S 0) aU<|ao _)<|mH (cK S 0 gK hr<|aa<|cp<|kv S 0)<|qa<|cK S 1 jV hr<|aa<|cp<|kv S 0),?_⟩;cbv;refine aZ (.inl a.sq) ?_;rw[b5];cbv;unfold dS at q;refine bp (λc=>?_) λc=>?_
 ·rw[cc (show l.length=3 by omega),o6] at q
  refine ax (i:=((0:Nat):Int)) a.sq (ay (aC (by omega))) ?_
  cbv;refine bp (λb=>?_) λb=>?_
  ·rw[cc b,o6] at q;refine ax (i:=((1:Nat):Int)) a.sq (ay (aC (by omega))) ?_
   refine⟨_,rfl,a.short _ (getD_memS (by omega)),λH1 d=>?_⟩
   cbv
   cases h1:br (l.getD 1 aE) with
   | false=>
    rw[h1,q5] at q;exact q _ d
   | true=>
    rw[h1,o6] at q;cbv;refine ax (i:=((2:Nat):Int)) (d.seq a.sq) (ay (aC (by omega))) ?_
    exact⟨_,rfl,a.short _ (getD_memS (by omega)),λf e=>q _<|d.trans e⟩
  ·rw[dy b,q5] at q;exact q _<|ag.refl _
 ·rw[dy (show ¬ l.length=3 by omega),q5] at q
  exact q _<|ag.refl _
def Df (B:Bn mg)(D:Def K mg "is_sees_line" fF)(gK:Fn P w K mg base 1 "is_name" ["word"] ky):Fn P w K mg base 2 "is_sees_line" ["words"] (v9 K):=by
 have zY:DS (aj fF) ["words"] ["words"] ["all","len"]:=aQ;walk_at"hH";obtain⟨p,l,rfl,f,q⟩:=h;have o:=f.fC;refine⟨_,(ai (aI (mH (gO Lr (cE S 1 (aA rfl) B.len oD<|aa<|kv S 0) aq<|ao _) (mH (gO aM (cp<|kv S 0) aU<|ao _) (qa (cE S 0 (cY hc rfl) B.all boot_all (aa (ju S hc hsc (b9 (iu (bz rfl) (kv S 0) (aS aq) aV) rfl) (N:=["word"]) (W:=["word"]) (G:=["is_name"]) (fv:=[none]) Dk0 λF C y s H n=>⟨(kg n 0),bG,(cK n 0 gK hr<|aa<|kv n 0)⟩)))))))),?_⟩
 cbv;refine aZ (.inl f.sq) ?_;rw[b5];cbv;unfold cL at q;refine bp (λc=>?_) λc=>?_
 ·rw[cc (show 3<=l.length by omega),o6] at q
  refine ax (i:=((0:Nat):Int)) f.sq (ay (aC (by omega))) ?_
  cbv;refine bp (λg=>?_) λg=>?_
  ·rw[cc g,o6] at q;refine⟨p,_,rfl,f.sq,λa u=>?_⟩;rw[show (some (1:Int))=some ((1:Nat):Int) from rfl,cX,<-SL]
   have t:=ag.new u<|.lst<|(l.drop 1).map V.str;have j:(l.drop 1).length=l.length - 1:=mv;refine⟨a,rfl,⟨_,au.of af⟩,n9 (bJ<|au.of af) (λ_=>true) (λi=>.bl<|br<|(l.drop 1).getD i aE) (by rw[b5,j];exact az (by omega)) ?_ ?_⟩
   ·intro i H1 A z d E r _;rw[b5] at d;rw[show ((l.drop 1).map V.str).getD i .bx=.str ((l.drop 1).getD i aE) by rw[b3,aC d];rfl]
    cbv;exact⟨_,rfl,f.short _<|FS<|getD_memS d,λI x=>r rfl _ x⟩
   ·intro m H1 hn v b;rw[bZ,b5] at b;refine⟨m,(List.range (l.drop 1).length).map λi=>br<|(l.drop 1).getD i aE,rfl,au.of (by rw[b,kb];rfl),?_⟩
    have e:((List.range (l.drop 1).length).map λi=>br<|(l.drop 1).getD i aE).all id=(l.drop 1).all br:=by
     rw[Pi]
     conv=>rhs;rw[show l.drop 1=(List.range (l.drop 1).length).map λi=>(l.drop 1).getD i aE from by
      apply UF
      intro i
      by_cases d:i<(l.drop 1).length
      ·rw[et,LI d,b4 d];show some _=some ((l.drop 1).getD i aE);rw[b3,b4 d];rfl
      ·rw[ot (by omega),ot (by rw[b5,pS];omega)]]
     rw[Pi];rfl
    rw[e];exact q _<|t.trans v
  ·rw[dy g,q5] at q;exact q _<|ag.refl _
 ·rw[dy (show ¬ 3<=l.length by omega),q5] at q
  exact q _<|ag.refl _
variable {er:Str->Addr}
def O5 (IT:ql K mQ er)(D:qk K (er "LineError") "__init__" "LineError.__init__" bE):rY P w K mg base 1 (er "LineError") "__init__" ["self","line"] (oY mQ er):=by
 have zY:DS (aj bE) ["self","line"] ["self","line"] []:=aQ;walk_at"hH";obtain⟨a,n,v,rfl,hn,d,e,q⟩:=h;refine⟨_,(ai<|sle IT (kv S 0)<|kv S 1),?_⟩;cbv;exact⟨a,n,rfl,hn,d,e,λb c=>q b c⟩
def uB:DS (aj cU) ["text","line","words","names"] ["text","line"] ["is_hat_line","int","is_sees_line","NoLine","len","Twice","set","tuple"]:=aQ
def uC:Ml "read_line" cU "text" "line":=λT kV a d c b ct u v=>⟨⟨_,by with_unfolding_all rfl,λ_=>by with_unfolding_all rfl⟩,⟨_,by with_unfolding_all rfl,λ_=>by with_unfolding_all rfl⟩,⟨_,by with_unfolding_all rfl,λ_=>by with_unfolding_all rfl⟩⟩
def HB (B:Bn mg)(ER:lG K mg mQ er)(IT:ql K mQ er)(D:FQ K mg "read_line" cU 0)(ba:rY P w K mg base 1 (er "LineError") "__init__" ["self","line"] (oY mQ er))(qx:Fn P w K mg base 2 "is_hat_line" ["words"] (AX K))(pJ:Fn P w K mg base 2 "is_sees_line" ["words"] (v9 K)):SY P w K mg base 3 "read_line" "text" "line" 0 (Bj er):=by
 refine D.gf uB uC (by walk_at"hL") ?_
 intro X E S e1 e2 e3 e4 e5 hc hsc hx hp y hu H vs Q h;subst e1 e2 e3 e4 e5;obtain⟨z,i,rfl,hz,q,qE⟩:=h;refine⟨_,(ae (bo S 2<|fL q7 C6 KM bK rfl (kv S 0)<|aa aU)
   (ae (cj (kn<|cK S 0 qx y<|aa<|kv S 2) (ai<|aI<|vH<|ah aU<|ah (cp<|kv S 2)<|aa<|pR S 1 tR B.int boot_int<|aa<|cp<|kv S 2) av)
   (ae (cj (qc<|kn<|cK S 2 pJ y<|aa<|kv S 2) (ai<|jk S 3 hc hx ER IT ba y<|aa<|kv S 1) av)
   (ae (bo S 3<|iu (bz rfl) (kv S 2) (aS aq) aV)
   (ae (cj (aL ie (cE S 4 oA B.len oD<|aa<|pR S 6 (kx hc rfl) B.set boot_set<|aa<|kv S 3) (cE S 4 (aA rfl) B.len oD<|aa<|kv S 3)<|ao _) (ai<|jk S 5 hc hx ER IT ba y<|aa<|kv S 1) av)
   (ai<|aI<|vH<|ah aU<|ah (cp<|kv S 3)<|aa<|pR S 7 (gs rfl) B.tuple boot_tuple<|aa<|iu (bz rfl) (kv S 3) (aS aq) aV)))))),?_⟩
 have Z:(wz z).length<=z.length+1:=eZ z;have hsz:(1000002:Nat)<=sizeLine:=by decide
 walk_at"i";refine⟨rfl,z,_,rfl,rfl,Dk0,by omega,?_,λp M=>?_⟩
 ·rw[bc];show (wz z).length<=_;omega
 rw[bc];show (λx H1=>_) (V.ref p) (upd H p<|.lst<|(wz z).map V.str);have W:=ag.new M<|.lst<|(wz z).map V.str;have hw:Ws X.K (upd H p<|.lst<|(wz z).map V.str) p (wz z):=⟨au.of af,by omega,λx hx=>fz (jE hx) (by omega)⟩
 dsimp only
 walk_at"h";refine⟨p,wz z,rfl,hw,λH1 T=>?_⟩;have e:au X.K H1 p ((wz z).map V.str):=T.seq hw.sq;lia
 cases f:dS (wz z) with
 | true=>
  lia;have hb:=f;unfold dS at hb;rw[ef] at hb;have L:(wz z).length=3:=h9 hb.1;have o:bX ((wz z).getD 2 aE)=true:=by
   have h2:=hb.2;rw[ef,ef] at h2;exact h2.2.2
  have h30:=dz o;obtain⟨c,r⟩:=CN o;refine ax (i:=((1:Nat):Int)) e (ay (aC (by omega))) ?_
  refine ax (i:=((2:Nat):Int)) e (ay (aC (by omega))) ?_
  refine⟨_,c,rfl,r,by omega,?_⟩
  refine⟨ad,λt I=>?_⟩
  exact q t _ (GQ f) (W.trans<|T.trans<|ag.new I _)<|.inl ⟨f,c,r,af⟩
 | false=>
  walk_at"i";refine⟨p,wz z,rfl,⟨e,hw.fC,hw.short⟩,λU s2=>?_⟩;have J:=s2.seq e;have s:=W.trans<|T.trans s2;lia
  cases m:cL (wz z) with
  | false=>
   lia;refine⟨.int i,rfl,λC O=>?_⟩;exact qE 0 C _ (Bi f m) (s.trans<|ag.new O _) af
  | true=>
   walk_at"i";have L:3<=(wz z).length:=by
    have j:=m;unfold cL at j;rw[ef] at j;exact h9 j.1
   refine⟨p,_,rfl,J,λa ha=>?_⟩;rw[show (some (1:Int))=some ((1:Nat):Int) from rfl,cX,<-SL]
   have sa:=ag.new ha<|.lst<|((wz z).drop 1).map V.str;have hdl:((wz z).drop 1).length=(wz z).length - 1:=mv;walk_at"i";refine⟨a,(wz z).drop 1,rfl,au.of af,by omega,λP w b hb=>?_⟩
   have G:=ag.new hb<|v5 P w b<|tU<|(wz z).drop 1;have v:upd (upd U a<|.lst<|((wz z).drop 1).map V.str) b (v5 P w b<|tU<|(wz z).drop 1) b=some (v5 P w b<|tU<|(wz z).drop 1):=af;have d:au X.K (upd (upd U a<|.lst<|((wz z).drop 1).map V.str) b<|v5 P w b<|tU<|(wz z).drop 1) a (((wz z).drop 1).map V.str):=au.of<|G _ _ af;have g:=s.trans<|sa.trans G;generalize upd (upd U a<|.lst<|((wz z).drop 1).map V.str) b (v5 P w b<|tU<|(wz z).drop 1)=H3 at G v d g ⊢;refine⟨b,_,P,w,rfl,v,?_⟩;refine aZ (.inl d) ?_;rw[b5];lia;have l:=AW<|(wz z).drop 1;refine bp (λc=>?_) λc=>?_
   ·refine⟨.int i,rfl,λC O=>?_⟩;exact qE 1 C _ (jK f m λn=>by have:=l.2.mpr n;omega) (g.trans<|ag.new O _) af
   have A:((wz z).drop 1).Nodup:=l.2.mp (by omega)
   lia;refine ax (i:=((0:Nat):Int)) d (ay (aC (by omega))) ?_
   rw[show ((wz z).drop 1).getD 0 aE=(wz z).getD 1 aE by rw[b3,getElem?_drop,<-b3]]
   refine⟨a,_,rfl,d,λc N=>?_⟩;rw[show (some (1:Int))=some ((1:Nat):Int) from rfl,cX,<-SL,List.drop_drop]
   have sc:=ag.new N<|.lst<|((wz z).drop<|1+1).map V.str;refine⟨c,_,rfl,.inl ⟨au.of af,λu R=>?_⟩⟩;have sU:=ag.new R<|.tup<|((wz z).drop<|1+1).map V.str;refine⟨ad,λt I=>?_⟩
   have Y:=ag.new I<|.tup [.str "sees",.str<|(wz z).getD 1 aE,.ref u];exact q t _ (CO f m A) (g.trans<|sc.trans<|sU.trans Y)<|.inr ⟨f,m,u,af,Y _ _ af⟩
def zr:DS (aj lU) ["numbers","name","line"] ["numbers","name","line"] ["Twice","MOST_PEOPLE","len","TooMany"]:=aQ
def zt (B:Bn mg)(KC:Cs mg)(ER:lG K mg mQ er)(IT:ql K mQ er)(D:Def K mg "add_hat" lU)(ba:rY P w K mg base 1 (er "LineError") "__init__" ["self","line"] (oY mQ er)):Kw P w K mg base 3 "add_hat" ["numbers","name","line"] (r8 er):=by
 refine D.gf zr (by walk_at"hB") (by walk_at"hL") ?_
 intro X E S t g n r s hc m hx u f hu H v Q h;subst t g n r s;obtain⟨d,j,x,i,rfl,b,y,o,p,q⟩:=h;refine⟨_,(ae (cj (OB (u1 hu) (kv S 1) (kv S 0) (by with_unfolding_all rfl)) (ai<|jk S 0 hc hx ER IT ba f<|aa<|kv S 2) av)
   (ae (cj (aL Lr (cE S 2 rM B.len oD<|aa<|kv S 0) (Ow S 1 KC.xk)<|ao _) (ai<|jk S 3 hc hx ER IT ba f<|aa<|kv S 2) av)
   (ai<|FE (u1 hu) (cE S 2 rM B.len oD<|aa<|kv S 0) (kv S 0)<|kv S 1))),?_⟩
 walk_at"i"
 by_cases c:x∈j
 ·refine⟨d,_,rfl,wm b c,?_⟩;rw[isSome_some];lia;exact⟨.int i,rfl,λe a=>o c e _ (ag.new a _) af⟩
 refine⟨d,_,rfl,Ge b c,?_⟩;rw[isSome_none];walk_at"i";refine wo b ?_;lia;refine bp (λl=>?_) λl=>?_
 ·exact⟨.int i,rfl,λe a=>p c (by omega) e _ (ag.new a _) af⟩
 lia;refine wo b ?_;refine Gf b rfl c (de (by omega)) ?_
 exact q c (by omega)
def uD:DS (aj iQ) ["numbers","web","name","seen","line"] ["numbers","web","name","seen","line"] ["Twice","all","Unknown","sum"]:=aQ
def uE (B:Bn mg)(ER:lG K mg mQ er)(IT:ql K mQ er)(D:Def K mg "add_sight" iQ)(ba:rY P w K mg base 1 (er "LineError") "__init__" ["self","line"] (oY mQ er)):Kw P w K mg base 3 "add_sight" ["numbers","web","name","seen","line"] (mC er):=by
 refine D.gf uD (by walk_at"hB") (by walk_at"hL") ?_
 intro X E S M e2 e3 e4 e5 hc I hx hp hr hu H vs Q h;subst M e2 e3 e4 e5;obtain⟨d,w,t,a,l,ws,x,i,rfl,L,hw,o,h8,ht,hl40,q1,q2,q⟩:=h;refine⟨_,(ae (cj (xT (vI (OB (u1 hu) (kv S 2) (kv S 0) (by with_unfolding_all rfl))<|rA<|aL nM (fh (kv S 1)<|A0 (u1 hu) (kv S 0)<|kv S 2) aq<|ao _)) (ai<|jk S 0 hc hx ER IT ba hr<|aa<|kv S 4) av)
   (ae (cj (qc (kn (cE S 1 (cY hc rfl) B.all boot_all (aa (ju S hc I (fj (aP (nX rfl) (vH<|aa<|kv S 2)<|kv S 3) rfl) (N:=["other","numbers"]) (W:=["other"]) (G:=[]) (fv:=[none,some 0]) Dk0 (λcl C fp s H g=>⟨(kg g 0),bG,(Rk (u1 hu) (kv g 0) (kv g 1) (by with_unfolding_all rfl))⟩)))))) (ai<|jk S 2 hc hx ER IT ba hr<|aa<|kv S 4) av)
   (ai (QA (cE S 3 (cN hc rfl) B.sum boot_sum (aa (ju S hc I (fj (kv S 3) rfl) (N:=["other","numbers"]) (W:=["other"]) (G:=[]) (fv:=[none,some 0]) Dk0 λcl C fp s H g=>⟨(kg g 0),bG,(aP c9 aq<|A0 (u1 hu) (kv g 1)<|kv g 0)⟩)))<|Tp (kv S 1) (A0 (u1 hu) (kv S 0)<|kv S 2) set_list)))),?_⟩
 have ab:(1000:Nat)<=sizeLine:=by decide
 lia;refine wA (λσ J=>σ=[some (.ref d),some<|.ref w,some<|.str x,some<|.ref t,some<|.int i]/\J=H/\¬ (x∈a/\ws.getD (a.idxOf x) 0≠0)) ?_ (λR hR=>?_)
 rotate_left
 ·lia
  by_cases cx:x∈a
  rotate_left
  ·refine⟨d,_,rfl,Ge L cx,?_⟩;rw[isSome_none];lia;exact hR _ _ ⟨rfl,rfl,λz=>cx z.1⟩
  refine⟨d,_,rfl,wm L cx,?_⟩;rw[isSome_some];lia;have b:a.idxOf x<a.length:=kc.mpr cx;refine⟨d,_,rfl,wm L cx,?_⟩;refine eW (au.of hw) rfl (by rw[ak,o];exact b) ?_
  rw[bg];lia
  by_cases c0:ws.getD (a.idxOf x) 0=0
  ·rw[c0];lia;exact hR _ _ ⟨rfl,rfl,λz=>z.2 c0⟩
  ·rw[dy (by omega)]
   lia;exact⟨.int i,rfl,λT m=>q1 cx c0 T _ (ag.new m _) af⟩
 rintro σ J ⟨rfl,rfl,F⟩;walk_at"h";refine⟨ad,λp hp0=>?_⟩
 generalize M:upd J p _=H1;obtain⟨s1,m1⟩:=nw hp0 M;clear M;refine⟨p,t,_,_,rfl,rfl,aN.of m1,aN.of<|s1 _ _ ht,by rw[b5];show 1+_<=_;omega,λp1 H2 s2 j=>?_⟩
 have r:DN H2 d a:=s2 _ _<|s1 _ _ L;have hxl:([V.str x]++l.map V.str)=(x::l).map V.str:=rfl;rw[hxl] at j;refine⟨p1,rfl,⟨_,j⟩,n9 (km j) (λ_=>true) (λi=>.bl<|decide<|(x::l).getD i aE∈a) (by rw[b5,ls];exact az (by omega)) ?_ ?_⟩
 ·intro i H3 A B' b Z hA _;rw[b5] at b;rw[show ((x::l).map V.str).getD i .bx=.str ((x::l).getD i aE) by rw[b3,aC b];rfl]
  lia;refine Km (Z _ _ r) ?_;exact hA rfl _<|ag.refl _
 intro acc H3 hn3 s3 f;rw[bZ,b5] at f;refine⟨acc,(List.range (x::l).length).map λi=>decide<|(x::l).getD i aE∈a,rfl,au.of (by rw[f,kb];rfl),?_⟩
 have eT:(((List.range (x::l).length).map λi=>decide<|(x::l).getD i aE∈a).all id)=((x::l).all λy=>decide<|y∈a):=by
  rw[oH (λy=>decide<|y∈a) (x::l),Pi];rfl
 rw[eT];have c:=s1.trans<|s2.trans s3;lia
 cases ca:(x::l).all λy=>decide (y∈a) with
 | false=>
  lia;refine⟨.int i,rfl,λT m=>q2 F ?_ T _ (c.trans<|ag.new m _) af⟩;obtain⟨y,hy,O⟩:=List.all_eq_false.mp ca;exact⟨y,hy,λz=>O<|cc z⟩
 | true=>
  have Y:∀ y∈x::l,y∈a:=λy hy=>h9<|ih.mp ca y hy;have u:=Y x eR;have hl:∀ y∈l,y∈a:=λy hy=>Y y<|fA _ hy;have b:a.idxOf x<a.length:=kc.mpr u;lia;have v:DN H3 d a:=s3 _ _ r;have n:=c _ _ ht;refine⟨t,rfl,⟨_,aN.of n⟩,n9 (km<|aN.of n) (λ_=>true) (λi=>.int ((2 ^ a.idxOf (l.getD i aE):Nat):Int)) (by rw[b5];exact az (by omega)) ?_ ?_⟩
  ·intro i H4 A B' b Z hA _;rw[b5] at b;rw[show (l.map V.str).getD i .bx=.str (l.getD i aE) by rw[b3,aC b];rfl]
   lia;refine⟨d,_,rfl,wm (Z _ _ v)<|hl _<|getD_memS b,?_⟩;have hlt:a.idxOf (l.getD i aE)<a.length:=kc.mpr<|hl _<|getD_memS b;lia;refine⟨eS (by omega),?_⟩
   exact hA rfl H4<|ag.refl _
  intro U H4 hn4 s4 e;rw[bZ,b5] at e;refine⟨U,(List.range l.length).map λi=>((2 ^ a.idxOf (l.getD i aE):Nat):Int),rfl,au.of (by rw[e,kb];rfl),?_⟩
  lia;rw[Gg];refine⟨d,_,rfl,wm (s4 _ _ v) u,?_⟩;refine⟨w,_,_,_,rfl,rfl,(c.trans s4) _ _ hw,AD (by rw[b5,ak,o];exact b),?_⟩
  rw[Gh];exact q F Y _<|c.trans s4
def K6 (B:Bn mg)(D:Def K mg "rows_of" lV):Fn P w K mg base 1 "rows_of" ["text"] yO:=by
 have zY:DS (aj lV) ["text"] ["text"] []:=aQ;walk_at"hH";obtain⟨z,rfl,hz,a,q⟩:=h;refine⟨_,(ae (cj (aL aM (kv S 0) aU<|ao _) (ai<|aI<|dq bF) av)
   (ai<|aI<|fL q7 C6 KM bK rfl (kv S 0)<|aa aU)),?_⟩
 cbv;refine bp (λc=>?_) λc=>?_
 ·refine⟨ad,λl f=>?_⟩
  exact q l _ (ag.new f _) f (by rw[af];unfold bH;rw[if_pos c];rfl)
 ·have g:(1000002:Nat)<=sizeLine:=by decide
  have d:(Str.ofString "\n")=⟨#[10]⟩:=by decide +kernel
  have e:bH z=Txt.split z ⟨#[10]⟩:=by unfold bH;rw[if_neg c]
  refine⟨rfl,z,_,rfl,rfl,Dk0,by omega,?_,λp b=>?_⟩
  ·rw[d,<-e];omega
  ·rw[d,<-e];exact q p _ (ag.new b _) b af
variable {s:List Str × List Str}
def lX {z:Str}{j:Nat}(h:mM z=some j):dg s z=.inl j:=by
 unfold mM at h;unfold dg
 by_cases b:dS (wz z)=true
 ·rw[if_pos b] at h;cases h
 ·rw[if_neg b] at h ⊢
  by_cases c:cL (wz z)=true
  ·rw[if_pos c] at h ⊢
   by_cases a:((wz z).drop 1).Nodup
   ·rw[if_pos a] at h;cases h
   ·rw[if_neg a] at h;cases h
    rw[if_pos (.inl a)]
  ·rw[if_neg c] at h ⊢;cases h;rfl
def sy {z:Str}(h:dS (wz z)=true):dg s z=if (wz z).getD 1 aE∈s.1 then .inl 1 else if s.1.length=8 then .inl 3 else .inr (s.1++[(wz z).getD 1 aE],s.2):=by unfold dg;rw[if_pos h]
def pA {z:Str}(h:dS (wz z)=false)(h2:cL (wz z)=true)(h3:((wz z).drop 1).Nodup):dg s z=if (wz z).getD 1 aE∈s.2 then .inl 1 else if ∃ y∈(wz z).drop 1,y∉s.1 then .inl 2 else .inr (s.1,s.2++[(wz z).getD 1 aE]):=by
 unfold dg;rw[h,if_neg ad,if_pos h2]
 by_cases c:(wz z).getD 1 aE∈s.2
 ·rw[if_pos (.inr c),if_pos c]
 ·rw[if_neg (λz=>z.elim (λn=>n h3) c),if_neg c]
def uF:DS (aj iR) ["text","numbers","counts","web","line","row","told"] ["text"] ["enumerate","rows_of","read_line","add_hat","add_sight","tuple"]:=aQ
def HC (B:Bn mg)(D:Def K mg "read_book" iR)(me:Fn P w K mg base 1 "rows_of" ["text"] yO)(xm:SY P w K mg base 3 "read_line" "text" "line" 0 (Bj er))(Dx:Kw P w K mg base 3 "add_hat" ["numbers","name","line"] (r8 er))(xn:Kw P w K mg base 3 "add_sight" ["numbers","web","name","seen","line"] (mC er)):Kw P w K mg base 4 "read_book" ["text"] (Bw K er):=by
 refine D.UL uF (by walk_at"hB") (by walk_at"hL") ?_
 intro X E S e1 e2 e3 e4 e5 hc hsc hx hp hpo hr hu H vs Q h;subst e1 e2 e3 e4 e5;obtain⟨z,rfl,hz,hL,aY,q,qE⟩:=h;refine⟨_,(ae (bo S 1 FD)
   (ae (bo S 2<|dq bF)
   (ae (bo S 3<|dq bF)
   (ae (RQ hpo hc (CY true S 0 B.enumerate rfl<|aa<|cK S 1 me hr<|aa<|kv S 0) (mI hc (K:=X.K) (n:=2) rfl<|bq (kg S 4)<|bq (kg S 5) dO) (ae (bo S 6<|TX S 2 xm hp hr<|ah (kv S 5)<|aa<|kv S 4)
   (ai (cj (aL aM (kZ<|kv S 6) aU<|ao _) (ae (dv<|TH S 3 Dx hp hr<|ah (kv S 1)<|ah (kZ<|kv S 6)<|aa<|kv S 4)
   (ae (dv<|fL ri mo oo bI rfl (kv S 2)<|aa<|kZ<|kv S 6)
   (ai<|dv<|fL ri mo oo bI rfl (kv S 3)<|aa aq)))<|ai<|dv<|TH S 4 xn hp hr<|ah (kv S 1)<|ah (kv S 3)<|ah (kZ<|kv S 6)<|ah (kZ<|kv S 6)<|aa<|kv S 4))))
   (ai<|aI<|vH<|ah (pR S 5 (zd hc) B.tuple boot_tuple<|aa<|kv S 1)<|ah (pR S 5 (gs rfl) B.tuple boot_tuple<|aa<|kv S 2)<|aa<|pR S 5 (gs rfl) B.tuple boot_tuple<|aa<|kv S 3))))),?_⟩
 walk_at"i";intro d hd0;generalize e0:upd H d _=H1;obtain⟨s1,md⟩:=nw hd0 e0;clear e0;walk_at"h";refine⟨ad,λc hc0=>?_⟩
 generalize e0:upd H1 c _=H2;obtain⟨s2,mc⟩:=nw hc0 e0;clear e0;walk_at"h";refine⟨ad,λw Y=>?_⟩
 generalize e0:upd H2 w _=H3;obtain⟨s3,mw⟩:=nw Y e0;clear e0;have dc:d≠c:=aH md hc0;have dw:d≠w:=aH (s2 _ _ md) Y;have cw:c≠w:=aH mc Y;have hcn:H c=none:=s1.free hc0;have hwn:H w=none:=(s1.trans s2).free Y;walk_at"h";refine⟨z,rfl,hz,by omega,λr H4 s4 hr0 hr4=>?_⟩
 have dr:d≠r:=aH (s3 _ _<|s2 _ _ md) hr0;have cr:c≠r:=aH (s3 _ _ mc) hr0;have wr:w≠r:=aH mw hr0;have sH4:=s1.trans<|s2.trans<|s3.trans s4;have hB0:Ux H4 d c w ((bH z).take 0) ([],[]):=⟨[],[],[],rfl,(λ_ h=>nomatch h),rfl,(s2.trans<|s3.trans s4) _ _ md,(s3.trans s4) _ _ mc,rfl,s4 _ _ mw,rfl,ad,(λy hy=>nomatch hy),(λy hy=>nomatch hy)⟩
 refine Hf true (Sl H z d c w r<|bH z) (au.of hr4) ⟨_,_,_,_,rfl,sH4,hr4,rfl,hB0⟩ (λk σ H' h=>by obtain⟨b,y1,y2,y3,_,_,h,_⟩:=h;exact au.of h) ?_ ?_
 ·rintro k v σ J J1 hv ⟨s,y1,y2,y3,rfl,hS,hrJ,l,hB⟩ t1;obtain⟨x,U,rfl⟩:∃ x,(bH z)[k]?=some x/\v=.str x:=by
   rw[et] at hv
   cases e:(bH z)[k]? with
   | none=>rw[e] at hv;cases hv
   | some x=>rw[e] at hv;cases hv;exact⟨x,rfl,rfl⟩
  have hx800:=aY x<|fO U;have O:∀ e,dg s x=.inl e->∀ C J',ag H J'->J' C=some (.xd [("line",.int (k:Int))])->E (.ref<|er<|kG e) (some C) J':=λe he C J' sJ m=>qE e k (by have:=o8 (j:=0) l U he;rw[Nat.zero_add] at this;exact this) C J' sJ m
  have hS1:=hS.trans t1;walk_at"i";refine⟨x,_,rfl,hx800,λf J2 hn t2 hf=>?_,λj C J2 hj t2 m=>O j (lX hj) C J2 (hS1.trans t2) m⟩;obtain⟨M,cs,ws,eM,I,hMb,hd,L,ab,hww,a⟩:=hB.ex;have hc8:cs.length<=8:=by rw[ab];exact a.fC
  have hts:=zj U;have g:=t1.trans t2;have R:=hS.trans g;lia
  rcases hf with ⟨hh,cv,hcv,hf⟩ | ⟨hh,hs,p,Mz,Im⟩
  ·have u:=sy (s:=s) hh;obtain⟨cn,hlo,hlt,hcN⟩:=Hr hh;have ecv:cv=(cn:Int):=tx<|hcv.symm.trans hcN;subst ecv;refine bA (i:=((0:Nat):Int)) (aN.of hf) (ay rfl) ?_;walk_at"i";refine bA (i:=((1:Nat):Int)) (aN.of hf) (ay rfl) ?_;lia;refine⟨d,s.1,_,_,rfl,g _ _ hd,a.fC,λG C J3 Z m=>O 1 (by rw[u,if_pos G]) C J3 (R.trans Z) m,λG A C J3 Z m=>O 3 (by rw[u,if_neg G,if_pos A]) C J3 (R.trans Z) m,λG A=>?_⟩
   have T:dg s x=.inr (s.1++[(wz x).getD 1 aE],s.2):=by rw[u,if_neg G,if_neg (by omega)]
   have fd:f≠d:=λe=>by have:=g _ _ hd;rw[<-e,hf] at this;cases this
   have fc:f≠c:=λe=>by have:=g _ _ L;rw[<-e,hf] at this;cases this
   generalize e5:upd J2 d _=J5;have hc5:J5 c=some (.lst<|(aK cs).map V.int):=by rw[<-e5,aB dc.symm];exact g _ _ L
   have hw5:J5 w=some (.lst<|(aK ws).map V.int):=by rw[<-e5,aB dw.symm];exact g _ _ hww
   have hr5:J5 r=some (.lst<|(bH z).map V.str):=by rw[<-e5,aB dr.symm];exact g _ _ hrJ
   have hf5:J5 f=some (.tup [.str "hat",.str<|(wz x).getD 1 aE,.int (cn:Int)]):=by rw[<-e5,aB fd];exact hf
   have hd5:J5 d=some (.dK<|xU 0<|s.1++[(wz x).getD 1 aE]):=by rw[<-e5];exact af
   have hS5:ag H J5:=by rw[<-e5];exact R.set hd0 _
   clear e5;walk_at"i";refine⟨.inl ⟨rfl,_,au.of hc5⟩,?_⟩;refine bA (i:=((2:Nat):Int)) (aN.of hf5) (ay rfl) ?_;refine⟨c,_,_,rfl,rfl,hc5,by rw[b5,ak];exact de (by omega),?_⟩
   generalize e6:upd J5 c _=J6;have hw6:J6 w=some (.lst<|(aK ws).map V.int):=by rw[<-e6,aB cw.symm];exact hw5
   have hr6:J6 r=some (.lst<|(bH z).map V.str):=by rw[<-e6,aB cr.symm];exact hr5
   have hd6:J6 d=some (.dK<|xU 0<|s.1++[(wz x).getD 1 aE]):=by rw[<-e6,aB dc];exact hd5
   have hc6:J6 c=some (.lst<|(aK<|cs++[cn]).map V.int):=by rw[<-e6,af,oI]
   have hS6:ag H J6:=by rw[<-e6];exact hS5.set hcn _
   clear e6;lia;refine⟨.inl ⟨rfl,_,au.of hw6⟩,?_⟩;refine⟨w,_,_,rfl,rfl,hw6,by rw[b5,ak,a.lw];exact de (by omega),?_⟩
   rw[show (V.int 0)=V.int ((0:Nat):Int) from rfl,oI]
   refine⟨_,_,_,_,rfl,hS6.set hwn _,by rw[aB wr.symm];exact hr6,kJ l U T,⟨M++[.bY ((wz x).getD 1 aE) cn],cs++[cn],ws++[0],by rw[hts,eM,eH,rr,map_nil,hlt],λy hy=>?_,ph hMb<|Dc G A,by show upd _ _ _ _=_;rw[aB dw];exact hd6,by rw[aB cw];exact hc6,?_,af,a.bY G A⟩⟩
   ·rcases eG.mp hy with hy | hy
    ·exact I y hy
    ·rw[dt.mp hy];exact hlo
   ·rw[ed,ed,ab];rfl
  ·have hnd:((wz x).drop 1).Nodup:=by
    by_cases c:((wz x).drop 1).Nodup
    ·exact c
    ·rw[jK hh hs c] at hn;cases hn
   have u:=pA (s:=s) hh hs hnd;have h3:3<=(wz x).length:=by
    have hs':=hs;unfold cL at hs';rw[ef] at hs';exact h9 hs'.1
   have W:(wz x).drop 1=(wz x).getD 1 aE::(wz x).drop 2:=by
    rw[drop_eq_getElem_cons (show 1<(wz x).length by omega),b3,b4 (show 1<(wz x).length by omega)];rfl
   have hsc1:=eZ x;refine bA (i:=((0:Nat):Int)) (aN.of Mz) (ay rfl) ?_;lia;rw[if_neg Dk0]
   refine bA (i:=((1:Nat):Int)) (aN.of Mz) (ay rfl) ?_;refine bA (i:=((2:Nat):Int)) (aN.of Mz) (ay rfl) ?_;have N:(wz x).getD 1 aE∈s.2↔(wz x).getD 1 aE∈s.1/\ws.getD (s.1.idxOf<|(wz x).getD 1 aE) 0≠0:=⟨λc=>⟨a.sub _ c,(a.iff _<|a.sub _ c).mpr c⟩,λc=>(a.iff _ c.1).mp c.2⟩;refine⟨d,w,p,s.1,(wz x).drop 2,ws,_,_,rfl,g _ _ hd,g _ _ hww,a.lw,a.fC,Im,by rw[mv];show (Txt.split x ⟨#[32]⟩).length - 2<=850;omega,
    λG A C J3 Z m=>O 1 (by rw[u,if_pos<|N.mpr ⟨G,A⟩]) C J3 (R.trans Z) m,
    λG A C J3 Z m=>O 2 (by rw[u,if_neg λh=>G<|N.mp h,if_pos (by rw[W];exact A)]) C J3 (R.trans Z) m,λG A J3 Z=>?_⟩
   have T:dg s x=.inr (s.1,s.2++[(wz x).getD 1 aE]):=by
    rw[u,if_neg λh=>G<|N.mp h,if_neg];rintro⟨y,hy,hy2⟩;rw[W] at hy;exact hy2<|A y hy
   have aD:=g.trans Z;obtain⟨hlo,hlt⟩:=C9 hs hnd (by
    have h1:=su hnd λy hy=>A y (by rw[W] at hy;exact hy)
    have:=a.fC
    omega)
   lia;refine⟨_,_,_,_,rfl,(hS.trans aD).set hwn _,by rw[aB wr.symm];exact aD _ _ hrJ,kJ l U T,⟨M++[.sees ((wz x).getD 1 aE) ((wz x).drop 2)],cs,_,by rw[hts,eM,eH,rr,map_nil,hlt],λy hy=>?_,ph hMb<|Dd (A _ eR) ?_ λy hy=>A y<|fA _ hy,by show upd _ _ _ _=_;rw[aB dw];exact aD _ _ hd,by rw[aB cw];exact aD _ _ L,ab,af,a.sees (A _ eR)<|GW λe=>?_⟩⟩
   ·rcases eG.mp hy with hy | hy
    ·exact I y hy
    ·rw[dt.mp hy];exact hlo
   ·exact vr λz=>G ⟨A _ eR,z⟩
   ·have:((wz x).drop 2).length=(wz x).length - 2:=mv
    rw[e] at this
    have:0=(wz x).length - 2:=this
    omega
 ·rintro σ J ⟨s,y1,y2,y3,rfl,hS,hrJ,l,hB⟩;rw[b5,SC] at l hB;obtain⟨M,cs,ws,eM,I,hMb,hd,L,ab,hww,a⟩:=hB.ex;lia;refine CZ hd λa1 o ha1 oc od=>?_;have u1:=ag.new ha1<|.iF o<|.tup<|s.1.map V.str;refine⟨c,_,rfl,.inl ⟨au.of<|u1 _ _ L,λa2 ha2=>?_⟩⟩;have u2:=ag.new ha2<|.tup<|(aK cs).map V.int;refine⟨w,_,rfl,.inl ⟨au.of<|u2 _ _<|u1 _ _ hww,λa3 ha3=>?_⟩⟩;have u3:=ag.new ha3<|.tup<|(aK ws).map V.int;refine⟨ad,λt ht=>?_⟩
  have u4:=ag.new ht<|.tup [.ref a1,.ref a2,.ref a3];exact q (jL l) t M _ _ eM I hMb (hS.trans<|(u1.trans u2).trans<|u3.trans u4) ⟨a1,a2,a3,aN.of af,.inl<|.inr ⟨o,u4 _ _<|u3 _ _<|u2 _ _ af⟩,.inr ⟨o,_,u4 _ _<|u3 _ _<|u2 _ _ af,oc,od⟩,aN.of<|u4 _ _<|u3 _ _ af,aN.of<|u4 _ _ af⟩
def Dg (B:Bn mg)(D:Def K mg "places" pv):Fn P w K mg base 1 "places" ["mask"] ku:=by
 have zY:DS (aj pv) ["mask"] ["mask"] ["range"]:=aQ;walk_at"hH";obtain⟨m,rfl,hm,q⟩:=h;refine⟨_,(ai (aI (ju S hc hsc (iw S 0 B.range<|aa<|To PySem.F.plainAttrs_int PySem.F.slot_int_bit_length PySem.F.type_int_bit_length Ck rfl<|kv S 0) (N:=["i","mask"]) (W:=["i"]) (G:=[]) (fv:=[none,some 0]) Dk0 λt C p s H d=>⟨(kg d 0),(da<|aL aM (aP dN (aP x9 (kv d 1)<|kv d 0) aq) aq<|ao _),(kv d 0)⟩))),?_⟩
 cbv;refine⟨rfl,m,rfl,rfl,λn hn a=>?_⟩;have g:=a 64 hm;cbv;refine QL n (λi=>m.testBit i) (λi=>(i:Int)) rfl (by omega) ?_ ?_
 ·intro i H1 A r u j l o;cbv;refine⟨by omega,?_⟩
  by_cases c:m.testBit i=true
  ·rw[c];cbv;exact l c _<|ag.refl _
  ·have c:m.testBit i=false:=by simpa using c
   rw[c];cbv;exact o c _<|ag.refl _
 ·intro f H1 e j b;refine q f H1 j e ?_;rw[b,<-rF hn];rfl
def K7 (D:Def K mg "sees" zo):Fn P w K mg base 1 "sees" ["web","i","j"] (yC K):=by
 have zY:DS (aj zo) ["web","i","j"] ["web","i","j"] []:=aQ;walk_at"hH";obtain⟨w,b,i,j,rfl,hw,a,q⟩:=h;refine⟨_,(ai<|aI<|gO aM (aP dN (aP x9 (O2 (kv S 0)<|kv S 1)<|kv S 2) aq) aq<|ao _),?_⟩;cbv;refine dD hw rfl (by rw[ak];exact a) ?_
 rw[bg];cbv;exact⟨by omega,q⟩
def uG (B:Bn mg)(D:Def K mg "is_circle" iO):Fn P w K mg base 1 "is_circle" ["web","people"] (Of K):=by
 have zY:DS (aj iO) ["web","people","crowd","i","others"] ["web","people"] ["sum"]:=aQ;walk_at"hH";obtain⟨w,p,ws,l,rfl,hw,o,U,u,b,q⟩:=h;have I:=cC u b;refine⟨_,(ae (bo S 2 (cE S 0 (cN hc rfl) B.sum boot_sum (aa (ju S hc hsc (fj (kv S 1) rfl) (N:=["i"]) (W:=["i"]) (G:=[]) (fv:=[none]) Dk0 λT C Q s H r=>⟨(kg r 0),bG,(aP c9 aq<|kv r 0)⟩))))
   (ae (eV hxe hc (fj (kv S 1) rfl) (kg S 3) (ae (bo S 4<|aP cG (kv S 2)<|aP c9 aq<|kv S 3)
   (ai<|cj (aL nM (aP dN (O2 (kv S 0)<|kv S 3)<|kv S 4) (kv S 4)<|ao _) (ai<|aI vF) av)))
   (ai<|aI vF))),?_⟩
 cbv;refine SR (λ_=>true) (λj=>((2 ^ l.getD j 0:Nat):Int)) o (by rw[ak];exact az (by omega)) ?_ ?_
 ·intro j H1 A M hj O v R;rw[ak] at hj;rw[bg];cbv;exact⟨eS (by have:=b _<|dP hj;omega),v rfl _<|ag.refl _⟩
 intro L H1 J a d;rw[bZ] at d;refine nZ (au.of d) ?_;rw[AM];have f:=a.aT o;have m:=a.aT hw;cbv;refine JK (Q6 H1 w p ws l) f ⟨rfl,(λj hj=>absurd hj<|SF j),none,none,rfl⟩ (λk σ t h=>by rw[h.1];exact f) ?_ ?_
 ·rintro k σ t hk ⟨n,g,E,F,rfl⟩;rw[ak] at hk;have hm:=dP hk;rw[n,bg];cbv;refine⟨eS (by have:=b _ hm;omega),?_⟩
  refine dD m rfl (by rw[ak];exact b _ hm) ?_
  rw[bg,JW<|vS hm];cbv;have e:=yE (ws:=ws) u hm
  by_cases c:(l.all λx=>decide (x=l.getD k 0)||fJ ws (l.getD k 0) x)=true
  ·rw[c,r4] at e;rw[e]
   try rw[N8 rfl]
   cbv;refine⟨rfl,λj hj=>?_,_,_,rfl⟩
   by_cases y:j=k
   ·rw[y];exact c
   ·exact g j (by omega)
  ·have i:(l.all λx=>decide (x=l.getD k 0)||fJ ws (l.getD k 0) x)=false:=by simpa using c
   rw[i,decide_eq_false_iff_not] at e;rw[dy (show ¬ (((ws.getD (l.getD k 0) 0&&& (mask l - 2 ^ l.getD k 0):Nat):Int)=((mask l - 2 ^ l.getD k 0:Nat):Int)) by rw[Q7];exact e)]
   cbv
   have:dh ws l=false:=by
    cases z:dh ws l with
    | false=>rfl
    | true=>
     unfold dh at z;rw[ih] at z;rw[z _ hm] at i;cases i
   rw[<-this];exact q _ a
 ·rintro σ t ⟨n,g,E,F,rfl⟩;rw[ak] at g;rw[n];cbv
  have:dh ws l=true:=by
   unfold dh;rw[ih];intro x hx;obtain⟨k,hk,e⟩:=C2 hx
   have:=g k hk
   rw[b3,b4 hk] at this;rw[<-e];exact this
  rw[<-this];exact q _ a
def zu (B:Bn mg)(D:Def K mg "is_ring" lS)(zI:Fn P w K mg base 1 "sees" ["web","i","j"] (yC K)):Fn P w K mg base 2 "is_ring" ["web","people"] (Q8 K):=by
 have zY:DS (aj lS) ["web","people","followers"] ["web","people"] ["len","set","all","zip"]:=aQ;walk_at"hH";obtain⟨w,p,e,r,rfl,hw,g,U,J,y,q⟩:=h;refine⟨_,(ae (cj (xT<|Ik (aL ie (cE S 0 (aA rfl) B.len oD<|aa<|kv S 1) aq<|ao _)<|qb<|aL ie (cE S 0 vO B.len oD<|aa<|pR S 1 (Cg hc rfl) B.set boot_set<|aa<|kv S 1) (cE S 0 (aA rfl) B.len oD<|aa<|kv S 1)<|ao _) (ai<|aI vF) av)
   (ae (bo S 2<|aP (nX rfl) (iu (nq rfl) (kv S 1) (aS aq) aV)<|iu (nq rfl) (kv S 1) aV<|aS aq)
   (ai (aI (cE S 2 (cY hc rfl) B.all boot_all (aa (ju S hc hsc (S3 false false S 3 B.zip rfl<|ah (kv S 1)<|aa<|kv S 2) (N:=["i","j","web"]) (W:=["i","j"]) (G:=["sees"]) (fv:=[none,none,some 0]) Dk0 λZ C Y s H i=>⟨(mI rfl (K:=X.K) (n:=2) rfl<|bq (kg i 0)<|bq (kg i 1) dO),bG,(cK i 0 zI hr<|ah (kv i 2)<|ah (kv i 0)<|aa<|kv i 1)⟩))))))),?_⟩
 cbv;refine aZ (.inr g) ?_;rw[b5,ak];cbv;refine bp (λc=>?_) λc=>?_
 ·rw[show false=jw e r by unfold jw;rw[dy (show ¬ 2<=r.length by omega)];rfl]
  exact q _<|ag.refl _
 refine⟨p,aK r,rfl,.inr g,by rw[ak];omega,λs L=>?_⟩
 have l:=ag.new L (.set (λj=>(jq (aK r) (aK r).length).any (· == j))<|unlike<|aK r);refine⟨s,_,_,rfl,af,?_⟩;generalize upd H s _=H1 at l ⊢;refine aZ (.inr<|l.aT g) ?_;rw[b5,ak];cbv
 by_cases o:r.Nodup
 ·rw[if_neg (by rw[Cj (rE o),ak];omega)]
  refine Az 0 (l.aT g) rfl (by rw[ak];omega) λa Q=>?_
  have F:=ag.new Q<|.tup<|((aK r).drop<|0+1).map V.int;refine Ay 1 ((l.trans F).aT g) rfl (by rw[ak];omega) λb hb=>?_
  have E:=ag.new hb<|.tup<|((aK r).take 1).map V.int;refine JM (ns:=(aK r).drop 1) (ms:=(aK r).take 1) (aN.of<|E _ _ af) (aN.of af) (de (by rw[mv,tz,ak];omega)) λf T M v=>?_
  have v:aN X.K T f ((aK<|qd r).map V.int):=by
   unfold qd;rw[dQ,<-vP,<-Fu];exact v
  have u:=((l.trans F).trans E).trans M;cbv;refine Sf _ (λk=>.bl<|fJ e (r.getD k 0)<|(qd r).getD k 0) (u.aT g) v (ea _) (by rw[ak,ak,Fx (by omega)];exact ea _) (.inl<|ea _) (by rw[ak];exact az (by omega)) ?_ ?_
  ·intro k O A hk d I;rw[ak] at hk;rw[bg,bg];cbv;exact⟨w,e,r.getD k 0,(qd r).getD k 0,rfl,(u.trans d).aT hw,y _<|dP hk,I _<|ag.refl _⟩
  ·intro x O R d m;refine⟨x,(List.range r.length).map λk=>fJ e (r.getD k 0)<|(qd r).getD k 0,rfl,au.of (by rw[m,ak,kb];rfl),?_⟩
   rw[Cm,show ((List.range r.length).all λk=>fJ e (r.getD (ahead r.length k) 0)<|r.getD k 0)=jw e r by unfold jw;rw[cc (show 2<=r.length by omega),cc o];rfl]
   exact q _<|u.trans d
 ·have t:=Co λz=>o<|qf.mp z;rw[ak] at t;rw[if_pos (by omega),show false=jw e r by unfold jw;rw[dy o,q5,KE]]
  exact q _ l
def HD (B:Bn mg)(D:Def K mg "shown_book" g7)(i5:Fn P w K mg base 1 "places" ["mask"] ku):Fn P w K mg base 2 "shown_book" ["book"] (wK K):=by
 have zY:DS (aj g7) ["book","names","rows","i","mask","seen"] ["book"] ["zip","enumerate","places"]:=aQ;walk_at"hH";obtain⟨t,a,b,d,rfl,⟨a1,a2,a3,h0,h1,_,h2,h3⟩,P,q⟩:=h;have h8:=P.nm.fC;refine⟨_,(ae (bo S 1<|kZ<|kv S 0)
   (ae (B9 (i:=2) S hc hsc (S3 false false S 0 B.zip rfl<|ah (kv S 1)<|aa<|kZ<|kv S 0) (N:=["name","count"]) (W:=["name","count"]) (G:=[]) (fv:=[none,none]) Dk0 (λcl C fp s H m=>⟨(mI rfl (K:=X.K) (n:=2) rfl<|bq (kg m 0)<|bq (kg m 1) dO),bG,(Rz<|nB aU<|nB (Ry<|kv m 0)<|nB aU<|nB (Ry<|kv m 1) OF)⟩) (by rw[hsc];decide +kernel) (by rw[cW,hsc];rfl))
   (ae (eV hxe hc (CY false S 1 B.enumerate rfl<|aa<|kZ<|kv S 0) (mI hc (K:=X.K) (n:=2) rfl<|bq (kg S 3)<|bq (kg S 4) dO) (ai (cj (aL nM (kv S 4) aq<|ao _) (ae (B9 (i:=5) S hc hsc (b9 (cK S 2 i5 hr<|aa<|kv S 4) rfl) (N:=["j","names"]) (W:=["j"]) (G:=[]) (fv:=[none,some 1]) Dk0 (λcl C fp s H m=>⟨(kg m 0),bG,(nY (eU rfl) (kv m 1) (kv m 0) λ_ _=>rfl)⟩) (by rw[hsc];decide +kernel) (by rw[cW,hsc];rfl))
   (ai<|dv<|fL ri mo oo bI rfl (kv S 2)<|aa<|fL q7 Da F1 (bD rfl) rfl aU<|aa<|aP (bV rfl) (dq<|ah aU<|aa<|O2 (kv S 1)<|kv S 3)<|kv S 5)) av)))
   (ai<|aI<|fL q7 Da F1 (bD rfl) rfl aU<|aa<|kv S 2)))),?_⟩
 walk_at"i";refine bA (i:=((0:Nat):Int)) h0 (ay rfl) ?_;have h1000:(1000:Nat)<=sizeLine:=by decide
 have el:(Str.ofString "hat ").length=4:=by decide +kernel
 have v:(Str.ofString " ").length=1:=by decide +kernel
 have J:∀ k,k<a.length->br (a.getD k aE)=true/\(a.getD k aE).length<=12/\(Str.ofString<|toString ((b.getD k 0:Nat):Int)).length<=30/\((b.getD k 0:Nat):Int).natAbs.log2<1920:=λk hk=>by
  have O:br (a.getD k aE)=true/\0<b.getD k 0/\b.getD k 0<10 ^ 30:=tZ P hk;refine⟨O.1,(dj O.1).2.2,dz (cq O.2.1 O.2.2).1,?_⟩;rw[Vb];exact(log2_lt (by omega)).mpr (Vf O.2.2 Dk0)
 walk_at"i";refine bA (i:=((1:Nat):Int)) h0 (ay rfl) ?_;refine Se (λk=>.str<|jz a b<|.bY k) h1 h2 (by rw[b5,b5,ak,P.lc]) (by rw[b5];exact az (by show a.length<=_;omega)) ?_ ?_
 ·intro k H1 A hk hS hA;rw[b5] at hk;rw[show (a.map V.str).getD k .bx=.str (a.getD k aE) by rw[b3,aC hk];rfl,gD (by rw[P.lc];exact hk)]
  obtain⟨f1,f2,f3,f4⟩:=J k hk;lia;have R:(Str.empty++Str.ofString "hat ").length=4:=by decide +kernel
  refine⟨_,rfl,by rw[R];omega,?_⟩
  refine .inl ⟨_,rfl,by omega,_,rfl,by rw[aG,R];omega,?_⟩
  lia;refine⟨_,rfl,by rw[aG,aG,R,v];omega,?_⟩
  refine .inr ⟨_,rfl,f4,_,rfl,by rw[aG,aG,aG,R,v];omega,?_⟩
  lia;refine⟨by rw[aG,aG,aG,R,v];omega,?_⟩
  have e0:Str.empty++Str.ofString "hat "=Str.ofString "hat ":=by decide +kernel
  rw[e0,oF];exact hA _<|ag.refl _
 intro r H1 hr0 s1 f;rw[b5] at f;have f:H1 r=some (.lst<|((Kt a d 0).map<|jz a b).map V.str):=by
  rw[f];unfold Kt;rw[List.range_zero,List.filter_nil,map_nil,F2,kb,kb];rfl
 have hrn:H r=none:=hr0;walk_at"i";refine bA (i:=((2:Nat):Int)) (s1.aT h0) (ay rfl) ?_;refine MH (RA H t a1 r a b d) (s1.aT h3) ⟨_,_,_,rfl,s1,f⟩ (λk σ H' h=>by obtain⟨y3,y4,y5,_,s,_⟩:=h;exact s.aT h3) ?_ ?_
 ·rintro k σ H2 H3 hk ⟨y3,y4,y5,rfl,s2,l⟩ s3;rw[ak,P.lw] at hk;rw[bg];have T:=s2.trans s3;have Q:=s3 _ _ l;have hsl:(Kt a d k).length<=90:=by
   unfold Kt
   have:=zO (λi=>decide<|d.getD i 0≠0)<|List.range k
   rw[pS] at this;rw[ed,b5,b5,pS]
   omega
  lia;refine bp (λc=>?_) λc=>?_
  ·have c':d.getD k 0≠0:=by simpa using c
   walk_at"i";have hw8:2 ^ a.length<=2 ^ 8:=si ad h8
   have hwl:=P.Uc k hk;refine⟨_,rfl,by omega,λpl H4 t4 hpl0 g=>?_⟩
   rw[Ku hwl] at g;have e:=uc P hk (List.Perm.refl _)<|(Ms P hk).mpr c';generalize u:kX a.length (d.getD k 0)=bt at g e ⊢;have hbl8:bt.length<=a.length:=by
    rw[<-u];unfold kX
    have:=zO (λj=>decide<|d.getD k 0 / 2 ^ j % 2=1)<|List.range a.length
    rw[pS] at this;exact this
   have hbm:∀ j∈bt,j<a.length:=λj hj=>by
    rw[<-u] at hj;exact(nA.mp hj).1
   have s4:=T.trans t4;refine⟨pl,rfl,⟨_,au.of g⟩,n9 (bJ<|au.of g) (λ_=>true) (λi=>.str<|a.getD (bt.getD i 0) aE) (by rw[b5,ak];exact az (by omega)) ?_ ?_⟩
   ·intro i H5 A B' hi hS hA _;rw[b5,ak] at hi;rw[gD hi];lia;refine bA (hS.aT<|s4.aT h1) (ay<|aC<|hbm _<|gE hi) ?_;exact hA rfl _<|ag.refl _
   intro nl H5 hnl0 s5 U;rw[bZ,b5,ak,fq λj=>V.str<|a.getD j aE] at U;have I:=s4.trans s5;have Y:=s5 _ _<|t4 _ _ Q;lia;refine⟨.inl ⟨rfl,_,au.of Y⟩,rfl,?_⟩;refine bA (I.aT h1) (ay<|aC hk) ?_;refine⟨ad,λp7 hp7=>?_⟩
   have M:=ag.new hp7<|.lst [V.str (Str.ofString "sees"),V.str<|a.getD k aE];refine⟨p7,nl,_,_,rfl,rfl,au.of af,au.of<|M _ _ U,by rw[b5];exact de (by show 2+_<=100;omega),λp8 hp8=>?_⟩
   have sp8:=ag.new hp8<|.lst<|[V.str (Str.ofString "sees"),V.str<|a.getD k aE]++bt.map λj=>V.str<|a.getD j aE;have e8:([V.str (Str.ofString "sees"),V.str<|a.getD k aE]++bt.map λj=>V.str<|a.getD j aE)=(gU<|jf a b<|.sees k bt).map V.str:=by
    show _=[V.str (Str.ofString "sees"),V.str<|a.getD k aE]++(bt.map λj=>a.getD j aE).map V.str;rw[kb];rfl
   have L:=gW e;have hlt:=nz e;have o:=eK 30 (gU<|jf a b<|.sees k bt) λy hy=>(L.1 y hy).2.2;have h41:(gU<|jf a b<|.sees k bt).length*31<=41*31:=yx _ L.2.1;have h2000:(2000:Nat)<=sizeLine:=by decide
   refine⟨_,p8,gU<|jf a b<|.sees k bt,rfl,rfl,au.of (by rw[af,e8]),?_,?_,?_⟩
   ·rw[bc];show ((gU<|jf a b<|.sees k bt).map λz=>z.length+1).sum<=_
    omega
   ·rw[bc]
    have:(cM<|jf a b<|.sees k bt).length=(Str.join ⟨#[32]⟩<|gU<|jf a b<|.sees k bt).length:=rfl
    omega
   rw[bc];have sA:=M.trans sp8;refine⟨r,_,_,rfl,rfl,sA _ _ Y,by rw[b5,b5];exact de (by omega),?_⟩
   refine⟨_,_,_,rfl,(I.trans sA).set hrn _,?_⟩;rw[af,wt,if_pos c',u,eH,eH];rfl
  ·have c':¬ d.getD k 0≠0:=by simpa using c
   refine⟨_,_,_,rfl,T,?_⟩;rw[wt,if_neg c'];exact Q
 rintro σ2 H2 ⟨y3,y4,y5,rfl,s2,l⟩;rw[ak,P.lw] at l;lia;have hML:(cf a d).length<=16:=fz rW (by omega)
 have en:(Str.ofString "\n")=⟨#[10]⟩:=by decide +kernel
 have p:=lQ P;have emm:(cf a d).map (jz a b)=((cf a d).map<|jf a b).map cM:=by rw[kb];rfl
 have E:((cf a d).map<|jf a b).length<=100:=by rw[b5];omega
 have hbl:=rR p E;have o:=eK 1271 ((cf a d).map<|jz a b) λy hy=>by
  obtain⟨x,hx,rfl⟩:=j9.mp hy;exact nz<|p _<|List.mem_map_of_mem hx
 rw[b5] at o;have h16:(cf a d).length*1272<=16*1272:=yx _ hML;have hbig:(1000000:Nat)<=sizeLine:=by decide
 have Z:Str.join ⟨#[10]⟩ ((cf a d).map<|jz a b)=oK ((cf a d).map<|jf a b):=by rw[emm];rfl
 refine⟨rfl,_,r,(cf a d).map<|jz a b,rfl,rfl,au.of l,?_,?_,?_⟩
 ·rw[en];show (((cf a d).map<|jz a b).map λz=>z.length+1).sum<=_
  omega
 ·rw[en,Z];omega
 rw[en,Z];exact q H2 s2
def Sn (D:Def K mg "greatest_divisor" dm):Fn P w K mg base 1 "greatest_divisor" ["a","b"] LW:=by
 have zY:DS (aj dm) ["a","b","rest"] ["a","b"] []:=aQ;walk_at"hH";obtain⟨m,n,rfl,q⟩:=h;refine⟨_,(ae (yu hxe (aL nM (kv S 1) aq<|ao _) (ae (bo S 2<|aP bR (kv S 0)<|kv S 1)
   (ae (bo S 0<|kv S 1)
   (ai<|bo S 1<|kv S 2))))
   (ai<|aI<|kv S 0)),?_⟩
 cbv;refine JD (QM H (Nat.gcd m n) [none]) Uk ⟨rfl,m,n,_,rfl,rfl,rfl⟩ ?_;rintro σ f ⟨e,b,a,y,rfl,hy,d⟩;obtain⟨z,rfl⟩:=Tr hy;rw[e];cbv;refine bp (λc=>?_) λc=>?_
 ·have hn:a≠0:=by simpa using c
  refine JE (Pv:=QM H (Nat.gcd m n) [none]) (μ:=Uk) ?_;cbv;rw[Ts];refine⟨by omega,⟨rfl,a,b % a,_,rfl,rfl,by rw[E4];exact d⟩,?_⟩
  show ((b % a:Nat):Int).toNat<((a:Nat):Int).toNat
  have:=mod_lt b (show a > 0 by omega)
  omega
 ·have hn:a=0:=by simpa using c
  subst hn;rw[Nat.gcd_zero_right] at d;subst d;exact q
def HE (D:Def K mg "share" uy)(jW:Fn P w K mg base 1 "greatest_divisor" ["a","b"] LW):Fn P w K mg base 2 "share" ["counts"] (AA K):=by
 have zY:DS (aj uy) ["counts","over","under","count","divisor"] ["counts"] ["greatest_divisor"]:=aQ;walk_at"hH";obtain⟨p,b,rfl,e,a,q⟩:=h;refine⟨_,(ae (bo S 1 aq)
   (ae (bo S 2 aq)
   (ae (eV hxe hc (fj (kv S 0) rfl) (kg S 3) (ae (bo S 1<|aP aJ (aP dZ (kv S 1)<|kv S 3)<|kv S 2)
   (ai<|bo S 2<|aP dZ (kv S 2)<|kv S 3)))
   (ae (bo S 4<|cK S 0 jW hr<|ah (kv S 1)<|aa<|kv S 2)
   (ai<|aI<|vH<|ah (aP dC (kv S 1)<|kv S 4)<|aa<|aP dC (kv S 2)<|kv S 4))))),?_⟩
 cbv;refine JK (Tv H p b) e ⟨rfl,none,rfl⟩ (λi σ f h=>by rw[h.1];exact e) ?_ ?_
 ·rintro i σ f d ⟨c,y,rfl⟩;rw[c];cbv;have hb:=(a.get d).bt;refine⟨(a.take i).Tu.ok hb (by omega),(a.take i).Cd.ok hb (by omega),rfl,some<|.int<|b.getD i 0,?_⟩
  rw[take_snoc 0 d,Cb (a.get d).lo,tF]
 ·rintro σ f ⟨c,y,rfl⟩;rw[c,SC];cbv;refine⟨(di (pr b) b).toNat,(pr b).toNat,by rw[toN a.Tt,toN (show 0<=pr b by have:=a.jv;omega)],?_⟩
  cbv;have l:=yw a;have g:(0:Int)<(gC b:Int)/\((gC b:Int)).natAbs.log2<9000:=⟨by omega,(QP a).log (by omega) ad⟩
  exact⟨g,g,ad,λt j=>q t _ (ag.new j _) af⟩
def K8 (D:Def K mg "sure" zm)(Lk:Fn P w K mg base 2 "share" ["counts"] (AA K)):Fn P w K mg base 3 "sure" ["counts"] (Fg K):=by
 have zY:DS (aj zm) ["counts","told"] ["counts"] ["share"]:=aQ;walk_at"hH";obtain⟨p,e,rfl,c,a,q⟩:=h;refine⟨_,(ae (bo S 1<|cK S 0 Lk hr<|aa<|kv S 0)
   (ai<|aI<|aP dC (kZ<|kv S 1)<|kZ<|kv S 1)),?_⟩
 cbv;refine⟨p,e,rfl,c,a,λt d f b=>?_⟩;cbv;refine bA (aN.of b) (i:=0) rfl ?_;refine bA (aN.of b) (i:=1) rfl ?_;cbv;refine⟨⟨by have:=yy a;omega,(NZ a).log (by have:=yy a;omega) ad⟩,?_⟩
 rw[N0 a];exact q d f
def Dh (B:Bn mg)(D:Def K mg "picked" pw):Fn P w K mg base 1 "picked" ["values","people"] (ox K):=by
 have zY:DS (aj pw) ["values","people"] ["values","people"] ["tuple"]:=aQ;walk_at"hH";obtain⟨c,p,g,l,rfl,f,o,m,F,q⟩:=h;refine⟨_,(ai (aI (pR S 0 (gs rfl) B.tuple boot_tuple (aa (ju S hc hsc (fj (kv S 1) rfl) (N:=["i","values"]) (W:=["i"]) (G:=[]) (fv:=[none,some 0]) Dk0 λE C y s H j=>⟨(kg j 0),bG,(nY (eU rfl) (kv j 1) (kv j 0) λ_ _=>rfl)⟩))))),?_⟩
 cbv;refine SR (λ_=>true) (λk=>g.getD (l.getD k 0) 0) o (by rw[ak];exact az (by omega)) ?_ ?_
 ·intro k H1 A z hk u n _;rw[ak] at hk;rw[bg];cbv;exact dD (u.aT f) rfl (m _<|dP hk)<|n rfl _<|ag.refl _
 ·intro d H1 v b a;rw[bZ,ak] at a;have e:((List.range l.length).map λk=>g.getD (l.getD k 0) 0)=pk g l:=by
   unfold pk
   apply ext_getElem
   ·simp
   ·intro i h1 x
    simp at h1 x
    simp[h1]
  rw[e] at a;exact⟨d,_,rfl,.inl ⟨au.of a,λt r=>q t _ (b.trans<|ag.new r _) af⟩⟩
def HF (D:Def K mg "group_sure" g5)(kR:Fn P w K mg base 1 "picked" ["values","people"] (ox K))(Pn:Fn P w K mg base 3 "sure" ["counts"] (Fg K)):Fn P w K mg base 4 "group_sure" ["counts","kind","people"] (AO K):=by
 have zY:DS (aj g5) ["counts","kind","people"] ["counts","kind","people"] ["sure","picked"]:=aQ;walk_at"hH";obtain⟨c,p,n,g,rfl,f,i,d,a,q⟩:=h;refine⟨_,(ae (cj (aL aM (kv S 1) aU<|ao _) (ai<|aI aq) av)
   (ai<|aI<|cK S 0 Pn hr<|aa<|cK S 1 kR hr<|ah (kv S 0)<|aa<|kv S 2)),?_⟩
 cbv;obtain⟨b,l⟩:=g;have e:decide (kd b="ring")=b:=tP b;simp only[rp,yo,e];unfold AN at q
 cases b with
 | true=>
  cbv;exact q _<|ag.refl _
 | false=>
  cbv;refine⟨c,p,n,l,rfl,f,i,a.lt,a.len,λt H1 o j=>?_⟩;exact⟨t,_,rfl,aN.of j,Mf d a,λr m=>q _<|o.trans m⟩
def K9 (B:Bn mg)(D:Def K mg "made_sure" iP)(uK:Fn P w K mg base 4 "group_sure" ["counts","kind","people"] (AO K)):Fn P w K mg base 5 "made_sure" ["counts","groups"] (FC K):=by
 have zY:DS (aj iP) ["counts","groups"] ["counts","groups"] ["sum"]:=aQ;walk_at"hH";obtain⟨c,g,m,J,L,rfl,f,u,t,e,E,l,q⟩:=h;refine⟨_,(ai (aI (cE S 0 (cN hc rfl) B.sum boot_sum (aa (ju S hc hsc (fj (kv S 1) rfl) (N:=["kind","people","counts"]) (W:=["kind","people"]) (G:=["group_sure"]) (fv:=[none,none,some 0]) Dk0 λO C M s H a=>⟨(mI rfl (K:=X.K) (n:=2) rfl<|bq (kg a 0)<|bq (kg a 1) dO),bG,(cK a 0 uK hr<|ah (kv a 2)<|ah (kv a 0)<|aa<|kv a 1)⟩))))),?_⟩
 cbv;refine UJ (AN m) u t (az (by omega)) ?_ ?_
 ·intro i j p H1 A F v r o;cbv;exact⟨c,p,m,j,rfl,v.aT f,r,e,E j<|fO F,λI z=>o I z⟩
 ·intro y H1 x d b;exact nZ (au.of b)<|q H1 d
def pB (B:Bn mg)(D:Def K mg "first_ready" fY):Fn P w K mg base 1 "first_ready" ["web","laid"] (Oe K):=by
 have zY:DS (aj fY) ["web","laid","i","mask"] ["web","laid"] ["enumerate"]:=aQ;walk_at"hH";obtain⟨w,ws,laid,rfl,hw,m,q⟩:=h;refine⟨_,(ae (eV hxe hc (CY false S 0 B.enumerate rfl<|aa<|kv S 0) (mI hc (K:=X.K) (n:=2) rfl<|bq (kg S 2)<|bq (kg S 3) dO)<|ai<|cj (xT<|vI (aL aM (aP dN (aP x9 (kv S 1)<|kv S 2) aq) aq<|ao _)<|rA<|aL aM (aP Ab (kv S 3)<|kv S 1) (kv S 1)<|ao _) (ai<|aI<|kv S 2) av)
   (ai<|aI vG)),?_⟩
 cbv;refine MH (LZ H w ws laid) hw ⟨ag.refl _,(λj hj=>absurd hj<|SF j),none,none,rfl⟩ (λk σ r h=>h.1.aT hw) ?_ ?_
 ·rintro k σ H1 l hk ⟨f,a,o,p,rfl⟩ c;rw[ak] at hk;rw[bg];cbv;refine⟨by omega,?_⟩
  have e:=ly (ws:=ws) (laid:=laid) (i:=k);have next:ready ws laid k=false->LZ H w ws laid (k+1) [some (.ref w),some<|.int laid,some<|.int k,some<|.int (ws.getD k 0:Nat)] l:=λhz=>by
   refine⟨f.trans c,λj hj=>?_,_,_,rfl⟩
   by_cases g:j=k
   ·rw[g];exact hz
   ·exact a j (by omega)
  by_cases b:laid.testBit k=true
  ·rw[b];cbv;exact next (by unfold ready;rw[b];rfl)
  ·have b:laid.testBit k=false:=by simpa using b
   rw[b];cbv
   by_cases d:ws.getD k 0||| laid=laid
   ·rw[if_pos d];refine(q l<|f.trans c).2 k (find_some a ?_ hk);unfold ready;rw[b,cc d];rfl
   ·rw[if_neg d];refine next ?_;unfold ready;rw[b,dy d];rfl
 ·rintro σ H1 ⟨f,a,o,p,rfl⟩;cbv;rw[ak] at a;exact(q H1 f).1 (find_none a)
def xa (D:Def K mg "laid_out" jP)(jA:Fn P w K mg base 1 "first_ready" ["web","laid"] (Oe K)):Fn P w K mg base 2 "laid_out" ["web"] (Q0 K):=by
 have zY:DS (aj jP) ["web","order","laid","i"] ["web"] ["first_ready"]:=aQ;walk_at"hH";obtain⟨w,c,rfl,hw,t,q⟩:=h;refine⟨_,(ae (bo S 1<|dq bF)
   (ae (bo S 2 aq)
   (ae (bo S 3<|cK S 0 jA hr<|ah (kv S 0)<|aa<|kv S 2)
   (ae (yu hxe (aL vN (kv S 3) vG<|ao _) (ae (dv<|fL ri mo oo bI rfl (kv S 1)<|aa<|kv S 3)
   (ae (bo S 2<|aP Ab (kv S 2)<|aP c9 aq<|kv S 3)
   (ai<|bo S 3<|cK S 0 jA hr<|ah (kv S 0)<|aa<|kv S 2))))
   (ai<|aI<|kv S 1))))),?_⟩
 cbv;refine⟨ad,λl s=>?_⟩
 have v:=ag.new s<|.lst [];have x:∀ (laid:Nat) (H1:Hp) (R:V->Hp->Prop),ag H H1->(∀ g,ag H1 g->R (L6 c laid) g)->Oe X.K [.ref w,.int laid] H1 R E0:=λlaid H1 R z y=>by
  refine⟨w,c,laid,rfl,z.aT hw,t,λg a=>⟨λe=>?_,λi e=>?_⟩⟩
  ·have:=y g a
   unfold L6 at this;rw[e] at this;exact this
  ·have:=y g a
   unfold L6 at this;rw[e] at this;exact this
 refine x 0 _ _ v λH1 j=>?_;cbv;refine AH (Q1 H w l c) (c.length+1) ⟨[],0,rfl,v.trans j,j _ _ af,Laid.nil c,rfl,by simp⟩ ?_
 rintro f σ g ⟨order,laid,rfl,a,d,p,b,o⟩;have u:=cC p.nd p.lt
 cases e:bS c laid with
 | none=>
  have r:L6 c laid=.bx:=by unfold L6;rw[e]
  rw[r];cbv;refine q l g a s ?_;rw[<-b,vL e];exact d
 | some i=>
  have r:L6 c laid=.int i:=by unfold L6;rw[e]
  obtain⟨B,_⟩:=hX e;rw[r];cbv;refine AI ?_;cbv;refine⟨.inl ⟨rfl,_,au.of d⟩,?_⟩;refine⟨l,_,.int i,rfl,rfl,d,by rw[b5,ak];exact az (by omega),?_⟩
  cbv;refine⟨eS (by omega),?_⟩
  have n:=a.set s<|.lst<|(aK order).map V.int++[.int i];refine x _ _ _ n λA m=>?_;cbv
  match f,b,o with
  | 0,_,o=>exact absurd o (by omega)
  | f+1,b,o=>
   refine⟨f,Vo f,order++[i],_,rfl,n.trans m,?_,p.put e,?_,?_⟩
   ·rw[m _ _ af,dQ,eH];rfl
   ·rw[<-b,vK e]
   ·rw[ed];show c.length<f+(order.length+1);omega
def qt (B:Bn mg)(D:Def K mg "first_seen" gZ)(zI:Fn P w K mg base 1 "sees" ["web","i","j"] (yC K)):Fn P w K mg base 2 "first_seen" ["web","i","people"] (Q2 K):=by
 have zY:DS (aj gZ) ["web","i","people"] ["web","i","people"] []:=aQ;walk_at"hH";obtain⟨w,l,d,left,i,rfl,hw,u,t,I,⟨z,j,n⟩,q⟩:=h;refine⟨_,(ai (aI (nY (df rfl) (ju S hc hsc (b9 (kv S 2) rfl) (N:=["j","web","i"]) (W:=["j"]) (G:=["sees"]) (fv:=[none,some 0,some 1]) Dk0 λF C E s H f=>⟨(kg f 0),(da<|kn<|cK f 0 zI hr<|ah (kv f 1)<|ah (kv f 2)<|aa<|kv f 0),(kv f 0)⟩) aq λ_ _=>rfl))),?_⟩
 cbv;refine Tq (λk=>fJ d i<|left.getD k 0) (λk=>((left.getD k 0:Nat):Int)) u (by rw[ak];exact az (by omega)) ?_ ?_
 ·intro k H1 A y hk m p x;rw[ak] at hk;rw[bg];cbv;refine⟨w,d,i,left.getD k 0,rfl,m.aT hw,t,?_⟩;cbv
  by_cases c:fJ d i (left.getD k 0)=true
  ·rw[c];cbv;exact p c _<|ag.refl _
  ·have c:fJ d i (left.getD k 0)=false:=by simpa using c
   rw[c];cbv;exact x c _<|ag.refl _
 ·intro v H1 hn m g;have b:0<((List.range (aK left).length).filter λk=>fJ d i<|left.getD k 0).length:=by
   obtain⟨k,hk,e⟩:=C2 j;refine length_pos_of_mem (a:=k) (tp.mpr ⟨kf.mpr (by rw[ak];exact hk),?_⟩)
   rw[b3,b4 hk,e];exact n
  refine eW (k:=0) (au.of g) rfl (by rw[b5];exact b) ?_
  have hm:((List.range (aK left).length).filter λk=>fJ d i<|left.getD k 0)[0]∈(List.range (aK left).length).filter λk=>fJ d i (left.getD k 0):=pP b;obtain⟨h1,r⟩:=tp.mp hm;rw[b3,et,b4 b];refine q H1 _ m ?_ r;have o:=Nat.lt_of_lt_of_eq (kf.mp h1)<|ak left;rw[b3,b4 o];exact pP o
def pC (B:Bn mg)(D:Def K mg "sight_ring" g4)(zJ:Fn P w K mg base 2 "laid_out" ["web"] (Q0 K))(uL:Fn P w K mg base 2 "first_seen" ["web","i","people"] (Q2 K)):Fn P w K mg base 3 "sight_ring" ["web"] (MD K):=by
 have zY:DS (aj g4) ["web","order","left","path","i"] ["web"] ["laid_out","range","len","first_seen","tuple"]:=aQ;walk_at"hH";obtain⟨w,f,rfl,hw,hl8,aY,q⟩:=h;have hL8:=Fw f;refine⟨_,(ae (bo S 1<|cK S 0 zJ hr<|aa<|kv S 0)
   (ae (B9 (i:=2) S hc hsc (iw S 1 B.range<|aa<|cE S 2 (aA rfl) B.len oD<|aa<|kv S 0) (N:=["i","order"]) (W:=["i"]) (G:=[]) (fv:=[none,some 1]) Dk0 (λcl C fp s H S2=>⟨(kg S2 0),(da (aL (eY rfl) (kv S2 0) (kv S2 1) (by with_unfolding_all rfl))),(kv S2 0)⟩) (by rw[hsc];decide +kernel) (by rw[cW,hsc];rfl))
   (ae (cj (aL (ir hu rfl) (kv S 2) (dq bF)<|ao _) (ai<|aI vG) av)
   (ae (bo S 3<|dq bF)
   (ae (bo S 4<|cp<|kv S 2)
   (ae (yu hxe (aL (eY rfl) (kv S 4) (kv S 3) (by with_unfolding_all rfl)) (ae (dv<|fL ri mo oo bI rfl (kv S 3)<|aa<|kv S 4)
   (ai<|bo S 4<|cK S 3 uL hr<|ah (kv S 0)<|ah (kv S 4)<|aa<|kv S 2)))
   (ai<|aI<|pR S 4 (oy rfl) B.tuple boot_tuple<|aa<|iu (bz rfl) (kv S 3) (aS<|fL ri slot_list_index PySem.F.type_list_index (Cf rfl) rfl (kv S 3)<|aa<|kv S 4) aV))))))),?_⟩
 cbv;refine⟨w,f,rfl,hw,hl8,λl H1 L _ hl=>?_⟩;cbv;refine aZ (.inr<|L.aT hw) ?_;rw[b5,ak];refine QL f.length (λi=>!decide (i∈laidOut f)) (λi=>(i:Int)) rfl (by omega) ?_ ?_
 ·intro k H2 A B' hk hS hA hB;cbv;refine AG (.inl<|au.of<|hS _ _ hl) ?_;cbv
  by_cases c:k∈laidOut f
  ·rw[cc c];cbv;exact hB (by rw[cc c];rfl) _<|ag.refl _
  ·rw[dy c];cbv;exact hA (by rw[dy c];rfl) _<|ag.refl _
 intro Z H2 hn2 hS2 n;have n:H2 Z=some (.lst<|(aK<|cQ f).map V.int):=n;have u:=L.trans hS2;cbv;refine⟨ad,λe he=>?_⟩
 have M:=ag.new he<|.lst [];refine⟨_,_,.lst (au.of<|M _ _ n)<|eh.ints _,.lst (au.of af) .nil,kl _,ad,?_⟩
 rw[show ([]:List PyData)=([]:List Int).map PyData.int from rfl,Fi]
 cbv;refine bp (λc=>?_) λc=>?_
 ·have:cQ f=[]:=JT.mp c
  exact(q _<|u.trans M).1 (vR.mp this)
 ·have ab:cQ f≠[]:=λz=>c (by rw[z];rfl)
  have hlt:(laidOut f).length<f.length:=vr λz=>ab<|vR.mpr z;refine⟨ad,λI y=>?_⟩
  have sp:=M.trans<|ag.new y<|.lst [];have p:0<(cQ f).length:=Do.mpr ab;refine eW (k:=0) (au.of<|sp _ _ n) rfl (by rw[ak];exact p) ?_
  rw[bg];have h0:(cQ f).getD 0 0∈cQ f:=by
   rw[b3,b4 p];exact pP p
  cbv;have T:H I=none:=(u.trans M).free y;have v:∀ j∈cQ f,j<f.length:=λj hj=>(iC.mp hj).1;refine AH (Q3 X.K H w l Z I f) _ ⟨[],_,rfl,u.trans sp,au.of<|sp _ _ n,af,Path.nil h0,rfl⟩ ?_;rintro m σ H3 ⟨a,i,rfl,R,O,d,J,rfl⟩;have hplen:=cC J.nd λj hj=>v j<|J.sub j hj;cbv;refine AG (.inl<|au.of d) ?_;cbv
  by_cases Y:i∈a
  ·rw[cc Y];cbv;refine⟨.inl ⟨rfl,_,au.of d⟩,I,aK a,i,rfl,rfl,au.of d,nr.mpr Y,?_⟩;cbv;refine JL (a.idxOf i) (au.of d) (by rw[AF]) λb hb=>?_
   rw[vP];have sb:=ag.new hb<|.lst<|(aK<|a.drop<|a.idxOf i).map V.int;refine⟨b,_,rfl,au.of af,λt o ht hoc hod=>?_⟩;exact(q _<|(R.trans sb).trans<|ag.new ht _).2 hlt t _ o af hoc hod (J.ring aY v Y)
  ·rw[dy Y];cbv;refine AI ?_;have hi:=v i J.here;obtain⟨j,hj1,hj2,hj3⟩:=Ce aY hi (iC.mp J.here).2;cbv;refine⟨.inl ⟨rfl,_,au.of d⟩,?_⟩;refine⟨I,_,.int i,rfl,rfl,d,by rw[b5,ak];exact az (by omega),?_⟩
   have Q:=R.set T<|.lst<|(aK a).map V.int++[.int i];have r:au X.K (upd H3 I<|.lst<|(aK a).map V.int++[.int i]) Z ((aK<|cQ f).map V.int):=by
    have U:Z≠I:=aH (M _ _ n) y
    rcases O with (z | ⟨o,z⟩) | z
    ·exact .inl (.inl (by rw[aB U];exact z))
    ·exact .inl (.inr ⟨o,by rw[aB U];exact z⟩)
    ·exact .inr z
   refine⟨w,Z,f,cQ f,i,rfl,Q.aT hw,r,hi,by omega,⟨j,iC.mpr ⟨hj1,hj3⟩,hj2⟩,λH5 k x hk hks=>?_⟩
   cbv;have E:=J.put Y hk hks;have g:=cC E.nd λj hj=>v j<|E.sub j hj;rw[ed] at g;refine⟨f.length - (a++[i]).length,?_,a++[i],k,rfl,Q.trans x,x.seq r,?_,E,rfl⟩
   ·rw[ed];simp at g ⊢;omega
   ·rw[x _ _ af,dQ,eH];rfl
def Di (B:Bn mg)(D:Def K mg "sights_from" f9):Fn P w K mg base 1 "sights_from" ["web","people"] (RU K):=by
 have zY:DS (aj f9) ["web","people"] ["web","people"] ["tuple","enumerate"]:=aQ;walk_at"hH";obtain⟨w,p,d,l,rfl,hw,o,I,u,q⟩:=h;refine⟨_,(ai (aI (pR S 0 (gs rfl) B.tuple boot_tuple (aa (ju S hc hsc (CY false S 1 B.enumerate rfl<|aa<|kv S 0) (N:=["i","mask","people"]) (W:=["i","mask"]) (G:=[]) (fv:=[none,none,some 1]) Dk0 (λF C z s H g=>⟨(mI rfl (K:=X.K) (n:=2) rfl<|bq (kg g 0)<|bq (kg g 1) dO),bG,(Tj (aL (lu rfl) (kv g 0) (kv g 2) (by with_unfolding_all rfl)) (kv g 1) aq)⟩)))))),?_⟩
 cbv;refine Sg (λ_=>true) (λi=>(((lJ d l).getD i 0:Nat):Int)) hw (by rw[ak];exact az (by omega)) ?_ ?_
 ·intro i H1 A E m v f _;rw[ak] at m;rw[bg];have e:=pb (l:=l) m;cbv;refine AG (a:=l) (.inl<|v.seq o) ?_
  by_cases c:i∈l
  ·rw[if_pos c] at e;rw[cc c];cbv;rw[<-e];exact f rfl _<|ag.refl _
  ·rw[if_neg c] at e;rw[dy c];cbv
   have:=f rfl _<|ag.refl _
   rw[e] at this;exact this
 ·intro j H1 y x b;rw[bZ,ak] at b;have e:((List.range d.length).map λi=>(((lJ d l).getD i 0:Nat):Int))=aK (lJ d l):=by
   unfold aK;rw[<-gG d l]
   conv=>rhs;rw[<-my (lJ d l),kb]
   rfl
  rw[e] at b;exact⟨j,_,rfl,.inl ⟨au.of b,λt r=>q t _ (x.trans<|ag.new r _)<|aN.of af⟩⟩
variable {n:Nat}
def So (h:n<=8):2 ^ n<=256:=fz (si ad h) ad
variable {m:Nat}
def HG {cs:List Int}{ws r:List Nat}(hn:ws.length=cs.length)(h:Ring (lJ ws<|GY cs<|aW m) r):GG cs ws m (true,r):=by
 have a:∀ x∈r,x<ws.length:=λx hx=>by have:=h.lt x hx;rwa [gG] at this
 have sees:∀ k,k<r.length->fJ (lJ ws<|GY cs<|aW m) (r.getD k 0) (r.getD ((k+1) % r.length) 0)=true:=λk hk=>by
  by_cases c:k+1=r.length
  ·rw[c,Nat.mod_self]
   have:=h.last
   rw[show r.length - 1=k by omega] at this
   exact this
  ·rw[Nat.mod_eq_of_lt (by omega)]
   exact h.next k (by omega)
 have two:∀ x∈r,x∈GY cs (aW m):=λx hx=>by
  obtain⟨k,hk,e⟩:=C2 hx
  have:=sees k hk
  rw[b3,b4 hk] at this;rw[show (some r[k]).getD 0=r[k] from rfl,e,uk<|a x hx,ef,r4] at this
  exact this.1
 have b:=h.two;refine⟨⟨λx hx=>by rw[<-hn];exact a x hx,h.nd,λ_=>⟨h.two,λx hx=>?_,λk hk=>?_⟩,(λe=>nomatch e)⟩,λz=>?_,(λe=>nomatch e),λx hx=>?_⟩
 ·have:=(tp.mp<|two x hx).2
  exact h9 this
 ·have:=sees k hk
  rw[uk (a _<|vW hk),ef] at this;exact this.2
 ·have z:r=[]:=z;rw[z] at b;simp at b
 ·exact fB.mp (tp.mp<|two x hx).1
def qu (B:Bn mg)(D:Def K mg "lone_group" g6)(i5:Fn P w K mg base 1 "places" ["mask"] ku)(i6:Fn P w K mg base 1 "is_circle" ["web","people"] (Of K))(uM:Fn P w K mg base 3 "sight_ring" ["web"] (MD K))(qy:Fn P w K mg base 1 "sights_from" ["web","people"] (RU K)):Fn P w K mg base 4 "lone_group" ["counts","web","crowd"] (RV K):=by
 have zY:DS (aj g6) ["counts","web","crowd","people","twos","ring"] ["counts","web","crowd"] ["tuple","places","is_circle","sight_ring","sights_from"]:=aQ;walk_at"hH";obtain⟨c,w,u,R,m,rfl,hcq,E,F,hn,aY,hm0,hm,q⟩:=h;have h8:=F.len;have hmb:m<256:=gg hm<|So h8;have f:∀ x∈aW m,x<u.length:=λx hx=>lI hm<|fB.mp hx;have hl8:(aW m).length<=8:=fz (cC (dk m) f) h8;refine⟨_,(ae (bo S 3<|pR S 0 (oy rfl) B.tuple boot_tuple<|aa<|cK S 1 i5 hr<|aa<|kv S 2)
   (ae (cj (kn<|cK S 2 i6 hr<|ah (kv S 1)<|aa<|kv S 3) (ai<|aI<|vH<|aa<|vH<|ah aU<|aa<|kv S 3) av)
   (ae (B9 (i:=4) S hc hsc (fj (kv S 3) rfl) (N:=["i","counts"]) (W:=["i"]) (G:=[]) (fv:=[none,some 0]) Dk0 (λcl C fp s H O=>⟨(kg O 0),(da<|aL aM (nY (eU rfl) (kv O 1) (kv O 0) λ_ _=>rfl) aq<|ao _),(kv O 0)⟩) (by rw[hsc];decide +kernel) (by rw[cW,hsc];rfl))
   (ae (bo S 5<|cK S 3 uM hr<|aa<|cK S 4 qy hr<|ah (kv S 1)<|aa<|kv S 4)
   (ae (cj (aL AE (kv S 5) vG<|ao _) (ai<|aI<|vH bF) av)
   (ai<|aI<|vH<|aa<|vH<|ah aU<|aa<|kv S 5)))))),?_⟩
 cbv;refine⟨m,rfl,by omega,λl H1 s1 _ hl=>?_⟩
 refine⟨l,_,rfl,au.of hl,λp o hp T X=>?_⟩;have U:=s1.trans<|ag.new hp<|.iF o<|.tup<|(aK<|aW m).map V.int;have d:upd H1 p (.iF o<|.tup<|(aK<|aW m).map V.int) p=some (.iF o<|.tup<|(aK<|aW m).map V.int):=af;generalize upd H1 p (.iF o<|.tup<|(aK<|aW m).map V.int)=H2 at U d ⊢;cbv;refine⟨w,p,R,aW m,rfl,U.aT E,aN.iF d,by omega,dk m,λi hi=>by rw[hn];exact f i hi,λH3 s3=>?_⟩
 have v:=s3 _ _ d;have n:=U.trans s3;have hne:aW m≠[]:=λz=>by
  have:=CP m
  rw[z] at this
  have:0=m:=this
  omega
 cases cb:dh R (aW m) with
 | true=>
  cbv;refine⟨ad,λz1 h1=>⟨ad,λZ Y=>?_⟩⟩
  have M:=ag.new h1<|.tup [.str "circle",.ref p];have J:=ag.new Y<|.tup [.ref z1];have a:=M.trans J;refine q Z [.ref z1] [(false,aW m)] _ (n.trans a) (aN.of af) ⟨⟨z1,p,rfl,J.aT<|aN.of af,aN.iF<|a _ _ v,.inr ⟨_,_,a _ _ v,T,X⟩⟩,trivial⟩ ?_;have e:(([(false,aW m)]:B0L).map<|AR u).sum=uj u (aW m):=by
   show AR u (false,aW m)+0=_;rw[za,Int.add_zero]
  rw[e];refine⟨⟨λg hg=>?_,List.pairwise_singleton _ _,e,qm F.pos f⟩,trivial⟩;rw[dt.mp hg];exact⟨⟨f,dk m,(λe=>nomatch e),λ_=>y0 cb⟩,hne,λ_=>mD m,λx hx=>fB.mp hx⟩
 | false=>
  cbv;refine SR (λj=>decide<|u.getD ((aW m).getD j 0) 0=2) (λj=>(((aW m).getD j 0:Nat):Int)) (aN.iF v) (by rw[ak];exact az (by omega)) ?_ ?_
  ·intro j H4 A B' hj hS hA hB;rw[ak] at hj;rw[bg];cbv;refine dD ((n.trans hS).aT hcq) rfl (f _<|dP hj) ?_;cbv
   by_cases Q:u.getD ((aW m).getD j 0) 0=2
   ·rw[if_pos Q];exact hA (cc Q) _<|ag.refl _
   ·rw[if_neg Q];exact hB (dy Q) _<|ag.refl _
  intro L H4 _ s4 b;rw[GJ (aW m) (λx=>decide<|u.getD x 0=2)] at b;have b:H4 L=some (.lst<|(aK<|GY u<|aW m).map V.int):=b;cbv;refine⟨w,L,R,GY u<|aW m,rfl,(n.trans s4).aT E,au.of b,by omega,fz (zO _ _) hl8,λt H5 s5 ht=>?_⟩
  refine⟨t,_,rfl,ht,by rw[gG];omega,KQ aY,λH6 s6=>⟨λnf=>?_,λhlt2 p2 r o2 d y I hR=>?_⟩⟩
  ·cbv;refine⟨ad,λz h1=>?_⟩
   have M:=ag.new h1<|.tup [];refine q z [] [] _ (n.trans<|s4.trans<|s5.trans<|s6.trans M) (aN.of af) trivial ⟨um u R m,trivial⟩
  ·cbv;refine⟨ad,λz1 h1=>⟨ad,λZ Y=>?_⟩⟩
   have M:=ag.new h1<|.tup [.str "ring",.ref p2];have J:=ag.new Y<|.tup [.ref z1];have a:=M.trans J;refine q Z [.ref z1] [(true,r)] _ (n.trans<|s4.trans<|s5.trans<|s6.trans a) (aN.of af) ⟨⟨z1,p2,rfl,J.aT<|aN.of af,aN.iF<|a _ _ d,.inr ⟨_,_,a _ _ d,y,I⟩⟩,trivial⟩ ?_;have e:(([(true,r)]:B0L).map<|AR u).sum=1:=rfl;rw[e];refine⟨⟨λg hg=>?_,List.pairwise_singleton _ _,e,(by show (0:Int)<=1;omega)⟩,trivial⟩
   rw[dt.mp hg];exact HG hn hR
def Sq (K:Frag)(H0:Hp)(c w l:Addr)(cs:List Int)(ws:List Nat)(i:Nat)(σ:L2.St)(H:Hp):Prop:=∃ (us:List V) (fl:List nD) (y1 y2:Option V),σ=[some (.ref c),some<|.ref w,some<|.ref l,y1,y2]/\ag H0 H/\H l=some (.lst us)/\lK K H us fl/\fl.length=1+i/\∀ k,k<1+i->pd cs ws k (fl.getD k (0,[]))
def mR (B:Bn mg)(D:Def K mg "lone_choices" fE)(uN:Fn P w K mg base 4 "lone_group" ["counts","web","crowd"] (RV K))(xo:Fn P w K mg base 5 "made_sure" ["counts","groups"] (FC K)):Fn P w K mg base 6 "lone_choices" ["counts","web"] (ME K):=by
 have zY:DS (aj fE) ["counts","web","choices","crowd","groups"] ["counts","web"] ["range","lone_group","len","made_sure"]:=aQ;walk_at"hH";obtain⟨c,w,a,U,rfl,u,v,p,hn,aY,q⟩:=h;have h8:=p.len;have hpow:=So h8;have hpos:0<2 ^ a.length:=F0 _;refine⟨_,(ae (bo S 2<|dq<|aa<|vH<|ah aq<|aa<|vH bF)
   (ae (eV hxe hc (Qz S 0 B.range<|ah aq<|aa<|aP c9 aq<|cE S 2 (aA rfl) B.len oD<|aa<|kv S 1) (kg S 3) (ae (bo S 4<|cK S 1 uN hr<|ah (kv S 0)<|ah (kv S 1)<|aa<|kv S 3)
   (ai<|dv<|fL ri mo oo bI rfl (kv S 2)<|aa<|vH<|ah (cK S 3 xo hr<|ah (kv S 0)<|aa<|kv S 4)<|aa<|kv S 4)))
   (ai<|aI<|kv S 2))),?_⟩
 cbv;refine⟨ad,λm h0=>⟨ad,λz1 h1=>⟨ad,λl hl=>?_⟩⟩⟩
 have t0:=ag.new h0<|.tup [];have Z:=ag.new h1<|.tup [.int 0,.ref m];have C:=ag.new hl<|.lst [.ref z1];have A:H l=none:=(t0.trans Z).GX hl;have R:=t0.trans<|Z.trans C;have y:upd (upd (upd H m<|.tup []) z1<|.tup [.int 0,.ref m]) l (.lst [.ref z1]) l=some (.lst [.ref z1]):=af;have t:lK X.K (upd (upd (upd H m<|.tup []) z1<|.tup [.int 0,.ref m]) l<|.lst [.ref z1]) [.ref z1] [(0,[])]:=⟨⟨z1,m,[],rfl,C.aT<|aN.of af,(Z.trans C).aT<|aN.of af,trivial⟩,trivial⟩;generalize upd (upd (upd H m<|.tup []) z1<|.tup [.int 0,.ref m]) l (.lst [.ref z1])=H1 at R y t ⊢;refine aZ (.inr<|R.aT v) ?_;rw[b5,ak,hn];cbv;refine⟨eS (by omega),?_⟩
 refine Mj (lo:=1) (n:=2 ^ a.length - 1) (Sq X.K H c w l a U) rfl (by rw[show 1+(2 ^ a.length - 1)=2 ^ a.length by omega]) (by omega) ⟨_,_,_,_,rfl,R,y,t,rfl,λk hk=>?_⟩ ?_ ?_
 ·have:k=0:=by omega
  subst this;exact CQ a U
 ·rintro k σ J hk ⟨T,fl,y1,y2,rfl,r,f,i,b,M⟩;cbv;refine⟨c,w,a,U,1+k,rfl,r.aT u,r.aT v,p,hn,aY,by omega,by omega,λg x L H2 N hg hG s=>?_⟩
  cbv;have W:=s.1.len;have hlL:L.length<=8:=by
   have:L.length<=a.length:=s.1.len
   omega
  refine⟨.inl ⟨rfl,_,au.of<|N _ _ f⟩,?_⟩;refine⟨c,g,a,x,L,rfl,(r.trans N).aT u,hg,hG.gl,p,λG o=>⟨(s.1.each G o).ok.lt,fz (cC (s.1.each G o).ok.nd (s.1.each G o).ok.lt) h8⟩,by omega,λH3 O=>?_⟩
  refine⟨ad,λz hz=>?_⟩
  have sz:=ag.new hz<|.tup [.int ((L.map<|AR a).sum),.ref g];have s4:=N.trans<|O.trans sz;have Y:aN X.K (upd H3 z<|.tup [.int ((L.map<|AR a).sum),.ref g]) z [.int ((L.map<|AR a).sum),.ref g]:=aN.of af;have I:=(O.trans sz).aT hg;have Q:=hG.mono<|O.trans sz;have d:=s4 _ _ f;have E:=i.mono s4;refine⟨l,_,_,rfl,rfl,d,az (by rw[i.length];omega),?_⟩
  refine⟨T++[.ref z],fl++[((L.map<|AR a).sum,L)],_,_,rfl,(r.trans s4).set A _,af,(E.gQ d).append ⟨⟨z,g,x,rfl,Y.gQ d,I.gQ d,Q.gQ d⟩,trivial⟩,by rw[ed,b];rfl,λj hj=>?_⟩
  by_cases e:j=1+k
  ·subst e;rw[b3,wh (by omega),b,Vr]
   exact s
  ·rw[b3,u5 (by omega),<-b3]
   exact M j (by omega)
 ·rintro σ J ⟨T,fl,y1,y2,rfl,r,f,i,b,M⟩;cbv;exact q l T fl J r A f i (by omega) (λk hk=>M k (by omega))
def Sr (H0:Hp)(pl:Addr)(m:Nat)(k:Nat)(σ:L2.St)(H:Hp):Prop:=∃ (l:Addr) (ps:List Nat) (y:Option V),σ=[some (.int (m:Int)),some<|.ref l,y]/\ag H0 H/\H0 l=none/\H l=some (.lst<|(aK ps).map V.int)/\H pl=some (.lst<|(aK<|aW m).map V.int)/\ps.length=2 ^ k/\∀ q∈ps,Sub q m/\∀ j,q.testBit j=true->j∈(aW m).take k
def xb (B:Bn mg)(D:Def K mg "parts_of" jR)(i5:Fn P w K mg base 1 "places" ["mask"] ku):Fn P w K mg base 2 "parts_of" ["crowd"] RW:=by
 have zY:DS (aj jR) ["crowd","parts","i"] ["crowd"] ["places"]:=aQ;walk_at"hH";obtain⟨m,rfl,hm,q⟩:=h;have F:∀ x∈aW m,x<8:=λx hx=>lI (n:=8) hm<|fB.mp hx;have Q:(aW m).length<=8:=cC (dk m) F;refine⟨_,(ae (bo S 1<|dq<|aa aq)
   (ae (eV hxe hc (b9 (cK S 0 i5 hr<|aa<|kv S 0) rfl) (kg S 2) (ai (bo S 1 (aP (bV rfl) (kv S 1) (ju S hc hsc (b9 (kv S 1) rfl) (N:=["part","i"]) (W:=["part"]) (G:=[]) (fv:=[none,some 2]) Dk0 λcl C fp s H M=>⟨(kg M 0),bG,(aP aJ (kv M 0)<|aP c9 aq<|kv M 1)⟩)))))
   (ai<|aI<|kv S 1))),?_⟩
 cbv;refine⟨ad,λl X=>?_⟩
 have sl:=ag.new X<|.lst [.int 0];refine⟨m,rfl,by omega,λpl H2 r _ v=>?_⟩
 have O:=r _ _<|af (H:=H) (a:=l) (o:=.lst [.int 0]);refine forL (Sr H pl m) (au.of v) ⟨l,[0],_,rfl,sl.trans r,X,O,v,rfl,λq hq=>by rw[dt.mp hq];exact⟨(λj hj=>by rw[Vs] at hj;cases hj),(λj hj=>by rw[Vs] at hj;cases hj)⟩⟩ (λi σ J h=>by obtain⟨_,_,_,_,_,_,_,h,_⟩:=h;exact au.of h) ?_ ?_
 ·rintro k σ J hk ⟨l,d,y,rfl,I,E,g,z,b,c⟩;rw[ak] at hk;rw[bg];have L:=F _<|vW hk;have Z:2 ^ k<=256:=fz (si ad (show k<=8 by omega)) ad
  have u:=wI hk rfl c;generalize (aW m).getD k 0=i at L u ⊢;cbv;refine Tq (λ_=>true) (λt=>(((d.getD t 0+2 ^ i:Nat)):Int)) (au.of g) (by rw[ak];exact az (by omega)) ?_ ?_
  ·intro t J2 A B' ht hS R _;rw[bg];cbv;refine⟨eS (by omega),?_⟩
   rw[<-natCast_add];exact R rfl _<|ag.refl _
  ·intro acc J2 Y r f;rw[bZ,ak] at f;have e:((List.range d.length).map λt=>(((d.getD t 0+2 ^ i:Nat)):Int))=aK (d.map λx=>x+2 ^ i):=by
    unfold aK;rw[kb]
    conv=>rhs;rw[<-my d,kb]
    rfl
   rw[e] at f;refine tH (au.of<|r _ _ g) (au.of f) (gP (by rw[ak,ak,b5];omega)) λp U=>?_
   have T:=ag.new U<|.lst<|(aK d++aK (d.map λx=>x+2 ^ i)).map V.int;refine⟨p,d++d.map (λx=>x+2 ^ i),_,rfl,I.trans<|r.trans T,(I.trans r).GX U,?_,(r.trans T) _ _ z,by rw[ed,b5,b,Nat.pow_succ];omega,u⟩
   rw[dQ];exact af
 ·rintro σ J ⟨l,d,y,rfl,I,E,g,z,b,c⟩;rw[ak] at b c;cbv;refine q l d J I E g (λq hq=>(c q hq).1) ?_;rw[b];exact fz (si ad Q) ad
def Ss (K:Frag)(H0:Hp)(lo be:Addr)(cs:List Int)(ws:List Nat)(ul ub:List V)(fl fb:List nD)(m i:Nat)(pp:Addr)(ps:List Nat)(k:Nat)(σ:L2.St)(H:Hp):Prop:=∃ (v:V) (x:nD) (y6 y7 y8:Option V),σ=[some (.ref lo),some<|.ref be,some<|.int (m:Int),some<|.int ((2 ^ i:Nat):Int),some<|.int ((m - 2 ^ i:Nat):Int),some v,y6,y7,y8]/\ag H0 H/\au K H pp ((aK ps).map V.int)/\Ch K H v x/\zb cs ws m x
def La (h:0<m):Builtin.bitAnd (m:Int) (-(m:Int))=((m - (m&&& (m - 1)):Nat):Int):=by
 have e:-(m:Int)=Builtin.bitNot ((m - 1:Nat):Int):=by unfold Builtin.bitNot;omega
 rw[e,tL]
def Dj {a:Nat}(h:Sub a m):Sub (m - a) m:=λj hj=>by
 rw[kK h,ef] at hj;exact hj.1
def Su (K:Frag)(H0:Hp)(lo be:Addr)(cs:List Int)(ws:List Nat)(fb:List nD)(m i:Nat)(σ:L2.St)(H:Hp):Prop:=∃ (v:V) (x:nD),σ=[some (.ref lo),some<|.ref be,some<|.int (m:Int),some<|.int ((2 ^ i:Nat):Int),some<|.int ((m - 2 ^ i:Nat):Int),some v,none,none,none]/\H=H0/\Ch K H0 v x/\zb cs ws m x
def pD (B:Bn mg)(D:Def K mg "best_choice" gh)(zK:Fn P w K mg base 2 "parts_of" ["crowd"] RW):Fn P w K mg base 3 "best_choice" ["lone","best","crowd"] (RX K):=by
 have zY:DS (aj gh) ["lone","best","crowd","first","others","found","part","group","rest"] ["lone","best","crowd"] ["parts_of"]:=aQ;walk_at"hH";obtain⟨lo,be,cs,ws,ul,ub,O,A,m,rfl,G,g,cl,cb,aD,hn,hfl,hfb,E,hm,hL,hB,q⟩:=h;have h8:=aD.len;have hpow:2 ^ cs.length<=256:=fz (si ad h8) ad
 obtain⟨i,F,L⟩:=KN m E;have hile:=(ui F).le;have hip:0<2 ^ i:=F0 i;have d:Sub (m - 2 ^ i) m:=λj hj=>by rw[fw F,ef] at hj;exact hj.1
 refine⟨_,(ae (bo S 3<|aP dN (kv S 2)<|NY jC<|kv S 2)
   (ae (bo S 4<|aP cG (kv S 2)<|kv S 3)
   (ae (bo S 5<|fh (kv S 0)<|kv S 2)
   (ae (cj (aL Af (kZ<|fh (kv S 1)<|kv S 4) (kZ<|kv S 5)<|ao _) (ai<|bo S 5<|fh (kv S 1)<|kv S 4) av)
   (ae (eV hxe hc (b9 (cK S 0 zK hr<|aa<|kv S 4) rfl) (kg S 6) (ae (bo S 7<|fh (kv S 0)<|aP aJ (kv S 3)<|kv S 6)
   (ae (bo S 8<|fh (kv S 1)<|aP cG (kv S 4)<|kv S 6)
   (ai<|cj (aL Af (aP aJ (kZ<|kv S 7)<|kZ<|kv S 8) (kZ<|kv S 5)<|ao _) (ai<|bo S 5<|vH<|ah (aP aJ (kZ<|kv S 7)<|kZ<|kv S 8)<|aa<|aP (nX rfl) (kZ<|kv S 7)<|kZ<|kv S 8) av))))
   (ai<|aI<|kv S 5)))))),?_⟩
 walk_at"h";rw[La E,L];walk_at"h";rw[show ((m:Int) - ((2 ^ i:Nat):Int))=((m - 2 ^ i:Nat):Int) by omega]
 obtain⟨v0,T,c0⟩:=cl.get (i:=m) (by omega)
 obtain⟨v1,s,c1⟩:=cb.get (i:=m - 2 ^ i) (by omega)
 have hLm:=(hL m hm).1;have Q:=(hB (m - 2 ^ i) (by omega)).1
 walk_at"h";refine ax G (ja T) ?_;lia;refine wA (Su X.K H lo be cs ws A m i) (λσ J h=>?_) (λR hR=>?_)
 rotate_left
 ·cbv;refine ax g (ja s) ?_;obtain⟨r1,g1,us1,rfl,Z,h12,h13⟩:=id c1;obtain⟨r0,g0,us0,rfl,h01,h02,h03⟩:=id c0;refine bA Z rfl ?_;refine bA h01 rfl ?_;cbv;refine bp (λa0=>?_) λaF=>?_
  ·refine ax g (ja s) ?_;exact hR _ _ ⟨_,_,rfl,rfl,c1,Q.mono d⟩
  ·exact hR _ _ ⟨_,_,rfl,rfl,c0,hLm⟩
 obtain⟨v,x,rfl,eJ,p,y⟩:=h;rw[eJ];clear eJ J;walk_at"h";refine⟨m - 2 ^ i,rfl,by omega,λpp ps J sJ _ C Y aR=>?_⟩
 refine forL (Ss X.K H lo be cs ws ul ub O A m i pp ps) (au.of C) ⟨v,x,_,_,_,rfl,sJ,au.of C,p.mono sJ,y⟩ (λi σ J h=>by obtain⟨_,_,_,_,_,_,_,h,_⟩:=h;exact h) ?_ ?_
 ·rintro k σ J2 hk ⟨v,x,y6,y7,y8,rfl,c,b,p,y⟩;rw[ak] at hk;rw[bg];have a:=Y _<|vW hk;generalize hq:ps.getD k 0=part at a;have hle:=a.le;obtain⟨va,U,ca⟩:=cl.get (i:=2 ^ i+part) (by omega)
  obtain⟨vb,W,o⟩:=cb.get (i:=(m - 2 ^ i) - part) (by omega)
  have ga:=(hL (2 ^ i+part) (by omega)).1
  have gb:=(hB ((m - 2 ^ i) - part) (by omega)).1
  cbv;refine ax (c.seq G) (v:=va) (by rw[show (((2 ^ i:Nat):Int)+(part:Int))=((2 ^ i+part:Nat):Int) by omega];exact ja U) ?_
  refine ax (c.seq g) (v:=vb) (by rw[show (((m - 2 ^ i:Nat):Int) - (part:Int))=((m - 2 ^ i - part:Nat):Int) by omega];exact ja W) ?_
  have ca:=ca.mono c;have o:=o.mono c;obtain⟨ra,g1,ua,rfl,n,ha2,I⟩:=id ca;obtain⟨rb,g2,r,rfl,f,ab,M⟩:=id o;obtain⟨rv,gv,uv,rfl,aY,hv2,hv3⟩:=id p;refine bA n rfl ?_;refine bA f rfl ?_;cbv;refine bA aY rfl ?_;cbv;refine bp (λa0=>?_) λaF=>?_
  ·refine bA n rfl ?_;refine bA f rfl ?_;cbv;refine bA n rfl ?_;refine bA f rfl ?_;have la:=ga.len;have lb:=gb.len;refine⟨g1,g2,ua,r,rfl,rfl,ha2,ab,de (by rw[I.length,M.length];omega),λg3 J3 s3 hg3=>?_⟩
   refine⟨ad,λz hz=>?_⟩
   have sz:=ag.new hz<|.tup [.int ((O.getD (2 ^ i+part) (0,[])).1+(A.getD ((m - 2 ^ i) - part) (0,[])).1),.ref g3];have N:=s3.trans sz;have u:Sub (2 ^ i+part) m:=((KO (l:=[]) F a ⟨(λ_ h=>nomatch h),.nil⟩).1 _ eR);have dis:RS (2 ^ i+part) (m - 2 ^ i - part):=λj hj=>by
    rw[kK a,fw F];rw[uh (λj' t=>?_)] at hj
    ·rw[Vd,G3,r4] at hj
     rcases hj with hj | hj
     ·rw[hj];simp
     ·rw[hj];simp
    ·rw[G3,r4] at t
     cases e:part.testBit j' with
     | false=>rfl
     | true=>have:=a j' e;rw[fw F,t] at this;simp at this
   exact⟨.ref z,((O.getD (2 ^ i+part) (0,[])).1+(A.getD ((m - 2 ^ i) - part) (0,[])).1,(O.getD (2 ^ i+part) (0,[])).2++(A.getD ((m - 2 ^ i) - part) (0,[])).2),_,_,_,rfl,c.trans N,N.seq b,⟨z,g3,ua++r,rfl,aN.of af,sz.aT hg3,(I.mono N).append<|M.mono N⟩,ga.add gb dis u<|(Dj a).trans d⟩
  ·exact⟨_,x,_,_,_,rfl,c,b,p,y⟩
 ·rintro σ J2 ⟨v,x,y6,y7,y8,rfl,c,b,p,y⟩;lia;cbv;exact q v x J2 c p ⟨y,trivial⟩
def Sv (K:Frag)(H0:Hp)(c w lo l:Addr)(cs:List Int)(ws:List Nat)(i:Nat)(σ:L2.St)(H:Hp):Prop:=∃ (us:List V) (fb:List nD) (y1:Option V),σ=[some (.ref c),some<|.ref w,some<|.ref lo,some<|.ref l,y1]/\ag H0 H/\H l=some (.lst us)/\lK K H us fb/\fb.length=1+i/\∀ k,k<1+i->lL cs ws k (fb.getD k (0,[]))
def pE (B:Bn mg)(D:Def K mg "best_groups" gj)(pK:Fn P w K mg base 6 "lone_choices" ["counts","web"] (ME K))(qz:Fn P w K mg base 3 "best_choice" ["lone","best","crowd"] (RX K)):Fn P w K mg base 7 "best_groups" ["counts","web"] (RY K):=by
 have zY:DS (aj gj) ["counts","web","lone","best","crowd"] ["counts","web"] ["lone_choices","range","len","best_choice"]:=aQ;walk_at"hH";obtain⟨c,w,f,I,rfl,M,N,s,hn,aY,q⟩:=h;have h8:=s.len;have hpow:2 ^ f.length<=256:=fz (si ad h8) ad
 have aD:0<2 ^ f.length:=F0 _;refine⟨_,(ae (bo S 2<|cK S 0 pK hr<|ah (kv S 0)<|aa<|kv S 1)
   (ae (bo S 3<|dq<|aa<|vH<|ah aq<|aa<|vH bF)
   (ae (eV hxe hc (Qz S 1 B.range<|ah aq<|aa<|cE S 2 (aA rfl) B.len oD<|aa<|kv S 2) (kg S 4)<|ai<|dv<|fL ri mo oo bI rfl (kv S 3)<|aa<|cK S 3 qz hr<|ah (kv S 2)<|ah (kv S 3)<|aa<|kv S 4)
   (ai<|aI<|kZ<|fh (kv S 3)<|NY jC aq)))),?_⟩
 cbv;refine⟨c,w,f,I,rfl,M,N,s,hn,aY,λlo ul fl H1 s1 hlo0 A cl E hL=>?_⟩;cbv;refine⟨ad,λm h0=>⟨ad,λz1 h1=>⟨ad,λl hl=>?_⟩⟩⟩
 have t0:=ag.new h0<|.tup [];have Z:=ag.new h1<|.tup [.int 0,.ref m];have L:=ag.new hl<|.lst [.ref z1];have ab:H1 l=none:=(t0.trans Z).GX hl;have R:=t0.trans<|Z.trans L;have C:upd (upd (upd H1 m<|.tup []) z1<|.tup [.int 0,.ref m]) l (.lst [.ref z1]) l=some (.lst [.ref z1]):=af;have t:lK X.K (upd (upd (upd H1 m<|.tup []) z1<|.tup [.int 0,.ref m]) l<|.lst [.ref z1]) [.ref z1] [(0,[])]:=⟨⟨z1,m,[],rfl,L.aT<|aN.of af,(Z.trans L).aT<|aN.of af,trivial⟩,trivial⟩;generalize upd (upd (upd H1 m<|.tup []) z1<|.tup [.int 0,.ref m]) l (.lst [.ref z1])=H2 at R C t ⊢;refine aZ (.inl<|au.of<|R _ _ A) ?_;rw[cl.length,E];cbv;refine Mj (lo:=1) (n:=2 ^ f.length - 1) (Sv X.K H1 c w lo l f I) rfl (by omega) (by omega) ⟨_,_,_,rfl,R,C,t,rfl,λk hk=>?_⟩ ?_ ?_
 ·have:k=0:=by omega
  subst this;exact CS f I
 ·rintro k σ J hk ⟨o,W,y1,rfl,u,d,b,a,G⟩;cbv;refine⟨.inl ⟨rfl,_,au.of d⟩,?_⟩;refine⟨lo,l,f,I,ul,o,fl,W,1+k,rfl,au.of<|u _ _ A,au.of d,cl.mono u,b,s,hn,E,a,by omega,by omega,hL,G,λv x H3 O T hx=>?_⟩
  have p:=O _ _ d;refine⟨l,_,_,rfl,rfl,p,az (by rw[b.length];omega),?_⟩
  refine⟨o++[v],W++[x],_,rfl,(u.trans O).set ab _,af,((b.mono O).gQ p).append ⟨T.gQ p,trivial⟩,by rw[ed,a];rfl,λj hj=>?_⟩
  by_cases e:j=1+k
  ·subst e;rw[b3,wh (by omega),a,Vr]
   exact hx
  ·rw[b3,u5 (by omega),<-b3]
   exact G j (by omega)
 ·rintro σ J ⟨o,W,y1,rfl,u,d,b,a,G⟩;cbv;obtain⟨v,ev,T⟩:=b.get (i:=2 ^ f.length - 1) (by omega)
  have hb:=G (2 ^ f.length - 1) (by omega)
  have y:=b.length;refine ax (au.of d) (v:=v) ?_ ?_
  ·have Q:o=o.dropLast++[v]:=by
    have h1:o≠[]:=λz=>by rw[z] at y;simp at y;omega
    have H:=List.dropLast_concat_getLast h1;have Y:o.getLast h1=v:=by
     rw[List.getLast_eq_getElem];rw[show 2 ^ f.length - 1=o.length - 1 by omega,b4 (by omega)] at ev
     exact tx ev
    rw[Y] at H;exact H.symm
   rw[Q];exact Ek _ _
  obtain⟨r,g,U,rfl,h1,H,Y⟩:=T;refine bA h1 rfl ?_;refine q g U _ J (s1.trans u) H Y ?_;have e:=hb.1.sum;rw[e];exact hb
def all_map {α:Type}(l:List α)(p:α->Bool):(l.map p).all id=l.all p:=by rw[Pi];rfl
def any_map {α:Type}(l:List α)(p:α->Bool):(l.map p).any id=l.any p:=by rw[List.any_map];rfl
def range_getD {α:Type}(l:List Int)(f:Int->α):(List.range l.length).map (λk=>f<|l.getD k 0)=l.map f:=by
 apply ext_getElem
 ·simp
 ·intro i h1 a
  simp at h1 a
  simp[h1]
def T9 {a:Addr}{ns:List Int}{te:TE}{rest:L2.St}{Q:VK}{H1:Hp}(f:Int->Bool)(h:aN K H1 a (ns.map V.int))(hn:ns.length<=1000)
  (step:∀ (i:Int) H (A:V->Hp->Prop),i∈ns->ag H1 H->(∀ H',ag H H'->A (.bl<|f i) H')->te (some (.int i)::rest) H A)
  (fin:∀ acc H,H1 acc=none->ag H1 H->H acc=some (.lst<|(ns.map f).map V.bl)->Q (.ref acc) H) :
  ∃ b,V.ref a=.ref b/\(∃ xs,aN K H1 b xs)/\vC (bN 0) il te (none::rest) Q (DH K b) H1:=by
 refine⟨a,rfl,⟨_,h⟩,n9 (km h) (λ_=>true) (λi=>.bl<|f<|ns.getD i 0) (by rw[b5];exact az hn) ?_ ?_⟩
 ·intro i H A l d e g _;rw[b5] at d;rw[getD_ints d];simp only[iq,Cc,mr];exact step _ H A (L2.getD_mem d) e λH' j=>g rfl _ j
 ·intro acc H hn e c;rw[bZ,b5] at c;refine fin acc H hn e ?_;rw[c,<-range_getD ns f,kb];rfl
def HH (B:Bn mg)(D:Def K mg "rises" uz):Fn P w K mg base 1 "rises" ["people"] (AS K):=by
 have zY:DS (aj uz) ["people"] ["people"] ["all","zip"]:=aQ;walk_at"hH";obtain⟨p,l,rfl,g,h1,o,q⟩:=h;refine⟨_,(ai (aI (cE S 0 (cY hc rfl) B.all boot_all (aa (ju S hc hsc (S3 false false S 1 B.zip rfl<|ah (kv S 0)<|aa<|iu (nq rfl) (kv S 0) (aS aq) aV) (N:=["i","j"]) (W:=["i","j"]) (G:=[]) (fv:=[none,none]) Dk0 λv C u s H d=>⟨(mI rfl (K:=X.K) (n:=2) rfl<|bq (kg d 0)<|bq (kg d 1) dO),bG,(gO ie (kv d 0) (kv d 1)<|ao _)⟩))))),?_⟩
 cbv;refine Az 0 g rfl (by rw[ak];omega) λa r=>?_
 have i:=ag.new r<|.tup<|((aK l).drop<|0+1).map V.int;refine Sf (ns:=aK l) (ms:=(aK l).drop<|0+1) _ (λk=>.bl<|decide<|l.getD k 0<l.getD (k+1) 0) (i.aT g) (aN.of af) (by rw[mv,ak];omega) (ea _) (.inr<|ea _) (by rw[mv,ak];exact az (by omega)) ?_ ?_
 ·intro k m A hk c j;rw[mv,ak] at hk;rw[bg,show ((aK l).drop<|0+1).getD k 0=((l.getD (k+1) 0:Nat):Int) by rw[<-bg,b3,getElem?_drop,b3];congr 2;omega]
  cbv;have e:decide (((l.getD k 0:Nat):Int)<((l.getD (k+1) 0:Nat):Int))=decide (l.getD k 0<l.getD (k+1) 0):=by
   rw[Vt];omega
  rw[e];exact j _<|ag.refl _
 ·intro f m t c b;rw[mv,ak] at b;refine⟨f,(List.range<|l.length - (0+1)).map λk=>decide<|l.getD k 0<l.getD (k+1) 0,rfl,au.of (by rw[b,kb];rfl),?_⟩
  rw[all_map];exact q _<|i.trans c
def O6 (B:Bn mg)(D:Def K mg "is_group" jQ)(Ll:Fn P w K mg base 1 "rises" ["people"] (AS K))(i6:Fn P w K mg base 1 "is_circle" ["web","people"] (Of K))(Dy:Fn P w K mg base 2 "is_ring" ["web","people"] (Q8 K)):Fn P w K mg base 3 "is_group" ["counts","web","kind","people"] (Mi K):=by
 have zY:DS (aj jQ) ["counts","web","kind","people"] ["counts","web","kind","people"] ["len","all","rises","is_circle","is_ring"]:=aQ;walk_at"hH";obtain⟨c,w,p,f,u,⟨b,a⟩,rfl,z,hw,n,E,h8,r,q⟩:=h;have n:aN X.K H p (a.map V.int):=n;have r:a.length<=90:=r;refine⟨_,(ae (cj (xT (Ik (aL ie (cE S 0 (aA rfl) B.len oD<|aa<|kv S 3) aq<|ao _) (qb (qc (kn (cE S 1 (cY hc rfl) B.all boot_all (aa (ju S hc hsc (fj (kv S 3) rfl) (N:=["i","counts"]) (W:=["i"]) (G:=["len"]) (fv:=[none,some 0]) Dk0 λcl C fp s H o=>⟨(kg o 0),bG,(EY nN ie aq (kv o 0)<|cE o 0 (aA rfl) B.len oD<|aa<|kv o 1)⟩)))))))) (ai<|aI vF) av)
   (ae (cj (aL aM (kv S 2) aU<|ao _) (ai<|aI<|mH (cK S 2 Ll hr<|aa<|kv S 3)<|qa<|cK S 3 i6 hr<|ah (kv S 1)<|aa<|kv S 3) av)
   (ai (aI (mH (gO aM (kv S 2) aU<|ao _) (mH (cK S 4 Dy hr<|ah (kv S 1)<|aa<|kv S 3) (qa (cE S 1 (cY hc rfl) B.all boot_all (aa (ju S hc hsc (fj (kv S 3) rfl) (N:=["i","counts"]) (W:=["i"]) (G:=[]) (fv:=[none,some 0]) Dk0 λcl C fp s H o=>⟨(kg o 0),bG,(gO aM (nY (eU rfl) (kv o 1) (kv o 0) λ_ _=>rfl) aq<|ao _)⟩)))))))))),?_⟩
 cbv;refine aZ (.inr n) ?_;rw[b5];cbv;refine bp (λT=>?_) λT=>?_
 ·have e:DP f u (b,a)=false:=by unfold DP;rw[dy (show ¬ 1<=a.length by omega),q5]
  rw[e] at q;exact q _<|ag.refl _
 refine T9 (λi=>decide (0<=i)&&decide (i<(f.length:Int))) n (by omega) ?_ ?_
 ·intro i H1 A R M y;cbv
  by_cases J:0<=i
  ·rw[if_pos J];refine aZ (.inr<|M.aT z) ?_;rw[b5];cbv;rw[cc J,o6] at y;exact y _<|ag.refl _
  ·rw[if_neg J];rw[dy J,q5] at y;exact y _<|ag.refl _
 intro Q H1 hn1 j F;refine⟨Q,_,rfl,au.of F,?_⟩;rw[all_map,show (a.all λi=>decide (0<=i)&&decide (i<(f.length:Int)))=Il f.length a from rfl]
 cbv
 by_cases d:Il f.length a=true
 ·rw[d];obtain⟨en,v⟩:=Ke d;have Z:(nats a).length=a.length:=by unfold nats;rw[b5]
  have O:DP f u (b,a)=Ct f u b (nats a):=by
   unfold DP;rw[cc (show 1<=a.length by omega),o6]
   show (Il f.length a&&_)=_;rw[d,o6]
  rw[O] at q;generalize nats a=l at *;subst en;rw[ak] at T r;have e:decide (kd b="ring")=b:=tP b;have Y:decide (kd b="circle")=!b:=by cases b<;>decide
  cbv
  (try simp only[rp,yo])
  (try simp only[e,Y])
  (try simp only[show (kd b=Str.ofString "circle")=(b=false) from propext ⟨λh=>by cases b<;>first | rfl | exact absurd h ad,λh=>by rw[h];rfl⟩,show (kd b=Str.ofString "ring")=(b=true) from propext ⟨λh=>by cases b<;>first | rfl | exact absurd h ad,λh=>by rw[h];rfl⟩])
  cases b with
  | false=>
   (try simp only[Bool.not_false,if_true])
   refine⟨p,l,rfl,j.aT n,by omega,by omega,λH2 m=>?_⟩
   unfold Ct at q;simp only[Bool.false_eq_true,if_false] at q;cbv
   cases g:oz l with
   | true=>
    rw[g,o6] at q;cbv;exact⟨w,p,u,l,rfl,(j.trans m).aT hw,(j.trans m).aT n,by omega,vY g,λx hx=>by rw[E];exact v x hx,λU L=>q _<|(j.trans m).trans L⟩
   | false=>
    rw[g,q5] at q;cbv;exact q _<|j.trans m
  | true=>
   (try simp only[Bool.not_true,Bool.true_eq_false,Bool.false_eq_true,if_false,if_true])
   unfold Ct at q;simp only[if_true] at q;cbv
   try simp only[rp,yo,e,if_true]
   refine⟨w,p,u,l,rfl,j.aT hw,j.aT n,by omega,by omega,λx hx=>by rw[E];exact v x hx,λH2 m=>?_⟩
   cbv
   cases g:jw u l with
   | true=>
    rw[g,o6] at q;cbv;refine T9 (λi=>decide<|f.getD i.toNat 0=2) ((j.trans m).aT n) (by rw[ak];omega) ?_ ?_
    ·intro i U A R M y;obtain⟨x,hx,rfl⟩:=j9.mp R;cbv;refine dD (((j.trans m).trans M).aT z) rfl (v x hx) ?_;cbv;exact y _<|ag.refl _
    ·intro I U hn3 L t;refine⟨I,_,rfl,au.of t,?_⟩;rw[all_map,show ((aK l).all λi=>decide<|f.getD i.toNat 0=2)=l.all (λx=>decide<|f.getD x 0=2) by unfold aK;rw[Pi];rfl]
     exact q _<|(j.trans m).trans L
   | false=>
    rw[g,q5] at q;cbv;exact q _<|j.trans m
 ·have d:Il f.length a=false:=by simpa using d
  have O:DP f u (b,a)=false:=by
   unfold DP;show (_&&(Il f.length a&&_))=false;rw[d,q5,KE]
  rw[d];rw[O] at q;cbv;exact q _ j
def Sw (K:Frag)(H0:Hp)(c w g:Addr)(cs:List Int)(ws:List Nat)(L:List (Bool × List Int))(k:Nat)(σ:L2.St)(H:Hp):Prop:=∃ (d:Addr) (gone:List Int) (y1 y2 y3 y4:Option V),σ=[some (.ref c),some<|.ref w,some<|.ref g,some<|.ref d,y1,y2,y3,y4]/\ag H0 H/\H0 d=none/\FH H d gone/\gone.length<=30*k/\DR cs ws [] 0 L=DR cs ws gone k (L.drop k)
def O7 (H0:Hp)(c w g d p:Addr)(k:Nat)(y2:V)(gone ns:List Int)(j:Nat)(σ:L2.St)(H:Hp):Prop:=∃ (y4:Option V),σ=[some (.ref c),some<|.ref w,some<|.ref g,some<|.ref d,some<|.int (k:Int),some y2,some<|.ref p,y4]/\ag H0 H/\FH H d (gone++ns.take j)
def Dk (B:Bn mg)(D:Def K mg "group_fault" fZ)(zL:Fn P w K mg base 3 "is_group" ["counts","web","kind","people"] (Mi K)):Fn P w K mg base 4 "group_fault" ["counts","web","groups"] (vZ K):=by
 have zY:DS (aj fZ) ["counts","web","groups","taken","place","group","people","i"] ["counts","web","groups"] ["enumerate","any","is_group"]:=aQ;walk_at"hH";obtain⟨c,w,g,cs,ws,us,L,rfl,hcq,hw,hg,hL,Y,h8,h90,hL90,q⟩:=h;refine⟨_,(ae (bo S 3 FD)
   (ae (eV hxe hc (CY false S 0 B.enumerate rfl<|aa<|kv S 2) (mI hc (K:=X.K) (n:=2) rfl<|bq (kg S 4)<|bq (kg S 5) dO) (ae (bo S 6<|kZ<|kv S 5)
   (ae (cj (xT (Ik (qc<|kn<|cK S 2 zL hr<|ah (kv S 0)<|ah (kv S 1)<|ah (kZ<|kv S 5)<|aa<|kv S 6) (qb (kn (cE S 1 (Cp hc rfl) B.any boot_any (aa (ju S hc hsc (fj (kv S 6) rfl) (N:=["i","taken"]) (W:=["i"]) (G:=[]) (fv:=[none,some 3]) Dk0 (λcl C fp s H Q=>⟨(kg Q 0),bG,(Rk (u1 hu) (kv Q 0) (kv Q 1) (by with_unfolding_all rfl))⟩)))))))) (ai<|aI<|kv S 4) av)
   (ai<|eV hxe hc (fj (kv S 6) rfl) (kg S 7)<|ai<|FE (u1 hu) vF (kv S 3)<|kv S 7))))
   (ai<|aI vG))),?_⟩
 cbv;intro d hd;have sd:=ag.new hd<|.dK [];refine Hf false (Sw X.K H c w g cs ws L) (sd.aT hg) ⟨d,[],_,_,_,_,rfl,sd,hd,FH.nil af,zero_le _,rfl⟩ (λk σ H' h=>by obtain⟨d,gone,y1,y2,y3,y,_,s,_⟩:=h;exact s.aT hg) ?_ ?_
 ·rintro k v σ H1 H2 hv ⟨d,gone,y1,y2,y3,y,rfl,R,l,hD,T,a⟩ O;have b:=R.trans O;obtain⟨m,r,p,t,rfl,M,u⟩:=hL.get hv;have x:=b.aT M;have hp:=b.aT u;have J:k<L.length:=by have:=ka.mp t;exact this.1
  have I:L.drop k=m::L.drop (k+1):=by
   rw[drop_eq_getElem_cons J]
   congr 1
   have:=ka.mp t
   exact this.2
  rw[I,DR] at a;have g90:=h90 m<|fO t;cbv;refine bA (i:=1) x rfl ?_;refine bA (i:=0) x rfl ?_;refine⟨c,w,p,cs,ws,m,rfl,b.aT hcq,b.aT hw,hp,Y,h8,by omega,λH3 z=>?_⟩
  cbv
  cases hG:DP cs ws m with
  | false=>
   rw[hG,q5,if_neg ad] at a
   cbv
   have:=q _<|b.trans z
   rw[a] at this;exact this
  | true=>
   rw[hG,o6] at a;cbv;have U:=b.trans z;refine T9 (λi=>decide<|i∈gone) (z.aT hp) (by omega) ?_ ?_
   ·intro i H4 A hi e F;cbv;exact Ot ((hD.same O).same<|z.trans e)<|F _<|ag.refl _
   intro acc H4 hn4 s4 E;refine⟨acc,_,rfl,au.of E,?_⟩;rw[any_map];have e:=U.trans s4
   cases F:m.2.any (λi=>decide<|i∈gone) with
   | true=>
    rw[F,Bool.not_true,if_neg ad] at a
    cbv
    have:=q _ e
    rw[a] at this;exact this
   | false=>
    rw[F,Bool.not_false,if_pos rfl] at a;cbv;refine JK (O7 H c w g d p k (.ref r) gone m.2) (e.aT u) ⟨_,rfl,e,by rw[take_zero,F2];exact(hD.same O).same (z.trans s4)⟩ (λj σ H' h=>by obtain⟨y,_,s,_⟩:=h;exact s.aT u) ?_ ?_
    ·rintro j σ H5 hj ⟨y,rfl,s5,f⟩;cbv;refine Kd f (az (by rw[ed,tz];omega)) λo Z=>⟨_,rfl,s5.set l _,?_⟩
     rw[take_snoc 0 hj,<-UU];exact Z
    ·rintro σ H5 ⟨y,rfl,s5,f⟩;rw[SC] at f;exact⟨d,gone++m.2,_,_,_,_,rfl,s5,l,f,by rw[ed];omega,a⟩
 ·rintro σ H1 ⟨d,gone,y1,y2,y3,y,rfl,R,l,hD,T,a⟩;rw[hL.length,List.drop_length,DR] at a;cbv
  have:=q _ R
  rw[a] at this;exact this
def Sx (D:Def K mg "ring_guess" gY):Fn P w K mg base 1 "ring_guess" ["many","i","seen"] Rc:=by
 have zY:DS (aj gY) ["many","i","seen"] ["many","i","seen"] []:=aQ;walk_at"hH";obtain⟨n,i,s,rfl,hn,q⟩:=h;refine⟨_,(ae (cj (aL aM (kv S 1) (aP cG (kv S 0) aq)<|ao _) (ai<|aI<|kv S 2) av)
   (ai<|aI<|aP cG aq<|kv S 2)),?_⟩
 cbv;unfold rg at q;refine bp (λc=>?_) λc=>?_
 ·rw[if_pos (by omega)] at q;exact q
 ·rw[if_neg (by omega)] at q;exact q
def zw (D:Def K mg "product" lR):Fn P w K mg base 1 "product" ["counts"] (Fh K):=by
 have zY:DS (aj lR) ["counts","whole","count"] ["counts"] []:=aQ;walk_at"hH";obtain⟨p,e,rfl,c,a,q⟩:=h;refine⟨_,(ae (bo S 1 aq)
   (ae (eV hxe hc (fj (kv S 0) rfl) (kg S 2)<|ai<|bo S 1<|aP dZ (kv S 1)<|kv S 2)
   (ai<|aI<|kv S 1))),?_⟩
 cbv;refine JK (QQ H p e) c ⟨rfl,none,rfl⟩ (λi σ d h=>by rw[h.1];exact c) ?_ ?_
 ·rintro i σ d f ⟨b,y,rfl⟩;rw[b];cbv;refine⟨(a.take i).Cd.ok (a.get f).bt (by omega),rfl,some<|.int<|e.getD i 0,?_⟩
  rw[take_snoc 0 f,tF]
 ·rintro σ d ⟨b,y,rfl⟩;rw[b,SC];cbv;exact q
def Sy (B:Bn mg)(D:Def K mg "circle_guess" fD)(Dz:Fn P w K mg base 1 "product" ["counts"] (Fh K)):Fn P w K mg base 2 "circle_guess" ["counts","hats","i"] (QU K):=by
 have zY:DS (aj fD) ["counts","hats","i","wheel","arc","start","seen","lacking"] ["counts","hats","i"] ["product","sum","range","len"]:=aQ;walk_at"hH";obtain⟨p,h,b,L,i,rfl,n,M,a,r,o,q⟩:=h;refine⟨_,(ae (bo S 3<|cK S 0 Dz hr<|aa<|kv S 0)
   (ae (bo S 4<|aP dC (kv S 3)<|O2 (kv S 0)<|kv S 2)
   (ae (bo S 5 (cE S 1 (cN hc rfl) B.sum boot_sum (aa (ju S hc hsc (fj (iu (nq rfl) (kv S 0) aV<|aS<|kv S 2) rfl) (N:=["count","wheel"]) (W:=["count"]) (G:=[]) (fv:=[none,some 3]) Dk0 λT C O s H d=>⟨(kg d 0),bG,(aP dC (kv d 1)<|kv d 0)⟩))))
   (ae (bo S 6 (cE S 1 (cN hc rfl) B.sum boot_sum (aa (ju S hc hsc (iw S 2 B.range<|aa<|cE S 3 (aA rfl) B.len oD<|aa<|kv S 0) (N:=["j","i","hats","wheel","counts"]) (W:=["j"]) (G:=[]) (fv:=[none,some 2,some 1,some 3,some 0]) Dk0 λT C O s H d=>⟨(kg d 0),(da<|aL nM (kv d 0) (kv d 1)<|ao _),(aP dZ (nY (eU rfl) (kv d 2) (kv d 0) λ_ _=>rfl)<|aP dC (kv d 3)<|nY (eU rfl) (kv d 4) (kv d 0) λ_ _=>rfl)⟩))))
   (ae (bo S 7<|aP bR (aP cG (kv S 5)<|kv S 6)<|kv S 3)
   (ai<|aI<|aP bR (aP dC (aP cG (aP aJ (kv S 7)<|kv S 4) aq)<|kv S 4)<|O2 (kv S 0)<|kv S 2)))))),?_⟩
 cbv;refine⟨p,b,rfl,n,a,?_⟩;cbv;refine dD n rfl o ?_;have z:=N9 a o;cbv;refine⟨z,?_⟩;refine Ay i n rfl o λs x=>?_;have y:ag H (upd H s<|.tup<|(b.take i).map V.int):=ag.new x _;refine SR (λ_=>true) (λj=>pr b / (b.take i).getD j 0) (aN.of af) (az (by have:=(a.take i).len;omega)) ?_ ?_
 ·intro j Q A J hj E u _;cbv;exact⟨N9 (a.take i) hj,u rfl _<|ag.refl _⟩
 intro R H1 hn E g;rw[bZ,L2.map_getD (b.take i) λc=>pr b / c] at g;refine nZ (au.of g) ?_;rw[show ((b.take i).map λc=>pr b / c).sum=di (pr b) (b.take i) from rfl]
 have l:=y.trans E;cbv;refine aZ (.inr<|l.aT n) ?_;rw[b5];refine QL b.length (λj=>decide<|¬ j=i) (λj=>L.getD j 0*(pr b / b.getD j 0)) rfl (by have:=a.len;omega) ?_ ?_
 ·intro j Q A J hj v u U;cbv;rw[Oa]
  by_cases e:j=i
  ·rw[dy (not_not_intro e)];cbv;exact U (by rw[dy (not_not_intro e)]) _<|ag.refl _
  ·rw[cc e];cbv;have f:=l.trans v;refine dD (f.aT M) rfl (by rw[r.len];exact hj) ?_
   refine dD (f.aT n) rfl hj ?_;cbv;exact⟨N9 a hj,(r.bt j hj).ok (LX a hj) ad,u (cc e) _<|ag.refl _⟩
 intro F X I f m;refine nZ (au.of m) ?_;cbv;have t:=l.trans f;have Y:=Fb a.pos o;refine⟨by have:=a.jv;omega,⟨by omega,(LX a o).log (by omega) ad⟩,?_⟩
 refine dD (t.aT n) rfl o ?_;cbv;exact⟨z.1,q X t⟩
def Sz (B:Bn mg)(D:Def K mg "group_guess" f7)(uO:Fn P w K mg base 1 "ring_guess" ["many","i","seen"] Rc)(kR:Fn P w K mg base 1 "picked" ["values","people"] (ox K))(pL:Fn P w K mg base 2 "circle_guess" ["counts","hats","i"] (QU K)):Fn P w K mg base 3 "group_guess" ["counts","groups","hats","i"] (Rj K):=by
 have zY:DS (aj f7) ["counts","groups","hats","i","kind","people","place"] ["counts","groups","hats","i"] ["circle_guess","ring_guess","picked","len"]:=aQ;walk_at"hH";obtain⟨c,g,hb,v,y,ws,us,L,i,rfl,C,R,M,Q,s,hn,go,hi,q⟩:=h;refine⟨_,(ae (eV hxe hc (fj (kv S 1) rfl) (mI hc (K:=X.K) (n:=2) rfl<|bq (kg S 4)<|bq (kg S 5) dO) (ai (cj (aL (lu rfl) (kv S 3) (kv S 5) (by with_unfolding_all rfl)) (ae (bo S 6<|Um PySem.F.plainAttrs_tuple slot_tuple_index PySem.F.type_tuple_index (yH rfl) rfl (kv S 5)<|aa<|kv S 3)
   (ae (cj (aL aM (kv S 4) aU<|ao _) (ai<|aI<|cK S 1 uO hr<|ah (cE S 3 (aA rfl) B.len oD<|aa<|kv S 5)<|ah (kv S 6)<|aa<|O2 (kv S 2)<|O2 (kv S 5)<|aP bR (aP aJ (kv S 6) aq)<|cE S 3 (aA rfl) B.len oD<|aa<|kv S 5) av)
   (ai<|aI<|cK S 0 pL hr<|ah (cK S 2 kR hr<|ah (kv S 0)<|aa<|kv S 5)<|ah (cK S 2 kR hr<|ah (kv S 2)<|aa<|kv S 5)<|aa<|kv S 6))) av)))
   (ai<|aI aq)),?_⟩
 cbv;refine Oq (Rh X.K H c g hb L i) R M ⟨ag.refl _,λt N=>absurd N<|SF t,_,_,_,rfl⟩ (λk σ H' h=>⟨h.1.aT R,M.mono h.1⟩) ?_ ?_
 ·rintro k u p σ H1 hk o A ⟨m,f,W,y2,U,rfl⟩;have r:=go.each u<|fO hk;have d:u.2.length<=8:=fz (cC r.nd r.lt) s.len;cbv;refine AG (a:=u.2) (.inr o) ?_
  by_cases hm:i∈u.2
  ·have Y:=yJ f hk hm;have Z:vV v L y i=Rf v y u i:=by unfold vV;rw[Y]
   rw[Z] at q;obtain⟨b,l⟩:=u;have hm:i∈l:=hm;have J:=UZ hm;rw[cc hm];cbv;refine⟨⟨p,rfl,A⟩,p,aK l,(i:Int),rfl,rfl,o,nr.mpr hm,?_⟩;rw[AF];cbv;have e:decide (kd b="ring")=b:=tP b
   (try simp only[rp,yo])
   (try simp only[e])
   (try simp only[show (kd b=Str.ofString "ring")=(b=true) from propext ⟨λh=>by cases b<;>first | rfl | exact absurd h ad,λh=>by rw[h];rfl⟩])
   cases b with
   | true=>
    simp only[if_true];cbv;refine aZ (.inr o) ?_;refine aZ (.inr o) ?_;rw[b5,ak];cbv;refine⟨by omega,?_⟩
    have j:(l.idxOf i+1) % l.length<l.length:=mod_lt _ (by omega)
    have G:l.getD ((l.idxOf i+1) % l.length) 0<v.length:=r.lt _<|dP j;refine dD (k:=(l.idxOf i+1) % l.length) o (by rw[natCast_emod,natCast_add];rfl) (by rw[ak];exact j) ?_
    rw[bg];refine dD (m.aT Q) rfl (by rw[hn.1];exact G) ?_
    exact⟨l.length,l.idxOf i,_,rfl,by omega,q H1 m⟩
   | false=>
    simp only[Bool.false_eq_true,if_false];cbv;refine⟨c,p,v,l,rfl,m.aT C,o,r.lt,d,λt1 H2 E I=>?_⟩;refine⟨hb,p,y,l,rfl,(m.trans E).aT Q,E.aT o,λx hx=>by rw[hn.1];exact r.lt x hx,d,λT H3 O z=>?_⟩
    refine⟨t1,T,pk v l,pk y l,l.idxOf i,rfl,aN.of<|O _ _ I,aN.of z,Mf s (g:=(false,l)) ⟨r.lt,d⟩,Kc s hn r.lt,by rw[tQ];exact J,λH4 s4=>?_⟩
    exact q H4<|m.trans<|E.trans<|O.trans s4
  ·rw[dy hm];cbv;refine⟨m,λt N x hx=>?_,_,_,_,rfl⟩
   by_cases e:t=k
   ·subst e;rw[hk] at hx
    cases hx
    exact hm
   ·exact f t (by omega) x hx
 ·rintro σ H1 ⟨m,f,W,y2,U,rfl⟩;cbv
  have:=q H1 m
  unfold vV at this;rw[yI f] at this;exact this
variable {aD:Addr}
def HI (B:Bn mg)(bP:gX K mg "Hall" aD ["counts","groups","worn"])(D:qk K aD "__init__" "Hall.__init__" eQ)(qA:Fn P w K mg base 4 "group_fault" ["counts","web","groups"] (vZ K)):rY P w K mg base 5 aD "__init__" ["self","counts","web","groups"] (wO K aD):=by
 have zY:DS (aj eQ) ["self","counts","web","groups"] ["self","counts","web","groups"] ["group_fault","NoGroups","len"]:=aQ;walk_at"hH";obtain⟨x,a,c,w,g,A,H,N,L,rfl,C,i,hw,G,J,y,O,s,o,M,q⟩:=h;refine⟨_,(ae (cj (aL vN (cK S 0 qA hr<|ah (kv S 1)<|ah (kv S 2)<|aa<|kv S 3) vG<|ao _) (ai jx) av)
   (ae (RG bP (kv S 0)<|kv S 1)
   (ae (RG bP (kv S 0)<|kv S 3)
   (ai<|RG bP (kv S 0)<|aP (Gy rfl) (vH<|aa aq)<|cE S 2 (aA rfl) B.len oD<|aa<|kv S 1)))),?_⟩
 cbv;refine⟨c,w,g,A,H,N,L,rfl,i,hw,G,J,y,O,s,o,λH1 l=>?_⟩
 cases F:DR A H [] 0 L with
 | some k=>
  show og (.int (k:Int)) .bx H1 _;cbv;exact M (by rw[F];exact λz=>nomatch z) H1 l
 | none=>
  show og .bx .bx H1 _;cbv;have b:=l _ _ C;have j:=l.aT i;refine⟨x,a,[],rfl,b,ad,x,a,Mz c,rfl,af,by show 1<_;decide,ad,λp r=>?_⟩
  rw[CI,CJ,zS] at r ⊢;have e:upd H1 x (.ins aD a<|Im c g) x=some (.ins aD a<|Im c g):=af;have v:Off x H1 (upd H1 x<|.ins aD a<|Im c g):=Off.upd;have m:=j.eX v b;generalize upd H1 x (.ins aD a<|Im c g)=H2 at r e v m ⊢;have u:=ag.new r<|.tup [.int 0];refine aZ (.inr<|u.aT m) ?_;rw[b5];refine⟨p,A.length,_,rfl,rfl,aN.of af,by omega,λn t I hn=>?_⟩
  have f:=I _ _<|u _ _ e;refine⟨x,a,_,rfl,f,by show 2<_;decide,?_⟩
  rw[Kz];have E:Off x t (upd t x<|.ins aD a<|GC c g n):=Off.upd;have d:Off x H1 (upd t x<|.ins aD a<|GC c g n):=v.trans<|(u.trans I).Mb.trans E;refine q F _ (l.Mb.trans d) ⟨⟨a,n,af,?_⟩,j.eX d b,(l.aT G).eX d b⟩;rw[List.map_replicate];exact hn.eX E f
def Dl (B:Bn mg)(bP:gX K mg "Hall" aD ["counts","groups","worn"])(D:qk K aD "guess" "Hall.guess" g9)(qB:Fn P w K mg base 3 "group_guess" ["counts","groups","hats","i"] (Rj K)):rY P w K mg base 4 aD "guess" ["self","i"] (oQ K aD):=by
 have zY:DS (aj g9) ["self","i"] ["self","i"] ["group_guess"]:=aQ;walk_at"hH";obtain⟨a,c,g,s,m,o,l,L,i,rfl,b,j,e,p,r,t,q⟩:=h;obtain⟨d,n,f,hn⟩:=b.ex;refine⟨_,(ai<|aI<|cK S 0 qB hr<|ah (DT bP<|kv S 0)<|ah (DT bP<|kv S 0)<|ah (DT bP<|kv S 0)<|aa<|kv S 1),?_⟩;cbv;exact⟨a,d,_,_,rfl,f,CK,a,d,_,_,rfl,f,rZ,a,d,_,_,rfl,f,Be,c,g,n,s,m,o,l,L,i,rfl,b.Ud,b.Ug,j,hn,e,p,r,t,q⟩
def sC (K:Frag)(C:Addr):Sp:=λb H Q _=>∃ (a c g:Addr) (cs hs:List Int) (ws:List Nat) (us:List V) (L:B0L),b=[.ref a]/\ft K C H a c g cs us hs/\GF K H us L/\cA cs/\HN cs hs cs.length/\Cr cs ws L/\∀ (l:Addr) (H':Hp),ag H H'->H l=none->H' l=some (.lst<|(aK<|dF cs hs L).map V.int)->Q (.ref l) H'
def Dm (B:Bn mg)(bP:gX K mg "Hall" aD ["counts","groups","worn"])(D:qk K aD "right" "Hall.right" hJ)(hU:rY P w K mg base 4 aD "guess" ["self","i"] (oQ K aD)):rY P w K mg base 5 aD "right" ["self"] (sC K aD):=by
 have zY:DS (aj hJ) ["self"] ["self"] ["enumerate"]:=aQ;walk_at"hH";obtain⟨a,c,g,r,f,M,J,L,rfl,t,E,j,l,F,q⟩:=h;obtain⟨u,n,y,hn⟩:=t.ex;refine⟨_,(ai (aI (ju S hc hsc (CY false S 0 B.enumerate rfl<|aa<|DT bP<|kv S 0) (N:=["i","colour","self"]) (W:=["i","colour"]) (G:=[]) (fv:=[none,none,some 0]) Dk0 λU C T s H d=>⟨(mI rfl (K:=X.K) (n:=2) rfl<|bq (kg d 0)<|bq (kg d 1) dO),(da<|aL aM (RH bP hU oO hr (kv d 2)<|aa<|kv d 0) (kv d 1)<|ao _),(kv d 0)⟩))),?_⟩
 cbv;refine⟨a,u,_,_,rfl,y,Be,?_⟩;refine Sg (λi=>decide<|vV r L f i=f.getD i 0) (λi=>(i:Int)) hn (by rw[l.1];exact az (by have:=j.len;omega)) ?_ ?_
 ·intro i H1 A R x m o O;rw[l.1] at x;cbv;refine⟨a,u,_,rfl,m _ _ y,GH,a,c,g,r,f,M,J,L,i,rfl,t.mono m,E.mono m,j,l,F,x,λz v=>?_⟩;cbv
  by_cases e:vV r L f i=f.getD i 0
  ·rw[if_pos e];exact o (cc e) z v
  ·rw[if_neg e];exact O (dy e) z v
 ·intro p H1 I Q b;rw[l.1] at b;exact q p H1 Q I b
def Lb (D:Def K mg "fits" zp)(gK:Fn P w K mg base 1 "is_name" ["word"] ky)(jV:Fn P w K mg base 1 "is_count" ["word"] lD):Fn P w K mg base 2 "fits" ["part","word"] Hk:=by
 have zY:DS (aj zp) ["part","word"] ["part","word"] ["is_name","is_count"]:=aQ;walk_at"hH";obtain⟨p,z,rfl,hz,q⟩:=h;unfold r9 at q;refine⟨_,(ae (cj (aL aM (kv S 0) aU<|ao _) (ai<|aI<|cK S 0 gK hr<|aa<|kv S 1) av)
   (ai<|aI<|Uj (gO aM (kv S 1) aU<|ao _)<|qa<|cK S 1 jV hr<|aa<|kv S 1)),?_⟩
 cbv;refine bp (λc=>?_) λc=>?_
 ·rw[if_pos c] at q;exact⟨z,rfl,hz,q⟩
 ·rw[if_neg c] at q;refine bp (λa=>?_) λa=>?_
  ·rw[cc a,Bool.true_or] at q;exact q H<|ag.refl _
  ·rw[dy a,Bool.false_or] at q;exact⟨z,rfl,hz,q⟩
variable {aF:Addr}{eF:Nat->Addr}
def HJ (B:Bn mg)(FT:uo P w K mg aF eF)(D:Def K mg "is_ask" pz)(Po:Fn P w K mg base 2 "fits" ["part","word"] Hk):Fn P w K mg base 3 "is_ask" ["words"] (Bp K eF):=by
 have zY:DS (aj pz) ["words","form","behind"] ["words"] ["FORMS","all","len","zip"]:=aQ;walk_at"hH";obtain⟨p,x,g,f,b,rfl,j,t,hx,r,J,hz,y,e,q⟩:=h;refine⟨_,(ae (cj (R8 FT.PH (cp<|kv S 0) (R6 S 0 FT.gl) (by with_unfolding_all rfl)) (ai<|aI vF) av)
   (ae (bo S 1<|R7 FT.PH (R6 S 0 FT.gl)<|cp<|kv S 0)
   (ae (bo S 2<|iu (bz rfl) (kv S 0) (aS aq) aV)
   (ai (aI (mH (gO aM (cE S 2 (aA rfl) B.len oD<|aa<|kv S 2) (cE S 2 (aA rfl) B.len oD<|aa<|kv S 1)<|ao _) (qa (cE S 1 (cY hc rfl) B.all boot_all (aa (ju S hc hsc (S3 false true S 3 B.zip rfl<|ah (kv S 1)<|aa<|kv S 2) (N:=["part","word"]) (W:=["part","word"]) (G:=["fits"]) (fv:=[none,none]) Dk0 λO C M s H c=>⟨(mI rfl (K:=X.K) (n:=2) rfl<|bq (kg c 0)<|bq (kg c 1) dO),bG,(cK c 0 Po hr<|ah (kv c 0)<|aa<|kv c 1)⟩)))))))))),?_⟩
 cbv;refine ax (i:=((0:Nat):Int)) j (ay rfl) ?_;refine⟨.inr g,trivial,rfl,?_⟩;rw[t];cbv;rw[if_neg (by simp)]
 refine ax (i:=((0:Nat):Int)) j (ay rfl) ?_;refine⟨.inr g,_,trivial,rfl,t,?_⟩;refine⟨p,_,rfl,j,λa E=>?_⟩;rw[show (some (1:Int))=some ((1:Nat):Int) from rfl,cX,<-SL]
 have z:=ag.new E<|.lst<|b.map V.str;refine aZ (.inl<|au.of af) ?_;refine aZ (.inr<|e _) ?_;rw[b5,b5];simp only[Ez,yo];rw[if_pos (cc (by show ((b.length:Nat):Int)=_;rw[r]))]
 refine Se (λ_=>.bl true) (e _) (au.of af) (by rw[b5,b5];exact r.symm) (by rw[b5];exact az (by omega)) ?_ ?_
 ·intro i H1 A l L u;rw[b5] at l;have o:i<((g::b).drop 1).length:=by show i<b.length;omega
  rw[show (f.map V.str).getD i .bx=.str (f.getD i aE) by rw[b3,aC l];rfl,show (((g::b).drop 1).map V.str).getD i .bx=.str (b.getD i aE) by rw[b3,aC o];rfl]
  cbv;refine⟨_,_,rfl,hz _ (getD_memS (show i<b.length by omega)),λI v=>?_⟩
  rw[y i l];exact u I v
 ·intro m H1 hn F d;refine⟨m,(List.range (f.map V.str).length).map λ_=>true,rfl,au.of (by rw[d,kb];rfl),?_⟩
  rw[show ((List.range (f.map V.str).length).map λ_=>true).all id=true from ih.mpr λx hx=>by obtain⟨_,_,rfl⟩:=j9.mp hx;rfl]
  exact q H1<|z.trans F
def O8 (B:Bn mg)(D:Def K mg "number_of" iS):Fn P w K mg base 1 "number_of" ["names","name"] (Hl K):=by
 have zY:DS (aj iS) ["names","name"] ["names","name"] ["NoName"]:=aQ;walk_at"hH";obtain⟨p,c,z,rfl,a,b,d,q⟩:=h;refine⟨_,(ae (cj (aL (eY rfl) (kv S 1) (kv S 0) (by with_unfolding_all rfl)) (ai jx) av)
   (ai<|aI<|Um PySem.F.plainAttrs_tuple slot_tuple_index PySem.F.type_tuple_index (zc rfl) rfl (kv S 0)<|aa<|kv S 1)),?_⟩
 cbv;refine jF (neg:=true) (.inr a) ?_
 by_cases m:z∈c
 ·rw[if_pos rfl,cc m];cbv;exact⟨⟨p,rfl,b⟩,p,c,z,rfl,rfl,a,m,q m H<|ag.refl _⟩
 ·rw[if_pos rfl,dy m];cbv;exact d m H<|ag.refl _
def Dp (B:Bn mg)(D:Def K mg "named" uA):Fn P w K mg base 1 "named" ["names","people"] (wN K):=by
 have zY:DS (aj uA) ["names","people"] ["names","people"] ["len"]:=aQ;walk_at"hH";obtain⟨p,a,d,l,rfl,m,r,g,q⟩:=h;refine⟨_,(ae (cj (xT<|Ik (aL AE (kv S 1) vG<|ao _)<|qb<|aL aM (cE S 0 (aA rfl) B.len oD<|aa<|kv S 1) aq<|ao _) (ai<|aI<|dq bF) av)
   (ai (aI (dq (aa (fL q7 Da F1 (bD rfl) rfl aU (aa (ju S hc hsc (b9 (kv S 1) rfl) (N:=["i","names"]) (W:=["i"]) (G:=[]) (fv:=[none,some 0]) Dk0 λO C M s H n=>⟨(kg n 0),bG,(nY (eU rfl) (kv n 1) (kv n 0) λ_ _=>rfl)⟩)))))))),?_⟩
 cbv;refine aZ (.inl r) ?_;rw[b5,ak];cbv;refine bp (λc=>?_) λc=>?_
 ·have e:l=[]:=List.length_eq_zero_iff.mp (by omega)
  subst e;refine⟨ad,λt f=>?_⟩
  exact q t _ (ag.new f _) f af
 ·have e:l≠[]:=λz=>c (by rw[z];rfl)
  cbv;refine⟨rfl,a,rfl,⟨_,r⟩,n9 (bJ r) (λ_=>true) (λi=>.str<|d.getD (l.getD i 0) aE) (by rw[b5,ak];exact az (by have:=g.fC;omega)) ?_ ?_⟩
  ·intro i H1 A L o I y _;rw[b5,ak] at o;rw[gD o];cbv;refine bA (I.aT m) (ay<|aC<|g.lt _<|gE o) ?_;exact y rfl _<|ag.refl _
  intro u H1 hn x b;rw[bZ,b5,ak,fq λj=>V.str<|d.getD j aE,show (l.map λj=>V.str<|d.getD j aE)=(l.map λj=>d.getD j aE).map V.str by rw[kb];rfl] at b
  have hw:=namesW g;have J:=g.fC;have h1:=lM 32 12 _ hw;have E:=eK 12 _ hw;rw[b5] at h1 E;have v:(1000:Nat)<=sizeLine:=by decide
  refine⟨_,u,l.map λj=>d.getD j aE,rfl,rfl,au.of b,?_,?_,?_⟩
  ·rw[bc];show ((l.map λj=>d.getD j aE).map λz=>z.length+1).sum<=_
   omega
  ·rw[bc];omega
  rw[bc];refine⟨ad,λt f=>?_⟩
  refine q t _ (x.trans<|ag.new f _) (x.free f) ?_;rw[af];unfold iK;rw[if_neg e];rfl
def Dq (B:Bn mg)(D:Def K mg "told_of" lW)(uP:Fn P w K mg base 2 "shown_book" ["book"] (wK K))(me:Fn P w K mg base 1 "rows_of" ["text"] yO):Fn P w K mg base 6 "told_of" ["book","groups","ask"] (BB K):=by
 have zY:DS (aj lW) ["book","groups","ask","names","counts","web"] ["book","groups","ask"] ["str","made_sure","shown_share","named","sight_ring","sight_order","rows_of","shown_book"]:=aQ;walk_at"hH";obtain⟨b,g,e,n,j,rfl,hb,P,q⟩:=h;obtain⟨x,E,z,f,h1,r,y,A⟩:=id hb;have C:=P.nm.fC;refine⟨_,(ae (bo S 3<|kZ<|kv S 0)
   (ae (bo S 4<|kZ<|kv S 0)
   (ae (bo S 5<|kZ<|kv S 0)
   (ae (cj (aL aM (kv S 2) aU<|ao _) (ai jx) av)
   (ae (cj (aL aM (kv S 2) aU<|ao _) (ai jx) av)
   (ae (cj (aL aM (kv S 2) aU<|ao _) (ai jx) av)
   (ae (cj (aL aM (kv S 2) aU<|ao _) (ai jx) av)
   (ae (cj (aL aM (kv S 2) aU<|ao _) (ai jx) av)
   (ai<|aI<|cK S 6 me hr<|aa<|cK S 7 uP hr<|aa<|kv S 0))))))))),?_⟩
 walk_at"i";refine bA (i:=((0:Nat):Int)) f (ay rfl) ?_;walk_at"i";refine bA (i:=((1:Nat):Int)) f (ay rfl) ?_;walk_at"i";refine bA (i:=((2:Nat):Int)) f (ay rfl) ?_;walk_at"i";rw[if_neg (show ¬ ze .book=Str.ofString "sure" by decide)]
 walk_at"h";rw[if_neg (show ¬ ze .book=Str.ofString "share" by decide)]
 walk_at"h";rw[if_neg (show ¬ ze .book=Str.ofString "groups" by decide)]
 walk_at"h";rw[if_neg (show ¬ ze .book=Str.ofString "ring" by decide)]
 walk_at"h";rw[if_neg (show ¬ ze .book=Str.ofString "order" by decide)]
 lia;refine⟨b,e,n,j,rfl,hb,P,λH1 o=>?_⟩;have c:=lQ P;have s:(cf e j).length<=16:=fz rW (by omega)
 have d:((cf e j).map<|jf e n).length<=100:=by rw[b5];omega
 have p:=rR c d;have a:=yN c;refine⟨_,rfl,by omega,by rw[a,b5];omega,λl v u m t=>?_⟩
 exact q l v (o.trans u) (o.free m) (by rw[t,a];simp only[List.map_map];rfl)
def lY:DS (aj bT) ["self","text","counts","web"] ["self","text"] ["read_book","Hall","best_groups"]:=aQ
def lZ:bindM "__init__" "Desk.__init__" bT "self" "text":=λT kV a d c b ct u v=>⟨⟨_,by with_unfolding_all rfl,λ_=>by with_unfolding_all rfl⟩,⟨_,by with_unfolding_all rfl,λ_=>by with_unfolding_all rfl⟩⟩
variable {aR:Addr}
def HK (B:Bn mg)(ER:lG K mg mQ er)(bP:gX K mg "Hall" aD ["counts","groups","worn"])(cu:gX K mg "Desk" aR ["book","hall"])(D:wJ K aR "__init__" "Desk.__init__" bT "")(xp:Kw P w K mg base 4 "read_book" ["text"] (Bw K er))(qC:Fn P w K mg base 7 "best_groups" ["counts","web"] (RY K))(mU:rY P w K mg base 5 aD "__init__" ["self","counts","web","groups"] (wO K aD)):KS P w K mg base 8 aR "__init__" "self" "text" "" (w6 K aD aR er):=by
 refine D.gf lY lZ (by walk_at"hL") ?_
 intro X E S e1 e2 e3 e4 e5 hc hsc hx0 hp hr hu H vs Q h;subst e1 e2 e3 e4 e5;obtain⟨x,f,z,rfl,hx,hz,hzl,a0,q,qE⟩:=h;refine⟨_,(ae (RG cu (kv S 0)<|TH S 0 xp hp hr<|aa<|kv S 1)
   (ae (bo S 2<|kZ<|DT cu<|kv S 0)
   (ae (bo S 3<|kZ<|DT cu<|kv S 0)
   (ai<|RG cu (kv S 0)<|UK S 1 bP mU oO hr<|ah (kv S 2)<|ah (kv S 3)<|aa<|cK S 2 qC hr<|ah (kv S 2)<|aa<|kv S 3)))),?_⟩
 walk_at"i";refine⟨z,rfl,hz,hzl,a0,λhn t M b H1 eM hM hb O ht=>?_,qE⟩;have BM:=UP hM hb;have P:=BM.Ip;obtain⟨W,d,p⟩:=b;have P:mB W d p:=P;have v:=O _ _ hx;lia;refine⟨x,f,[],rfl,v,ad,?_⟩
 rw[KW];have C:Off x H1 (upd H1 x<|.ins aR f<|wL t):=Off.upd;have c:upd H1 x (.ins aR f<|wL t) x=some (.ins aR f<|wL t):=af;have o:=ht.eX C v;generalize upd H1 x (.ins aR f<|wL t)=H2 at C c o ⊢;obtain⟨a1,a2,a3,h0,h1,h1t,h2,h3⟩:=id o;walk_at"i";refine wV (c) wM ?_;refine bA (i:=((1:Nat):Int)) h0 (ay rfl) ?_;walk_at"i";refine wV (c) wM ?_;refine bA (i:=((2:Nat):Int)) h0 (ay rfl) ?_;lia;have s:=P.OS;have r:p.length=(aK d).length:=by rw[P.lw,P.len]
 refine⟨_,_,aK d,p,rfl,h2,h3,s,r,P.Sj,λg us L G J hg hL hB=>?_⟩;intro y m hy Y aY;have h8:=P.nm.fC;have D:eL W d p L (List.replicate d.length 0):=by
  refine⟨P,hB,?_⟩;rw[show (List.replicate d.length (0:Int))=List.replicate (aK d).length 0 by rw[ak]]
  exact HN.OJ s.pos
 have A:ag G (upd (upd G m<|.own y) y<|.ins aD m []):=(ag.new Y _).trans (ag.new (by rw[aB (Ne.symm aY)];exact hy) _)
 have l:upd (upd G m<|.own y) y (.ins aD m []) y=some (.ins aD m []):=af;generalize upd (upd G m<|.own y) y (.ins aD m [])=H4 at A l ⊢;have a:=J.trans A;refine⟨y,m,_,_,g,aK d,p,us,gI L,rfl,l,a.aT h2,a.aT h3,A.aT hg,(hL.mono A).gi,r,by rw[P.len];exact h8,?_,by rw[ON];have:=D.fC;omega,λz=>absurd (Hm hB.1) z,λ_ N F hH=>⟨rfl,?_⟩⟩
 ·intro z hz;unfold gI at hz;obtain⟨g0,hg0,rfl⟩:=j9.mp hz
  have:=D.g8 g0 hg0
  show (aK g0.2).length<=30;rw[ak];omega
 have ab:=a _ _ c;have Z:y≠x:=λe=>by
  have:=J _ _ c
  rw[<-e,hy] at this;cases this
 have j:=F x _ Z.symm ab;refine⟨x,f,_,rfl,j,by show 1<_;decide,?_⟩
 rw[KY];have I:Off x N (upd N x<|.ins aR f<|KU t y):=Off.upd;have U:=((o.mono a).eX F l).eX I j;have aF:=((hL.mono A).eX F l).eX I j;have T:Off x H (upd N x<|.ins aR f<|KU t y):=λb u n e=>by
  have e4:=a _ _<|C b u n<|O _ _ e;have by':b≠y:=λz=>by
   have:=J _ _<|C b u n<|O _ _ e
   rw[z,hy] at this;cases this
  exact I b u n (F b u by' e4)
 have R:ft X.K aD N y a2 g (aK d) us (List.replicate d.length 0):=by rw[ak] at hH;exact hH
 have a4:H y=none:=by
  cases e:H y with
  | none=>rfl
  | some u=>
   have:=J _ _<|C y u Z<|O _ _ e
   rw[hy] at this;cases this
 exact q hn M ⟨W,d,p⟩ y L _ eM BM T a4 ⟨⟨f,t,af,U⟩,_,g,us,R.T7 I j Z,aF⟩ D
def O9 (B:Bn mg)(bP:gX K mg "Hall" aD ["counts","groups","worn"])(cu:gX K mg "Desk" aR ["book","hall"])(FT:uo P w K mg aF eF)(D:qk K aR "ask" "Desk.ask" jT)(Ic:Fn P w K mg base 3 "is_ask" ["words"] (Bp K eF))(xq:Fn P w K mg base 1 "number_of" ["names","name"] (Hl K))(hU:rY P w K mg base 4 aD "guess" ["self","i"] (oQ K aD))(uQ:rY P w K mg base 5 aD "right" ["self"] (sC K aD))(Lm:Fn P w K mg base 1 "named" ["names","people"] (wN K))(DA:Fn P w K mg base 6 "told_of" ["book","groups","ask"] (BB K)):rY P w K mg base 7 aR "ask" ["self","line"] (Hy K aD aR):=by
 have zY:DS (aj jT) ["self","line","words","names"] ["self","line"] ["is_ask","NoAsk","number_of","int","str","named","told_of"]:=aQ;walk_at"hH";obtain⟨d,hl,m,J,ws,L,hs,a,rfl,hD,D,ha,h7,q⟩:=h;have P:=D.Ip;have h8:=P.nm.fC;have u:=P.OS;obtain⟨w1,U,w3⟩:=C8 P ha;obtain⟨⟨dx,b,hd,hb⟩,c,g,us,hH,hL⟩:=id hD;obtain⟨a1,a2,a3,h0,h1,R,h2,h3⟩:=id hb;have s:=dR 32 w1 λx hx=>(U x hx).1;have Y:=lM 32 30 _ λx hx=>(U x hx).2;have W:(mP m a).length*31<=3*31:=yx _ w3;have hbig:(1000:Nat)<=sizeLine:=by decide
 refine⟨_,(ae (bo S 2<|fL q7 C6 KM bK rfl (kv S 1)<|aa aU)
   (ae (cj (qc<|kn<|cK S 0 Ic hr<|aa<|kv S 2) (ai jx) av)
   (ae (bo S 3<|kZ<|DT cu<|kv S 0)
   (ae (cj (aL aM (cp<|kv S 2) aU<|ao _) (ae jx<|ai jx) av)
   (ae (cj (aL aM (cp<|kv S 2) aU<|ao _) (ai<|aI<|dq<|aa<|pR S 4 dA B.str boot_str<|aa<|RH bP hU oO hr (DT cu<|kv S 0)<|aa<|cK S 2 xq hr<|ah (kv S 3)<|aa<|cp<|kv S 2) av)
   (ae (cj (aL aM (cp<|kv S 2) aU<|ao _) (ai<|aI<|cK S 5 Lm hr<|ah (kv S 3)<|aa<|TM bP uQ oO hr<|DT cu<|kv S 0) av)
   (ai<|aI<|cK S 6 DA hr<|ah (DT cu<|kv S 0)<|ah (DT bP<|DT cu<|kv S 0)<|aa<|cp<|kv S 2))))))),?_⟩
 walk_at"i";rw[bc];refine⟨rfl,_,_,rfl,rfl,ad,by omega,by rw[s];omega,λp hp0=>?_⟩
 rw[s];have s1:=ag.new hp0<|.lst<|(mP m a).map V.str;have r:upd H p (.lst<|(mP m a).map V.str) p=some (.lst<|(mP m a).map V.str):=af;generalize upd H p (.lst<|(mP m a).map V.str)=H1 at s1 r ⊢;walk_at"i";obtain⟨fx,w0,ff,fb,ew,hv,f1,f2,f3,f4,f5⟩:=Ho FT P ha;refine⟨p,fx,w0,ff,fb,rfl,au.of (by rw[r,ew]),hv,f5 _,f1,f2,f3,f4,f5,λH2 s2=>?_⟩
 have e:=s1.trans s2;have hD2:=hD.mono e;have o:=e _ _ hd;have f:au X.K H2 p ((mP m a).map V.str):=au.of<|s2 _ _ r;have E:=hH.mono e;obtain⟨T,n,Z,hn⟩:=E.ex;clear r hv f1 f2 f3 f4 f5 ew s Y W w1 U w3;walk_at"i";refine wV (o) Bo ?_;refine bA (i:=((0:Nat):Int)) (e.aT h0) (ay rfl) ?_;walk_at"i"
 cases a with
 | told k=>
  obtain rfl:k=.book:=h7;obtain⟨n1,n2,n3,_,_⟩:=zg .book;refine ax (i:=((0:Nat):Int)) f (ay rfl) ?_;lia;rw[if_neg n1];walk_at"h";refine ax (i:=((0:Nat):Int)) f (ay rfl) ?_;lia;rw[if_neg n2];walk_at"h";refine ax (i:=((0:Nat):Int)) f (ay rfl) ?_;lia;rw[if_neg n3];lia;refine⟨d,dx,_,_,rfl,o,Bo,d,dx,_,_,rfl,o,ur,hl,T,_,_,rfl,Z,rZ,?_⟩;refine ax (i:=((0:Nat):Int)) f (ay rfl) ?_;exact⟨b,g,m,J,ws,rfl,hb.mono e,P,λl N C G v=>q l N (e.trans C) (e.free G) v⟩
 | right=>
  refine ax (i:=((0:Nat):Int)) f (ay rfl) ?_;lia;rw[if_neg ad]
  walk_at"h";refine ax (i:=((0:Nat):Int)) f (ay rfl) ?_;lia;rw[if_neg ad]
  walk_at"h";refine ax (i:=((0:Nat):Int)) f (ay rfl) ?_;lia;refine wV (o) ur<|wU (Z) GH ?_;refine⟨hl,_,g,aK J,hs,ws,us,L,rfl,E,hL.mono e,u,D.qv,D.KZ,λl N C G v=>?_⟩;have j:=e.trans C;exact⟨_,l,m,_,rfl,j.aT h1,au.of v,sf P,λa H4 O Q ha1=>q a H4 (j.trans O) (j.free Q) ha1⟩
 | hV i=>
  have I:i<m.length:=ha;have y:i<(aK J).length:=by rw[P.len];exact I
  have hm:m.getD i aE∈m:=getD_memS I;have M:m.idxOf (m.getD i aE)=i:=by
   rw[b3,b4 I];exact P.nm.nd.idxOf_getElem i I
  refine ax (i:=((0:Nat):Int)) f (ay rfl) ?_;lia;rw[if_neg ad]
  walk_at"h";refine ax (i:=((0:Nat):Int)) f (ay rfl) ?_;lia;refine wV (o) ur<|wU (Z) GH ?_;refine ax (i:=((1:Nat):Int)) f (ay rfl) ?_;refine⟨_,m,_,rfl,e.aT h1,R.mono e,λz=>absurd hm z,λ_ N C=>?_⟩;rw[M];have j:=e.trans C;refine⟨hl,_,g,aK J,hs,ws,us,L,i,rfl,hH.mono j,hL.mono j,u,D.qv,D.KZ,y,λH4 O=>?_⟩;obtain⟨g1,g2⟩:=OV u D.qv D.KZ y;refine⟨_,rfl,(zf g1 g2 ad).2,?_⟩
  lia;refine⟨ad,λt ht=>?_⟩
  have A:=j.trans O;exact q t _ (A.trans<|ag.new ht _) (A.free ht) af
 | put i col=>exact h7.elim
def Dr (B:Bn mg)(D:Def K mg "_law_draws" iT):Fn P w K mg base 1 "_law_draws" ["cell","count"] gB:=by
 have zY:DS (aj iT) ["cell","count","number","drawn","k"] ["cell","count"] ["range"]:=aQ;walk_at"hH";obtain⟨e,n,rfl,hn,q⟩:=h;refine⟨_,(ae (bo S 2<|bw<|Aw<|aP aJ (bw<|kv S 0) aq)
   (ae (bo S 3<|dq bF)
   (ae (eV hxe hc (iw S 0 B.range<|aa<|kv S 1) (kg S 4) (ae (bo S 2<|bw<|Aw<|kv S 2)
   (ai<|dv<|fL ri mo oo bI rfl (kv S 3)<|aa<|rz<|bw<|aP dZ (kv S 2)<|kv S 2)))
   (ai<|aI<|kv S 3)))),?_⟩
 cbv;refine⟨ad,λl g=>?_⟩
 refine forR n (Ro H e n l) rfl (by omega) ⟨_,[],_,rfl,ag.new g _,af,rfl,(λx hx=>nomatch hx)⟩ ?_ ?_
 ·rintro k σ H1 hk ⟨c,f,y,rfl,i,b,a,d⟩;cbv;have j:=IR (c*45742) (show (2147483543:Int)≠0 by decide)
  have h1:=GT (c*45742) (show (0:Int)<2147483543 by decide)
  generalize c*45742 % 2147483543=nm at j h1 ⊢;refine⟨.inl ⟨rfl,_,au.of b⟩,tj (by omega) (by omega),?_⟩
  refine⟨l,_,_,rfl,rfl,b,by rw[b5];exact az (by omega),?_⟩
  refine⟨_,f++[nm*nm % 2147483579 / 7],_,rfl,i.set g _,by rw[af,eH];rfl,by rw[ed,a];rfl,λx hx=>?_⟩
  rcases eG.mp hx with z | z
  ·exact d x z
  ·rw[dt.mp z];omega
 ·rintro σ H1 ⟨c,f,y,rfl,i,b,a,d⟩;cbv;exact q l f H1 i g b a d
def HL (B:Bn mg)(D:Def K mg "_law_fresh" iU):Fn P w K mg base 1 "_law_fresh" ["number","size"] tW:=by
 have zY:DS (aj iU) ["number","size","letters","name","k"] ["number","size"] ["range"]:=aQ;walk_at"hH";obtain⟨b,n,rfl,hn,q⟩:=h;refine⟨_,(ae (bo S 2 aU)
   (ae (bo S 3 aU)
   (ae (eV hxe hc (iw S 0 B.range<|aa<|kv S 1) (kg S 4) (ae (bo S 0<|bw<|aP aJ (Aw<|kv S 0) aq)
   (ai<|bo S 3<|aP aX (kv S 3)<|nY sT (kv S 2) (bw<|rz<|kv S 0) λ_ _=>rfl)))
   (ai<|aI<|kv S 3)))),?_⟩
 cbv;refine forR n (Rp H n) rfl (by omega) ⟨_,_,_,rfl,rfl,rfl,(λc hc=>nomatch hc)⟩ ?_ ?_
 ·rintro k σ H1 hk ⟨b,z,y,rfl,rfl,hz,a⟩;cbv;obtain⟨c,e,d⟩:=Ga (i:=(b*48271+11) % 2147483647 / 23 % 26) (by omega) (by omega)
  refine⟨gT,_,c,rfl,rfl,Dk0,e,?_⟩
  refine⟨_,_,rfl,rfl,?_,?_⟩
  ·show z.length+1<=sizeLine
   have:(100:Nat)<=sizeLine:=by decide
   omega
  ·exact⟨_,z++⟨#[c]⟩,_,rfl,rfl,by rw[aG,hz];rfl,a.append d⟩
 ·rintro σ H1 ⟨b,z,y,rfl,rfl,hz,a⟩;cbv;exact q z hz a
def zx {A B:TS}{D:Ends}{σ:L2.St}{H:Hp}(I:L2.St->Hp->Prop)(h2:∀ σ' H',I σ' H'->B D σ' H')(h1:∀ R:L2.St->Hp->Prop,(∀ σ' H',I σ' H'->R σ' H')->A {D with nx:=R} σ H):BO A B D σ H:=h1 (B D) h2
def cS {dn:List Int}{H:Hp}{dr:Addr}{i:Int}{Q:VK}(hd:H dr=some (.lst<|dn.map V.int))(hl:dn.length=m)(hnn:∀ x∈dn,0<=x)(h0:0<=i)(h1:i<m)(q:∀ x:Int,0<=x->Q (.int x) H):lp K (.ref dr) (.int i) H Q:=by
 obtain⟨m,rfl⟩:=j5 h0;have hm:m<dn.length:=by omega
 exact ax (au.of hd) (ay (by rw[et,b4 hm];rfl))<|q _<|hnn _<|pP hm
def HM (H0:Hp)(cell:Int)(n:Nat)(sm dr:Addr)(base:Str)(a:Nat)(l:Addr)(dn:List Int)(k:Nat)(σ:L2.St)(H:Hp):Prop:=∃ (ns:List Str) (name:Str) (y3 y4:Option V),σ=[some (.int cell),some<|.int n,some<|.str gT,some<|.ref sm,some<|.ref dr,some<|.str base,some<|.int a,some<|.ref l,some<|.int k,some<|.str name,y3,y4]/\ag H0 H/\H l=some (.lst<|ns.map V.str)/\H sm=some (.lst<|mz.map V.str)/\H dr=some (.lst<|dn.map V.int)/\Kk ns k/\(1<=k->ns≠[])/\br name=true
def Lc {ns:List Str}{k:Nat}{x:Str}(h:Kk ns k)(hx:br x=true)(hn:x∉ns):Kk (ns++[x]) (k+1) where
 fC:=by rw[ed];have:=h.fC;simp;omega
 nd:=Os.mpr ⟨h.nd,by simp,λa c b hb=>by rw[dt.mp hb];rintro rfl;exact hn c⟩
 nm:=λy hy=>by
  rcases eG.mp hy with z | z
  ·exact h.nm y z
  ·rw[dt.mp z];exact hx
def pF {ns:List Str}{k:Nat}(h:Kk ns k)(hk:k<=m):Kk ns m:=⟨fz h.fC hk,h.nd,h.nm⟩
def DU:Str:="abcdefghijkl"
def HP:iG DU:=by
 have h:∀ c∈cz DU,FX c=true:=by decide +kernel
 exact h
def uH:DU.length=12:=by decide +kernel
def HQ (B:Bn mg)(D:Def K mg "_law_names" iV)(bQ:Fn P w K mg base 1 "_law_draws" ["cell","count"] gB)(eI:Fn P w K mg base 1 "_law_fresh" ["number","size"] tW):Fn P w K mg base 2 "_law_names" ["cell","size"] AY:=by
 have zY:DS (aj iV) ["cell","size","letters","some","drawn","base","at","names","k","name","sign","width"] ["cell","size"] ["_law_draws","_law_fresh","len","range"]:=aQ;walk_at"hH";obtain⟨s,n,rfl,hn1,hn,q⟩:=h;refine⟨_,(ae (bo S 2 aU)
   (ae (bo S 3 (dq (tE (ns:=["hat","sees","put","guess","right","ring","order","book","sure","share","groups"]) Dk0)))
   (ae (bo S 3<|aP (bV rfl) (kv S 3)<|dq<|ah aU<|aa aU)
   (ae (bo S 4<|cK S 0 bQ hr<|ah (kv S 0)<|aa aq)
   (ae (bo S 5<|cK S 1 eI hr<|ah (cp<|kv S 4)<|aa<|aP aJ aq<|bw<|cp<|kv S 4)
   (ae (bo S 6<|aP bR (cp<|kv S 4)<|cE S 2 dB B.len oD<|aa<|kv S 5)
   (ae (bo S 7<|dq bF)
   (ae (eV hxe hc (iw S 3 B.range<|aa<|kv S 1) (kg S 8) (ae (bo S 9<|cK S 1 eI hr<|ah (fh (kv S 4)<|aP aJ aq<|kv S 8)<|aa<|aP aJ aq<|bw<|fh (kv S 4)<|aP aJ aq<|kv S 8)
   (ae (cj (aL ie (bw<|cp<|kv S 4) aq<|ao _) (ae (bo S 10 (nY sT (kv S 2) (bw (aP aJ (cp<|kv S 4) (aP dZ (kv S 8) (fh (dq (tD (ns:=[1,3,5,7,9,11]) Dk0))<|bw<|cp<|kv S 4)))) λ_ _=>rfl))
   (ai<|bo S 9<|aP aX (aP aX (iu fV (kv S 5) aV<|aS<|kv S 6)<|kv S 10)<|iu fV (kv S 5) (aS<|aP aJ (kv S 6) aq) aV)) av)
   (ae (cj (aL aM (bw<|cp<|kv S 4) aq<|ao _) (ai<|bo S 9<|fh (kv S 3)<|bw<|aP aJ (cp<|kv S 4)<|EX<|kv S 8) av)
   (ae (cj (aL aM (bw<|cp<|kv S 4) aq<|ao _) (ae (bo S 11<|aP aJ aq<|bw<|aP aJ (EX<|kv S 8)<|cp<|kv S 4)
   (ai<|bo S 9<|fh (dq<|ah (iu fV (aP aX (kv S 5) aU) aV<|aS<|kv S 11)<|aa<|iu fV (aP aX aU<|kv S 5) (aS<|NY jC<|kv S 11) aV)<|bw<|cp<|kv S 4)) av)
   (ai (cj (aL (eY rfl) (kv S 9) (kv S 7) (by with_unfolding_all rfl)) (ai<|dv<|fL ri mo oo bI rfl (kv S 7)<|aa<|kv S 9) av)))))))
   (ai<|aI<|kv S 7))))))))),?_⟩
 walk_at"i";walk_at"i";refine⟨ad,λs0 hs0=>?_⟩
 have a0:=ag.new hs0<|.lst [V.str "hat",V.str "sees",V.str "put",V.str "guess",V.str "right",V.str "ring",V.str "order",V.str "book",V.str "sure",V.str "share",V.str "groups"];walk_at"i";refine⟨ad,λs1 hs1=>?_⟩
 have a1:=ag.new hs1<|.lst [V.str "circle",V.str "hats"];refine⟨s0,s1,_,_,rfl,rfl,au.of<|a1 _ _ af,au.of af,ad,λY hsm=>?_⟩
 have a2:=ag.new hsm<|.lst<|mz.map V.str;walk_at"i";have b0:=a0.trans<|a1.trans a2;have hsm':upd (upd (upd H s0<|.lst [V.str "hat",V.str "sees",V.str "put",V.str "guess",V.str "right",V.str "ring",V.str "order",V.str "book",V.str "sure",V.str "share",V.str "groups"]) s1<|.lst [V.str "circle",V.str "hats"]) Y (.lst<|mz.map V.str) Y=some (.lst<|mz.map V.str):=af;refine⟨s,40,rfl,ad,λdr dn H1 t1 hdr0 L p j=>?_⟩
 have b1:=b0.trans t1;have T:=t1 _ _ hsm';walk_at"i";refine cS L p j ad ad λx0 hx0=>?_
 refine cS L p j ad ad λx1 hx1=>?_
 lia;obtain⟨m,hm⟩:=j5 (show 0<=1+x1 % 12 by omega)
 refine⟨x0,m,by rw[hm],by omega,λbase hbl J=>?_⟩
 walk_at"i";refine cS L p j ad ad λx2 hx2=>?_
 lia;refine⟨_,rfl,jd (by omega),?_⟩
 lia;refine⟨by omega,?_⟩
 have Q:=IR x2 (show ((base.length:Nat):Int)≠0 by omega)
 have U:=GT x2 (show (0:Int)<((base.length:Nat):Int) by omega)
 generalize x2 % ((base.length:Nat):Int)=am at Q U ⊢;obtain⟨a,rfl⟩:=j5 Q;walk_at"i";refine⟨ad,λl hl=>?_⟩
 walk_at"i";have sl:=ag.new hl<|.lst [];refine forR n (Rq H s n Y dr base a l dn) rfl (by omega) ⟨[],_,_,_,_,rfl,b1.trans sl,af,sl _ _ T,sl _ _ L,⟨by simp,by simp,λx hx=>nomatch hx⟩,λz=>absurd z ad⟩ ?_ ?_
 ·rintro k σ H2 hk ⟨ns,y1,y2,y3,y4,rfl,I,f,d,b,g,r⟩;walk_at"i";refine cS b p j (by omega) (by omega) λx3 hx3=>?_
  lia;refine cS b p j (by omega) (by omega) λx4 hx4=>?_
  lia;obtain⟨m4,hm4⟩:=j5 (show 0<=1+x4 % 12 by omega)
  refine⟨x3,m4,by rw[hm4],by omega,λname hbl' X=>?_⟩
  have y:=ny X (by omega) (by omega)
  lia;refine zx (HM H s n Y dr base a l dn k) ?_ (λR M=>?_)
  rotate_left
  ·lia;refine cS b p j ad ad λx5 hx5=>?_
   lia;refine bp (λc=>?_) λc=>M _ _ ⟨ns,name,_,_,rfl,I,f,d,b,g,r,y⟩;walk_at"i";refine cS b p j ad ad λx6 hx6=>?_
   lia;refine⟨ad,λo ho=>?_⟩
   have E:=ag.new ho<|.lst [V.int 1,V.int 3,V.int 5,V.int 7,V.int 9,V.int 11];refine cS (E _ _ b) p j ad ad λx7 hx7=>?_
   lia;refine cS (dn:=[1,3,5,7,9,11]) (m:=6) af rfl ad (by omega) (by omega) λx8 hx8=>?_
   lia;refine⟨tj (by omega) (by omega),?_⟩
   obtain⟨c',ec,hlc⟩:=Ga (i:=(x6+(k:Int)*x8) % 26) (by omega) (by omega)
   refine⟨gT,_,c',rfl,rfl,Dk0,ec,?_⟩
   lia;have h100:(1000:Nat)<=sizeLine:=by decide
   obtain⟨u,t⟩:∃ u,StrLaws.sliceText base none (some (a:Int))=u:=⟨_,rfl⟩;obtain⟨v,C⟩:∃ v,StrLaws.sliceText base (some ((a+1:Nat):Int)) none=v:=⟨_,rfl⟩;have G:=kA (x:=base) (k:=a) (by omega)
   have A:=jG (x:=base) (k:=a+1) (by omega)
   rw[t] at G;rw[C] at A;have Z:u.length=a:=by rw[aw,G,tz,<-aw];omega
   have hvl:v.length=base.length - (a+1):=by rw[aw,A,mv,<-aw]
   refine⟨base,rfl,by rw[t];omega,?_⟩
   rw[t];lia;refine⟨_,_,rfl,rfl,by rw[Z];show a+1<=_;omega,?_⟩
   refine⟨base,rfl,by rw[show ((a:Int)+1)=((a+1:Nat):Int) from rfl,C];omega,?_⟩
   rw[show ((a:Int)+1)=((a+1:Nat):Int) from rfl,C]
   have W:(u++(⟨#[c']⟩:Str)).length=a+1:=by rw[aG,Z];rfl
   refine⟨_,_,rfl,rfl,by rw[W];omega,?_⟩
   exact M _ _ ⟨ns,_,_,_,rfl,I.trans E,E _ _ f,E _ _ d,E _ _ b,g,r,ny (((we J G).append hlc).append<|wg J A) (by rw[aG,W];omega) (by rw[aG,W];omega)⟩
  rintro σ3 H3 ⟨ns,name,y3,y4,rfl,I,f,d,b,g,r,y⟩;refine zx (HM H s n Y dr base a l dn k) ?_ (λR M=>?_)
  rotate_left
  ·lia;refine cS b p j ad ad λx5 hx5=>?_
   lia;refine bp (λc=>?_) λc=>M _ _ ⟨ns,name,_,_,rfl,I,f,d,b,g,r,y⟩;lia;refine cS b p j ad ad λx6 hx6=>?_
   lia;obtain⟨m6,hm6⟩:=j5 (show 0<=(x6+5*(k:Int)) % 13 by omega)
   have N:m6<mz.length:=by have:mz.length=13:=rfl;omega
   rw[hm6];refine ax (au.of d) (ay<|aC N) ?_;exact M _ _ ⟨ns,_,_,_,rfl,I,f,d,b,g,r,Gb _<|getD_memS N⟩
  rintro σ3 H3 ⟨ns,name,y3,y4,rfl,I,f,d,b,g,r,y⟩;refine zx (HM H s n Y dr base a l dn k) ?_ (λR M=>?_)
  rotate_left
  ·lia;refine cS b p j ad ad λx5 hx5=>?_
   lia;refine bp (λc=>?_) λc=>M _ _ ⟨ns,name,_,_,rfl,I,f,d,b,g,r,y⟩;walk_at"i";refine cS b p j ad ad λx6 hx6=>?_
   lia;have h0:0<=(5*(k:Int)+x6) % 12:=by omega
   have h1:(5*(k:Int)+x6) % 12<12:=by omega
   generalize (5*(k:Int)+x6) % 12=wd at h0 h1 ⊢;obtain⟨O,rfl⟩:=j5 h0;rw[show (1+(O:Int))=((1+O:Nat):Int) from rfl]
   have h100:(1000:Nat)<=sizeLine:=by decide
   have hb1:(base++DU).length=base.length+12:=by rw[aG,uH]
   have hb2:(DU++base).length=12+base.length:=by rw[aG,uH]
   obtain⟨u,t⟩:∃ u,StrLaws.sliceText (base++DU) none (some ((1+O:Nat):Int))=u:=⟨_,rfl⟩;obtain⟨v,C⟩:∃ v,StrLaws.sliceText (DU++base) (some (-((1+O:Nat):Int))) none=v:=⟨_,rfl⟩;have G:=kA (x:=base++DU) (k:=1+O) (by omega)
   have A:=yK (x:=DU++base) (k:=1+O) (by omega) (by omega)
   rw[t] at G;rw[C] at A;have Z:u.length=1+O:=by rw[aw,G,tz,<-aw];omega
   have hvl:v.length=1+O:=by rw[aw,A,mv,<-aw];omega
   refine⟨_,_,rfl,rfl,by rw[show (Str.ofString "abcdefghijkl")=DU from rfl,uH];omega,?_⟩
   refine⟨_,rfl,by rw[show (Str.ofString "abcdefghijkl")=DU from rfl,t];omega,?_⟩
   rw[show (Str.ofString "abcdefghijkl")=DU from rfl,t]
   lia;refine⟨_,_,rfl,rfl,by rw[uH];omega,?_⟩
   lia;refine⟨_,rfl,by rw[C];omega,?_⟩
   rw[C];lia;refine⟨ad,λo ho=>?_⟩
   have E:=ag.new ho<|.lst [V.str u,V.str v];refine cS (E _ _ b) p j ad ad λx7 hx7=>?_
   lia;have okU:=ny (we (J.append HP) G) (by omega) (by omega)
   have okV:=ny (wg (HP.append J) A) (by omega) (by omega)
   rcases(show x7 % 2=0∨x7 % 2=1 by omega) with e | e
   ·rw[e];refine ax (i:=((0:Nat):Int)) (au.of af) (ay rfl) ?_;exact M _ _ ⟨ns,_,_,_,rfl,I.trans E,E _ _ f,E _ _ d,E _ _ b,g,r,okU⟩
   ·rw[e];refine ax (i:=((1:Nat):Int)) (au.of af) (ay rfl) ?_;exact M _ _ ⟨ns,_,_,_,rfl,I.trans E,E _ _ f,E _ _ d,E _ _ b,g,r,okV⟩
  rintro σ3 H3 ⟨ns,name,y3,y4,rfl,I,f,d,b,g,r,y⟩;lia;refine jF (.inl<|au.of f) ?_;lia
  by_cases c:name∈ns
  ·rw[cc c];lia;exact⟨ns,_,_,_,_,rfl,I,f,d,b,pF g (by omega),λ_ z=>by rw[z] at c;exact nomatch c⟩
  ·rw[dy c];lia;refine⟨.inl ⟨rfl,_,au.of f⟩,?_⟩;refine⟨l,_,_,rfl,rfl,f,by rw[b5];exact de (by have:=g.fC;omega),?_⟩
   have hl0:H l=none:=b1.free hl;have ne1:Y≠l:=aH T hl;have ne2:dr≠l:=aH L hl;exact⟨ns++[name],_,_,_,_,rfl,I.set hl0 _,by rw[af,eH];rfl,by rw[aB ne1];exact d,by rw[aB ne2];exact b,Lc g y c,λ_=>by simp⟩
 ·rintro σ H2 ⟨ns,y1,y2,y3,y4,rfl,I,f,d,b,g,r⟩;lia;exact q l ns H2 I (b1.free hl) f (r hn1) g
def HR (B:Bn mg)(D:Def K mg "_law_count" iW)(bQ:Fn P w K mg base 1 "_law_draws" ["cell","count"] gB):Fn P w K mg base 2 "_law_count" ["cell","k"] oE:=by
 have zY:DS (aj iW) ["cell","k","drawn","kind"] ["cell","k"] ["_law_draws"]:=aQ;walk_at"hH";obtain⟨n,k,rfl,q⟩:=h;refine⟨_,(ae (bo S 2<|cK S 0 bQ hr<|ah (aP aJ (rz<|kv S 0)<|EX<|kv S 1)<|aa aq)
   (ae (bo S 3<|bw<|cp<|kv S 2)
   (ae (cj (aL aM (kv S 3) aq<|ao _) (ai<|aI<|aP aJ aq<|aP bR (rz<|kv S 0)<|aP cG (aP k8 aq aq) aq) av)
   (ae (cj (aL aM (kv S 3) aq<|ao _) (ai (aI (fh (dq (ah aq (ah (aP cG (aP k8 aq aq) aq) (ah (aP k8 aq aq) (tD (ns:=[2,9,10,99,100]) Dk0)))))<|bw<|cp<|kv S 2))) av)
   (ae (cj (aL aM (kv S 3) aq<|ao _) (ai<|aI<|aP aJ aq<|aP bR (aP aJ (aP aJ (aP dZ (cp<|kv S 2)<|aP k8 aq aq)<|aP dZ (cp<|kv S 2)<|aP k8 aq aq)<|cp<|kv S 2)<|aP cG (aP k8 aq aq) aq) av)
   (ai<|aI<|aP aJ aq<|bw<|cp<|kv S 2)))))),?_⟩
 cbv;refine⟨_,6,rfl,ad,λR M H1 J p a d b=>?_⟩
 cbv;have e:(10:Int) ^ toNat 30=1000000000000000000000000000000:=by decide +kernel
 have j:(10:Int) ^ toNat 29=100000000000000000000000000000:=by decide +kernel
 have E:(10:Nat) ^ 30=1000000000000000000000000000000:=by decide +kernel
 have f:∀ (x:Int) (i:Hp),0<x->x<1000000000000000000000000000000->ag H1 i->Q (.int x) i:=λx i O h1 s=>by
  obtain⟨c,rfl⟩:=j5 (show 0<=x by omega)
  exact q c i (by omega) (by omega)<|J.trans s
 refine cS a d b ad ad λN z=>?_
 cbv;refine bp (λc=>?_) λc=>?_
 ·refine⟨by unfold sN;decide,by rw[e];decide,?_⟩
  rw[e];exact f _ _ (by omega) (by omega)<|ag.refl _
 refine bp (λC=>?_) λC=>?_
 ·refine⟨by unfold sN;decide,by unfold sN;decide,ad,λo G=>?_⟩
  rw[e,j];have t:=ag.new G<|.lst [V.int 1,V.int<|1000000000000000000000000000000 - 1,V.int 100000000000000000000000000000,V.int 2,V.int 9,V.int 10,V.int 99,V.int 100];refine cS (t _ _ a) d b ad ad λI H=>?_
  cbv;obtain⟨m,hm⟩:=j5 (show 0<=I % 8 by omega)
  rw[hm];have hb:∀ x∈[(1:Int),1000000000000000000000000000000 - 1,100000000000000000000000000000,2,9,10,99,100],0<x/\x<1000000000000000000000000000000:=by decide +kernel
  have g:m < [(1:Int),1000000000000000000000000000000 - 1,100000000000000000000000000000,2,9,10,99,100].length:=by show m<8;omega
  refine ax (au.of af) (ay (show ([(1:Int),1000000000000000000000000000000 - 1,100000000000000000000000000000,2,9,10,99,100].map V.int)[m]?=_ by rw[et,b4 g];rfl)) ?_
  have:=hb _<|pP g
  exact f _ _ this.1 this.2 t
 refine bp (λv=>?_) λv=>?_
 ·refine cS a d b ad ad λr l=>?_
  refine⟨by unfold sN;decide,?_⟩
  cbv;refine⟨nV Dk0 Dk0,?_⟩
  refine cS a d b ad ad λF u=>?_
  refine⟨by unfold sN;decide,?_⟩
  cbv;refine⟨nV Dk0 Dk0,?_⟩
  refine cS a d b ad ad λL A=>?_
  cbv;refine⟨by unfold sN;decide,by rw[e];decide,?_⟩
  rw[e];generalize r*10 ^ toNat 18+F*10 ^ toNat 9+L=y;exact f _ _ (by omega) (by omega)<|ag.refl _
 ·refine cS a d b ad ad λr l=>?_
  cbv;exact f _ _ (by omega) (by omega)<|ag.refl _
def HS (B:Bn mg)(D:Def K mg "_law_mixed_lines" dG):Fn P w K mg base 1 "_law_mixed_lines" ["book","drawn"] w9:=by
 have zY:DS (aj dG) ["book","drawn","names","counts","web","lines","k","order","i","some","at","hats","first"] ["book","drawn"] ["range","len","str","list","max"]:=aQ;walk_at"hH";obtain⟨b,dr,ns,f,ws,dn,rfl,⟨a1,a2,a3,hb,h1,h2,h3⟩,P,hdr,hdn,hnn,q⟩:=h;have h8:=P.nm.fC;refine⟨_,(ae (QA (kv S 0)<|TF hc (K:=X.K) (n:=3) rfl<|bq (kg S 2)<|bq (kg S 3)<|bq (kg S 4) dO)
   (ae (bo S 5<|dq bF)
   (ae (eV hxe hc (iw S 0 B.range<|aa<|cE S 1 (aA rfl) B.len oD<|aa<|kv S 2) (kg S 6)<|ai<|dv<|fL ri mo oo bI rfl (kv S 5)<|aa<|aP aX (aP aX (aP aX aU<|fh (kv S 2)<|kv S 6) aU)<|pR S 2 dA B.str boot_str<|aa<|fh (kv S 3)<|kv S 6)
   (ae (bo S 7<|pR S 3 (gw hc) B.list boot_list<|aa<|pR S 0 kq B.range boot_range<|aa<|cE S 1 (aA rfl) B.len oD<|aa<|kv S 2)
   (ae (cj (aL aM (bw<|cp<|kv S 1) aq<|ao _) (ai<|bo S 7<|Oh (kv S 7) (NY jC aq) rfl) av)
   (ae (eV hxe hc (b9 (kv S 7) rfl) (kg S 8) (ae (B9 (i:=9) S hc hsc (iw S 0 B.range<|aa<|cE S 1 (aA rfl) B.len oD<|aa<|kv S 2) (N:=["j","web","i"]) (W:=["j"]) (G:=[]) (fv:=[none,some 4,some 8]) Dk0 (λcl C fp s H r=>⟨(kg r 0),(da<|aL aM (bw<|aP dC (nY (df rfl) (kv r 1) (kv r 2) λ_ _=>rfl)<|aP c9 aq<|kv r 0) aq<|ao _),(kv r 0)⟩) (by rw[hsc];decide +kernel) (by rw[cW,hsc];rfl))
   (ai (cj (aL (lx hu rfl) (kv S 9) (dq bF)<|ao _) (ae (bo S 10<|aP bR (fh (kv S 1)<|aP aJ aq<|kv S 8)<|cE S 1 (aA rfl) B.len oD<|aa<|kv S 9)
   (ae (bo S 9<|aP (bV rfl) (iu (bz rfl) (kv S 9) (aS<|kv S 10) aV)<|iu (bz rfl) (kv S 9) aV<|aS<|kv S 10)
   (ae (cj (aL aM (bw<|fh (kv S 1)<|aP aJ aq<|kv S 8) aq<|ao _) (ai<|bo S 9<|Oh (kv S 9) (NY jC aq) rfl) av)
   (ae (B9 (i:=11) S hc hsc (b9 (aP (bV rfl) (kv S 9)<|dq<|aa<|kv S 8) rfl) (N:=["j","names","counts"]) (W:=["j"]) (G:=["str"]) (fv:=[none,some 2,some 3]) Dk0 (λcl C fp s H r=>⟨(kg r 0),bG,(aP aX (aP aX (aP aX aU<|nY (df rfl) (kv r 1) (kv r 0) λ_ _=>rfl) aU)<|pR r 0 dA B.str boot_str<|aa<|nY (df rfl) (kv r 2) (kv r 0) λ_ _=>rfl)⟩) (by rw[hsc];decide +kernel) (by rw[cW,hsc];rfl))
   (ae (bo S 12 (aP aJ aq (cE S 4 (yF hc rfl) B.max boot_max (aa (ju S hc hsc (b9 (kv S 11) rfl) (N:=["hat","lines"]) (W:=["hat"]) (G:=[]) (fv:=[none,some 5]) Dk0 λcl C fp s H r=>⟨(kg r 0),bG,(fL ri slot_list_index PySem.F.type_list_index (CB rfl) rfl (kv r 1)<|aa<|kv r 0)⟩)))))
   (ae (bo S 10<|aP aJ (kv S 12)<|aP bR (fh (kv S 1)<|aP aJ aq<|kv S 8)<|aP aJ (aP cG (cE S 1 (aA rfl) B.len oD<|aa<|kv S 5)<|kv S 12) aq)
   (ai (dv (fL ri slot_list_insert type_list_insert lE rfl (kv S 5) (ah (kv S 10) (aa (fL q7 Da F1 (bD rfl) rfl aU (aa (aP (bV rfl) (dq<|ah aU<|aa<|fh (kv S 2)<|kv S 8) (ju S hc hsc (b9 (kv S 9) rfl) (N:=["j","names"]) (W:=["j"]) (G:=[]) (fv:=[none,some 2]) Dk0 λcl C fp s H r=>⟨(kg r 0),bG,(nY (df rfl) (kv r 1) (kv r 0) λ_ _=>rfl)⟩))))))))))))))) av))))
   (ai<|aI<|kv S 5))))))),?_⟩
 walk_at"i";refine⟨b,_,rfl,au.of hb,rfl,?_⟩;refine⟨_,_,rfl,⟨_,_,rfl,⟨_,_,rfl,⟨rfl,?_⟩⟩⟩⟩;lia;have h1000:(1000:Nat)<=sizeLine:=by decide
 have el:(Str.ofString "hat ").length=4:=by decide +kernel
 have el1:(Str.ofString " ").length=1:=by decide +kernel
 have hatF:∀ k,k<ns.length->br (ns.getD k aE)=true/\(ns.getD k aE).length<=12/\(Str.ofString<|toString ((f.getD k 0:Nat):Int)).length<=30/\((f.getD k 0:Nat):Int).natAbs.log2<1920:=λk hk=>by
  have aY:br (ns.getD k aE)=true/\0<f.getD k 0/\f.getD k 0<10 ^ 30:=tZ P hk;refine⟨aY.1,(dj aY.1).2.2,dz (cq aY.2.1 aY.2.2).1,?_⟩;rw[Vb];exact(log2_lt (by omega)).mpr (Vf aY.2.2 Dk0)
 walk_at"h";refine⟨ad,λl hl=>?_⟩
 have sl:=ag.new hl<|.lst [];walk_at"h";refine aZ (.inl<|au.of<|sl _ _ h1) ?_;rw[b5];refine forR ns.length (Rt H b dr a1 a2 a3 l ns f) rfl (by omega) ⟨_,_,_,_,_,_,_,rfl,sl,af⟩ ?_ ?_
 ·rintro k σ H2 hk ⟨y6,y7,y8,y9,L,I,J,rfl,hS,U⟩;lia;refine⟨.inl ⟨rfl,_,au.of U⟩,?_⟩;obtain⟨f1,f2,f3,f4⟩:=hatF k hk;refine ax (au.of<|hS _ _ h1) (ay<|aC hk) ?_;refine⟨_,_,rfl,rfl,by rw[el];omega,?_⟩
  refine⟨_,_,rfl,rfl,by rw[aG,el,el1];omega,?_⟩
  refine eW (au.of<|hS _ _ h2) rfl (by rw[ak,P.lc];exact hk) ?_
  rw[bg];refine⟨_,rfl,f4,?_⟩;refine⟨_,_,rfl,rfl,by rw[aG,aG,el,el1];omega,?_⟩
  rw[oF];refine⟨l,_,_,rfl,rfl,U,by rw[b5,b5,b5,pS];exact de (by omega),?_⟩
  refine⟨_,_,_,_,_,_,_,rfl,hS.set hl _,?_⟩;rw[af,Me,eH,eH,eH];rfl
 rintro σ2 H2 ⟨y6,y7,y8,y9,L,I,J,rfl,hS2,U⟩;walk_at"i";refine aZ (.inl<|au.of<|hS2 _ _ h1) ?_;rw[b5];refine⟨ns.length,rfl,by omega,λrg hrg=>?_⟩
 have srg:=ag.new hrg<|.Iw 0 ns.length;refine⟨rg,ns.length,rfl,af,by omega,λo ho=>?_⟩
 have lo3:l≠o:=aH (srg _ _ U) ho;have so:=ag.new ho<|.lst<|((List.range ns.length).map λi=>((i:Nat):Int)).map V.int;have s2o:=srg.trans so;have ho':upd (upd H2 rg<|.Iw 0 ns.length) o (.lst<|((List.range ns.length).map λi=>((i:Nat):Int)).map V.int) o=some (.lst<|(aK<|List.range ns.length).map V.int):=af;have hl3:=s2o _ _ U;have hS3:=hS2.trans s2o;generalize upd (upd H2 rg<|.Iw 0 ns.length) o (.lst<|((List.range ns.length).map λi=>((i:Nat):Int)).map V.int)=H3 at ho' hl3 hS3 ⊢;lia;refine zx (Ru H b dr a1 a2 a3 l ns f) ?_ (λR hR=>?_)
 rotate_left
 ·lia;refine cS (hS3 _ _ hdr) hdn hnn ad ad λx0 hx0=>?_
  lia;refine bp (λc=>?_) λc=>hR _ _ ⟨o,_,_,_,_,_,_,_,rfl,hS3,hl3,ho',List.Perm.refl _,lo3⟩;refine⟨trivial,o,_,rfl,au.of ho',λo2 ho2=>?_⟩;have so2:=ag.new ho2<|.lst ((aK<|List.range ns.length).map V.int).reverse;refine hR _ _ ⟨o2,(List.range ns.length).reverse,_,_,_,_,_,_,rfl,hS3.trans so2,so2 _ _ hl3,?_,reverse_perm _,aH hl3 ho2⟩;rw[af];unfold aK;rw[<-Vn,<-Vn]
 rintro σ4 H4 ⟨o,od,y6,y8,y9,L,I,J,rfl,hS4,hl4,ho4,hod,lo⟩;have hodl:od.length=ns.length:=by rw[hod.length_eq,pS]
 walk_at"h";refine forL (O1 H b dr a1 a2 a3 l o ns f od) (au.of ho4) ⟨_,_,_,_,_,_,_,rfl,hS4,ho4,hl4,pq.start P,by rw[b5,pS];omega⟩ (λk σ H' h=>by obtain⟨M,y6,y8,y9,L,I,J,_,_,h,_⟩:=h;exact au.of h) ?_ ?_
 ·rintro k σ H5 hk ⟨M,y6,y8,y9,L,I,J,rfl,O,ho5,hl5,hM,hMl⟩;rw[ak] at hk;rw[bg];have hi:od.getD k 0<ns.length:=by
   have:od.getD k 0∈od:=by rw[b3,b4 hk];exact pP _
   exact kf.mp<|hod.mem_iff.mp this
  generalize od.getD k 0=i at hi ⊢;walk_at"i";refine aZ (.inl<|au.of<|O _ _ h1) ?_;rw[b5];refine QL ns.length (λj=>decide<|ws.getD i 0 / 2 ^ j % 2=1) (λj=>((j:Nat):Int)) rfl (by omega) ?_ ?_
  ·intro j H6 A B' hj hS6 hA hB;lia;refine eW (au.of<|hS6 _ _<|O _ _ h3) rfl (by rw[ak,P.lw];exact hi) ?_
   rw[bg];lia;have hpj:0<2 ^ j:=Nat.pow_pos ad
   have hj8:2 ^ j<=2 ^ 8:=si ad (by omega)
   refine⟨eS (by omega),⟨by omega,?_⟩,?_⟩
   ·rw[Vb];exact(log2_lt (by omega)).mpr (M2 hj8 (Vi ad ad))
   refine bp (λc=>?_) λc=>?_
   ·exact hA (by rw[<-uU];exact c) _<|ag.refl _
   ·exact hB (by rw[<-uU];exact Bool.eq_false_iff.mpr c) _<|ag.refl _
  intro sa H6 hsa0 s6 hsa;have hsa:H6 sa=some (.lst<|(aK<|kX ns.length<|ws.getD i 0).map V.int):=hsa;have hpm:(kX ns.length<|ws.getD i 0).Perm (kX ns.length<|ws.getD i 0):=List.Perm.refl _;have hS6:=O.trans s6;have ho6:=s6 _ _ ho5;have hl6:=s6 _ _ hl5;lia;refine⟨ad,λz hz=>?_⟩
  have sz:=ag.new hz<|.lst [];refine⟨_,_,.lst (au.of<|sz _ _ hsa)<|eh.ints _,.lst (au.of af) .nil,kl _,ad,?_⟩
  rw[JX];have ho7:=sz _ _ ho6;have hl7:=sz _ _ hl6;have Z:=hS6.trans sz;have u:=sz _ _ hsa;generalize upd H6 z (.lst [])=H7 at ho7 hl7 Z u ⊢
  by_cases c0:kX ns.length (ws.getD i 0)=[]
  ·rw[cc (show (aK<|kX ns.length<|ws.getD i 0).map PyData.int=[] by rw[c0];rfl)]
   lia;exact⟨M,_,_,_,_,_,_,rfl,Z,ho7,hl7,hM,by omega⟩
  rw[dy (show ¬ (aK<|kX ns.length<|ws.getD i 0).map PyData.int=[] from λz=>c0<|Vl.mp<|Vl.mp z)]
  lia;generalize hbt:kX ns.length (ws.getD i 0)=bt at c0 u ⊢;have hbl:0<bt.length:=Do.mpr c0;have hbl8:bt.length<=ns.length:=by
   rw[<-hbt];unfold kX
   have:=zO (λj=>decide<|ws.getD i 0 / 2 ^ j % 2=1)<|List.range ns.length
   rw[pS] at this;exact this
  walk_at"h";refine cS (Z _ _ hdr) hdn hnn (by omega) (by omega) λx1 hx1=>?_
  refine aZ (.inl<|au.of u) ?_;rw[b5,ak];lia;refine⟨by omega,?_⟩
  obtain⟨d,hat1,eat1⟩:∃ a:Nat,a<bt.length/\x1 % (bt.length:Int)=(a:Int):=by
   have h0:=IR x1 (show (bt.length:Int)≠0 by omega)
   have h1:=GT x1 (show (0:Int)<(bt.length:Int) by omega)
   exact⟨(x1 % (bt.length:Int)).toNat,by omega,by omega⟩
  rw[eat1];walk_at"h";refine⟨sa,_,rfl,au.of u,λc1 hc1=>?_⟩;rw[cX,<-SL];have sc1:=ag.new hc1<|.lst<|((aK bt).drop d).map V.int;refine⟨sa,_,rfl,au.of<|sc1 _ _ u,λc2 hc2=>?_⟩;rw[jc,<-Vu];have sc2:=ag.new hc2<|.lst<|((aK bt).take d).map V.int;refine tH (ns:=(aK bt).drop d) (ms:=(aK bt).take d) (au.of<|sc2 _ _ af) (au.of af) (de (by rw[mv,tz,ak];omega)) λc3 hc3=>?_
  have sc3:=ag.new hc3<|.lst<|((aK bt).drop d++(aK bt).take d).map V.int;have E:=sc1.trans<|sc2.trans sc3;have e3:(aK bt).drop d++(aK bt).take d=aK (bt.drop d++bt.take d):=by unfold aK;rw[eH,SL,Vu]
  rw[e3];have hp3:(bt.drop d++bt.take d).Perm bt:=by
   have:=List.perm_append_comm (l₁:=bt.drop d) (l₂:=bt.take d)
   rw[take_append_drop] at this;exact this
  lia;refine zx (Rv H7 b dr a1 a2 a3 l o i bt) ?_ (λR hR=>?_)
  rotate_left
  ·lia;rw[e3] at E;refine cS (E _ _<|Z _ _ hdr) hdn hnn (by omega) (by omega) λx2 hx2=>?_
   lia;refine bp (λc=>?_) λc=>hR _ _ ⟨c3,_,_,_,_,_,rfl,E,af,hp3⟩;refine⟨trivial,c3,_,rfl,au.of af,λc4 hc4=>?_⟩;have sc4:=ag.new hc4<|.lst ((aK<|bt.drop d++bt.take d).map V.int).reverse;refine hR _ _ ⟨c4,(bt.drop d++bt.take d).reverse,_,_,_,_,rfl,E.trans sc4,?_,(reverse_perm _).trans hp3⟩;rw[af];unfold aK;rw[Vn,Vn]
  rintro σ8 H8 ⟨s,e,y6,L,I,J,rfl,s8,hs8,hsm⟩;have hS8:=Z.trans s8;have hl8:=s8 _ _ hl7;have ho8:=s8 _ _ ho7;have hsml:e.length=bt.length:=hsm.length_eq;have hsmm:∀ j∈e,j<ns.length:=λj hj=>by
   have:=hsm.mem_iff.mp hj
   rw[<-hbt] at this;exact(nA.mp this).1
  walk_at"h";refine⟨ad,λp hp=>?_⟩
  have sp:=ag.new hp<|.lst [V.int (i:Int)];refine tH (ns:=aK e) (ms:=[(i:Int)]) (au.of<|sp _ _ hs8) (au.of af) (de (by rw[ak];show _+1<=100;omega)) λp2 hp2=>?_
  have e4:aK e++[(i:Int)]=aK (e++[i]):=by unfold aK;rw[eH];rfl
  rw[e4];have sp2:=ag.new hp2<|.lst<|(aK<|e++[i]).map V.int;have hhl:∀ j∈e++[i],j<ns.length:=λj hj=>by
   rcases eG.mp hj with z | z
   ·exact hsmm j z
   ·rw[dt.mp z];exact hi
  have hlenh:(e++[i]).length<=9:=by rw[ed];show _+1<=9;omega
  have Y:0<(e++[i]).length:=by rw[ed];show 0<_+1;omega
  have sp12:=sp.trans sp2;refine⟨p2,rfl,⟨_,au.of af⟩,n9 (bJ<|au.of af) (λ_=>true) (λt=>.str<|jz ns f<|.bY<|(e++[i]).getD t 0) (by rw[b5,ak];exact az (by omega)) ?_ ?_⟩
  ·intro t H9 A B' ht hS9 hA _;rw[b5,ak] at ht;rw[gD ht];have hj:=hhl _<|gE ht;generalize (e++[i]).getD t 0=j at hj hA ⊢;have s9:ag H H9:=hS8.trans<|sp12.trans hS9;lia;obtain⟨f1,f2,f3,f4⟩:=hatF j hj;refine ax (au.of<|s9 _ _ h1) (ay<|aC hj) ?_;refine⟨_,_,rfl,rfl,by rw[el];omega,?_⟩
   refine⟨_,_,rfl,rfl,by rw[aG,el,el1];omega,?_⟩
   refine eW (au.of<|s9 _ _ h2) rfl (by rw[ak,P.lc];exact hj) ?_
   rw[bg];refine⟨_,rfl,f4,?_⟩;refine⟨_,_,rfl,rfl,by rw[aG,aG,el,el1];omega,?_⟩
   rw[oF];exact hA rfl _<|ag.refl _
  intro ht H9 hht0 s9 Q;rw[bZ,b5,ak,fq λj=>V.str<|jz ns f<|.bY j] at Q;have Q:H9 ht=some (.lst<|((e++[i]).map λj=>jz ns f<|.bY j).map V.str):=by rw[Q,kb];rfl
  have s89:=sp12.trans s9;have hl9:=s89 _ _ hl8;have ho9:=s89 _ _ ho8;have hS9:=hS8.trans s89;have hs9:=s89 _ _ hs8;walk_at"i";refine⟨ht,rfl,⟨_,au.of Q⟩,n9 (bJ<|au.of Q) (λ_=>true) (λt=>.int (((M.map<|jz ns f).idxOf (jz ns f<|.bY<|(e++[i]).getD t 0):Nat):Int)) (by rw[b5,b5];exact az (by omega)) ?_ ?_⟩
  ·intro t H10 A B' v g hA _;rw[b5,b5] at v;have e5:(((e++[i]).map λj=>jz ns f<|.bY j).map V.str).getD t .bx=.str (jz ns f<|.bY<|(e++[i]).getD t 0):=by
    rw[b3,et,et,b4 v,b3,b4 v];rfl
   rw[e5];lia;refine⟨.inl ⟨rfl,_,au.of<|g _ _ hl9⟩,?_⟩;exact⟨l,_,_,rfl,rfl,au.of<|g _ _ hl9,(hM.idx<|hhl _<|gE v).1,hA rfl _<|ag.refl _⟩
  intro ix H10 hix0 s10 hix;rw[bZ,b5,b5,fq λj=>V.int (((M.map<|jz ns f).idxOf (jz ns f<|.bY j):Nat):Int)] at hix;have T:=s10 _ _ hl9;have ho10:=s10 _ _ ho9;have g:=hS9.trans s10;have hs10:=s10 _ _ hs9;refine⟨ix,(e++[i]).map λj=>(((M.map<|jz ns f).idxOf (jz ns f<|.bY j):Nat):Int),rfl,.inl (au.of (by rw[hix,kb];rfl)),by intro z;have:=Vl.mp z;rw[this] at Y;exact absurd Y ad,λm hm hmax=>?_⟩
  obtain⟨jm,hjm,rfl⟩:=j9.mp hm;have hmlt:=(hM.idx<|hhl jm hjm).2;generalize (M.map<|jz ns f).idxOf (jz ns f<|.bY jm)=mm at hmlt ⊢;walk_at"i";refine cS (g _ _ hdr) hdn hnn (by omega) (by omega) λx3 hx3=>?_
  refine aZ (.inl<|au.of T) ?_;rw[b5,b5];lia;refine⟨by omega,?_⟩
  lia;refine⟨.inl ⟨rfl,_,au.of T⟩,rfl,?_⟩;refine ax (au.of<|g _ _ h1) (ay<|aC hi) ?_;refine⟨ad,λp7 hp7=>?_⟩
  have sp7:=ag.new hp7<|.lst [V.str (Str.ofString "sees"),V.str<|ns.getD i aE];refine⟨s,rfl,⟨_,au.of<|sp7 _ _ hs10⟩,n9 (bJ<|au.of<|sp7 _ _ hs10) (λ_=>true) (λt=>.str<|ns.getD (e.getD t 0) aE) (by rw[b5,ak];exact az (by omega)) ?_ ?_⟩
  ·intro t H11 A B' v hS11 hA _;rw[b5,ak] at v;rw[gD v];lia;have hj:=hsmm _<|gE v;refine ax (au.of<|hS11 _ _<|sp7 _ _<|g _ _ h1) (ay<|aC hj) ?_;exact hA rfl _<|ag.refl _
  intro nl H11 hnl0 s11 hnl;rw[bZ,b5,ak,fq λj=>V.str<|ns.getD j aE] at hnl;have s711:=sp7.trans s11;refine⟨p7,nl,_,_,rfl,rfl,au.of<|s11 _ _ af,au.of hnl,by rw[b5];exact de (by show 2+_<=100;omega),λp8 hp8=>?_⟩
  have sp8:=ag.new hp8<|.lst<|[V.str (Str.ofString "sees"),V.str<|ns.getD i aE]++e.map λj=>V.str<|ns.getD j aE;have e8:([V.str (Str.ofString "sees"),V.str<|ns.getD i aE]++e.map λj=>V.str<|ns.getD j aE)=(gU<|jf ns f<|.sees i e).map V.str:=by
   show _=[V.str (Str.ofString "sees"),V.str<|ns.getD i aE]++(e.map λj=>ns.getD j aE).map V.str;rw[kb];rfl
  have hsne:e≠[]:=λz=>by rw[z] at hsml;exact absurd hsml (by show ¬ 0=_;omega)
  have hsp:e.Perm (kX ns.length<|ws.getD i 0):=by rw[hbt];exact hsm
  have x:=uc P hi hsp hsne;have hlw:=gW x;have hlt:=nz x;have hsum:=eK 30 (gU<|jf ns f<|.sees i e) λy hy=>(hlw.1 y hy).2.2;have h41:(gU<|jf ns f<|.sees i e).length*31<=41*31:=yx _ hlw.2.1;have h2000:(2000:Nat)<=sizeLine:=by decide
  refine⟨_,p8,gU<|jf ns f<|.sees i e,rfl,rfl,au.of (by rw[af,e8]),?_,?_,?_⟩
  ·rw[bc];show ((gU<|jf ns f<|.sees i e).map λz=>z.length+1).sum<=_
   omega
  ·rw[bc]
   have:(cM<|jf ns f<|.sees i e).length=(Str.join ⟨#[32]⟩<|gU<|jf ns f<|.sees i e).length:=rfl
   omega
  rw[bc];obtain⟨qq,hq1,hq2,eqq⟩:∃ a:Nat,mm<a/\a<=M.length/\1+(mm:Int)+x3 % ((M.length:Int) - (1+(mm:Int))+1)=(a:Int):=by
   have h0:=IR x3 (show ((M.length:Int) - (1+(mm:Int))+1)≠0 by omega)
   have h1:=GT x3 (show (0:Int)<((M.length:Int) - (1+(mm:Int))+1) by omega)
   exact⟨(1+(mm:Int)+x3 % ((M.length:Int) - (1+(mm:Int))+1)).toNat,by omega,by omega,by omega⟩
  rw[eqq];have sA:=s711.trans sp8;refine⟨l,_,qq,_,rfl,rfl,sA _ _ T,by rw[b5,b5];omega,by rw[b5,b5];exact hq2,?_⟩
  have hln:H l=none:=hl;refine⟨cZ M qq<|.sees i e,_,_,_,_,_,_,rfl,(g.trans sA).set hln _,by rw[aB lo.symm];exact sA _ _ ho10,?_,?_,?_⟩
  ·rw[af,jg,jg];rfl
  ·exact hM.ins ⟨x,by show (e.map _).length+1+1<=10;rw[b5];omega⟩
  ·unfold cZ;rw[ed,ls,tz,mv]
   omega
 rintro σ5 H5 ⟨M,y6,y8,y9,L,I,J,rfl,O,ho5,hl5,hM,hMl⟩;rw[ak] at hMl;lia;refine q l _ H5 O hl hl5 hM.lines (λh2 z=>?_) (by rw[b5];omega)
 have:=hM.bY 0 (by omega)
 rw[Vl.mp z] at this
 cases this
def SA {a b:Prop}[Decidable a][Decidable b]{x t:Prop}(hx:a->b->x)(ht:t):if a then (if b then x else t) else t:=by
 split
 ·split
  ·exact hx ‹_› ‹_›
  ·exact ht
 ·exact ht
def HU (k:Nat):(1:Int)*2 ^ ((k:Nat):Int).toNat=((2 ^ k:Nat):Int):=by
 rw[Int.one_mul,FM];exact(Int.natCast_pow 2 k).symm
variable {i:Nat}
def xc {x:Nat}(h:i<n):x&&& (2 ^ i - 1)<2 ^ n/\(x&&& (2 ^ i - 1)).testBit i=false:=by
 rw[Nat.and_two_pow_sub_one_eq_mod];have h1:=mod_lt x<|F0 i;exact⟨Vf h1 (Vi ad h),Nat.testBit_lt_two_pow h1⟩
def zy (B:Bn mg)(D:Def K mg "_law_sight" iX):Fn P w K mg base 1 "_law_sight" ["drawn","many","kind","i"] Bq:=by
 have zY:DS (aj iX) ["drawn","many","kind","i","every","half","few"] ["drawn","many","kind","i"] []:=aQ;walk_at"hH";obtain⟨a,y,b,t,i,rfl,f,g,d,h1,E,o,q⟩:=h;refine⟨_,(ae (bo S 4<|aP cG (aP cG (aP c9 aq<|kv S 1) aq)<|aP c9 aq<|kv S 3)
   (ae (bo S 5<|rz<|kv S 1)
   (ae (cj (aL aM (kv S 2) aq<|ao _) (ai<|aI<|kv S 4) av)
   (ae (cj (aL aM (kv S 2) aq<|ao _) (ae (bo S 6<|aP dN (aP dN (fh (kv S 0)<|kv S 3)<|fh (kv S 0)<|aP aJ aq<|kv S 3)<|fh (kv S 0)<|aP aJ aq<|kv S 3)
   (ai<|aI<|aP dN (aP Ab (aP c9 aq<|aP bR (aP aJ (kv S 3) aq)<|kv S 1)<|kv S 6)<|kv S 4)) av)
   (ae (cj (aL aM (kv S 2) aq<|ao _) (ai<|aI<|aP dN (fh (kv S 0)<|kv S 3)<|aP cG (aP c9 aq<|kv S 3) aq) av)
   (ae (cj (xT<|vI (aL aM (kv S 2) aq<|ao _)<|rA<|aL ie (kv S 3) (kv S 5)<|ao _) (ai<|aI<|aP cG (aP cG (aP c9 aq<|kv S 5) aq)<|aP c9 aq<|kv S 3) av)
   (ae (cj (aL aM (kv S 2) aq<|ao _) (ai<|aI<|aP dN (aP c9 aq<|aP aJ (kv S 5)<|aP bR (aP aJ (aP cG (kv S 3)<|kv S 5) aq)<|aP cG (kv S 1)<|kv S 5)<|kv S 4) av)
   (ae (cj (aL aM (kv S 2) aq<|ao _) (ai<|aI<|aP dN (aP dN (fh (kv S 0)<|kv S 3)<|fh (kv S 0)<|aP aJ aq<|kv S 3)<|kv S 4) av)
   (ai<|aI<|aP dN (aP Ab (fh (kv S 0)<|kv S 3)<|fh (kv S 0)<|aP aJ aq<|kv S 3)<|kv S 4))))))))),?_⟩
 walk_at"i";refine⟨eS (by omega),eS (by omega),?_⟩
 rw[Br o];obtain⟨m,l⟩:=zh o;have j:∀ x:Nat,Q (.int ((x&&& (2 ^ b - 1 - 2 ^ i):Nat):Int)) H:=λx=>q _ (Bs m l).1 (Bs m l).2;have s:=q _ m l;generalize 2 ^ b - 1 - 2 ^ i=ev at s j ⊢;clear m l;walk_at"h";walk_at"h";refine bp (λ_=>s) λ_=>?_;walk_at"h";refine bp (λ_=>?_) λ_=>?_
 ·walk_at"h";refine cT f g d (by omega) (by omega) λp=>?_
  refine cT f g d (by omega) (by omega) λr=>?_
  lia;refine cT f g d (by omega) (by omega) λC=>?_
  lia;rw[show ((i:Int)+1) % (b:Int)=(((i+1) % b:Nat):Int) by rw[natCast_emod];rfl,HU]
  have hm:(i+1) % b<b:=mod_lt _ h1;refine⟨by omega,eS (by omega),?_⟩
  rw[Tw,JN];exact j _
 walk_at"h";refine bp (λ_=>?_) λ_=>?_
 ·refine cT f g d (by omega) (by omega) λp=>?_
  refine⟨eS (by omega),?_⟩
  rw[show ((2 ^ i:Nat):Int) - 1=((2 ^ i - 1:Nat):Int) by have:=F0 i;omega]
  lia;exact q _ (xc o).1 (xc o).2
 walk_at"h";have u:(b:Int) / 2=((b / 2:Nat):Int):=rfl;rw[u] at *;refine SA (λ_ c=>?_) ?_
 ·have c:i<b / 2:=by omega
  refine⟨eS (by omega),eS (by omega),?_⟩
  rw[HU,Br c];have v:2 ^ (b / 2)<=2 ^ b:=si ad<|Nat.div_le_self _ _
  exact q _ (gg (zh c).1 v) (zh c).2
 walk_at"h";refine bp (λ_=>?_) λ_=>?_
 ·have e:(0:Int)<(b:Int) - ((b / 2:Nat):Int):=by omega
  have A:=IR ((i:Int) - ((b / 2:Nat):Int)+1) (show (b:Int) - ((b / 2:Nat):Int)≠0 by omega)
  have z:=GT ((i:Int) - ((b / 2:Nat):Int)+1) e;obtain⟨n,hn⟩:=j5 (show 0<=((b / 2:Nat):Int)+((i:Int) - ((b / 2:Nat):Int)+1) % ((b:Int) - ((b / 2:Nat):Int)) by omega)
  refine⟨e,?_⟩;rw[hn,HU,JN];exact⟨eS (by omega),j _⟩
 walk_at"h";refine bp (λ_=>?_) λ_=>?_
 ·refine cT f g d (by omega) (by omega) λp=>?_
  refine cT f g d (by omega) (by omega) λr=>?_
  lia;exact j _
 lia;refine cT f g d (by omega) (by omega) λp=>?_
 refine cT f g d (by omega) (by omega) λr=>?_
 lia;exact j _
def Ld (B:Bn mg)(D:Def K mg "_law_hat_count" eP)(fS:Fn P w K mg base 2 "_law_count" ["cell","k"] oE):Fn P w K mg base 3 "_law_hat_count" ["drawn","kind","i"] Hq:=by
 have zY:DS (aj eP) ["drawn","kind","i"] ["drawn","kind","i"] ["_law_count"]:=aQ;walk_at"hH";obtain⟨a,r,l,i,rfl,e,g,b,t,q⟩:=h;have d:(10:Nat) ^ 30=1000000000000000000000000000000:=by decide +kernel
 rw[d] at q;refine⟨_,(ae (cj (aL aM (kv S 1) aq<|ao _) (ai<|aI aq) av)
   (ae (cj (aL aM (kv S 1) aq<|ao _) (ai<|aI<|aP aJ aq<|bw<|fh (kv S 0)<|kv S 2) av)
   (ae (cj (aL aM (kv S 1) aq<|ao _) (ai (aI (fh (dq (tD (ns:=[2,2,3,2,4,1]) Dk0))<|bw<|fh (kv S 0)<|kv S 2))) av)
   (ai<|aI<|cK S 0 fS hr<|ah (fh (kv S 0)<|kv S 2)<|aa<|kv S 2)))),?_⟩
 cbv;refine bp (λ_=>q 2 H (ag.refl _) ad ad) λ_=>?_
 refine bp (λ_=>?_) λ_=>?_
 ·refine cT e g b (by omega) (by omega) λx=>?_
  cbv;exact q (1+x % 6) H (ag.refl _) (by omega) (by omega)
 refine bp (λ_=>?_) λ_=>?_
 ·refine⟨ad,λp m=>?_⟩
  have j:=ag.new m<|.lst [V.int 2,V.int 2,V.int 3,V.int 2,V.int 4,V.int 1];refine cT (j _ _ e) g b (by omega) (by omega) λx=>?_
  cbv;have hm:x % 6 < [2,2,3,2,4,1].length:=by show x % 6<6;omega
  have hb:∀ x∈[2,2,3,2,4,1],0<x/\x<1000000000000000000000000000000:=by decide +kernel
  refine ax (i:=((x % 6:Nat):Int)) (au.of af) (ay (show ((aK [2,2,3,2,4,1]).map V.int)[x % 6]?=some (.int (([2,2,3,2,4,1][x % 6]'hm:Nat):Int)) by unfold aK;rw[et,et,b4 hm];rfl)) ?_
  exact q _ _ j (hb _<|pP hm).1 (hb _<|pP hm).2
 ·refine cT e g b (by omega) (by omega) λx=>?_
  exact⟨_,_,rfl,λc o n f s=>q c o s n (by rw[<-d];exact f)⟩
def SD (H0:Hp)(a:Addr)(most kinds:Nat)(dr nm:Addr)(ns:List Str)(ht:Addr)(x35:Nat)(ca sg wa tu o se:Addr)(k:Nat)(σ:L2.St)(H:Hp):Prop:=∃ (ws:List Nat) (y14 y15 y16:Option V),σ=[some (.ref a),some<|.int (most:Int),some<|.int (kinds:Int),some<|.ref dr,some<|.ref nm,some<|.int (ns.length:Int),some<|.ref ht,some<|.int<|(x35:Int) % 6,some<|.ref ca,some<|.ref sg,some<|.ref wa,some<|.ref tu,some<|.ref o,some<|.ref se,y14,y15,y16]/\ag H0 H/\H se=some (.lst<|(aK ws).map V.int)/\ws.length=k/\∀ j,j<k->ws.getD j 0<2 ^ ns.length/\(ws.getD j 0).testBit j=false
def zA (B:Bn mg)(D:Def K mg "_law_house" iY)(bQ:Fn P w K mg base 1 "_law_draws" ["cell","count"] gB)(xr:Fn P w K mg base 2 "_law_names" ["cell","size"] AY)(mV:Fn P w K mg base 3 "_law_hat_count" ["drawn","kind","i"] Hq)(xt:Fn P w K mg base 1 "_law_sight" ["drawn","many","kind","i"] Bq):Fn P w K mg base 4 "_law_house" ["cells","most","kinds"] (sj K):=by
 have zY:DS (aj iY) ["cells","most","kinds","drawn","names","many","hats","kind","counts","sights","web","turned","order","seen","i","mask","some"] ["cells","most","kinds"] ["_law_draws","_law_names","len","range","max","list","sum"]:=aQ;walk_at"hH";obtain⟨a,xs,f,t,rfl,ha,hx3,m1,m8,k1,k6,q⟩:=h;obtain⟨c0,c1,c2,rfl⟩:∃ c0 c1 c2,xs=[c0,c1,c2]:=by
  match xs,hx3 with
  | [c0,c1,c2],_=>exact⟨c0,c1,c2,rfl⟩
 refine⟨_,(ae (bo S 3<|cK S 0 bQ hr<|ah (cp<|kv S 0)<|aa aq)
   (ae (bo S 4<|dq bF)
   (ae (cj (aL Af (bw<|cp<|kv S 3) aq<|ao _) (ai<|bo S 4<|cK S 1 xr hr<|ah (rz<|cp<|kv S 0)<|aa<|aP aJ aq<|aP bR (cp<|kv S 3)<|kv S 1) av)
   (ae (bo S 5<|cE S 2 (aA rfl) B.len oD<|aa<|kv S 4)
   (ae (bo S 6<|cK S 0 bQ hr<|ah (cp<|kv S 0)<|aa aq)
   (ae (bo S 7<|aP bR (cp<|kv S 3)<|kv S 2)
   (ae (B9 (i:=8) S hc hsc (iw S 3 B.range<|aa<|kv S 5) (N:=["i","hats","kind"]) (W:=["i"]) (G:=["_law_hat_count"]) (fv:=[none,some 6,some 7]) Dk0 (λcl C fp s H g=>⟨(kg g 0),bG,(cK g 0 mV hr<|ah (kv g 1)<|ah (kv g 2)<|aa<|kv g 0)⟩) (by rw[hsc];decide +kernel) (by rw[cW,hsc];rfl))
   (ae (bo S 9<|cK S 0 bQ hr<|ah (cp<|kv S 0)<|aa aq)
   (ae (bo S 7<|bw<|cp<|kv S 3)
   (ae (B9 (i:=10) S hc hsc (iw S 3 B.range<|aa<|kv S 5) (N:=["i","sights","many","kind"]) (W:=["i"]) (G:=["_law_sight"]) (fv:=[none,some 9,some 5,some 7]) Dk0 (λcl C fp s H g=>⟨(kg g 0),bG,(cK g 0 xt hr<|ah (kv g 1)<|ah (kv g 2)<|ah (kv g 3)<|aa<|kv g 0)⟩) (by rw[hsc];decide +kernel) (by rw[cW,hsc];rfl))
   (ae (bo S 11<|dq<|ah (aP bR (cp<|kv S 3)<|cE S 4 (B8 hc) B.max boot_max<|ah aq<|aa<|kv S 5)<|aa<|bw<|cp<|kv S 3)
   (ae (bo S 12<|pR S 5 (gw hc) B.list boot_list<|aa<|pR S 3 kq B.range boot_range<|aa<|kv S 5)
   (ae (bo S 12<|aP (bV rfl) (iu (bz rfl) (kv S 12) (aS<|cp<|kv S 11) aV)<|iu (bz rfl) (kv S 12) aV<|aS<|cp<|kv S 11)
   (ae (cj (aL aM (cp<|kv S 11) aq<|ao _) (ai<|bo S 12<|Oh (kv S 12) (NY jC aq) rfl) av)
   (ae (bo S 13<|dq bF)
   (ae (eV hxe hc (iw S 3 B.range<|aa<|kv S 5) (kg S 14) (ae (bo S 15<|fh (kv S 10)<|fh (kv S 12)<|kv S 14)
   (ae (B9 (i:=16) S hc hsc (iw S 3 B.range<|aa<|kv S 5) (N:=["j","mask","order"]) (W:=["j"]) (G:=[]) (fv:=[none,some 15,some 12]) Dk0 (λcl C fp s H g=>⟨(kg g 0),(da<|aL aM (bw<|aP dC (kv g 1)<|aP c9 aq<|nY (df rfl) (kv g 2) (kv g 0) λ_ _=>rfl) aq<|ao _),(kv g 0)⟩) (by rw[hsc];decide +kernel) (by rw[cW,hsc];rfl))
   (ai (dv (fL ri mo oo bI rfl (kv S 13) (aa (cE S 6 (cN hc rfl) B.sum boot_sum (aa (ju S hc hsc (b9 (kv S 16) rfl) (N:=["j"]) (W:=["j"]) (G:=[]) (fv:=[none]) Dk0 λcl C fp s H g=>⟨(kg g 0),bG,(aP c9 aq<|kv g 0)⟩))))))))))
   (ai<|aI<|dq<|ah (kv S 4)<|ah (kv S 8)<|aa<|kv S 13))))))))))))))))),?_⟩
 walk_at"i";refine ax (i:=((0:Nat):Int)) ha (ay rfl) ?_;refine⟨_,40,rfl,ad,λdr dn H1 s1 hdr0 hdr I J=>?_⟩
 walk_at"i";refine⟨ad,λe0 he0=>?_⟩
 have s2:=s1.trans<|ag.new he0<|.lst [];have p:=ag.new he0 (.lst []) _ _ hdr;have he2:upd H1 e0 (.lst []) e0=some (.lst []):=af;generalize upd H1 e0 (.lst [])=H2 at s2 p he2 ⊢;lia;refine zx (λσ' H'=>∃ (nm:Addr) (d:List Str),σ'=[some (.ref a),some<|.int (f:Int),some<|.int (t:Int),some<|.ref dr,some<|.ref nm,none,none,none,none,none,none,none,none,none,none,none,none]/\ag H2 H'/\H' nm=some (.lst<|d.map V.str)/\Kk d f) ?_ ?_
 rotate_left
 ·intro R hR;lia;refine cT p I J ad ad λx=>?_
  lia;refine bp (λ_=>?_) λ_=>hR _ _ ⟨e0,[],rfl,ag.refl _,he2,⟨zero_le _,.nil,(λ_ z=>nomatch z)⟩⟩;refine ax (i:=((0:Nat):Int)) (s2.seq ha) (ay rfl) ?_;lia;refine cT p I J ad ad λy=>?_
  lia;have hy:y % f<f:=mod_lt _ m1;refine⟨by omega,_,1+y % f,by rw[natCast_add,natCast_emod];rfl,by omega,by omega,λl d H3 s3 hl0 hl1 hne hN=>hR _ _ ⟨l,d,rfl,s3,hl1,pF hN (by omega)⟩⟩
 rintro σ3 H3 ⟨nm,d,rfl,s3,hnm,hN⟩;have hn8:=hN.fC;have s13:=s2.trans s3;have E:=s3 _ _ p;clear p he2 he0 s2 s3 hdr0 hdr s1;walk_at"i";refine aZ (.inl<|au.of hnm) ?_;rw[b5];walk_at"i";refine ax (i:=((1:Nat):Int)) (s13.seq ha) (ay rfl) ?_;refine⟨_,8,rfl,ad,λht hn H4 s4 _ hht hhl hhn=>?_⟩
 have s14:=s13.trans s4;walk_at"i";refine cT (s4 _ _ E) I J ad ad λx34=>?_
 refine⟨_,_,rfl,rfl,by omega,?_⟩
 walk_at"i";refine lcAny d.length rfl (by omega) (λc=>0<c/\c<10 ^ 30) ?_ ?_
 ·intro i H5 A hi hS hA;lia;exact⟨ht,hn,_,i,rfl,hS _ _ hht,hhl,hhn,by omega,λc H' s' h0 h1=>hA c H' s' ⟨h0,h1⟩⟩
 intro ca cs H5 hca0 s5 hca hcl hcok;have s15:=s14.trans s5;walk_at"i";refine ax (i:=((2:Nat):Int)) (s15.seq ha) (ay rfl) ?_;refine⟨_,24,rfl,ad,λsg sn H6 s6 _ hsg hsl hsn=>?_⟩
 have s16:=s15.trans s6;have s36:=(s4.trans s5).trans s6;walk_at"i";refine cT (s36 _ _ E) I J ad ad λx35=>?_
 lia;walk_at"i";refine Fz d.length rfl (by omega) (λi x=>∃ m:Nat,x=(m:Int)/\m<2 ^ d.length/\m.testBit i=false) ?_ ?_
 ·intro i H7 A hi hS hA;lia;exact⟨sg,sn,d.length,_,i,rfl,hS _ _ hsg,hsl,hsn,by omega,by omega,hi,λm h0 h1=>hA _ _ (ag.refl _) ⟨m,rfl,h0,h1⟩⟩
 intro wa row H7 hwa0 s7 hwa hrl hrow;have s17:=s16.trans s7;have s37:=s36.trans s7;walk_at"i";refine cT (s37 _ _ E) I J ad ad λx36=>?_
 have hmx:(0:Int)<(if (d.length:Int)>1 then (d.length:Int) else 1):=by split<;>omega
 refine⟨_,_,rfl,rfl,hmx,?_⟩;obtain⟨T,hr0⟩:=j5<|IR (x36:Int)<|Int.ne_of_gt hmx;refine cT (s37 _ _ E) I J ad ad λx37=>?_
 lia;rw[hr0];refine⟨ad,λtu htu0=>?_⟩
 generalize r:upd H7 tu _=H8;obtain⟨st,htu⟩:=vd htu0 r;clear r htu0;walk_at"i";refine⟨d.length,rfl,by omega,λrg hrg=>?_⟩
 generalize r:upd H8 rg _=H9;obtain⟨srg,hrg9⟩:=vd hrg r;refine⟨rg,d.length,rfl,hrg9,by omega,λo ho=>?_⟩
 clear r;generalize r:upd H9 o _=H10;obtain⟨so,M⟩:=vd ho r;clear r;have M:H10 o=some (.lst<|(aK<|List.range d.length).map V.int):=M;have s8o:=srg.trans so;have s79:=st.trans s8o;have v:=s8o _ _ htu;walk_at"i";refine ax (i:=((0:Nat):Int)) (au.of v) (ay rfl) ?_;lia;refine K2 T (au.of M) λo1 H11 t1 _ ho1=>?_;refine ax (i:=((0:Nat):Int)) (au.of<|t1 _ _ v) (ay rfl) ?_;lia;refine K3 T (au.of<|t1 _ _ M) λo2 H12 t2 _ ho2=>?_;have hol:((aK<|List.range d.length).map V.int).length=d.length:=by rw[b5,ak,pS]
 refine⟨o1,o2,_,_,rfl,rfl,au.of<|t2 _ _ ho1,au.of ho2,?_,λo3 ho3=>?_⟩
 ·rw[mv,tz,hol];exact de (by omega)
 generalize r:upd H12 o3 _=H13;obtain⟨t3,n⟩:=vd ho3 r;clear r;have n:H13 o3=some (.lst<|(aK<|(List.range d.length).drop T++(List.range d.length).take T).map V.int):=by
  rw[n];unfold aK;rw[<-SL,<-SL,<-Vu,<-Vu,<-eH,<-eH]
 have t13:=(t1.trans t2).trans t3;have s7e:=s79.trans t13;have ab:((List.range d.length).drop T++(List.range d.length).take T).Perm (List.range d.length):=by
  have:=List.perm_append_comm (l₁:=(List.range d.length).drop T) (l₂:=(List.range d.length).take T)
  rwa [take_append_drop] at this
 have Q:=t13 _ _ v;generalize (List.range d.length).drop T++(List.range d.length).take T=od0 at n ab;clear hol ho1 ho2 ho3 M v t1 t2 t3 t13 s79;lia;refine zx (λσ' H'=>∃ (o:Addr) (u:List Nat),σ'=[some (.ref a),some<|.int (f:Int),some<|.int (t:Int),some<|.ref dr,some<|.ref nm,some<|.int (d.length:Int),some<|.ref ht,some<|.int<|(x35:Int) % 6,some<|.ref ca,some<|.ref sg,some<|.ref wa,some<|.ref tu,some<|.ref o,none,none,none,none]/\ag H7 H'/\H' o=some (.lst<|(aK u).map V.int)/\u.Perm (List.range d.length)) ?_ ?_
 rotate_left
 ·intro R hR;lia;refine ax (i:=((1:Nat):Int)) (au.of Q) (ay rfl) ?_;lia;refine bp (λc=>?_) λc=>hR _ _ ⟨o3,od0,rfl,s7e,n,ab⟩;refine⟨trivial,o3,_,rfl,au.of n,λo4 ho4=>?_⟩;have so4:=ag.new ho4<|.lst ((aK od0).map V.int).reverse;refine hR _ _ ⟨o4,od0.reverse,rfl,s7e.trans so4,?_,(reverse_perm _).trans ab⟩;rw[af];unfold aK;rw[<-Vn,<-Vn]
 clear Q n ab s7e;rintro σ4 H14 ⟨o,u,rfl,s8,ho,hod⟩;have hodl:u.length=d.length:=by rw[hod.length_eq,pS]
 have hodn:u.Nodup:=hod.nodup_iff.mpr List.nodup_range;have hodi:∀ k,k<d.length->u.getD k 0<d.length:=λk hk=>kf.mp (hod.mem_iff.mp (vW (by omega)))
 walk_at"i";refine⟨ad,λse L=>?_⟩
 generalize r:upd H14 se _=H15;obtain⟨t5,hse⟩:=vd L r;clear r;have s9:=s8.trans t5;have hseN:=s8.free L;walk_at"i";refine forR d.length (SD H14 a f t dr nm d ht x35 ca sg wa tu o se) rfl (by omega) ⟨[],_,_,_,rfl,t5,hse,rfl,λ_ z=>absurd z<|SF _⟩ ?_ ?_
 ·rintro k σ H16 hk ⟨ws,y14,y15,y16,rfl,u0,O,Y,U⟩;walk_at"i";have hoA:=u0 _ _ ho;have hwA:=u0 _ _<|s8 _ _ hwa;have aY:=hodi k hk;refine eW (au.of hoA) rfl (by rw[ak];omega) ?_
  rw[bg];refine eW (au.of hwA) rfl (by omega) ?_
  obtain⟨m,hm,hm2,hmb⟩:=hrow _ aY;rw[hm];walk_at"i";refine QL d.length (λj=>m.testBit<|u.getD j 0) (λj=>((j:Nat):Int)) rfl (by omega) ?_ ?_
  ·intro j H17 A B' hj hS hA hB;lia;refine eW (au.of<|hS _ _ hoA) rfl (by rw[ak];omega) ?_
   rw[bg];have hjo:=hodi j hj;generalize u.getD j 0=oj at hA hB hjo ⊢;lia;have hpj:0<2 ^ oj:=F0 oj;have hj8:2 ^ oj<=2 ^ 8:=si ad (by omega)
   refine⟨eS (by omega),⟨by omega,?_⟩,?_⟩
   ·rw[Vb];exact(log2_lt (by omega)).mpr (M2 hj8 (Vi ad ad))
   refine bp (λc=>hA c _<|ag.refl _) (λc=>hB (by simpa using c) _<|ag.refl _)
  intro sm H17 hsm0 u1 X;have hnd:((List.range d.length).filter λj=>m.testBit<|u.getD j 0).Nodup:=List.nodup_range.sublist List.filter_sublist;have Z:∀ j∈(List.range d.length).filter (λj=>m.testBit<|u.getD j 0),j<d.length/\m.testBit (u.getD j 0)=true:=λj hj=>⟨kf.mp (tp.mp hj).1,(tp.mp hj).2⟩;have hsml:((List.range d.length).filter λj=>m.testBit<|u.getD j 0).length<=8:=by
   refine fz (zO _ _) ?_;rw[pS];omega
  have X:H17 sm=some (.lst<|(aK<|(List.range d.length).filter λj=>m.testBit<|u.getD j 0).map V.int):=X;generalize (List.range d.length).filter (λj=>m.testBit<|u.getD j 0)=l at X hnd Z hsml;lia;have aD:=u1 _ _ O;refine⟨.inl ⟨rfl,_,au.of aD⟩,?_⟩;refine Tq (λ_=>true) (λi=>((2 ^ l.getD i 0:Nat):Int)) (au.of X) (by rw[ak];exact az (by omega)) ?_ ?_
  ·intro i H18 A B' hi hS hA _;rw[ak] at hi;rw[bg]
   have:=(Z _<|vW hi).1
   lia;exact⟨eS (by omega),hA rfl _<|ag.refl _⟩
  intro ac H18 hac0 u2 hac;rw[bZ,ak] at hac;have u02:=u0.trans<|u1.trans u2;have esum:((List.range l.length).map λi=>((2 ^ l.getD i 0:Nat):Int)).sum=((mask l:Nat):Int):=by
   have:=AM l
   rwa [ak] at this
  refine nZ (au.of hac) ?_;rw[esum];refine⟨se,_,_,rfl,rfl,u2 _ _ aD,by rw[b5,ak];exact de (by omega),?_⟩
  rw[oI];refine⟨_,_,_,_,rfl,u02.set L _,af,by rw[ed,Y];rfl,λj hj=>?_⟩
  by_cases e:j<k
  ·rw[b3,u5 (by omega),<-b3]
   exact U j e
  ·obtain rfl:j=k:=by omega
   rw[b3,wh (by omega),Y,Vr]
   refine⟨AL hnd λi hi=>(Z i hi).1,?_⟩;show (mask l).testBit j=false;rw[eA hnd];exact dy λz=>by
    have:=(Z j z).2
    rw[hmb] at this;cases this
 rintro σ H16 ⟨ws,y14,y15,y16,rfl,u0,O,Y,U⟩;lia;have s1e:=s17.trans<|s8.trans u0;have s3e:=s37.trans<|s8.trans u0;have s5e:=(s6.trans s7).trans<|s8.trans u0;refine⟨ad,λb hb=>?_⟩
 generalize r:upd H16 b _=H17;obtain⟨t6,hb'⟩:=vd hb r;refine q b d cs ws _ (s1e.trans t6) ⟨nm,ca,se,hb',t6 _ _<|s3e _ _ hnm,t6 _ _<|s5e _ _ hca,t6 _ _ O⟩ ⟨pF hN m8,hcl,Y,hcok,λj hj=>(U j (by omega)).1,λj hj=>?_⟩ hn8
 have:=(U j (by omega)).2
 rw[uU] at this
 have:=of_decide_eq_false this
 omega
def Ds (B:Bn mg)(D:Def K mg "_law_made_of" gm):Fn P w K mg base 1 "_law_made_of" ["word","signs","most"] wH:=by
 have zY:DS (aj gm) ["word","signs","most","sign"] ["word","signs","most"] ["len"]:=aQ;walk_at"hH";obtain⟨z,y,m,rfl,hz,q⟩:=h;refine⟨_,(ae (eV hxe hc (AV (kv S 0) rfl) (kg S 3) (ai (cj (aL sX (kv S 3) (kv S 1) (by with_unfolding_all rfl)) (ai<|aI vF) av)))
   (ai<|aI<|EY nN nN aq (cE S 0 dB B.len oD<|aa<|kv S 0)<|kv S 2)),?_⟩
 walk_at"i";refine TY (RP H z y m) ⟨⟨_,rfl⟩,rfl,rfl⟩ ?_ ?_
 ·rintro i σ H1 d ⟨⟨f,rfl⟩,rfl,b⟩;lia;refine⟨_,_,rfl,rfl,?_⟩;rw[StrLaws.found_one];lia;have a:(cz z)[i]?=some ((cz z).getD i 0):=by rw[b3,b4 d];rfl
  by_cases c:(cz z).getD i 0∈cz y
  ·rw[cc c];lia;refine⟨⟨_,rfl⟩,rfl,?_⟩;rw[take_succ,List.all_append,b,o6,a];show ([(cz z).getD i 0].all λc=>decide<|c∈cz y)=true;rw[all_cons,cc c];rfl
  ·rw[dy c];lia
   have:r6 z y=false:=by
    refine Bool.eq_false_iff.mpr λe=>c ?_;exact h9<|ih.mp e _<|fO a
   rw[this,q5] at q;exact q
 ·rintro σ H1 ⟨⟨f,rfl⟩,rfl,b⟩;rw[SC] at b;lia;refine⟨z,rfl,jd hz,?_⟩;rw[show r6 z y=true from b,o6] at q
  refine bp (λc=>?_) λc=>?_
  ·rw[show decide (1<=z.length/\z.length<=m)=decide ((z.length:Int)<=(m:Int)) from Vt.mpr ⟨λh=>by omega,λh=>by omega⟩] at q
   exact q
  ·rw[dy (by omega)] at q
   exact q
def mF {z:Str}:(r6 z gT&&decide (1<=z.length/\z.length<=12))=br z:=by unfold br;rw[Bool.and_comm];rfl
def xf (l:List Str)(p:Str->Bool):((List.range l.length).filter λi=>p<|l.getD i aE).map (λi=>V.str<|l.getD i aE)=(l.filter p).map V.str:=by
 have e:l=(List.range l.length).map λi=>l.getD i aE:=by
  apply ext_getElem
  ·simp
  ·intro i h1 a;simp[h1]
 have:=List.filter_map (f:=λi=>l.getD i aE) (p:=p) (l:=List.range l.length)
 rw[<-e] at this;rw[this,kb];rfl
def xg:Sp:=λa H Q _=>∃ z:Str,a=[.str z]/\z.length<=800/\wF z/\∀ H',ag H H'->Q (.bl (dS (wz z)||cL (wz z))) H'
def Du (B:Bn mg)(D:Def K mg "_law_is_line" gn)(gp:Fn P w K mg base 1 "_law_made_of" ["word","signs","most"] wH):Fn P w K mg base 2 "_law_is_line" ["text"] xg:=by
 have zY:DS (aj gn) ["text","letters","words"] ["text"] ["_law_made_of","len"]:=aQ;walk_at"hH";obtain⟨z,rfl,hz,aY,q⟩:=h;refine⟨_,(ae (bo S 1 aU)
   (ae (bo S 2<|fL q7 C6 KM bK rfl (kv S 0)<|aa aU)
   (ae (cj (xT<|vI (aL aM (cp<|kv S 2) aU<|ao _)<|vI (aL aM (cE S 1 (aA rfl) B.len oD<|aa<|kv S 2) aq<|ao _)<|rA<|kn<|cK S 0 gp hr<|ah (cp<|kv S 2)<|ah (kv S 1)<|aa aq) (ai<|aI<|mH (cK S 0 gp hr<|ah (cp<|kv S 2)<|ah aU<|aa aq)<|qa<|gO nM (nY sT (cp<|kv S 2) aq λ_ _=>rfl) aU<|ao _) av)
   (ae (cj (xT<|Ik (aL nM (cp<|kv S 2) aU<|ao _)<|qb<|aL ie (cE S 1 (aA rfl) B.len oD<|aa<|kv S 2) aq<|ao _) (ai<|aI vF) av)
   (ai (aI (gO (ir hu rfl) (ju S hc hsc (b9 (iu (bz rfl) (kv S 2) (aS aq) aV) rfl) (N:=["word","letters"]) (W:=["word"]) (G:=["_law_made_of"]) (fv:=[none,some 1]) Dk0 λcl C fp s H l=>⟨(kg l 0),(da<|qc<|kn<|cK l 0 gp hr<|ah (kv l 0)<|ah (kv l 1)<|aa aq),(kv l 0)⟩) (dq bF)<|ao _))))))),?_⟩
 have hfew:(wz z).length<=z.length+1:=eZ z;have hsz:(1000002:Nat)<=sizeLine:=by decide
 have o:0<(wz z).length:=Do.mpr<|oB z 32;have b:∀ k,k<(wz z).length->((wz z).getD k aE).length<=1000000:=λk hk=>fz (jE<|getD_memS hk) (by omega)
 walk_at"i";walk_at"h";refine⟨rfl,z,_,rfl,rfl,Dk0,by omega,?_,λp Y=>?_⟩
 ·rw[bc];show (wz z).length<=_;omega
 rw[bc];generalize ep:upd H p _=H1;obtain⟨t,m1⟩:=nw Y ep;clear ep;have c:au X.K H1 p ((wz z).map V.str):=au.of m1
 try dsimp only
 lia;refine wA (λσ J=>σ=[some (.str z),some<|.str gT,some<|.ref p]/\J=H1/\dS (wz z)=false) ?_ (λR hR=>?_)
 rotate_left
 ·have d:dS (wz z)=false->R [some (.str z),some<|.str gT,some<|.ref p] H1:=λh=>hR _ _ ⟨rfl,rfl,h⟩;lia;refine ax (i:=((0:Nat):Int)) c (ay<|aC o) ?_;lia;refine bp (λv=>?_) (λv=>?_)
  rotate_left
  ·refine d ?_;unfold dS;show (_&&(decide ((wz z).getD 0 aE="hat")&&_))=false;rw[dy v,q5,KE]
  have sn:cL (wz z)=false:=by
   unfold cL;show (_&&(decide ((wz z).getD 0 aE="sees")&&_))=false;rw[v,show decide (Str.ofString "hat"=Str.ofString "sees")=false by decide +kernel,q5,KE]
  have j:dS (wz z)=(decide ((wz z).length=3)&&(br ((wz z).getD 1 aE)&&bX ((wz z).getD 2 aE))):=by
   unfold dS;show (_&&(decide ((wz z).getD 0 aE="hat")&&_))=_;rw[v,cc rfl,o6]
  refine aZ (.inl c) ?_;rw[b5];lia;refine bp (λO=>?_) (λO=>?_)
  rotate_left
  ·exact d (by rw[j,dy (by omega),q5])
  have g:(wz z).length=3:=by omega
  refine ax (i:=((1:Nat):Int)) c (ay (aC (by omega))) ?_
  refine⟨_,gT,12,rfl,b 1 (by omega),?_⟩
  rw[mF]
  cases m:br ((wz z).getD 1 aE) with
  | false=>
   lia;exact d (by rw[j,m,q5,KE])
  | true=>
   lia;refine ax (i:=((2:Nat):Int)) c (ay (aC (by omega))) ?_
   refine⟨_,FW,30,rfl,b 2 (by omega),?_⟩
   have r:bX ((wz z).getD 2 aE)=((r6 ((wz z).getD 2 aE) FW&&decide (1<=((wz z).getD 2 aE).length/\((wz z).getD 2 aE).length<=30))&&decide ((cz<|(wz z).getD 2 aE).getD 0 0≠48)):=by
    unfold bX;rw[Bool.and_comm (decide<|(cz<|(wz z).getD 2 aE).getD 0 0≠48),<-Bool.and_assoc,Bool.and_comm<|decide<|1<=((wz z).getD 2 aE).length/\((wz z).getD 2 aE).length<=30]
    rfl
   have hh:dS (wz z)=bX ((wz z).getD 2 aE):=by rw[j,m,cc g];rfl
   rw[sn,Bool.or_false,hh] at q
   cases u:(r6 ((wz z).getD 2 aE) FW&&decide (1<=((wz z).getD 2 aE).length/\((wz z).getD 2 aE).length<=30)) with
   | false=>
    lia;rw[r,u,q5] at q;exact q _ t
   | true=>
    rw[r,u,o6] at q;have Z:1<=((wz z).getD 2 aE).length:=by
     rw[ef] at u;exact(h9 u.2).1
    have h0:0<(cz<|(wz z).getD 2 aE).length:=by rw[<-aw];omega
    lia;refine ax (i:=((2:Nat):Int)) c (ay (aC (by omega))) ?_
    refine⟨_,0,(cz<|(wz z).getD 2 aE).getD 0 0,rfl,rfl,jd (b 2 (by omega)),?_,?_⟩
    ·show uZ (cz<|(wz z).getD 2 aE) ((0:Nat):Int)=_;exact gu rfl 0 h0
    lia;have E:(!decide ((⟨#[(cz<|(wz z).getD 2 aE).getD 0 0]⟩:Str)=Str.ofString "0"))=decide ((cz<|(wz z).getD 2 aE).getD 0 0≠48):=by
     rw[show Str.ofString "0"=⟨#[48]⟩ by decide +kernel,<-decide_not]
     exact Vt.mpr (not_congr ⟨λe=>by simpa using Re cz e,λe=>by rw[e]⟩)
    rw[E];exact q _ t
 rintro σ J ⟨rfl,rfl,hf⟩;rw[hf,Bool.false_or] at q;walk_at"h";refine ax (i:=((0:Nat):Int)) c (ay<|aC o) ?_;lia;refine bp (λT=>?_) λT=>?_
 ·rw[show cL (wz z)=false by
   unfold cL;show (_&&(decide ((wz z).getD 0 aE="sees")&&_))=false;rw[dy (show ¬ ((wz z).getD 0 aE="sees") by simpa using T),q5,KE]] at q
  exact q _ t
 have L:(wz z).getD 0 aE="sees":=by simpa using T
 refine aZ (.inl c) ?_;rw[b5];lia;have n:cL (wz z)=(decide (3<=(wz z).length)&&((wz z).drop 1).all br):=by
  unfold cL;show (_&&(decide ((wz z).getD 0 aE="sees")&&_))=_;rw[cc L,o6]
 refine bp (λO=>?_) λO=>?_
 ·rw[n,dy (by omega),q5] at q
  exact q _ t
 have g:3<=(wz z).length:=by omega
 rw[n,cc g,o6] at q;have M:((wz z).drop 1).length=(wz z).length - 1:=mv;lia;refine o7 1 c λa H2 s2 _ y=>?_;rw[<-SL] at y;refine⟨a,rfl,⟨_,au.of y⟩,n9 (bJ<|au.of y) (λi=>!br (((wz z).drop 1).getD i aE)) (λi=>.str<|((wz z).drop 1).getD i aE) (by rw[b5,M];exact az (by omega)) ?_ ?_⟩
 ·intro i J' A B' U hS hA hB;rw[b5] at U;rw[show (((wz z).drop 1).map V.str).getD i .bx=.str (((wz z).drop 1).getD i aE) by rw[b3,aC U];rfl]
  lia;refine⟨_,gT,12,rfl,fz (jE<|FS<|getD_memS U) (by omega),?_⟩
  rw[mF]
  cases hn:br (((wz z).drop 1).getD i aE) with
  | true=>lia;exact hB (by rw[hn];rfl) _<|ag.refl _
  | false=>lia;exact hA (by rw[hn];rfl) _<|ag.refl _
 intro acc H3 I s3 f;rw[b5] at f;rw[xf ((wz z).drop 1) λx=>!br x] at f;lia;refine⟨ad,λnl Q=>?_⟩
 generalize e4:upd H3 nl _=H4;obtain⟨s4,m4⟩:=nw Q e4;clear e4;refine⟨_,_,.lst (au.of<|s4 _ _ f)<|dE _,.lst (au.of m4) .nil,fQ λx hx=>aY.part<|FS (tp.mp hx).1,ad,?_⟩
 rw[wG];have e:(((wz z).drop 1).filter λx=>!br x).isEmpty=((wz z).drop 1).all br:=by
  rw[L0,List.isEmpty_iff,List.filter_eq_nil_iff,ih];exact⟨λh x hx=>by simpa using h x hx,λh x hx=>by simpa using h x hx⟩
 rw[e];exact q _<|t.trans<|s2.trans<|s3.trans s4
structure MJ (H:Hp)(l:Addr)(L:List Str):Prop where
 at_:H l=some (.lst<|L.map V.str)
 fC:L.length<=100
 ok:∀ x∈L,x.length<=800/\wF x
def BC:Sp:=λa H Q _=>∃ (l:Addr) (L:List Str),a=[.ref l]/\MJ H l L/\∀ u H',ag H H'->H' u=some (.lst<|GV<|mO L)->Q (.ref u) H'
def MK (H0:Hp)(l nm sr:Addr)(L:List Str)(k:Nat)(σ:L2.St)(H:Hp):Prop:=∃ (s:List Str × List Str) (y3 y4:Option V),σ=[some (.ref l),some<|.ref nm,some<|.ref sr,y3,y4]/\ag H0 H/\H nm=some (.lst<|s.1.map V.str)/\H sr=some (.lst<|s.2.map V.str)/\mN ([],[]) (L.take k)=some s/\s.1.length<=8/\s.2.length<=k
variable {a:List Str}{p:Addr}
def HV {H:Hp}{Q:VK}{k:Str}(h:au K H p (a.map V.str)∨aN K H p (a.map V.str))(q:Q (.bl<|decide<|k∈a) H):Lu K false (.str k) (.ref p) H Q:=jF h (by rw[if_neg ad];exact q)
def Pa {H:Hp}{Q:VK}{k:Str}(h:au K H p (a.map V.str)∨aN K H p (a.map V.str))(q:Q (.bl<|!decide (k∈a)) H):Lu K true (.str k) (.ref p) H Q:=jF h (by rw[if_pos rfl];exact q)
def HW (B:Bn mg)(D:Def K mg "_law_first" iZ)(qD:Fn P w K mg base 2 "_law_is_line" ["text"] xg):Fn P w K mg base 3 "_law_first" ["lines"] BC:=by
 have zY:DS (aj iZ) ["lines","names","seers","k","words"] ["lines"] ["range","len","_law_is_line","set"]:=aQ;walk_at"hH";obtain⟨l,L,rfl,hL,q⟩:=h;refine⟨_,(ae (bo S 1<|dq bF)
   (ae (bo S 2<|dq bF)
   (ae (eV hxe hc (iw S 0 B.range<|aa<|cE S 1 (aA rfl) B.len oD<|aa<|kv S 0) (kg S 3) (ae (bo S 4<|fL q7 C6 KM bK rfl (fh (kv S 0)<|kv S 3)<|aa aU)
   (ae (cj (qc<|kn<|cK S 2 qD hr<|aa<|fh (kv S 0)<|kv S 3) (ai<|aI<|dq<|ah aq<|aa<|kv S 3) av)
   (ai (cj (aL aM (cp<|kv S 4) aU<|ao _) (ae (cj (aL (lu rfl) (cp<|kv S 4) (kv S 1) (by with_unfolding_all rfl)) (ai<|aI<|dq<|ah aq<|aa<|kv S 3) av)
   (ae (cj (aL aM (cE S 1 (aA rfl) B.len oD<|aa<|kv S 1) aq<|ao _) (ai<|aI<|dq<|ah aq<|aa<|kv S 3) av)
   (ai<|dv<|fL ri mo oo bI rfl (kv S 1)<|aa<|cp<|kv S 4))) (ae (cj (xT (Ik (aL ie (cE S 1 oA B.len oD<|aa<|pR S 3 (kx hc rfl) B.set boot_set<|aa<|iu (bz rfl) (kv S 4) (aS aq) aV) (aP cG (cE S 1 (aA rfl) B.len oD<|aa<|kv S 4) aq)<|ao _) (qb (aL (lu rfl) (cp<|kv S 4) (kv S 2) (by with_unfolding_all rfl))))) (ai<|aI<|dq<|ah aq<|aa<|kv S 3) av)
   (ae (cj (aL (lx hu rfl) (ju S hc hsc (b9 (iu (bz rfl) (kv S 4) (aS aq) aV) rfl) (N:=["word","names"]) (W:=["word"]) (G:=[]) (fv:=[none,some 1]) Dk0 (λcl C fp s H S2=>⟨(kg S2 0),(da (aL (eY rfl) (kv S2 0) (kv S2 1) (by with_unfolding_all rfl))),(kv S2 0)⟩)) (dq bF)<|ao _) (ai<|aI<|dq<|ah aq<|aa<|kv S 3) av)
   (ai<|dv<|fL ri mo oo bI rfl (kv S 2)<|aa<|cp<|kv S 4))))))))
   (ai<|aI<|dq bF)))),?_⟩
 have hsz:(1000002:Nat)<=sizeLine:=by decide
 have h100:=hL.fC;walk_at"i";refine⟨ad,λnm hnm0=>?_⟩
 generalize e1:upd H nm _=H1;obtain⟨s1,m1⟩:=nw hnm0 e1;clear e1;walk_at"h";refine⟨ad,λsr I=>?_⟩
 generalize e2:upd H1 sr _=H2;obtain⟨s2,m2⟩:=nw I e2;clear e2;have ns:nm≠sr:=aH m1 I;have hsn:H sr=none:=s1.free I;have s02:=s1.trans s2;walk_at"h";refine aZ (.inl<|au.of<|s02 _ _ hL.at_) ?_;rw[b5];refine forR L.length (MK H l nm sr L) rfl (by omega) ⟨([],[]),_,_,rfl,s02,s2 _ _ m1,m2,rfl,ad,ad⟩ ?_ ?_
 ·rintro k σ J hk ⟨s,y3,y4,rfl,hS,g,M,d,h8,hsk⟩;have T:L[k]?=some (L.getD k aE):=by rw[b3,b4 hk];rfl
  have t:=hL.ok _<|getD_memS hk;have hlJ:=hS _ _ hL.at_;have r:∀ e,dg s (L.getD k aE)=.inl e->∀ u v,ag H v->v u=some (.lst [.int (e:Int),.int (k:Int)])->Q (.ref u) v:=λe he u v sJ m=>q u v sJ (by have:=o8 (j:=0) d T he;rw[Nat.zero_add] at this;show v u=some (.lst<|GV<|fu 0 ([],[]) L);rw[this];exact m)
  have next:∀ s' v y3 y4,dg s (L.getD k aE)=.inr s'->ag H v->v nm=some (.lst<|s'.1.map V.str)->v sr=some (.lst<|s'.2.map V.str)->s'.1.length<=8->s'.2.length<=k+1->MK H l nm sr L (k+1) [some (.ref l),some<|.ref nm,some<|.ref sr,y3,y4] v:=λs' v y3 y4 he sJ h1 h2 h3 h4=>⟨s',y3,y4,rfl,sJ,h1,h2,kJ d T he,h3,h4⟩;generalize L.getD k aE=x at T t r next;have hxi:(L.map V.str)[k]?=some (.str x):=by rw[et,T];rfl
  have hfew:(wz x).length<=x.length+1:=eZ x;have hne:0<(wz x).length:=Do.mpr<|oB x 32;walk_at"i";refine ax (au.of hlJ) (ay hxi) ?_;refine⟨rfl,x,_,rfl,rfl,Dk0,by omega,?_,λp hp0=>?_⟩
  ·rw[bc];show (wz x).length<=_;omega
  rw[bc];generalize ep:upd J p _=J1;obtain⟨t1,m1'⟩:=nw hp0 ep;clear ep;have hw1:au X.K J1 p ((wz x).map V.str):=au.of m1'
  try dsimp only
  walk_at"h";refine ax (au.of<|t1 _ _ hlJ) (ay hxi) ?_;refine⟨x,rfl,t.1,t.2,λJ2 t2=>?_⟩;have o:=t1.trans t2;have Z:=hS.trans o;have c:au X.K J2 p ((wz x).map V.str):=t2.seq hw1;lia
  cases hb:(dS (wz x)||cL (wz x)) with
  | false=>
   rw[Bool.or_eq_false_iff] at hb;lia;refine⟨ad,λu a=>?_⟩
   exact r 0 (lX<|Bi hb.1 hb.2) u _ (Z.trans<|ag.new a _) af
  | true=>
   lia;refine ax (i:=((0:Nat):Int)) c (ay<|aC hne) ?_;lia
   cases hh:dS (wz x) with
   | true=>
    have U:=hh;unfold dS at U;rw[ef,ef] at U;have hl3:(wz x).length=3:=h9 U.1;have h0:(wz x).getD 0 aE=Str.ofString "hat":=h9 U.2.1;have f:=sy (s:=s) hh;rw[if_pos h0];walk_at"h";refine ax (i:=((1:Nat):Int)) c (ay (aC (by omega))) ?_
    refine HV (.inl<|au.of<|o _ _ g) ?_;lia;refine bp (λc1=>?_) λc1=>?_
    ·refine⟨ad,λu a=>?_⟩
     exact r 1 (by rw[f,if_pos c1]) u _ (Z.trans<|ag.new a _) af
    walk_at"h";refine aZ (.inl<|au.of<|o _ _ g) ?_;rw[b5];lia;refine bp (λc2=>?_) λc2=>?_
    ·refine⟨ad,λu a=>?_⟩
     exact r 3 (by rw[f,if_neg c1,if_pos (by omega)]) u _ (Z.trans<|ag.new a _) af
    lia;refine⟨.inl ⟨rfl,_,au.of<|o _ _ g⟩,?_⟩;refine ax (i:=((1:Nat):Int)) c (ay (aC (by omega))) ?_
    refine⟨nm,_,_,rfl,rfl,o _ _ g,by rw[b5];exact de (by omega),?_⟩
    refine next (s.1++[(wz x).getD 1 aE],s.2) _ _ _ (by rw[f,if_neg c1,if_neg (by omega)]) (Z.set hnm0 _) (by rw[af,eH];rfl) (by rw[aB ns.symm];exact o _ _ M) (by rw[ed];show _+1<=8;omega)<|Nat.le_succ_of_le hsk
   | false=>
    have hs:cL (wz x)=true:=by rw[hh,Bool.false_or] at hb;exact hb
    have R:=hs;unfold cL at R;rw[ef,ef] at R;have hl3:3<=(wz x).length:=h9 R.1;have h0:(wz x).getD 0 aE=Str.ofString "sees":=h9 R.2.1;have hdl:((wz x).drop 1).length=(wz x).length - 1:=mv;rw[if_neg (by rw[h0];decide +kernel)]
    walk_at"h";refine o7 1 c λa5 J5 t5 _ m5=>?_;rw[<-SL] at m5;refine⟨a5,(wz x).drop 1,rfl,au.of m5,by omega,λP w b hb0=>?_⟩
    generalize e6:upd J5 b _=J6;obtain⟨t6,m6⟩:=nw hb0 e6;clear e6;have E:=t5.trans t6;have t16:=o.trans E;refine⟨b,_,P,w,rfl,m6,?_⟩;refine aZ (.inl<|E.seq c) ?_;rw[b5];lia;have hcn:=AW<|(wz x).drop 1;have hS6:=hS.trans t16;refine bp (λc1=>?_) λc1=>?_
    ·refine⟨ad,λu a=>?_⟩
     exact r 1 (lX (jK hh hs λn=>by have:=hcn.2.mpr n;omega)) u _ (hS6.trans<|ag.new a _) af
    have hnd:((wz x).drop 1).Nodup:=hcn.2.mp (by omega)
    have f:=pA (s:=s) hh hs hnd;refine ax (i:=((1:Nat):Int)) (E.seq c) (ay (aC (by omega))) ?_
    refine HV (.inl<|au.of<|t16 _ _ M) ?_;lia;refine bp (λc2=>?_) λc2=>?_
    ·refine⟨ad,λu a=>?_⟩
     exact r 1 (by rw[f,if_pos c2]) u _ (hS6.trans<|ag.new a _) af
    walk_at"h";refine o7 1 (E.seq c) λa7 J7 t7 _ m7=>?_;rw[<-SL] at m7;have t17:=t16.trans t7;refine⟨a7,rfl,⟨_,au.of m7⟩,n9 (bJ<|au.of m7) (λi=>!decide (((wz x).drop 1).getD i aE∈s.1)) (λi=>.str<|((wz x).drop 1).getD i aE) (by rw[b5,hdl];exact az (by omega)) ?_ ?_⟩
    ·intro i v A B' hi hS' hA hB;rw[b5] at hi;rw[show (((wz x).drop 1).map V.str).getD i .bx=.str (((wz x).drop 1).getD i aE) by rw[b3,aC hi];rfl]
     lia;refine Pa (.inl<|au.of<|hS' _ _<|t17 _ _ g) ?_;lia
     by_cases c3:((wz x).drop 1).getD i aE∈s.1
     ·rw[cc c3];lia;exact hB (by rw[cc c3];rfl) _<|ag.refl _
     ·rw[dy c3];lia;exact hA (by rw[dy c3];rfl) _<|ag.refl _
    intro acc J8 hacc0 t8 O;rw[b5] at O;rw[xf ((wz x).drop 1) λy=>!decide (y∈s.1)] at O;lia;refine⟨ad,λnl hnl=>?_⟩
    generalize e9:upd J8 nl _=J9;obtain⟨t9,m9⟩:=nw hnl e9;clear e9;refine⟨_,_,.lst (au.of<|t9 _ _ O)<|dE _,.lst (au.of m9) .nil,fQ λy hy=>t.2.part<|FS (tp.mp hy).1,ad,?_⟩
    rw[wG];have Y:=t17.trans<|t8.trans t9;have hS9:=hS.trans Y
    cases he:(((wz x).drop 1).filter λy=>!decide (y∈s.1)).isEmpty with
    | false=>
     lia;refine⟨ad,λu a=>?_⟩
     refine r 2 (by
      rw[f,if_neg c2,if_pos]
      apply vr
      intro hno;rw[List.filter_eq_nil_iff.mpr λy hy=>by
       have:y∈s.1:=vr λz=>hno ⟨y,hy,z⟩
       rw[cc this];decide] at he
      cases he) u _ (hS9.trans<|ag.new a _) af
    | true=>
     have dI:¬ ∃ y∈(wz x).drop 1,y∉s.1:=by
      rintro⟨y,hy,hy2⟩
      have:=List.filter_eq_nil_iff.mp (List.isEmpty_iff.mp he) y hy
      rw[dy hy2] at this;exact this rfl
     lia;refine⟨.inl ⟨rfl,_,au.of<|Y _ _ M⟩,?_⟩;refine ax (i:=((1:Nat):Int)) ((E.trans<|t7.trans<|t8.trans t9).seq c) (ay (aC (by omega))) ?_
     refine⟨sr,_,_,rfl,rfl,Y _ _ M,by rw[b5];exact gP (by omega),?_⟩
     exact next (s.1,s.2++[(wz x).getD 1 aE]) _ _ _ (by rw[f,if_neg c2,if_neg dI]) (hS9.set hsn _) (by rw[aB ns];exact Y _ _ g) (by rw[af,eH];rfl) h8 (by rw[ed];show _+1<=_;omega)
 ·rintro σ J ⟨s,y3,y4,rfl,hS,g,M,d,h8,hsk⟩;rw[SC] at d;lia;refine⟨ad,λu a=>?_⟩
  exact q u _ (hS.trans<|ag.new a _) (by show _=some (HO.lst<|GV<|fu 0 ([],[]) L);rw[jL d];exact af)
def Le (r:List Str)(lo hi:Option Int):List Str:=(r.drop<|HT.dM r.length 0 lo).take<|HT.dM r.length r.length hi - HT.dM r.length 0 lo
variable {lo hi:Option Int}
def SE {r:List Str} :jo (r.map V.str) lo hi=(Le r lo hi).map V.str:=by
 unfold jo Le;rw[b5,Vu,SL]
variable {H:Hp}{Q:VK}{a:Addr}{us:List Str}
def pG (h:au K H a (us.map V.str))(q:∀ p H' (vs:List Str),ag H H'->H' p=some (.lst<|vs.map V.str)->(∀ x∈vs,x∈us)->vs.length<=us.length->Q (.ref p) H'):vt K (.ref a) lo hi H Q:=
 ⟨a,_,rfl,h,λp b=>q p _ (Le us lo hi) (ag.new b _) (by rw[SE];exact af) (λx hx=>FS<|UW hx) (by unfold Le;rw[tz,mv];omega)⟩
variable {b:Addr}{ws:List Str}
def jn (h:au K H a (us.map V.str))(h':au K H b (ws.map V.str))(hz:us.length+ws.length<=1000)(q:∀ p H',ag H H'->H' p=some (.lst<|(us++ws).map V.str)->Q (.ref p) H'):Aq K (.ref a) (.ref b) H Q:=
 ug h h' (by rw[b5,b5];exact gP hz) λp H' s _ m=>q p H' s (by rw[m,eH])
def gJ (h:au K H a (us.map V.str))(hb:∀ x∈us,fW n x)(hl:us.length<=m)(hn:m*(n+1)<=400)(q:∀ z,fW 400 z->Q (.str z) H):rJoin K (.str<|Str.ofString " ") [.ref a] H Q:=by
 have hj:=fW.glue hb hl hn;have d:=eK n us λx hx=>(hb x hx).1;have c:us.length*(n+1)<=m*(n+1):=yx _ hl;have b:(1000:Nat)<=sizeLine:=by decide
 refine⟨_,a,us,rfl,rfl,h,?_,?_,?_⟩
 ·rw[show (Str.ofString " ").length=1 by decide +kernel];omega
 ·rw[bc];have:=hj.1;omega
 ·rw[bc];exact q _ hj
def ML:Sp:=λa H Q _=>∃ (dr ll nm:Addr) (dn:List Int) (L ns:List Str),a=[.ref dr,.ref ll,.ref nm]/\Dn H dr dn 14/\H ll=some (.lst<|L.map V.str)/\(∀ x∈L,fW 310 x/\∀ w∈wz x,w.length<=30)/\H nm=some (.lst<|ns.map V.str)/\ns.length<=8/\(∀ x∈ns,br x=true)/\(2<=ns.length->L≠[])/\∀ z H',fW 400 z->ag H H'->Q (.str z) H'
def Ua:List Str:=["","hat","sees","hat a","sees a","hat a 0","hat a 01","hat  a 1","sees a b ","Hat a 1"]
def Pb:∀ x∈Ua,fW 400 x:=by
 have h:∀ x∈Ua,S1 400 x=true:=by decide +kernel
 exact λx hx=>jM<|h x hx
def Ub:List Str:=["","a"," ","1","0","_","A"," a"]
def Pc:∀ x∈Ub,fW 2 x:=by
 have h:∀ x∈Ub,S1 2 x=true:=by decide +kernel
 exact λx hx=>jM<|h x hx
def xh:fW 12 (Str.ofString "sees"):=(jM (n:=4) Dk0).mono ad
def Pd:fW 1 (Str.ofString " "):=jM Dk0
def Lf {ns:List Str}(h:0<ns.length):uZ (ns.map V.str) (-1)=some (.str<|ns.getD (ns.length - 1) aE):=by
 unfold uZ DJ;rw[if_neg (by omega),b5,if_pos (by omega),show (-1+(ns.length:Int)).toNat=ns.length - 1 by omega]
 exact aC (by omega)
def Pe (B:Bn mg)(D:Def K mg "_law_bad_line" fG)(fS:Fn P w K mg base 2 "_law_count" ["cell","k"] oE)(eI:Fn P w K mg base 1 "_law_fresh" ["number","size"] tW):Fn P w K mg base 3 "_law_bad_line" ["drawn","lines","names"] ML:=by
 have zY:DS (aj fG) ["drawn","lines","names","some","kind","line","at","new","fresh","words","many"] ["drawn","lines","names"] ["len","str","_law_count","_law_fresh"]:=aQ;walk_at"hH";obtain⟨dr,ll,nm,dn,L,ns,rfl,hdn,hll,hLo,hnm,h8,hno,hLne,q⟩:=h;refine⟨_,(ae (bo S 3 (dq (tE (ns:=["","hat","sees","hat a","sees a","hat a 0","hat a 01","hat  a 1","sees a b ","Hat a 1"]) Dk0)))
   (ae (bo S 4<|bw<|cp<|kv S 0)
   (ae (cj (xT<|Ik (aL aM (kv S 4) aq<|ao _)<|qb<|aL ie (cE S 0 (aA rfl) B.len oD<|aa<|kv S 2) aq<|ao _) (ai<|aI<|fh (kv S 3)<|bw<|cp<|kv S 0) av)
   (ae (bo S 5<|fh (kv S 1)<|aP bR (cp<|kv S 0)<|cE S 0 (aA rfl) B.len oD<|aa<|kv S 1)
   (ae (cj (aL aM (kv S 4) aq<|ao _) (ae (bo S 6<|aP bR (cp<|kv S 0)<|aP aJ (cE S 0 dB B.len oD<|aa<|kv S 5) aq)
   (ae (bo S 7 (fh (dq (tE (ns:=["","a"," ","1","0","_","A"," a"]) Dk0))<|bw<|cp<|kv S 0))
   (ai<|aI<|aP aX (aP aX (iu fV (kv S 5) aV<|aS<|kv S 6)<|kv S 7)<|iu fV (kv S 5) (aS<|aP aJ (kv S 6)<|bw<|cp<|kv S 0) aV))) av)
   (ae (cj (xT<|vI (aL aM (kv S 4) aq<|ao _)<|vI (aL aM (iu fV (kv S 5) aV<|aS aq) aU<|ao _)<|rA<|aL aM (bw<|cp<|kv S 0) aq<|ao _) (ai<|aI<|fL q7 Da F1 (bD rfl) rfl aU<|aa<|aP (bV rfl) (iu (bz rfl) (fL q7 C6 KM bK rfl (kv S 5)<|aa aU) aV<|aS aq)<|dq<|aa<|pR S 1 dA B.str boot_str<|aa<|cK S 2 fS hr<|ah (cp<|kv S 0)<|aa aq) av)
   (ae (cj (aL aM (kv S 4) aq<|ao _) (ai<|aI<|kv S 5) av)
   (ae (cj (aL aM (kv S 4) aq<|ao _) (ae (bo S 6<|aP bR (cp<|kv S 0)<|cE S 0 (aA rfl) B.len oD<|aa<|kv S 2)
   (ai<|aI<|fL q7 Da F1 (bD rfl) rfl aU<|aa<|aP (bV rfl) (dq<|aa aU)<|iu (bz rfl) (aP (bV rfl) (iu (bz rfl) (kv S 2) (aS<|kv S 6) aV)<|iu (bz rfl) (kv S 2) aV<|aS<|kv S 6) aV<|aS<|aP aJ aq<|bw<|cp<|kv S 0)) av)
   (ae (cj (aL aM (kv S 4) aq<|ao _) (ai<|aI<|fL q7 Da F1 (bD rfl) rfl aU<|aa<|dq<|ah aU<|ah (cp<|kv S 2)<|ah (fh (kv S 2)<|NY jC aq)<|aa<|fh (kv S 2)<|aP bR (cp<|kv S 0)<|cE S 0 (aA rfl) B.len oD<|aa<|kv S 2) av)
   (ae (bo S 8<|cK S 3 eI hr<|ah (cp<|kv S 0)<|aa<|aP aJ aq<|bw<|cp<|kv S 0)
   (ae (cj (aL aM (kv S 4) aq<|ao _) (ae (bo S 9<|dq<|ah aU<|ah (fh (kv S 2)<|aP bR (cp<|kv S 0)<|cE S 0 (aA rfl) B.len oD<|aa<|kv S 2)<|ah (kv S 8)<|ah (kv S 8)<|aa<|fh (kv S 2)<|aP bR (cp<|kv S 0)<|cE S 0 (aA rfl) B.len oD<|aa<|kv S 2)
   (ai<|aI<|fL q7 Da F1 (bD rfl) rfl aU<|aa<|aP (bV rfl) (iu (bz rfl) (kv S 9) aV<|aS aq)<|iu (bz rfl) (kv S 9) (aS<|aP aJ aq<|bw<|cp<|kv S 0)<|aS<|aP aJ aq<|bw<|cp<|kv S 0)) av)
   (ae (cj (aL aM (kv S 4) aq<|ao _) (ai<|aI<|fL q7 Da F1 (bD rfl) rfl aU<|aa<|aP (bV rfl) (dq<|ah aU<|aa<|kv S 8)<|iu (bz rfl) (kv S 2) aV<|aS<|aP aJ aq<|bw<|cp<|kv S 0) av)
   (ae (cj (aL aM (kv S 4) aq<|ao _) (ae (B9 (i:=10) S hc hsc (AV aU rfl) (N:=["sign"]) (W:=["sign"]) (G:=[]) (fv:=[none]) Dk0 (λcl C fp s H S2=>⟨(kg S2 0),bG,(aP aX (kv S2 0) aU)⟩) (by rw[hsc];decide +kernel) (by rw[cW,hsc];rfl))
   (ai<|aI<|fL q7 Da F1 (bD rfl) rfl aU<|aa<|aP (bV rfl) (dq<|ah aU<|aa<|fh (kv S 2)<|aP bR (cp<|kv S 0)<|cE S 0 (aA rfl) B.len oD<|aa<|kv S 2)<|iu (bz rfl) (kv S 10) (aS<|bw<|cp<|kv S 0) aV)) av)
   (ai<|aI<|aP aX (aP aX (aP aX aU<|cK S 3 eI hr<|ah (cp<|kv S 0)<|aa<|aP aJ aq<|bw<|cp<|kv S 0) aU)<|pR S 1 dA B.str boot_str<|aa<|cK S 2 fS hr<|ah (cp<|kv S 0)<|aa aq)))))))))))))),?_⟩
 have h1000:(1000:Nat)<=sizeLine:=by decide
 have l:∀ x∈ns,fW 12 x:=λx hx=>fW.name<|hno x hx;walk_at"i";refine⟨ad,λsm hsm=>?_⟩
 generalize e1:upd H sm _=H1;obtain⟨s1,m1⟩:=nw hsm e1;clear e1;have m1:H1 sm=some (.lst<|Ua.map V.str):=m1;have e:=hdn.mono s1;have hll1:=s1 _ _ hll;have a:=s1 _ _ hnm;have g:∀ z J,fW 400 z->ag H1 J->Q (.str z) J:=λz J hz sJ=>q z J hz<|s1.trans sJ;walk_at"h";refine bC e ad ad λx0 hx0=>?_
 walk_at"i";have Z:lp X.K (V.ref dr) (V.int 1) H1 λx J=>rT (λi=>V.int<|i % 10) x J λy J2=>lp X.K (V.ref sm) y J2 Q:=by
  refine bC e ad ad λx1 hx1=>?_
  lia;exact kH (au.of m1) (by omega) (by show _<(10:Int);omega) λw hw=>g w _ (Pb w hw)<|ag.refl _
 refine bp (λc=>Z) λc0=>?_;refine aZ (.inl<|au.of a) ?_;rw[b5];lia;refine bp (λc=>Z) λc2=>?_;clear Z;have hn2:2<=ns.length:=by omega
 have hLp:0<L.length:=Do.mpr<|hLne hn2;walk_at"h";refine bC e ad ad λx2 hx2=>?_
 refine aZ (.inl<|au.of hll1) ?_;rw[b5];lia;refine⟨by omega,?_⟩
 refine kH (au.of hll1) (IR _ (by omega)) (GT _ (by omega)) λt hln0=>?_
 have aD:=(hLo t hln0).1;have hlw:=(hLo t hln0).2;have hlnl:=aD.1;lia;have d:∀ {J:Hp} {x:Int} {Q':VK},ag H1 J->(∀ y∈ns,Q' (.str y) J)->lp X.K (.ref nm) (.int<|x % (ns.length:Int)) J Q':=λsJ h=>kH (au.of<|sJ _ _ a) (IR _ (by omega)) (GT _ (by omega)) h
 walk_at"h";refine bp (λc1=>?_) λc1=>?_
 ·walk_at"h";refine bC e ad ad λx3 hx3=>?_
  refine⟨t,rfl,by omega,?_⟩
  lia;refine⟨by omega,?_⟩
  obtain⟨M,ha⟩:=j5 (show 0<=x3 % ((t.length:Int)+1) from IR _ (by omega))
  rw[ha];walk_at"h";refine⟨ad,λp hp=>?_⟩
  generalize u:upd H1 p _=E;obtain⟨b,f⟩:=nw hp u;clear u;have f:E p=some (.lst<|Ub.map V.str):=f;refine bC (e.mono b) ad ad λx4 hx4=>?_
  lia;refine kH (au.of f) (by omega) (by show _<(8:Int);omega) λw hw=>?_
  have hwN:=Pc w hw;have hwl:=hwN.1;lia;refine⟨t,rfl,fz (jJ M) (by omega),?_⟩
  have htl:=jJ (x:=t) M;have hto:=aD.2.UN M;generalize eth:StrLaws.sliceText t none (some (M:Int))=th at htl hto ⊢;refine⟨th,w,rfl,rfl,by omega,?_⟩
  lia;refine bC (e.mono b) ad ad λx5 hx5=>?_
  lia;obtain⟨a2,ha2⟩:=j5 (show 0<=(M:Int)+x5 % 2 by omega)
  have hcut:th.length+(StrLaws.sliceText t (some (a2:Int)) none).length<=398:=by
   have h1:th.length<=M:=by rw[<-eth,aw,fe,tz];omega
   have h2:(StrLaws.sliceText t (some (a2:Int)) none).length=t.length - a2:=by rw[aw,iJ,mv,<-aw]
   omega
  rw[ha2];refine⟨t,rfl,fz (yZ a2) (by omega),?_⟩
  have hbo:=aD.2.UM a2;generalize StrLaws.sliceText t (some (a2:Int)) none=bh at hcut hbo ⊢;refine⟨th++w,bh,rfl,rfl,by rw[aG];omega,?_⟩
  exact g _ _ ⟨by rw[aG,aG];omega,(hto.app hwN.2).app hbo⟩ b
 lia;refine wA (λσ J=>σ=[some (.ref dr),some<|.ref ll,some<|.ref nm,some<|.ref sm,some<|.int<|x0 % 9,some<|.str t,none,none,none,none,none]/\J=H1) ?_ (λR hR=>?_)
 rotate_left
 ·have aF:=hR _ _ ⟨rfl,rfl⟩;lia;refine bp (λc=>?_) λc=>aF;refine⟨t,rfl,fz (jJ 4) (by omega),?_⟩
  lia;refine bp (λc=>?_) λc=>aF;refine bC e ad ad λx5 hx5=>?_
  lia;refine bp (λc=>?_) λc=>aF;have hfew:=eZ t;refine⟨rfl,rfl,t,_,rfl,rfl,Dk0,by omega,?_,λp hp=>?_⟩
  ·rw[bc];omega
  rw[bc];generalize u:upd H1 p _=E;obtain⟨b,f⟩:=nw hp u;clear u;refine GS 2 (au.of f) λp2 H3 o _ O=>?_;rw[<-Vu] at O;refine bC (e.mono<|b.trans o) ad ad λx6 hx6=>?_
  refine⟨_,_,rfl,λc H4 hc0 r T=>?_⟩;refine⟨_,rfl,?_,ad,λp3 hp3=>?_⟩
  ·rw[Vb]
   by_cases z:c=0
   ·omega
   ·exact(log2_lt z).mpr (Vf r Dk0)
  generalize e5:upd H4 p3 _=H5;obtain⟨U,m5⟩:=nw hp3 e5;clear e5;have m5:H5 p3=some (.lst<|[fk c].map V.str):=m5;refine jn (au.of<|(T.trans U) _ _ O) (au.of m5) (by rw[tz];show _+1<=_;omega) λp4 H6 s6 m6=>?_
  refine gJ (n:=30) (m:=3) (au.of m6) (λx hx=>?_) (by rw[ed,tz];show _+1<=3;omega) ad λz hz=>g z _ hz<|b.trans<|o.trans<|T.trans<|U.trans s6
  rcases eG.mp hx with hx | hx
  ·have hx':=UW hx;exact⟨hlw x hx',aD.2.part hx'⟩
  ·rw[dt.mp hx];exact fW.count (cq hc0 r).1
 rintro σ J ⟨rfl,rfl⟩;walk_at"h";refine bp (λc=>g t _ (aD.mono ad)<|ag.refl _) λc=>?_
 walk_at"h";refine bp (λc3=>?_) λc3=>?_
 ·walk_at"h";refine bC e ad ad λx3 hx3=>?_
  refine aZ (.inl<|au.of a) ?_;rw[b5];lia;refine⟨by omega,?_⟩
  obtain⟨a3,ha3⟩:=j5 (show 0<=x3 % (ns.length:Int) from IR _ (by omega))
  rw[ha3];lia;refine⟨rfl,ad,λI j=>?_⟩
  generalize u:upd J I _=E;obtain⟨b,f⟩:=nw j u;clear u;have f:E I=some (.lst<|[Str.ofString "sees"].map V.str):=f;refine o7 a3 (au.of<|b _ _ a) λp2 H3 o _ O=>?_;rw[<-SL] at O;refine GS a3 (au.of<|(b.trans o) _ _ a) λp3 H4 T _ m4=>?_;rw[<-Vu] at m4;refine jn (au.of<|T _ _ O) (au.of m4) (by rw[mv,tz];omega) λp4 H5 U m5=>?_
  try dsimp only
  refine bC (e.mono<|b.trans<|o.trans<|T.trans U) ad ad λx4 hx4=>?_
  lia;refine pG (au.of m5) λp5 H6 vs s6 m6 hv ab=>?_;refine jn (au.of<|(o.trans<|T.trans<|U.trans s6) _ _ f) (au.of m6) (by rw[ed,mv,tz] at ab;show 1+_<=_;omega) λp6 H7 s7 m7=>?_
  refine gJ (n:=12) (m:=17) (au.of m7) (λx hx=>?_) (by rw[ed,mv,tz] at ab;rw[ed];show 1+_<=_;omega) ad λz hz=>g z _ hz<|b.trans<|o.trans<|T.trans<|U.trans<|s6.trans s7
  rcases eG.mp hx with hx | hx
  ·rw[dt.mp hx];exact xh
  ·rcases eG.mp (hv x hx) with hx | hx
   ·exact l x<|FS hx
   ·exact l x<|UW hx
 walk_at"h";refine bp (λc4=>?_) λc4=>?_
 ·refine⟨rfl,?_⟩;refine ax (i:=((0:Nat):Int)) (au.of a) (ay (aC (by omega))) ?_
  refine ax (au.of a) (Lf (by omega)) ?_
  refine bC e ad ad λx4 hx4=>?_
  refine aZ (.inl<|au.of a) ?_;rw[b5];lia;refine⟨by omega,?_⟩
  refine d (ag.refl _) λy hy=>?_;lia;refine⟨ad,λI j=>?_⟩
  generalize u:upd J I _=E;obtain⟨b,f⟩:=nw j u;clear u;have f:E I=some (.lst<|[Str.ofString "sees",ns.getD 0 aE,ns.getD (ns.length - 1) aE,y].map V.str):=f;refine gJ (n:=12) (m:=4) (au.of f) (λx hx=>?_) (by show 4<=4;decide) ad λz hz=>g z _ hz b
  simp only[mem_cons,not_mem_nil,or_false] at hx
  rcases hx with rfl | rfl | rfl | rfl
  ·exact xh
  ·exact l _ (getD_memS (by omega))
  ·exact l _ (getD_memS (by omega))
  ·exact l _ hy
 walk_at"h";refine bC e ad ad λx10 hx10=>?_
 refine bC e ad ad λx11 hx11=>?_
 lia;obtain⟨k11,hk11⟩:=j5 (show 0<=1+x11 % 4 by omega)
 refine⟨x10,k11,by rw[hk11],by omega,λfr hfr hfl=>?_⟩
 have Y:fW 12 fr:=⟨by omega,λc hc=>⟨wF.low hfl c hc,(nu<|hfl c hc).2⟩⟩
 try dsimp only
 walk_at"h";refine bp (λc5=>?_) λc5=>?_
 ·walk_at"h";refine bC e ad ad λx5 hx5=>?_
  refine aZ (.inl<|au.of a) ?_;rw[b5];lia;refine⟨by omega,?_⟩
  refine d (ag.refl _) λy hy=>?_;refine bC e ad ad λx6 hx6=>?_
  refine aZ (.inl<|au.of a) ?_;rw[b5];lia;refine⟨by omega,?_⟩
  refine d (ag.refl _) λy2 hy2=>?_;lia;refine⟨ad,λI j=>?_⟩
  generalize u:upd J I _=E;obtain⟨b,f⟩:=nw j u;clear u;have f:E I=some (.lst<|[Str.ofString "sees",y,fr,fr,y2].map V.str):=f;have hw5:∀ x∈[Str.ofString "sees",y,fr,fr,y2],fW 12 x:=λx hx=>by
   simp only[mem_cons,not_mem_nil,or_false] at hx
   rcases hx with rfl | rfl | rfl | rfl | rfl
   ·exact xh
   ·exact l _ hy
   ·exact Y
   ·exact Y
   ·exact l _ hy2
  lia;refine⟨rfl,?_⟩;refine pG (au.of f) λp2 H3 vs o O hv ab=>?_;refine bC (e.mono<|b.trans o) ad ad λx7 hx7=>?_
  lia;refine bC (e.mono<|b.trans o) ad ad λx8 hx8=>?_
  lia;refine pG (au.of<|o _ _ f) λp3 H4 vs2 T m4 hv2 hvl2=>?_;have l5:[Str.ofString "sees",y,fr,fr,y2].length=5:=rfl;refine jn (au.of<|T _ _ O) (au.of m4) (by omega) λp4 H5 U m5=>?_
  refine gJ (n:=12) (m:=10) (au.of m5) (λx hx=>?_) (by rw[ed];omega) ad λz hz=>g z _ hz<|b.trans<|o.trans<|T.trans U
  rcases eG.mp hx with hx | hx
  ·exact hw5 x<|hv x hx
  ·exact hw5 x<|hv2 x hx
 walk_at"h";refine bp (λc6=>?_) λc6=>?_
 ·refine⟨rfl,ad,λI j=>?_⟩
  generalize u:upd J I _=E;obtain⟨b,f⟩:=nw j u;clear u;have f:E I=some (.lst<|[Str.ofString "sees",fr].map V.str):=f;refine bC (e.mono b) ad ad λx7 hx7=>?_
  lia;refine pG (au.of<|b _ _ a) λp2 H3 vs o O hv ab=>?_;refine jn (au.of<|o _ _ f) (au.of O) (by show 2+_<=_;omega) λp4 H5 U m5=>?_
  refine gJ (n:=12) (m:=10) (au.of m5) (λx hx=>?_) (by rw[ed];show 2+_<=_;omega) ad λz hz=>g z _ hz<|b.trans<|o.trans U
  rcases eG.mp hx with hx | hx
  ·simp only[mem_cons,not_mem_nil,or_false] at hx
   rcases hx with rfl | rfl
   ·exact xh
   ·exact Y
  ·exact l x<|hv x hx
 walk_at"h";refine bp (λc7=>?_) λc7=>?_
 ·walk_at"h";refine⟨_,rfl,n9 v3 (λ_=>true) (λi=>.str<|(⟨#[((Str.ofString "abcdefghijkl").cps[i]?).getD 0]⟩:Str)++Str.ofString "zx") (by rw[AZ];decide) ?_ ?_⟩
  ·intro i J' A B' hi hS hA _;lia;refine⟨_,_,rfl,rfl,by show 1+(Str.ofString "zx").length<=_;rw[show (Str.ofString "zx").length=2 by decide +kernel];omega,?_⟩
   exact hA rfl _<|ag.refl _
  intro acc E hacc0 b v;rw[bZ,AZ] at v;have v:E acc=some (.lst<|SW.map V.str):=by rw[v];unfold SW;rw[kb];rfl
  lia;refine⟨rfl,?_⟩;refine bC (e.mono b) ad ad λx5 hx5=>?_
  refine aZ (.inl<|au.of<|b _ _ a) ?_;rw[b5];lia;refine⟨by omega,?_⟩
  refine d b λy hy=>?_;lia;refine⟨ad,λI j=>?_⟩
  generalize e3:upd E I _=H3;obtain⟨o,O⟩:=nw j e3;clear e3;have O:H3 I=some (.lst<|[Str.ofString "sees",y].map V.str):=O;refine bC (e.mono<|b.trans o) ad ad λx7 hx7=>?_
  lia;refine pG (au.of<|o _ _ v) λp2 H4 vs T m4 hv ab=>?_;have l12:SW.length=12:=rfl;refine jn (au.of<|T _ _ O) (au.of m4) (by show 2+_<=_;omega) λp4 H5 U m5=>?_
  refine gJ (n:=12) (m:=14) (au.of m5) (λx hx=>?_) (by rw[ed];show 2+_<=_;omega) ad λz hz=>g z _ hz<|b.trans<|o.trans<|T.trans U
  rcases eG.mp hx with hx | hx
  ·simp only[mem_cons,not_mem_nil,or_false] at hx
   rcases hx with rfl | rfl
   ·exact xh
   ·exact l _ hy
  ·exact fW.name<|Oy x<|hv x hx
 lia;refine bC e ad ad λx12 hx12=>?_
 refine bC e ad ad λx13 hx13=>?_
 lia;obtain⟨k13,hk13⟩:=j5 (show 0<=1+x13 % 12 by omega)
 refine⟨x12,k13,by rw[hk13],by omega,λf2 Im hf2l=>?_⟩
 have hf2N:fW 12 f2:=⟨by omega,λc hc=>⟨wF.low hf2l c hc,(nu<|hf2l c hc).2⟩⟩
 have hf2b:=hf2N.1;have el:(Str.ofString "hat ").length=4:=by decide +kernel
 have el1:(Str.ofString " ").length=1:=by decide +kernel
 refine⟨_,_,rfl,rfl,by rw[el];omega,?_⟩
 lia;refine⟨_,_,rfl,rfl,by rw[aG,el,el1];omega,?_⟩
 lia;refine bC e ad ad λx14 hx14=>?_
 refine⟨_,_,rfl,λc E hc0 r b=>?_⟩;refine⟨_,rfl,?_,?_⟩
 ·rw[Vb]
  by_cases z:c=0
  ·omega
  ·exact(log2_lt z).mpr (Vf r Dk0)
 have hcN:fW 30 (fk c):=fW.count (cq hc0 r).1;have hcl:=hcN.1;refine⟨_,_,rfl,rfl,by rw[aG,aG,el,el1];show _+(fk c).length<=_;omega,?_⟩
 exact g _ _ (((((jM (n:=4) Dk0).app hf2N).app Pd).app hcN).mono ad) b
def BD {α:Type}{L:List α}{k:Nat}{y x:α}(h:x∈cZ L k y):x∈L∨x=y:=by
 unfold cZ at h
 rcases eG.mp h with z | z
 ·exact .inl<|UW z
 ·rcases gd.mp z with z | z
  ·exact .inr z
  ·exact .inl<|FS z
def BE {α:Type}{L:List α}{k:Nat}{y:α}(h:k<=L.length):(cZ L k y).length=L.length+1:=by
 unfold cZ;rw[ed,ls,tz,mv];omega
theorem zB {α β:Type}(f:α->β):∀ (l:List α) (i:Nat),(l.map f).eraseIdx i=(l.eraseIdx i).map f
 | [],_=>rfl
 | x::r,0=>rfl
 | x::r,i+1=>by rw[rr,List.eraseIdx_cons_succ,List.eraseIdx_cons_succ,rr,zB f r i]
def HX (H0:Hp)(b dr l g:Addr)(G:List Str)(k:Nat)(σ:L2.St)(H:Hp):Prop:=∃ (L:List Str) (y5 y6 y7 y8:Option V),σ=[some (.ref b),some<|.ref dr,some<|.ref l,some<|.ref g,y5,y6,y7,y8]/\ag H0 H/\H g=some (.lst<|G.map V.str)/\H l=some (.lst<|L.map V.str)/\L.length<=16+k/\∀ x∈L,fW 400 x
def Pf (H0:Hp)(b dr l g:Addr)(k:Nat)(z:Str)(n:Nat)(σ:L2.St)(H:Hp):Prop:=∃ (a:Nat) (y5:Option V),σ=[some (.ref b),some<|.ref dr,some<|.ref l,some<|.ref g,y5,some<|.int (k:Int),some<|.str z,some<|.int (a:Int)]/\ag H0 H/\a<=n
def HY (B:Bn mg)(D:Def K mg "_law_spoilt_text" dH)(bQ:Fn P w K mg base 1 "_law_draws" ["cell","count"] gB)(kS:Fn P w K mg base 1 "_law_mixed_lines" ["book","drawn"] w9)(pM:Fn P w K mg base 3 "_law_bad_line" ["drawn","lines","names"] ML):Fn P w K mg base 4 "_law_spoilt_text" ["book","drawn"] By:=by
 have zY:DS (aj dH) ["book","drawn","lines","good","line","k","new","at"] ["book","drawn"] ["_law_mixed_lines","list","len","range","_law_bad_line","_law_draws"]:=aQ;walk_at"hH";obtain⟨b,dr,ns,cs,ws,dn,rfl,hb,P,t,q⟩:=h;have h8:=P.nm.fC;obtain⟨hdr,hdn,hnn⟩:=id t;refine⟨_,(ae (bo S 2<|cK S 0 kS hr<|ah (kv S 0)<|aa<|kv S 1)
   (ae (bo S 3<|pR S 1 (yt rfl) B.list boot_list<|aa<|kv S 2)
   (ae (cj (xT<|vI (aL aM (bw<|cp<|kv S 1) aq<|ao _)<|rA<|aL Af (cE S 2 (aA rfl) B.len oD<|aa<|kv S 2) aq<|ao _) (ae (bo S 4<|fL ri slot_list_pop type_list_pop vw rfl (kv S 2)<|aa<|aP bR (cp<|kv S 1)<|cE S 2 (aA rfl) B.len oD<|aa<|kv S 2)
   (ai<|dv<|fL ri slot_list_insert type_list_insert lE rfl (kv S 2)<|ah (aP bR (cp<|kv S 1)<|aP aJ (cE S 2 (aA rfl) B.len oD<|aa<|kv S 2) aq)<|aa<|kv S 4)) av)
   (ae (eV hxe hc (iw S 3 B.range<|aa<|bw<|cp<|kv S 1) (kg S 5) (ae (bo S 6<|cK S 4 pM hr<|ah (cK S 5 bQ hr<|ah (fh (kv S 1)<|aP aJ aq<|kv S 5)<|aa aq)<|ah (kv S 3)<|aa<|cp<|kv S 0)
   (ae (bo S 7<|aP bR (fh (kv S 1)<|aP aJ aq<|kv S 5)<|aP aJ (cE S 2 (aA rfl) B.len oD<|aa<|kv S 2) aq)
   (ae (cj (aL aM (bw<|fh (kv S 1)<|aP aJ aq<|kv S 5) aq<|ao _) (ai<|bo S 7<|fh (dq<|ah aq<|aa<|cE S 2 (aA rfl) B.len oD<|aa<|kv S 2)<|bw<|fh (kv S 1)<|aP aJ aq<|kv S 5) av)
   (ai<|dv<|fL ri slot_list_insert type_list_insert lE rfl (kv S 2)<|ah (kv S 7)<|aa<|kv S 6)))))
   (ai<|aI<|kv S 2))))),?_⟩
 have h1000:(1000:Nat)<=sizeLine:=by decide
 walk_at"i";refine⟨b,dr,ns,cs,ws,dn,rfl,hb,P,hdr,hdn,hnn,λl G H3 s3 hl0 C hG aD hGl=>?_⟩
 try dsimp only
 walk_at"h";refine⟨l,_,rfl,.inl<|au.of C,λg hg0=>?_⟩;generalize e4:upd H3 g _=H4;obtain⟨s4,Z⟩:=nw hg0 e4;clear e4;have gl:g≠l:=(aH C hg0).symm;have o:=s4 _ _ C;have r:=s3.trans s4;obtain⟨a1,a2,a3,hb0,hb1,_,_⟩:=hb;have wl:∀ {J:Hp} {L:List Str},ag H J->J g=some (.lst<|G.map V.str)->ag H (upd J l<|.lst<|L.map V.str)/\upd J l (.lst<|L.map V.str) g=some (.lst<|G.map V.str):=λI f=>⟨I.set hl0 _,by rw[aB gl];exact f⟩
 lia;refine wA (HX H b dr l g G 0) ?_ (λR O=>?_)
 rotate_left
 ·have v:=O _ _ ⟨G,none,none,none,none,rfl,r,Z,o,by omega,λx hx=>(hG x hx).1.mono ad⟩
  lia;refine bC (t.mono r) ad ad λx1 hx1=>?_
  lia;refine bp (λc=>?_) λc=>v;refine aZ (.inl<|au.of o) ?_;rw[b5];lia;refine bp (λc1=>?_) λc1=>v;walk_at"h";refine⟨.inl ⟨rfl,_,au.of o⟩,?_⟩;refine bC (t.mono r) ad ad λx2 hx2=>?_
  refine aZ (.inl<|au.of o) ?_;rw[b5];lia;refine⟨by omega,?_⟩
  obtain⟨e,hk2⟩:=j5 (show 0<=x2 % (G.length:Int) from IR _ (by omega))
  have d:e<G.length:=by have:=GT x2 (show (0:Int)<(G.length:Int) by omega);omega
  rw[hk2];refine⟨l,_,_,e,_,rfl,rfl,o,by omega,by omega,Ma (by rw[b5];exact d),aC d,?_⟩
  rw[zB];obtain⟨t5,T⟩:=wl (L:=G.eraseIdx e) r Z;generalize e5:upd H4 l _=H5 at t5 T;have N:H5 l=some (.lst<|(G.eraseIdx e).map V.str):=by rw[<-e5];exact af
  clear e5;have hel:(G.eraseIdx e).length<=16:=fz (List.length_eraseIdx_le _ _) hGl;lia;refine⟨.inl ⟨rfl,_,au.of N⟩,?_⟩;refine bC (t.mono t5) ad ad λx3 hx3=>?_
  refine aZ (.inl<|au.of N) ?_;rw[b5];lia;refine⟨by omega,?_⟩
  obtain⟨k3,hk3⟩:=j5 (show 0<=x3 % (((G.eraseIdx e).length:Int)+1) from IR _ (by omega))
  have y:k3<=(G.eraseIdx e).length:=by have:=GT x3 (show (0:Int)<((G.eraseIdx e).length:Int)+1 by omega);omega
  rw[hk3];refine⟨l,_,k3,_,rfl,rfl,N,by rw[b5];omega,by rw[b5];exact y,?_⟩
  obtain⟨t6,n⟩:=wl (L:=cZ (G.eraseIdx e) k3<|G.getD e aE) t5 T;rw[jg] at t6 n;refine O _ _ ⟨cZ (G.eraseIdx e) k3<|G.getD e aE,_,_,_,_,rfl,t6,n,by rw[af,jg],?_,λx hx=>?_⟩
  ·rw[BE y]
   have:=List.length_eraseIdx_of_lt d
   omega
  ·rcases BD hx with z | z
   ·exact(hG x<|List.mem_of_mem_eraseIdx z).1.mono ad
   ·rw[z];exact(hG _<|getD_memS d).1.mono ad
 rintro σ1 J1 ⟨L1,y5,y6,y7,y8,rfl,t1,hg1,hl1,hL1,U⟩;walk_at"h";refine bC (t.mono t1) ad ad λx4 hx4=>?_
 lia;obtain⟨m,hm⟩:=j5 (show 0<=x4 % 3 by omega)
 refine forR m (HX H b dr l g G) hm (by omega) ⟨L1,_,_,_,_,rfl,t1,hg1,hl1,hL1,U⟩ ?_ ?_
 ·rintro k σ J hk ⟨L,y5,y6,y7,y8,rfl,I,f,A,hL,E⟩;walk_at"i";refine bC (t.mono I) (by omega) (by omega) λr2 hr2=>?_
  lia;refine⟨_,14,rfl,ad,λd2 dn2 J2 Q _ hd2 W X=>?_⟩
  refine ax (i:=((0:Nat):Int)) (au.of<|(I.trans Q) _ _ hb0) (ay rfl) ?_;refine⟨d2,g,a1,dn2,G,ns,rfl,⟨hd2,W,X⟩,Q _ _ f,hG,(I.trans Q) _ _ hb1,h8,P.nm.nm,aD,λz J3 hz t3=>?_⟩
  try dsimp only
  have s:=I.trans<|Q.trans t3;have j:=(Q.trans t3) _ _ A;have ab:=(Q.trans t3) _ _ f;walk_at"h";refine bC (t.mono s) (by omega) (by omega) λx5 hx5=>?_
  refine aZ (.inl<|au.of j) ?_;rw[b5];lia;refine⟨by omega,?_⟩
  obtain⟨k5,hk5⟩:=j5 (show 0<=x5 % ((L.length:Int)+1) from IR _ (by omega))
  have Y:k5<=L.length:=by have:=GT x5 (show (0:Int)<(L.length:Int)+1 by omega);omega
  rw[hk5];lia;refine wA (Pf J3 b dr l g k z L.length) ?_ (λR O=>?_)
  rotate_left
  ·lia;refine bC (t.mono s) (by omega) (by omega) λx6 hx6=>?_
   lia;refine bp (λc=>?_) λc=>O _ _ ⟨k5,_,rfl,ag.refl _,Y⟩;refine aZ (.inl<|au.of j) ?_;rw[b5];lia;refine⟨ad,λp hp=>?_⟩
   generalize e6:upd J3 p _=J4;obtain⟨M,m4⟩:=nw hp e6;clear e6;refine bC (t.mono<|s.trans M) (by omega) (by omega) λx7 hx7=>?_
   lia
   rcases(show x7 % 2=0∨x7 % 2=1 by omega) with h | h
   ·rw[h];refine ax (i:=((0:Nat):Int)) (au.of m4) (ay rfl) ?_;exact O _ _ ⟨0,_,rfl,M,zero_le _⟩
   ·rw[h];refine ax (i:=((1:Nat):Int)) (au.of m4) (ay rfl) ?_;exact O _ _ ⟨L.length,_,rfl,M,ea _⟩
  rintro σ4 J4 ⟨a,y5',rfl,M,ha⟩;have sJ4:=s.trans M;have u:=M _ _ j;lia;refine⟨.inl ⟨rfl,_,au.of u⟩,?_⟩;refine⟨l,_,a,_,rfl,rfl,u,by rw[b5];omega,by rw[b5];exact ha,?_⟩
  obtain⟨t6,n⟩:=wl (L:=cZ L a z) sJ4<|M _ _ ab;rw[jg] at t6 n;refine⟨cZ L a z,_,_,_,_,rfl,t6,n,by rw[af,jg],by rw[BE ha];omega,λx hx=>?_⟩
  rcases BD hx with h | h
  ·exact E x h
  ·rw[h];exact hz
 ·rintro σ J ⟨L,y5,y6,y7,y8,rfl,I,f,A,hL,E⟩;lia;exact q l L J ⟨A,by omega,E⟩
def BF {M:List Ln}(h:i<M.length):((M.map cM).map V.str).getD i .bx=.str (cM<|M.getD i<|.sees aE [])/\M.getD i (.sees aE [])∈M:=by
 rw[b3,et,et,b4 h,b3,b4 h];exact⟨rfl,pP h⟩
def HZ (B:Bn mg)(bP:gX K mg "Hall" aD ["counts","groups","worn"])(cu:gX K mg "Desk" aR ["book","hall"])(D:Def K mg "_law_tells" i3)(jX:rY P w K mg base 7 aR "ask" ["self","line"] (Hy K aD aR)):Fn P w K mg base 8 "_law_tells" ["desk","lines"] (BA K aD aR):=by
 have zY:DS (aj i3) ["desk","lines","names","seen","due","line","name","ones","right"] ["desk","lines"] []:=aQ;walk_at"hH";obtain⟨d,hl,l,M,b,L,rfl,hl0,BM,hM,hM4,hD,D,q⟩:=h;have P:=BM.Ip;have h8:=P.nm.fC;have h1000:(1000:Nat)<=sizeLine:=by decide
 refine⟨_,(ae (B9 (i:=2) S hc hsc (b9 (kv S 1) rfl) (N:=["line"]) (W:=["line"]) (G:=[]) (fv:=[none]) Dk0 (λcl C fp s H f=>⟨(kg f 0),(da<|aL aM (iu fV (kv f 0) aV<|aS aq) aU<|ao _),(nY (df rfl) (fL q7 C6 KM bK rfl (kv f 0)<|aa aU) aq λ_ _=>rfl)⟩) (by rw[hsc];decide +kernel) (by rw[cW,hsc];rfl))
   (ae (bo S 3 FD)
   (ae (B9 (i:=4) S hc hsc (b9 (kv S 1) rfl) (N:=["line"]) (W:=["line"]) (G:=[]) (fv:=[none]) Dk0 (λcl C fp s H f=>⟨(kg f 0),(da<|aL aM (iu fV (kv f 0) aV<|aS aq) aU<|ao _),(kv f 0)⟩) (by rw[hsc];decide +kernel) (by rw[cW,hsc];rfl))
   (ae (eV hxe hc (b9 (kv S 1) rfl) (kg S 5)<|ai<|cj (aL aM (iu fV (kv S 5) aV<|aS aq) aU<|ao _) (ai<|FE (u1 hu) (iu (bz rfl) (fL q7 C6 KM bK rfl (kv S 5)<|aa aU) (aS aq) aV) (kv S 3)<|cp<|fL q7 C6 KM bK rfl (kv S 5)<|aa aU) av)
   (ae (eV hxe hc (b9 (kv S 2) rfl) (kg S 6) (ai (cj (OB (u1 hu) (kv S 6) (kv S 3) (by with_unfolding_all rfl)) (ai (dv (fL ri mo oo bI rfl (kv S 4) (aa (fL q7 Da F1 (bD rfl) rfl aU (aa (aP (bV rfl) (dq<|ah aU<|aa<|kv S 6) (ju S hc hsc (b9 (kv S 2) rfl) (N:=["other","seen","name"]) (W:=["other"]) (G:=[]) (fv:=[none,some 3,some 6]) Dk0 (λcl C fp s H f=>⟨(kg f 0),(da (aL (lu rfl) (kv f 0) (A0 (u1 hu) (kv f 1)<|kv f 2) (by with_unfolding_all rfl))),(kv f 0)⟩))))))))) av)))
   (ae (B9 (i:=7) S hc hsc (b9 (kv S 2) rfl) (N:=["name","lines"]) (W:=["name"]) (G:=[]) (fv:=[none,some 1]) Dk0 (λcl C fp s H f=>⟨(kg f 0),(da (aL (lu rfl) (aP aX (aP aX aU<|kv f 0) aU) (kv f 1) (by with_unfolding_all rfl))),(kv f 0)⟩) (by rw[hsc];decide +kernel) (by rw[cW,hsc];rfl))
   (ae (bo S 8<|fL q7 C6 KM bK rfl (fL q7 Da F1 (bD rfl) rfl aU<|aa<|RH cu jX oO hr (kv S 0)<|aa aU)<|aa aU)
   (ae (cj (xT (Ik (aL (lx hu rfl) (RH cu jX oO hr (kv S 0)<|aa aU) (kv S 4)<|ao _) (qb (aL (lx hu rfl) (ju S hc hsc (b9 (kv S 7) rfl) (N:=["name","desk"]) (W:=["name"]) (G:=[]) (fv:=[none,some 0]) Dk0 λcl C fp s H f=>⟨(kg f 0),(da<|aL (lx hu rfl) (RH cu jX oO hr (kv f 1)<|aa<|aP aX aU<|kv f 0) (dq<|aa aU)<|ao _),(kv f 0)⟩) (dq bF)<|ao _)))) (ai<|aI vF) av)
   (ai (aI (gO (ir hu rfl) (ju S hc hsc (b9 (kv S 7) rfl) (N:=["name","right"]) (W:=["name"]) (G:=[]) (fv:=[none,some 8]) Dk0 (λcl C fp s H f=>⟨(kg f 0),(da (aL (eY rfl) (kv f 0) (kv f 1) (by with_unfolding_all rfl))),(kv f 0)⟩)) (dq bF)<|ao _))))))))))),?_⟩
 walk_at"i";have j:((M.map cM).map V.str).length=M.length:=by rw[b5,b5]
 refine⟨l,rfl,⟨_,au.of hl0⟩,n9 (bJ<|au.of hl0) (λi=>(iL<|M.getD i<|.sees aE []).isSome) (λi=>.str<|(gU<|M.getD i<|.sees aE []).getD 1 aE) (by rw[j];exact az (by omega)) ?_ ?_⟩
 ·intro i H1 A B' E hS hA Y;rw[j] at E;obtain⟨e1,hm⟩:=BF E;rw[e1];generalize M.getD i (.sees aE [])=x at hm hA Y ⊢;lia;have h4:=Hs x;rw[show (some (4:Int))=some ((4:Nat):Int) from rfl]
  refine⟨_,rfl,zl 4 ad,?_⟩
  lia
  cases ch:(iL x).isSome with
  | false=>
   rw[if_neg (λz=>by rw[h4.mp z] at ch;cases ch)]
   exact Y ch _<|ag.refl _
  | true=>
   rw[if_pos (h4.mpr ch)];have aY:=BM.ok x hm;have hx4:=hM4 x hm;have hw:=gW aY;rw[bc];refine⟨rfl,kN ad (by omega) (by rw[show Txt.split (cM x) ⟨#[32]⟩=gU x from jl aY];omega) λp hp=>?_⟩
   rw[show Txt.split (cM x) ⟨#[32]⟩=gU x from jl aY]
   refine ax (i:=((1:Nat):Int)) (au.of af) (ay (aC (by omega))) ?_
   exact hA ch _<|ag.new hp _
 intro J H1 hnm0 s1 hnm;rw[j,iN (λx=>(iL x).isSome) (λx=>V.str<|(gU x).getD 1 aE) (Ln.sees aE []) M] at hnm;have hnm:H1 J=some (.lst<|b.ns.map V.str):=by rw[hnm,BM.ns,<-lO,kb];rfl
 lia;walk_at"g";intro sd hsd0;generalize g:upd H1 sd _=H2;obtain⟨s2,hsd⟩:=vd hsd0 g;clear g;have ba:=s2 _ _ hnm;have s02:=s1.trans s2;have hl2:=s02 _ _ hl0;walk_at"i";refine⟨l,rfl,⟨_,au.of hl2⟩,n9 (bJ<|au.of hl2) (λi=>(iL<|M.getD i<|.sees aE []).isSome) (λi=>.str<|cM<|M.getD i<|.sees aE []) (by rw[j];exact az (by omega)) ?_ ?_⟩
 ·intro i H3 A B' E hS hA Y;rw[j] at E;obtain⟨e1,hm⟩:=BF E;rw[e1];generalize M.getD i (.sees aE [])=x at hm hA Y ⊢;lia;have h4:=Hs x;rw[show (some (4:Int))=some ((4:Nat):Int) from rfl]
  refine⟨_,rfl,zl 4 ad,?_⟩
  lia
  cases ch:(iL x).isSome with
  | false=>
   rw[if_neg (λz=>by rw[h4.mp z] at ch;cases ch)]
   exact Y ch _<|ag.refl _
  | true=>
   rw[if_pos (h4.mpr ch)];exact hA ch _<|ag.refl _
 intro du H3 ab s3 R;rw[j,iN (λx=>(iL x).isSome) (λx=>V.str<|cM x) (Ln.sees aE []) M] at R;have R:H3 du=some (.lst<|((M.filter λx=>(iL x).isSome).map cM).map V.str):=by rw[R,kb];rfl
 have m:=s3 _ _ hsd;have a8:=s3 _ _ ba;have s03:=s02.trans s3;have a0:=s3 _ _ hl2;have hD3:=hD.mono s03;have hnd:J≠du:=aH ba ab;have hduN:H du=none:=s02.free ab;have hsdN:H sd=none:=s1.free hsd0;have hld:l≠du:=aH hl2 ab;clear ab hsd0 hsd hnm ba hnm0;walk_at"i";refine Mc (OY H3 d l J sd du M) (au.of a0) ⟨[],_,rfl,(λ_ _ _ e=>e),m,trivial⟩ (λk σ H' h=>by obtain⟨_,_,_,o,_⟩:=h;exact au.of<|o _ _ (fK a0 m λz=>nomatch z) a0) ?_ ?_
 ·rintro k v σ H4 hv ⟨I,y5,rfl,o4,r,hK⟩;obtain⟨x,hxk,rfl⟩:∃ x,M[k]?=some x/\v=.str (cM x):=by
   rw[et,et] at hv
   cases e:M[k]? with
   | none=>rw[e] at hv;cases hv
   | some x=>rw[e] at hv;cases hv;exact⟨x,rfl,rfl⟩
  have hm:=fO hxk;lia;have h5:=OX x;rw[show (some (5:Int))=some ((5:Nat):Int) from rfl]
  refine⟨_,rfl,zl 5 ad,?_⟩
  lia;have ets:M.take (k+1)=M.take k++[x]:=by rw[take_add_one,hxk];rfl
  cases x with
  | bY n c=>
   rw[if_neg (λz=>by have:=h5.mp z;cases this)]
   exact⟨I,_,rfl,o4,r,by rw[ets,GM,show [Ln.bY n c].filterMap hZ=[] from rfl,F2];exact hK⟩
  | sees n z=>
   rw[if_pos (h5.mpr rfl)];have aY:=BM.ok _ hm;have hx4:=hM4 _ hm;have hw:=gW aY;have esp:Txt.split (cM<|.sees n z) ⟨#[32]⟩=Str.ofString "sees"::n::z:=jl aY;have hzl:(Str.ofString "sees"::n::z).length<=41:=hw.2.1;rw[bc];refine⟨rfl,kN ad (by omega) (by rw[esp];omega) λp1 U=>?_⟩
   rw[esp];generalize g:upd H4 p1 _=H5;obtain⟨s5,U⟩:=vd U g;clear g;rw[show (some (2:Int))=some ((2:Nat):Int) from rfl]
   refine o7 2 (au.of U) λp2 H6 s6 hp20 Q=>?_;have hp2d:p2≠du:=Ne.symm<|aH (s5 _ _<|o4 _ _ (fK R m λz=>nomatch z) R) hp20;have Q:H6 p2=some (.lst<|z.map V.str):=Q;refine⟨rfl,kN ad (by omega) (by rw[esp];omega) λp3 hp3=>?_⟩
   rw[esp];generalize g:upd H6 p3 _=H7;obtain⟨s7,hp3⟩:=vd hp3 g;clear g;refine ax (i:=((1:Nat):Int)) (au.of hp3) (ay rfl) ?_;have s47:=s5.trans<|s6.trans s7;have hsd7:=s47 _ _ r;have hK7:=hK.mono λa ys _ e=>s47 _ _ e;have hfr:=hK7.none<|BM.fresh hxk;have hkl:I.length<=M.length:=by
    rw[hK.len];exact fz (List.length_filterMap_le _ _) (by rw[tz];omega)
   refine⟨sd,_,rfl,pZ.k (k:=Sum.inr n) hsd7 (az (by omega)),?_⟩
   rw[vz _ hfr];have ne:∀ a ys,H7 a=some (.lst ys)->upd H7 sd (.dK<|I++[(Sum.inr n,V.ref p2)]) a=some (.lst ys):=λa ys e=>by rw[aB (fK e hsd7 λz=>nomatch z)];exact e
   refine⟨_,_,rfl,λa u n e=>by rw[aB n];exact s47 _ _<|o4 a u n e,af,?_⟩
   rw[ets,GM];exact qp.snoc hp2d (ne _ _<|s7 _ _ Q)<|hK7.mono λa ys _ e=>ne a ys e
 rintro σ H4 ⟨I,y5,rfl,o4,r,hK⟩;rw[j,SC] at hK;have hkl:I.length<=M.length:=by
  rw[hK.len];exact List.length_filterMap_le _ _
 have hl4:=o4 _ _ (fK a0 m λz=>nomatch z) a0;have T:=o4 _ _ (fK a8 m λz=>nomatch z) a8;have hdu4:=o4 _ _ (fK R m λz=>nomatch z) R;lia;walk_at"g";have hhl:((M.filter λx=>(iL x).isSome).map cM).length<=30:=by
  rw[b5];exact fz (zO _ _) hM
 have X:(b.ns.map V.str).length=b.ns.length:=b5 _;lia;refine Mc (OZ H4 d l J sd du y5 M b) (au.of T) ⟨_,rfl,(λ_ _ _ e=>e),by rw[hdu4];show _=some (HO.lst<|(_++[]).map V.str);rw[F2]⟩ (λk σ H' h=>by obtain⟨_,_,o,_⟩:=h;exact au.of<|o _ _ hnd T) ?_ ?_
 ·rintro k v σ H5 hv ⟨y6,rfl,o5,t⟩;obtain⟨hk,rfl⟩:k<b.ns.length/\v=.str (b.ns.getD k aE):=by
   rw[et] at hv
   by_cases hk:k<b.ns.length
   ·rw[b4 hk] at hv
    cases hv
    exact⟨hk,by rw[b3,b4 hk];rfl⟩
   ·rw[ot (by omega)] at hv;cases hv
  have a3:=o5 _ _ (fK r hdu4 λz=>nomatch z) r;have Z:=o5 _ _ hnd T;have hK5:qp du H5 I (M.filterMap hZ):=hK.mono λa ys n e=>o5 _ _ n e;have a4:=pj (M:=M) hk;have hrf:=Hw (M:=M) (ns:=b.ns) k;have nmk:=P.nm.nm _<|getD_memS hk;have nl:=(dj nmk).2.2;have hfd:=lP (b.ns.getD k aE) M;generalize b.ns.getD k aE=x at a4 nmk nl hfd ⊢;lia
  cases e:M.findSome? (eO x) with
  | none=>
   rw[e] at hfd a4;refine⟨sd,_,rfl,.inl ⟨I,.inr x,.inl a3,rfl,rfl⟩,?_⟩;rw[hK5.none hfd,isSome_none];lia;exact⟨_,rfl,o5,by rw[a4];show _=some (HO.lst<|(_++(_++[])).map V.str);rw[F2];exact t⟩
  | some z=>
   rw[e] at hfd a4;obtain⟨a,ev,ha⟩:=hK5.some hfd;refine⟨sd,_,rfl,.inl ⟨I,.inr x,.inl a3,rfl,rfl⟩,?_⟩;rw[ev,isSome_some];lia;refine⟨.inl ⟨rfl,_,au.of t⟩,rfl,ad,λp1 U=>?_⟩
   generalize g:upd H5 p1 _=H6;obtain⟨s6,U⟩:=vd U g;clear g;have hnm6:=s6 _ _ Z;refine⟨J,rfl,⟨_,au.of hnm6⟩,n9 (bJ<|au.of hnm6) (λi=>decide<|b.ns.getD i aE∈z) (λi=>.str<|b.ns.getD i aE) (by rw[X];exact az (by omega)) ?_ ?_⟩
   ·intro i H7 A B' E hS hA Y;rw[X] at E;rw[show (b.ns.map V.str).getD i .bx=.str (b.ns.getD i aE) by rw[b3,aC E];rfl]
    have s57:=s6.trans hS;lia;refine⟨sd,.ref a,rfl,.inl ⟨I,.inr x,.inl<|s57 _ _ a3,rfl,ev.symm⟩,?_⟩;refine jF (.inl<|au.of<|s57 _ _ ha) ?_;lia
    by_cases c:b.ns.getD i aE∈z
    ·rw[if_pos (by rw[if_neg (λz=>z)];exact cc c)]
     exact hA (cc c) _<|ag.refl _
    ·rw[if_neg (by rw[if_neg (λz=>z),dy c];exact hI)]
     exact Y (dy c) _<|ag.refl _
   intro ac H7 _ s7 aF;rw[X,iN (λy=>decide<|y∈z) V.str aE b.ns] at aF;have hfl:(b.ns.filter λy=>decide<|y∈z).length<=8:=fz (zO _ _) h8;refine⟨p1,ac,_,_,rfl,rfl,au.of<|s7 _ _ U,au.of aF,gP (by rw[b5];show 2+_<=1000;omega),λp2 Q=>?_⟩
   generalize g:upd H7 p2 _=H8;obtain⟨s8,Q⟩:=vd Q g;clear g;have Q:H8 p2=some (.lst<|(gU<|.sees x<|b.ns.filter λy=>decide<|y∈z).map V.str):=Q;have h30:∀ w∈gU (.sees x<|b.ns.filter λy=>decide<|y∈z),w.length<=30:=λw hw=>by
    rcases gd.mp hw with rfl | hw
    ·decide +kernel
    rcases gd.mp hw with rfl | hw
    ·omega
    ·have:=(dj<|P.nm.nm _ (tp.mp hw).1).2.2
     omega
   have hsum:=eK 30 _ h30;have hjl:=fm 32<|gU<|.sees x<|b.ns.filter λy=>decide<|y∈z;have h10:(gU<|.sees x<|b.ns.filter λy=>decide<|y∈z).length<=10:=by show _+1+1<=10;omega
   have h310:(gU<|.sees x<|b.ns.filter λy=>decide<|y∈z).length*31<=10*31:=yx _ h10;rw[bc];refine uw (au.of Q) (by show ((gU _).map λz=>z.length+1).sum<=_;omega) (by omega) ?_
   have s58:=s6.trans<|s7.trans s8;have a7:=s58 _ _ t;refine⟨du,_,_,rfl,rfl,a7,by rw[b5,ed];exact az (by omega),?_⟩
   exact⟨_,rfl,λa u n e=>by rw[aB n];exact s58 _ _<|o5 a u n e,by rw[af,a4,<-UU,eH (l₁:=_++_)];rfl⟩
 rintro σ H5 ⟨y6,rfl,o5,t⟩;rw[X,<-zk BM] at t;have s05:ag H H5:=λa u e=>o5 _ _ (aH e hduN)<|o4 _ _ (aH e hsdN)<|s03 _ _ e;have hl5:=s05 _ _ hl0;have hD5:=hD.mono s05;have Z:=o5 _ _ hnd T;clear hK o4 o5 r m T a8 hdu4 R hl4 a0 hl2 s03 s02 s1 s2 s3 hD3;have e4:(Str.ofString "hat ").length=4:=by decide +kernel
 have e2:(Str.ofString " 1").length=2:=by decide +kernel
 have e6:(Str.ofString "guess ").length=6:=by decide +kernel
 walk_at"i";refine⟨J,rfl,⟨_,au.of Z⟩,n9 (bJ<|au.of Z) (λi=>decide<|cM (.bY (b.ns.getD i aE) 1)∈M.map cM) (λi=>.str<|b.ns.getD i aE) (by rw[X];exact az (by omega)) ?_ ?_⟩
 ·intro i H6 A B' E hS hA Y;rw[X] at E;have nl:=(dj<|P.nm.nm _<|getD_memS E).2.2;rw[show (b.ns.map V.str).getD i .bx=.str (b.ns.getD i aE) by rw[b3,aC E];rfl]
  generalize b.ns.getD i aE=x at nl hA Y ⊢;lia;refine⟨_,_,rfl,rfl,by rw[e4];omega,?_⟩
  refine⟨_,_,rfl,rfl,by rw[aG,e4,e2];omega,?_⟩
  rw[Sm];refine jF (.inl<|au.of<|hS _ _ hl5) ?_;lia
  by_cases c:cM (.bY x 1)∈M.map cM
  ·rw[if_pos (by rw[if_neg (λz=>z)];exact cc c)]
   exact hA (cc c) _<|ag.refl _
  ·rw[if_neg (by rw[if_neg (λz=>z),dy c];exact hI)]
   exact Y (dy c) _<|ag.refl _
 intro on H6 _ s6 hon;rw[X,iN (λy=>decide<|cM (.bY y 1)∈M.map cM) V.str aE b.ns] at hon;have hone:∀ y∈b.ns.filter (λy=>decide<|cM (.bY y 1)∈M.map cM),∃ k,k<b.ns.length/\y=b.ns.getD k aE/\b.cs.getD k 0=1:=λy hy=>by
  obtain⟨h1,h2⟩:=tp.mp hy;exact BM.one h1<|h9 h2
 have honl:(b.ns.filter λy=>decide<|cM (.bY y 1)∈M.map cM).length<=8:=fz (zO _ _) h8;generalize (b.ns.filter λy=>decide<|cM (.bY y 1)∈M.map cM)=O at hon hone honl;have hol:(O.map V.str).length=O.length:=b5 _;have hD6:=hD5.mono s6;have hdu6:=s6 _ _ t;obtain⟨⟨_,_,hd6,_⟩,_⟩:=id hD6;walk_at"i";refine⟨rfl,wU hd6 Hi ?_⟩;refine⟨d,hl,_,_,_,_,_,.right,rfl,hD6,D,trivial,trivial,λr1 H7 s7 _ hr1=>?_⟩;have hr1:H7 r1=some (.lst<|(iK b.ns<|dF (aK b.cs) (List.replicate b.cs.length 0) L).map V.str):=hr1;have hRn:=sf (hs:=List.replicate b.cs.length 0) (L:=L) P;have hin:∀ y∈O,y∈Txt.split (Str.join ⟨#[32]⟩<|iK b.ns<|dF (aK b.cs) (List.replicate b.cs.length 0) L) ⟨#[32]⟩:=λy hy=>by
  obtain⟨k,hk,rfl,h1⟩:=hone y hy;exact Hx P.nm.nm hRn.lt (sx D hk h1).2
 have hrl:=w8 P.nm.nm hRn;generalize iK b.ns (dF (aK b.cs) (List.replicate b.cs.length 0) L)=rw1 at hr1 hin hrl;rw[bc];refine uw (au.of hr1) (by show ((rw1).map λz=>z.length+1).sum<=_;omega) (by omega) ?_
 refine⟨rfl,kN ad (by omega) (fz (eZ _) (by omega)) λrt hrt=>?_⟩
 generalize Txt.split (Str.join ⟨#[32]⟩ rw1) ⟨#[32]⟩=RT at hin;generalize g:upd H7 rt _=H8;obtain⟨s8,hrt⟩:=vd hrt g;clear g;have s68:=s7.trans s8;have hD8:=hD6.mono s68;obtain⟨⟨_,_,hd8,_⟩,_⟩:=id hD8;have a7:=s68 _ _ hdu6;have hon8:=s68 _ _ hon;have hoks:=lQ P;walk_at"i";refine wU hd8 Hi ?_;refine⟨d,hl,_,_,_,_,_,.told .book,rfl,hD8,D,trivial,rfl,λr2 H9 s9 _ hr2=>?_⟩;have hr2:H9 r2=some (.lst<|((cf b.ns b.ws).map λx=>cM<|jf b.ns b.cs x).map V.str):=hr2;have hch2:∀ x∈(cf b.ns b.ws).map (λx=>cM<|jf b.ns b.cs x),lN x:=λx hx=>by
  obtain⟨y,hy,rfl⟩:=j9.mp hx;exact O0<|hoks _<|List.mem_map_of_mem hy
 lia;refine uu (au.of hr2) (au.of<|s9 _ _ a7) hch2 hch2 ?_;rw[cc rfl];lia;have hon9:=s9 _ _ hon8;have hD9:=hD8.mono s9;refine⟨on,rfl,⟨_,au.of hon9⟩,n9 (bJ<|au.of hon9) (λ_=>false) (λ_=>.bx) (by rw[hol];exact az (by omega)) ?_ ?_⟩
 ·intro i H10 A B' E hS _ Y;rw[hol] at E;obtain⟨k,hk,ek,h1⟩:=hone _<|getD_memS E;rw[show (O.map V.str).getD i .bx=.str (O.getD i aE) by rw[b3,aC E];rfl,ek]
  have nl:=(dj<|P.nm.nm _<|getD_memS hk).2.2;have hD10:=hD9.mono hS;obtain⟨⟨_,_,hd10,_⟩,_⟩:=id hD10;lia;refine wU hd10 Hi ?_;refine⟨_,_,rfl,rfl,by rw[e6];omega,?_⟩
  rw[zi];refine⟨d,hl,_,_,_,_,_,.hV k,rfl,hD10,D,hk,trivial,λr3 H11 s11 _ hr3=>?_⟩;have hr3:H11 r3=some (.lst<|[pf (vV (aK b.cs) L (List.replicate b.cs.length 0) k)].map V.str):=hr3;rw[(sx D hk h1).1] at hr3;have hch3:∀ x∈[pf 0],lN x:=λx hx=>by rw[dt.mp hx];exact lN.pf<|Int.le_refl 0
  lia;refine⟨ad,λn1 a6=>?_⟩
  generalize g:upd H11 n1 _=H12;obtain⟨s12,a6⟩:=vd a6 g;clear g;have a6:H12 n1=some (.lst<|[pf 0].map V.str):=a6;refine uu (au.of<|s12 _ _ hr3) (au.of a6) hch3 hch3 ?_;rw[cc rfl];lia;exact Y rfl _<|s11.trans s12
 intro ac H10 _ s10 aF;have aF:H10 ac=some (.lst<|([]:List Str).map V.str):=by rw[aF];simp
 lia;refine⟨ad,λn2 a9=>?_⟩
 generalize g:upd H10 n2 _=H11;obtain⟨s11,a9⟩:=vd a9 g;clear g;have nil:∀ x∈([]:List Str),lN x:=λ_ z=>nomatch z;have a9:H11 n2=some (.lst<|([]:List Str).map V.str):=a9;refine uu (au.of<|s11 _ _ aF) (au.of a9) nil nil ?_;rw[cc rfl];have a5:=s10.trans s11;have hon11:=a5 _ _ hon9;have hrt11:=(s9.trans a5) _ _ hrt;lia;refine⟨on,rfl,⟨_,au.of hon11⟩,n9 (bJ<|au.of hon11) (λ_=>false) (λ_=>.bx) (by rw[hol];exact az (by omega)) ?_ ?_⟩
 ·intro i H12 A B' E hS _ Y;rw[hol] at E;have hy:=hin _<|getD_memS E;rw[show (O.map V.str).getD i .bx=.str (O.getD i aE) by rw[b3,aC E];rfl]
  lia;refine jF (.inl<|au.of<|hS _ _ hrt11) ?_;rw[if_pos rfl,cc hy];lia;exact Y rfl _<|ag.refl _
 intro ac2 H12 _ s12 hac2;have hac2:H12 ac2=some (.lst<|([]:List Str).map V.str):=by rw[hac2];simp
 lia;refine⟨ad,λn3 bh=>?_⟩
 generalize g:upd H12 n3 _=H13;obtain⟨s13,bh⟩:=vd bh g;clear g;have bh:H13 n3=some (.lst<|([]:List Str).map V.str):=bh;refine K4 (au.of<|s13 _ _ hac2) (au.of bh) nil nil ?_;rw[cc rfl];lia;exact q _<|s05.trans<|s6.trans<|s68.trans<|s9.trans<|a5.trans<|s12.trans s13
theorem xi:∀ a b:List Str,PyData.eqvAll (a.map PyData.str) (b.map PyData.str)=decide (a=b)
 | [],[]=>by simp[PyData.eqvAll]
 | [],_::_=>by simp[PyData.eqvAll]
 | _::_,[]=>by simp[PyData.eqvAll]
 | n::r,m::q=>by
  simp only[map_cons,PyData.eqvAll,PyData.eqv,xi r q]
  by_cases h:n=m<;>simp[h]
def MM (a b:List Str):PyData.eqv (.list<|a.map PyData.str) (.list<|b.map PyData.str)=decide (a=b):=by simp only[PyData.eqv,xi]
def jU {L:List Str}(h:∀ x∈L,10∉cz x)(hn:L≠[Str.ofString ""]):bH (Str.join ⟨#[10]⟩ L)=L:=by
 have a:(Str.ofString "").length=0:=by decide +kernel
 match L,h,hn with
 | [],_,_=>rfl
 | [x],h,hn=>
  unfold bH;rw[if_neg (λe=>hn (by rw[show x=Str.ofString "" from e]))]
  exact dR 10 (by simp) h
 | x::y::r,h,_=>
  unfold bH;rw[if_neg (λe=>by
   have h1:(cz<|Str.join ⟨#[10]⟩ (x::y::r)).length=0:=by rw[<-aw,e,a]
   rw[bj,ed,ed] at h1
   have:(cz (⟨#[10]⟩:Str)).length=1:=rfl
   omega)]
  exact dR 10 (by simp) h
theorem BG:∀ bs:List Bool,PyData.canLayAll0 (bs.map PyData.bool)=true
 | []=>by simp[PyData.canLayAll0]
 | b::bs=>by simp[PyData.canLayAll0,PyData.canLay0,BG bs]
theorem sD:∀ bs:List Bool,PyData.depthAll (bs.map PyData.bool)<=1
 | []=>by simp[PyData.depthAll]
 | b::bs=>by
  have:=sD bs
  simp only[map_cons,PyData.depthAll,PyData.depth]
  omega
def pH (bs:List Bool):shaped (.list<|bs.map PyData.bool)=true:=je (by simp[PyData.canLay0,BG bs]) (by have:=sD bs;simp only[PyData.depth];omega)
theorem BH:∀ bs:List Bool,PyData.eqvAll (bs.map PyData.bool) (bs.map PyData.bool)=true
 | []=>by simp[PyData.eqvAll]
 | b::bs=>by simp[PyData.eqvAll,PyData.eqv,BH bs]
def Lg (bs:List Bool):PyData.eqv (.list<|bs.map PyData.bool) (.list<|bs.map PyData.bool)=true:=by simp[PyData.eqv,BH bs]
def pI (e k:Int):shaped (.list [.int e,.int k])=true:=je (by simp[PyData.canLay0,PyData.canLayAll0]) (by simp[PyData.depth,PyData.depthAll])
def BI (e k:Int):PyData.eqv (.list [.int e,.int k]) (.list [])=false:=by simp[PyData.eqv,PyData.eqvAll]
def nG (x:Str):List Bool:=[jI x "NoLine",jI x "Twice",jI x "Unknown",jI x "TooMany",jI x "HatError",true]
def Ia (k:Int):List Bool:=(List.range 4).map (λi:Nat=>decide<|((i:Nat):Int)=k)++[true,true]
def xj {e:Nat}(h:e<4):nG (kG e)=Ia (e:Int):=by
 have:∀ e:Nat,e<4->nG (kG e)=Ia (e:Int):=by decide +kernel
 exact this e h
def nH {j:Nat}:kG j∈mQ/\gF (kG j)=true/\jI (kG j) "LineError"=true:=by
 match j with
 | 0=>decide
 | 1=>decide
 | 2=>decide
 | _+3=>exact⟨by show (Str.ofString "TooMany")∈mQ;decide,by show gF (Str.ofString "TooMany")=true;decide,by show jI (Str.ofString "TooMany") "LineError"=true;decide⟩
def sE (K:Frag):Sp:=λa H Q _=>∃ (l u:Addr) (L:List Str),a=[.ref l,.ref u]/\OM H l L/\H u=some (.lst<|GV<|mO<|bH<|Str.join ⟨#[10]⟩ L)/\∀ H',ag H H'->Q (.bl true) H'
def Pg (K:Frag)(cH cD:Addr)(H0:Hp)(l u:Addr)(z:Str)(fo:Option (Nat × Nat))(σ:L2.St)(H:Hp):Prop:=ag H0 H/\∃ k:Addr,
 ((∃ d hl M b G,fo=none/\bH z=M.map cM/\pT M b/\σ=[some (.ref l),some<|.ref u,some<|.ref k,some<|.int 0,some<|.ref d,none]/\H k=some (.lst [])/\jN K cH cD H d hl b.ns b.cs b.ws G (List.replicate b.cs.length 0)/\eL b.ns b.cs b.ws G (List.replicate b.cs.length 0))∨
  (∃ e j:Nat,fo=some (e,j)/\σ=[some (.ref l),some<|.ref u,some<|.ref k,some<|.int (j:Int),some .bx,none]/\H k=some (.lst<|(nG<|kG e).map V.bl)))
variable {x:Addr}
def zC {H':Hp}{dx:Addr}{o:HO}(hx:H x=none)(hd:H dx=none)(hne:dx≠x)(s:Off x (L2.upd (L2.upd H dx<|.own x) x o) H'):ag H H':=λb u e=>by
 have h1:b≠x:=λz=>by rw[z,hx] at e;cases e
 have a:b≠dx:=λz=>by rw[z,hd] at e;cases e
 exact s b u h1 (by rw[aB h1,aB a];exact e)
def Dv {dx:Addr}{o:HO}(hx:H x=none)(hd:H dx=none)(hne:dx≠x):ag H (L2.upd (L2.upd H dx<|.own x) x o):=(ag.new hd _).trans (ag.new (by rw[aB (Ne.symm hne)];exact hx) _)
def uI:DS (aj i4) ["lines","due","kinds","at","desk","e"] ["lines","due"] ["LineError","HatError","Desk","isinstance","NoLine","Twice","Unknown","TooMany","ValueError","_law_tells","bool","range","int"]:=aQ
def zD (B:Bn mg)(ER:lG K mg mQ er)(IT:ql K mQ er)(bP:gX K mg "Hall" aD ["counts","groups","worn"])(cu:gX K mg "Desk" aR ["book","hall"])(D:Def K mg "_law_right" i4)(mW:KS P w K mg base 8 aR "__init__" "self" "text" "" (w6 K aD aR er))(xu:Fn P w K mg base 8 "_law_tells" ["desk","lines"] (BA K aD aR)):Fn P w K mg base 10 "_law_right" ["lines","due"] (sE K):=by
 refine D.gz uI (by walk_at"hB") (by walk_at"hL") ?_
 intro X S e1 I e3 e4 e5 hc hsc hown hex hxe hr hu H vs Q E h;subst e1 I e3 e4 e5;obtain⟨l,u,L,rfl,n,v,q⟩:=h;have h30:=n.fC;have hjl:=fm 10 L;have hsl:=eK 400 L λx hx=>(n.ok x hx).1;have h11:L.length*401<=40*401:=yx _ (by omega)
 have hrj:L≠[Str.ofString ""]->bH (Str.join ⟨#[10]⟩ L)=L:=λc=>jU (λx hx z=>((n.ok x hx).2 10 z).2 rfl) c;have r:(bH<|Str.join ⟨#[10]⟩ L).length<=100/\∀ x∈bH (Str.join ⟨#[10]⟩ L),x.length<=800:=by
  by_cases c:L=[Str.ofString ""]
  ·rw[c];have e:bH (Str.join ⟨#[10]⟩ [Str.ofString ""])=[]:=rfl;rw[e];exact⟨ad,λx hx=>nomatch hx⟩
  ·rw[hrj c];exact⟨by omega,λx hx=>fz (n.ok x hx).1 ad⟩
 have en:(Str.ofString "\n")=⟨#[10]⟩:=by decide +kernel
 have hsz:(1000002:Nat)<=sizeLine:=by decide
 generalize ez:Str.join ⟨#[10]⟩ L=z at v r hrj hjl;refine⟨_,(ae (bo S 2<|dq bF)
   (ae (bo S 3 aq)
   (ae (bo S 4 vG)
   (ae (RJ (names:=mQ) (er:=er) S 0 5 hxe hc hown hex ER ad (OH<|TL S 4<|Sk S hxe 2 cu mW hr<|aa<|fL q7 Da F1 (bD rfl) rfl aU<|aa<|kv S 0)
   (λa g=>(ae (bo g 2 (dq (ah (cE g 3 (iH (names:=mQ) (er:=er) (y:="NoLine") ER ad) B.isinstance UX (ah (kv g 5) (aa (RF g 4 ER ad)))) (ah (cE g 3 (iH (names:=mQ) (er:=er) (y:="Twice") ER ad) B.isinstance UX (ah (kv g 5) (aa (RF g 5 ER ad)))) (ah (cE g 3 (iH (names:=mQ) (er:=er) (y:="Unknown") ER ad) B.isinstance UX (ah (kv g 5) (aa (RF g 6 ER ad)))) (aa (cE g 3 (iH (names:=mQ) (er:=er) (y:="TooMany") ER ad) B.isinstance UX (ah (kv g 5) (aa (RF g 7 ER ad))))))))))
   (ae (bo g 2 (aP (bV rfl) (kv g 2) (dq (ah (cE g 3 (iH (names:=mQ) (er:=er) (y:="HatError") ER ad) B.isinstance UX (ah (kv g 5) (aa (RF g 1 ER ad))))<|aa<|cE g 3 (CL (names:=mQ) (er:=er) ER) B.isinstance UX<|ah (kv g 5)<|aa<|Tn g 8 B.ValueError mL))))
   (ai<|bo g 3<|kle ER IT<|kv g 5)))) (by rw[hsc];decide +kernel))
   (ae (cj (aL (ir hu rfl) (kv S 1) (dq bF)<|ao _) (ai<|aI<|mH (gO (ir hu rfl) (kv S 2) (dq bF)<|ao _)<|qa<|Uj (gO (ir hu rfl) (kv S 0) (dq<|aa aU)<|ao _)<|qa<|cK S 9 xu hr<|ah (kv S 4)<|aa<|kv S 0) av)
   (ae (cj (xT (Ik (aL (lx hu rfl) (kv S 2) (aP (bV rfl) (ju S hc hsc (iw S 11 B.range<|aa aq) (N:=["k","due"]) (W:=["k"]) (G:=[]) (fv:=[none,some 1]) Dk0 λcl C fp s H S2=>⟨(kg S2 0),bG,(gO aM (kv S2 0) (nY (df rfl) (kv S2 1) aq λ_ _=>rfl)<|ao _)⟩)<|dq<|ah vF<|aa vF)<|ao _)<|qb<|kn<|cE S 3 rq B.isinstance UX<|ah (kv S 3)<|aa<|Tn S 10 B.bool boot_bool)) (ai<|aI vF) av)
   (ai<|aI<|mH (cE S 3 rq B.isinstance UX<|ah (kv S 3)<|aa<|Tn S 12 B.int boot_int)<|qa<|gO aM (kv S 3) (cp<|kv S 1)<|ao _))))))),?_⟩
 walk_at"i";refine⟨ad,λk0 hk0=>?_⟩
 generalize e0:upd H k0 _=H0;obtain⟨s0,m0⟩:=nw hk0 e0;clear e0;walk_at"h";walk_at"h";have hlt:∀ e j,mO (bH z)=some (e,j)->e<4:=λe j h=>(o9 h).1;lia;refine wA (Pg X.K aD aR H l u z<|mO<|bH z) ?_ (λR hR=>?_)
 rotate_left
 ·refine TZ (λσ' C d J=>∃ e j o,mO (bH z)=some (e,j)/\σ'=[some (.ref l),some<|.ref u,some<|.ref k0,some<|.int 0,some .bx,none]/\C=.ref (er<|kG e)/\d=some o/\ag H0 J/\J o=some (.xd [("line",.int (j:Int))])) (λW hW=>?_) ?_
  ·lia;rw[en];refine⟨rfl,uw (au.of<|s0 _ _ n.at_) (by show (L.map λz=>z.length+1).sum<=_;omega) (by rw[ez];omega) ?_⟩
   rw[ez];intro x o hx hdx hne;refine⟨x,o,z,rfl,af,by omega,r.1,r.2,λhn M b hl G J eM BM oJ _ hD DK=>⟨rfl,?_⟩,λe j hj dx' J sJ hd=>hW _ _ _ _ ⟨e,j,dx',hj,rfl,rfl,rfl,(Dv hx hdx hne).trans sJ,hd⟩⟩
   have sJ:=zC hx hdx hne oJ;exact hR _ _ ⟨s0.trans sJ,k0,.inl ⟨x,hl,M,b,G,hn,eM,BM,rfl,sJ _ _ m0,hD,DK⟩⟩
  rintro σ' C d J ⟨e,j,o,hj,rfl,rfl,rfl,sJ,hd⟩;refine⟨kG e,nH.1,rfl,nH.2.2,λa ha=>?_⟩;have hx:=(nH (j:=e)).1;have hh:=(nH (j:=e)).2.1;have fin:∀ (k:Addr) (J':Hp),ag H0 J'->J' k=some (.lst<|(nG<|kG e).map V.bl)->R [some (.ref l),some<|.ref u,some<|.ref k,some<|.int (j:Int),some .bx,none] J':=λk J' s m=>hR _ _ ⟨s0.trans s,k,.inr ⟨e,j,hj,rfl,m⟩⟩;generalize kG e=x at hx hh fin ⊢;generalize ej:upd J a _=J0;obtain⟨sa,ma⟩:=nw ha ej;clear ej;have s00:=sJ.trans sa;have hd0:=sa _ _ hd;have isa:∀ {J':Hp},ag J0 J'->J' a=some (oR a (er x)<|some o)/\Kx J' (some o):=λs=>⟨s _ _ ma,_,s _ _ hd0⟩;walk_at"i";have Z:=isa<|ag.refl J0;refine⟨a,x,some o,rfl,hx,Z.1,Z.2,a,x,some o,rfl,hx,Z.1,Z.2,a,x,some o,rfl,hx,Z.1,Z.2,a,x,some o,rfl,hx,Z.1,Z.2,ad,λp1 hp1=>?_⟩
  generalize e1:upd J0 p1 _=J1;obtain⟨Y,m1⟩:=nw hp1 e1;clear e1
  try dsimp only
  walk_at"h";have i1:=isa Y;refine⟨a,x,some o,rfl,hx,i1.1,i1.2,a,x,some o,rfl,hx,i1.1,i1.2,ad,λp2 hp2=>?_⟩
  generalize I:upd J1 p2 _=J2;obtain⟨O,m2⟩:=nw hp2 I;clear I;refine ug (au.of<|O _ _ m1) (au.of m2) (by show 6<=_;decide) λp3 J3 s3 _ m3=>?_
  try dsimp only
  lia;have s03:=Y.trans<|O.trans s3;refine⟨a,x,o,_,rfl,hx,hh,s03 _ _ ma,s03 _ _ hd0,?_⟩
  try dsimp only
  lia;exact fin p3 J3 (s00.trans s03) m3
 rintro σ H1 ⟨Y,k,⟨d,hl,M,b,G,hn,eM,BM,rfl,hk,hD,DK⟩ | ⟨e,j,hj,rfl,hk⟩⟩
 ·rw[hn] at v;have t:=Y _ _ v;walk_at"i";refine⟨ad,λp hp=>?_⟩
  generalize I:upd H1 p _=H2;obtain⟨O,m2⟩:=nw hp I;clear I;refine⟨_,_,.lst (au.of<|O _ _ t) .nil,.lst (au.of m2) .nil,ad,ad,?_⟩
  rw[show PyData.eqv (.list []) (.list [])=true by decide]
  lia;refine⟨ad,λl2 hl2=>?_⟩
  generalize e3:upd H2 l2 _=H3;obtain⟨s3,m3⟩:=nw hl2 e3;clear e3;have s23:=O.trans s3;refine⟨_,_,.lst (au.of<|s23 _ _ hk) .nil,.lst (au.of m3) .nil,ad,ad,?_⟩
  rw[show PyData.eqv (.list []) (.list [])=true by decide]
  lia;refine⟨ad,λl4 U=>?_⟩
  generalize e4:upd H3 l4 _=H4;obtain⟨s4,m4⟩:=nw U e4;clear e4;have m4:H4 l4=some (.lst<|[Str.ofString ""].map V.str):=m4;have T:=s23.trans s4;have U:=(Y.trans T) _ _ n.at_;refine⟨_,_,.lst (au.of U)<|dE L,.lst (au.of m4)<|dE [Str.ofString ""],fQ λx hx c hc=>((n.ok x hx).2 c hc).1,Dk0,?_⟩
  rw[MM];lia;refine bp (λc=>?_) λc=>?_
  ·exact q _<|Y.trans T
  ·rw[hrj c] at eM;exact⟨d,hl,l,M,b,G,rfl,by rw[U,eM],BM,by rw[<-b5 (f:=cM),<-eM];exact h30,λx hx=>(n.ok _ (by rw[eM];exact List.mem_map_of_mem hx)).1,hD.mono T,DK,λH5 s5=>q _<|Y.trans<|T.trans s5⟩
 ·rw[hj] at v;have t:H1 u=some (.lst [.int (e:Int),.int (j:Int)]):=Y _ _ v;have he4:=hlt e j hj;walk_at"i";refine⟨ad,λl hl=>?_⟩
  generalize I:upd H1 l _=H2;obtain⟨O,m2⟩:=nw hl I;clear I;refine⟨_,_,.lst (au.of<|O _ _ t)<|.cons (.int _)<|.cons (.int _) .nil,.lst (au.of m2) .nil,pI _ _,ad,?_⟩
  rw[BI];walk_at"i";have hu2:=O _ _ t;refine⟨4,rfl,ad,ad,n9 nW (λ_=>true) (λi=>.bl<|decide<|(i:Int)=(e:Int)) ad ?_ ?_⟩
  ·intro i J A B' hi hS hA _;rw[Int.zero_add];lia;refine ax (i:=((0:Nat):Int)) (au.of<|hS _ _ hu2) (ay rfl) ?_;lia;exact hA rfl _<|ag.refl _
  intro acc H3 hn3 s3 hacc;rw[bZ] at hacc;lia;refine⟨ad,λp4 hp4=>?_⟩
  generalize e4:upd H3 p4 _=H4;obtain⟨s4,m4⟩:=nw hp4 e4;clear e4;refine ug (au.of<|s4 _ _ hacc) (au.of m4) (by show 6<=_;decide) λp5 H5 s5 _ m5=>?_
  have m5:H5 p5=some (.lst<|(Ia (e:Int)).map V.bl):=m5;rw[<-xj he4] at m5;have s25:=O.trans<|s3.trans<|s4.trans s5;refine⟨_,_,.lst (au.of<|s25 _ _ hk)<|yT _,.lst (au.of m5)<|yT _,pH _,pH _,?_⟩;rw[Lg];lia;refine Fc (b:=false) rfl Dk0 ?_
  lia;refine Fc rfl rfl ?_;lia;refine ax (i:=((1:Nat):Int)) (au.of<|s25 _ _ t) (ay rfl) ?_;lia;exact q _<|Y.trans s25
def SG (_:Nat)(σ:L2.St)(H:Hp):Prop:=∃ (s bk l:Addr) (L:List Str) (y2 y3:Option V),σ=[some (.ref s),some<|.ref bk,some<|.ref l,y2,y3]/\OM H l L
def SH (H0:Hp)(s bk l:Addr)(k:Nat)(L:List Str)(σ:L2.St)(H:Hp):Prop:=∃ u:Addr,σ=[some (.ref s),some<|.ref bk,some<|.ref l,some<|.int (k:Int),some<|.ref u]/\ag H0 H/\H u=some (.lst<|GV<|mO<|bH<|Str.join ⟨#[10]⟩ L)
def Ph:DS (aj kQ) ["script","book","lines","k","due"] ["script"] ["_law_house","sum","range","_law_spoilt_text","_law_draws","_law_first","_law_right"]:=aQ
def Pj (B:Bn mg){f:Addr}{fd:FuncData}(FL:Ij K "law" "law" kQ f fd)(xw:Fn P w K mg base 4 "_law_house" ["cells","most","kinds"] (sj K))(bQ:Fn P w K mg base 1 "_law_draws" ["cell","count"] gB)(kT:Fn P w K mg base 4 "_law_spoilt_text" ["book","drawn"] By)(xx:Fn P w K mg base 3 "_law_first" ["lines"] BC)(xy:Fn P w K mg base 10 "_law_right" ["lines","due"] (sE K)):fi P w K mg base DM 11 f fd ["script"] (AB K):=by
 refine FL.gq Ph (λvs H Q E h=>?_) ?_
 ·obtain⟨a,ns,rfl,_⟩:=h;rfl
 walk_at"hI";obtain⟨a,xs,rfl,X,hl,q⟩:=h;refine⟨_,(ae (bo S 1 (cK S 0 xw hr (ah (ju S hc hsc (iw S 2 B.range<|aa aq) (N:=["k","script"]) (W:=["k"]) (G:=["sum"]) (fv:=[none,some 0]) Dk0 λcl C fp s H O=>⟨(kg O 0),bG,(cE O 0 (cN rfl rfl) B.sum boot_sum<|aa<|A7 (kv O 1) (kv O 0) aq rfl)⟩)<|ah aq<|aa aq)))
   (ae (bo S 2<|cK S 3 kT hr<|ah (kv S 1)<|aa<|cK S 4 bQ hr<|ah (aP aJ (aP aJ (cE S 1 (cN hc rfl) B.sum boot_sum<|aa<|A7 (kv S 0) aq aq rfl)<|Aw<|cE S 1 (cN hc rfl) B.sum boot_sum<|aa<|A7 (kv S 0) aq aq rfl)<|cE S 1 (cN hc rfl) B.sum boot_sum<|aa<|A7 (kv S 0) aq aq rfl)<|aa aq)
   (ae (eV hxe hc (iw S 2 B.range<|aa aq) (kg S 3) (ae (bo S 4<|cK S 5 xx hr<|aa<|kv S 2)
   (ae (cj (aL (ir hu rfl) (kv S 2) (dq<|aa aU)<|ao _) (ai<|bo S 4<|dq bF) av)
   (ae (cj (qc<|kn<|cK S 6 xy hr<|ah (kv S 2)<|aa<|kv S 4) (ai<|aI vF) av)
   (ae (cj (aL (ir hu rfl) (kv S 4) (dq bF)<|ao _) (ai<|aI vF) av)
   (ai<|dv<|fL ri slot_list_pop type_list_pop vw rfl (kv S 2)<|aa<|cp<|kv S 4))))))
   (ai<|aI vF)))),?_⟩
 have hsz:(1000002:Nat)<=sizeLine:=by decide
 walk_at"i";refine Fz 3 rfl ad (λ_ _=>True) ?_ ?_
 ·intro i H1 A hi hS T;lia;refine⟨_,rfl,_,rfl,a,_,rfl,hS.seq X,ad,λR p y hfit=>?_⟩
  rw[jh];exact⟨p,_,rfl,au.of af,T _ _ (ag.new y _) trivial⟩
 intro cl Z H1 hcl0 s1 hcl t _;lia;refine⟨cl,Z,8,4,rfl,au.of hcl,t,ad,ad,ad,ad,λb ns cs ws H2 s2 hb P _=>?_⟩
 have n:=s1.trans s2;walk_at"i";refine⟨_,rfl,_,rfl,a,_,rfl,n.seq X,ad,λR1 p1 hp1 _=>?_⟩
 rw[jh];generalize m:upd H2 p1 _=H3;obtain⟨r,hq1⟩:=vd hp1 m;clear m;refine⟨p1,_,rfl,au.of hq1,?_⟩;lia;refine⟨_,rfl,_,rfl,a,_,rfl,(n.trans r).seq X,ad,λR2 p2 hp2 _=>?_⟩
 rw[jh];generalize m:upd H3 p2 _=H4;obtain⟨j,hq2⟩:=vd hp2 m;clear m;refine⟨p2,_,rfl,au.of hq2,?_⟩;lia;refine⟨_,rfl,_,rfl,a,_,rfl,(n.trans<|r.trans j).seq X,ad,λR3 p3 hp3 _=>?_⟩
 rw[jh];generalize m:upd H4 p3 _=H5;obtain⟨U,ab⟩:=vd hp3 m;clear m;refine⟨p3,_,rfl,au.of ab,?_⟩;lia;refine⟨_,40,rfl,ad,λdr dn H6 s6 _ Y hdn aD=>?_⟩
 have s26:=r.trans<|j.trans<|U.trans s6;refine⟨b,dr,ns,cs,ws,dn,rfl,hb.mono s26,P,⟨Y,hdn,aD⟩,λl L H7 hL1=>?_⟩;walk_at"i";refine forR 3 SG rfl ad ⟨a,b,l,L,_,_,rfl,hL1⟩ ?_ ?_
 ·rintro k σ J hk ⟨s,bk,l,L,y2,y3,rfl,g⟩;have v:=g.fC;have T:MJ J l L:=⟨g.at_,by omega,λx hx=>⟨fz (g.ok x hx).1 ad,λc hc=>((g.ok x hx).2 c hc).1⟩⟩
  walk_at"i";refine⟨l,L,rfl,T,λu J1 r mu=>?_⟩
  try dsimp only
  have hl1:=r _ _ g.at_;lia;refine wA (SH J s bk l k L) ?_ (λR hR=>?_)
  rotate_left
  ·lia;refine⟨ad,λp y=>?_⟩
   generalize e2:upd J1 p _=J2;obtain⟨j,m2⟩:=nw y e2;clear e2;have m2:J2 p=some (.lst<|[Str.ofString ""].map V.str):=m2;refine⟨_,_,.lst (au.of<|j _ _ hl1)<|dE L,.lst (au.of m2)<|dE [Str.ofString ""],fQ λx hx=>(T.ok x hx).2,Dk0,?_⟩
   rw[MM];lia;refine bp (λc=>?_) λc=>?_
   ·refine⟨ad,λu2 hu2=>?_⟩
    refine hR _ _ ⟨u2,rfl,r.trans<|j.trans<|ag.new hu2 _,?_⟩;rw[c,af];rfl
   ·refine hR _ _ ⟨u,rfl,r.trans j,?_⟩;rw[jU (λx hx z=>((g.ok x hx).2 10 z).2 rfl) c];exact j _ _ mu
  rintro σ2 J2 ⟨u,rfl,j,D⟩;have hl2:=j _ _ g.at_;walk_at"i";refine⟨l,u,L,rfl,⟨hl2,v,g.ok⟩,D,λJ3 U=>?_⟩;walk_at"i";refine⟨ad,λp y=>?_⟩
  generalize e4:upd J3 p _=J4;obtain⟨t4,m4⟩:=nw y e4;clear e4;have d:=(U.trans t4) _ _ D;have M:=(j.trans<|U.trans t4) _ _ g.at_
  cases o:mO (bH<|Str.join ⟨#[10]⟩ L) with
  | none=>
   rw[o] at d;refine⟨_,_,.lst (au.of d) .nil,.lst (au.of m4) .nil,ad,ad,?_⟩
   rw[show PyData.eqv (.list []) (.list [])=true by decide]
   lia;exact q _
  | some ek=>
   obtain⟨e,i⟩:=ek;rw[o] at d;have d:J4 u=some (.lst [.int (e:Int),.int (i:Int)]):=d;refine⟨_,_,.lst (au.of d)<|.cons (.int _)<|.cons (.int _) .nil,.lst (au.of m4) .nil,pI _ _,ad,?_⟩
   rw[BI];lia;have I:L≠[Str.ofString ""]:=λc=>by
    rw[c] at o;have e:mO (bH<|Str.join ⟨#[10]⟩ [Str.ofString ""])=none:=rfl;rw[e] at o;cases o
   rw[jU (λx hx z=>((g.ok x hx).2 10 z).2 rfl) I] at o;have hi:i<L.length:=by have:=(o9 o).2.2;omega
   refine⟨.inl ⟨rfl,_,au.of M⟩,?_⟩;refine ax (i:=((1:Nat):Int)) (au.of d) (ay rfl) ?_;have hi':i<(L.map V.str).length:=by rw[b5];exact hi
   refine⟨l,_,_,i,_,rfl,rfl,M,by omega,by omega,Ma hi',aC hi,?_⟩
   refine⟨s,bk,l,L.eraseIdx i,_,_,rfl,⟨?_,?_,λx hx=>g.ok x<|List.mem_of_mem_eraseIdx hx⟩⟩
   ·rw[af,zB]
   ·exact fz (List.length_eraseIdx_le _ _) v
 ·rintro σ J ⟨s,bk,l,L,y2,y3,rfl,g⟩;lia;exact q _
def all_mk {l:PySem.W.OpenLaw}{h:Heap}{fa f31 f57:Addr}(X:K.In h)(G:h.Ns mainGlobals mg)(hfa:mg "law"=some (.ref fa))
  {od31 an31 od57 an57:Option Addr} {sl31 sl57:Array (Option Value)} {oc31 kV31 dc31 pm31 cd31 ct31 oc57 kV57 dc57 pm57 cd57 ct57:Value}
  (d0:DQ K "greatest_divisor" dm)
  (d1:DQ K "share" uy)
  (d2:DQ K "sure" zm)
  (d3:DQ K "product" lR)
  (d4:DQ K "circle_guess" fD)
  (d5:DQ K "ring_guess" gY)
  (d6:DQ K "places" pv)
  (d7:DQ K "sees" zo)
  (d8:DQ K "is_circle" iO)
  (d9:DQ K "is_ring" lS)
  (d10:DQ K "first_ready" fY)
  (d11:DQ K "laid_out" jP)
  (d12:DQ K "first_seen" gZ)
  (d13:DQ K "sight_ring" g4)
  (d14:DQ K "rises" uz)
  (d15:DQ K "is_group" jQ)
  (d16:DQ K "group_fault" fZ)
  (d17:DQ K "picked" pw)
  (d18:DQ K "group_sure" g5)
  (d19:DQ K "made_sure" iP)
  (d20:DQ K "group_guess" f7)
  (d21:DQ K "sights_from" f9)
  (d22:DQ K "lone_group" g6)
  (d23:DQ K "lone_choices" fE)
  (d24:DQ K "parts_of" jR)
  (d25:DQ K "best_choice" gh)
  (d26:DQ K "best_groups" gj)
  (d27:DQ K "is_name" lT)
  (d28:DQ K "is_count" jS)
  (d29:DQ K "is_hat_line" gk)
  (d30:DQ K "is_sees_line" fF)
  {T31:Addr} {t31:Tok} {o31:Obj} {m31:Nat} (a31:nsIn K mainGlobals "read_line"=some (some<|.ref f31)) (l31:K.lookup f31=some ⟨oc31,od31,.func<|fnOf "read_line" "read_line" (bf cU) (aO cU) (aj cU) (.ref T31) kV31 dc31 pm31 an31 cd31 ct31,sl31⟩) (c31:codeIn K cd31 "read_line"=true) (k31:keepIn K (.ref f31)=true) (lt31:K.lookup T31=some o31) (ld31:o31.data=.seq #[.int 0 t31] m31)
  (d32:DQ K "add_hat" lU)
  (d33:DQ K "add_sight" iQ)
  (d34:DQ K "rows_of" lV)
  (d35:DQ K "read_book" iR)
  (d36:DQ K "shown_book" g7)
  (d37:DQ K "fits" zp)
  (d38:DQ K "is_ask" pz)
  (d39:DQ K "number_of" iS)
  (d40:DQ K "named" uA)
  (d41:DQ K "told_of" lW)
  (d42:DQ K "_law_draws" iT)
  (d43:DQ K "_law_fresh" iU)
  (d44:DQ K "_law_names" iV)
  (d45:DQ K "_law_count" iW)
  (d46:DQ K "_law_mixed_lines" dG)
  (d47:DQ K "_law_sight" iX)
  (d48:DQ K "_law_hat_count" eP)
  (d49:DQ K "_law_house" iY)
  (d50:DQ K "_law_made_of" gm)
  (d51:DQ K "_law_is_line" gn)
  (d52:DQ K "_law_first" iZ)
  (d53:DQ K "_law_bad_line" fG)
  (d54:DQ K "_law_spoilt_text" dH)
  (d55:DQ K "_law_tells" i3)
  (d56:DQ K "_law_right" i4)
  (a57:nsIn K mainGlobals "law"=some (some<|.ref f57)) (l57:K.lookup f57=some ⟨oc57,od57,.func<|fnOf "law" "law" (bf kQ) (aO kQ) (aj kQ) .none kV57 dc57 pm57 an57 cd57 ct57,sl57⟩) (c57:codeIn K cd57 "law"=true) (k57:keepIn K (.ref f57)=true)
  (z0:nsIn K mainGlobals "range"=some none)
  (z1:nsIn K mainGlobals "len"=some none)
  (z2:nsIn K mainGlobals "sum"=some none)
  (z3:nsIn K mainGlobals "max"=some none)
  (z4:nsIn K mainGlobals "isinstance"=some none)
  (z5:nsIn K mainGlobals "int"=some none)
  (z6:nsIn K mainGlobals "bool"=some none)
  (z7:nsIn K mainGlobals "str"=some none)
  (z8:nsIn K mainGlobals "tuple"=some none)
  (z9:nsIn K mainGlobals "list"=some none)
  (z10:nsIn K mainGlobals "sorted"=some none)
  (z11:nsIn K mainGlobals "set"=some none)
  (z12:nsIn K mainGlobals "all"=some none)
  (z13:nsIn K mainGlobals "any"=some none)
  (z14:nsIn K mainGlobals "zip"=some none)
  (z15:nsIn K mainGlobals "enumerate"=some none)
  (z16:nsIn K mainGlobals "ValueError"=some none)
  {u0:Tok} (q0:nsIn K mainGlobals "LETTERS"=some (some<|.str "abcdefghijklmnopqrstuvwxyz" u0))
  {u1:Tok} (q1:nsIn K mainGlobals "FIGURES"=some (some<|.str "0123456789" u1))
  {u2:Tok} (q2:nsIn K mainGlobals "LONGEST_NAME"=some (some<|.int 12 u2))
  {u3:Tok} (q3:nsIn K mainGlobals "LONGEST_COUNT"=some (some<|.int 30 u3))
  {u4:Tok} (q4:nsIn K mainGlobals "MOST_PEOPLE"=some (some<|.int 8 u4))
  {fe0 fe1 fe2 fe3 fe4 fe5 fe6 fe7 fe8:Addr} {ft0 ft1 ft2 ft3 ft4 ft5 ft6 ft7 ft8 fu0 fu1 fu2:Tok} {fep fn0 fn1 fn2 fn3 fn4 fn5 fn6 fn7 fn8:Nat} {fd0 fd1 fd2 fd3 fd4 fd5 fd6 fd7 fd8:Option Addr} {fs0 fs1 fs2 fs3 fs4 fs5 fs6 fs7 fs8:Array (Option Value)} (fa0:nsIn K mainGlobals "FORMS"=some (some<|.ref aF)) (fhs:(aF == sysModules)=false)
  (fa1:K.lookup aF=some ⟨.type "dict",none,.dict #[⟨PyData.keyHash w.params "sure",.str "sure" ft0,.ref fe0⟩,⟨PyData.keyHash w.params "share",.str "share" ft1,.ref fe1⟩,⟨PyData.keyHash w.params "groups",.str "groups" ft2,.ref fe2⟩,⟨PyData.keyHash w.params "ring",.str "ring" ft3,.ref fe3⟩,⟨PyData.keyHash w.params "order",.str "order" ft4,.ref fe4⟩,⟨PyData.keyHash w.params "put",.str "put" ft5,.ref fe5⟩,⟨PyData.keyHash w.params "guess",.str "guess" ft6,.ref fe6⟩,⟨PyData.keyHash w.params "right",.str "right" ft7,.ref fe7⟩,⟨PyData.keyHash w.params "book",.str "book" ft8,.ref fe8⟩] fep,#[]⟩)
  (fl0:K.lookup fe0=some ⟨.type "tuple",fd0,.seq #[] fn0,fs0⟩) (fl1:K.lookup fe1=some ⟨.type "tuple",fd1,.seq #[] fn1,fs1⟩) (fl2:K.lookup fe2=some ⟨.type "tuple",fd2,.seq #[] fn2,fs2⟩) (fl3:K.lookup fe3=some ⟨.type "tuple",fd3,.seq #[] fn3,fs3⟩) (fl4:K.lookup fe4=some ⟨.type "tuple",fd4,.seq #[] fn4,fs4⟩) (fl5:K.lookup fe5=some ⟨.type "tuple",fd5,.seq #[.str "name" fu0,.str "colour" fu1] fn5,fs5⟩) (fl6:K.lookup fe6=some ⟨.type "tuple",fd6,.seq #[.str "name" fu2] fn6,fs6⟩) (fl7:K.lookup fe7=some ⟨.type "tuple",fd7,.seq #[] fn7,fs7⟩) (fl8:K.lookup fe8=some ⟨.type "tuple",fd8,.seq #[] fn8,fs8⟩)
  (caHall:nsIn K mainGlobals "Hall"=some (some<|.ref aD)) (cokHall:Bb K "Hall" aD ["counts","groups","worn"]=true)
  (caDesk:nsIn K mainGlobals "Desk"=some (some<|.ref aR)) (cokDesk:Bb K "Desk" aR ["book","hall"]=true)
  {er0:Addr} {er1:Addr} {er2:Addr} {er3:Addr} {er4:Addr} {er5:Addr}
  (md0:MQ K aD "__init__" "Hall.__init__" eQ)
  (md1:MQ K aD "guess" "Hall.guess" g9)
  (md2:MQ K aD "right" "Hall.right" hJ)
  {mT3:Addr} {mu3:Tok} {mO3:Obj} {mN3:Nat} {mf3:Addr} {md3 mn3:Option Addr} {ms3:Array (Option Value)} {mo3 mk3 me3 mp3 mc3 mt3:Value} (ma3:findIn K (.ref aR) "__init__"=some (some<|.ref mf3)) (ml3:K.lookup mf3=some ⟨mo3,md3,.func<|fnOf "__init__" "Desk.__init__" (bf bT) (aO bT) (aj bT) (.ref mT3) mk3 me3 mp3 mn3 mc3 mt3,ms3⟩) (mq3:codeIn K mc3 "Desk.__init__"=true) (mw3:keepIn K (.ref mf3)=true) (mi3:isFn K (.ref mf3)=true) (mlt3:K.lookup mT3=some mO3) (mld3:mO3.data=.seq #[.str "" mu3] mN3)
  (md4:MQ K aR "ask" "Desk.ask" jT)
  {mf5:Addr} {md5 mn5:Option Addr} {ms5:Array (Option Value)} {mo5 mk5 me5 mp5 mc5 mt5:Value} (ma5:findIn K (.ref er0) "__init__"=some (some<|.ref mf5)) (ml5:K.lookup mf5=some ⟨mo5,md5,.func<|fnOf "__init__" "LineError.__init__" (bf bE) (aO bE) (aj bE) .none mk5 me5 mp5 mn5 mc5 mt5,ms5⟩) (mq5:codeIn K mc5 "LineError.__init__"=true) (mw5:keepIn K (.ref mf5)=true) (mi5:isFn K (.ref mf5)=true)
  (ea0:nsIn K mainGlobals "LineError"=some (some<|.ref er0))
  (ea1:nsIn K mainGlobals "HatError"=some (some<|.ref er1))
  (ea2:nsIn K mainGlobals "NoLine"=some (some<|.ref er2))
  (ea3:nsIn K mainGlobals "Twice"=some (some<|.ref er3))
  (ea4:nsIn K mainGlobals "Unknown"=some (some<|.ref er4))
  (ea5:nsIn K mainGlobals "TooMany"=some (some<|.ref er5))
  (eok:Mt K mQ (λx=>if x=("LineError":Str) then er0 else if x=("HatError":Str) then er1 else if x=("NoLine":Str) then er2 else if x=("Twice":Str) then er3 else if x=("Unknown":Str) then er4 else if x=("TooMany":Str) then er5 else 0)=true)
  (iok:MB K mQ (λx=>if x=("LineError":Str) then er0 else if x=("HatError":Str) then er1 else if x=("NoLine":Str) then er2 else if x=("Twice":Str) then er3 else if x=("Unknown":Str) then er4 else if x=("TooMany":Str) then er5 else 0)=true)
  : ∃ fd:FuncData,(∀ (s:Shared) (v:Value),BindsTo s fd ⟨[v],[]⟩ [("script",v)])/\∀ base:Heap,K.In base->base.Ns mainGlobals mg->fi l.prog w K mg base DM 11 fa fd ["script"] (AB K):=by
 have e:=hfa.symm.trans<|mg_of X G a57
 cases e
 have jY:=d0.def X G;have Lo:=d1.def X G;have L:=d2.def X G;have DB:=d3.def X G;have pN:=d4.def X G;have uR:=d5.def X G;have Ie:=d6.def X G;have Pq:=d7.def X G;have xA:=d8.def X G;have DC:=d9.def X G;have qF:=d10.def X G;have zM:=d11.def X G;have uS:=d12.def X G;have uT:=d13.def X G;have Lp:=d14.def X G;have zN:=d15.def X G;have qG:=d16.def X G;have Ig:=d17.def X G;have Q:=d18.def X G;have xB:=d19.def X G;have qH:=d20.def X G;have qI:=d21.def X G;have uV:=d22.def X G;have pO:=d23.def X G;have Y:=d24.def X G;have qJ:=d25.def X G;have qK:=d26.def X G;have DD:=d27.def X G;have zP:=d28.def X G;have qL:=d29.def X G;have M:=d30.def X G;have xC:FQ K mg "read_line" cU 0:=Kh X G a31 l31 c31 k31 lt31 ld31;have DE:=d32.def X G;have xD:=d33.def X G;have DF:=d34.def X G;have xE:=d35.def X G;have uW:=d36.def X G;have Pr:=d37.def X G;have Ih:=d38.def X G;have O:=d39.def X G;have Lq:=d40.def X G;have DG:=d41.def X G;have xG:=d42.def X G;have xH:=d43.def X G;have xI:=d44.def X G;have xJ:=d45.def X G;have kU:=d46.def X G;have xK:=d47.def X G;have mY:=d48.def X G;have xM:=d49.def X G;have qM:=d50.def X G;have qN:=d51.def X G;have xN:=d52.def X G;have pQ:=d53.def X G;have kW:=d54.def X G;have xO:=d55.def X G;have xP:=d56.def X G;have B:Bn mg:=⟨Gc X G z0,Gc X G z1,Gc X G z2,Gc X G z3,Gc X G z4,Gc X G z5,Gc X G z6,Gc X G z7,Gc X G z8,Gc X G z9,Gc X G z10,Gc X G z11,Gc X G z12,Gc X G z13,Gc X G z14,Gc X G z15,Gc X G z16⟩;have a:=Bc X G cokHall;have f:=Bc X G cokDesk;have mZ:=md0.def;have uX:=md1.def;have uY:=md2.def;have ng:wJ K aR "__init__" "Desk.__init__" bT "":=Hb ma3 ml3 mq3 mw3 mi3 mlt3 mld3;have zQ:=md4.def;have i7:qk K ((λx=>if x=("LineError":Str) then er0 else if x=("HatError":Str) then er1 else if x=("NoLine":Str) then er2 else if x=("Twice":Str) then er3 else if x=("Unknown":Str) then er4 else if x=("TooMany":Str) then er5 else 0) "LineError") "__init__" "LineError.__init__" bE:=by rw[show (λx=>if x=("LineError":Str) then er0 else if x=("HatError":Str) then er1 else if x=("NoLine":Str) then er2 else if x=("Twice":Str) then er3 else if x=("Unknown":Str) then er4 else if x=("TooMany":Str) then er5 else 0) "LineError"=er0 from if_pos rfl];exact Bd ma5 ml5 mq5 mw5 mi5
 have d:=Kv X G eok;have A:=Ha (P:=l.prog) (w:=w) X G fa0 fhs fa1 fl0 fl1 fl2 fl3 fl4 fl5 fl6 fl7 fl8;have c:=KI iok;have o:Cs mg:=⟨⟨_,mg_of X G q0⟩,⟨_,mg_of X G q1⟩,⟨_,mg_of X G q2⟩,⟨_,mg_of X G q3⟩,⟨_,mg_of X G q4⟩⟩;refine⟨fnOf "law" "law" (bf kQ) (aO kQ) (aj kQ) .none kV57 dc57 pm57 an57 cd57 ct57,λs v=>.of_eq rfl,λbase _ _=>?_⟩;have FL:=yl (st:=kQ) l57 c57 k57;have g:=De (P:=l.prog) (w:=w) (base:=base) B o DD;have C:=zq (P:=l.prog) (w:=w) (base:=base) B o zP;have F3:=HA B qL g C;have F4:=Df B M g;have r:=O5 (mg:=mg) (P:=l.prog) (w:=w) (base:=base) c i7;have F5:=HB B d c xC r F3 F4;have F6:=zt B o d c DE r;have F7:=uE B d c xD r;have F:=K6 (P:=l.prog) (w:=w) (base:=base) B DF;have F9:=HC B xE F F5 F6 F7;have W1:=Dg (P:=l.prog) (w:=w) (base:=base) B Ie;have z:=K7 (P:=l.prog) (w:=w) (base:=base) Pq;have D:=uG (P:=l.prog) (w:=w) (base:=base) B xA;have q:=zu B DC z;have SB:=HD B uW W1;have I:=Sn (P:=l.prog) (w:=w) (base:=base) jY;have J:=HE Lo I;have C3:=K8 L J;have u:=Dh (P:=l.prog) (w:=w) (base:=base) B Ig;have N:=HF Q u C3;have U:=K9 B xB N;have W4:=pB (P:=l.prog) (w:=w) (base:=base) B qF;have W5:=xa zM W4;have H:=qt B uS z;have W7:=pC B uT W5 H;have T:=Di (P:=l.prog) (w:=w) (base:=base) B qI;have W9:=qu B uV W1 D W7 T;have n:=mR B pO W9 U;have p:=xb B Y W1;have m:=pD B qJ p;have i:=pE B qK n m;have G1:=HH (P:=l.prog) (w:=w) (base:=base) B Lp;have G2:=O6 B zN G1 D q;have Z:=Dk B qG G2;have R:=Sx (P:=l.prog) (w:=w) (base:=base) uR;have G5:=zw (P:=l.prog) (w:=w) (base:=base) DB;have G6:=Sy B pN G5;have G7:=Sz B qH R u G6;have A2:=HI B a mZ Z;have E:=Dl B a uX G7;have A6:=Dm B a uY E;have E1:=Lb Pr g C;have E2:=HJ B A Ih E1;have E3:=O8 (P:=l.prog) (w:=w) (base:=base) B O;have E5:=Dp (P:=l.prog) (w:=w) (base:=base) B Lq;have b:=Dr (P:=l.prog) (w:=w) (base:=base) B xG;have y:=HL (P:=l.prog) (w:=w) (base:=base) B xH;have L3:=HQ B xI b y;have t:=HR B xJ b;have L5:=HS (P:=l.prog) (w:=w) (base:=base) B kU;have L7:=zy (P:=l.prog) (w:=w) (base:=base) B xK;have L8:=Ld B mY t;have L9:=zA B xM b L3 L8 L7;have E8:=Dq B DG SB F;have j:=O9 B a f A zQ E2 E3 E A6 E5 E8;have E9:=HK B d a f ng F9 i A2;have N1:=Ds (P:=l.prog) (w:=w) (base:=base) B qM;have N2:=Du B qN N1;have N3:=HW B xN N2;have N4:=Pe B pQ t y;have N5:=HY B kW b L5 N4;have S:=HZ B a f xO j;have N7:=zD B d c a f xP E9 S;exact Pj B FL L9 b N5 N3 N7
def walk {l:PySem.W.OpenLaw}{q:Program}{loose:List Str}{XP:(Str->Option Value)->Heap->Prop}{YP:World->Heap->Prop}{d:DefRec}{K:Params->Frag}(hn:l.most=some 63)(hdf:d.params.defaults=[])
  (hY:∀ (w:World) (h:Heap),YP w h->(K w.params).In h)
  (F:∀ (w:World) (mg:Str->Option Value) (fa:Addr) (h:Heap),(K w.params).In h->h.Ns mainGlobals mg->mg d.name=some (.ref fa)->
   ∃ fd:FuncData,(∀ (s:Shared) (u:Value),BindsTo s fd ⟨[u],[]⟩ [("script",u)])/\∀ base:Heap,(K w.params).In base->base.Ns mainGlobals mg->fi l.prog w (K w.params) mg base DM 11 fa fd ["script"] (AB<|K w.params)) :
  PySem.W.WalkO q loose XP YP l.row.toRowW d [] (λf vs=>PySem.call f vs):=
 L2.Jo (n:=63) (k:=11) (x:="script") (CX:=λ_=>DM) (sp:=λw=>AB<|K w.params) hn ad hdf ⟨rfl,ad,ad⟩ hY F (λ_ _ a b e _ c=>⟨a,b,rfl,c,e,λ_=>rfl⟩) λ_ _ _ _ _ z=>z
end K77
local macro_rules | `(tactic| walk_at"q") => `(tactic| exact ⟨_, _, _, _, _, _, _, _, _, _, by k_is, by k_is, by k_is, by k_is⟩)
local macro_rules | `(tactic| walk_at"m") => `(tactic| exact ⟨_, _, _, _, _, _, _, _, _, _, by k_is, by k_is, by k_is, by k_is, by k_is⟩)
namespace PySem.W.Fast
open PySem PySem.W PyProof.Rows
def tw11010159892777022565:=True
def tw15242623271271364099:=True
def tw10990344571422681734:=True
def tw15690775109512242156:=True
def tw13856217792764819055:=True
def tw4932688870657865480:=True
def tw11595702672940676478:=True
def tw6876038053487597332:=True
def tw7981546069902911492:=True
def tw4943436954912820871:=True
def tw9161598276965983902:=True
def tw4975064296911782871:=True
def tw6480114831193481393:=True
def tw2107976025634514224:=True
def tw13646322882339483587:=True
def tw18054477673772334003:=True
def tw9788776249894686873:=True
def tw8396670773522451052:=True
def tw5276141071451233877:=True
def tw5380710136619175257:=True
def tw15378438316617806694:=True
def tw2971275700067924640:=True
def tw16826920962118074944:=True
def tw10285865506139485687:=True
def tw11082162290188717612:=True
def tw12581153419466743534:=True
def tw6989485321246388036:=True
def tw14255627104680963707:=True
def tw6832661986260527508:=True
def tw12759534814257473241:=True
def tw6879719234947083366:=True
def tw558321757893630702:=True
def tw16436143249724048514:=True
def tw14984921852677887269:=True
def tw17529150500782920043:=True
def tw1537671925576139430:=True
def tw11717652448908410199:=True
def tw6485406331657020764:=True
def tw14165065689605547363:=True
def tw15595795207415653859:=True
def tw4023676341132249488:=True
def tw1108710507025251923:=True
def tw14469644513770737303:=True
def tw134019154181532169:=True
def tw5933114575133118628:=True
def tw12095314925180966785:=True
def tw3669705579532041498:=True
def tw18157311727370227504:=True
def tw18400212585117070302:=True
def tw1369560122296121700:=True
def tw976557271925609987:=True
def tw140888226037003339:=True
def tw1063175872158241559:=True
def tw11094417509530486960:=True
def tw6373214844838344659:=True
def tw9275801846948504227:=True
def tw15078497076776733391:=True
def tw10029083278455406579:=True
def tw5745266511695302474:=True
def tw7938944263306195700:=True
def tw3517283482319181970:=True
def tw15328111538761445717:=True
def tw6887358343939735356:=True
def tw6429334078851494177:=True
def tw17520543779821922015:=True
def tw10008494696613511090:=True
def tw3195750903132080581:=True
def tw6379732257582158653:=True
def tw5827091721188961902:=True
def tw1169704183343496273:=True
def tw12486004077492114995:=True
def tw8483447646511128264:=True
def tw14860628265252112214:=True
def tw15165370233489374899:=True
def tw4208929911788340996:=True
def tw13367597902667281248:=True
def tw14873578242865681539:=True
def tw18212741934186771081:=True
def tw3686445242774072162:=True
def tw3285374973610616178:=True
def tw14533268973755802066:=True
def tw17975766004248266153:=True
def tw13994830151289953379:=True
def tw5209806639784822889:=True
def tw4237396863230310937:=True
def tw8317430406319026057:=True
def tw7429743975141043743:=True
def tw17308805729830386298:=True
def tw12536549045481752802:=True
def tw1894152003513288223:=True
def tw9030975119578819107:=True
def tw16465508732491744386:=True
def tw10849258012657332776:=True
def tw358788916734240337:=True
def tw1160866054355721633:=True
def tw8408448665104948974:=True
def tw13373211137354650651:=True
def tw17299782632635833509:=True
def tw15941350861478426190:=True
def tw15256247320924561046:=True
def tw16765313647241076086:=True
def tw3941175293925419585:=True
def tw10341190081570995388:=True
def tw2098265282884193108:=True
def tw1733042513576979206:=True
def tw1557654711785547646:=True
def tw12337679320070683586:=True
def tw12667284578426847112:=True
def tw2763935857296639369:=True
def tw5918753536954937739:=True
def tw6677364332073212681:=True
def tw8295625162371718226:=True
def tw6446840470826602463:=True
def tw3356570628467484792:=True
def tw3294102289094288321:=True
def tw15232366125464053701:=True
def tw13165412743589752091:=True
def tw663953808740704125:=True
def tw74213217174143966:=True
def tw15008156137353709804:=True
def tw3949757562806553843:=True
def tw9574339631202598048:=True
def tw16245045082664171820:=True
def tw4895054735729466109:=True
def tw10192386662135578204:=True
def tw6277104718921760343:=True
def tw5201321361983033326:=True
def tw1783352411283607003:=True
def tw3466296351524976842:=True
def tw14054729738230917308:=True
def tw13123701439751931505:=True
def tw14621817323476319521:=True
def tw14181721657575760962:=True
def tw15352018476271875780:=True
def tw15851781903661479926:=True
def tw10966391917069939530:=True
def tw11585196105329662982:=True
def tw3985096888258976563:=True
def tw4331953386598104880:=True
def tw9540439130651172199:=True
def tw15466506624737271681:=True
def tw9650030890012940962:=True
def tw14807946239629653021:=True
def tw12794078202895779994:=True
def tw14741261763159435936:=True
def tw579460488119876704:=True
def tw2953800945194121167:=True
def tw3759608307439194773:=True
def tw4036773603481247549:=True
def tw781118386638921789:=True
def tw9966233459104650741:=True
def tw9860692680776107503:=True
def tw17885096096523472017:=True
def tw4035240447441901052:=True
def tw14925849362050671137:=True
def tw5162065197137328476:=True
def tw3003486570186572202:=True
def tw9884826029982853978:=True
def tw5164611589033670540:=True
def tw18235565739706470153:=True
def tw10247352777042877583:=True
def tw5954498548837371862:=True
def tw15081675874069770835:=True
def tw5519901488546093664:=True
def tw17909749588199244384:=True
def tw12637387030168807134:=True
def tw13884343592647676782:=True
def tw17571379073149679009:=True
def tw5314856128305183461:=True
def tw4676306560187566101:=True
def tw2281820351718235684:=True
def tw7625505550266180178:=True
def tw11668359758695175059:=True
def tw13352236856286762788:=True
def tw7540535232152673675:=True
def tw5402479214932331712:=True
def tw808611968922257429:=True
def tw10367610202917245386:=True
def tw17925460221326020823:=True
def tw15862468414746478170:=True
def tw3416958098550895535:=True
def tw6653397112267244656:=True
def tw5176389960650255114:=True
def tw14805291484630640259:=True
def tw12456823994525333232:=True
def tw10191094734471518086:=True
def tw10414059503436370205:=True
def tw13257522459329963130:=True
def tw4923110679764298646:=True
def tw11259996136027434833:=True
def tw14084046713520568008:=True
def tw17914687662716129607:=True
def tw11911634782909318207:=True
def tw15506275628115136462:=True
def tw8168747975239944258:=True
def tw17801989640938736363:=True
def tw10327783497737017973:=True
def tw14318597180281440901:=True
def tw10076354963723914094:=True
def tw9866205469274289384:=True
def tw1244252634358698415:=True
def tw13617711667641952099:=True
def tw3940492197001993068:=True
def tw4442508806131162423:=True
def tw10997506182343125189:=True
def tw12506084521947838057:=True
def tw3371294955988622347:=True
def tw10565432348144337292:=True
def tw10532676025355759085:=True
def tw2232651575089315728:=True
def tw14450722571465833343:=True
def tw2641639382332248258:=True
def tw12749976485508195930:=True
def tw2657979874959062071:=True
def tw7837564024673875644:=True
def tw15510548691841872485:=True
def tw81984659502433309:=True
def tw9500190967554769687:=True
def tw8415392615299949089:=True
def tw14467902141121265827:=True
def tw8420669022728012143:=True
def tw15503981897749027265:=True
def tw17923154468742718451:=True
def tw4999571257026375322:=True
def tw3333553563723529414:=True
def tw10914055716127139987:=True
def tw3959735638934815004:=True
def tw13796352706933654091:=True
def tw13726377646849743525:=True
def tw13488156349953733446:=True
def tw11097874359021326928:=True
def tw477440731619803501:=True
def tw4112054247410331727:=True
def tw6891530158020915795:=True
def tw8499266845942382100:=True
def tw11658642820768755662:=True
def tw2306292449105424766:=True
def tw11242967705286318170:=True
def tw6367717786252709168:=True
def tw7545860240537467027:=True
def tw13919085302962956302:=True
def tw11292620962372580389:=True
def tw4861652632255526974:=True
def tw17420014861066416218:=True
def tw868121800402415552:=True
def tw11758768766425306251:=True
def tw9755080151576428868:=True
def tw16470955748939453838:=True
def tw13766497785479636619:=True
def tw7983208991774478556:=True
def tw12205577636334530166:=True
def tw2409796927874802358:=True
def tw9129563011167141100:=True
def tw11712434882401860681:=True
def tw8284446219343818874:=True
def tw15309857381457578135:=True
def tw11537942337264311221:=True
def tw9356643197717104558:=True
def tw14273791263668182927:=True
def tw18093485247520553138:=True
def tw5503425314601994459:=True
def tw17309859052711153121:=True
def tw7449266666664126369:=True
def tw5334886236610560270:=True
def tw10369574209054306164:=True
def tw5081735228198123311:=True
def tw15290537517263147363:=True
def tw14476985330248881037:=True
def tw12461684007036570013:=True
def tw17505052081608825152:=True
def tw15645142394214190287:=True
def tw8242624616978854066:=True
def tw4789858682409159361:=True
def tw18194881521496412315:=True
def tw547331283780307075:=True
def tw2862225128722430745:=True
def tw119934727885312773:=True
def tw11608234685348048057:=True
def tw7895552986873066376:=True
def tw8046352246690683426:=True
def tw8260894997430891080:=True
def tw7355438701459323462:=True
def tw13319065000723181628:=True
def tw13285825997041367485:=True
def tw5261990761584345308:=True
def tw178484459295371424:=True
def tw9372848540139259992:=True
def tw9527538030105249041:=True
def tw782595005706187139:=True
def tw10016515134191169660:=True
def tw18070450398798928398:=True
def tw3726870727080764409:=True
def tw2689718498632028354:=True
def tw14308177820941714774:=True
def tw13285969828312196186:=True
def tw3196780311453613370:=True
def tw2899261762988873062:=True
def tw11031187951141731903:=True
def tw5411839156467051936:=True
def tw1353615809172391493:=True
def tw6809394260504367847:=True
def tw6471422454792569606:=True
def tw11087699632730202875:=True
def tw4037051603266433589:=True
def tw660726332727447620:=True
def tw14473031336573016498:=True
def tw15720487779595669500:=True
def tw2684530396785220686:=True
def tw2602356401804971215:=True
def tw7391707264867403349:=True
def tw13563624645460322336:=True
def tw10820866845462530692:=True
def tw6873599659841078632:=True
def tw15626334104283153858:=True
def tw8225206273053423061:=True
def tw9874395236062407654:=True
def tw6766889159675539821:=True
def tw1887624571434786998:=True
def tw3954370814392664109:=True
def tw8007357605225748615:=True
def tw2445982847293221200:=True
def tw12620572035547600553:=True
def tw12711432127877821507:=True
def tw2633045199875373535:=True
def tw3057311899254895883:=True
def tw11077500305523476506:=True
def tw4253316031310846262:=True
def tw5315854420328434230:=True
def tw7244821587558393343:=True
def tw8997955299276051245:=True
def tw5540504584947221628:=True
def tw4747507977549335983:=True
def tw2983010741707039283:=True
def tw2229683234859971401:=True
def tw12997099396968410915:=True
def tw18191364287158545678:=True
def tw9346886858142131079:=True
def tw16696063736101602219:=True
def tw8154270206656942712:=True
def tw7900454794780939063:=True
def tw2486690569756062896:=True
def tw17188048500125843744:=True
def tw17955998410686546650:=True
def tw17927697299313192465:=True
def tw3640455800544673176:=True
def tw7870541974563551718:=True
def tw8394355714707620764:=True
def tw7335688525469556064:=True
def tw14099784447157525703:=True
def tw8269969538977429181:=True
def tw18184321839122932085:=True
def tw1063987020581672150:=True
def tw14912808736680704192:=True
def tw4970317000862587615:=True
def tw5809831429907412839:=True
def tw16993076635516273629:=True
def tw3977153103308780555:=True
def tw9232882363119306192:=True
def tw17192055604442213645:=True
def tw3563951417423716718:=True
def tw5707486910494855442:=True
def tw12428490839179550472:=True
def tw7210795009922994222:=True
def tw10754144870411524543:=True
def tw2709920542514747556:=True
def tw8746983807670875081:=True
def tw17226076891744762119:=True
def tw10061059606155065880:=True
def tw17687938894076934029:=True
def tw9392921084897529286:=True
def tw9296961713882017258:=True
end PySem.W.Fast
set_option maxRecDepth 100000 in
set_option maxHeartbeats 0 in
open PySem PySem.W PyProof.Rows
theorem PySem.Challenge.cw_hatsight_k77_texts_holds : PySem.Challenge.rw_hatsight_k77_texts.Holds := by
 w_on;o_law;k_head;(case hw=>w_witness2)
 k_fill
 refine K77.walk (l:=PySem.Challenge.rw_hatsight_k77_texts) rfl rfl (fun w h Y=>kIn_of Y) ?F
 case F=>
  intro w mg fa h KX G hmg;refine' K77.all_mk KX G hmg (by walk_at "q") (by walk_at "q") (by walk_at "q") (by walk_at "q") (by walk_at "q") (by walk_at "q") (by walk_at "q") (by walk_at "q") (by walk_at "q") (by walk_at "q") (by walk_at "q") (by walk_at "q") (by walk_at "q") (by walk_at "q") (by walk_at "q") (by walk_at "q") (by walk_at "q") (by walk_at "q") (by walk_at "q") (by walk_at "q") (by walk_at "q") (by walk_at "q") (by walk_at "q") (by walk_at "q") (by walk_at "q") (by walk_at "q") (by walk_at "q") (by walk_at "q") (by walk_at "q") (by walk_at "q") (by walk_at "q") ?a31 ?l31 ?c31 ?k31 ?lt31 ?ld31 (by walk_at "q") (by walk_at "q") (by walk_at "q") (by walk_at "q") (by walk_at "q") (by walk_at "q") (by walk_at "q") (by walk_at "q") (by walk_at "q") (by walk_at "q") (by walk_at "q") (by walk_at "q") (by walk_at "q") (by walk_at "q") (by walk_at "q") (by walk_at "q") (by walk_at "q") (by walk_at "q") (by walk_at "q") (by walk_at "q") (by walk_at "q") (by walk_at "q") (by walk_at "q") (by walk_at "q") (by walk_at "q") ?a57 ?l57 ?c57 ?k57 ?z0 ?z1 ?z2 ?z3 ?z4 ?z5 ?z6 ?z7 ?z8 ?z9 ?z10 ?z11 ?z12 ?z13 ?z14 ?z15 ?z16 ?q0 ?q1 ?q2 ?q3 ?q4 ?fa0 ?fhs ?fa1 ?fl0 ?fl1 ?fl2 ?fl3 ?fl4 ?fl5 ?fl6 ?fl7 ?fl8 ?caHall ?cokHall ?caDesk ?cokDesk ?md0 ?md1 ?md2 ?ma3 ?ml3 ?mq3 ?mw3 ?mi3 ?mlt3 ?mld3 ?md4 ?ma5 ?ml5 ?mq5 ?mw5 ?mi5 ?ea0 ?ea1 ?ea2 ?ea3 ?ea4 ?ea5 ?eok ?iok
  (case a31=>k_is);(case l31=>k_is);(case c31=>k_is);(case k31=>k_is)
  (case lt31=>k_is);(case ld31=>rfl)
  (case a57=>k_is);(case l57=>k_is);(case c57=>k_is);(case k57=>k_is)
  (case q0=>k_is)
  (case q1=>k_is)
  (case q2=>k_is)
  (case q3=>k_is)
  (case q4=>k_is)
  (case fa0=>k_is);(case fhs=>rfl);(case fa1=>k_is);(case fl0=>k_is);(case fl1=>k_is);(case fl2=>k_is);(case fl3=>k_is);(case fl4=>k_is);(case fl5=>k_is);(case fl6=>k_is);(case fl7=>k_is);(case fl8=>k_is)
  (case caHall=>k_is)
  (case caDesk=>k_is)
  (case ea0=>k_is)
  (case ea1=>k_is)
  (case ea2=>k_is)
  (case ea3=>k_is)
  (case ea4=>k_is)
  (case ea5=>k_is)
  (case md0=>walk_at"m")
  (case md1=>walk_at"m")
  (case md2=>walk_at"m")
  (case ma3=>k_is);(case ml3=>k_is);(case mq3=>k_is);(case mw3=>k_is);(case mi3=>k_is);(case mlt3=>k_is);(case mld3=>rfl)
  (case md4=>walk_at"m")
  (case ma5=>k_is);(case ml5=>k_is);(case mq5=>k_is);(case mw5=>k_is);(case mi5=>k_is)
  (case cokHall=>kernel_rfl)
  (case cokDesk=>kernel_rfl)
  (case eok=>kernel_rfl)
  (case iok=>kernel_rfl)
  (case z0=>k_is)
  (case z1=>k_is)
  (case z2=>k_is)
  (case z3=>k_is)
  (case z4=>k_is)
  (case z5=>k_is)
  (case z6=>k_is)
  (case z7=>k_is)
  (case z8=>k_is)
  (case z9=>k_is)
  (case z10=>k_is)
  (case z11=>k_is)
  (case z12=>k_is)
  (case z13=>k_is)
  (case z14=>k_is)
  (case z15=>k_is)
  (case z16=>k_is)
