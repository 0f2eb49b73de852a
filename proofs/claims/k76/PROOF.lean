import PyProof.Rows.All
import Wide.All
import OpenK.AllK
import Wide.FinOn
import Lean
import PyProof.EqAt
import PyProof.EqKinds
import PyProof.TupleCall
import PySem.Challenge.RW_hatsight_k76_refused
set_option Elab.async false
set_option linter.all false
set_option maxRecDepth 100000
set_option compiler.extract_closed false
local macro_rules | `(tactic| lia) => `(tactic| walk_at "s")
local macro_rules | `(tactic| cbv) => `(tactic| walk_at "d")
def a_{p:Prop}[Decidable p](h:decide p=true:=by exact rfl):p:=of_decide_eq_true h
def Dk0{p:Prop}[Decidable p](h:decide p=true:=by decide +kernel):p:=of_decide_eq_true h
abbrev aO0:=List (PySem.Addr × PySem.Obj)
abbrev B0L:=List (Bool × List Nat)
abbrev b_:=PySem.Str->Option PySem.Value
abbrev c_:=PySem.Value->PySem.Shared->Prop
abbrev d_:=List Nat
abbrev e_:=List Int
abbrev f_:=List PySem.Str
abbrev f':=List PySem.Value
abbrev g_:=Option PySem.Value
abbrev h_:=Option PySem.Addr
abbrev i_:=List PySem.Expr
abbrev j_:=Option Int
abbrev k_:=Array PySem.Value
abbrev l_:=List PySem.Addr
abbrev n_:=List PySem.Stmt
open List (all_cons all_nil any_cons append_nil cons_append drop_eq_nil_of_le drop_zero ext_getElem filterMap_cons filter_sublist find?_cons flatten_cons foldl_cons forIn_cons getD_eq_getElem?_getD getElem?_drop getElem_idxOf getElem_inj getElem_take idxOf_cons length_append length_cons length_drop length_erase length_filter_le length_map length_nil length_pos_of_mem length_range length_replicate length_set length_take lookup_cons map_cons map_drop map_nil map_take mem_cons mem_cons_of_mem mem_cons_self mem_of_mem_drop mem_of_mem_take nil_append nodup_append nodup_nil nodup_range not_mem_nil range_zero reverse_perm set_cons_succ set_cons_zero sum_cons take_append_drop take_length take_of_length_le take_sublist take_succ take_zero)
open Nat (digitChar eq_of_testBit_eq le_of_ble_eq_true le_succ log2_lt lt_succ_of_lt lt_succ_self mod_eq_of_lt mod_lt not_lt_zero testBit_and testBit_eq_decide_div_mod_eq testBit_or testBit_two_pow toDigits zero_le zero_testBit)
open PySem.Heap (ExtBut SameBut get?_push_of_some get?_push_size get?_update_other get?_update_self lt_size)
open Option (bind_some getD_none isSome_map isSome_none isSome_some map_some)
open Array (all_toList ext' getElem?_toList)
open Int (ediv_le_self emod_lt_of_pos emod_nonneg eq_ofNat_of_zero_le natAbs_natCast natCast_add natCast_emod natCast_nonneg natCast_pow toNat toNat_natCast)
open PySem.F (args_tuple_add_2 entry_dict_get entry_tuple_add plainAttrs_list plainAttrs_str slot_dict_get slot_list_index slot_str_join slot_str_split slot_tuple_add slot_tuple_index type_list_index type_str_join type_str_split)
open PySem.W (KitX Looks binds_K callWith_K cellsFrom_some clsIn codeIn emptyDict findIn findObj fnOf handedIn hasDictIn instObj isFn kIn_of keepIn kia_one kitOne kitx_dict kitx_list lookIn looks_findIn looks_mroIn makesIn methodCall_KW methodObj mg_none_of mg_of mroIn notCls nsIn nsOkIn plainGet plainGet_of plainOver specialIn tailIn takerIn takesIn typeIn)
open PySem.SeqAt (EqAt list_indexAt shaped)
set_option maxHeartbeats 4000000
open PySem.W (Frag)
namespace L2
open PySem PySem.Spec PyProof.Rows
def b4:type_of% @List.getD_eq_getElem?_getD:=@List.getD_eq_getElem?_getD
def b5:type_of% @List.length_map:=@List.length_map
def cc:type_of% @List.getElem?_eq_getElem:=@List.getElem?_eq_getElem
def cv:type_of% @decide_eq_false:=@decide_eq_false
def dy:type_of% @PySem.wpAny_bind:=@PySem.wpAny_bind
def ed:type_of% @decide_eq_true:=@decide_eq_true
def ef:type_of% @PySem.Heap.get?_push_of_some:=@PySem.Heap.get?_push_of_some
def ek:type_of% @List.mem_singleton:=@List.mem_singleton
def ey:type_of% @Nat.le_refl:=@Nat.le_refl
def eG:type_of% @List.getElem?_map:=@List.getElem?_map
def eR:type_of% @List.length_append:=@List.length_append
def fz:type_of% @Bool.and_eq_true:=@Bool.and_eq_true
def fA:type_of% @List.mem_of_getElem?:=@List.mem_of_getElem?
def fN:type_of% @List.mem_cons_of_mem:=@List.mem_cons_of_mem
def fO:type_of% @PySem.wpAny_pure:=@PySem.wpAny_pure
def gc:type_of% @List.mem_cons_self:=@List.mem_cons_self
def gd:type_of% @List.size_toArray:=@List.size_toArray
def gz:type_of% @List.mem_cons:=@List.mem_cons
def hI:type_of% @List.map_append:=@List.map_append
def hO:type_of% @Int.eq_ofNat_of_zero_le:=@Int.eq_ofNat_of_zero_le
def hU:type_of% @Nat.le_trans:=@Nat.le_trans
def h9:type_of% @PySem.Heap.get?_push_size:=@PySem.Heap.get?_push_size
def ih:type_of% @List.mem_append:=@List.mem_append
def j5:type_of% @Nat.lt_of_lt_of_le:=@Nat.lt_of_lt_of_le
def j6:type_of% @List.length_range:=@List.length_range
def j9:type_of% @List.all_eq_true:=@List.all_eq_true
def ka:type_of% @decide_eq_true_eq:=@decide_eq_true_eq
def kb:type_of% @List.map_map:=@List.map_map
def kc:type_of% @List.mem_map:=@List.mem_map
def kf:type_of% @List.length_cons:=@List.length_cons
def ls:type_of% @List.getElem?_eq_none:=@List.getElem?_eq_none
def mo:type_of% @PySem.boot_len:=@PySem.boot_len
def mv:type_of% @List.mem_range:=@List.mem_range
def nt:type_of% @List.getElem?_eq_some_iff:=@List.getElem?_eq_some_iff
def oo:type_of% @Bool.true_and:=@Bool.true_and
def ot:type_of% @Nat.ne_of_lt:=@Nat.ne_of_lt
def oD:type_of% @PySem.F.slot_list_append:=@PySem.F.slot_list_append
def o6:type_of% @Bool.false_ne_true:=@Bool.false_ne_true
def pS:type_of% @List.getElem_mem:=@List.getElem_mem
def p4:type_of% @PySem.F.type_list_append:=@PySem.F.type_list_append
def qa:type_of% @Option.some.inj:=@Option.some.inj
def qb:type_of% @List.map_cons:=@List.map_cons
def qc:type_of% @Nat.pow_le_pow_right:=@Nat.pow_le_pow_right
def qm:type_of% @Bool.false_and:=@Bool.false_and
def qo:type_of% @PySem.F.plainAttrs_list:=@PySem.F.plainAttrs_list
def qN:type_of% @of_decide_eq_true:=@of_decide_eq_true
def q5:type_of% @List.length_drop:=@List.length_drop
def q7:type_of% @Nat.testBit_eq_decide_div_mod_eq:=@Nat.testBit_eq_decide_div_mod_eq
def ri:type_of% @Int.toNat_natCast:=@Int.toNat_natCast
def rk:type_of% @List.mem_append_right:=@List.mem_append_right
def ro:type_of% @PySem.F.plainAttrs_str:=@PySem.F.plainAttrs_str
def rr:type_of% @List.length_take:=@List.length_take
def rz:type_of% @List.mem_filter:=@List.mem_filter
def rJ:type_of% @beq_eq_false_iff_ne:=@beq_eq_false_iff_ne
def r4:type_of% @List.getElem?_range:=@List.getElem?_range
def sh:type_of% @PySem.wpAny_mono:=@PySem.wpAny_mono
def sU:type_of% @Nat.mul_le_mul_right:=@Nat.mul_le_mul_right
def tp:type_of% @List.filterMap_cons:=@List.filterMap_cons
def tz:type_of% @List.getElem?_append_right:=@List.getElem?_append_right
def u5:type_of% @List.getElem?_append_left:=@List.getElem?_append_left
def vr:type_of% @Classical.byContradiction:=@Classical.byContradiction
def wh:type_of% @List.nodup_cons:=@List.nodup_cons
def ya:type_of% @List.length_filter_le:=@List.length_filter_le
def AC:type_of% @List.take_of_length_le:=@List.take_of_length_le
def A2:type_of% @PySem.wpAny_truthy_bool:=@PySem.wpAny_truthy_bool
def A4:type_of% @List.append_assoc:=@List.append_assoc
def A5:type_of% @Int.emod_nonneg:=@Int.emod_nonneg
def A6:type_of% @Nat.lt_of_le_of_lt:=@Nat.lt_of_le_of_lt
def B9:type_of% @Int.emod_lt_of_pos:=@Int.emod_lt_of_pos
def C2:type_of% @List.idxOf_lt_length_iff:=@List.idxOf_lt_length_iff
def C4:type_of% @List.getElem_of_mem:=@List.getElem_of_mem
def C6:type_of% @PySem.Heap.size_push:=@PySem.Heap.size_push
def Da:type_of% @Array.getElem?_eq_some_iff:=@Array.getElem?_eq_some_iff
def Do:type_of% @PySem.F.slot_str_join:=@PySem.F.slot_str_join
def D2:type_of% @PySem.mem_of_lookup:=@PySem.mem_of_lookup
def Fk:type_of% @List.replicate_succ:=@List.replicate_succ
def FM:type_of% @List.length_pos_iff:=@List.length_pos_iff
def FS:type_of% @PySem.W.mg_none_of:=@PySem.W.mg_none_of
def F1:type_of% @List.ext_getElem?:=@List.ext_getElem?
def F2:type_of% @List.filterMap_append:=@List.filterMap_append
def F8:type_of% @Nat.lt_irrefl:=@Nat.lt_irrefl
def Gc:type_of% @PySem.F.type_str_join:=@PySem.F.type_str_join
def GE:type_of% @Nat.testBit_two_pow:=@Nat.testBit_two_pow
def GM:type_of% @List.all_map:=@List.all_map
def GT:type_of% @List.range_succ:=@List.range_succ
def IR:type_of% @PyProof.Rows.callWith_type1:=@PyProof.Rows.callWith_type1
def I1:type_of% @List.idxOf_lt_length_of_mem:=@List.idxOf_lt_length_of_mem
def I3:type_of% @List.nodup_iff_pairwise_ne:=@List.nodup_iff_pairwise_ne
def KB:type_of% @PySem.F.slot_str_split:=@PySem.F.slot_str_split
def KE:type_of% @PySem.wpAny_field:=@PySem.wpAny_field
def KF:type_of% @PyProof.Rows.boot_isinstance:=@PyProof.Rows.boot_isinstance
def KM:type_of% @PySem.call_meets:=@PySem.call_meets
def LI:type_of% @List.mem_append_left:=@List.mem_append_left
def L0:type_of% @List.lookup_cons:=@List.lookup_cons
def L1:type_of% @List.take_length:=@List.take_length
def M8:type_of% @Bool.and_false:=@Bool.and_false
def On:type_of% @Nat.pow_lt_pow_right:=@Nat.pow_lt_pow_right
def Os:type_of% @PySem.wpAny_pyIter_list:=@PySem.wpAny_pyIter_list
def Pi:type_of% @PySem.Heap.get?_update_other:=@PySem.Heap.get?_update_other
def PP:type_of% @PySem.wpAny_callSpecial?_slot:=@PySem.wpAny_callSpecial?_slot
def P3:type_of% @Bool.or_eq_true:=@Bool.or_eq_true
def Re:type_of% @Nat.two_pow_pos:=@Nat.two_pow_pos
def SC:type_of% @PyProof.Rows.boot_tuple:=@PyProof.Rows.boot_tuple
def SL:type_of% @congrArg:=@congrArg
def SZ:type_of% @Array.length_toList:=@Array.length_toList
def S4:type_of% @List.length_eq_one_iff:=@List.length_eq_one_iff
def UF:type_of% @List.cons.inj:=@List.cons.inj
def UV:type_of% @Nat.eq_of_testBit_eq:=@Nat.eq_of_testBit_eq
def Vg:type_of% @PySem.wpAny_call_entry:=@PySem.wpAny_call_entry
def Vh:type_of% @List.take_append_drop:=@List.take_append_drop
def Vi:type_of% @PySem.wpAny_pyIter_tuple:=@PySem.wpAny_pyIter_tuple
def Vj:type_of% @List.append_nil:=@List.append_nil
def Vk:type_of% @PySem.wpAny_seqItems:=@PySem.wpAny_seqItems
def Vl:type_of% @PySem.Obj.data_mapFields:=@PySem.Obj.data_mapFields
def Vm:type_of% @Nat.mod_two_eq_zero_or_one:=@Nat.mod_two_eq_zero_or_one
def Vn:type_of% @Int.natAbs_natCast:=@Int.natAbs_natCast
def Vo:type_of% @PySem.wpAny_passesOwn:=@PySem.wpAny_passesOwn
def Vp:type_of% @PySem.F.slot_list_index:=@PySem.F.slot_list_index
def Vq:type_of% @Bool.eq_iff_iff:=@Bool.eq_iff_iff
def Vr:type_of% @PySem.wpAny_newObj_type:=@PySem.wpAny_newObj_type
def Vs:type_of% @List.sum_cons:=@List.sum_cons
def Vt:type_of% @Bool.eq_false_iff:=@Bool.eq_false_iff
def Vu:type_of% @List.map_drop:=@List.map_drop
def Vv:type_of% @PySem.wpAny_holding:=@PySem.wpAny_holding
def Vw:type_of% @Nat.lt_succ_of_lt:=@Nat.lt_succ_of_lt
def Vx:type_of% @Int.mul_ediv_cancel_left:=@Int.mul_ediv_cancel_left
def Vy:type_of% @List.getElem_idxOf:=@List.getElem_idxOf
def Vz:type_of% @List.map_eq_nil_iff:=@List.map_eq_nil_iff
def VA:type_of% @beq_self_eq_true:=@beq_self_eq_true
def VB:type_of% @PySem.F.type_str_split:=@PySem.F.type_str_split
def VC:type_of% @List.length_eq_zero_iff:=@List.length_eq_zero_iff
def VD:type_of% @List.map_reverse:=@List.map_reverse
def VE:type_of% @Nat.not_lt_zero:=@Nat.not_lt_zero
def VF:type_of% @Nat.ne_of_gt:=@Nat.ne_of_gt
def VG:type_of% @Nat.lt_trans:=@Nat.lt_trans
def VH:type_of% @List.nodup_append:=@List.nodup_append
def VI:type_of% @PySem.F.called_set:=@PySem.F.called_set
def VJ:type_of% @List.filter_append:=@List.filter_append
def VL:type_of% @List.all_cons:=@List.all_cons
def VM:type_of% @Nat.lt_succ_self:=@Nat.lt_succ_self
def VN:type_of% @List.nodup_range:=@List.nodup_range
abbrev Key:=Sum Int Str
noncomputable def mT:Key->Value->Bool
 |.inl k,v=>Value.isInt k v
 |.inr x,v=>Value.isStrOf x v
noncomputable def TV(w:World):Key->Int
 |.inl k=>hashInt k
 |.inr x=>hashStr w x
def bL:∀ {k:Key} {v:Value},mT k v=true->(∃i t,k=Sum.inl i/\v=Value.int i t)∨(∃x t,k=Sum.inr x/\v=Value.str x t)
 |.inl i,v,h=>by
  obtain⟨t,e⟩:=Value.isInt_shape (k:=i) (v:=v) h;exact .inl ⟨i,t,rfl,e⟩
 |.inr x,v,h=>by
  obtain⟨t,e⟩:=Value.isStrOf_shape (x:=x) (v:=v) h;exact .inr ⟨x,t,rfl,e⟩
def Cc(i:Int)(t:Tok):mT (.inl i) (.int i t)=true:=by simp[mT,Value.isInt]
def Cd(x:Str)(t:Tok):mT (.inr x) (.str x t)=true:=by simp[mT,Value.isStrOf]
def NI(a b:Int):decide ((Sum.inl a:Key)=Sum.inl b)=(a==b):=by
 by_cases e:a=b
 ·subst e;simp
 ·have h:¬(Sum.inl a:Key)=Sum.inl b:=λq=>e<|Sum.inl.inj q;rw[cv h];exact(rJ.mpr e).symm
def NJ(a b:Str):decide ((Sum.inr a:Key)=Sum.inr b)=decide (a=b):=by
 by_cases e:a=b
 ·subst e;simp
 ·have h:¬(Sum.inr a:Key)=Sum.inr b:=λq=>e<|Sum.inr.inj q;rw[cv h,cv e]
def NK(a:Int)(b:Str):decide ((Sum.inl a:Key)=Sum.inr b)=false:=cv λq=>nomatch q
def NL(a:Str)(b:Int):decide ((Sum.inr a:Key)=Sum.inl b)=false:=cv λq=>nomatch q
noncomputable def bz(prog:Program)(w:World):PySem.KeyKind prog w Key where
 is:=mT
 hash:=TV w
 inj:=λv a b f hb=>by
  rcases bL f with ⟨i,t,rfl,rfl⟩|⟨x,t,rfl,rfl⟩
  ·rcases bL hb with ⟨j,u,rfl,e⟩|⟨y,u,rfl,e⟩
   ·injection e with c _;rw[c]
   ·exact nomatch e
  ·rcases bL hb with ⟨j,u,rfl,e⟩|⟨y,u,rfl,e⟩
   ·exact nomatch e
   ·injection e with c _;rw[c]
 byValue:=λk v h=>by
  rcases bL h with ⟨i,t,rfl,rfl⟩|⟨x,t,rfl,rfl⟩<;>rfl
 pyHash:=λd h=>by
  rcases bL d with ⟨i,t,rfl,rfl⟩|⟨x,t,rfl,rfl⟩
  ·exact wpAny_pyHash_int h
  ·exact wpAny_pyHash_str h
 eqBool:=λhu d h=>by
  rcases bL hu with ⟨i,t,rfl,rfl⟩|⟨x,t,rfl,rfl⟩
  ·rcases bL d with ⟨j,u,rfl,rfl⟩|⟨y,u,rfl,rfl⟩
   ·rw[NI]at h;exact wpAny_eqBool_int h
   ·rw[NK]at h;exact SeqAt.EqAt.int_str i t y u _ _ _ _ h
  ·rcases bL d with ⟨j,u,rfl,rfl⟩|⟨y,u,rfl,rfl⟩
   ·rw[NL]at h;exact SeqAt.EqAt.str_int x t j u _ _ _ _ h
   ·rw[NJ]at h;exact wpAny_eqBool_str h
 «strs»:=λk x t v h=>by
  rcases bL h with ⟨i,u,rfl,e⟩|⟨y,u,rfl,e⟩
  ·exact nomatch e
  ·injection e with c _
   subst c
   cases v<;>rfl
def vD(prog:Program)(w:World)(i:Int)(t:Tok):(bz prog w).is (.inl i) (.int i t)=true:=Cc i t
def bM(prog:Program)(w:World)(x:Str)(t:Tok):(bz prog w).is (.inr x) (.str x t)=true:=Cd x t
inductive V where
 |bA|bl (b:Bool)|int (i:Int)|str (x:Str)|Tw (b:Array UInt8)|NC (b:UInt64)|ref (a:Addr)|ty (n:String)
 deriving DecidableEq
def RelV:V->Value->Prop
 |.bA,u=>u=Value.none
 |.bl b,u=>u=Value.bool b
 |.int i,u=>∃t,u=Value.int i t
 |.str x,u=>∃t,u=Value.str x t
 |.Tw b,u=>∃t,u=Value.bytes b t
 |.NC b,u=>∃t,u=Value.float b t
 |.ref a,u=>u=Value.ref a
 |.ty n,u=>u=Value.type n
abbrev Vals:List V->List Value->Prop:=Paired RelV
theorem Vals.length{xs:List V}{us:f'}(r:Vals xs us):xs.length=us.length:=Paired.length r
theorem Vals.get:∀ {xs:List V} {us:f'} {i:Nat} {x:V},Vals xs us->xs[i]?=some x->∃u,us[i]?=some u/\RelV x u
 |_,_,_,_,.nil,e=>by simp at e
 |_,_,0,_,.cons r _,e=>by simp at e;subst e;exact⟨_,rfl,r⟩
 |_,_,i+1,x,.cons _ t,e=>by
  obtain⟨u,h1,a⟩:=Vals.get (i:=i) (x:=x) t (by simpa using e)
  exact⟨u,by simpa using h1,a⟩
theorem Vals.set{x:V}{u:Value}(r:RelV x u):∀ {xs:List V} {us:f'} (i:Nat),Vals xs us->Vals (xs.set i x) (us.set i u)
 |_,_,_,.nil=>.nil
 |_,_,0,.cons _ t=>.cons r t
 |_,_,i+1,.cons q t=>.cons q<|Vals.set r i t
theorem Vals.append:∀ {xs ys:List V} {us ws:f'},Vals xs us->Vals ys ws->Vals (xs++ys) (us++ws)
 |_,_,_,_,.nil,s=>s
 |_,_,_,_,.cons r t,s=>.cons r<|Vals.append t s
theorem Vals.take:∀ {xs:List V} {us:f'} (n:Nat),Vals xs us->Vals (xs.take n) (us.take n)
 |_,_,0,_=>.nil
 |_,_,_+1,.nil=>.nil
 |_,_,n+1,.cons r t=>.cons r<|Vals.take n t
theorem Vals.drop:∀ {xs:List V} {us:f'} (n:Nat),Vals xs us->Vals (xs.drop n) (us.drop n)
 |_,_,0,r=>r
 |_,_,_+1,.nil=>.nil
 |_,_,n+1,.cons _ t=>Vals.drop n t
def gR:Option V->g_->Prop
 |some v,some u=>RelV v u
 |none,none=>True
 |_,_=>False
variable{κ:Type}
def KV:List (κ × V)->List (κ × Value)->Prop:=Paired λ(p:κ × V) (q:κ × Value)=>p.1=q.1/\RelV p.2 q.2
noncomputable def kV:Key->V
 |.inl i=>.int i
 |.inr x=>.str x
inductive HO where
 |lst (xs:List V)
 |tup (xs:List V)
 |dK (C_:List (Key × V))|dT (C_:List (List Key × V))
 |set (S:Int->Bool) (n:Nat)
 |ins (C dx:Addr) (fs:List (Str × V))
 |own (x:Addr)
 |xd (fs:List (Str × V))
 |met (f x:Addr)
 |Ja (lo hi:Int)
 |iE (o:Obj) (u:HO)
 |NH (ps:k_)
 |ext (φ:Heap->Prop)
abbrev Hp:=Addr->Option HO
noncomputable def upd(H:Hp)(a:Addr)(o:HO):Hp:=λb=>if b=a then some o else H b
variable{H:Hp}{a:Addr}{o:HO}
def af:upd H a o a=some o:=by unfold upd;rw[if_pos rfl]
variable{b:Addr}
def aK(h:b≠a):upd H a o b=H b:=by unfold upd;rw[if_neg h]
variable{u:HO}
def Jc:upd (upd H a o) a u=upd H a u:=by
 funext b;unfold upd;split<;>rfl
def iq(h:H a=some o)(h':H b=some u)(d:o≠u):a≠b:=by
 intro e;subst e;rw[h]at h';exact d<|qa h'
def bG(h:H a=some o)(h':H b=none):a≠b:=by
 intro e;subst e;rw[h]at h';cases h'
section
variable(P:Program)(w:World)
def bB(H:Hp)(h:Heap)(a:Addr):HO->Prop
 |.lst c=>c.length<=sizeLine/\∃(its:f') (n:Nat),Vals c its/\h.get? a=some {cls:=.type "list",data:=.seq its.toArray n}
 |.tup c=>c.length<=sizeLine/\∃its:f',Vals c its/\IsTup h a its.toArray
 |.dK b=>b.length<=sizeLine/\(a==sysModules)=false/\∃vs,KV b vs/\h.DictOf (bz P w) a vs
 |.dT b=>b.length<=sizeLine/\(a==sysModules)=false/\∃c:List (List Key × Addr × Value),
   Paired (λ(p:List Key × V) (q:List Key × Addr × Value)=>p.1=q.1/\H q.2.1=some (.tup<|p.1.map kV)/\RelV p.2 q.2.2) b c/\
   ∃o es ep,h.get? a=some o/\o.ExactDict/\o.data=.dict es ep/\es.toList=c.map (entryOfKey<|tupleKind<|bz P w)/\(c.map (·.1)).Nodup
 |.set S n=>h.SetOf (intKind P w) a S n
 |.ins C d fs=>H d=some (.own a)/\fs.length<=1000/\d≠a/\h.get? a=some (instObj C d)/\
   ∃mA,h.Ns1 d mA/\(∀f,gR (fs.lookup f)<|mA f)/\PySem.Within mA (fs.map (·.1))
 |.own _=>∃o,h.get? a=some o
 |.xd fs=>∃mA,h.Ns1 a mA/\∀f,gR (fs.lookup f)<|mA f
 |.Ja g hi=>∃t u v,h.get? a=some {cls:=.type "range",data:=.fields #[.int g t,.int hi u,.int 1 v]}
 |.iE o u=>h.get? a=some o/\bB H h a u
 |.NH e=>h.get? a=some {cls:=.none,data:=.fields e}
 |.met f x=>h.get? a=some (methodObj (.ref f)<|.ref x)
 |.ext φ=>φ h/\(∃o,h.get? a=some o)/\∀h1 h2:Heap,φ h1->(∀o,h1.get? a=some o->h2.get? a=some o)->φ h2
def iC(H:Hp)(h:Heap):Prop:=∀a o,H a=some o->bB P w H h a o
end
variable{P:Program}{w:World}{h:Heap}
theorem bB.lt(x:bB P w H h a o):a<h.objs.size:=by
 cases o with
 |lst c=>obtain⟨_,_,_,_,e⟩:=x;exact lt_size e
 |tup c=>obtain⟨_,_,_,p⟩:=x;exact p.lt
 |dK b=>obtain⟨_,_,_,_,o,_,_,e,_⟩:=x;exact lt_size e
 |dT b=>obtain⟨_,_,_,_,o,_,_,e,_⟩:=x;exact lt_size e
 |set S n=>obtain⟨o,_,_,_,e,_⟩:=x;exact lt_size e
 |ins C d fs=>obtain⟨_,_,_,e,_⟩:=x;exact lt_size e
 |own y=>obtain⟨_,e⟩:=x;exact lt_size e
 |xd fs=>obtain⟨_,⟨_,_,_,e,_⟩,_⟩:=x;exact lt_size e
 |Ja g hi=>obtain⟨_,_,_,e⟩:=x;exact lt_size e
 |iE ob u=>obtain⟨e,_⟩:=x;exact lt_size e
 |NH i=>exact lt_size<|show h.get? a=some _ from x
 |met f y=>exact lt_size<|show h.get? a=some _ from x
 |ext φ=>obtain⟨_,⟨_,e⟩,_⟩:=x;exact lt_size e
theorem Paired.NM{α β:Type}{F G:α->β->Prop}:∀ {l₁:List α} {l₂:List β},Paired F l₁ l₂->(∀a b,F a b->G a b)->Paired G l₁ l₂
 |_,_,.nil,_=>.nil
 |_,_,.cons r t,f=>.cons (f _ _ r)<|Paired.NM t f
variable{H':Hp}{h':Heap}
def bB.tq(x:bB P w H h a o)(k:∀b u,(b=a∨H b=some (.own a))->h.get? b=some u->h'.get? b=some u)
  (ho:∀b,H b=some (.own a)->H' b=some (.own a)) (ht:∀b xs,H b=some (.tup xs)->H' b=some (.tup xs)):bB P w H' h' a o:=by
 induction o with
 |lst xs=>obtain⟨z,j,n,r,e⟩:=x;exact⟨z,j,n,r,k _ _ (.inl rfl) e⟩
 |tup xs=>obtain⟨z,j,r,ob,e,c⟩:=x;exact⟨z,j,r,ob,k _ _ (.inl rfl) e,c⟩
 |dK m=>obtain⟨z,y,E,r,ob,i,g,e,c⟩:=x;exact⟨z,y,E,r,ob,i,g,k _ _ (.inl rfl) e,c⟩
 |dT m=>
  obtain⟨z,y,xs,r,ob,i,g,e,c⟩:=x;exact⟨z,y,xs,Paired.NM r λp q z=>⟨z.1,ht _ _ z.2.1,z.2.2⟩,ob,i,g,k _ _ (.inl rfl) e,c⟩
 |set S n=>obtain⟨ob,i,g,t,e,c⟩:=x;exact⟨ob,i,g,t,k _ _ (.inl rfl) e,c⟩
 |ins C G fs=>
  obtain⟨d,z,ne,e,s,⟨l,i,g,F,c⟩,r⟩:=x;exact⟨ho _ d,z,ne,k _ _ (.inl rfl) e,s,⟨l,i,g,k _ _ (.inr d) F,c⟩,r⟩
 |own y=>obtain⟨ob,e⟩:=x;exact⟨ob,k _ _ (.inl rfl) e⟩
 |xd fs=>obtain⟨s,⟨l,i,g,e,c⟩,r⟩:=x;exact⟨s,⟨l,i,g,k _ _ (.inl rfl) e,c⟩,r⟩
 |Ja I hi=>obtain⟨t,u,v,e⟩:=x;exact⟨t,u,v,k _ _ (.inl rfl) e⟩
 |iE ob u D=>obtain⟨e,q⟩:=x;exact⟨k _ _ (.inl rfl) e,D q⟩
 |NH B=>
  have e:h.get? a=some {cls:=.none,data:=.fields B}:=x;show h'.get? a=some {cls:=.none,data:=.fields B};exact k a _ (.inl rfl) e
 |met f y=>
  have e:h.get? a=some (methodObj (.ref f)<|.ref y):=x;show h'.get? a=some (methodObj (.ref f)<|.ref y);exact k a _ (.inl rfl) e
 |ext φ=>obtain⟨p,⟨o,e⟩,A⟩:=x;exact⟨A _ _ p λo q=>k _ _ (.inl rfl) q,⟨o,k _ _ (.inl rfl) e⟩,A⟩
theorem iC.lt(x:iC P w H h)(e:H a=some o):a<h.objs.size:=(x a o e).lt
def iC.fresh(x:iC P w H h)(e:h.objs.size<=a):H a=none:=by
 cases q:H a with
 |none=>rfl
 |some u=>exact absurd (j5 (x.lt q) e)<|F8 _
def iC.kept(x:iC P w H h)(k:∀b u,h.get? b=some u->h'.get? b=some u):iC P w H h':=λa o e=>
 (x a o e).tq (λb u _ q=>k b u q) (λ_ q=>q) λ_ _ q=>q
def iC.laid(x:iC P w H h)(k:∀b u,h.get? b=some u->h'.get? b=some u)(hp:h.objs.size<=a)(new:bB P w (upd H a o) h' a o):iC P w (upd H a o) h':=λb u e=>by
 have hn:=x.fresh hp
 by_cases hb:b=a
 ·subst hb;rw[af]at e;cases e;exact new
 ·rw[aK hb]at e;exact(x b u e).tq (λc v _ q=>k c v q) (λc q=>by rw[aK (bG q hn)];exact q) λc d q=>by rw[aK (bG q hn)];exact q
def Rd(H:Hp)(a:Addr)(u:HO):Prop:=H a=some u∨∃o,H a=some (.iE o u)
def Rd.ok(r:Rd H a u)(x:iC P w H h):bB P w H h a u:=by
 rcases r with r|⟨o,r⟩
 ·exact x a u r
 ·obtain⟨_,q⟩:=x a _ r;exact q
def QC:Option HO->Prop
 |some (.lst _)=>True
 |some (.dK _)=>True
 |some (.dT _)=>True
 |some (.set _ _)=>True
 |some (.ins _ _ _)=>True
 |some (.ext _)=>True
 |_=>False
variable{x e:Addr}{o':HO}
def iC.write(ok:iC P w H h)(mu:QC (H x))(he:e=x∨H e=some (.own x))(k:∀b u,b≠e->h.get? b=some u->h'.get? b=some u)(heo:∃u,h'.get? e=some u)
  (new:bB P w (upd H x o') h' x o'):iC P w (upd H x o') h':=λb u q=>by
 have d:∀c y,H c=some (.own y)->c≠x:=λc y r z=>by subst z;rw[r]at mu;exact mu
 have f:∀c g,H c=some (.tup g)->c≠x:=λc g r z=>by subst z;rw[r]at mu;exact mu
 by_cases hb:b=x
 ·subst hb;rw[af]at q;cases q;exact new
 ·rw[aK hb]at q
  by_cases a:b=e
  ·have i:H b=some (.own x):=by
    rcases he with z|z
    ·exact absurd (a.trans z) hb
    ·rw[a];exact z
   rw[q]at i;cases i
   obtain⟨v,j⟩:=heo;exact⟨v,by rw[a];exact j⟩
  ·refine(ok b u q).tq (λc v hc r=>k c v ?_ r) (λc r=>by rw[aK (d c b r)];exact r) λc g r=>by rw[aK (f c g r)];exact r
   rcases hc with rfl|hc
   ·exact a
   ·rintro rfl
    rcases he with z|z
    ·exact d c b hc z
    ·rw[hc]at z;cases z;exact hb rfl
structure Un(fs ex:l_)(H H':Hp)(h h':Heap):Prop where
 keep:∀b o,h.get? b=some o->H b=none->b∉fs->b∉ex->h'.get? b=some o
 slot:∀b o,h.get? b=some o->H b=none->b∈fs->b∉ex->∃sl,h'.get? b=some {o with slots:=sl}
 free:∀b o,h.get? b=some o->H b=none->b∉ex->H' b=none
 there:∀b o,h.get? b=some o->b∉ex->∃o',h'.get? b=some o'
 qT:∀b xs,H b=some (.tup xs)->H' b=some (.tup xs)
 qh:∀b o u,H b=some (.iE o u)->H' b=some (.iE o u)
 qQ:∀b ps,H b=some (.NH ps)->∃more,H' b=some (.NH<|ps++more)
variable{fs ex:l_}{H1:Hp}{h1:Heap}
def Un.any(u:Un fs ex H H1 h h1){ob:Obj}(q:h.get? b=some ob)(n:H b=none)(hx:b∉ex):∃sl,h1.get? b=some {ob with slots:=sl}:=by
 by_cases hb:b∈fs
 ·exact u.slot b ob q n hb hx
 ·exact⟨ob.slots,u.keep b ob q n hb hx⟩
def Un.kept(k:∀b u,h.get? b=some u->h'.get? b=some u):Un fs ex H H h h':=
 ⟨λb ob q _ _ _=>k b ob q,λb ob q _ _ _=>⟨ob.slots,k b ob q⟩,λ_ _ _ n _=>n,λb ob q _=>⟨ob,k b ob q⟩,λ_ _ q=>q,λ_ _ _ q=>q,λ_ a q=>⟨#[],by rw[q];simp⟩⟩
def Un.refl:Un fs ex H H h h:=Un.kept λ_ _ q=>q
def Un.laid(k:∀b u,h.get? b=some u->h'.get? b=some u)(hp:h.objs.size<=a)(hn:H a=none):Un fs ex H (upd H a o) h h' where
 keep:=λb u q _ _ _=>k b u q
 slot:=λb u q _ _ _=>⟨u.slots,k b u q⟩
 free:=λb u q n _=>by rw[aK (ot<|j5 (lt_size q) hp)];exact n
 there:=λb u q _=>⟨u,k b u q⟩
 qT:=λb c q=>by rw[aK (bG q hn)];exact q
 qh:=λb u c q=>by rw[aK (bG q hn)];exact q
 qQ:=λb d q=>⟨#[],by rw[aK (bG q hn),q];simp⟩
def Un.write(mu:QC (H x))(he:e=x∨H e=some (.own x))(k:∀b u,b≠e->h.get? b=some u->h'.get? b=some u)(heo:∃u,h'.get? e=some u):Un fs ex H (upd H x o) h h':=by
 have hx:∀b,H b=none->b≠x:=λb n z=>by subst z;rw[n]at mu;exact mu
 have hb:∀b,H b=none->b≠e:=λb n z=>by
  subst z
  rcases he with r|r
  ·exact hx b n r
  ·rw[n]at r;cases r
 have hm:∀b u,H b=some u->¬QC (some u)->b≠x:=λb u q c z=>by subst z;rw[q]at mu;exact c mu
 refine⟨λb u q n _ _=>k b u (hb b n) q,λb u q n _ _=>⟨u.slots,k b u (hb b n) q⟩,λb u q n _=>by rw[aK (hx b n)];exact n,λb u q _=>?_,
  λb d q=>by rw[aK (hm b _ q λz=>z)];exact q,λb u d q=>by rw[aK (hm b _ q λz=>z)];exact q,λb f q=>⟨#[],by rw[aK (hm b _ q λz=>z),q];simp⟩⟩
 by_cases a:b=e
 ·subst a;exact heo
 ·exact⟨u,k b u a q⟩
noncomputable def Tz(h:Heap)(H:Hp):l_:=(List.range h.objs.size).filter λa=>(H a).isSome
noncomputable def tw(h:Heap)(H:Hp):Heap:=PySem.W.hideAll h<|Tz h H
def Ce(h:Heap)(H:Hp):(tw h H).objs.size=h.objs.size:=PySem.W.hideAll_size _ _
variable{o:Obj}
def Ek(e:h.get? b=some o)(n:H b=none):(tw h H).get? b=some o:=
 PySem.W.hideAll_get _ e λhm=>by
  have q:(H b).isSome=true:=(rz.mp hm).2;rw[n]at q;simp at q
def Jd(e:(tw h H).get? b=some o):h.get? b=some o/\H b=none:=by
 have a:h.get? b=some o:=PySem.W.of_hideAll (Tz h H) e;refine⟨a,?_⟩
 cases q:H b with
 |none=>rfl
 |some x=>
  have hm:b∈Tz h H:=rz.mpr ⟨mv.mpr<|lt_size a,by simp[q]⟩
  have z:(tw h H).get? b=none:=PySem.W.hideAll_none (Tz h H) hm;rw[z]at e;cases e
structure Mod(K:Frag)(mg:b_)(base:Heap):Prop where
 NG:K.In base
 glob:base.Ns mainGlobals mg
 blt:∃mb,base.Ns builtinsNs mb/\∀x:Str,x≠"__name__"->mb x=bootBuiltins x
 nolimit:base.NoLimit
structure Cx where
 prog:Program
 w:World
 K:Frag
 mg:Str->Option Value
 base:Heap
 A:Around
 N:List Str
 s₀:Shared
 H₀:Hp
 env:Env
 outer:List Env
 stack:List Env
 ex:List Addr
 fn:Str->Bool
 calm:Bool
 pn:List (Addr × Obj)
 xe:Value->Shared->Prop
noncomputable def jF(l:List Env):l_:=l.filterMap (·.frame)
end L2
namespace L2
open PySem PySem.Spec PyProof.Rows
noncomputable abbrev Cx.fs(X:Cx):List Addr:=jF X.outer
def TB(sc:Scope)(x:Str):Prop:=sc.names.lookup x=some .local∨sc.names.lookup x=some .cell∨sc.names.lookup x=some .free
def Loc(sc:Scope)(x:Str):Prop:=sc.names.lookup x=some .local∨sc.names.lookup x=some .cell
def Look(env:Env)(h:Heap)(m:b_)(x:Str)(u:Value):Prop:=
 (env.kindOf x=some .local/\m x=some u)∨((env.kindOf x=some .cell∨env.kindOf x=some .free)/\∃c,env.cells.lookup x=some c/\h.IsCell c (some u))
structure Cx.Ok(X:Cx):Prop where
 mod:Mod X.K X.mg X.base
 kind:X.env.scope.kind=.function
 glob:X.env.globals=mainGlobals
 blt:X.env.builtins=builtinsNs
 above:X.s₀.heap.objs.size<=X.env.locals
 inj:∀x y c,X.env.cells.lookup x=some c->X.env.cells.lookup y=some c->x=y
 has:∀x,(X.env.kindOf x=some .cell∨X.env.kindOf x=some .free)->∃c,X.env.cells.lookup x=some c
 NF:∀x c,X.fn x=true->X.env.cells.lookup x=some c->X.s₀.heap.objs.size<=c
 hd:X.calm=true->X.A.handled=none
 frames:X.A.frames=some X.stack
 LW:X.stack=X.outer∨(X.stack=X.env::X.outer/\X.env.frame=some X.env.locals)
 Qg:∀b∈X.ex,b≠X.env.locals/\∀x c,X.env.cells.lookup x=some c->c≠b
 bs:∀b o,X.base.get? b=some o->X.s₀.heap.get? b=some o/\X.H₀ b=none
 Ej:X.base.objs.size<=X.s₀.heap.objs.size
 ve:∀b o,X.base.get? b=some o->b∉X.ex
 xM:∀b∈X.ex,b∉X.fs
 jx:X.s₀.heap.FunFrames X.base X.outer
 Jb:∀b∈X.fs,X.H₀ b=none
structure Inv(X:Cx)(w_:aO0)(σ:List (Option V))(H:Hp)(s:Shared):Prop where
 ok:X.Ok
 os:s.os=X.s₀.os
 bare:AllBare s.gens
 base:Un X.fs X.ex X.H₀ H X.s₀.heap s.heap
 loc:∃m,s.heap.Ns X.env.locals m/\∀(i:Nat) (x:Str) (v:V),X.N[i]?=some x->σ[i]?=some (some v)->TB X.env.scope x->∃u,RelV v u/\Look X.env s.heap m x u
 cell:∀x c,X.env.cells.lookup x=some c->∃v,s.heap.IsCell c v
 free:H X.env.locals=none
 fU:∀x c,X.env.cells.lookup x=some c->H c=none
 pin:∀p∈X.pn++w_,s.heap.get? p.1=some p.2/\H p.1=none/\p.1≠X.env.locals/\p.1∉X.fs/\∀v,p.2.data≠.cell v
 bf:iC X.prog X.w H s.heap
 len:σ.length=X.N.length
variable{X:Cx}
def Cx.Ok.TX(ok:X.Ok){b:Addr}{o:Obj}(e:X.base.get? b=some o):b∉X.fs:=λhb=>by
 have:=(ok.jx.mem hb).1
 rw[e]at this;cases this
variable{w_:aO0}{σ:List (Option V)}{H:Hp}{s:Shared}
theorem Inv.bs(I:Inv X w_ σ H s):∀b o,X.base.get? b=some o->s.heap.get? b=some o/\H b=none:=λb o e=>
 ⟨I.base.keep b o (I.ok.bs b o e).1 (I.ok.bs b o e).2 (I.ok.TX e)<|I.ok.ve b o e,I.base.free b o (I.ok.bs b o e).1 (I.ok.bs b o e).2<|I.ok.ve b o e⟩
def Inv.bk(I:Inv X w_ σ H s):∀b o,X.base.get? b=some o->s.heap.get? b=some o:=λb o e=>(I.bs b o e).1
theorem Inv.mod(I:Inv X w_ σ H s):Mod X.K X.mg X.base:=I.ok.mod
def Inv.jw(I:Inv X w_ σ H s):X.K.In s.heap:=I.ok.mod.NG.keeps I.bk
theorem Inv.lt(I:Inv X w_ σ H s):X.env.locals<s.heap.objs.size:=let ⟨_,hn,_⟩:=I.loc;hn.lt
def Inv.sz(I:Inv X w_ σ H s):X.s₀.heap.objs.size<=s.heap.objs.size:=hU I.ok.above<|Nat.le_of_lt I.lt
def Inv.TY(I:Inv X w_ σ H s){a:Addr}(h:s.heap.objs.size<=a):a∉X.fs:=λhb=>by
 obtain⟨_,o,b,_⟩:=I.ok.jx.mem hb;exact absurd (j5 (lt_size b)<|hU I.sz h)<|F8 _
def Inv.Je(I:Inv X w_ σ H s):∀x c,X.env.cells.lookup x=some c->c≠X.env.locals:=λx c e z=>by
 obtain⟨v,o,d,f⟩:=I.cell x c e;obtain⟨m,⟨h,g,i,a,b,_⟩,_⟩:=I.loc;rw[z,a]at d;cases d;rw[b]at f;cases f
theorem Inv.jx(I:Inv X w_ σ H s):s.heap.FunFrames X.base X.outer:=by
 have all:∀(l:List Env),(∀b∈jF l,b∈X.fs)->X.s₀.heap.FunFrames X.base l->s.heap.FunFrames X.base l:=by
  intro l
  induction l with
  |nil=>intro _ _;trivial
  |cons f r g=>
   intro d i;obtain⟨hk,⟨L,o,a,hn,h,m⟩,j⟩:=i;have c:L∈X.fs:=d L (by unfold jF;rw[tp,a];exact gc)
   obtain⟨n,e⟩:=I.base.slot L o h (I.ok.Jb L c) c λz=>I.ok.xM L z c;exact⟨hk,⟨L,_,a,hn,e,m⟩,g (λb hb=>d b (by unfold jF;rw[tp,a];exact fN _ hb)) j⟩
 exact all X.outer (λ_ hb=>hb) I.ok.jx
theorem Inv.stack(I:Inv X w_ σ H s):s.heap.FunFrames X.base X.stack:=by
 rcases I.ok.LW with e|⟨e,a⟩
 ·rw[e];exact I.jx
 ·rw[e];obtain⟨m,hn,_⟩:=I.loc;refine .cons (by rw[I.ok.kind];decide) a hn ?_ I.jx
  exact Heap.get?_none_of_le<|hU I.ok.Ej I.ok.above
def Inv.tD(I:Inv X w_ σ H s):∀b∈jF X.stack,b∈X.env.locals::X.fs:=λb hb=>by
 rcases I.ok.LW with e|⟨e,a⟩
 ·rw[e]at hb;exact fN _ hb
 ·rw[e]at hb;unfold jF at hb;rw[tp,a]at hb;exact hb
def Inv.nS(I:Inv X w_ σ H s):∀b∈jF X.stack,H b=none:=λb hb=>by
 rcases gz.mp (I.tD b hb)with e|hb
 ·rw[e];exact I.free
 ·obtain⟨_,o,a,_⟩:=I.ok.jx.mem hb;exact I.base.free b o a (I.ok.Jb b hb) λz=>I.ok.xM b z hb
variable{H':Hp}{h':Heap}{g':Array GenState}{t':Nat}{d':Drawn}{ch:l_}
def Inv.step(I:Inv X w_ σ H s)
  (hch:∀b∈ch,(b∈X.ex∨X.s₀.heap.objs.size<=b)/\b≠X.env.locals/\(∀x c,X.env.cells.lookup x=some c->c≠b)/\∀p∈X.pn++w_,p.1≠b)
  (keep:∀b o,b≠X.env.locals->b∉X.fs->b∉ch->s.heap.get? b=some o->H b=none->h'.get? b=some o)
  (slot:∀b o,b≠X.env.locals->b∈X.fs->b∉ch->s.heap.get? b=some o->H b=none->∃sl,h'.get? b=some {o with slots:=sl}) (free:∀b o,b∉ch->s.heap.get? b=some o->H b=none->H' b=none)
  (there:∀b o,b∉ch->s.heap.get? b=some o->∃o',h'.get? b=some o')
  (qT:∀b xs,H b=some (.tup xs)->H' b=some (.tup xs)) (qh:∀b o u,H b=some (.iE o u)->H' b=some (.iE o u)) (qQ:∀b ps,H b=some (.NH ps)->∃more,H' b=some (.NH<|ps++more))
  (ns:∀m,s.heap.Ns X.env.locals m->h'.Ns X.env.locals m) (bf:iC X.prog X.w H' h') (hg:AllBare g'):
  Inv X w_ σ H' {s with heap:=h',gens:=g',drawn:=d',toks:=t'}:=by
 have y:∀b o,X.s₀.heap.get? b=some o->b≠X.env.locals:=λb o e=>ot<|j5 (lt_size e) I.ok.above;have g:∀b o,X.s₀.heap.get? b=some o->b∉X.ex->b∉ch:=λb o e hx hb=>by
  rcases(hch b hb).1 with z|z
  ·exact hx z
  ·exact absurd (j5 (lt_size e) z)<|F8 _
 have f:∀x c,X.env.cells.lookup x=some c->∀v,s.heap.IsCell c v->h'.IsCell c v:=λx c e v ⟨o,j,A⟩=>by
  have a:c∉ch:=λz=>(hch c z).2.2.1 x c e rfl
  by_cases hc:c∈X.fs
  ·obtain⟨sl,q⟩:=slot c o (I.Je x c e) hc a j<|I.fU x c e;exact⟨_,q,A⟩
  ·exact⟨o,keep c o (I.Je x c e) hc a j<|I.fU x c e,A⟩
 refine⟨I.ok,I.os,hg,⟨λb o e n hb hx=>?_,λb o e n hb hx=>?_,λb o e n hx=>?_,λb o e hx=>?_,λb xs e=>qT b xs<|I.base.qT b xs e,λb o xs e=>qh b o xs<|I.base.qh b o xs e,λb ps e=>?_⟩,?_,λx c e=>?_,?_,λx c e=>?_,λp C=>?_,bf,I.len⟩
 ·exact keep b o (y b o e) hb (g b o e hx) (I.base.keep b o e n hb hx)<|I.base.free b o e n hx
 ·obtain⟨sl,h⟩:=I.base.slot b o e n hb hx;obtain⟨B,t⟩:=slot b _ (y b o e) hb (g b o e hx) h<|I.base.free b o e n hx;exact⟨B,t⟩
 ·obtain⟨o',h⟩:=I.base.there b o e hx;exact free b o' (g b o e hx) h<|I.base.free b o e n hx
 ·obtain⟨o',h⟩:=I.base.there b o e hx;exact there b o' (g b o e hx) h
 ·obtain⟨F,h⟩:=I.base.qQ b ps e;obtain⟨J,t⟩:=qQ b _ h;exact⟨F++J,by rw[t,Array.append_assoc]⟩
 ·obtain⟨m,hn,G⟩:=I.loc;refine⟨m,ns m hn,λi x v h t E=>?_⟩;obtain⟨u,r,l⟩:=G i x v h t E;refine⟨u,r,?_⟩
  rcases l with l|⟨k,c,e,z⟩
  ·exact .inl l
  ·exact .inr ⟨k,c,e,f x c e _ z⟩
 ·obtain⟨v,z⟩:=I.cell x c e;exact⟨v,f x c e v z⟩
 ·obtain⟨m,⟨o,_,_,j,_⟩,_⟩:=I.loc;exact free _ o (λz=>(hch _ z).2.1 rfl) j I.free
 ·obtain⟨v,o,j,A⟩:=I.cell x c e;exact free c o (λz=>(hch c z).2.2.1 x c e rfl) j<|I.fU x c e
 ·obtain⟨e,n,ne,D,d⟩:=I.pin p C;have a:p.1∉ch:=λz=>(hch p.1 z).2.2.2 p C rfl;exact⟨keep p.1 p.2 ne D a e n,free p.1 p.2 a e n,ne,D,d⟩
def Inv.un(I:Inv X w_ σ H s)(u:Un X.fs [] H H' s.heap h')(bf:iC X.prog X.w H' h'):Inv X w_ σ H' {s with heap:=h',toks:=t'}:=by
 obtain⟨m,⟨o,p,l,f,r⟩,_⟩:=id I.loc;obtain⟨j,g⟩:=u.any f I.free (by simp)
 exact I.step (g':=s.gens) (d':=s.drawn) (ch:=[]) (λ_ z=>nomatch z) (λb o _ hb _ e n=>u.keep b o e n hb (by simp)) (λb o _ hb _ e n=>u.slot b o e n hb (by simp)) (λb o _ e n=>u.free b o e n (by simp)) (λb o _ e=>u.there b o e (by simp)) u.qT u.qh u.qQ (λq hm=>by
  obtain⟨i,c,d,a,h⟩:=hm;rw[f]at a;cases a
  exact⟨_,c,d,g,h⟩) bf I.bare
def Inv.call(I:Inv X w_ σ H s)(u:Un (jF X.stack) ch H H' s.heap h')(bf:iC X.prog X.w H' h')(hg:AllBare g')
  (hch:∀b∈ch,(b∈X.ex∨X.s₀.heap.objs.size<=b)/\b≠X.env.locals/\(∀x c,X.env.cells.lookup x=some c->c≠b)/\∀p∈X.pn++w_,p.1≠b):
  Inv X w_ σ H' {s with heap:=h',gens:=g',drawn:=d',toks:=t'}:=by
 obtain⟨m,⟨o,t,q,h,r⟩,_⟩:=id I.loc;obtain⟨l,f⟩:=u.any h I.free λz=>(hch _ z).2.1 rfl;exact I.step (ch:=ch) hch (λb o f hb hc e n=>u.keep b o e n (λz=>(gz.mp<|I.tD b z).elim f hb) hc) (λb o _ _ hc e n=>u.any e n hc) (λb o hc e n=>u.free b o e n hc) (λb o hc e=>u.there b o e hc) u.qT u.qh u.qQ (λv hm=>by
  obtain⟨j,d,g,a,i⟩:=hm;rw[h]at a;cases a
  exact⟨_,d,g,f,i⟩) bf hg
variable{it:Addr}
def Inv.turned(I:Inv X w_ σ H s)(k:∀b o,b≠it->s.heap.get? b=some o->h'.get? b=some o)(hn:H it=none)(hL:it≠X.env.locals)
  (h1:it∈X.ex∨X.s₀.heap.objs.size<=it) (h2:∀x c,X.env.cells.lookup x=some c->c≠it) (h3:∀p∈X.pn++w_,p.1≠it):Inv X w_ σ H {s with heap:=h',toks:=t'}:=by
 have a:∀b u,H b=some u->b≠it:=λb u e z=>by rw[z,hn]at e;cases e
 refine I.step (g':=s.gens) (d':=s.drawn) (ch:=[it]) (λb hb=>?_) (λb o _ _ hc e _=>k b o (λz=>hc (by simp[z])) e) (λb o _ _ hc e _=>⟨o.slots,k b o (λz=>hc (by simp[z])) e⟩) (λ_ _ _ _ n=>n)
  (λb o hc e=>⟨o,k b o (λz=>hc (by simp[z])) e⟩) (λ_ _ e=>e) (λ_ _ _ e=>e) (λb h e=>⟨#[],by rw[e];simp⟩) (λm hm=>?_) (λb u e=>?_) I.bare
 ·have e:b=it:=by simpa using hb
  subst e;exact⟨h1,hL,h2,h3⟩
 ·obtain⟨o,f,d,g,r⟩:=hm;exact⟨o,f,d,k _ o (Ne.symm hL) g,r⟩
 ·refine(I.bf b u e).tq (λc v hc q=>k c v ?_ q) (λ_ q=>q) λ_ _ q=>q
  rcases hc with z|z
  ·rw[z];exact a b u e
  ·exact a c _ z
def Inv.tok(I:Inv X w_ σ H s)(t:Nat):Inv X w_ σ H {s with toks:=t}:=I.un (h':=s.heap) (t':=t) Un.refl I.bf
theorem Inv.kept{t':Nat}(I:Inv X w_ σ H s)(k:∀b u,s.heap.get? b=some u->h'.get? b=some u):Inv X w_ σ H {s with heap:=h',toks:=t'}:=I.un (Un.kept k)<|I.bf.kept k
theorem Inv.laid{a:Addr}{o:HO}{t':Nat}(I:Inv X w_ σ H s)(k:∀b u,s.heap.get? b=some u->h'.get? b=some u)(hp:s.heap.objs.size<=a)(new:bB X.prog X.w (upd H a o) h' a o):
  Inv X w_ σ (upd H a o) {s with heap:=h',toks:=t'}:=I.un (Un.laid k hp<|I.bf.fresh hp)<|I.bf.laid k hp new
theorem Inv.write{x e:Addr}{o:HO}{t':Nat}(I:Inv X w_ σ H s)(mu:QC (H x))(he:e=x∨H e=some (.own x))(k:∀b u,b≠e->s.heap.get? b=some u->h'.get? b=some u)(heo:∃u,h'.get? e=some u)
  (new:bB X.prog X.w (upd H x o) h' x o):Inv X w_ σ (upd H x o) {s with heap:=h',toks:=t'}:=I.un (Un.write mu he k heo)<|I.bf.write mu he k heo new
def Inv.AR{pins':aO0}(I:Inv X w_ σ H s)(h:∀p∈pins',s.heap.get? p.1=some p.2/\H p.1=none/\p.1≠X.env.locals/\p.1∉X.fs/\∀v,p.2.data≠.cell v):Inv X pins' σ H s:=
 ⟨I.ok,I.os,I.bare,I.base,I.loc,I.cell,I.free,I.fU,λp a=>(ih.mp a).elim (λz=>I.pin p<|LI _ z)<|h p,I.bf,I.len⟩
variable{x:Str}{N:f_}{i j:Nat}
def oF(hN:N.Nodup)(a:N[i]?=some x)(b:N[j]?=some x):i=j:=by
 obtain⟨h1,d⟩:=nt.mp a;obtain⟨e,c⟩:=nt.mp b;exact(getElem_inj hN).mp (d.trans c.symm)
variable{u:Value}{M:Model}{A:Around}{E:c_}{v:V}{Q:Unit->Shared->Prop}
def rM(I:Inv X w_ σ H s)(hN:X.N.Nodup)(hi:X.N[i]?=some x)(hx:Loc X.env.scope x)(r:RelV v u)
  (h:∀s',Inv X w_ (σ.set i<|some v) H s'->(∃a,SameBut a s.heap s'.heap/\(a=X.env.locals∨X.env.cells.lookup x=some a))->Q () s') (hf:X.fn x=true∨X.env.scope.names.lookup x=some .local:=by first|exact .inl rfl|exact .inr rfl|assumption):wpAny M A (storeName X.env x u) Q E s:=by
 obtain⟨m,hn,hl⟩:=id I.loc;have J:(X.env.scope.kind==.class||(X.env.scope.kind==.module&&X.env.locals != X.env.globals))=false:=by rw[I.ok.kind];rfl
 have O:i<σ.length:=by rw[I.len];exact(nt.mp hi).1
 have Je:=I.Je;have l:∀ {a:Addr} {D:Heap},(∃o,s.heap.get? a=some o/\H a=none)->SameBut a s.heap D->iC X.prog X.w H D:=λ{a D} ha f b ob e=>by
  obtain⟨_,_,t⟩:=ha;refine(I.bf b ob e).tq (λc R hc q=>(f.2 c ?_).trans q) (λ_ q=>q) λ_ _ q=>q;rintro rfl
  rcases hc with rfl|hc
  ·rw[t]at e;cases e
  ·rw[t]at hc;cases hc
 rcases hx with hk|hk
 ·refine wpAny_storeName_local hk hn (λD T f=>?_) J;obtain⟨oL,_,_,ab,_⟩:=id hn;refine h _ ⟨I.ok,I.os,I.bare,⟨λb o e n hb hx=>?_,λb o e n hb hx=>?_,I.base.free,λb o e hx=>?_,I.base.qT,I.base.qh,I.base.qQ⟩,⟨_,T,λj y Y g B S=>?_⟩,λy c e=>?_,I.free,I.fU,λp U=>?_,l ⟨oL,ab,I.free⟩ f,by simpa using I.len⟩ ⟨_,f,.inl rfl⟩
  ·exact(f.2 b<|ot<|j5 (lt_size e) I.ok.above).trans (I.base.keep b o e n hb hx)
  ·obtain⟨W,g⟩:=I.base.slot b o e n hb hx;exact⟨W,(f.2 b<|ot<|j5 (lt_size e) I.ok.above).trans g⟩
  ·obtain⟨o',g⟩:=I.base.there b o e hx;exact⟨o',(f.2 b<|ot<|j5 (lt_size e) I.ok.above).trans g⟩
  ·by_cases hj:j=i
   ·subst hj;rw[hi]at g;cases g
    rw[List.getElem?_set_self O]at B
    cases B
    exact⟨u,r,.inl ⟨hk,by simp⟩⟩
   ·rw[List.getElem?_set_ne (Ne.symm hj)]at B;obtain⟨u',Z,q⟩:=hl j y Y g B S;refine⟨u',Z,?_⟩
    rcases q with ⟨k,e⟩|⟨k,c,e,z⟩
    ·refine .inl ⟨k,?_⟩
     have:y≠x:=λe=>hj<|oF hN g<|e ▸ hi
     simp[this,e]
    ·exact .inr ⟨k,c,e,z.sameBut f<|Je y c e⟩
  ·obtain⟨R,z⟩:=I.cell y c e;exact⟨R,z.sameBut f<|Je y c e⟩
  ·obtain⟨e,n,ne,nf,d⟩:=I.pin p U;exact⟨(f.2 p.1 ne).trans e,n,ne,nf,d⟩
 ·have C:X.fn x=true:=by
   rcases hf with z|z
   ·exact z
   ·rw[z]at hk;cases hk
  obtain⟨c,hc⟩:=I.ok.has x<|.inl hk;obtain⟨R,z⟩:=I.cell x c hc;refine wpAny_storeName_cell I.ok.kind hk hc z λD K f=>?_;obtain⟨oc,L,F⟩:=id z;refine h {s with heap:=D} ⟨I.ok,I.os,I.bare,⟨λb o e n hb hx=>?_,λb o e n hb hx=>?_,I.base.free,λb o e hx=>?_,I.base.qT,I.base.qh,I.base.qQ⟩,⟨m,hn.sameBut f<|Ne.symm<|Je x c hc,λj y Y g B S=>?_⟩,λy P e=>?_,I.free,I.fU,λp U=>?_,l ⟨oc,L,I.fU x c hc⟩ f,by simpa using I.len⟩ ⟨c,f,.inr hc⟩
  ·exact(f.2 b<|ot<|j5 (lt_size e)<|I.ok.NF x c C hc).trans (I.base.keep b o e n hb hx)
  ·obtain⟨W,g⟩:=I.base.slot b o e n hb hx;exact⟨W,(f.2 b<|ot<|j5 (lt_size e)<|I.ok.NF x c C hc).trans g⟩
  ·obtain⟨o',g⟩:=I.base.there b o e hx;exact⟨o',(f.2 b<|ot<|j5 (lt_size e)<|I.ok.NF x c C hc).trans g⟩
  ·by_cases hj:j=i
   ·subst hj;rw[hi]at g;cases g
    rw[List.getElem?_set_self O]at B
    cases B
    exact⟨u,r,.inr ⟨.inl hk,c,hc,K⟩⟩
   ·rw[List.getElem?_set_ne (Ne.symm hj)]at B;obtain⟨u',Z,q⟩:=hl j y Y g B S;refine⟨u',Z,?_⟩
    rcases q with q|⟨k,P,e,z'⟩
    ·exact .inl q
    ·refine .inr ⟨k,P,e,z'.sameBut f ?_⟩;rintro rfl;exact hj<|oF hN g<|I.ok.inj _ _ _ e hc ▸ hi
  ·by_cases G:P=c
   ·subst G;exact⟨_,K⟩
   ·obtain⟨w2,z2⟩:=I.cell y P e;exact⟨w2,z2.sameBut f G⟩
  ·obtain⟨e,n,ne,nf,d⟩:=I.pin p U;refine⟨(f.2 p.1 ?_).trans e,n,ne,nf,d⟩;intro q;rw[q,L]at e;have q':oc=p.2:=qa e;exact d R (by rw[<-q'];exact F)
def kL(I:Inv X w_ σ H s)(hN:X.N.Nodup)(hi:X.N[i]?=some x)(hx:Loc X.env.scope x)(r:RelV v u)
  (h:∀s',Inv X w_ (σ.set i<|some v) H s'->Q () s') (hf:X.fn x=true∨X.env.scope.names.lookup x=some .local:=by first|exact .inl rfl|exact .inr rfl|assumption):wpAny M A (storeName X.env x u) Q E s:=
 rM I hN hi hx r (λs' a _=>h s' a) hf
variable{s':Shared}
def Inv.vE(I:Inv X w_ σ H s)(ho:s'.os=s.os)(u:Un (jF X.stack) ch H H' s.heap s'.heap)(bf:iC X.prog X.w H' s'.heap)(hg:AllBare s'.gens)
  (hch:∀b∈ch,(b∈X.ex∨X.s₀.heap.objs.size<=b)/\b≠X.env.locals/\(∀x c,X.env.cells.lookup x=some c->c≠b)/\∀p∈X.pn++w_,p.1≠b):Inv X w_ σ H' s':=by
 obtain⟨d,g',d',t',a⟩:=s';have e:a=s.os:=ho;subst e;exact I.call (g':=g') (t':=t') (d':=d') u bf hg hch
abbrev XK:=Value->Option Addr->Hp->Prop
abbrev St:=List<|Option V
abbrev o_:=Nat->St->Hp->Prop
abbrev p_:=St->Hp->Prop
abbrev q_:=V->Hp->Prop
abbrev r_:=Hp->Prop
abbrev s_:=List (Key × V)
abbrev t_:=List (Str × V)
abbrev u_:=List V
abbrev v_:=Option V
abbrev VK:=V->Hp->Prop
abbrev TE:=St->Hp->VK->Prop
abbrev TT:=St->Hp->(Bool->Hp->Prop)->Prop
abbrev TA:=St->Hp->(List V->Hp->Prop)->Prop
structure Ends where
 nx:St->Hp->Prop
 rt:VK
 bk:p_:=λ_ _=>False
 ct:p_:=λ_ _=>False
abbrev TS:=Ends->St->Hp->Prop
def EP(X:Cx)(w_:aO0)(σ:St)(Q:VK)(u:Value)(s':Shared):Prop:=∃v H',Inv X w_ σ H' s'/\RelV v u/\Q v H'
def TP(X:Cx)(w_:aO0)(σ:St)(Q:Bool->r_)(b:Bool)(s':Shared):Prop:=∃H',Inv X w_ σ H' s'/\Q b H'
def AP(X:Cx)(w_:aO0)(σ:St)(Q:u_->r_)(us:f')(s':Shared):Prop:=∃vs H',Inv X w_ σ H' s'/\Vals vs us/\Q vs H'
def SP(X:Cx)(w_:aO0)(D:Ends)(f:Flow)(s':Shared):Prop:=
 match f with
 |.next=>∃σ' H',Inv X w_ σ' H' s'/\D.nx σ' H'
 |.brk=>∃σ' H',Inv X w_ σ' H' s'/\D.bk σ' H'
 |.cont=>∃σ' H',Inv X w_ σ' H' s'/\D.ct σ' H'
 |.ret u=>∃v σ' H',Inv X w_ σ' H' s'/\RelV v u/\D.rt v H'
def PE(X:Cx)(e:Expr)(t:TE):Prop:=
 ∀(w_:aO0) (s:Shared) (σ:St) (H:Hp) (Q:VK),Inv X w_ σ H s->t σ H Q->wpAny (model X.prog X.w) X.A (eval e X.env) (EP X w_ σ Q) X.xe s
def PT(X:Cx)(e:Expr)(t:TT):Prop:=
 ∀(w_:aO0) (s:Shared) (σ:St) (H:Hp) (Q:Bool->r_),Inv X w_ σ H s->t σ H Q->wpAny (model X.prog X.w) X.A (isTrue e X.env<|eval e X.env) (TP X w_ σ Q) X.xe s
def PW(X:Cx)(e:Expr)(t:TT):Prop:=
 ∀(whole:Sem Value) (w_:aO0) (s:Shared) (σ:St) (H:Hp) (Q:Bool->r_),Inv X w_ σ H s->t σ H Q->wpAny (model X.prog X.w) X.A (isTrue e X.env whole) (TP X w_ σ Q) X.xe s
variable{e:Expr}
def PW.pt{t:TT}(h:PW X e t):PT X e t:=h _
def PA(X:Cx)(es:i_)(t:TA):Prop:=
 ∀(pos:Pos) (w_:aO0) (s:Shared) (σ:St) (H:Hp) (Q:u_->r_),Inv X w_ σ H s->t σ H Q->wpAny (model X.prog X.w) X.A (spliced<|backTo pos<|starEach es X.env) (AP X w_ σ Q) X.xe s
def PS(X:Cx)(st:Stmt)(t:TS):Prop:=
 ∀(w_:aO0) (s:Shared) (σ:St) (H:Hp) (D:Ends),Inv X w_ σ H s->t D σ H->wpAny (model X.prog X.w) X.A (exec st X.env) (SP X w_ D) X.xe s
def yn(X:Cx)(st:n_)(t:TS):Prop:=
 ∀(w_:aO0) (s:Shared) (σ:St) (H:Hp) (D:Ends),Inv X w_ σ H s->t D σ H->wpAny (model X.prog X.w) X.A (execs st X.env) (SP X w_ D) X.xe s
variable{α:Type}
def bN{t:Sem α}{Q Q':α->Shared->Prop}(h:wpAny M A t Q E s)(hQ:∀a s,Q a s->Q' a s):wpAny M A t Q' E s:=sh h hQ λ_ _ x=>x
def tE(i:Nat):TE:=λσ H Q=>∃v,σ[i]?=some (some v)/\Q v H
def tC(v:V):TE:=λ_ H Q=>Q v H
def NO{pos:Pos}(hN:X.N[i]?=some x)(hv:TB X.env.scope x)(hd:(x==("__debug__":Str))=false:=by decide)(hcd:(x==("__classdict__":Str))=false:=by decide):PE X (.Name x pos) (tE i):=by
 intro d s σ H Q I h;obtain⟨v,e,h⟩:=h;obtain⟨m,hn,f⟩:=I.loc;obtain⟨u,r,l⟩:=f i x v hN e hv;have b:EP X d σ Q u s:=⟨v,H,I,r,h⟩
 rcases l with ⟨hk,hm⟩|⟨hk,c,hc,a⟩
 ·exact wpAny_Name (wpAny_loadName_local I.ok.kind hk hn hm b) hd
 ·rcases hk with hk|hk
  ·exact wpAny_Name (wpAny_loadName_cell I.ok.kind hk hc a b) hd
  ·exact wpAny_Name (wpAny_loadName_free I.ok.kind hk hc a b hcd) hd
def lO{i j pos}:PE X (.Constant (.int i) j pos) (tC<|.int i):=λ_ _ _ H _ I h=>wpAny_Constant_int ⟨.int i,H,I.tok _,⟨_,rfl⟩,h⟩
def QD{b j pos}:PE X (.Constant (.bool b) j pos) (tC<|.bl b):=λ_ _ _ H _ I h=>Constant_bool ⟨.bl b,H,I,rfl,h⟩
def NP{j pos}:PE X (.Constant .none j pos) (tC .bA):=λ_ _ _ H _ I h=>Constant_none ⟨.bA,H,I,rfl,h⟩
def El{x j pos}:PE X (.Constant (.str x) j pos) (tC<|.str x):=λ_ _ _ H _ I h=>Calls.Constant_str ⟨.str x,H,I.tok _,⟨_,rfl⟩,h⟩
def Gl(X:Cx)(x:Str):Prop:=X.env.kindOf x=some .globalImplicit
variable{Q:c_}
def kM{σ:St}{pos:Pos}(I:Inv X w_ σ H s)(hg:Gl X x)(hm:X.mg x=some u)(h:Q u s)
  (hd:(x==("__debug__":Str))=false:=by decide):wpAny (model X.prog X.w) X.A (eval (.Name x pos) X.env) Q E s:=
 Calls.Name_function_global I.ok.kind hg (Calls.loadGlobal_global (by rw[I.ok.glob];exact I.mod.glob.keeps I.bk) hm h) hd
def jT{σ:St}{pos:Pos}(I:Inv X w_ σ H s)(hg:Gl X x)(hm:X.mg x=none)(hv:bootBuiltins x=some u)(h:Q u s)
  (hn:x≠"__name__":=by decide) (hd:(x==("__debug__":Str))=false:=by decide):wpAny (model X.prog X.w) X.A (eval (.Name x pos) X.env) Q E s:=by
 obtain⟨mb,h1,a⟩:=I.mod.blt;exact Calls.Name_function_global I.ok.kind hg (Calls.loadGlobal_builtin (by rw[I.ok.glob];exact I.mod.glob.keeps I.bk) hm (by rw[I.ok.blt];exact h1.keeps I.bk) ((a x hn).trans hv) h) hd
def nU{pos:Pos}(hg:Gl X x)(hm:X.mg x=some u)(r:RelV v u)(hd:(x==("__debug__":Str))=false:=by decide):PE X (.Name x pos) (tC v):=
 λ_ _ _ H _ I h=>kM I hg hm ⟨v,H,I,r,h⟩ hd
def Jf{pos:Pos}(hg:Gl X x)(hm:X.mg x=none)(hv:bootBuiltins x=some u)(r:RelV v u)(hn:x≠"__name__":=by decide)(hd:(x==("__debug__":Str))=false:=by decide):PE X (.Name x pos) (tC v):=
 λ_ _ _ H _ I h=>jT I hg hm hv ⟨v,H,I,r,h⟩ hn hd
def PC(X:Cx)(op:CmpOp)(a b:Expr)(t:TE):Prop:=
 ∀(w_:aO0) (s:Shared) (σ:St) (H:Hp) (Q:VK),Inv X w_ σ H s->t σ H Q->
  wpAny (model X.prog X.w) X.A (eval a X.env) (λv d=>wpAny (model X.prog X.w) X.A (eval b X.env) (λu c=>wpAny (model X.prog X.w) X.A (compareOp op v u) (EP X w_ σ Q) X.xe c) X.xe d) X.xe s
def tB(t:TE):TT:=λσ H Q=>t σ H λx H1=>∃c,x=.bl c/\Q c H1
variable{a b:Expr}{pos:Pos}{t:TE}{op:CmpOp}
def NQ(h:PC X op a b t)(h1:behindInMarks op b=false:=by first|exact nobehind _ a_ a_|rfl):PE X (.Compare a [op] [b] pos) t:=λc s σ H Q I d=>wpAny_Compare1 (h c s σ H Q I d) h1
def Em(h:PC X op a b t)(h1:behindInMarks op b=false:=by first|exact nobehind _ a_ a_|rfl):PT X (.Compare a [op] [b] pos) (tB t):=by
 intro e s σ H Q I f;refine wpAny_isTrue_Compare1 (bN (h e s σ H _ I f) λv o h1=>bN h1 λu n g=>bN g λc m ⟨x,H1,l,j,i⟩=>?_) h1;obtain⟨d,rfl,q⟩:=i
 cases j
 exact A2 ⟨H1,l,q⟩
def NR(h:PE X e t)(he:∀whole,isTrue e X.env whole=(do let v<-whole;standAt e.pos;holding [v] (truthy v)):=by intro _;rfl):PT X e (tB t):=by
 intro a s σ H Q I b;refine isTrue_plain (bN (h a s σ H _ I b) λv i ⟨x,H1,g,c,f⟩=>?_)<|he _;obtain⟨d,rfl,q⟩:=f
 cases c
 exact A2 ⟨H1,g,q⟩
def NS(t u:TT):TT:=λσ H Q=>t σ H λc H1=>if c=true then u σ H1 Q else Q false H1
def TZ(t u:TT):TT:=λσ H Q=>t σ H λc H1=>if c=true then Q true H1 else u σ H1 Q
def NT(t:TT):TT:=λσ H Q=>t σ H λc H1=>Q (!c) H1
variable{tA:TT}
def Jg(ha:PT X a tA):PW X (.BoolOp .And [a] pos) tA:=by
 intro d b s σ H Q I h;refine isTrue_and<|bN (ha b s σ H Q I h) λc f e=>?_
 cases c with
 |true=>exact isTrue_and_nil e
 |false=>exact e
def NU(ha:PT X a tA):PW X (.BoolOp .Or [a] pos) tA:=by
 intro d b s σ H Q I h;refine isTrue_or<|bN (ha b s σ H Q I h) λc f e=>?_
 cases c with
 |false=>exact isTrue_or_nil e
 |true=>exact e
variable{tB':TT}{rest:i_}
def NV(ha:PT X a tA)(hb:PW X (.BoolOp .And (b::rest) pos) tB'):PW X (.BoolOp .And (a::b::rest) pos) (NS tA tB'):=by
 intro g d s σ H Q I h;refine isTrue_and<|bN (ha d s σ H _ I h) λc i ⟨H1,f,e⟩=>?_
 cases c with
 |true=>exact hb g d i σ H1 Q f e
 |false=>exact⟨H1,f,e⟩
def QF(ha:PT X a tA)(hb:PW X (.BoolOp .Or (b::rest) pos) tB'):PW X (.BoolOp .Or (a::b::rest) pos) (TZ tA tB'):=by
 intro g d s σ H Q I h;refine isTrue_or<|bN (ha d s σ H _ I h) λc i ⟨H1,f,e⟩=>?_
 cases c with
 |true=>exact⟨H1,f,e⟩
 |false=>exact hb g d i σ H1 Q f e
def NW(ha:PT X a tA):PT X (.UnaryOp .Not a pos) (NT tA):=by
 intro b s σ H Q I h;exact isTrue_not<|ha b s σ H (λc H1=>Q (!c) H1) I h
def En(ta tb:TE):TE:=λσ H Q=>ta σ H λx H1=>∃c,x=.bl c/\if c=true then tb σ H1 Q else Q (.bl false) H1
def NX(ta tb:TE):TE:=λσ H Q=>ta σ H λx H1=>∃c,x=.bl c/\if c=true then Q (.bl true) H1 else tb σ H1 Q
def Eo(ta:TE):TE:=λσ H Q=>ta σ H λx H1=>∃c,x=.bl c/\Q (.bl<|!c) H1
def NY{op}(h:PE X a t):PE X (.BoolOp op [a] pos) t:=λb s σ H Q I c=>BoolOp_one<|h b s σ H Q I c
variable{ta tb:TE}
def NZ(ha:PE X a ta)(hb:PE X (.BoolOp .And (b::rest) pos) tb):PE X (.BoolOp .And (a::b::rest) pos) (En ta tb):=by
 intro d s σ H Q I h;refine BoolOp_and<|bN (ha d s σ H _ I h) λv i ⟨x,H1,f,g,e⟩=>?_;obtain⟨c,rfl,e⟩:=e
 cases g
 refine A2 ?_
 cases c with
 |true=>exact hb d i σ H1 Q f e
 |false=>exact⟨.bl false,H1,f,rfl,e⟩
def QH(ha:PE X a ta)(hb:PE X (.BoolOp .Or (b::rest) pos) tb):PE X (.BoolOp .Or (a::b::rest) pos) (NX ta tb):=by
 intro d s σ H Q I h;refine BoolOp_or<|bN (ha d s σ H _ I h) λv i ⟨x,H1,f,g,e⟩=>?_;obtain⟨c,rfl,e⟩:=e
 cases g
 refine A2 ?_
 cases c with
 |false=>exact hb d i σ H1 Q f e
 |true=>exact⟨.bl true,H1,f,rfl,e⟩
def N0(ha:PE X a ta):PE X (.UnaryOp .Not a pos) (Eo ta):=by
 intro b s σ H Q I h;refine UnaryOp_<|bN (ha b s σ H _ I h) λv g ⟨x,H1,f,e,d⟩=>?_;obtain⟨c,rfl,d⟩:=d
 cases e
 exact not_of<|A2 ⟨.bl<|!c,H1,f,rfl,d⟩
def T1(t:TT)(ta tb:TE):TE:=λσ H Q=>t σ H λc H1=>if c=true then ta σ H1 Q else tb σ H1 Q
variable{c:Expr}
def Ep(hc:PT X c tA)(ha:PE X a ta)(hb:PE X b tb):PE X (.IfExp c a b pos) (T1 tA ta tb):=by
 intro e s σ H Q I h;refine wpAny_IfExp<|bN (hc e s σ H _ I h) λd i ⟨H1,g,f⟩=>?_
 cases d with
 |true=>exact ha e i σ H1 Q g f
 |false=>exact hb e i σ H1 Q g f
def ay(K:Frag)(H:Hp)(a:Addr)(xs:u_):Prop:=
 Rd H a (.lst xs)∨
  ∃(o:Obj) (its:k_) (n:Nat),K.lookup a=some o/\o.cls=.type "list"/\o.dict=none/\o.data=.seq its n/\its.size<=sizeLine/\Vals xs its.toList
def aP(K:Frag)(H:Hp)(a:Addr)(xs:u_):Prop:=
 Rd H a (.tup xs)∨
  ∃(o:Obj) (its:k_) (n:Nat),K.lookup a=some o/\o.cls=.type "tuple"/\o.data=.seq its n/\its.size<=sizeLine/\Vals xs its.toList
noncomputable def T2:Value->Option V
 |.none=>some .bA
 |.bool b=>some<|.bl b
 |.int i _=>some<|.int i
 |.str x _=>some<|.str x
 |.bytes b _=>some<|.Tw b
 |.float b _=>some<|.NC b
 |.ref a=>some<|.ref a
 |.type n=>some<|.ty n
 |_=>none
def RelV.abs{x:V}(r:RelV x u):T2 u=some x:=by
 cases x with
 |bA=>cases r;rfl
 |bl _=>cases r;rfl
 |int _=>obtain⟨t,rfl⟩:=r;rfl
 |str _=>obtain⟨t,rfl⟩:=r;rfl
 |Tw _=>obtain⟨t,rfl⟩:=r;rfl
 |NC _=>obtain⟨t,rfl⟩:=r;rfl
 |ref _=>cases r;rfl
 |ty _=>cases r;rfl
def RelV.inj{x y:V}{u:Value}(r:RelV x u)(q:RelV y u):x=y:=qa<|r.abs.symm.trans q.abs
theorem Vals.inj:∀ {xs ys:u_} {us:f'},Vals xs us->Vals ys us->xs=ys
 |_,_,_,.nil,.nil=>rfl
 |_,_,_,.cons r t,.cons a b=>by rw[r.inj a,Vals.inj t b]
variable{a:Addr}{xs:u_}{K:Frag}
def ay.of(h:H a=some (.lst xs)):ay K H a xs:=.inl<|.inl h
def aP.of(h:H a=some (.tup xs)):aP K H a xs:=.inl<|.inl h
variable{σ:St}
def Inv.list(I:Inv X w_ σ H s)(h:ay X.K H a xs):∃its:f',Vals xs its/\PlainL s.heap a its.toArray/\xs.length<=sizeLine:=by
 rcases h with h|⟨o,its,n,hk,hc,c,b,d,r⟩
 ·obtain⟨z,its,n,r,e⟩:=h.ok I.bf;exact⟨its,r,⟨_,n,e,rfl,rfl,rfl⟩,z⟩
 ·refine⟨its.toList,r,⟨o,n,I.jw a o hk,hc,c,by simpa using b⟩,?_⟩
  have e:=r.length;simp only[Array.length_toList]at e
  omega
def Inv.tuple(I:Inv X w_ σ H s)(h:aP X.K H a xs):∃its:f',Vals xs its/\IsTup s.heap a its.toArray/\xs.length<=sizeLine:=by
 rcases h with h|⟨o,its,n,hk,hc,b,c,r⟩
 ·obtain⟨z,its,r,p⟩:=h.ok I.bf;exact⟨its,r,p,z⟩
 ·refine⟨its.toList,r,⟨o,I.jw a o hk,hc,n,by simpa using b⟩,?_⟩
  have e:=r.length;simp only[Array.length_toList]at e
  omega
variable{ys:u_}
def Inv.vF(I:Inv X w_ σ H s)(h:ay X.K H a xs)(h':ay X.K H a ys):xs=ys:=by
 obtain⟨c,r,⟨o,n,e,_,_,d⟩,_⟩:=I.list h;obtain⟨b,i,⟨m,l,f,_,_,g⟩,_⟩:=I.list h';rw[e]at f;cases f
 rw[d]at g
 injection g with j _
 have:c=b:=by simpa using SL Array.toList j
 subst this;exact r.inj i
def Inv.rN(I:Inv X w_ σ H s)(h:aP X.K H a xs)(h':aP X.K H a ys):xs=ys:=by
 obtain⟨c,r,⟨o,e,_,n,d⟩,_⟩:=I.tuple h;obtain⟨b,i,⟨m,f,_,l,g⟩,_⟩:=I.tuple h';rw[e]at f;cases f
 rw[d]at g
 injection g with j _
 have:c=b:=by simpa using SL Array.toList j
 subst this;exact r.inj i
noncomputable abbrev Cx.qu(X:Cx)(E:Value->Shared->Prop):Cx:={X with xe:=E}
noncomputable abbrev Cx.Mc(X:Cx):Cx:=X.qu λ_ _=>False
theorem Cx.Ok.qu{X:Cx}(ok:X.Ok)(E:c_):(X.qu E).Ok:=
 ⟨ok.mod,ok.kind,ok.glob,ok.blt,ok.above,ok.inj,ok.has,ok.NF,ok.hd,ok.frames,ok.LW,ok.Qg,ok.bs,ok.Ej,ok.ve,ok.xM,ok.jx,ok.Jb⟩
def Cx.Ok.iH(ok:(X.qu E).Ok):X.Ok:=
 ⟨ok.mod,ok.kind,ok.glob,ok.blt,ok.above,ok.inj,ok.has,ok.NF,ok.hd,ok.frames,ok.LW,ok.Qg,ok.bs,ok.Ej,ok.ve,ok.xM,ok.jx,ok.Jb⟩
theorem Inv.qu(I:Inv X w_ σ H s)(E:c_):Inv (X.qu E) w_ σ H s:=⟨I.ok.qu E,I.os,I.bare,I.base,I.loc,I.cell,I.free,I.fU,I.pin,I.bf,I.len⟩
theorem Inv.iH(I:Inv (X.qu E) w_ σ H s):Inv X w_ σ H s:=⟨I.ok.iH,I.os,I.bare,I.base,I.loc,I.cell,I.free,I.fU,I.pin,I.bf,I.len⟩
theorem SP.iH{D:Ends}{f:Flow}{s':Shared}(h:SP (X.qu E) w_ D f s'):SP X w_ D f s':=by
 cases f with
 |next=>obtain⟨b,a,I,q⟩:=h;exact⟨b,a,I.iH,q⟩
 |brk=>obtain⟨b,a,I,q⟩:=h;exact⟨b,a,I.iH,q⟩
 |cont=>obtain⟨b,a,I,q⟩:=h;exact⟨b,a,I.iH,q⟩
 |ret u=>obtain⟨v,b,a,I,r,q⟩:=h;exact⟨v,b,a,I.iH,r,q⟩
theorem yn.Mc{st:n_}{t:TS}(h:yn X.Mc st t):yn X st t:=λa s σ H D I b=>
 sh (h a s σ H D (I.qu _) b) (λ_ _ q=>q.iH) λ_ _ z=>False.elim z
def vG:TS:=λD σ H=>D.nx σ H
def oH(t u:TS):TS:=λD σ H=>t {D with nx:=u D} σ H
def Jh:yn X [] vG:=λ_ _ σ H _ I h=>wpAny_execs_nil ⟨σ,H,I,h⟩
variable{st:Stmt}{rest:n_}{t u:TS}
def Er(h1:PS X st t)(h2:yn X rest u):yn X (st::rest) (oH t u):=by
 intro a s σ H D I h;refine wpAny_execs_cons<|bN (h1 a s σ H {D with nx:=u D} I h) λf e q=>?_
 cases f with
 |next=>
  obtain⟨b,d,c,q⟩:=q;exact h2 a e b d D c q
 |ret v=>exact q
 |brk=>exact q
 |cont=>exact q
def Ji(h1:PS X st t):yn X [st] t:=by
 intro a s σ H D I h;refine wpAny_execs_cons<|bN (h1 a s σ H D I h) λf b q=>?_
 cases f with
 |next=>exact wpAny_execs_nil q
 |ret v=>exact q
 |brk=>exact q
 |cont=>exact q
def Inv.quiet{σ:St}(I:Inv X w_ σ H s):interactive X.env=false:=by simp[interactive,I.ok.kind]
def Es(te:TE):TS:=λD σ H=>te σ H λ_ H1=>D.nx σ H1
variable{te:TE}
def Jj(he:PE X e te)(hs:swapsWith e none pos.line X.env=pure false:=by rfl):PS X (.Expr e pos) (Es te):=by
 intro a s σ H D I h;exact wpAny_Expr_any (bN (he a s σ H _ I h) λv f ⟨x,H1,c,d,b⟩=>⟨σ,H1,c,b⟩) I.quiet hs
def N1(te:TE):TS:=λD σ H=>te σ H D.rt
def N2(he:PE X e te):PS X (.Return (some e) pos) (N1 te):=by
 intro a s σ H D I h;exact wpAny_Return_some<|bN (he a s σ H _ I h) λv f ⟨x,H1,d,b,c⟩=>⟨x,σ,H1,d,b,c⟩
def N3(c:TT)(t u:TS):TS:=λD σ H=>c σ H λb H1=>if b=true then t D σ H1 else u D σ H1
variable{tc:TT}
def QK{a b:n_}(hc:PT X c tc)(ha:yn X a t)(hb:yn X b u):PS X (.If c a b pos) (N3 tc t u):=by
 intro e s σ H D I h;refine wpAny_If<|bN (hc e s σ H _ I h) λd i ⟨H1,g,f⟩=>?_
 cases d with
 |true=>exact ha e i σ H1 D g f
 |false=>exact hb e i σ H1 D g f
abbrev TG:=V->St->Hp->(St->Hp->Prop)->Prop
abbrev AS:=List V->St->Hp->(St->Hp->Prop)->Prop
def PG(X:Cx)(x_:Expr)(t:TG):Prop:=
 ∀(w_:aO0) (s:Shared) (σ:St) (H:Hp) (v:V) (u:Value) (Q:p_),Inv X w_ σ H s->RelV v u->t v σ H Q->
  wpAny (model X.prog X.w) X.A (assign x_ X.env u) (λ_ a=>∃σ' H',Inv X w_ σ' H' a/\Q σ' H') X.xe s
def Qn(X:Cx)(ts:i_)(t:AS):Prop:=
 ∀(w_:aO0) (s:Shared) (σ:St) (H:Hp) (vs:u_) (us:f') (Q:p_),Inv X w_ σ H s->Vals vs us->t vs σ H Q->
  wpAny (model X.prog X.w) X.A (assignInOrder ((assignEach ts X.env).map (·.2)) us) (λ_ a=>∃σ' H',Inv X w_ σ' H' a/\Q σ' H') X.xe s
abbrev Et:=V->V->V->Hp->(Hp->Prop)->Prop
def N4(X:Cx)(t:Et):Prop:=
 ∀(w_:aO0) (s:Shared) (σ:St) (H:Hp) (o i v:V) (ov iv u:Value) (Q:r_),Inv X w_ σ H s->RelV o ov->RelV i iv->RelV v u->t o i v H Q->
  wpAny (model X.prog X.w) X.A (setItem ov iv u) (λ_ a=>∃H',Inv X w_ σ H' a/\Q H') X.xe s
def bF(i:Nat):TG:=λv σ H Q=>Q (σ.set i<|some v) H
def Jk(hN:X.N.Nodup)(hi:X.N[i]?=some x)(hx:Loc X.env.scope x)(hf:X.fn x=true∨X.env.scope.names.lookup x=some .local:=by first|exact .inl rfl|exact .inr rfl|assumption):PG X (.Name x pos) (bF i):=by
 intro a s σ H v u Q I r h;exact wpAny_assign_Name<|kL I hN hi hx r (λc b=>⟨_,H,b,h⟩) hf
def qv:AS:=λa σ H Q=>a=[]/\Q σ H
def dS(t:TG)(u:AS):AS:=λc σ H Q=>∃v r,c=v::r/\t v σ H λa b=>u r a b Q
def Jl:Qn X [] qv:=by
 intro a s σ H c b Q I r h;obtain⟨e,h⟩:=h;subst e
 cases r
 exact assignInOrder_nil ⟨σ,H,I,h⟩
variable{es:i_}
def Eu{t:TG}{u:AS}(h1:PG X e t)(h2:Qn X es u)
  (hs:(assignEach (e::es) X.env).map (·.2)=assign e X.env::(assignEach es X.env).map (·.2):=by rfl):Qn X (e::es) (dS t u):=by
 intro a s σ H m l Q I r h;obtain⟨v,j,d,h⟩:=h;subst d
 cases r with
 |cons r b=>
  rw[hs];refine assignInOrder_cons<|bN (h1 a s σ H _ _ _ I r h) λ_ i ⟨f,H1,g,c⟩=>?_;exact h2 a i f H1 _ _ Q g b c
def qw(K:Frag)(n:Nat)(t:AS):TG:=λv σ H Q=>∃a xs,v=.ref a/\aP K H a xs/\xs.length=n/\t xs σ H Q
def N5{k:Nat}{t:AS}{n:Nat}(hc:X.calm=true)(h:Qn X es t)
  (hn:(assignEach es X.env).length=n:=by rfl) (hst:(assignEach es X.env).findIdx? (·.1)=none:=by rfl):PG X (.Tuple es k pos) (qw X.K n t):=by
 intro c s σ H v u Q I r d;obtain⟨a,g,m,hq,i,d⟩:=d;subst m
 cases r
 obtain⟨p,f,q,w⟩:=I.tuple hq;refine assign_Tuple_tuple (I.ok.hd hc) q (by simp[hn,<-i,f.length]) hst λj hx=>?_
 have l:Inv X c σ H {s with heap:=j}:=I.kept (t':=s.toks) λb o e=>hx b o (ot<|lt_size e) e;exact h c _ σ H g _ Q l (by simpa using f) d
def N6(to ti:TE)(t:Et):TG:=λv σ H Q=>to σ H λo H1=>ti σ H1 λi a=>t o i v a λb=>Q σ b
variable{to ti:TE}
def N7{o i:Expr}{t:Et}(ho:PE X o to)(hi:PE X i ti)(hs:N4 X t)
  (ha:∀v,assign (.Subscript o i pos) X.env v=(do
   let ov<-holding [v] (eval o X.env)
   let iv<-holding [v,ov] (eval i X.env)
   standAt pos
   holding [v,ov,iv] (setItem ov iv v)
   release [v,ov,iv] []):=by intro _;rfl):PG X (.Subscript o i pos) (N6 to ti t):=by
 intro a s σ H v u Q I r h;rw[ha];refine dy<|Vv<|bN (ho a s σ H _ I h) λov q ⟨x,H1,p,n,f⟩=>?_;refine dy<|Vv<|bN (hi a q σ H1 _ p f) λiv d ⟨y,e,j,m,g⟩=>?_;refine dy<|wpAny_standAt<|dy<|Vv<|bN (hs a d σ e x y v ov iv u _ j n m r g) λ_ w ⟨l,b,c⟩=>?_;exact wpAny_release ⟨σ,l,b,c⟩
def qx(te:TE)(g:TG):TS:=λD σ H=>te σ H λx H1=>g x σ H1 D.nx
variable{tg:Expr}{g:TG}
def N8(he:PE X e te)(hg:PG X tg g)(hs:swapsWithSole [tg] e pos.line X.env=pure false:=by rfl)(hw:swappedStores [tg] e X.env=pure none:=by rfl)
  (h1:(assignEach [tg] X.env).map (·.2)=[assign tg X.env]:=by rfl):PS X (.Assign [tg] e pos) (qx te g):=by
 intro a s σ H D I h;refine wpAny_Assign_stores (bN (he a s σ H _ I h) λv f ⟨x,H1,d,b,c⟩=>?_) hs hw;rw[h1];exact bN (hg a f σ H1 x v _ d b c) λ_ i q=>q
variable{pos':Pos}
def N9(hN:X.N.Nodup)(hi:X.N[i]?=some x)(hx:Loc X.env.scope x)(he:PE X e te)(hs:swapsWith e (some<|.Name x pos') pos.line X.env=pure false:=by rfl)(hf:X.fn x=true∨X.env.scope.names.lookup x=some .local:=by first|exact .inl rfl|exact .inr rfl|assumption):
  PS X (.Assign [.Name x pos'] e pos) (qx te<|bF i):=by
 intro a s σ H D I h;refine wpAny_Assign_Name (bN (he a s σ H _ I h) λv j ⟨y,H1,f,c,d⟩=>?_) hs;exact kL f hN hi hx c (λg b=>⟨_,H1,b,d⟩) hf
def tF(c:TT)(tb:TS):TS:=λD σ H=>∃W:o_,(∃m,W m σ H)/\∀m σ H,W m σ H->
 c σ H λb H1=>if b=true then ∃N:p_,(∀σ' H',N σ' H'->∃m',m' < m/\W m' σ' H')/\tb {D with nx:=N,ct:=N,bk:=D.nx} σ H1 else D.nx σ H1
variable{tb:TS}{body:n_}
def Ew(hp:PassesOwn (model X.prog X.w) X.A X.env X.xe)(hc:PT X c tc)(hb:yn X body tb):PS X (.While c body [] pos) (tF tc tb):=by
 intro a s σ H D I h;obtain⟨W,⟨E,x⟩,e⟩:=h;refine wpAny_While<|codeAny_whileLoop (λn F=>∃σ' H',Inv X a σ' H' F/\W n σ' H') ?_ E ⟨σ,H,I,x⟩;rintro n B ⟨l,H1,z,y⟩;refine Vo hp<|bN (hc a B l H1 _ z<|e n l H1 y) λb C ⟨r,t,i⟩=>?_
 cases b with
 |true=>
  obtain⟨N,u,i⟩:=i;rw[if_pos rfl];refine Vo hp<|bN (hb a C l r _ t i) λf G j=>?_
  cases f with
  |next=>
   obtain⟨d,g,m,o⟩:=j;obtain⟨p,hm,q⟩:=u d g o;exact⟨p,hm,d,g,m,q⟩
  |cont=>
   obtain⟨d,g,m,o⟩:=j;obtain⟨p,hm,q⟩:=u d g o;exact⟨p,hm,d,g,m,q⟩
  |brk=>exact j
  |ret v=>exact j
 |false=>
  rw[if_neg o6];exact wpAny_execs_nil ⟨l,r,t,i⟩
structure It where
 go:Nat->Hp->Prop
 Aw:Nat->Hp->V->Hp->Prop
 stop:Nat->Hp->Prop
def kN(X:Cx)(w_:aO0)(H:Hp)(b:Addr):Prop:=
 H b=none/\b≠X.env.locals/\b∉X.fs/\(b∈X.ex∨X.s₀.heap.objs.size<=b)/\(∀x c,X.env.cells.lookup x=some c->c≠b)/\∀p∈X.pn++w_,p.1≠b
def Inv.yr{σ:St}{b:Addr}(I:Inv X w_ σ H s)(hb:s.heap.objs.size<=b)(hn:H' b=none):kN X w_ H' b:=by
 refine⟨hn,VF<|j5 I.lt hb,I.TY hb,.inr<|hU I.sz hb,λx c e z=>?_,λp a z=>?_⟩
 ·obtain⟨v,q⟩:=I.cell x c e;exact absurd (j5 q.lt (by rw[z];exact hb))<|F8 _
 ·exact absurd (j5 (lt_size (I.pin p a).1) (by rw[z];exact hb))<|F8 _
structure Turn(P:Program)(w:World)(K:Frag)(tg:Expr)(J:It)(fp:l_)(it:Addr)(tn:Nat->Heap->Prop):Prop where
 mem:it∈fp
 obj:∀i h,tn i h->∀b∈fp,∃o,h.get? b=some o/\∀v,o.data≠.cell v
 keep:∀i h h',tn i h->(∀b∈fp,∀o,h.get? b=some o->h'.get? b=some o)->tn i h'
 item:∀(X:Cx),X.prog=P->X.w=w->X.K=K->X.calm=true->∀(i:Nat) (w_:aO0) (s:Shared) (σ:St) (H:Hp) (E:c_),Inv X w_ σ H s->(∀b∈fp,kN X w_ H b)->tn i s.heap->J.go i H->
  wpAny (model P w) X.A (pyNext<|.ref it) (λr s1=>∃u,r=some u/\
   wpAny (model P w) X.A (letOwnedTupleGo tg (.ref it) u) (λ_ s2=>∃x H',Inv X w_ σ H' s2/\RelV x u/\J.Aw i H x H'/\tn (i+1) s2.heap/\∀b∈fp,H' b=none) E s1) E s
 done:∀(X:Cx),X.prog=P->X.w=w->X.K=K->X.calm=true->∀(i:Nat) (w_:aO0) (s:Shared) (σ:St) (H:Hp) (E:c_),Inv X w_ σ H s->(∀b∈fp,kN X w_ H b)->tn i s.heap->J.stop i H->
  wpAny (model P w) X.A (pyNext<|.ref it) (λr s1=>r=none/\Inv X w_ σ H s1) E s
 self:∀(A:Around) (i:Nat) (s:Shared) (Q:c_) (E:c_),tn i s.heap->Q (.ref it) s->wpAny (model P w) A (pyIter<|.ref it) Q E s
abbrev TI:=St->Hp->(It->Hp->Prop)->Prop
def T3(X:Cx)(w_:aO0)(σ:St)(tg:Expr)(R:It->r_)(itv:Value)(s2:Shared):Prop:=
 ∃(it:Addr) (fp:l_) (tn:Nat->Heap->Prop) (J:It) (H':Hp),itv=.ref it/\Inv X w_ σ H' s2/\Turn X.prog X.w X.K tg J fp it tn/\tn 0 s2.heap/\(∀b∈fp,kN X w_ H' b)/\R J H'
def PI(X:Cx)(tg y_:Expr)(wi:TI):Prop:=
 ∀(w_:aO0) (s:Shared) (σ:St) (H:Hp) (R:It->r_),Inv X w_ σ H s->wi σ H R->
  wpAny (model X.prog X.w) X.A (eval y_ X.env) (λv a=>wpAny (model X.prog X.w) X.A (pyIter v) (T3 X w_ σ tg R) X.xe a) X.xe s
def Ex{u:Value}{o:Obj}{n:String}{vs:k_}{Q:Unit->Shared->Prop}(ho:s.heap.get? it=some o)(hc:o.cls=.type n)(hd:o.data=.fields vs)
  (hn:["enumerate","zip","dict_itemiterator","dict_reverseitemiterator","odict_iterator","itertools.zip_longest","itertools.pairwise"].contains n=false) (hQ:Q () s):wpAny M A (letOwnedTupleGo tg (.ref it) u) Q E s:=by
 unfold letOwnedTupleGo
 cases tg<;>first
  |exact fO hQ
  |(cases u<;>first
    |exact fO hQ
    |(refine dy<|wpAny_load ho ?_;rw[hc,hd];show wpAny M A (if(["enumerate","zip","dict_itemiterator","dict_reverseitemiterator","odict_iterator","itertools.zip_longest","itertools.pairwise"].contains n&&vs[0]? == some (rawInt _))=true then _ else _) Q E s;rw[if_neg (by intro h;rw[hn,qm]at h;cases h)];exact fO hQ))
noncomputable def IQ(K:Frag)(a:Addr):It:=
 ⟨λi H=>∃xs x,ay K H a xs/\xs[i]?=some x,λi H x b=>b=H/\∀xs,ay K H a xs->xs[i]?=some x,λi H=>∃xs,ay K H a xs/\xs.length<=i⟩
noncomputable def Eb(K:Frag)(a:Addr):It:=
 ⟨λi H=>∃xs x,aP K H a xs/\xs[i]?=some x,λi H x b=>b=H/\∀xs,aP K H a xs->xs[i]?=some x,λi H=>∃xs,aP K H a xs/\xs.length<=i⟩
noncomputable def AU(lo:Int)(n:Nat):It:=⟨λi _=>i<n,λi H x a=>a=H/\x=.int (lo+i),λi _=>n<=i⟩
def Cf{P:Program}{w:World}(a it:Addr):Turn P w K tg (IQ K a) [it] it (λi h=>h.IsListIter it a i) where
 mem:=by simp
 obj:=λi h f b hb=>by
  have e:b=it:=by simpa using hb
  subst e;obtain⟨o,e,c,d⟩:=f;exact⟨o,e,λv z=>by rw[d]at z;cases z⟩
 keep:=λi h m f k=>f.at λo e=>k it (by simp) o e
 item:=by
  intro X q n G hc i g s σ H E I l f A;subst q n G;obtain⟨Q,x,hq,hx⟩:=A;obtain⟨F,D,p,R⟩:=I.list hq;obtain⟨u,hu,N⟩:=D.get hx;obtain⟨B,C,L,y,t,r⟩:=l it (by simp)
  refine wpAny_pyNext_list_item f p.isList (x:=u) (by simpa using hu) λm j J=>?_
  have O:Inv X g σ H {s with heap:=m}:=I.turned (t':=s.toks) (λb o hb e=>(J.2 b hb).trans e) B C y t r;obtain⟨o,e,c,d⟩:=id j;exact⟨u,rfl,Ex (s:={s with heap:=m}) e c d a_ ⟨x,H,O,N,⟨rfl,λT hy=>by rw[I.vF hy hq];exact hx⟩,j,λb hb=>(l b hb).1⟩⟩
 done:=by
  intro X q n G hc i g s σ H E I l f A;subst q n G;obtain⟨Q,hq,hx⟩:=A;obtain⟨F,D,p,R⟩:=I.list hq;obtain⟨B,C,L,y,t,r⟩:=l it (by simp)
  have S:=D.length;exact wpAny_pyNext_list_end (I.ok.hd hc) f p.isList (by simp;omega) λm M=>⟨rfl,I.turned (t':=s.toks) (λb o hb e=>M b o hb e) B C y t r⟩
 self:=λ_ _ _ _ _ f h=>wpAny_pyIter_listiter f h
def yt{P:Program}{w:World}(a it:Addr):Turn P w K tg (Eb K a) [it] it (λi h=>h.IsTupleIter it a i) where
 mem:=by simp
 obj:=λi h f b hb=>by
  have e:b=it:=by simpa using hb
  subst e;obtain⟨o,e,c,d⟩:=f;exact⟨o,e,λv z=>by rw[d]at z;cases z⟩
 keep:=λi h n f k=>f.at λo e=>k it (by simp) o e
 item:=by
  intro X r q G hc i g s σ H E I m f B;subst r q G;obtain⟨Q,x,hq,hx⟩:=B;obtain⟨j,F,p,R⟩:=I.tuple hq;obtain⟨u,hu,N⟩:=F.get hx;obtain⟨C,D,L,A,y,t⟩:=m it (by simp)
  refine wpAny_pyNext_tuple_item f (show s.heap.IsTuple a j.toArray from p) (x:=u) (by simpa using hu) λn l J=>?_
  have O:Inv X g σ H {s with heap:=n}:=I.turned (t':=s.toks) (λb o hb e=>(J.2 b hb).trans e) C D A y t;obtain⟨o,e,c,d⟩:=id l;exact⟨u,rfl,Ex (s:={s with heap:=n}) e c d a_ ⟨x,H,O,N,⟨rfl,λT hy=>by rw[I.rN hy hq];exact hx⟩,l,λb hb=>(m b hb).1⟩⟩
 done:=by
  intro X r q G hc i g s σ H E I m f B;subst r q G;obtain⟨Q,hq,hx⟩:=B;obtain⟨j,F,p,R⟩:=I.tuple hq;obtain⟨C,D,L,A,y,t⟩:=m it (by simp)
  have S:=F.length;exact wpAny_pyNext_tuple_end (I.ok.hd hc) f (show s.heap.IsTuple a j.toArray from p) (by simp;omega) λn M=>⟨rfl,I.turned (t':=s.toks) (λb o hb e=>M b o hb e) C D A y t⟩
 self:=λ_ _ _ _ _ f h=>wpAny_pyIter_tupleiter f h
def yu{P:Program}{w:World}(it:Addr)(lo:Int)(n:Nat):Turn P w K tg (AU lo n) [it] it (λi h=>IsRangeIter h it (lo+(i:Nat)*1) ((n:Int)-(i:Nat)) 1) where
 mem:=by simp
 obj:=λi h a b hb=>by
  have e:b=it:=by simpa using hb
  subst e;exact⟨_,a,λv z=>by
   have D:Data.fields _=Data.cell v:=z
   cases D⟩
 keep:=λi h g a k=>k it (by simp) _ a
 item:=by
  intro X l j y hc i c s σ H E I f a r;subst l j y;obtain⟨u,x,B,q,p,m⟩:=f it (by simp)
  have W:=Walks.range (prog:=X.prog) (w:=X.w) (I.ok.hd hc) it lo 1 n;refine W.item i s _ _ r a λv g A J d G=>?_;obtain⟨t,rfl⟩:=J;have F:Inv X c σ H {s with heap:=g,toks:=A}:=I.turned (λb o hb e=>G b o (by simpa using hb) e) u x q p m
  refine⟨_,rfl,Ex (s:={s with heap:=g,toks:=A}) (n:="range_iterator") d rfl rfl a_ ⟨.int<|lo+i,H,F,⟨t,?_⟩,⟨rfl,rfl⟩,d,λb hb=>(f b hb).1⟩⟩
  rw[Int.mul_one]
 done:=by
  intro X l j y hc i c s σ H E I f a r;subst l j y;obtain⟨u,x,B,q,p,m⟩:=f it (by simp)
  exact wpAny_pyNext_range_end (I.ok.hd hc) a (by have:n<=i:=r;omega) λg C=>⟨rfl,I.turned (t':=s.toks) (λb o hb e=>C b o hb e) u x q p m⟩
 self:=λ_ _ _ _ _ a h=>wpAny_pyIter_rangeiter a h
def AV(K:Frag)(tl:TE):TI:=λσ H R=>tl σ H λx H1=>∃a,x=.ref a/\(∃xs,ay K H1 a xs)/\R (IQ K a) H1
def Jm(K:Frag)(tl:TE):TI:=λσ H R=>tl σ H λx H1=>∃a,x=.ref a/\(∃xs,aP K H1 a xs)/\R (Eb K a) H1
variable{l:Expr}{tl:TE}
def Jn(hl:PE X l tl):PI X tg l (AV X.K tl):=by
 intro c s σ H R I h;refine bN (hl c s σ H _ I h) λv f ⟨x,H1,d,j,g⟩=>?_;obtain⟨a,e,⟨m,hq⟩,q⟩:=g;subst e
 cases j
 obtain⟨i,n,p,r⟩:=d.list hq;refine Os p.isList ?_;refine⟨f.heap.objs.size,[f.heap.objs.size],_,_,H1,rfl,d.kept (t':=f.toks) λb o e=>ef _ e,Cf a _,⟨_,h9 _ rfl,rfl,rfl⟩,λb hb=>?_,q⟩;have e:b=f.heap.objs.size:=by simpa using hb
 subst e;exact d.yr (ey _)<|d.bf.fresh<|ey _
def Oa(hl:PE X l tl):PI X tg l (Jm X.K tl):=by
 intro c s σ H R I h;refine bN (hl c s σ H _ I h) λv d ⟨x,H1,f,j,i⟩=>?_;obtain⟨a,e,⟨m,hq⟩,q⟩:=i;subst e
 cases j
 obtain⟨g,n,p,r⟩:=f.tuple hq;refine Vi (show d.heap.IsTuple a g.toArray from p) ?_
 refine⟨d.heap.objs.size,[d.heap.objs.size],_,_,H1,rfl,f.kept (t':=d.toks) λb o e=>ef _ e,yt a _,⟨_,h9 _ rfl,rfl,rfl⟩,λb hb=>?_,q⟩;have e:b=d.heap.objs.size:=by simpa using hb
 subst e;exact f.yr (ey _)<|f.bf.fresh<|ey _
variable{lo:Int}
def vH{σ:St}{R:It->r_}{hi:Int}{t u v:Tok}{tk:Nat}(I:Inv X w_ σ H s)(h1:-(2 ^ 62)<=lo)(h2:lo<2 ^ 62)(h3:-(2 ^ 62)<=hi)(h4:hi<2 ^ 62)
  (q:R (AU lo (hi-lo).toNat) H):wpAny (model X.prog X.w) X.A (pyIter<|.ref s.heap.objs.size) (T3 X w_ σ tg R) E {s with heap:=s.heap.push {cls:=.type "range",data:=.fields #[.int lo t,.int hi u,.int 1 v]},toks:=tk}:=by
 refine wpAny_pyIter_range (IsRange.new ..) (small_one h1 h2 h3 h4) ?_;have a:Inv X w_ σ H {s with heap:=s.heap.push {cls:=.type "range",data:=.fields #[.int lo t,.int hi u,.int 1 v]},toks:=tk}:=I.kept λb o e=>ef _ e;refine⟨(s.heap.push {cls:=.type "range",data:=.fields #[.int lo t,.int hi u,.int 1 v]}).objs.size,[(s.heap.push {cls:=.type "range",data:=.fields #[.int lo t,.int hi u,.int 1 v]}).objs.size],_,_,H,rfl,
  a.kept (t':=tk) λb o e=>ef _ e,yu _ lo (hi-lo).toNat,?_,λb hb=>?_,q⟩
 ·have d:lo+((0:Nat):Int)*1=lo:=by simp
  have c:(((hi-lo).toNat:Nat):Int)-((0:Nat):Int)=Builtin.Range.rangeSize lo hi 1:=by rw[rangeSize_one];split<;>omega
  show IsRangeIter _ _ (lo+((0:Nat):Int)*1) ((((hi-lo).toNat:Nat):Int)-((0:Nat):Int)) 1;rw[d,c];exact h9 _ rfl
 ·have e:b=(s.heap.push {cls:=.type "range",data:=.fields #[.int lo t,.int hi u,.int 1 v]}).objs.size:=by simpa using hb
  subst e;exact a.yr (ey _)<|a.bf.fresh<|ey _
def AW(ta:TA):TI:=λσ H R=>ta σ H λa H1=>∃j:Int,a=[.int j]/\-(2 ^ 62)<=j/\j<2 ^ 62/\R (AU 0 j.toNat) H1
def AX(ta:TA):TI:=λσ H R=>ta σ H λa H1=>∃i j:Int,a=[.int i,.int j]/\(-(2 ^ 62)<=i/\i<2 ^ 62/\-(2 ^ 62)<=j/\j<2 ^ 62)/\R (AU i (j-i).toNat) H1
variable{a:Expr}{ta:TA}{p:Pos}
def Cg{pos:Pos}(hg:Gl X "range")(hm:X.mg "range"=none)(ha:PA X [a] ta)(hs:starEach [a] X.env=[(false,eval a X.env)]:=by rfl):PI X tg (.Call (.Name "range" p) [a] [] pos) (AW ta):=by
 intro b s σ H R I h;refine Call_<|jT I hg hm boot_range<|IR (bN (ha pos b s σ H _ I h) λm n ⟨l,H1,f,i,c⟩=>?_) hs rfl;obtain⟨j,e,c,g,q⟩:=c;subst e
 cases i with
 |cons r d=>
  cases d
  obtain⟨t,rfl⟩:=r;exact call_range_1 (vH f (by omega) (by omega) c g (by simpa using q))
def Ci{pos:Pos}(hg:Gl X "range")(hm:X.mg "range"=none)(ha:PA X [a,b] ta)(hs:starEach [a,b] X.env=[(false,eval a X.env),(false,eval b X.env)]:=by rfl)(hs2:starEach [b] X.env=[(false,eval b X.env)]:=by rfl):
  PI X tg (.Call (.Name "range" p) [a,b] [] pos) (AX ta):=by
 intro c s σ H R I h;refine Call_ (jT I hg hm boot_range (IR (bN (ha pos c s σ H _ I h) λx y ⟨w,H1,l,o,f⟩=>?_) (by rw[hs,hs2]) (by rw[hs2];rfl)))
 obtain⟨i,j,e,⟨f,m,g,u⟩,q⟩:=f;subst e
 cases o with
 |cons r d=>
  cases d with
  |cons n d=>
   cases d
   obtain⟨t,rfl⟩:=r;obtain⟨v,rfl⟩:=n;exact call_range_2<|vH l f m g u q
def Ob(wi:TI)(g:TG)(tb:TS):TS:=λD σ H=>wi σ H λJ H1=>∃W:Nat->o_,(∃m,W 0 m σ H1)/\∀i m σ H,W i m σ H->
 (J.stop i H/\D.nx σ H)∨(J.go i H/\∃N:p_,(∀σ' H',N σ' H'->∃m',m' < m/\W (i+1) m' σ' H')/\∀x H',J.Aw i H x H'->g x σ H' λb a=>tb {D with nx:=N,ct:=N,bk:=D.nx} b a)
noncomputable def oI(fp:l_)(h:Heap):aO0:=fp.filterMap λb=>(h.get? b).map λo=>(b,o)
variable{fp:l_}
def gS{h:Heap}{b:Addr}{o:Obj}(hb:b∈fp)(e:h.get? b=some o):(b,o)∈oI fp h:=List.mem_filterMap.mpr ⟨b,hb,by rw[e];rfl⟩
def Cj{h:Heap}{p:Addr × Obj}(hp:p∈oI fp h):p.1∈fp/\h.get? p.1=some p.2:=by
 obtain⟨b,hb,e⟩:=List.mem_filterMap.mp hp
 cases q:h.get? b with
 |none=>rw[q]at e;cases e
 |some o=>
  rw[q]at e;have a:(b,o)=p:=qa e;subst a;exact⟨hb,q⟩
def Inv.pinned{σ:St}(I:Inv X w_ σ H s)(hf:∀b∈fp,kN X w_ H b)(ho:∀b∈fp,∃o,s.heap.get? b=some o/\∀v,o.data≠.cell v):Inv X (w_++oI fp s.heap) σ H s:=
 I.AR λp g=>(ih.mp g).elim (λz=>I.pin p<|rk _ z) λz=>by
  obtain⟨hb,e⟩:=Cj z;obtain⟨c,f,h,_⟩:=hf p.1 hb;obtain⟨o,a,d⟩:=ho p.1 hb;rw[e]at a;cases a
  exact⟨e,c,f,h,d⟩
def Inv.kP{pl:aO0}{σ:St}(I:Inv X (w_++pl) σ H s):Inv X w_ σ H s:=I.AR λp a=>I.pin p<|rk _<|LI _ a
variable{y_:Expr}
def Oc{wi:TI}{pos:Pos}(hp:PassesOwn (model X.prog X.w) X.A X.env X.xe)(hc:X.calm=true)(hi:PI X tg y_ wi)(hg:PG X tg g)(hb:yn X body tb)
  (hs:∀x,foldedSetIterable y_ X.env x=pure x:=by intro _;rfl):PS X (.For tg y_ body [] pos) (Ob wi g tb):=by
 intro a s σ H D I h;refine wpAny_For (bN (hi a s σ H _ I h) λv s1 h1=>bN h1 λitv s2 h2=>?_) hs;obtain⟨it,G,tn,J,H2,e,I2,T,P,U,W,⟨m0,w0⟩,F⟩:=h2;subst e;have q:∀ {H':Hp},(∀b∈G,H' b=none)->∀b∈G,kN X a H' b:=λhn b hb=>⟨hn b hb,(U b hb).2⟩;refine codeAny_forLoop_any (λn s'=>∃i σ' H',Inv X a σ' H' s'/\tn i s'.heap/\(∀b∈G,H' b=none)/\W i n σ' H') ?_ m0 ⟨0,σ,H2,I2,P,λb hb=>(U b hb).1,w0⟩;rintro n Y ⟨i,z,L,Z,B,E,w3⟩
 rcases F i n z L w3 with ⟨C,qn⟩|⟨go,N,hN,step⟩
 ·refine Vo hp<|bN (T.done X rfl rfl rfl hc i a Y z L X.xe Z (q E) B C) λr s4 ⟨O,I4⟩=>?_;subst O;exact wpAny_execs_nil ⟨z,L,I4,qn⟩
 ·refine Vo hp<|bN (T.item X rfl rfl rfl hc i a Y z L X.xe Z (q E) B go) λr s4 ⟨u,O,h4⟩=>?_;subst O;refine Vo hp<|bN h4 λ_ s5 ⟨x,S,I5,r5,y5,y,R⟩=>?_;have Q:=I5.pinned (q R)<|T.obj _ _ y;refine Vo hp<|bN (hg _ s5 z S x u _ Q r5<|step x S y5) λ_ s6 ⟨σ6,H6,I6,q6⟩=>?_;refine Vo hp<|bN (hb _ s6 σ6 H6 _ I6 q6) λf M t=>?_;have l:∀ {p:St} {c:Hp},Inv X (a++oI G s5.heap) p c M->N p c->∃m,m<n/\∃i σ' H',Inv X a σ' H' M/\tn i M.heap/\(∀b∈G,H' b=none)/\W i m σ' H':=λ{p c} j K=>by
   obtain⟨m',hm,w7⟩:=hN p c K;refine⟨m',hm,i+1,p,c,j.kP,T.keep _ _ _ y λb hb o e=>(j.pin (b,o)<|rk _<|rk _<|gS hb e).1,λb hb=>?_,w7⟩;obtain⟨o,e,d⟩:=T.obj _ _ y b hb;exact(j.pin (b,o)<|rk _<|rk _<|gS hb e).2.1
  cases f with
  |next=>obtain⟨p,c,j,K⟩:=t;exact l j K
  |cont=>obtain⟨p,c,j,K⟩:=t;exact l j K
  |brk=>obtain⟨p,c,j,t⟩:=t;exact⟨p,c,j.kP,t⟩
  |ret v=>obtain⟨x7,p,c,j,r7,t⟩:=t;exact⟨x7,p,c,j.kP,r7,t⟩
variable{a:Addr}{D:Ends}
def vI{σ:St}(Pv:o_)(h0:Pv 0 σ H)(hl:∀i σ H,i<=xs.length->Pv i σ H->ay K H a xs)
  (hs:∀i x σ H,xs[i]?=some x->Pv i σ H->g x σ H λσ2 H2=>tb {D with nx:=Pv<|i+1,ct:=Pv<|i+1,bk:=D.nx} σ2 H2) (hd:∀σ H,Pv xs.length σ H->D.nx σ H):
  ∃W:Nat->o_,(∃m,W 0 m σ H)/\∀i m σ H,W i m σ H->
   ((IQ K a).stop i H/\D.nx σ H)∨((IQ K a).go i H/\∃N:p_,(∀σ' H',N σ' H'->∃m',m' < m/\W (i+1) m' σ' H')/\∀x H',(IQ K a).Aw i H x H'->g x σ H' λσ2 H2=>tb {D with nx:=N,ct:=N,bk:=D.nx} σ2 H2):=by
 refine⟨λi m σ H=>m=xs.length-i/\i<=xs.length/\Pv i σ H,⟨xs.length,by simp,zero_le _,h0⟩,?_⟩
 rintro i m σ H ⟨rfl,hi,p⟩;have q:=hl i σ H hi p
 by_cases b:i<xs.length
 ·refine .inr ⟨⟨xs,xs[i],q,by simp[b]⟩,Pv<|i+1,λσ' H' c=>⟨xs.length-(i+1),by omega,rfl,b,c⟩,λx H' y=>?_⟩
  obtain⟨e,y⟩:=y;subst e;exact hs i x σ _ (y xs q) p
 ·have e:i=xs.length:=by omega
  subst e;exact .inl ⟨⟨xs,q,ey _⟩,hd σ H p⟩
def AY{σ:St}(Pv:o_)(h0:Pv 0 σ H)(hl:∀i σ H,i<=xs.length->Pv i σ H->aP K H a xs)
  (hs:∀i x σ H,xs[i]?=some x->Pv i σ H->g x σ H λσ2 H2=>tb {D with nx:=Pv<|i+1,ct:=Pv<|i+1,bk:=D.nx} σ2 H2) (hd:∀σ H,Pv xs.length σ H->D.nx σ H):
  ∃W:Nat->o_,(∃m,W 0 m σ H)/\∀i m σ H,W i m σ H->
   ((Eb K a).stop i H/\D.nx σ H)∨((Eb K a).go i H/\∃N:p_,(∀σ' H',N σ' H'->∃m',m' < m/\W (i+1) m' σ' H')/\∀x H',(Eb K a).Aw i H x H'->g x σ H' λσ2 H2=>tb {D with nx:=N,ct:=N,bk:=D.nx} σ2 H2):=by
 refine⟨λi m σ H=>m=xs.length-i/\i<=xs.length/\Pv i σ H,⟨xs.length,by simp,zero_le _,h0⟩,?_⟩
 rintro i m σ H ⟨rfl,hi,p⟩;have q:=hl i σ H hi p
 by_cases b:i<xs.length
 ·refine .inr ⟨⟨xs,xs[i],q,by simp[b]⟩,Pv<|i+1,λσ' H' c=>⟨xs.length-(i+1),by omega,rfl,b,c⟩,λx H' y=>?_⟩
  obtain⟨e,y⟩:=y;subst e;exact hs i x σ _ (y xs q) p
 ·have e:i=xs.length:=by omega
  subst e;exact .inl ⟨⟨xs,q,ey _⟩,hd σ H p⟩
variable{n:Nat}
def rO{σ:St}(Pv:o_)(h0:Pv 0 σ H)
  (hs:∀i σ H,i<n->Pv i σ H->g (.int<|lo+i) σ H λσ2 H2=>tb {D with nx:=Pv<|i+1,ct:=Pv<|i+1,bk:=D.nx} σ2 H2) (hd:∀σ H,Pv n σ H->D.nx σ H):
  ∃W:Nat->o_,(∃m,W 0 m σ H)/\∀i m σ H,W i m σ H->
   ((AU lo n).stop i H/\D.nx σ H)∨((AU lo n).go i H/\∃N:p_,(∀σ' H',N σ' H'->∃m',m' < m/\W (i+1) m' σ' H')/\∀x H',(AU lo n).Aw i H x H'->g x σ H' λσ2 H2=>tb {D with nx:=N,ct:=N,bk:=D.nx} σ2 H2):=by
 refine⟨λi m σ H=>m=n-i/\i<=n/\Pv i σ H,⟨n,by simp,zero_le _,h0⟩,?_⟩
 rintro i m σ H ⟨rfl,hi,p⟩
 by_cases a:i<n
 ·refine .inr ⟨a,Pv<|i+1,λσ' H' b=>⟨n-(i+1),by omega,rfl,a,b⟩,λx H' y=>?_⟩
  obtain⟨e,y⟩:=y;subst e y;exact hs i σ _ a p
 ·have e:i=n:=by omega
  subst e;exact .inl ⟨ey _,hd σ H p⟩
abbrev R2:=V->V->Hp->VK->Prop
def dU(X:Cx)(f:Value->Value->Sem Value)(r:R2):Prop:=
 ∀(w_:aO0) (s:Shared) (σ:St) (H:Hp) (x y:V) (v u:Value) (Q:VK),Inv X w_ σ H s->RelV x v->RelV y u->r x y H Q->
  wpAny (model X.prog X.w) X.A (f v u) (EP X w_ σ Q) X.xe s
def TC(X:Cx)(f:Value->Sem Value)(r:V->Hp->VK->Prop):Prop:=
 ∀(w_:aO0) (s:Shared) (σ:St) (H:Hp) (x:V) (v:Value) (Q:VK),Inv X w_ σ H s->RelV x v->r x H Q->
  wpAny (model X.prog X.w) X.A (f v) (EP X w_ σ Q) X.xe s
def bJ(X:Cx)(f:Value)(r:u_->Hp->VK->Prop):Prop:=
 ∀(w_:aO0) (s:Shared) (σ:St) (H:Hp) (xs:u_) (us:f') (Q:VK),Inv X w_ σ H s->Vals xs us->r xs H Q->
  wpAny (model X.prog X.w) X.A (call f us) (EP X w_ σ Q) X.xe s
def tG(r:R2)(ta tb:TE):TE:=λσ H Q=>ta σ H λx H1=>tb σ H1 λy a=>r x y a Q
def T5(r:V->Hp->VK->Prop)(ta:TE):TE:=λσ H Q=>ta σ H λx H1=>r x H1 Q
def rI(C:Int->Int->Prop)(g:Int->Int->V):R2:=λx y H Q=>∃i j,x=.int i/\y=.int j/\C i j/\Q (g i j) H
def Ec(g:Int->Int->V):R2:=λx y H Q=>∃i j,x=.int i/\y=.int j/\Q (g i j) H
def rU(g:Int->V):V->Hp->VK->Prop:=λx H Q=>∃i,x=.int i/\Q (g i) H
variable{a:Expr}{ta tb:TE}{f:Value->Value->Sem Value}
def Od(ha:PE X a ta)(hb:PE X b tb){σ:St}{R:V->q_}(I:Inv X w_ σ H s)
  (h:ta σ H λx H1=>tb σ H1 λy H2=>R x y H2) 
  (hf:∀v u s2 x y H2,Inv X w_ σ H2 s2->RelV x v->RelV y u->R x y H2->wpAny (model X.prog X.w) X.A (f v u) Q X.xe s2):
  wpAny (model X.prog X.w) X.A (eval a X.env) (λv s₁=>wpAny (model X.prog X.w) X.A (eval b X.env) (λu s₂=>wpAny (model X.prog X.w) X.A (f v u) Q X.xe s₂) X.xe s₁) X.xe s:=by
 refine bN (ha w_ s σ H _ I h) λv l ⟨x,H1,j,g,i⟩=>?_;refine bN (hb w_ l σ H1 _ j i) λu s2 ⟨y,H2,d,e,c⟩=>?_;exact hf v u s2 x y H2 d g e c
def vJ{op:Operator}{r:R2}(ho:dU X (binaryOp op) r)(ha:PE X a ta)(hb:PE X b tb):PE X (.BinOp a op b pos) (tG r ta tb):=by
 intro c s σ H Q I h;exact wpAny_BinOp<|Od ha hb I h λv u e x y f g d i q=>ho c e σ f x y v u Q g d i q
def QL{op:UnaryOp}{r:V->Hp->VK->Prop}(ho:TC X (unaryOp op) r)(ha:PE X a ta):PE X (.UnaryOp op a pos) (T5 r ta):=by
 intro b s σ H Q I h;exact UnaryOp_<|bN (ha b s σ H _ I h) λv f ⟨x,H1,e,c,d⟩=>ho b f σ H1 x v Q e c d
variable{g:Int->Int->Int}
def Oe{C:Int->Int->Prop} 
  (rule:∀(i j:Int) (t u:Tok) (s:Shared) (Q:c_) (E:c_),C i j->Q (.int (g i j) s.toks) {s with toks:=s.toks+1}->wpAny (model X.prog X.w) X.A (f (.int i t)<|.int j u) Q E s):
  dU X f (rI C λi j=>.int<|g i j):=by
 intro a s σ H x y v u Q I c d h;obtain⟨i,j,rfl,rfl,hc,q⟩:=h;obtain⟨t,rfl⟩:=c;obtain⟨b,rfl⟩:=d;exact rule i j t b s _ _ hc ⟨.int<|g i j,H,I.tok _,⟨_,rfl⟩,q⟩
def Jo 
  (rule:∀(i j:Int) (t u:Tok) (s:Shared) (Q:c_) (E:c_),Q (.int (g i j) s.toks) {s with toks:=s.toks+1}->wpAny (model X.prog X.w) X.A (f (.int i t)<|.int j u) Q E s):
  dU X f (Ec λi j=>.int<|g i j):=by
 intro a s σ H x y v u Q I c d h;obtain⟨i,j,rfl,rfl,q⟩:=h;obtain⟨t,rfl⟩:=c;obtain⟨b,rfl⟩:=d;exact rule i j t b s _ _ ⟨.int<|g i j,H,I.tok _,⟨_,rfl⟩,q⟩
def Jp{g:Int->Int->Bool}
  (rule:∀(i j:Int) (t u:Tok) (s:Shared) (Q:c_) (E:c_),Q (.bool<|g i j) s->wpAny (model X.prog X.w) X.A (f (.int i t)<|.int j u) Q E s):
  dU X f (Ec λi j=>.bl<|g i j):=by
 intro a s σ H x y v u Q I c d h;obtain⟨i,j,rfl,rfl,q⟩:=h;obtain⟨t,rfl⟩:=c;obtain⟨b,rfl⟩:=d;exact rule i j t b s _ _ ⟨.bl<|g i j,H,I,rfl,q⟩
def Of(i j:Int):Prop:=0<j/\j<1073741824
def lP(i j:Int):Prop:=0<=j/\j<=1000000/\i.natAbs<2 ^ 64
def yv(k:Nat):(0:Int)<=2 ^ k:=by
 rw[two_pow_cast];exact natCast_nonneg _
def aH:dU X (binaryOp .Add) (Ec λi j=>.int<|i+j):=Jo λ_ _ _ _ _ _ _ q=>add_int q
def cu:dU X (binaryOp .Sub) (Ec λi j=>.int<|i-j):=Jo λ_ _ _ _ _ _ _ q=>sub_int q
def Jq:dU X (binaryOp .FloorDiv) (rI Of λi j=>.int<|i / j):=Oe λi j _ _ _ _ _ hc q=>by
 have h1:(0:Int)<j:=hc.1;have a:j<1073741824:=hc.2;exact floordiv_int (by omega) (by rw[Int.fdiv_eq_ediv_of_nonneg i (by omega)];exact q) (.inl (PyProof.noPylong_small (by omega)))
def bO:dU X (binaryOp .Mod) (rI (λ_ j=>0<j) λi j=>.int<|i%j):=Oe λi j _ _ _ _ _ hc q=>by
 have h1:(0:Int)<j:=hc;exact mod_int' (by omega) (by rw[Int.fmod_eq_emod_of_nonneg i (by omega)];exact q)
def jU:dU X (binaryOp .Pow) (rI lP λi j=>.int<|i ^ j.toNat):=Oe λ_ _ _ _ _ _ _ hc q=>pow_int_small hc.1 hc.2.1 hc.2.2 q
def cT:dU X (binaryOp .LShift) (rI lP λi j=>.int<|i*2 ^ j.toNat):=Oe λ_ _ _ _ _ _ _ hc q=>lshift_int_small hc.1 hc.2.1 hc.2.2 q
def yw:dU X (binaryOp .RShift) (rI (λ_ j=>0<=j) λi j=>.int<|i / 2 ^ j.toNat):=Oe λi j _ _ _ _ _ hc q=>
 rshift_int hc (by rw[Int.fdiv_eq_ediv_of_nonneg i (yv _)];exact q)
def ee:dU X (binaryOp .BitAnd) (Ec λi j=>.int<|Builtin.bitAnd i j):=Jo λ_ _ _ _ _ _ _ q=>and_int q
def AZ:dU X (binaryOp .BitOr) (Ec λi j=>.int<|Builtin.bitOr i j):=Jo λ_ _ _ _ _ _ _ q=>or_int q
def U4{f:Value->Sem Value}{g:Int->Int}
  (rule:∀(i:Int) (t:Tok) (s:Shared) (Q:c_) (E:c_),Q (.int (g i) s.toks) {s with toks:=s.toks+1}->wpAny (model X.prog X.w) X.A (f<|.int i t) Q E s):
  TC X f (rU λi=>.int<|g i):=by
 intro a s σ H x v Q I b h;obtain⟨i,rfl,q⟩:=h;obtain⟨t,rfl⟩:=b;exact rule i t s _ _ ⟨.int<|g i,H,I.tok _,⟨_,rfl⟩,q⟩
def jV:TC X (unaryOp .USub) (rU λi=>.int (-i)):=U4 λ_ _ _ _ _ q=>neg_int q
def jW{σ:St}{Q:VK}{k k':Bool}(I:Inv X w_ σ H s)(q:Q (.bl k) H)(e:k=k'):EP X w_ σ Q (.bool k') s:=by
 subst e;exact⟨.bl k,H,I,rfl,q⟩
def fq:dU X (compareOp .Lt) (Ec λi j=>.bl<|decide<|i<j):=Jp λ_ _ _ _ _ _ _ q=>lt_int q
def kQ:dU X (compareOp .LtE) (Ec λi j=>.bl<|decide<|i<=j):=Jp λ_ _ _ _ _ _ _ q=>le_int q
def ir:dU X (compareOp .Gt) (Ec λi j=>.bl<|decide<|j<i):=Jp λ_ _ _ _ _ _ _ q=>gt_int q
def Ey:dU X (compareOp .GtE) (Ec λi j=>.bl<|decide<|j<=i):=Jp λ_ _ _ _ _ _ _ q=>ge_int q
def rQ:dU X (compareOp .In) (λx y H Q=>∃i j,x=.str i/\y=.str j/\Q (.bl<|!(Builtin.Str.occurrences j i 0 j.length 1).isEmpty) H):=by
 intro a s σ H x y v u Q I b c h;obtain⟨i,j,rfl,rfl,q⟩:=h;obtain⟨t,rfl⟩:=b;obtain⟨d,rfl⟩:=c;exact in_str<|jW I q rfl
def Og:dU X (compareOp .Is) (λx y H Q=>y=.bA/\Q (.bl<|decide<|x=.bA) H):=by
 intro b s σ H x y v u Q I a c h;obtain⟨rfl,q⟩:=h
 cases c
 refine is_none_gen<|jW I q ?_
 cases x<;>first
  |(cases a;rfl)
  |(obtain⟨t,rfl⟩:=a;rfl)
def Jr:dU X (compareOp .IsNot) (λx y H Q=>y=.bA/\Q (.bl<|!decide (x=.bA)) H):=by
 intro b s σ H x y v u Q I a c h;obtain⟨rfl,q⟩:=h
 cases c
 refine isnot_none_gen<|jW I q ?_
 cases x<;>first
  |(cases a;rfl)
  |(obtain⟨t,rfl⟩:=a;rfl)
def ao(b:Expr)(h:op≠.In:=by decide)(h2:op≠.NotIn:=by decide):behindInMarks op b=false:=by
 have c:(op==CmpOp.In)=false:=by cases op<;>first|rfl|exact absurd rfl h
 have a:(op==CmpOp.NotIn)=false:=by cases op<;>first|rfl|exact absurd rfl h2
 cases b<;>simp[behindInMarks,c,a]
variable{r:R2}
def Js(ho:dU X (compareOp op) r)(ha:PE X a ta)(hb:PE X b tb)(hm:behindInMarks op b=false):PE X (.Compare a [op] [b] pos) (tG r ta tb):=by
 intro c s σ H Q I h;exact wpAny_Compare1 (Od ha hb I h λv u e x y f g d i q=>ho c e σ f x y v u Q g d i q) hm
def vK(t:TE):TT:=λσ H Q=>t σ H λx a=>∃k,x=.bl k/\Q k a
def Jt(ho:dU X (compareOp op) r)(ha:PE X a ta)(hb:PE X b tb)(hm:behindInMarks op b=false):PT X (.Compare a [op] [b] pos) (vK<|tG r ta tb):=by
 intro d s σ H Q I h;refine wpAny_isTrue_Compare1 (bN (ha d s σ H _ I h) λv A ⟨x,H1,w,t,l⟩=>bN (hb d A σ H1 _ w l) λu i ⟨y,j,o,q,m⟩=>
  bN (ho d i σ j x y v u _ o t q m) λc B ⟨z,p,f,n,k,e,g⟩=>?_) hm
 subst e
 cases n
 exact A2 ⟨p,f,g⟩
def oJ(r r':R2)(ta tb tc:TE):TE:=λσ H Q=>ta σ H λx H1=>tb σ H1 λy c=>r x y c λz a=>∃k,z=.bl k/\
 (if k=true then tc σ a λd b=>r' y d b Q else Q (.bl false) a)
variable{tc:TE}{op':CmpOp}{r':R2}
def Ez(ho:dU X (compareOp op) r)(ho':dU X (compareOp op') r')(ha:PE X a ta)(hb:PE X b tb)(hc:PE X c tc)
  (hm:lastMarks [op,op'] [b,c]=false:=by with_unfolding_all rfl):PE X (.Compare a [op,op'] [b,c] pos) (oJ r r' ta tb tc):=by
 intro f s σ H Q I h;refine Compare_chain (bN (ha f s σ H _ I h) λv A ⟨x,H1,w,J,E⟩=>chain_link (bN (hb f A σ H1 _ w E) λu C ⟨y,n,t,l,p⟩=>
  bN (ho f C σ n x y v u _ t J l p) λd B ⟨z,j,g,L,k,e,i⟩=>?_)) hm
 subst e
 cases L
 refine A2 ?_
 cases k with
 |false=>exact ite_ff ⟨.bl false,j,g,rfl,i⟩
 |true=>exact ite_tt<|chain_last<|bN (hc f B σ j _ g i) λG D ⟨o,q,m,F,K⟩=>ho' f D σ q y o u G Q m l F K
def EA(ho:dU X (compareOp op) r)(ho':dU X (compareOp op') r')(ha:PE X a ta)(hb:PE X b tb)(hc:PE X c tc)
  (hm:lastMarks [op,op'] [b,c]=false:=by with_unfolding_all rfl):PT X (.Compare a [op,op'] [b,c] pos) (vK<|oJ r r' ta tb tc):=by
 intro f s σ H Q I h;refine isTrue_chain (bN (ha f s σ H _ I h) λv D ⟨x,H1,C,P,L⟩=>test_link (bN (hb f D σ H1 _ C L) λu J ⟨y,q,B,l,w⟩=>
  bN (ho f J σ q x y v u _ B P l w) λd G ⟨z,j,g,T,k,e,i⟩=>?_)) hm
 subst e
 cases T
 refine A2 ?_
 cases k with
 |false=>
  obtain⟨U,F,n⟩:=i
  cases F
  exact ite_ff ⟨j,g,n⟩
 |true=>
  refine ite_tt<|test_last<|bN (hc f G σ j _ g i) λN K ⟨t,A,o,M,R⟩=>bN (ho' f K σ A y t u N _ o l M R) λZ W ⟨Y,m,O,S,k2,E,p⟩=>?_;subst E
  cases S
  exact A2 ⟨m,O,p⟩
def lQ:(sizeLine:Nat)<2 ^ 63:=by rw[sizeLine_eq];decide
def aJ:dU X (binaryOp .Add) (λx y H Q=>∃i j,x=.str i/\y=.str j/\i.length+j.length<=sizeLine/\Q (.str<|i++j) H):=by
 intro a s σ H x y v u Q I c e h;obtain⟨i,j,rfl,rfl,d,q⟩:=h;obtain⟨t,rfl⟩:=c;obtain⟨b,rfl⟩:=e;exact add_str (λb f=>⟨.str<|i++j,H,I.tok _,⟨_,rfl⟩,q⟩) d
variable{x:V}{us:f'}
def vals1(r:Vals [x] us):∃u,us=[u]/\RelV x u:=by
 cases r with
 |cons a b=>cases b;exact⟨_,rfl,a⟩
variable{y:V}
def vals2(r:Vals [x,y] us):∃u w',us=[u,w']/\RelV x u/\RelV y w':=by
 cases r with
 |cons c b=>
  cases b with
  |cons d a=>cases a;exact⟨_,_,rfl,c,d⟩
def Ck(hc:X.calm=true):bJ X (.builtin "max") (λxs H Q=>∃i j,xs=[.int i,.int j]/\Q (.int<|if j>i then j else i) H):=by
 intro a s σ H xs c Q I r h;obtain⟨i,j,rfl,q⟩:=h;obtain⟨u,e,rfl,⟨t,rfl⟩,⟨b,rfl⟩⟩:=vals2 r;refine max_two_ints (I.ok.hd hc) λd f k=>⟨_,H,I.kept k,?_,q⟩
 by_cases hj:j>i
 ·rw[if_pos hj,if_pos hj];exact⟨_,rfl⟩
 ·rw[if_neg hj,if_neg hj];exact⟨_,rfl⟩
def rR:bJ X (.type "int") (λxs H Q=>(∃i,xs=[.int i]/\Q (.int i) H)∨∃k,xs=[.bl k]/\Q (.int<|if k then 1 else 0) H):=by
 intro a s σ H xs c Q I r h
 rcases h with ⟨i,rfl,q⟩|⟨k,rfl,q⟩
 ·obtain⟨u,rfl,t,rfl⟩:=vals1 r;exact call_int_int ⟨.int i,H,I,⟨_,rfl⟩,q⟩
 ·obtain⟨u,rfl,b⟩:=vals1 r
  cases b
  exact call_int_bool ⟨.int<|if k then 1 else 0,H,I.tok _,⟨_,rfl⟩,q⟩
def bK:bJ X (.type "str") (λxs H Q=>∃i,xs=[.int i]/\i.natAbs.log2<1920/\Q (.str<|toString i) H):=by
 intro a s σ H xs c Q I r h;obtain⟨i,rfl,b,q⟩:=h;obtain⟨u,rfl,t,rfl⟩:=vals1 r;exact PySem.P.str_of_int b ⟨.str _,H,I.tok _,⟨_,rfl⟩,q⟩
structure yy(h:Heap)(x dx C:Addr)(mA:b_):Prop where
 obj:h.get? x=some (instObj C dx)
 ns:h.Ns1 dx mA
 ne:dx≠x
variable{dx:Addr}{mA:b_}
def Cm{h:Heap}(n:h.Ns1 dx mA):∃od,h.get? dx=some od/\∀name,lookIn name od=some (mA name):=by
 obtain⟨o,c,i,g,d,hk,_,hm⟩:=n;refine⟨o,g,λname=>?_⟩;have e:=hm name;unfold nsFind findBy at e;rw[<-Array.find?_toList]at e;unfold lookIn;rw[d]
 dsimp only
 split
 ·rename_i y q
  rw[q]at e;exact SL some e
 ·rename_i q
  rw[q]at e;have a:c.toList.any (·.refKey)=false:=by
   rw[List.any_eq_false];intro y hy;obtain⟨z,t,b⟩:=hk y<|Array.mem_toList_iff.mp hy
   simp[DictEntry.refKey,b]
  have f:¬c.toList.any (·.refKey)=true:=by rw[a];exact o6
  rw[if_neg f];exact SL some e
variable{x C:Addr}
def yy.look{h:Heap}(I:yy h x dx C mA):∃od,PySem.W.InstAt h x (instObj C dx) C (some od)/\∀name,lookIn name od=some (mA name):=
 let ⟨od,ho,hl⟩:=Cm I.ns
 ⟨od,⟨I.obj,rfl,rfl,ho⟩,hl⟩
variable{prog:Program}{w:World}{name:Str}{v:Value}{expr:Bool}
def get_map(X:K.In s.heap)(I:yy s.heap x dx C mA)(hg:plainGet K C name=true)(hh:hasDictIn K C=true)
  (ha:findIn K (.ref C) name=some none) (hv:mA name=some v) (hv':handedIn v=true) (h:Q v {s with toks:=s.toks+1}):
  wpAny (model prog w) A (getAttr (.ref x) name expr) Q E s:=by
 obtain⟨b,J,a⟩:=I.look;exact PySem.W.get_value X J (plainGet_of hg).1 (PySem.W.findObj_own hh ha rfl (by rw[a,hv])) hv' h
variable{f:Addr}{pl:Sem Bool}
def EB{Q:Value × List Value->Shared->Prop}(X:K.In s.heap)(I:yy s.heap x dx C mA)(hg:plainGet K C name=true)
  (hf:findIn K (.ref C) name=some (some<|.ref f)) (ht:isFn K (.ref f)=true) (hv:mA name=none) (h:Q (.ref f,[.ref x]) s):
  wpAny (model prog w) A (getMethod (.ref x) name pl) Q E s:=by
 obtain⟨a,J,b⟩:=I.look;exact PySem.W.method_fn X J (plainGet_of hg).1 (plainGet_of hg).2 hf (beq_iff_eq.mp ht) (by show(lookIn name a).map (·.isSome)=some false;rw[b,hv];rfl) h
def Ju{ns:f_}{Q:Unit->Shared->Prop}(X:K.In s.heap)(I:yy s.heap x dx C mA)
  (hs:findIn K (.ref C) "__setattr__"=some (some<|.builtin "object.__setattr__")) (hp:plainOver K C=true) (ht:takerIn K C name=some none) (hh:hasDictIn K C=true)
  (hw:PySem.Within mA ns) (hsz:ns.length<=sizeLine)
  (h:∀h',yy h' x dx C (λy=>if y=name then some v else mA y)->SameBut dx s.heap h'->Q () {s with heap:=h',toks:=s.toks+2}):
  wpAny (model prog w) A (setAttr (.ref x) name v) Q E s:=by
 obtain⟨n,J,o⟩:=I.look;refine PySem.W.set_plain X J hs (PySem.W.osa_open (s:={s with toks:=s.toks+1}) (r:=none) X J hp ht λb=>?_);obtain⟨p,hc,g⟩:=PySem.W.any_some hh;have hx:s.heap.get? x=some ⟨.ref C,some dx,.plain,#[]⟩:=I.obj;refine dy (fO (dy (dy (wpAny_loadPart hx (dy (PySem.W.Looks.here (s:={s with toks:=s.toks+1}) (PySem.W.looks_clsIn X hc) ?_))))));rw[g];refine fO (a:=some dx) (dy (fO (dy ?_)));refine wpAny_nsSet1 (s:={s with toks:=s.toks+1}) I.ns λh' c d=>?_;obtain⟨m,j,l,i,e,f⟩:=c.count (PySem.Within.cons name v hw);refine dy (wpAny_lookBehind i (by rw[e];exact pastItsLine_dict (hU f (by rw[kf];omega))) ?_)
 exact fO<|h _ ⟨(d.2 _<|Ne.symm I.ne).trans I.obj,c,I.ne⟩ d
variable{R:Result->Shared->Prop}{kw:List (Str × Value)}
def EC{vs:f'}(X:K.In s.heap)(hm:makesIn K C=true)
  (hi:findIn K (.ref C) "__init__"=some (some<|.ref f)) (hf:typeIn K (.ref f)=some (.type "function"))
  (h:codeAny (model prog w) (A.under<|.builtin "type.__call__" ⟨.ref C::vs,kw⟩) (.call (.ref f) ⟨.ref (s.heap.objs.size+1)::vs,kw⟩) (PySem.W.InitBack (s.heap.objs.size+1) R)
   {s with heap:=(s.heap.push emptyDict).push (instObj C s.heap.objs.size)}):
  codeAny (model prog w) A (.call (.ref C) ⟨vs,kw⟩) R s:=by
 obtain⟨b,g,d,t,c⟩:=s;exact PySem.W.make_core (PySem.W.makes_of X hm) (looks_findIn X hi) (λa=>PySem.W.bind_fn X a hf) (.inl rfl) h
noncomputable def dF(f:Str)(v:V):t_->List (Str × V)
 | []=>[(f,v)]
 |(g,x)::r=>if g=f then(g,v)::r else(g,x)::dF f v r
theorem mU(f g:Str)(v:V):∀fs:t_,(dF f v fs).lookup g=if g=f then some v else fs.lookup g
 | []=>by
  show List.lookup g [(f,v)]=_
  by_cases h:g=f
  ·have hb:(g==f)=true:=beq_iff_eq.mpr h;simp only[List.lookup,hb,if_pos h]
  ·have hb:(g==f)=false:=rJ.mpr h;simp only[List.lookup,hb,if_neg h]
 |(k,x)::r=>by
  have a:=mU f g v r;rw[show dF f v ((k,x)::r)=(if k=f then(k,v)::r else(k,x)::dF f v r)from rfl]
  by_cases hk:k=f
  ·rw[if_pos hk]
   by_cases h:g=k
   ·have hb:(g==k)=true:=beq_iff_eq.mpr h;simp only[List.lookup,hb,if_pos<|h.trans hk]
   ·have hb:(g==k)=false:=rJ.mpr h;simp only[List.lookup,hb,if_neg λe:g=f=>h<|e.trans hk.symm]
  ·rw[if_neg hk]
   by_cases h:g=k
   ·have hb:(g==k)=true:=beq_iff_eq.mpr h;simp only[List.lookup,hb,if_neg λe:g=f=>hk<|h.symm.trans e]
   ·have hb:(g==k)=false:=rJ.mpr h;simp only[List.lookup,hb];exact a
theorem lR(f:Str)(v:V):∀fs:t_,f∈(dF f v fs).map (·.1)/\∀g,g∈fs.map (·.1)->g∈(dF f v fs).map (·.1)
 | []=>⟨by simp[dF],λg h=>by simp at h⟩
 |(k,x)::r=>by
  obtain⟨b,a⟩:=lR f v r;rw[show dF f v ((k,x)::r)=(if k=f then(k,v)::r else(k,x)::dF f v r)from rfl]
  by_cases hk:k=f
  ·rw[if_pos hk];subst hk;exact⟨by simp,λg h=>by simpa using h⟩
  ·rw[if_neg hk];refine⟨?_,λg h=>?_⟩
   ·rw[qb];exact fN _ b
   ·rw[qb]at h ⊢
    rcases gz.mp h with e|e
    ·exact gz.mpr<|.inl e
    ·exact fN _<|a g e
theorem mV(f:Str)(v:V):∀fs:t_,(dF f v fs).length<=fs.length+1
 | []=>by simp[dF]
 |(k,x)::r=>by
  have a:=mV f v r;rw[show dF f v ((k,x)::r)=(if k=f then(k,v)::r else(k,x)::dF f v r)from rfl]
  by_cases hk:k=f
  ·rw[if_pos hk,kf,kf];omega
  ·rw[if_neg hk,kf,kf];omega
variable{o:g_}{v:V}
def gR.some_of(r:gR (some v) o):∃u,o=some u/\RelV v u:=by
 cases o with
 |none=>exact(show False from r).elim
 |some u=>exact⟨u,rfl,r⟩
def gR.none_of(r:gR none o):o=none:=by
 cases o with
 |none=>rfl
 |some u=>exact(show False from r).elim
variable{u:Value}
def Co(r:RelV v u):handedIn u=true:=by
 cases v with
 |bA=>cases(show u=Value.none from r);rfl
 |bl b=>cases(show u=Value.bool b from r);rfl
 |int i=>obtain⟨t,e⟩:=(show ∃t,u=Value.int i t from r);cases e;rfl
 |str x=>obtain⟨t,e⟩:=(show ∃t,u=Value.str x t from r);cases e;rfl
 |Tw b=>obtain⟨t,e⟩:=(show ∃t,u=Value.bytes b t from r);cases e;rfl
 |NC b=>obtain⟨t,e⟩:=(show ∃t,u=Value.float b t from r);cases e;rfl
 |ref a=>cases(show u=Value.ref a from r);rfl
 |ty n=>cases(show u=Value.type n from r);rfl
variable{P:Program}{h:Heap}{a:Addr}{fs:t_}
def nV(bf:iC P w H h)(e:H a=some (.ins C dx fs)):∃mA,yy h a dx C mA/\(∀f,gR (fs.lookup f)<|mA f)/\PySem.Within mA (fs.map (·.1))/\fs.length<=1000/\H dx=some (.own a):=by
 obtain⟨d,z,ne,ob,mA,n,r,q⟩:=(show bB P w H h a (.ins C dx fs)from bf a _ e)
 exact⟨mA,⟨ob,n,ne⟩,r,q,z,d⟩
structure Jv(K:Frag)(C:Addr):Prop where
 pg:plainGet K C Str.empty=true
 hd:hasDictIn K C=true
 po:plainOver K C=true
 sa:findIn K (.ref C) "__setattr__"=some (some<|.builtin "object.__setattr__")
def Jv.get(c:Jv K C)(f:Str):plainGet K C f=true:=c.pg
def oK(K:Frag)(C:Addr)(f:Str):Prop:=findIn K (.ref C) f=some none
variable{f:Str}
def oK.QM(n:oK K C f):takerIn K C f=some none:=by
 unfold takerIn;rw[show findIn K (.ref C) f=some none from n]
 rfl
structure Meth(K:Frag)(C:Addr)(m:Str)(f:Addr):Prop where
 at_:findIn K (.ref C) m=some (some<|.ref f)
 fn:isFn K (.ref f)=true
 kp:keepIn K (.ref f)=true
variable{b:Bool}
def yz(I:Inv X w_ σ H s)(e:H a=some (.ins C dx fs))(c:Jv X.K C)(n:oK X.K C f)(l:fs.lookup f=some v)
  (h:∀u s',Inv X w_ σ H s'->RelV v u->Q u s'):wpAny (model X.prog X.w) A (getAttr (.ref a) f b) Q E s:=by
 obtain⟨g,O,r,_,_,_⟩:=nV I.bf e;obtain⟨u,hu,d⟩:=gR.some_of (v:=v) (o:=g f) (by rw[<-l];exact r f)
 exact get_map I.jw O (c.get f) c.hd n hu (Co d)<|h u _ (I.tok _) d
variable{m:Str}
def jX{g:Addr}{Q:Value × List Value->Shared->Prop}(I:Inv X w_ σ H s)(e:H a=some (.ins C dx fs))(c:Jv X.K C)(k:Meth X.K C m g)(l:fs.lookup m=none)
  (h:Q (.ref g,[.ref a]) s):wpAny (model X.prog X.w) A (getMethod (.ref a) m pl) Q E s:=by
 obtain⟨b,O,r,_,_,_⟩:=nV I.bf e;have hn:b m=none:=gR.none_of (by rw[<-l];exact r m)
 exact EB I.jw O (c.get m) k.at_ k.fn hn h
def yA{Q:Unit->Shared->Prop}(I:Inv X w_ σ H s)(e:H a=some (.ins C dx fs))(c:Jv X.K C)(n:oK X.K C f)(hl:fs.length<1000)(ry:RelV y u)
  (h:∀s',Inv X w_ σ (upd H a<|.ins C dx<|dF f y fs) s'->Q () s'):wpAny (model X.prog X.w) A (setAttr (.ref a) f u) Q E s:=by
 obtain⟨l,O,r,i,_,j⟩:=nV I.bf e;have v:(fs.map (·.1)).length<=sizeLine:=by rw[b5,sizeLine_eq];omega
 refine Ju I.jw O c.sa c.po n.QM c.hd i v λt d p=>h _ ?_;have m:∃o,t.get? dx=some o:=let ⟨o,_,_,e',_⟩:=d.ns;⟨o,e'⟩;refine I.write (x:=a) (e:=dx) (by rw[e];exact True.intro) (.inr j) (λb q hb z=>(p.2 b hb).trans z) m ?_
 refine⟨by rw[aK O.ne];exact j,?_,O.ne,d.obj,_,d.ns,λg=>?_,λg B=>?_⟩
 ·have:=mV f y fs;omega
 ·show gR ((dF f y fs).lookup g) (if g=f then some u else l g)
  rw[mU]
  by_cases q:g=f
  ·rw[if_pos q,if_pos q];exact ry
  ·rw[if_neg q,if_neg q];exact r g
 ·by_cases q:g=f
  ·rw[q];exact(lR f y fs).1
  ·refine(lR f y fs).2 g (i g λz=>B ?_);show(if g=f then some u else l g)=none
   rw[if_neg q];exact z
def Inv.made(I:Inv X w_ σ H s):Inv X w_ σ (upd (upd H s.heap.objs.size<|.own<|s.heap.objs.size+1) (s.heap.objs.size+1)<|.ins C s.heap.objs.size [])
  {s with heap:=(s.heap.push emptyDict).push (instObj C s.heap.objs.size)}:=by
 have c:(s.heap.push emptyDict).get? s.heap.objs.size=some emptyDict:=h9 s.heap rfl;have f:((s.heap.push emptyDict).push<|instObj C s.heap.objs.size).get? (s.heap.objs.size+1)=some (instObj C s.heap.objs.size):=by
  have:=h9 (s.heap.push emptyDict) (o:=instObj C s.heap.objs.size) rfl
  rwa [C6]at this
 have d:(s.heap.push emptyDict).Ns s.heap.objs.size (λ_=>none):=⟨emptyDict,#[],_,c,rfl,(λe he=>absurd he (by simp)),λ_=>rfl⟩
 have g:=I.laid (a:=s.heap.objs.size) (o:=.own<|s.heap.objs.size+1) (h':=s.heap.push emptyDict) (t':=s.toks) (λb u q=>ef _ q) (ey _) ⟨_,c⟩;refine g.laid (a:=s.heap.objs.size+1) (o:=.ins C s.heap.objs.size []) (t':=s.toks) (λb u q=>ef _ q) (Nat.le_of_eq<|C6 _ _) ?_;have ne:s.heap.objs.size≠s.heap.objs.size+1:=ot<|VM _;refine⟨by rw[aK ne,af],zero_le _,ne,f,λ_=>none,(Heap.Ns1.of_empty d).at λo q=>ef _ q,λ_=>True.intro,λy hy=>absurd rfl hy⟩
variable{env:Env}
def Jw{pos:Pos}(hb:attributeBase e f env (eval e env)=eval e env)
  (h:wpAny (model prog w) A (eval e env) (λo s₁=>wpAny (model prog w) A (getAttr o f true) Q E s₁) E s):wpAny (model prog w) A (eval (.Attribute e f pos) env) Q E s:=
 Attribute_any_ h (by rw[arm_eval_Attribute,hb])
end L2
namespace L2
open PySem PySem.Spec PyProof.Rows
variable{H:Hp}
inductive lS(K:Frag)(H:Hp):V->Value->Prop where
 |bA:lS K H .bA (.type "NoneType")
 |bl (x:Bool):lS K H (.bl x) (.type "bool")
 |int (i:Int):lS K H (.int i) (.type "int")
 |str (x:Str):lS K H (.str x) (.type "str")
 |NC (x:UInt64):lS K H (.NC x) (.type "float")
 |lst {a:Addr} {xs:u_} (e:H a=some (.lst xs)):lS K H (.ref a) (.type "list")
 |iE {a:Addr} {o:Obj} {xs:u_} (e:H a=some (.iE o<|.lst xs)):lS K H (.ref a) (.type "list")
 |tup {a:Addr} {xs:u_} (e:H a=some (.tup xs)):lS K H (.ref a) (.type "tuple")
 |dK {a:Addr} {C_:s_} (e:H a=some (.dK C_)):lS K H (.ref a) (.type "dict")
 |dT {a:Addr} {C_:List (List Key × V)} (e:H a=some (.dT C_)):lS K H (.ref a) (.type "dict")
 |ins {a C dx:Addr} {fs:t_} (e:H a=some (.ins C dx fs)) (cl:Jv K C) (ha:findIn K (.ref C) "__class__"=some (some<|.builtin "object.__class__"))
   (hn:specialIn K (.builtin "object.__class__") "__get__"=some (some<|.builtin "getset_descriptor.__get__")) (htk:takesIn K (.builtin "object.__class__")=some true)
   (hm:mroIn K C (.type "object")=some true):lS K H (.ref a) (.ref C)
variable{X:Cx}{w_:aO0}{s:Shared}{A:Around}{E Q:c_}{c:Value}{b:Bool}{σ:St}
def Cp{x:V}{u t:Value}(I:Inv X w_ σ H s)(rx:RelV x u)(ty:lS X.K H x t)(e:kitOne X.K t c=some b)(h:∀tk,Q (.bool b) {s with toks:=tk}):
  wpAny (model X.prog X.w) A (call (.builtin "isinstance") [u,c]) Q E s:=by
 cases ty with
 |bA=>cases(show u=Value.none from rx);exact kia_one PySem.W.kitx_none I.jw True.intro e (λz=>nomatch z) h
 |bl y=>cases(show u=Value.bool y from rx);exact kia_one PySem.W.kitx_bool I.jw True.intro e (λz=>nomatch z) h
 |int i=>obtain⟨t,q⟩:=(show ∃t,u=Value.int i t from rx);cases q;exact kia_one PySem.W.kitx_int I.jw True.intro e (λz=>nomatch z) h
 |str y=>obtain⟨t,q⟩:=(show ∃t,u=Value.str y t from rx);cases q;exact kia_one PySem.W.kitx_str I.jw True.intro e (λz=>nomatch z) h
 |NC y=>obtain⟨t,q⟩:=(show ∃t,u=Value.float y t from rx);cases q;exact kia_one PySem.W.kitx_float I.jw True.intro e (λz=>nomatch z) h
 | @lst a g d=>
  cases(show u=Value.ref a from rx)
  obtain⟨_,_,n,_,h1⟩:=(show bB X.prog X.w H s.heap a (.lst g)from I.bf a _ d)
  exact kia_one kitx_list I.jw ⟨_,h1,rfl⟩ e (λz=>nomatch z) h
 | @iE a ob g d=>
  cases(show u=Value.ref a from rx)
  obtain⟨_,_,_,n,_,h1⟩:=(show bB X.prog X.w H s.heap a (.iE ob<|.lst g)from I.bf a _ d)
  exact kia_one kitx_list I.jw ⟨_,h1,rfl⟩ e (λz=>nomatch z) h
 | @tup a g d=>
  cases(show u=Value.ref a from rx)
  obtain⟨_,_,_,p⟩:=(show bB X.prog X.w H s.heap a (.tup g)from I.bf a _ d)
  obtain⟨o,h1,j,_⟩:=p;exact kia_one PySem.W.kitx_tuple I.jw ⟨o,h1,j⟩ e (λz=>nomatch z) h
 | @dK a f d=>
  cases(show u=Value.ref a from rx)
  obtain⟨_,_,G,_,p⟩:=(show bB X.prog X.w H s.heap a (.dK f)from I.bf a _ d)
  obtain⟨o,v,r,h1,j,_⟩:=p;exact kia_one kitx_dict I.jw ⟨o,h1,j.1⟩ e (λz=>nomatch z) h
 | @dT a f d=>
  cases(show u=Value.ref a from rx)
  obtain⟨_,_,g,_,o,v,r,h1,j,_⟩:=(show bB X.prog X.w H s.heap a (.dT f)from I.bf a _ d)
  exact kia_one kitx_dict I.jw ⟨o,h1,j.1⟩ e (λz=>nomatch z) h
 | @ins a C D fs d m B hn l hm=>
  cases(show u=Value.ref a from rx)
  obtain⟨L,O,_⟩:=nV I.bf d;obtain⟨F,J,_⟩:=O.look;exact kia_one (PySem.W.kitx_own (m.get _) m.hd B hn l hm) I.jw J e (λz=>nomatch z) h
structure ck(k:Nat)(A:Around):Prop where
 hd:A.handled=none
 dp:A.depth+3*k+5<recursionLimit
 un:A.units+16*k+200<cLine
def ck.mono{j k:Nat}(r:ck k A)(h:j<=k):ck j A:=⟨r.hd,by have:=r.dp;omega,by have:=r.un;omega⟩
theorem ck.deeper{k:Nat}{A:Around}(r:ck (k+1) A)(env:Env):ck k (A.deeper env):=
 ⟨r.hd,by have:=r.dp;show A.depth+1+3*k+5<_;omega,by have:=r.un;show A.units+3+16*k+200<_;omega⟩
def yB{C:Addr}{us:f'}{kw:List (Str × Value)}:(A.under<|.builtin "type.__call__" ⟨.ref C::us,kw⟩).depth=A.depth+1:=by
 first|rfl|simp[Around.under,Code.weight,Code.isCreation,Code.isGuard,Code.isCaller,Code.frames,Code.isFrame,guardIds]
def yC{C:Addr}{us:f'}{kw:List (Str × Value)}:(A.under<|.builtin "type.__call__" ⟨.ref C::us,kw⟩).units=A.units+1:=by
 first|rfl|simp[Around.under,Code.cUnits,Code.frames,Code.isFrame]
def ck.make{k:Nat}(r:ck (k+1) A)(C:Addr)(us:f')(kw:List (Str × Value)):ck k (A.under<|.builtin "type.__call__" ⟨.ref C::us,kw⟩):=
 ⟨r.hd,by have:=r.dp;rw[yB];omega,by have:=r.un;rw[yC];omega⟩
theorem ck.depth{k:Nat}{A:Around}(r:ck k A):A.depth<recursionLimit:=by have:=r.dp;omega
theorem ck.units{k:Nat}{A:Around}(r:ck k A):A.units+64<cLine:=by have:=r.un;omega
def vL:TA:=λ_ H Q=>Q [] H
def vM(ta:TE)(tr:TA):TA:=λσ H Q=>ta σ H λx H1=>tr σ H1 λb a=>Q (x::b) a
def Oh:PA X [] vL:=λ_ _ _ _ H Q I h=>Calls.spliced_nil ⟨[],H,I,.nil,h⟩
variable{e:Expr}{es:i_}{te:TE}{t:TA}{pos:Pos}
def Jx(ha:PE X e te)(hr:PA X es t)(hs:starEach (e::es) X.env=(false,eval e X.env)::starEach es X.env:=by rfl):PA X (e::es) (vM te t):=by
 intro pos a s σ H Q I h;rw[hs];show wpAny _ _ (spliced ((false,eval e X.env)::backTo pos (starEach es X.env))) _ _ s;refine Calls.spliced_cons<|bN (ha a s σ H _ I h) λu m ⟨x,H1,l,j,d⟩=>?_;exact bN (hr pos a m σ H1 _ l d) λo n ⟨c,b,g,i,f⟩=>⟨x::c,b,g,.cons j i,f⟩
def Jy(t:TA):TE:=λσ H Q=>t σ H λa H1=>a.length<=sizeLine/\∀p,H1 p=none->Q (.ref p) (upd H1 p<|.tup a)
def Jz(t:TA):TE:=λσ H Q=>t σ H λa H1=>a.length<=sizeLine/\∀p,H1 p=none->Q (.ref p) (upd H1 p<|.lst a)
def Oi{x1}(h:PA X es t):PE X (.Tuple es x1 pos) (Jy t):=by
 intro a s σ H Q I hq;refine wpAny_Tuple_spliced (bN (h pos a s σ H _ I hq) λi c ⟨g,H1,d,r,z,q⟩=>⟨by rw[<-r.length];exact z,?_⟩)
 have f:H1 c.heap.objs.size=none:=d.bf.fresh<|ey _;refine⟨.ref c.heap.objs.size,upd H1 c.heap.objs.size<|.tup g,d.laid (t':=c.toks) (λb u e=>ef _ e) (ey _) ?_,rfl,q _ f⟩;exact⟨z,i,r,⟨_,h9 _ rfl,rfl,_,rfl⟩⟩
def Oj(h:PA X es t):PE X (.List es pos) (Jz t):=by
 intro a s σ H Q I hq;refine wpAny_List_spliced (bN (h pos a s σ H _ I hq) λi c ⟨g,H1,d,r,z,q⟩=>⟨by rw[<-r.length];exact z,?_⟩)
 have f:H1 c.heap.objs.size=none:=d.bf.fresh<|ey _;refine⟨.ref c.heap.objs.size,upd H1 c.heap.objs.size<|.lst g,d.laid (t':=c.toks) (λb u e=>ef _ e) (ey _) ?_,rfl,q _ f⟩;exact⟨z,i,0,r,h9 _ rfl⟩
abbrev Sp:=List V->Hp->VK->XK->Prop
abbrev A0:=List Env->Hp->Shared->XK->Value->Shared->Prop
structure yD(P:Program)(w:World)(K:Frag)(mg:b_)(base:Heap)(A:Around)(outer:List Env)(s:Shared)(H:Hp):Prop where
 frames:A.frames=some outer
 mod:Mod K mg base
 bs:∀b o,base.get? b=some o->s.heap.get? b=some o/\H b=none
 Ej:base.objs.size<=s.heap.objs.size
 jx:s.heap.FunFrames base outer
 Jb:∀b∈jF outer,H b=none
 bf:iC P w H s.heap
 bare:AllBare s.gens
def CE(outer:List Env)(P:Program)(w:World)(H:Hp)(s:Shared)(Q:VK)(u:Value)(s':Shared):Prop:=
 ∃v H',s'.os=s.os/\AllBare s'.gens/\Un (jF outer) [] H H' s.heap s'.heap/\iC P w H' s'.heap/\RelV v u/\Q v H'
def CR(CX:A0)(outer:List Env)(P:Program)(w:World)(H:Hp)(s:Shared)(Q:VK)(E:XK)(r:Result)(s':Shared):Prop:=
 match r with
 |.ok (.ret u)=>CE outer P w H s Q u s'
 |.ok _=>False
 |.error e=>CX outer H s E e s'
structure eh(P:Program)(w:World)(K:Frag)(mg:b_)(base:Heap)(CX:A0)(k:Nat)(f:Addr)(fd:FuncData)(ps:f_)(sp:Sp):Prop where
 len:∀vs H Q E,sp vs H Q E->vs.length=ps.length
 run:∀(A:Around) (outer:List Env) (s:Shared) (H:Hp) (args:Args) (us:f') (vs:u_) (Q:VK) (E:XK),ck k A->yD P w K mg base A outer s H->BindsTo s fd args (ps.zip us)->Vals vs us->sp vs H Q E->
  codeAny (model P w) A (.call (.ref f) args) (CR CX outer P w H s Q E) s
variable{f:Addr}{mg:b_}{base:Heap}{CX:A0}{fd:FuncData}{ps:f_}{sp:Sp}
def eh.imp{P:Program}{w:World}{K:Frag}{k:Nat}{sp':Sp}(F:eh P w K mg base CX k f fd ps sp)
  (h:∀vs H Q E,sp' vs H Q E->sp vs H Q E):eh P w K mg base CX k f fd ps sp':=
 ⟨λvs H Q E q=>F.len vs H Q E<|h _ _ _ _ q,λA a s H b c vs Q E g he hb e d=>F.run A a s H b c vs Q E g he hb e<|h _ _ _ _ d⟩
variable{outer:List Env}
def yD.make{P:Program}{w:World}{K:Frag}(e:yD P w K mg base A outer s H)(C:Addr)(us:f')(kw:List (Str × Value)):
  yD P w K mg base (A.under<|.builtin "type.__call__" ⟨.ref C::us,kw⟩) outer s H:=⟨by first|exact e.frames|(simpa[Around.under,Code.envs,Code.isFrame,pushEnvs]using e.frames),e.mod,e.bs,e.Ej,e.jx,e.Jb,e.bf,e.bare⟩
def Inv.Ol(I:Inv X w_ σ H s):yD X.prog X.w X.K X.mg X.base X.A X.stack s H:=
 ⟨I.ok.frames,I.ok.mod,I.bs,hU I.ok.Ej I.sz,I.stack,I.nS,I.bf,I.bare⟩
variable{s':Shared}{Q:VK}
def Inv.after{u:Value}(I:Inv X w_ σ H s)(h:CE X.stack X.prog X.w H s Q u s'):EP X w_ σ Q u s':=by
 obtain⟨v,j,e,a,un,f,r,q⟩:=h;obtain⟨i,g,d,t,c⟩:=s';obtain rfl:c=s.os:=e;exact⟨v,j,I.call (h':=i) (g':=g) (d':=d) (t':=t) (ch:=[]) un f a (λb z=>absurd z (by simp)),r,q⟩
def oM(sp:Sp)(oC:u_)(E:XK)(t:TA):TE:=λσ H Q=>t σ H λa H1=>sp (a++oC) H1 Q E
def rS(C:Addr)(m:Str)(sp:Sp)(oC:u_)(E:XK)(ta:TE)(t:TA):TE:=λσ H Q=>ta σ H λx H1=>∃a dx fs,x=.ref a/\H1 a=some (.ins C dx fs)/\fs.lookup m=none/\
 t σ H1 λc b=>sp (x::(c++oC)) b Q E
def rV(C:Addr)(sp:Sp)(oC:u_)(E:XK)(t:TA):TE:=λσ H Q=>t σ H λb H1=>∀x dx,H1 x=none->H1 dx=none->dx≠x->
 sp (.ref x::(b++oC)) (upd (upd H1 dx<|.own x) x<|.ins C dx []) (λv a=>v=.bA/\Q (.ref x) a) E
def Binds(K:Frag)(fd:FuncData)(ps:f_)(ds:f'):Prop:=
 ∀(s:Shared) (us:f'),K.In s.heap->(us++ds).length=ps.length->BindsTo s fd ⟨us,[]⟩ (ps.zip<|us++ds)
def Binds.all{K:Frag}(h:∀us:f',us.length=ps.length->bindArgs fd ⟨us,[]⟩=pure (ps.zip us)):Binds K fd ps []:=λs us _ a=>by
 rw[Vj]at a ⊢;exact .of_eq<|h us a
def Passes(CX:A0)(X:Cx)(E:XK):Prop:=∀(w_:aO0) (σ:St) (H:Hp) (s:Shared) (e:Value) (s':Shared),Inv X w_ σ H s->CX X.stack H s E e s'->X.xe e s'
variable{k:Nat}{oC vs:u_}{ds:f'}{E:XK}
def yE{σ:St}{us:f'}(F:eh X.prog X.w X.K X.mg X.base CX k f fd ps sp)(hr:ck k X.A)(hb:Binds X.K fd ps ds)(hd:Vals oC ds)(hx:Passes CX X E)
  (I:Inv X w_ σ H s) (r:Vals vs us) (h:sp (vs++oC) H Q E):wpAny (model X.prog X.w) X.A (call (.ref f) us) (EP X w_ σ Q) X.xe s:=by
 have a:Vals (vs++oC) (us++ds):=r.append hd;have d:(us++ds).length=ps.length:=by rw[<-a.length];exact F.len _ _ _ _ h
 refine wpAny_call<|codeAny_mono (F.run X.A X.stack s H ⟨us,[]⟩ (us++ds) (vs++oC) Q E hr I.Ol (hb s us I.jw d) a h) λr b hq=>?_
 cases r with
 |error e=>exact hx w_ σ H s e b I hq
 |ok c=>
  cases c with
  |ret u=>exact I.after hq
  |next=>exact False.elim hq
  |brk=>exact False.elim hq
  |cont=>exact False.elim hq
variable{x:Str}{p:Pos}
def tH(F:eh X.prog X.w X.K X.mg X.base CX k f fd ps sp)(hr:ck k X.A)(hg:Gl X x)(hm:X.mg x=some (.ref f))(hk:keepIn X.K (.ref f)=true)(hb:Binds X.K fd ps ds)(hd:Vals oC ds)(hx:Passes CX X E)
  (ha:PA X (e::es) t) (hdb:(x==("__debug__":Str))=false:=by decide) (he:starEach (e::es) X.env=(false,eval e X.env)::starEach es X.env:=by rfl) (hpl:(backTo pos<|starEach es X.env).any (·.1)=false:=by rfl):
  PE X (.Call (.Name x p) (e::es) [] pos) (oM sp oC E t):=by
 intro a s σ H Q I h;refine wpAny_Call_Name_kw<|kM I hg hm ?_ hdb;refine callWith_K (h₀:=X.base) I.ok.mod.NG hk (bN (ha pos a s σ H _ I h) λd g ⟨c,H1,b,r,q⟩=>⟨b.jw,?_⟩) he hpl;exact yE F hr hb hd hx b r q
variable{C:Addr}{m:Str}{A':Pos}{o:Expr}{ta:TE}
def JA{pl:Sem Bool}(he:PE X o ta)(c:Jv X.K C)(hm:Meth X.K C m f)(F:eh X.prog X.w X.K X.mg X.base CX k f fd ps sp)(hr:ck k X.A)(hb:Binds X.K fd ps ds)(hd:Vals oC ds)(hx:Passes CX X E)(ha:PA X (e::es) t)
  (hst:starEach (e::es) X.env=(false,eval e X.env)::starEach es X.env:=by rfl) (hpl:(backTo pos<|starEach es X.env).any (·.1)=false:=by rfl)
  (ht:eval (.Call (.Attribute o m A') (e::es) [] pos) X.env=(do
   let ov<-eval o X.env
   standAt A'.atName
   let (f,first)<-holding [ov] (getMethod ov m pl)
   callWith pos f first (backTo pos<|starEach (e::es) X.env) (backToKw pos<|keywordEach [] X.env)):=by rfl):
  PE X (.Call (.Attribute o m A') (e::es) [] pos) (rS C m sp oC E ta t):=by
 intro b s σ H Q I h;refine methodCall_KW (pl:=pl) (bN (he b s σ H _ I h) λu v ⟨x,H1,g,j,a,y,fs,i,p,l,q⟩=>?_) ht;subst i;obtain rfl:u=Value.ref a:=j;refine jX g p c hm l ?_;refine callWith_K (first:=[.ref a]) (h₀:=X.base) I.ok.mod.NG hm.kp (bN (ha pos b v σ H1 _ g q) λus z ⟨vs,B,d,r,n⟩=>⟨d.jw,?_⟩) hst hpl
 exact yE (us:=.ref a::us) (vs:=.ref a::vs) F hr hb hd hx d (.cons rfl r) n
def ED{pl:Sem Bool}(he:PE X o ta)(c:Jv X.K C)(hm:Meth X.K C m f)(F:eh X.prog X.w X.K X.mg X.base CX k f fd ps sp)(hr:ck k X.A)(hb:Binds X.K fd ps ds)(hd:Vals oC ds)(hx:Passes CX X E)
  (ht:eval (.Call (.Attribute o m A') [] [] pos) X.env=(do
   let ov<-eval o X.env
   standAt A'.atName
   let (f,first)<-holding [ov] (getMethod ov m pl)
   callWith pos f first (backTo pos<|starEach [] X.env) (backToKw pos<|keywordEach [] X.env)):=by rfl):
  PE X (.Call (.Attribute o m A') [] [] pos) (rS C m sp oC E ta vL):=by
 intro b s σ H Q I h;refine methodCall_KW (pl:=pl) (bN (he b s σ H _ I h) λu n ⟨x,H1,d,g,a,j,fs,e,i,l,q⟩=>?_) ht;subst e;obtain rfl:u=Value.ref a:=g;refine jX d i c hm l ?_;exact PySem.W.callWith_K0 (first:=[.ref a]) d.jw hm.kp<|yE (us:=[.ref a]) (vs:=[.ref a]) F hr hb hd hx d (.cons rfl .nil) q
structure Mk(K:Frag)(C f:Addr):Prop where
 makes:makesIn K C=true
 init:findIn K (.ref C) "__init__"=some (some<|.ref f)
 fn:isFn K (.ref f)=true
 kp:keepIn K (.ref C)=true
def EE{σ:St}{us:f'}(M:Mk X.K C f)(F:eh X.prog X.w X.K X.mg X.base CX k f fd ps sp)(hr:ck (k+1) X.A)(hb:Binds X.K fd ps ds)(hd:Vals oC ds)
  (hx:Passes CX X E) (I:Inv X w_ σ H s) (r:Vals vs us)
  (h:∀x dx,H x=none->H dx=none->dx≠x->sp (.ref x::(vs++oC)) (upd (upd H dx<|.own x) x<|.ins C dx []) (λv H2=>v=.bA/\Q (.ref x) H2) E):
  wpAny (model X.prog X.w) X.A (call (.ref C) us) (EP X w_ σ Q) X.xe s:=by
 have hq:=h (s.heap.objs.size+1) s.heap.objs.size (I.bf.fresh<|le_succ _) (I.bf.fresh<|ey _)<|ot<|VM _;have b:=Inv.made (C:=C) I;have c:Vals (V.ref (s.heap.objs.size+1)::(vs++oC)) (Value.ref (s.heap.objs.size+1)::(us++ds)):=.cons rfl<|r.append hd;have j:(Value.ref (s.heap.objs.size+1)::us++ds).length=ps.length:=by
  have e:=c.length;rw[F.len _ _ _ _ hq]at e;exact e.symm
 refine wpAny_call (EC (f:=f) I.jw M.makes M.init (beq_iff_eq.mp M.fn) (codeAny_mono (F.run _ X.stack _ _ ⟨Value.ref (s.heap.objs.size+1)::us,[]⟩ (Value.ref (s.heap.objs.size+1)::(us++ds)) _ _ E (hr.make C us [])
  (b.Ol.make C us []) (hb _ (Value.ref (s.heap.objs.size+1)::us) b.jw j) c hq) λr m a=>?_))
 cases r with
 |error e=>exact hx w_ σ _ _ e m b a
 |ok n=>
  cases n with
  |ret u=>
   obtain⟨v,o,d,l,g,i⟩:=b.after a;subst g;exact⟨l,⟨V.ref<|s.heap.objs.size+1,o,d,rfl,i⟩⟩
  |next=>exact False.elim a
  |brk=>exact False.elim a
  |cont=>exact False.elim a
def A7(M:Mk X.K C f)(F:eh X.prog X.w X.K X.mg X.base CX k f fd ps sp)(hr:ck (k+1) X.A)(hg:Gl X x)(hm:X.mg x=some (.ref C))(hb:Binds X.K fd ps ds)(hd:Vals oC ds)(hx:Passes CX X E)
  (ha:PA X (e::es) t) (hdb:(x==("__debug__":Str))=false:=by decide) (he:starEach (e::es) X.env=(false,eval e X.env)::starEach es X.env:=by rfl) (hpl:(backTo pos<|starEach es X.env).any (·.1)=false:=by rfl):
  PE X (.Call (.Name x p) (e::es) [] pos) (rV C sp oC E t):=by
 intro a s σ H Q I h;refine wpAny_Call_Name_kw<|kM I hg hm ?_ hdb;refine callWith_K (h₀:=X.base) I.ok.mod.NG M.kp (bN (ha pos a s σ H _ I h) λd g ⟨c,H1,b,r,q⟩=>⟨b.jw,?_⟩) he hpl;exact EE M F hr hb hd hx b r q
variable{ks:f_}
structure Om(K:Frag)(fd:FuncData)(ps ks:f_)(g:f'->f'->f')(gV:u_->u_->u_):Prop where
 to:∀(s:Shared) (us ws:f'),K.In s.heap->(g us ws).length=ps.length->BindsTo s fd ⟨us,ks.zip ws⟩ (ps.zip<|g us ws)
 rel:∀ {vs:u_} {us:f'} {zs:u_} {ws:f'},Vals vs us->Vals zs ws->Vals (gV vs zs) (g us ws)
structure kR(N P:f_)(sc:Scope):Prop where
 kind:sc.kind=.function
 co:sc.isCoroutine=false
 gen:sc.isGenerator=false
 nd:N.Nodup
 pre:N.take P.length=P
 par:∀x∈P,sc.names.lookup x=some .local∨sc.names.lookup x=some .cell
 Qh:∀y∈sc.names,y.2≠.free
theorem rW{kindOf:Str->Option NameKind}{x:Str}:∀ {binds:List (Str × Value)} {m:b_},(∀v,(x,v)∉binds)->bindL kindOf binds m x=m x
 | [],_,_=>rfl
 |(n,v)::r,m,h=>by
  unfold bindL;rw[rW λw a=>h w<|fN _ a]
  split
  ·have:x≠n:=by rintro rfl;exact h v gc
   simp[this]
  ·rfl
theorem rX{kindOf:Str->Option NameKind}{x:Str}:∀ {binds:List (Str × Value)} {m:b_},(∀v,(x,v)∉binds)->bindC kindOf binds m x=m x
 | [],_,_=>rfl
 |(n,v)::r,m,h=>by
  unfold bindC;rw[rX λw a=>h w<|fN _ a]
  split
  ·rfl
  ·have:x≠n:=by rintro rfl;exact h v gc
   simp[this]
theorem rY{kindOf:Str->Option NameKind}{x:Str}{v:Value}:∀ {P:f_} {vs:f'} {i:Nat} {m:b_},P.Nodup->P[i]?=some x->vs[i]?=some v->kindOf x=some .local->
  bindL kindOf (P.zip vs) m x=some v
 | [],_,_,_,_,h,_,_=>by simp at h
 |_::_,[],_,_,_,_,h,_=>by simp at h
 |p::P,w::vs,0,m,b,h1,a,hk=>by
  simp at h1 a;subst h1;subst a
  show bindL kindOf ((p,w)::P.zip vs) m p=_;unfold bindL;rw[rW λv c=>(wh.mp b).1 (List.of_mem_zip c).1,if_pos hk]
  simp
 |p::P,w::vs,i+1,m,b,h1,a,hk=>by
  show bindL kindOf ((p,w)::P.zip vs) m x=_;unfold bindL;exact rY (i:=i) (wh.mp b).2 (by simpa using h1) (by simpa using a) hk
theorem rZ{kindOf:Str->Option NameKind}{x:Str}{v:Value}:∀ {P:f_} {vs:f'} {i:Nat} {m:b_},P.Nodup->P[i]?=some x->vs[i]?=some v->kindOf x≠some .local->
  bindC kindOf (P.zip vs) m x=some v
 | [],_,_,_,_,h,_,_=>by simp at h
 |_::_,[],_,_,_,_,h,_=>by simp at h
 |p::P,w::vs,0,m,b,h1,a,hk=>by
  simp at h1 a;subst h1;subst a
  show bindC kindOf ((p,w)::P.zip vs) m p=_;unfold bindC;rw[rX λv c=>(wh.mp b).1 (List.of_mem_zip c).1,if_neg hk]
  simp
 |p::P,w::vs,i+1,m,b,h1,a,hk=>by
  show bindC kindOf ((p,w)::P.zip vs) m x=_;unfold bindC;exact rZ (i:=i) (wh.mp b).2 (by simpa using h1) (by simpa using a) hk
noncomputable def start(N:f_)(vs:u_):St:=vs.map some++List.replicate (N.length-vs.length) none
noncomputable def fP(CX:A0)(P:Program)(w:World)(K:Frag)(mg:b_)(base:Heap)(N:f_)(qual:Str)(scope:Scope)(f:Addr)(cd:Value)(A:Around)(outer:List Env)(s:Shared)(H:Hp)(E:XK):Cx where
 prog:=P
 w:=w
 K:=K
 mg:=mg
 base:=base
 A:=A.deeper (envOfC qual scope s.heap.objs.size f cd)
 N:=N
 s₀:=s
 H₀:=H
 env:=envOfC qual scope s.heap.objs.size f cd
 outer:=outer
 stack:=envOfC qual scope s.heap.objs.size f cd::outer
 ex:=[]
 calm:=true
 fn:=λ_=>true
 pn:=[]
 xe:=λe b=>wpAny (model P w) (A.deeper<|envOfC qual scope s.heap.objs.size f cd) (leaving (envOfC qual scope s.heap.objs.size f cd) e) (λ_ a=>CX outer H s E e a) (λc a=>CX outer H s E c a) b
variable{sc:Scope}
def vN{n:Nat}(h:sc.names.lookup x=some .cell):∃c,(cellsFrom n sc.names []).lookup x=some c:=by
 have q:=cellsFrom_some sc.names n []<|.inl h;exact Option.isSome_iff_exists.mp q
variable{qual:Str}{scope:Scope}{cd:Value}
def Cq{P:Program}{w:World}{K:Frag}{N:f_}{s1:Shared}{us:f'} 
  (S:kR N ps scope) (hd:A.handled=none) (e0:yD P w K mg base A outer s H) (hl:vs.length=ps.length) (r:Vals vs us)
  (x:InCallC s s.heap.objs.size (bindL (envOfC qual scope s.heap.objs.size f cd).kindOf (ps.zip us) λ_=>none) (cellsFrom (s.heap.objs.size+1) scope.names []) (bindC (envOfC qual scope s.heap.objs.size f cd).kindOf (ps.zip us) λ_=>none) s1):
  Inv (fP CX P w K mg base N qual scope f cd A outer s H E) [] (start N vs) H s1:=by
 have m:ps.length<=N.length:=by have:=SL List.length S.pre;rw[rr]at this;omega
 obtain⟨h1,C,rfl,hk⟩:=x.done;have g:∀b:Addr,b∉(fP CX P w K mg base N qual scope f cd A outer s H E).ex:=λb z=>absurd (show b∈([]:l_)from z) (by simp)
 refine⟨⟨e0.mod,S.kind,rfl,rfl,ey _,λy z c h1 d=>?_,λy hy=>?_,λy c _ h=>?_,λ_=>hd,Around.frames_deeper e0.frames,.inr ⟨rfl,rfl⟩,λb z=>absurd z<|g b,e0.bs,e0.Ej,λb _ _=>g b,λb z=>absurd z<|g b,e0.jx,e0.Jb⟩,
  rfl,e0.bare,Un.kept hk,⟨_,x.toInCall.ns,λi y v h1 d B=>?_⟩,λy c h=>⟨_,x.cell y c h⟩,e0.bf.fresh<|ey _,λy c h=>?_,λp j=>absurd (show p∈([]:aO0)from j) (by simp),e0.bf.kept hk,?_⟩
 ·exact name_of_addr x.apart (D2 h1)<|D2 d
 ·have hy:scope.names.lookup y=some .cell∨scope.names.lookup y=some .free:=hy
  rcases hy with hy|hy
  ·exact vN hy
  ·exact absurd rfl<|S.Qh _<|D2 hy
 ·exact Nat.le_of_lt<|x.above y c<|D2 h
 ·have hi:i<vs.length:=by
   unfold start at d
   by_cases hi:i<vs.length
   ·exact hi
   ·rw[tz (by simpa using hi)]at d
    rw[List.getElem?_replicate]at d
    split at d<;>cases d
  have t:vs[i]?=some v:=by
   unfold start at d;rw[u5 (by simpa using hi),eG]at d
   cases e:vs[i]? with
   |none=>rw[e]at d;cases d
   |some a=>rw[e]at d;cases d;rfl
  obtain⟨u,hu,o⟩:=r.get t;have j:ps[i]?=some y:=by
   rw[<-S.pre,List.getElem?_take_of_lt (by omega)];exact h1
  have l:ps.Nodup:=by rw[<-S.pre];exact S.nd.sublist<|take_sublist _ _
  refine⟨u,o,?_⟩
  rcases S.par y (fA j)with k|k
  ·exact .inl ⟨k,rY l j hu k⟩
  ·obtain⟨c,e⟩:=vN (n:=s.heap.objs.size+1) k;refine .inr ⟨.inl k,c,e,?_⟩;have q:=x.cell y c e;rw[rZ l j hu (by show scope.names.lookup y≠_;rw[k];decide)]at q
   exact q
 ·exact e0.bf.fresh<|Nat.le_of_lt<|x.above y c<|D2 h
 ·unfold start;show _=N.length;rw[eR,b5,length_replicate]
  omega
variable{doc pm cy oc:Value}{an od:h_}{osl:Array (g_)}
def vO{P:Program}{w:World}{K:Frag}{k:Nat}{name:Str}{params:Arguments}{body:n_}{dV kV ct:Value} 
  {N:f_} (lk:K.lookup f=some ⟨oc,od,.func<|fnOf name qual params body scope dV kV doc pm an cy ct,osl⟩) (hcd:codeIn K cy qual=true) (S:kR N ps scope)
  (len:∀vs H Q E,sp vs H Q E->vs.length=ps.length)
  (cX:∀(A:Around) (outer:List Env) (s:Shared) (H:Hp) (vs:u_) (Q:VK) (E:XK),ck k (A.deeper<|envOfC qual scope s.heap.objs.size f cy)->sp vs H Q E->
   ∃t,yn (fP CX P w K mg base N qual scope f cy A outer s H E) body t/\t {nx:=λ_ H'=>Q .bA H',rt:=Q} (start N vs) H):
  eh P w K mg base CX (k+1) f (fnOf name qual params body scope dV kV doc pm an cy ct) ps sp:=by
 refine⟨len,λA outer s H z F vs Q E p d hb r g=>?_⟩;have D:=len _ _ _ _ g;have C:K.In s.heap:=d.mod.NG.keeps λb o e=>(d.bs b o e).1;have j:s.heap.NoLimit:=d.mod.nolimit.keeps λb o e=>(d.bs b o e).1;have a:∀y∈ps.zip F,scope.names.lookup y.1=some .local∨(scope.names.lookup y.1=some .cell/\((cellsFrom (s.heap.objs.size+1) scope.names []).lookup y.1).isSome=true):=λ⟨n,v⟩ hy=>by
  rcases S.par n (List.of_mem_zip hy).1 with q|q
  ·exact .inl q
  ·exact .inr ⟨q,cellsFrom_some _ _ _<|.inl q⟩
 refine codeAny_call_function p.depth (C _ _ lk) rfl S.co S.gen rfl (PySem.W.codeRec_of C hcd)<|hb _ _ _ _ ?_;refine wpAny_newFunctionEnv_cells S.kind a λL he B x=>?_;subst he;refine⟨j.keeps x.toInCall.keep,codeAny_func ?_⟩;obtain⟨t,G,hq⟩:=cX A outer s H vs Q E (p.deeper _) g;have I:Inv (fP CX P w K mg base N qual scope f cy A outer s H E) [] (start N vs) H B:=Cq S p.hd d D r x;refine sh (G [] B (start N vs) H _ I hq) (λM m c=>?_) λe m c=>c;have h:∀ {i:St} {H':Hp} {v:V} {u:Value},Inv (fP CX P w K mg base N qual scope f cy A outer s H E) [] i H' m->RelV v u->Q v H'->CE outer P w H s Q u m:=
  λ{i H' v u} J l q=>⟨v,H',J.os,J.bare,J.base,J.bf,l,q⟩
 cases M with
 |ret u=>
  obtain⟨v,i,H',J,l,q⟩:=c;exact h J l q
 |next=>
  obtain⟨i,H',J,q⟩:=c;exact h (v:=V.bA) (u:=Value.none) J rfl q
 |brk=>
  obtain⟨_,_,_,q⟩:=c;exact False.elim q
 |cont=>
  obtain⟨_,_,_,q⟩:=c;exact False.elim q
def Oo(r:u_->Hp->VK->Prop)(t:TA):TE:=λσ H Q=>t σ H λa H1=>r a H1 Q
variable{id:String}{r:u_->Hp->VK->Prop}
def EF(hc:bJ X (.builtin id) r)(hg:Gl X x)(hm:X.mg x=none)(hv:bootBuiltins x=some (.builtin id))(ha:PA X (e::es) t)(hn:x≠"__name__":=by decide)(hdb:(x==("__debug__":Str))=false:=by decide)
  (he:starEach (e::es) X.env=(false,eval e X.env)::starEach es X.env:=by rfl) (hpl:(backTo pos<|starEach es X.env).any (·.1)=false:=by rfl):PE X (.Call (.Name x p) (e::es) [] pos) (Oo r t):=by
 intro a s σ H Q I h;refine wpAny_Call_Name_kw<|jT I hg hm hv ?_ hn hdb;exact PyProof.Rows.callWith_builtin1 (bN (ha pos a s σ H _ I h) λf i ⟨b,H1,g,c,d⟩=>hc a i σ H1 b f Q g c d) he hpl
variable{T:String}
def Cr(hc:bJ X (.type T) r)(hg:Gl X x)(hm:X.mg x=none)(hv:bootBuiltins x=some (.type T))(ha:PA X (e::es) t)(hn:x≠"__name__":=by decide)(hdb:(x==("__debug__":Str))=false:=by decide)
  (he:starEach (e::es) X.env=(false,eval e X.env)::starEach es X.env:=by rfl) (hpl:(backTo pos<|starEach es X.env).any (·.1)=false:=by rfl):PE X (.Call (.Name x p) (e::es) [] pos) (Oo r t):=by
 intro a s σ H Q I h;refine wpAny_Call_Name_kw<|jT I hg hm hv ?_ hn hdb;exact IR (bN (ha pos a s σ H _ I h) λf i ⟨b,H1,g,c,d⟩=>hc a i σ H1 b f Q g c d) he hpl
end L2
namespace HT
open PySem PyProof.Rows PySem.SeqAt
open PySem.AutoSeq1 (wpAny_loadPart')
variable{prog:Program}{w:World}{A:Around}{E:c_}{s:Shared}{t:Addr}{vs:f'}
def JB{b:Addr}{ws:f'}{Q:c_}(ht:IsTup s.heap t vs.toArray)(hb:IsTup s.heap b ws.toArray)(hv:vs≠[])
  (h1:ws=[]->Q (.ref t) s) (h2:ws≠[]->Q (.ref s.heap.objs.size) {s with heap:=s.heap.push {cls:=.type "tuple",data:=.seq (vs++ws).toArray}})
  (hsz:vs.length+ws.length<=sizeLine):wpAny (model prog w) A (binaryOp .Add (.ref t)<|.ref b) Q E s:=by
 obtain⟨⟨cls,q,data,m⟩,i,hc,n,p⟩:=id ht;obtain⟨⟨o,g,j,f⟩,a,c,l,d⟩:=id hb
 simp only at hc p c d
 subst hc p c d;have e:vs.toArray++ws.toArray=(vs++ws).toArray:=by simp
 by_cases h:ws=[]
 ·exact concat_meets ⟨_,i,rfl⟩ ⟨_,a,rfl⟩ noFill_tuple_add seq_tuple_add slot_tuple_add entry_tuple_add (args_tuple_add_2 _ _)
   (tuple_addW1 t b vs.toArray ws.toArray n l q g m f (by simpa using hv) (by simp[h])) ⟨i,a,h1 h⟩
 ·refine concat_meets ⟨_,i,rfl⟩ ⟨_,a,rfl⟩ noFill_tuple_add seq_tuple_add slot_tuple_add entry_tuple_add (args_tuple_add_2 _ _)
   (tuple_addW2 t b vs.toArray ws.toArray n l q g m f (by simpa using hv) (by simpa using h) (by rw[List.size_toArray,List.size_toArray];exact hsz)) ⟨i,a,?_⟩
  rw[e];exact h2 h
noncomputable def eE(n d:Nat):j_->Nat
 |none=>d
 |some v=>if v<0 then(v+(n:Int)).toNat else min v.toNat n
def kS(n d:Nat):eE n d none=d:=rfl
def jk(n d k:Nat):eE n d (some (k:Int))=min k n:=by
 show(if(k:Int)<0 then((k:Int)+(n:Int)).toNat else min (k:Int).toNat n)=min k n
 rw[if_neg (by omega),toNat_natCast]
def Oq(n d:Nat)(hd:d<=n)(o:j_):eE n d o<=n:=by
 cases o with
 |none=>exact hd
 |some v=>
  show(if v<0 then(v+(n:Int)).toNat else min v.toNat n)<=n
  by_cases a:v<0
  ·rw[if_pos a];omega
  ·rw[if_neg a];exact Nat.min_le_right _ _
def A8(v:Int)(n d:Nat):(if v<0 then max (v+(n:Int)) 0 else min v (n:Int))=((eE n d (some v):Nat):Int):=by
 show(if v<0 then max (v+(n:Int)) 0 else min v (n:Int))=(((if v<0 then(v+(n:Int)).toNat else min v.toNat n):Nat):Int)
 by_cases a:v<0
 ·simp only[if_pos a];omega
 ·simp only[if_neg a];omega
def yF(lo hi:j_)(n:Nat):Builtin.Slice.sliceAdjust lo hi 1 (n:Int)=(((eE n 0 lo:Nat):Int),((eE n n hi:Nat):Int)):=by
 have h1:¬((1:Int)<0):=by omega
 unfold Builtin.Slice.sliceAdjust;simp only[h1,if_false];refine Prod.ext ?_ ?_
 ·cases lo with
  |none=>rfl
  |some v=>exact A8 v n 0
 ·cases hi with
  |none=>rfl
  |some v=>exact A8 v n n
def yG(i j:Nat):Builtin.Slice.slicePlaces (i:Int) (j:Int) 1=j-i:=by
 unfold Builtin.Slice.slicePlaces;have h1:(1:Int)>0:=by omega
 simp only[h1,if_true,Int.ediv_one]
 split<;>omega
variable{v:Value}
def oO{o:j_}{Q:j_->Shared->Prop}(p:IsPart v o)(h:Q o s):wpAny (model prog w) A (Builtin.Slice.slicePartIndex v) Q E s:=by
 cases p with
 |none=>exact slicePart_none h
 |int i t=>exact slicePart_int h
variable{lo:j_}{sl:Addr}{vl vu:Value}
def lT{hi:j_}{n:Nat}{Q:Int × Int × Nat->Shared->Prop}(hs:s.heap.IsSliceOf sl vl vu .none)(pl:IsPart vl lo)(pu:IsPart vu hi)
  (h:Q (((eE n 0 lo:Nat):Int),1,eE n n hi-eE n 0 lo) s):wpAny (model prog w) A (Builtin.Slice.sliceApplied (.ref sl)<|pure (n:Int)) Q E s:=by
 obtain⟨d,a,c,b⟩:=id hs;unfold Builtin.Slice.sliceApplied Builtin.Slice.sliceFields;refine wpAny_bind<|wpAny_bind<|wpAny_field a b (x:=vl) rfl<|wpAny_bind<|wpAny_field a b (x:=vu) rfl<|wpAny_bind<|wpAny_field a b (x:=.none) rfl<|wpAny_pure ?_;refine wpAny_bind<|slicePart_none ?_;show wpAny _ _ (if((1:Int)==0)=true then _ else _) _ _ s
 rw[if_neg a_]
 refine wpAny_bind<|oO pl<|wpAny_bind<|oO pu<|wpAny_bind<|wpAny_pure ?_;show wpAny _ _ (match Builtin.Slice.sliceAdjust lo hi 1 (n:Int)with|(lo,hi)=>pure (lo,(1:Int),Builtin.Slice.slicePlaces lo hi 1)) _ _ s
 rw[yF lo hi n];show wpAny _ _ (pure (((eE n 0 lo:Nat):Int),(1:Int),Builtin.Slice.slicePlaces ((eE n 0 lo:Nat):Int) ((eE n n hi:Nat):Int) 1)) _ _ s;rw[yG];exact wpAny_pure h
def EG(xs:k_)(i k:Nat):((List.range k).filterMap λ(m:Nat)=>xs[((i:Int)+(m:Int)*1).toNat]?).toArray=((xs.toList.drop i).take k).toArray:=by
 have e:(λ(m:Nat)=>xs[((i:Int)+(m:Int)*1).toNat]?)=λm=>xs[i+m]?:=by
  funext m
  have:((i:Int)+(m:Int)*1).toNat=i+m:=by omega
  rw[this]
 rw[e]
 have:=pick_run xs i k
 rw[List.filterMap_map]at this;have a:((λx=>xs[x]?) ∘ λx=>i+x)=λm=>xs[i+m]?:=rfl;rw[a]at this;rw[this]
variable{Q:c_}{items:k_}
def kT{hi:j_}(ht:IsTup s.heap t items)(hs:s.heap.IsSliceOf sl vl vu .none)(pl:IsPart vl lo)(pu:IsPart vu hi)
  (hw:¬(eE items.size 0 lo=0/\eE items.size items.size hi=items.size))
  (h:Q (.ref s.heap.objs.size) {s with heap:=s.heap.push {cls:=.type "tuple",data:=.seq ((items.toList.drop<|eE items.size 0 lo).take<|eE items.size items.size hi-eE items.size 0 lo).toArray}})
  (hsz:items.size<=sizeLine):wpAny (model prog w) A (getItem (.ref t)<|.ref sl) Q E s:=by
 have a:sizeOk (.seq ((items.toList.drop<|eE items.size 0 lo).take<|eE items.size items.size hi-eE items.size 0 lo).toArray):=by
  show((items.toList.drop<|eE items.size 0 lo).take<|eE items.size items.size hi-eE items.size 0 lo).toArray.size<=sizeLine;rw[List.size_toArray,length_take,length_drop,Array.length_toList]
  omega
 have hj:eE items.size items.size hi<=items.size:=Oq _ _ (Nat.le_refl _) hi;obtain⟨f,d,b,g⟩:=id hs;have c:s.TypeIs (.ref sl) "slice":=⟨f,d,b⟩;unfold getItem
 try with_reducible refine wpAny_holding ?_
 first|refine wpAny_bind (wpAny_pure ?_)|skip
 refine wpAny_bind (wpAny_sequenceKey ht.typeIs a_ ?_)
 refine wpAny_bind (wpAny_callSpecial?_slot (name:=("__getitem__":Str)) ht.typeIs PyProof.Rows.slot_tuple_getitem
  (wpAny_call_entry PyProof.Rows.slot_tuple_getitem ht.typeIs entry_tuple_getitem ?_ (args_tuple_getitem _ _)))
 show wpAny _ _ (Builtin.Tuple.tupleItemsOf (.ref t) >>= _) _ _ s;refine wpAny_bind<|tupleItemsOf_ ht ?_;refine wpAny_bind<|wpAny_typeOf c ?_;rw[if_pos a_]
 refine wpAny_bind<|lT hs pl pu ?_;have e:¬((((eE items.size 0 lo:Nat):Int)==0&&(1:Int)==1&&(eE items.size items.size hi-eE items.size 0 lo)==items.size)=true):=by
  intro q;rw[Bool.and_eq_true,Bool.and_eq_true]at q;have j:((eE items.size 0 lo:Nat):Int)=0:=eq_of_beq q.1.1;have i:eE items.size items.size hi-eE items.size 0 lo=items.size:=eq_of_beq q.2;exact hw ⟨by omega,by omega⟩
 show wpAny _ _ (if(((eE items.size 0 lo:Nat):Int)==0&&(1:Int)==1&&(eE items.size items.size hi-eE items.size 0 lo)==items.size)=true then _ else _) _ _ s
 rw[if_neg e,EG]
 first
  |exact wpAny_bind (m:=Builtin.Tuple.tupleExact _)<|wpAny_newObj_type (wpAny_pure ⟨_,rfl,wpAny_pure h⟩) a
  |exact wpAny_bind (m:=Builtin.Tuple.tupleExact _)<|wpAny_newObj_type (wpAny_bind<|wpAny_pure<|wpAny_pure ⟨_,rfl,wpAny_pure h⟩) a
  |exact wpAny_bind<|wpAny_bind (m:=Builtin.Tuple.tupleExact _)<|wpAny_newObj_type (wpAny_pure<|wpAny_pure ⟨_,rfl,wpAny_pure h⟩) a
  |exact wpAny_bind<|wpAny_bind (m:=Builtin.Tuple.tupleExact _)<|wpAny_newObj_type (wpAny_pure ⟨_,rfl,wpAny_pure h⟩) a
end HT
namespace L2
open PySem PySem.Spec PyProof.Rows
abbrev TO:=St->Hp->(Option Int->Hp->Prop)->Prop
def PO(X:Cx)(e:Option Expr)(t:TO):Prop:=
 ∀(w_:aO0) (s:Shared) (σ:St) (H:Hp) (Q:j_->r_),Inv X w_ σ H s->t σ H Q->
  wpAny (model X.prog X.w) X.A (evalPart e X.env) (λu a=>∃o H',Inv X w_ σ H' a/\IsPart u o/\Q o H') X.xe s
def tJ:TO:=λ_ H Q=>Q none H
def EH(t:TE):TO:=λσ H Q=>t σ H λx H1=>∃i,x=.int i/\Q (some i) H1
variable{ns:e_}
def intsAre_of:∀ {us:f'},Vals (ns.map V.int) us->IntsAre us ns:=by
 induction ns with
 |nil=>intro us r;rw[map_nil]at r;cases r;exact .nil
 |cons n ns a=>
  intro us r;rw[qb]at r
  cases r with
  |cons c b=>
   obtain⟨t,e⟩:=c;subst e;exact .cons n t<|a b
variable{X:Cx}
def JC:PO X none tJ:=by
 intro a s σ H Q I h;rw[evalPart_none];exact fO ⟨none,H,I,.none,h⟩
variable{e:Expr}{te:TE}
def JD(h:PE X e te):PO X (some e) (EH te):=by
 intro a s σ H Q I b;rw[evalPart_some];refine bN (h a s σ H _ I b) λu g ⟨x,H1,d,f,c⟩=>?_;obtain⟨i,rfl,q⟩:=c;obtain⟨t,rfl⟩:=f;exact⟨some i,H1,d,.int i t,q⟩
variable{lo hi:Option Expr}
def Ot(X:Cx)(r:V->j_->j_->Hp->VK->Prop):Prop:=
 ∀(w_:aO0) (s:Shared) (σ:St) (H:Hp) (x:V) (v vl vu:Value) (lo hi:j_) (sl:Addr) (Q:VK),Inv X w_ σ H s->RelV x v->s.heap.IsSliceOf sl vl vu .none->IsPart vl lo->IsPart vu hi->r x lo hi H Q->
  ∃T id,typeLookup (.type T) "__getitem__"=pure (some<|.builtin id)/\s.TypeIs v T/\wpAny (model X.prog X.w) X.A (getItem v<|.ref sl) (EP X w_ σ Q) X.xe s
def T6(r:V->j_->j_->Hp->VK->Prop)(te:TE)(tl th:TO):TE:=λσ H Q=>te σ H λx H1=>tl σ H1 λl a=>th σ a λu b=>r x l u b Q
variable{pos p2:Pos}{tl:TO}{th:TO}
def EI{r:V->j_->j_->Hp->VK->Prop}(hr:Ot X r)(he:PE X e te)(hl:PO X lo tl)(hu:PO X hi th):PE X (.Subscript e (.Slice lo hi none p2) pos) (T6 r te tl th):=by
 intro a s σ H Q I h;refine Subscript_<|bN (he a s σ H _ I h) λv B ⟨x,H1,G,E,p⟩=>?_;refine wpAny_Slice<|bN (hl a B σ H1 _ G p) λd n ⟨l,o,D,J,z⟩=>bN (hu a n σ o _ D z) λf c ⟨u,g,i,y,m⟩=>?_;rw[evalPart_none];refine fO ?_;have j:Inv X a σ g {c with heap:=c.heap.push {cls:=.type "slice",data:=.fields #[d,f,.none]}}:=i.kept (t':=c.toks) λb ob q=>ef _ q;obtain⟨T,id,C,F,t⟩:=hr a {c with heap:=c.heap.push {cls:=.type "slice",data:=.fields #[d,f,.none]}} σ g x v d f l u c.heap.objs.size Q j E (Heap.IsSliceOf.new ..) J y m;show wpAny (model X.prog X.w) X.A (subscriptTail e (.Slice lo hi none p2) v<|.ref c.heap.objs.size) (EP X a σ Q) X.xe {c with heap:=c.heap.push {cls:=.type "slice",data:=.fields #[d,f,.none]}};exact tail_any (ops:=[.ref c.heap.objs.size,v]) F C t (by with_unfolding_all rfl)
noncomputable def jy(xs:u_)(lo hi:j_):u_:=(xs.drop<|HT.eE xs.length 0 lo).take<|HT.eE xs.length xs.length hi-HT.eE xs.length 0 lo
def mW(xs:u_)(lo hi:j_):(jy xs lo hi).length<=xs.length:=by
 unfold jy;rw[rr,q5]
 omega
def JE(K:Frag):V->j_->j_->Hp->VK->Prop:=λx b hi H Q=>∃a xs,x=.ref a/\aP K H a xs/\
 ¬(HT.eE xs.length 0 b=0/\HT.eE xs.length xs.length hi=xs.length)/\∀p,H p=none->Q (.ref p) (upd H p<|.tup<|jy xs b hi)
def Ou:Ot X (JE X.K):=by
 intro g s σ H x v w y e hi u Q I m p t n h;obtain⟨a,d,rfl,hx,l,q⟩:=h
 cases m
 obtain⟨f,r,j,i⟩:=I.tuple hx;have c:f.toArray.size=d.length:=by rw[gd];exact r.length.symm
 refine⟨"tuple",_,PyProof.Rows.slot_tuple_getitem.lookup,j.typeIs,?_⟩;refine HT.kT j p t n (by rw[c];exact l) ?_ (by rw[c];exact i)
 rw[c];refine⟨.ref s.heap.objs.size,_,I.laid (t':=s.toks) (o:=.tup<|jy d e hi) (λb ob q=>ef _ q) (ey _) ?_,rfl,q _<|I.bf.fresh<|ey _⟩;exact⟨hU (mW d e hi) i,_,(r.drop<|HT.eE d.length 0 e).take<|HT.eE d.length d.length hi-HT.eE d.length 0 e,IsTup.new _ _⟩
def QN(K:Frag):R2:=λx y H Q=>∃a b xs ys,x=.ref a/\y=.ref b/\aP K H a xs/\aP K H b ys/\xs≠[]/\xs.length+ys.length<=sizeLine/\
 (ys=[]->Q (.ref a) H)/\(ys≠[]->∀p,H p=none->Q (.ref p) (upd H p<|.tup<|xs++ys))
def Vals.tK{xs:u_}{us:f'}(r:Vals xs us):us=[]↔xs=[]:=by
 cases r with
 |nil=>simp
 |cons _ _=>simp
def JF:dU X (binaryOp .Add) (QN X.K):=by
 intro f s σ H x y v u Q I r B h;obtain⟨a,b,i,n,rfl,rfl,p,hb,hx,g,l,t⟩:=h
 cases r
 cases B
 obtain⟨A,d,j,_⟩:=I.tuple p;obtain⟨e,c,m,_⟩:=I.tuple hb;refine HT.JB j m (λz=>hx<|d.tK.mp z) (λz=>⟨.ref a,H,I,rfl,l<|c.tK.mp z⟩) (λz=>?_) (by rw[<-d.length,<-c.length];exact g)
 refine⟨.ref s.heap.objs.size,_,I.laid (t':=s.toks) (o:=.tup<|i++n) (λb ob q=>ef _ q) (ey _) ?_,rfl,t (λw=>z<|c.tK.mpr w) _<|I.bf.fresh<|ey _⟩;exact⟨by rw[eR];exact g,_,d.append c,IsTup.new _ _⟩
noncomputable def EJ(n:Nat)(i:Int):Option Nat:=if 0<=i then(if i<n then some i.toNat else none)else if -(n:Int)<=i then some (i+n).toNat else none
noncomputable def yH{α:Type}(xs:List α)(i:Int):Option α:=(EJ xs.length i).bind λj=>xs[j]?
variable{i:Int}
def A9{n:Nat}{j:Nat}(h:EJ n i=some j):seqIndex? i n=some j/\j<n/\-(n:Int)<=i/\i<n:=by
 unfold EJ at h
 by_cases a:0<=i
 ·rw[if_pos a]at h
  by_cases h1:i<n
  ·rw[if_pos h1]at h;have e:i.toNat=j:=qa h;exact⟨by rw[seqIndex_of a h1,e],by omega,by omega,h1⟩
  ·rw[if_neg h1]at h;cases h
 ·rw[if_neg a]at h
  by_cases h1:-(n:Int)<=i
  ·rw[if_pos h1]at h;have e:(i+n).toNat=j:=qa h;exact⟨by rw[seqIndex_neg (by omega) h1,e],by omega,h1,by omega⟩
  ·rw[if_neg h1]at h;cases h
def tL{α:Type}{xs:List α}{v:α}(h:yH xs i=some v):∃j,seqIndex? i xs.length=some j/\xs[j]?=some v/\j<xs.length/\-(xs.length:Int)<=i/\i<xs.length:=by
 unfold yH at h
 cases e:EJ xs.length i with
 |none=>rw[e]at h;cases h
 |some j=>
  rw[e]at h;obtain⟨h1,a,c,b⟩:=A9 e;exact⟨j,h1,h,a,c,b⟩
def jl{α:Type}{xs:List α}{j:Nat}{v:α}(h:xs[j]?=some v):yH xs (j:Int)=some v:=by
 have hj:j<xs.length:=(nt.mp h).1;have e:EJ xs.length (j:Int)=some j:=by
  unfold EJ;rw[if_pos (by omega),if_pos (by omega)];simp
 unfold yH;rw[e];exact h
def EK{α:Type}(xs:List α)(v:α):yH (xs++[v]) (-1)=some v:=by
 have a:(xs++[v]).length=xs.length+1:=by simp
 have e:EJ (xs++[v]).length (-1)=some xs.length:=by
  unfold EJ;rw[a,if_neg a_,if_pos (by omega)]
  congr 1
  omega
 unfold yH;rw[e];show(xs++[v])[xs.length]?=some v
 simp
def nW(b:Expr):Prop:=∀o i,subscripted b false o i=operate [o,i] (getItem o i)
def Ov(X:Cx)(r:R2):Prop:=
 ∀(value slice:Expr) (w_:aO0) (s:Shared) (σ:St) (H:Hp) (x y:V) (v u:Value) (Q:VK),Inv X w_ σ H s->RelV x v->RelV y u->r x y H Q->
  subscripted slice false v u=operate [v,u] (getItem v u)->wpAny (model X.prog X.w) X.A (subscriptTail value slice v u) (EP X w_ σ Q) X.xe s
def yo(X:Cx)(id:String)(r:V->u_->Hp->VK->Prop):Prop:=
 ∀(w_:aO0) (s:Shared) (σ:St) (H:Hp) (x:V) (xs:u_) (v:Value) (us:f') (Q:VK),Inv X w_ σ H s->RelV x v->Vals xs us->r x xs H Q->
  wpAny (model X.prog X.w) X.A (call (.builtin id) (v::us)) (EP X w_ σ Q) X.xe s
variable{a b:Expr}{ta tb:TE}
def QP{r:R2}(hr:Ov X r)(ha:PE X a ta)(hb:PE X b tb)(hs:nW b):PE X (.Subscript a b pos) (tG r ta tb):=by
 intro c s σ H Q I h;exact Subscript_<|Od ha hb I h λv u e x y f g d i q=>hr a b c e σ f x y v u Q g d i q<|hs _ _
def nF(K:Frag):R2:=λx y H Q=>∃p xs i v,x=.ref p/\y=.int i/\ay K H p xs/\yH xs i=some v/\Q v H
def Ct(K:Frag):R2:=λx y H Q=>∃p xs i v,x=.ref p/\y=.int i/\aP K H p xs/\yH xs i=some v/\Q v H
def QQ:R2:=λx y H Q=>∃z i c,x=.str z/\y=.int i/\z.length<=sizeLine/\yH z.cps.toList i=some c/\Q (.str ⟨#[c]⟩) H
def JG:Ov X (nF X.K):=by
 intro c e a s σ H x y v u Q I C F h n;obtain⟨p,G,i,z,rfl,rfl,hq,he,q⟩:=h
 cases C
 obtain⟨t,rfl⟩:=F;obtain⟨f,r,g,J⟩:=I.list hq;obtain⟨j,h1,o,L,E,D⟩:=tL he;obtain⟨w,m,d⟩:=r.get o;have A:=r.length;have hn:=lQ;have b:EP X a σ Q w s:=⟨z,H,I,d,q⟩
 by_cases l:0<=i
 ·have hj:i.toNat=j:=by
   rw[seqIndex_of l D]at h1;exact qa h1
  exact item_listR g.isList l (by omega) (by rw[hj];simpa using m) b n
 ·have hj:(i+(f.toArray.size:Int)).toNat=j:=by
   rw[seqIndex_neg (by omega) E]at h1
   rw[gd,<-A];exact qa h1
  exact subscriptTail_builtinR (x:=w) g.isList.typeIs slot_list_getitem.lookup
   (wpAny_getItem_list_neg (Q:=λr B=>r=w/\EP X a σ Q r B) g.isList (by omega) (by rw[gd]<;>omega) (by omega) (by rw[hj];simpa using m) ⟨rfl,b⟩) n
def Ow:Ov X (Ct X.K):=by
 intro b e a s σ H x y v u Q I n C h A;obtain⟨p,D,i,z,rfl,rfl,hq,he,q⟩:=h
 cases n
 obtain⟨t,rfl⟩:=C;obtain⟨B,r,f,E⟩:=I.tuple hq;obtain⟨j,h1,g,F,J,G⟩:=tL he;obtain⟨w,o,d⟩:=r.get g;have l:=r.length;have hn:=lQ;have c:EP X a σ Q w s:=⟨z,H,I,d,q⟩;exact subscriptTail_builtinR (x:=w) f.typeIs slot_tuple_getitem.lookup
  (getItem_tuple (j:=j) (Q:=λr m=>r=w/\EP X a σ Q r m) f (by omega) (by omega) (by rw[gd,<-l];exact h1) (by simpa using o) ⟨rfl,c⟩) A
def jY:Ov X QQ:=by
 intro b a d s σ H x y v u Q I l r h n;obtain⟨z,i,c,rfl,rfl,A,he,q⟩:=h;obtain⟨t,rfl⟩:=l;obtain⟨w,rfl⟩:=r;obtain⟨j,h1,f,B,p,o⟩:=tL he;have g:z.cps.toList.length=z.length:=by simp[Str.length]
 rw[g]at h1 p o;have hn:=lQ;exact tail_any (typeIs_str s z t) slot_str_getitem.lookup (getItem_str (c:=c) (by
  have m:decide (i < -(2 ^ 63:Int))=false:=cv (by omega)
  have e:decide (i ≥ 2 ^ 63)=false:=cv (by omega)
  rw[m,e,Bool.or_false]) (by rw[h1];simpa using f) ⟨.str ⟨#[c]⟩,H,I.tok _,⟨_,rfl⟩,q⟩) n
def yI(its:f')(n j:Nat)(u:Value):Obj.mapSeq (·.setIfInBounds j u) {cls:=.type "list",data:=.seq its.toArray n}={cls:=.type "list",data:=.seq (its.set j u).toArray n}:=by
 simp[Obj.mapSeq]
theorem Inv.lst{w_:aO0}{σ:St}{H:Hp}{s:Shared}{p:Addr}{xs:u_}(I:Inv X w_ σ H s)(h:H p=some (.lst xs)):
  ∃(its:f') (n:Nat),Vals xs its/\s.heap.get? p=some {cls:=.type "list",data:=.seq its.toArray n}/\xs.length<=sizeLine:=by
 obtain⟨z,its,n,r,e⟩:=I.bf p _ h;exact⟨its,n,r,e,z⟩
variable{its its':f'}
def Inv.Ox{w_:aO0}{σ:St}{H:Hp}{s:Shared}{p:Addr}{xs ys:u_}{n n':Nat}{f:Obj->Obj}(I:Inv X w_ σ H s)(h:H p=some (.lst xs))
  (ho:s.heap.get? p=some {cls:=.type "list",data:=.seq its.toArray n}) (hf:f {cls:=.type "list",data:=.seq its.toArray n}={cls:=.type "list",data:=.seq its'.toArray n'}) (r:Vals ys its') (hz:ys.length<=sizeLine) (t:Nat):
  Inv X w_ σ (upd H p<|.lst ys) {s with heap:=s.heap.update p f,toks:=t}:=by
 have e:(s.heap.update p f).get? p=some {cls:=.type "list",data:=.seq its'.toArray n'}:=by
  rw[get?_update_self f ho (by rw[hf]<;>rfl),hf]
 refine I.write (x:=p) (e:=p) (by rw[h];trivial) (.inl rfl) (λb u hb q=>(Pi _ _<|Ne.symm hb).trans q) ⟨_,e⟩ ?_
 exact⟨hz,its',n',r,e⟩
def QR:V->V->V->Hp->(r_)->Prop:=λo i v H Q=>∃p xs k j,o=.ref p/\i=.int k/\H p=some (.lst xs)/\EJ xs.length k=some j/\Q (upd H p<|.lst<|xs.set j v)
def set_list:N4 X QR:=by
 intro a s σ H o i v D B u Q I w A y h;obtain⟨p,x,k,j,rfl,rfl,e,hj,q⟩:=h
 cases w
 obtain⟨t,rfl⟩:=A;obtain⟨b,n,r,d,z⟩:=I.lst e;obtain⟨h1,C,l,m⟩:=A9 hj;have c:=r.length;have hn:=lQ;have g:Inv X a σ (upd H p<|.lst<|x.set j v) {s with heap:=s.heap.update p (Obj.mapSeq (·.setIfInBounds j u))}:=
  I.Ox e d (yI b n j u) (r.set y j) (by rw[length_set];exact z) s.toks
 by_cases f:0<=k
 ·have hk:k.toNat=j:=by
   rw[seqIndex_of f m]at h1;exact qa h1
  exact PySem.W.ki_setAt d f (by omega) (by rw[gd,<-c];exact m) (by rw[hk];exact⟨_,g,q⟩)
 ·have hk:(k+(b.toArray.size:Int)).toNat=j:=by
   rw[seqIndex_neg (by omega) l]at h1
   rw[gd,<-c];exact qa h1
  exact PySem.W.ki_setBack d (by omega) (by rw[gd,<-c];exact l) (by omega) (by rw[hk];exact⟨_,g,q⟩)
def tM(lo hi:j_)(n:Nat):(sliceBounds lo hi none n).1=((HT.eE n 0 lo:Nat):Int)/\(sliceBounds lo hi none n).2.1=((HT.eE n n hi:Nat):Int)/\(sliceBounds lo hi none n).2.2=1:=by
 refine⟨?_,?_,rfl⟩
 ·cases lo with
  |none=>simp[sliceBounds,HT.eE]
  |some i=>
   simp only[sliceBounds,HT.eE,getD_none,show(1:Int)>0 by decide,if_true]
   by_cases h:i<0
   ·simp only[h,if_true]<;>omega
   ·simp only[h,if_false]<;>omega
 ·cases hi with
  |none=>simp[sliceBounds,HT.eE]
  |some i=>
   simp only[sliceBounds,HT.eE,getD_none,show(1:Int)>0 by decide,if_true]
   by_cases h:i<0
   ·simp only[h,if_true]<;>omega
   ·simp only[h,if_false]<;>omega
def qy(its:f')(lo hi:j_):slicePick its.toArray lo hi none=((its.drop<|HT.eE its.length 0 lo).take<|HT.eE its.length its.length hi-HT.eE its.length 0 lo).toArray:=by
 obtain⟨h1,a,b⟩:=tM lo hi its.toArray.size;unfold slicePick;rw[h1,a,b];simp only[sliceRange_one,pick_run,List.size_toArray]<;>rfl
def yJ(K:Frag):V->j_->j_->Hp->VK->Prop:=λx b hi H Q=>∃a xs,x=.ref a/\ay K H a xs/\∀p,H p=none->Q (.ref p) (upd H p<|.lst<|jy xs b hi)
def JH:Ot X (yJ X.K):=by
 intro f s σ H x v u w e hi t Q I i m p j h;obtain⟨a,c,rfl,hx,q⟩:=h
 cases i
 obtain⟨n,r,g,l⟩:=I.list hx;have d:=r.length;refine⟨"list",_,slot_list_getitem.lookup,g.isList.typeIs,?_⟩;refine wpAny_getItem_list_slice g.isList m p j .none (by simp) ?_ (by rw[gd]<;>omega)
 rw[qy,<-d];refine⟨.ref s.heap.objs.size,_,I.laid (t':=s.toks) (o:=.lst<|jy c e hi) (λb ob q=>ef _ q) (ey _) ?_,rfl,q _<|I.bf.fresh<|ey _⟩;exact⟨hU (mW c e hi) l,_,0,(r.drop<|HT.eE c.length 0 e).take<|HT.eE c.length c.length hi-HT.eE c.length 0 e,h9 _ rfl⟩
noncomputable def mY:V->Bool
 |.bA=>true
 |.bl _=>true
 |.int _=>true
 |.str _=>true
 |_=>false
noncomputable def Ed:V->V->Bool
 |.bA,.bA=>true
 |.bl a,.bl b=>a==b
 |.bl a,.int b=>(if a then 1 else 0)==b
 |.int a,.bl b=>a==(if b then 1 else 0)
 |.int a,.int b=>a==b
 |.str a,.str b=>a==b
 |_,_=>false
variable{x:V}
def Oy{A:Around}{s:Shared}{y:V}{u v:Value}(ry:RelV y u)(rx:RelV x v)(fy:mY y=true)(fx:mY x=true):EqAt A s u v (Ed y x):=by
 cases y with
 |bA=>
  cases ry
  cases x with
  |bA=>cases rx;exact SeqAt.EqAt.same _
  |bl b=>cases rx;exact SeqAt.EqAt.none_bool b
  |int b=>obtain⟨t,rfl⟩:=rx;exact SeqAt.EqAt.none_int b t
  |str b=>obtain⟨t,rfl⟩:=rx;exact SeqAt.EqAt.none_str b t
  |_=>exact absurd (show false=true from fx) o6
 |bl a=>
  cases ry
  cases x with
  |bA=>cases rx;exact SeqAt.EqAt.bool_none a
  |bl b=>cases rx;exact SeqAt.EqAt.bool_bool a b
  |int b=>obtain⟨t,rfl⟩:=rx;exact SeqAt.EqAt.bool_int a b t
  |str b=>obtain⟨t,rfl⟩:=rx;exact SeqAt.EqAt.bool_str a b t
  |_=>exact absurd (show false=true from fx) o6
 |int a=>
  obtain⟨c,rfl⟩:=ry
  cases x with
  |bA=>cases rx;exact SeqAt.EqAt.int_none a c
  |bl b=>cases rx;exact SeqAt.EqAt.int_bool a c b
  |int b=>obtain⟨t,rfl⟩:=rx;exact SeqAt.EqAt.int_int a c b t
  |str b=>obtain⟨t,rfl⟩:=rx;exact SeqAt.EqAt.int_str a c b t
  |_=>exact absurd (show false=true from fx) o6
 |str a=>
  obtain⟨c,rfl⟩:=ry
  cases x with
  |bA=>cases rx;exact SeqAt.EqAt.str_none a c
  |bl b=>cases rx;exact SeqAt.EqAt.str_bool a c b
  |int b=>obtain⟨t,rfl⟩:=rx;exact SeqAt.EqAt.str_int a c b t
  |str b=>obtain⟨t,rfl⟩:=rx;exact SeqAt.EqAt.str_str a c b t
  |_=>exact absurd (show false=true from fx) o6
 |_=>exact absurd (show false=true from fy) o6
noncomputable def yK(x:V)(u:Value):Bool:=match u with
 |.none=>Ed .bA x
 |.bool b=>Ed (.bl b) x
 |.int i _=>Ed (.int i) x
 |.str z _=>Ed (.str z) x
 |_=>false
def EL{y:V}{u:Value}(r:RelV y u)(f:mY y=true):yK x u=Ed y x:=by
 cases y with
 |bA=>cases r;rfl
 |bl b=>cases r;rfl
 |int i=>obtain⟨t,rfl⟩:=r;rfl
 |str z=>obtain⟨t,rfl⟩:=r;rfl
 |_=>exact absurd (show false=true from f) o6
theorem kU{x:V}:∀ {xs:u_} {us:f'},Vals xs us->xs.all mY=true->us.any (yK x)=xs.any λy=>Ed y x
 |_,_,.nil,_=>rfl
 |y::xs,u::us,.cons r t,f=>by
  rw[VL,fz]at f;rw[any_cons,any_cons,EL r f.1,kU t f.2]
theorem iI{A:Around}{s:Shared}{x:V}{v:Value}(rx:RelV x v)(fx:mY x=true):∀ {xs:u_} {us:f'},Vals xs us->xs.all mY=true->∀u∈us,EqAt A s u v<|yK x u
 |_,_,.nil,_=>λu hu=>by cases hu
 |y::xs,u::us,.cons r t,f=>λa hu=>by
  rw[VL,fz]at f
  rcases gz.mp hu with rfl|hu
  ·rw[EL r f.1];exact Oy r rx f.1 fx
  ·exact iI rx fx t f.2 a hu
noncomputable def Md(x:V)(xs:u_):Bool:=xs.any λy=>Ed y x
def Qo(K:Frag)(neg:Bool):R2:=λx y H Q=>∃p xs,y=.ref p/\(ay K H p xs∨aP K H p xs)/\mY x=true/\xs.all mY=true/\Q (.bl<|if neg then !Md x xs else Md x xs) H
def Cu:dU X (compareOp .In) (Qo X.K false):=by
 intro e s σ H x y v u Q I f i h;obtain⟨p,j,rfl,hq,d,fs,q⟩:=h
 cases i
 rcases hq with hq|hq
 ·obtain⟨a,r,c,g⟩:=I.list hq;refine SeqAt.in_listAt (yK x) c.isList (λw b=>iI f d r fs w (by simpa using b)) ⟨.bl _,H,I,rfl,?_⟩
  rw[show a.toArray.any (yK x)=a.any (yK x) by simp,kU r fs]
  exact q
 ·obtain⟨a,r,c,g⟩:=I.tuple hq;refine SeqAt.in_tupleAt (yK x) c (λw b=>iI f d r fs w (by simpa using b)) ⟨.bl _,H,I,rfl,?_⟩
  rw[show a.toArray.any (yK x)=a.any (yK x) by simp,kU r fs]
  exact q
def tN:dU X (compareOp .NotIn) (Qo X.K true):=by
 intro e s σ H x y v u Q I f i h;obtain⟨p,j,rfl,hq,d,fs,q⟩:=h
 cases i
 rcases hq with hq|hq
 ·obtain⟨a,r,c,g⟩:=I.list hq;refine SeqAt.notIn_listAt (yK x) c.isList (λw b=>iI f d r fs w (by simpa using b)) ⟨.bl _,H,I,rfl,?_⟩
  rw[show a.toArray.any (yK x)=a.any (yK x) by simp,kU r fs]
  exact q
 ·obtain⟨a,r,c,g⟩:=I.tuple hq;refine SeqAt.notIn_tupleAt (yK x) c (λw b=>iI f d r fs w (by simpa using b)) ⟨.bl _,H,I,rfl,?_⟩
  rw[show a.toArray.any (yK x)=a.any (yK x) by simp,kU r fs]
  exact q
def tO:dU X (compareOp .NotIn) (λx y H Q=>∃i j,x=.str i/\y=.str j/\Q (.bl<|!(!(Builtin.Str.occurrences j i 0 j.length 1).isEmpty)) H):=by
 intro a s σ H x y v u Q I b c h;obtain⟨i,j,rfl,rfl,q⟩:=h;obtain⟨t,rfl⟩:=b;obtain⟨d,rfl⟩:=c;exact notIn_str ⟨.bl _,H,I,rfl,q⟩
def tP:bJ X (.builtin "len") (λxs H Q=>∃p ys,xs=[.ref p]/\(ay X.K H p ys∨aP X.K H p ys)/\Q (.int ys.length) H):=by
 intro e s σ H xs i Q I r h;obtain⟨p,ys,rfl,hq,q⟩:=h;obtain⟨u,rfl,f⟩:=vals1 r
 cases f
 have hn:=lQ
 rcases hq with hq|hq
 ·obtain⟨b,c,d,g⟩:=I.list hq;have a:=c.length;exact Calls.call_len_list d.isList (by simp only[List.size_toArray]<;>omega) ⟨.int ys.length,H,I.tok _,⟨s.toks+1,by rw[gd,a]⟩,q⟩
 ·obtain⟨b,c,d,g⟩:=I.tuple hq;have a:=c.length;exact len_tuple d (by simp only[List.size_toArray]<;>omega) ⟨.int ys.length,H,I.tok _,⟨s.toks+1,by rw[gd,a]⟩,q⟩
def cI:bJ X (.builtin "len") (λxs H Q=>∃z,xs=[.str z]/\z.length<=sizeLine/\Q (.int z.length) H):=by
 intro a s σ H xs b Q I r h;obtain⟨z,rfl,c,q⟩:=h;obtain⟨u,rfl,t,rfl⟩:=vals1 r;have hn:=lQ;exact len_str (by omega) ⟨.int z.length,H,I.tok _,⟨_,rfl⟩,q⟩
def tQ:bJ X (.type "list") (λxs H Q=>∃p ys,xs=[.ref p]/\(ay X.K H p ys∨aP X.K H p ys)/\∀l,H l=none->Q (.ref l) (upd H l<|.lst ys)):=by
 intro j s σ H xs A Q I r h;obtain⟨p,ys,rfl,hq,q⟩:=h;obtain⟨u,rfl,z⟩:=vals1 r
 cases z
 have m:∀(a:f'),Vals ys a->ys.length<=sizeLine->∀(c:Heap) (d:Nat),(∀b o',s.heap.get? b=some o'->c.get? b=some o')->
   c.get? s.heap.objs.size=some {cls:=.type "list",dict:=none,data:=.seq a.toArray d,slots:=#[]}->EP X j σ Q (.ref s.heap.objs.size) {s with heap:=c}:=λa f t c d g e=>
  ⟨.ref s.heap.objs.size,_,I.laid (t':=s.toks) g (ey _)<|show bB X.prog X.w _ c _ (.lst ys)from⟨t,a,d,f,e⟩,rfl,q _<|I.bf.fresh<|ey _⟩
 rcases hq with hq|hq
 ·obtain⟨a,f,y,t⟩:=I.list hq;have i:=f.length;obtain⟨o,x,hc,n,v⟩:=y.isList;exact call_list_seq p (.inl rfl) x hc v (λc d g e=>m a f t c d g e) (by simp only[List.size_toArray]<;>omega)
 ·obtain⟨a,f,y,t⟩:=I.tuple hq;have i:=f.length;obtain⟨o,x,hc,n,v⟩:=y;exact call_list_seq p (.inr rfl) x hc v (λc d g e=>m a f t c d g e) (by simp only[List.size_toArray]<;>omega)
def qz:bJ X (.type "tuple") (λxs H Q=>∃p ys,xs=[.ref p]/\((ay X.K H p ys/\∀l,H l=none->Q (.ref l) (upd H l<|.tup ys))∨(aP X.K H p ys/\Q (.ref p) H))):=by
 intro a s σ H xs x Q I r h;obtain⟨p,ys,rfl,h⟩:=h;obtain⟨u,rfl,t⟩:=vals1 r
 cases t
 rcases h with ⟨hq,q⟩|⟨hq,q⟩
 ·obtain⟨c,f,g,m⟩:=I.list hq;have i:=f.length;refine call_tuple_list g.isList (λd n=>?_) (by simp only[List.size_toArray]<;>omega)
  have j:Inv X a σ H {s with heap:=d}:=I.kept (t':=s.toks) n;have v:Inv X a σ (upd H d.objs.size<|.tup ys) {s with heap:=d.push {cls:=.type "tuple",data:=.seq c.toArray}}:=
   j.laid (t':=s.toks) (λb o e=>ef _ e) (ey _) (show bB X.prog X.w _ _ _ (.tup ys)from⟨m,c,f,IsTup.new _ _⟩)
  exact⟨.ref d.objs.size,_,v,rfl,q _<|j.bf.fresh<|ey _⟩
 ·obtain⟨c,f,g,m⟩:=I.tuple hq;exact call_tuple_same g ⟨.ref p,H,I,rfl,q⟩
def QU(K:Frag)(T:String)(x:V)(H:Hp):Prop:=match x with
 |.str _=>T="str"
 |.int _=>T="int"
 |.ref p=>(T="list"/\∃xs,ay K H p xs)∨(T="tuple"/\∃o,K.lookup p=some o/\o.cls=.type "tuple"/\o.dict=none)∨
   (T="dict"/\((∃C_,H p=some (.dK C_))∨∃C_,H p=some (.dT C_)))∨(T="set"/\∃S n,H p=some (.set S n))
 |_=>False
def EM{w_:aO0}{σ:St}{H:Hp}{s:Shared}{T:String}{v:Value}(I:Inv X w_ σ H s)(r:RelV x v)(ty:QU X.K T x H):
  s.TypeIs v T/\∀a,v=.ref a->∃ob,s.heap.get? a=some ob/\ob.dict=none:=by
 cases x with
 |str z=>
  obtain⟨t,rfl⟩:=r
  cases(show T="str" from ty)
  exact⟨typeIs_str s z t,λ_ e=>nomatch e⟩
 |int i=>
  obtain⟨t,rfl⟩:=r
  cases(show T="int" from ty)
  exact⟨typeIs_int s i t,λ_ e=>nomatch e⟩
 |ref p=>
  cases r
  rcases ty with ⟨rfl,l,hq⟩|⟨rfl,o,hk,hc,g⟩|⟨rfl,hk⟩|⟨rfl,S,n,hk⟩
  ·obtain⟨j,_,h,_⟩:=I.list hq;refine⟨h.isList.typeIs,λa e=>?_⟩
   cases e
   obtain⟨o,n,e,c,g,_⟩:=h;exact⟨o,e,g⟩
  ·refine⟨⟨o,I.jw p o hk,hc⟩,λa e=>?_⟩
   cases e
   exact⟨o,I.jw _ o hk,g⟩
  ·have z:∃o,s.heap.get? p=some o/\o.ExactDict:=by
    rcases hk with ⟨f,hk⟩|⟨f,hk⟩
    ·obtain⟨_,_,_,_,o,_,_,e,b,_⟩:=I.bf p _ hk;exact⟨o,e,b⟩
    ·obtain⟨_,_,_,_,o,_,_,e,b,_⟩:=I.bf p _ hk;exact⟨o,e,b⟩
   obtain⟨o,e,b⟩:=z;refine⟨⟨o,e,b.1⟩,λa d=>?_⟩
   cases d
   exact⟨o,e,b.2.1⟩
  ·obtain⟨o,_,_,_,e,b,_⟩:=I.bf p _ hk;refine⟨⟨o,e,b.1⟩,λa d=>?_⟩
   cases d
   exact⟨o,e,b.2.1⟩
 |_=>exact False.elim ty
def JI(K:Frag)(T:String)(r:V->u_->Hp->VK->Prop)(to:TE):TE:=λσ H Q=>to σ H λx H1=>QU K T x H1/\r x [] H1 Q
def QV(K:Frag)(T:String)(r:V->u_->Hp->VK->Prop)(to:TE)(t:TA):TE:=λσ H Q=>to σ H λx H1=>QU K T x H1/\t σ H1 λb a=>r x b a Q
variable{o:Expr}{to:TE}{name:Str}{A' bR:Pos}{T id:String}{r:V->u_->Hp->VK->Prop}
def Oz(pa:PlainAttrs T)(slot:Slot T name id)(hty:typeOf (.builtin id)=pure (.type "method_descriptor"))(hm:yo X id r)(ho:PE X o to)
  (eP:attributeBase o name X.env (eval o X.env)=eval o X.env:=by rfl) (b6:(A'.endLine==bR.line)=true:=by rfl):PE X (.Call (.Attribute o name A') [] [] bR) (JI X.K T r to):=by
 intro a s σ H Q I h;refine wpAny_Call_method0_late eP b6<|bN (ho a s σ H _ I h) λv f ⟨x,H1,c,b,ty,e⟩=>?_;obtain⟨h1,d⟩:=EM c b ty;exact⟨T,id,pa,slot,hty,h1,d,Calls.callWith_builtin rfl<|PySem.evalArgs_none<|hm a f σ H1 x [] v [] Q c b .nil e⟩
variable{es:i_}{t:TA}
def QX(pa:PlainAttrs T)(slot:Slot T name id)(hty:typeOf (.builtin id)=pure (.type "method_descriptor"))(hm:yo X id r)(ho:PE X o to)(ha:PA X (e::es) t)
  (eP:attributeBase o name X.env (eval o X.env)=eval o X.env:=by rfl)
  (hfew:((backTo bR<|starEach (e::es) X.env).all (λx=>!x.1)&&(backToKw bR<|keywordEach [] X.env).all (λx=>x.1.isSome)
   &&decide ((e::es).length+([]:List Keyword).length+(if([]:List Keyword).isEmpty then 0 else 1)<30))=true:=by rfl)
  (b6:(A'.endLine==bR.line)=true:=by rfl) (hs:starEach (e::es) X.env=(false,eval e X.env)::starEach es X.env:=by rfl) (hplain:(backTo bR<|starEach es X.env).any (·.1)=false:=by rfl):
  PE X (.Call (.Attribute o name A') (e::es) [] bR) (QV X.K T r to t):=by
 intro a s σ H Q I h;refine wpAny_Call_method_late eP hfew b6 rfl<|bN (ho a s σ H _ I h) λv u ⟨x,H1,d,c,ty,j⟩=>?_;obtain⟨h1,g⟩:=EM d c ty;refine⟨T,id,pa,slot,hty,h1,g,?_⟩;have b:=ha bR a u σ H1 _ d j;rw[hs]at b ⊢;refine Calls.callWith_builtin (by show(false||(backTo bR<|starEach es X.env).any (·.1))=false;rw[hplain]<;>rfl)<|Calls.evalArgs_plain ?_
 exact bN b λl f ⟨m,i,p,q,n⟩=>hm a f σ i x m v l Q p c q n
def UK(X:Cx)(id:String)(r:V->u_->Hp->VK->Prop):Prop:=
 ∀(w_:aO0) (s:Shared) (σ:St) (H:Hp) (x:V) (xs:u_) (v:Value) (us:f') (Q:VK),Inv X w_ σ H s->RelV x v->Vals xs us->r x xs H Q->
  wpAny (model X.prog X.w) X.A (call (.builtin id) (v::us)) (EP X w_ σ Q) X.xe s
def Vals.one:∀ {x:V} {us:f'},Vals [x] us->∃u,us=[u]/\RelV x u
 |_,_,.cons r .nil=>⟨_,rfl,r⟩
def Vals.two{y:V}{us:f'}(h:Vals [x,y] us):∃u v,us=[u,v]/\RelV x u/\RelV y v:=by
 cases h with
 |cons r h=>
  obtain⟨v,rfl,q⟩:=Vals.one h;exact⟨_,_,rfl,r,q⟩
theorem Vals.rep{xs:u_}{us:f'}(h:Vals xs us):∀k:Nat,Vals (List.replicate k xs).flatten (List.replicate k us).flatten
 |0=>.nil
 |k+1=>by
  rw[Fk,Fk,flatten_cons,flatten_cons];exact Vals.append h<|Vals.rep h k
theorem foldl_rep(its:f'):∀(k:Nat) (B_:f'),
  List.foldl (λx1 x2=>x1++x2) B_.toArray (List.replicate k its.toArray)=(B_++(List.replicate k its).flatten).toArray
 |0,B_=>by simp
 |k+1,B_=>by
  have e:B_.toArray++its.toArray=(B_++its).toArray:=by simp
  have a:(B_++its)++(List.replicate k its).flatten=B_++(List.replicate (k+1) its).flatten:=by
   rw[Fk,flatten_cons,A4]
  rw[<-a,<-foldl_rep its k (B_++its),<-e,Fk,foldl_cons]
variable{w_:aO0}{H:Hp}{s:Shared}{l:Addr}{xs ys:u_}{σ:St}
def Inv.QY{n:Nat}{f:k_->k_}{t':Nat}(I:Inv X w_ σ H s)(hH:H l=some (.lst xs))
  (e:s.heap.get? l=some {cls:=.type "list",data:=.seq its.toArray n}) (hf:f its.toArray=its'.toArray) (hv:Vals ys its') (hz:ys.length<=sizeLine):
  Inv X w_ σ (upd H l<|.lst ys) {s with heap:=s.heap.update l<|Obj.mapSeq f,toks:=t'}:=by
 have q:=PySem.IsL.update e f;rw[hf]at q;refine I.write (x:=l) (e:=l) (by rw[hH];exact trivial) (.inl rfl) (λa u hb hu=>(Pi s.heap (Obj.mapSeq f)<|Ne.symm hb).trans hu) ⟨_,q⟩ ?_
 exact⟨hz,its',_,hv,q⟩
def Inv.OA{t':Nat}(I:Inv X w_ σ H s)(hv:Vals ys its)(hz:ys.length<=sizeLine):
  Inv X w_ σ (upd H s.heap.objs.size<|.lst ys) {s with heap:=s.heap.push {cls:=.type "list",data:=.seq its.toArray},toks:=t'}:=
 I.laid (λ_ _ q=>ef _ q) (ey _) ⟨hz,its,0,hv,h9 _ rfl⟩
theorem Inv.fresh(I:Inv X w_ σ H s):H s.heap.objs.size=none:=I.bf.fresh<|ey _
def Inv.OB(I:Inv X w_ σ H s)(hH:H l=some (.lst xs)):xs.length<=sizeLine/\∃(its:f') (n:Nat),Vals xs its/\xs.length=its.length/\s.heap.get? l=some {cls:=.type "list",data:=.seq its.toArray n}:=by
 obtain⟨z,its,n,r,e⟩:=I.bf l _ hH;exact⟨z,its,n,r,r.length,e⟩
def EN{n:Nat}(h:n<=sizeLine):Builtin.List.listTooLong n=false:=by
 unfold Builtin.List.listTooLong;exact cv (by omega)
def JJ:V->u_->Hp->VK->Prop:=λx a H Q=>∃l xs y,x=.ref l/\a=[y]/\H l=some (.lst xs)/\xs.length<sizeLine/\Q .bA (upd H l<|.lst<|xs++[y])
def bH:UK X "list.append" JJ:=by
 intro b s σ H x o v m Q I f d h;obtain⟨l,i,y,rfl,rfl,c,p,q⟩:=h
 cases f
 obtain⟨u,rfl,g⟩:=d.one;obtain⟨z,a,n,r,j,e⟩:=I.OB c;refine KM oD ⟨_,e,rfl⟩ F.entry_list_append (F.args_list_append_2 _ _) (PySem.list_append l a.toArray n u (by rw[gd];omega)) ⟨e,?_⟩
 refine⟨.bA,_,I.QY (its':=a++[u]) c e (by simp) (r.append<|.cons g .nil) ?_,rfl,q⟩
 rw[eR,List.length_singleton]
 omega
def T7:R2:=λx y H Q=>∃l k xs,x=.ref l/\y=.int k/\H l=some (.lst xs)/\-(2 ^ 63)<=k/\k<2 ^ 63/\xs.length*k.toNat<=sizeLine/\
 ∀p,H p=none->Q (.ref p) (upd H p<|.lst (List.replicate k.toNat xs).flatten)
def len_rep{α:Type}(xs:List α)(k:Nat):(List.replicate k xs).flatten.length=k*xs.length:=by
 induction k with
 |zero=>simp
 |succ k a=>rw[Fk,flatten_cons,eR,a,Nat.succ_mul,Nat.add_comm]
def OC:dU X (binaryOp .Mult) T7:=by
 intro p s σ H x y v u Q I G J h;obtain⟨l,k,L,rfl,rfl,C,h1,A,w,q⟩:=h
 cases G
 obtain⟨t,rfl⟩:=J;obtain⟨z,b,n,r,B,e⟩:=I.OB C;have g:b.toArray.size*k.toNat<=sizeLine:=by rw[gd,<-B];exact w
 have i:¬b.toArray.size*k.toNat>(2 ^ 63-1) / 8:=by
  have:(sizeLine:Nat)<=(2 ^ 63-1) / 8:=by decide
  omega
 have d:¬(!Builtin.List.listFitsIndex k)=true:=by
  rw[fitsIndex_both h1 A];exact o6
 have c:¬Builtin.List.listTooLong (b.toArray.size*k.toNat)=true:=by
  rw[EN g];exact o6
 have f:List.foldl (λj o=>j++o) #[] (List.replicate (if b.toArray.isEmpty=true then 0 else k.toNat) b.toArray)=(List.replicate k.toNat b).flatten.toArray:=by
  have D:∀m:Nat,List.foldl (λj o=>j++o) #[] (List.replicate m b.toArray)=(List.replicate m b).flatten.toArray:=λm=>by
   have:=foldl_rep b m []
   rw[nil_append]at this;exact this
  rw[D]
  cases b with
  |nil=>simp
  |cons a K=>rw[if_neg (by simp)]
 refine wpAny_binaryOp_repeat_ref (T:="list") (U:="int") a_ ⟨_,e,rfl⟩ (λE=>typeIs_int E k t) noFill_list_mul F.fills_int_mul F.slot_int_rmul repeat_list F.slot_int_index.lookup
  (KM F.slot_int_rmul (typeIs_int s k t) F.entry_int_rmul (F.args_int_rmul_2 _ _) (int___rmul___int_list k t l b.toArray n)
   ⟨e,rfl,⟨_,e,rfl⟩,KM F.slot_list_mul ⟨_,e,rfl⟩ F.entry_list_mul (F.args_list_mul_2 _ _) (AutoListH.list___mul___list_int_3 l b.toArray n k t d i c) ⟨e,?_⟩⟩)
 rw[f];exact⟨.ref _,_,I.OA (t':=s.toks) (r.rep k.toNat) (by rw[len_rep,Nat.mul_comm];exact w),rfl,q _ I.fresh⟩
end L2
namespace Att
open PySem PySem.W PySem.Calls PyProof.Rows
variable{P:Params}
def nG{h:Heap}:∀(ns:e_) (vs:f'),WellAll P h vs (ns.map WData.int)->IntsAre vs ns:=by
 intro ns
 induction ns with
 |nil=>
  intro vs w;rw[map_nil]at w
  cases w
  exact .nil
 |cons n ns c=>
  intro vs w;rw[map_cons]at w
  cases w with
  |cons a b=>
   cases a
   exact .cons _ _<|c _ b
variable{l:OpenLaw}
def Cv{n:Nat}(hn:l.most=some n){h:Heap}{args:List WData}{vals:f'}
  (hpre:l.row.toRowW.claim.pre args=true) (hwl:WellAll P h vals args):
  ∃a vs ns,vals=[Value.ref a]/\args=[WData.list (ns.map WData.int)]/\h.get? a=some {cls:=.type "list",data:=.seq vs.toArray}/\IntsAre vs ns/\ns.length<=n:=by
 have f:WShape.hasAll [] args [.list .int]=true:=(pre_splitW hpre).1;have hc:l.pre.holds [] {args:=args}=true:=(pre_splitW hpre).2;obtain⟨d,r,rfl,h1,j⟩:=hasAllW_cons f;obtain rfl:=hasAllW_nil j;obtain⟨t,rfl,p⟩:=hasW_list h1;obtain⟨ns,rfl⟩:=items_int p;have b:ns.length<=n:=by
  unfold OpenLaw.pre at hc;have e:(WTm.not<|.lt (.lit<|.int (n:Int))<|.len<|.arg 0).holds [] {args:=[.list (ns.map .int)]}=true:=by
   have e:=(holds_andW hc).1;rw[hn]at e;exact e
  have c:=condW_of e<|w_not<|w_lt w_lit<|w_len_list<|w_arg rfl;rw[length_map]at c;refine Nat.le_of_not_lt λq=>?_;have g:(n:Int)<((ns.length:Nat):Int):=by omega
  first
   |(rw[decide_eq_true g]at c;exact absurd c a_)
   |(simp at c;omega)
 cases hwl with
 |cons i m=>
  cases m
  cases i with
  |list s o=>exact⟨_,_,ns,rfl,rfl,s,nG ns _ o,b⟩
def Cw(l:OpenLaw)(args:List WData):l.row.toRowW.claim.post args (.bool true) args=true:=
 postW_of (r:=l.row.toRowW) (X:=(true==true))
  (show WShape.has [] (.bool true) .bool=true by first|rfl|decide|simp[WShape.has,WShape.arms,WShape.armsAll])
  (show(WTm.eq .res<|.lit<|.bool true).value [] {args:=args,res:=some<|.bool true,after:=args}=some (.bool<|true==true)from w_eq_bool (w_res rfl) w_lit) rfl
variable{q:Program}{loose:f_}{YP:World->Heap->Prop}{d:DefRec}
def vP{n:Nat}{XP:(b_)->Heap->Prop} 
  (hn:l.most=some n) (hdf:d.params.defaults=[])
  (call:∀(w:World) (s₀ s₁:Shared) (mg mb:b_) (fa:Addr) (o:Obj) (pm cd doc:Value) (a:Addr) (vs:f') (ns:e_),
   Ground q loose [] XP w s₀ mg mb s₁.heap->YP w s₁.heap->
   s₁.heap.get? fa=some o->o.data=.func (docDef d.name d.params d.body d.scope pm cd doc)->s₁.heap.CodeRec cd d.name->mg d.name=some (.ref fa)->
   s₁.heap.get? a=some {cls:=.type "list",data:=.seq vs.toArray}->IntsAre vs ns->ns.length<=n->s₁.gens=#[]->
   codeAny (model l.prog w) callerA (.call (.ref fa) ⟨[.ref a],[]⟩) (λr s'=>r=.ok (.ret<|.bool true)/\OldK s₁.heap s'.heap/\s'.os=s₁.os/\AllBare s'.gens) s₁):
  WalkO q loose XP YP l.row.toRowW d [] (λf vs=>PySem.call f vs):=by
 intro w s₀ s₁ mg mb G Y fa o pm cd doc A kV D x h p i v m s E c t z j y;obtain rfl:A=.none:=Dflts.none p hdf;obtain rfl:kV=.none:=Dflts.noKw p;obtain⟨a,vs,ns,rfl,rfl,e,b,g⟩:=Cv hn c j;refine enter_call<|codeAny_mono (call w s₀ s₁ mg mb fa o pm cd doc a vs ns G Y D (fd_plain x) h i e b g v) λr s' hq=>?_;obtain⟨rfl,u,B,C⟩:=hq;exact⟨.inl ⟨.bool true,.bool true,[],rfl,λ_=>rfl,.bool true,Cw l _,λ_=>⟨List.Pairwise.nil,λ_ hm=>(nomatch hm)⟩⟩,u,B,C⟩
end Att
namespace L2
open PySem PySem.Spec PyProof.Rows
theorem r6:∀ {vs:f'} {ns:e_},IntsAre vs ns->Vals (ns.map V.int) vs
 |_,_,.nil=>.nil
 |_,_,.cons n t h=>.cons ⟨t,rfl⟩<|r6 h
def OD(H:Hp):Prop:=∀b,H b=none∨∃o xs,H b=some (.iE o<|.lst xs)
variable{a fa:Addr}{P:Program}{x:Str}
def EO{w:World}{K:Frag}{mg mb:b_}{CX:A0}{k:Nat}{fd:FuncData}{sp:Sp}{s₁:Shared}{vs:f'}{ns:e_}
  (KX:K.In s₁.heap) (hns:s₁.heap.Ns mainGlobals mg) (hb:s₁.heap.Ns builtinsNs mb) (hbb:∀x:Str,x≠"__name__"->mb x=bootBuiltins x) (hlim:s₁.heap.NoLimit) (hg:s₁.gens=#[])
  (ha:s₁.heap.get? a=some {cls:=.type "list",data:=.seq vs.toArray}) (hi:IntsAre vs ns) (hl:ns.length<=sizeLine) (hr:ck k callerA)
  (F:∀base:Heap,K.In base->base.Ns mainGlobals mg->eh P w K mg base CX k fa fd [x] sp) (hbind:∀(s:Shared) (u:Value),BindsTo s fd ⟨[u],[]⟩ [(x,u)])
  (hsp:∀H:Hp,OD H->ay K H a (ns.map V.int)->sp [.ref a] H (λv _=>v=.bl true) λ_ _ _=>False)
  (hCX:∀H e s',CX [] H s₁ (λ_ _ _=>False) e s'->False):
  codeAny (model P w) callerA (.call (.ref fa) ⟨[.ref a],[]⟩) (λr s'=>r=.ok (.ret<|.bool true)/\OldK s₁.heap s'.heap/\s'.os=s₁.os/\AllBare s'.gens) s₁:=by
 have I:=r6 hi;have i:=hi.length;have g:∀H:Hp,OD H->ay K H a (ns.map V.int)->iC P w H s₁.heap->(∀b,H b≠none->b=a)->(H a≠none->K.lookup a=none)->
   codeAny (model P w) callerA (.call (.ref fa) ⟨[.ref a],[]⟩) (λr s'=>r=.ok (.ret<|.bool true)/\OldK s₁.heap s'.heap/\s'.os=s₁.os/\AllBare s'.gens) s₁:=by
  intro H J N G E W;have c:∀ {b:Addr} {o:Obj},s₁.heap.get? b=some o->H b=none->(tw s₁.heap H).get? b=some o:=λe n=>Ek e n;have C:∀ {b:Addr} {o:Obj} {A:Array DictEntry} {l:Nat},s₁.heap.get? b=some o->o.data=.dict A l->H b=none:=λ{b o A l} e d=>by
   cases q:H b with
   |none=>rfl
   |some u=>
    have B:b=a:=E b (by rw[q];simp)
    subst B;rw[ha]at e;cases e
    have S:Data.seq vs.toArray _=Data.dict A l:=d
    cases S
  have f:∀ {b:Addr} {m:b_},s₁.heap.Ns b m->(tw s₁.heap H).Ns b m:=λ{b m} ⟨o,A,l,e,d,r⟩=>⟨o,A,l,c e<|C e d,d,r⟩;have j:K.In (tw s₁.heap H):=λb o e=>c (KX b o e) (by
   cases q:H b with
   |none=>rfl
   |some u=>
    have B:b=a:=E b (by rw[q];simp)
    subst B;rw[W (by rw[q];simp)]at e;cases e)
  have M:Mod K mg (tw s₁.heap H):=⟨j,f hns,⟨mb,f hb,hbb⟩,let ⟨mc,h1,h2⟩:=hlim;⟨mc,f h1,h2⟩⟩;have Q:yD P w K mg (tw s₁.heap H) callerA [] s₁ H:=⟨rfl,M,λb o e=>Jd e,Nat.le_of_eq<|Ce _ _,trivial,λb hb=>absurd (show b∈([]:l_)from hb) (by simp),G,.of_eq hg⟩
  refine codeAny_mono ((F _ j<|f hns).run callerA [] s₁ H ⟨[.ref a],[]⟩ [.ref a] [.ref a] _ _ hr Q (hbind s₁<|.ref a) (.cons rfl .nil)<|hsp H J N) λr s' h=>?_
  cases r with
  |error e=>exact(hCX H e s' h).elim
  |ok U=>
   cases U with
   |next=>exact False.elim h
   |brk=>exact False.elim h
   |cont=>exact False.elim h
   |ret u=>
    obtain⟨v,X,os,y,un,t,R,q⟩:=h;have L:v=.bl true:=q;subst L;obtain rfl:u=Value.bool true:=R;refine⟨rfl,OldK.of_keep λb o e=>?_,os,y⟩
    cases q:H b with
    |none=>exact un.keep b o e q (by intro z;exact absurd (show b∈([]:l_)from z) (by simp)) (by simp)
    |some u=>
     rcases J b with z|⟨ob,Y,z⟩
     ·rw[q]at z;cases z
     ·have O:=un.qh b ob _ z;obtain⟨D,_⟩:=G b _ z;obtain⟨T,_⟩:=t b _ O;rw[e]at D;cases D
      exact T
 cases hk:K.lookup a with
 |some o=>
  have e:=KX a o hk;rw[ha]at e
  cases e
  refine g (λ_=>none) (λ_=>.inl rfl) (.inr ⟨_,vs.toArray,_,hk,rfl,rfl,rfl,by rw[gd,i];exact hl,by simpa using I⟩) (λb u z=>by have p:(none:Option HO)=some u:=z;cases p) (λb z=>absurd rfl z) λz=>absurd rfl z
 |none=>
  refine g (λb=>if b=a then some (.iE {cls:=.type "list",data:=.seq vs.toArray}<|.lst<|ns.map V.int)else none) (λb=>?_) (.inl<|.inr ⟨{cls:=.type "list",data:=.seq vs.toArray},if_pos rfl⟩) (λb u z=>?_) (λb z=>?_) λ_=>hk
  ·by_cases hb:b=a
   ·exact .inr ⟨_,_,if_pos hb⟩
   ·exact .inl<|if_neg hb
  ·by_cases hb:b=a
   ·have p:=(if_pos hb).symm.trans z
    cases p
    subst hb;exact⟨ha,by rw[b5];exact hl,vs,_,I,ha⟩
   ·have p:=(if_neg hb).symm.trans z
    cases p
  ·by_cases hb:b=a
   ·exact hb
   ·exact absurd (if_neg hb) z
def JK{l:PySem.W.OpenLaw}{n k:Nat}{q:Program}{loose:f_}{XP:(b_)->Heap->Prop}{YP:World->Heap->Prop}{d:DefRec}{K:Params->Frag}{CX:World->A0}{sp:World->Sp} 
  (hn:l.most=some n) (hn2:n<=sizeLine) (hdf:d.params.defaults=[]) (hr:ck k callerA)
  (hY:∀(w:World) (h:Heap),YP w h->(K w.params).In h)
  (F:∀(w:World) (mg:b_) (fa:Addr) (h:Heap),(K w.params).In h->h.Ns mainGlobals mg->mg d.name=some (.ref fa)->
   ∃fd:FuncData,(∀(s:Shared) (u:Value),BindsTo s fd ⟨[u],[]⟩ [(x,u)])/\
    ∀base:Heap,(K w.params).In base->base.Ns mainGlobals mg->eh l.prog w (K w.params) mg base (CX w) k fa fd [x] (sp w))
  (hsp:∀(w:World) (H:Hp) (a:Addr) (ns:e_),ns.length<=n->OD H->ay (K w.params) H a (ns.map V.int)->sp w [.ref a] H (λv _=>v=.bl true) λ_ _ _=>False)
  (hCX:∀(w:World) (H:Hp) (s:Shared) (e:Value) (s':Shared),CX w [] H s (λ_ _ _=>False) e s'->False):
  PySem.W.WalkO q loose XP YP l.row.toRowW d [] (λf vs=>PySem.call f vs):=by
 refine Att.vP hn hdf λw E y mg mb fa o I J A a vs ns G Y D L t m j i c C=>?_;have p:=hY w _ Y;obtain⟨fd,hb,r⟩:=F w mg fa _ p G.T.g m;exact EO p G.T.g G.T.b G.T.builtins G.T.nolimit C j i (hU c hn2) hr r hb (λH B z=>hsp w H a ns c B z) λH e s'=>hCX w H y e s'
noncomputable def bw(s:Stmt):Arguments:=match s with
 |.FunctionDef _ a _ _ _ _ _ _ _ _=>a
 |_=>{posonlyargs:=[],args:=[],vararg:=none,kwonlyargs:=[],kw_defaults:=[],kwarg:=none,defaults:=[]}
noncomputable def aS(s:Stmt):n_:=match s with
 |.FunctionDef _ _ b _ _ _ _ _ _ _=>b
 |_=>[]
noncomputable def aj(s:Stmt):Scope:=match s with
 |.FunctionDef _ _ _ _ _ _ sc _ _ _=>sc
 |_=>{kind:=.function,names:=[],isGenerator:=false,isCoroutine:=false}
abbrev Cy:A0:=λ_ _ _ _ _ _=>False
abbrev E0:XK:=λ_ _ _=>False
def Me{X:Cx}:Passes Cy X E0:=λ_ _ _ _ _ _ _ h=>h.elim
structure IS(K:Frag)(x qual:Str)(st:Stmt)(f:Addr)(fd:FuncData):Prop where
 ex:∃(oc:Value) (od:h_) (kV doc pm:Value) (an:h_) (cy ct:Value) (osl:Array (g_)),
  fd=fnOf x qual (bw st) (aS st) (aj st) .none kV doc pm an cy ct/\K.lookup f=some ⟨oc,od,.func fd,osl⟩/\codeIn K cy qual=true
 kp:keepIn K (.ref f)=true
variable{w:World}{K:Frag}{mg:b_}{base:Heap}
def IS.ok{qual:Str}{st:Stmt}{f:Addr}{fd:FuncData}{N ps:f_}{k:Nat}{sp:Sp}(F:IS K x qual st f fd)(S:kR N ps (aj st))(len:∀vs H Q E,sp vs H Q E->vs.length=ps.length)
  (cX:∀(cy:Value) (A:Around) (outer:List Env) (s:Shared) (H:Hp) (vs:u_) (Q:VK) (E:XK),ck k (A.deeper<|envOfC qual (aj st) s.heap.objs.size f cy)->sp vs H Q E->
   ∃t,yn (fP Cy P w K mg base N qual (aj st) f cy A outer s H E).Mc (aS st) t/\t {nx:=λ_ H'=>Q .bA H',rt:=Q} (start N vs) H):eh P w K mg base Cy (k+1) f fd ps sp:=by
 obtain⟨m,i,kV,e,l,j,cy,ct,c,rfl,d,b⟩:=F.ex;refine vO d b S len λA outer s H vs Q E g a=>?_;obtain⟨t,h,q⟩:=cX cy A outer s H vs Q E g a;exact⟨t,h.Mc,q⟩
def IS.binds{qual:Str}{st:Stmt}{f:Addr}{fd:FuncData}{ps:f_}(F:IS K x qual st f fd)
  (h:∀(kV doc pm:Value) (an:h_) (cy ct:Value) (us:f'),us.length=ps.length->bindArgs (fnOf x qual (bw st) (aS st) (aj st) .none kV doc pm an cy ct) ⟨us,[]⟩=pure (ps.zip us)):Binds K fd ps []:=by
 obtain⟨e,d,kV,doc,pm,an,cy,ct,a,rfl,c,b⟩:=F.ex;exact .all<|h kV doc pm an cy ct
def yL{qual:Str}{st:Stmt}{f:Addr}{oc:Value}{od an:h_}{osl:Array (g_)}{kV doc pm cy ct:Value}(l:K.lookup f=some ⟨oc,od,.func<|fnOf x qual (bw st) (aS st) (aj st) .none kV doc pm an cy ct,osl⟩)
  (c:codeIn K cy qual=true) (k:keepIn K (.ref f)=true):IS K x qual st f (fnOf x qual (bw st) (aS st) (aj st) .none kV doc pm an cy ct):=⟨⟨oc,od,kV,doc,pm,an,cy,ct,osl,rfl,l,c⟩,k⟩
def aC{n:Nat}(h:n<=1000):n<sizeLine:=A6 h a_
variable{B:Prop}
def bu{c A:Prop}[Decidable c](h1:c->A)(h2:¬c->B):if c then A else B:=by
 by_cases h:c
 ·rw[if_pos h];exact h1 h
 ·rw[if_neg h];exact h2 h
def ag(H H':Hp):Prop:=∀b o,H b=some o->H' b=some o
def ag.refl(H:Hp):ag H H:=λ_ _ h=>h
variable{H2:Hp}
def ag.trans{H H1:Hp}(a:ag H H1)(b:ag H1 H2):ag H H2:=λc o h=>b c o<|a c o h
def ag.free{H H':Hp}(e:ag H H'){l:Addr}(h:H' l=Option.none):H l=Option.none:=by
 cases q:H l with
 |none=>rfl
 |some o=>
  rw[e l o q]at h
  cases h
def ag.seq{H H':Hp}{xs:u_}(e:ag H H')(h:ay K H a xs):ay K H' a xs:=by
 rcases h with (h|⟨o,h⟩)|h
 ·exact .inl<|.inl<|e _ _ h
 ·exact .inl<|.inr ⟨o,e _ _ h⟩
 ·exact .inr h
variable{κ:Type}[DecidableEq κ]
noncomputable def cJ(C_:List (κ × V))(k:κ):v_:=(C_.find? λkv=>decide<|kv.1=k).map (·.2)
noncomputable def putK(C_:List (κ × V))(k:κ)(v:V):List (κ × V):=
 if(C_.any λkv=>decide<|kv.1=k)=true then C_.map (λkv=>if kv.1=k then(kv.1,v)else kv)else C_++[(k,v)]
def ES{k:κ}:cJ ([]:List (κ × V)) k=none:=rfl
def cM{p:κ × V}{r:List (κ × V)}{k:κ}(e:p.1=k):cJ (p::r) k=some p.2:=by simp[cJ,find?_cons,e]
def cN{p:κ × V}{r:List (κ × V)}{k:κ}(e:¬p.1=k):cJ (p::r) k=cJ r k:=by simp[cJ,find?_cons,e]
theorem iJ(k:κ):∀C_:List (κ × V),(C_.any λkv=>decide<|kv.1=k)=(cJ C_ k).isSome
 | []=>rfl
 |p::r=>by
  rw[any_cons]
  by_cases e:p.1=k
  ·simp only[cM e,decide_eq_true e,Bool.true_or,isSome_some]
  ·rw[cN e,cv e,Bool.false_or];exact iJ k r
theorem vQ(k j:κ)(y:V):∀C_:List (κ × V),cJ (C_.map λkv=>if kv.1=k then(kv.1,y)else kv) j=(cJ C_ j).map λx=>if j=k then y else x
 | []=>rfl
 |p::r=>by
  have a:=vQ k j y r;rw[qb]
  by_cases h:p.1=k
  ·rw[if_pos h]
   by_cases e:p.1=j
   ·rw[cM (p:=(p.1,y)) e,cM e,map_some,if_pos<|e.symm.trans h]
   ·rw[cN (p:=(p.1,y)) e,cN e,a]
  ·rw[if_neg h]
   by_cases e:p.1=j
   ·rw[cM (p:=p) e,cM e,map_some,if_neg λz=>h<|e.trans z]
   ·rw[cN (p:=p) e,cN e,a]
theorem r8(k j:κ)(y:V):∀C_:List (κ × V),cJ C_ k=none->cJ (C_++[(k,y)]) j=if j=k then some y else cJ C_ j
 | [],_=>by
  by_cases e:k=j
  ·rw[if_pos e.symm];exact cM (p:=(k,y)) e
  ·rw[if_neg (λz=>e z.symm)];exact cN (p:=(k,y)) e
 |p::r,hn=>by
  rw[cons_append];have hk:¬p.1=k:=λz=>by rw[cM z]at hn;cases hn
  rw[cN hk]at hn;have a:=r8 k j y r hn
  by_cases e:p.1=j
  ·rw[cM e,cM e,if_neg λz=>hk<|e.trans z]
  ·rw[cN e,cN e,a]
def ET(C_:List (κ × V))(k j:κ)(y:V):cJ (putK C_ k y) j=if j=k then some y else cJ C_ j:=by
 unfold putK
 by_cases a:(C_.any λkv=>decide<|kv.1=k)=true
 ·rw[if_pos a,vQ];rw[iJ]at a
  by_cases e:j=k
  ·obtain⟨x,hx⟩:=Option.isSome_iff_exists.mp a;rw[if_pos e,e,hx,map_some,if_pos rfl]
  ·rw[if_neg e]
   cases cJ C_ j with
   |none=>rfl
   |some x=>rw[map_some,if_neg e]
 ·rw[if_neg a];refine r8 k j y C_ ?_;rw[iJ]at a
  cases q:cJ C_ k with
  |none=>rfl
  |some x=>rw[q]at a;exact(a rfl).elim
def iK(C_:List (κ × V))(k:κ)(v:V):(putK C_ k v).length<=C_.length+1:=by
 unfold putK
 split
 ·rw[b5];omega
 ·rw[eR,kf,length_nil];omega
def EU{C_:List (κ × V)}{k:κ}(v:V)(h:cJ C_ k=none):putK C_ k v=C_++[(k,v)]:=by
 unfold putK;rw[iJ,h];exact if_neg a_
variable{o:v_}
def gR.jn{u:g_}(r:gR o u):o.isSome=u.isSome:=by
 cases o with
 |none=>cases u with
  |none=>rfl
  |some _=>exact(show False from r).elim
 |some _=>cases u with
  |none=>exact(show False from r).elim
  |some _=>rfl
theorem gR.getD{o:v_}{u:g_}{d:V}{d':Value}(r:gR o u)(rd:RelV d d'):RelV (o.getD d) (u.getD d'):=by
 cases o with
 |none=>cases u with
  |none=>exact rd
  |some _=>exact(show False from r).elim
 |some _=>cases u with
  |none=>exact(show False from r).elim
  |some _=>exact r
def KV.val{C_:List (κ × V)}{vs:List (κ × Value)}(r:KV C_ vs)(k:κ):gR (cJ C_ k) (valueAt vs k):=by
 unfold KV at r
 induction r with
 |nil=>exact True.intro
 | @cons p q g c h t d=>
  obtain⟨h1,f⟩:=h
  by_cases e:p.1=k
  ·have a:q.1=k:=h1.symm.trans e;have b:valueAt (q::c) k=some q.2:=by simp[valueAt,find?_cons,a]
   rw[cM e,b];exact f
  ·have a:¬q.1=k:=λz=>e<|h1.trans z;have b:valueAt (q::c) k=valueAt c k:=by simp[valueAt,find?_cons,a]
   rw[cN e,b];exact d
theorem KV.any{C_:List (κ × V)}{vs:List (κ × Value)}(r:KV C_ vs)(k:κ):(C_.any λkv=>decide<|kv.1=k)=vs.any λkv=>decide (kv.1=k):=by
 unfold KV at r
 induction r with
 |nil=>rfl
 |cons h t a=>rw[any_cons,any_cons,a,h.1]
def KV.OE{C_:List (κ × V)}{vs:List (κ × Value)}(r:KV C_ vs)(k:κ){y:V}{u:Value}(ry:RelV y u):
  KV (C_.map λkv=>if kv.1=k then(kv.1,y)else kv) (vs.map λkv=>if kv.1=k then(kv.1,u)else kv):=by
 unfold KV at r ⊢
 induction r with
 |nil=>exact .nil
 | @cons p q d c h t a=>
  rw[qb,qb];refine .cons ?_ a;obtain⟨h1,b⟩:=h
  by_cases e:p.1=k
  ·rw[if_pos e,if_pos<|h1.symm.trans e];exact⟨h1,ry⟩
  ·rw[if_neg e,if_neg λz=>e<|h1.trans z];exact⟨h1,b⟩
def KV.put{C_:List (κ × V)}{vs:List (κ × Value)}(r:KV C_ vs)(k:κ){y:V}{u:Value}(ry:RelV y u):KV (putK C_ k y) (stored vs k u):=by
 unfold putK stored;rw[r.any k]
 by_cases e:(vs.any λkv=>decide<|kv.1=k)=true
 ·rw[if_pos e,if_pos e];exact r.OE k ry
 ·rw[if_neg e,if_neg e];exact Paired.snoc r ⟨rfl,ry⟩
def KV.keys{C_:List (κ × V)}{vs:List (κ × Value)}(r:KV C_ vs):C_.map (·.1)=vs.map (·.1):=by
 unfold KV at r
 induction r with
 |nil=>rfl
 |cons h t a=>rw[qb,qb,a,h.1]
theorem KV.length{C_:List (κ × V)}{vs:List (κ × Value)}(r:KV C_ vs):C_.length=vs.length:=Paired.length r
def mZ{k:Key}{u:Value}(r:RelV (kV k) u):(bz P w).is k u=true:=by
 cases k with
 |inl i=>obtain⟨t,e⟩:=(show ∃t,u=Value.int i t from r);subst e;exact vD P w i t
 |inr x=>obtain⟨t,e⟩:=(show ∃t,u=Value.str x t from r);subst e;exact bM P w x t
theorem r9{P:Program}{w:World}:∀ {ks:List Key} {us:f'},Vals (ks.map kV) us->ItemsAre (bz P w) ks us
 | [],_,r=>by rw[map_nil]at r;cases r;exact .nil
 |k::ks,_,r=>by
  rw[qb]at r
  cases r with
  |cons h t=>exact .cons (mZ h)<|r9 t
abbrev KT(H:Hp):List (List Key × V)->List (List Key × Addr × Value)->Prop:=Paired λp q=>p.1=q.1/\H q.2.1=some (.tup<|p.1.map kV)/\RelV p.2 q.2.2
variable{xs:List (List Key × Addr × Value)}{C_:List (List Key × V)}
def KT.val{H:Hp}(r:KT H C_ xs)(k:List Key):gR (cJ C_ k) ((atKey xs k).map (·.2)):=by
 induction r with
 |nil=>exact True.intro
 | @cons p q g c h t d=>
  obtain⟨h1,_,f⟩:=h
  by_cases e:p.1=k
  ·have a:q.1=k:=h1.symm.trans e;have b:atKey (q::c) k=some q.2:=by simp[atKey,find?_cons,a]
   rw[cM e,b];exact f
  ·have a:¬q.1=k:=λz=>e<|h1.trans z;have b:atKey (q::c) k=atKey c k:=by simp[atKey,find?_cons,a]
   rw[cN e,b];exact d
def KT.OE{H:Hp}(r:KT H C_ xs)(k:List Key){y:V}{u:Value}(ry:RelV y u):
  KT H (C_.map λkv=>if kv.1=k then(kv.1,y)else kv) (xs.map<|putAt k u):=by
 induction r with
 |nil=>exact .nil
 | @cons p q f d h t c=>
  rw[qb,qb];refine .cons ?_ c;obtain⟨h1,a,b⟩:=h;unfold putAt
  by_cases e:p.1=k
  ·rw[if_pos e,if_pos<|h1.symm.trans e];exact⟨h1,a,ry⟩
  ·rw[if_neg e,if_neg λz=>e<|h1.trans z];exact⟨h1,a,b⟩
def KT.put{H:Hp}(r:KT H C_ xs)(k:List Key){b:Addr}{y:V}{u:Value}(hb:H b=some (.tup<|k.map kV))(ry:RelV y u):
  KT H (putK C_ k y) (storedH xs k b u):=by
 have e:(C_.any λkv=>decide<|kv.1=k)=(atKey xs k).isSome:=by
  rw[iJ,(r.val k).jn,isSome_map]
 unfold putK storedH;rw[e]
 by_cases q:(atKey xs k).isSome=true
 ·rw[if_pos q,if_pos q];exact r.OE k ry
 ·rw[if_neg q,if_neg q];exact Paired.snoc r ⟨rfl,hb,ry⟩
def KT.keeps{H H':Hp}(r:KT H C_ xs)(ht:∀b ys,H b=some (.tup ys)->H' b=some (.tup ys)):KT H' C_ xs:=
 Paired.NM r λ_ _ z=>⟨z.1,ht _ _ z.2.1,z.2.2⟩
variable{H:Hp}{h:Heap}
def Mf{u:HO}(ok:iC P w H h)(e:Rd H a u):bB P w H h a u:=e.ok ok
variable{C_:s_}
def oP(ok:iC P w H h)(e:Rd H a (.dK C_)):C_.length<=sizeLine/\(a==sysModules)=false/\∃vs,KV C_ vs/\h.DictOf (bz P w) a vs:=
 show bB P w H h a (.dK C_)from Mf ok e
def EV(ok:iC P w H h)(e:H a=some (.dK C_)):C_.length<=sizeLine/\(a==sysModules)=false/\∃vs,KV C_ vs/\h.DictOf (bz P w) a vs:=oP ok<|.inl e
def oQ{ks:List Key}(ok:iC P w H h)(e:H a=some (.tup<|ks.map kV)):(tupleKind<|bz P w).is h ks a:=by
 obtain⟨_,b,r,o,h1,d,n,c⟩:=(show bB P w H h a (.tup<|ks.map kV)from ok a _ e)
 exact⟨o,b.toArray,n,h1,d,c,by simpa using r9 r⟩
variable{C_:List (List Key × V)}
def sf(ok:iC P w H h)(e:Rd H a (.dT C_)):C_.length<=sizeLine/\(a==sysModules)=false/\
  ∃xs,KT H C_ xs/\h.DictOfH (tupleKind<|bz P w) a xs:=by
 obtain⟨z,y,xs,r,o,f,d,h1,c,g,j,i⟩:=(show bB P w H h a (.dT C_)from Mf ok e)
 refine⟨z,y,xs,r,o,f,d,h1,c,g,j,λx hx=>?_,i⟩;have all:∀ {l:List (List Key × V)} {m:List (List Key × Addr × Value)},KT H l m->∀x∈m,(tupleKind<|bz P w).is h x.1 x.2.1:=by
  intro l m q
  induction q with
  |nil=>intro x hx;exact nomatch hx
  | @cons p q s n hq t b=>
   intro x hx
   rcases gz.mp hx with e|hx
   ·subst e;exact oQ ok (by rw[<-hq.1];exact hq.2.1)
   ·exact b x hx
 exact all r x hx
def QZ(ok:iC P w H h)(e:H a=some (.dT C_)):C_.length<=sizeLine/\(a==sysModules)=false/\
  ∃xs,KT H C_ xs/\h.DictOfH (tupleKind<|bz P w) a xs:=sf ok<|.inl e
def gT(H:Hp)(a:Addr)(y:V)(r:v_):Prop:=
 (∃C_ k,Rd H a (.dK C_)/\y=kV k/\r=cJ C_ k)∨∃C_ k b,Rd H a (.dT C_)/\y=.ref b/\H b=some (.tup<|k.map kV)/\r=cJ C_ k
def tR(H:Hp)(a:Addr)(y v:V)(H':Hp):Prop:=
 (∃C_ k,H a=some (.dK C_)/\y=kV k/\C_.length<sizeLine/\H'=upd H a (.dK<|putK C_ k v))∨
 ∃C_ k b,H a=some (.dT C_)/\y=.ref b/\H b=some (.tup<|k.map kV)/\C_.length<sizeLine/\H'=upd H a (.dT<|putK C_ k v)
theorem gT.k{H:Hp}{a:Addr}{C_:s_}{k:Key}(e:H a=some (.dK C_)):gT H a (kV k) (cJ C_ k):=.inl ⟨C_,k,.inl e,rfl,rfl⟩
theorem tR.k{H:Hp}{a:Addr}{C_:s_}{k:Key}{v:V}(e:H a=some (.dK C_))(hl:C_.length<sizeLine):tR H a (kV k) v (upd H a<|.dK<|putK C_ k v):=.inl ⟨C_,k,e,rfl,hl,rfl⟩
variable{X:Cx}{w_:aO0}{s:Shared}{σ:St}
def Inv.big(I:Inv X w_ σ H s):sysModules<s.heap.objs.size:=by
 have h:mainGlobals<s.heap.objs.size:=(I.mod.glob.keeps I.bk).lt;exact VG a_ h
variable{y v:V}{u:Value}{A:Around}{E:c_}
def Cz{Q:c_}(hu:A.units+1<cLine)(I:Inv X w_ σ H s)(g:gT H a y (some v))(ry:RelV y u)(h:∀w' s',Inv X w_ σ H s'->RelV v w'->Q w' s'):
  wpAny (model X.prog X.w) A (getItem (.ref a) u) Q E s:=by
 rcases g with ⟨i,k,e,j,l⟩|⟨i,k,b,e,j,x,l⟩
 ·subst j;obtain⟨z,B,t,d,n⟩:=oP I.bf e;obtain⟨w',f,c⟩:=gR.some_of (v:=v) (o:=valueAt t k) (by rw[l];exact d.val k)
  exact wpAny_getItem_of (mZ ry) n.mapOf f<|h w' _ (I.tok _) c
 ·subst j
  cases(show u=Value.ref b from ry)
  obtain⟨z,B,r,d,n⟩:=sf I.bf e;obtain⟨w',f,c⟩:=gR.some_of (v:=v) (o:=(atKey r k).map (·.2)) (by rw[l];exact d.val k)
  obtain⟨p,q,m⟩:=Option.map_eq_some_iff.mp f;refine wpAny_getItem_heap (tupleKind_room_in1 hu) (oQ I.bf x) n q ?_;rw[m];exact h w' _ (I.tok _) c
def T8{Q:c_}(hu:A.units+1<cLine)(I:Inv X w_ σ H s)(g:gT H a y o)(ry:RelV y u)(h:∀s',Inv X w_ σ H s'->Q (.bool o.isSome) s'):
  wpAny (model X.prog X.w) A (compareOp .In u<|.ref a) Q E s:=by
 rcases g with ⟨d,k,e,f,l⟩|⟨d,k,b,e,f,m,l⟩
 ·subst f;obtain⟨z,i,p,c,j⟩:=oP I.bf e;refine wpAny_in_of (mZ ry) i j.mapOf ?_;rw[<-(c.val k).jn,<-l];exact h _<|I.tok _
 ·subst f
  cases(show u=Value.ref b from ry)
  obtain⟨z,i,n,c,j⟩:=sf I.bf e;refine wpAny_in_heap (tupleKind_room_in1 hu) (oQ I.bf m) i j ?_;have q:=(c.val k).jn;rw[isSome_map]at q;rw[<-q,<-l];exact h _<|I.tok _
def tT{h':Heap}{t':Nat}{ob:HO}(I:Inv X w_ σ H s)(mu:QC (H a))(hs:SameBut a s.heap h')(he:∃q,h'.get? a=some q)(new:bB X.prog X.w (upd H a ob) h' a ob):
  Inv X w_ σ (upd H a ob) {s with heap:=h',toks:=t'}:=
 I.write (x:=a) (e:=a) mu (.inl rfl) (λb q hb z=>(hs.2 b hb).trans z) he new
variable{C_:s_}
def EW{H':Hp}{h':Heap}{vs:List (Key × Value)}(z:C_.length<=sizeLine)(hd:(a==sysModules)=false)(rel:KV C_ vs)(dd:h'.DictOf (bz P w) a vs):
  bB P w H' h' a (.dK C_):=⟨z,hd,vs,rel,dd⟩
variable{r:Value}
def CA{H':Hp}{Q:Unit->Shared->Prop}(hu:A.units+1<cLine)(I:Inv X w_ σ H s)(g:tR H a y v H')(ry:RelV y u)(rv:RelV v r)(h:∀s',Inv X w_ σ H' s'->Q () s'):
  wpAny (model X.prog X.w) A (setItem (.ref a) u r) Q E s:=by
 rcases g with ⟨d,k,e,m,l,n⟩|⟨d,k,b,e,m,B,l,n⟩
 ·subst m n;obtain⟨z,t,K,f,x⟩:=EV I.bf e;have o:K.length<=sizeLine:=by rw[<-f.length];exact z
  have j:(putK d k v).length<=sizeLine:=by have:=iK d k v;omega
  refine wpAny_setItem_pairs (hsz:=o) (mZ ry) x λD i p=>h _ ?_;have he:∃q,D.get? a=some q:=let ⟨q,_,_,hq,_⟩:=i;⟨q,hq⟩;exact tT I (by rw[e];exact True.intro) p he<|EW j t (f.put k rv) i
 ·subst m n
  cases(show u=Value.ref b from ry)
  obtain⟨z,t,G,f,x⟩:=QZ I.bf e;have o:G.length<=sizeLine:=by rw[<-Paired.length f];exact z
  have j:(putK d k v).length<=sizeLine:=by have:=iK d k v;omega
  refine wpAny_setItem_heap (hsz:=o) (tupleKind_room_in1 hu) (oQ I.bf B) x λD i p=>h _ ?_;obtain⟨q,L,J,hq,F,M,O,_,N⟩:=i;refine tT I (by rw[e];exact True.intro) p ⟨q,hq⟩ ⟨j,t,_,(f.put k B rv).keeps λc P C=>?_,q,L,J,hq,F,M,O,N⟩
  rw[aK (iq C e λz=>nomatch z)];exact C
def Q0{Q:c_}(I:Inv X w_ σ H s)(e:Rd H a (.dK C_))(h:∀t s',Inv X w_ σ H s'->Q (.int C_.length t) s'):wpAny (model X.prog X.w) A (call (.builtin "len") [.ref a]) Q E s:=by
 obtain⟨z,c,f,b,d⟩:=oP I.bf e;refine call_len_dict c d (by rw[<-b.length];rw[sizeLine_eq]at z;omega) ?_
 rw[<-b.length];exact h _ _<|I.tok _
def JL(i:Expr):Prop:=∀ov iv,subscripted i false ov iv=operate [ov,iv] (getItem ov iv)
variable{value:Expr}
def Ba{prog:Program}{env:Env}{slice:Expr}{pos:Pos}{T id:String}{Q:c_}
  (hl:typeLookup (.type T) "__getitem__"=pure (some<|.builtin id)) (hs:JL slice)
  (h:wpAny (model prog w) A (eval value env) (λo s₁=>wpAny (model prog w) A (eval slice env) (λi s₂=>s₂.TypeIs o T/\wpAny (model prog w) A (getItem o i) Q E s₂) E s₁) E s):
  wpAny (model prog w) A (eval (.Subscript value slice pos) env) Q E s:=by
 refine Subscript_<|sh h (λo s₁ e=>sh e (λi s₂ b=>?_) λ_ _ x=>x) λ_ _ x=>x;obtain⟨c,b⟩:=b;unfold subscriptTail;refine dy ?_;rw[getitemInPython_of_ne c.not_modules];refine dy<|wpAny_specialOf c hl ?_;have a:wpAny (model prog w) A (subscripted slice false o i) (λr d=>wpAny (model prog w) A (letTemporaryGo value o r >>= λ_=>pure r) Q E d) E s₂:=by
  rw[hs o i];exact wpAny_operating (sh b (λr d f=>dy<|wpAny_letTemporaryGo<|fO f) λ_ _ x=>x)
 first
  |exact fO<|dy a
  |exact dy<|fO<|dy a
  |exact dy a
def vR{σ:St}(I:Inv X w_ σ H s)(g:gT H a y o):s.TypeIs (.ref a) "dict":=by
 rcases g with ⟨c,k,e,_,_⟩|⟨c,k,b,e,_,_,_⟩
 ·obtain⟨_,_,h,_,d⟩:=oP I.bf e;exact d.typeIs
 ·obtain⟨_,_,f,_,d⟩:=sf I.bf e;exact d.typeIs
def EX(td ty:TE):TE:=λσ H Q=>td σ H λx H1=>ty σ H1 λy b=>∃a v,x=.ref a/\gT b a y (some v)/\Q v b
def JM(ty td:TE):TE:=λσ H Q=>ty σ H λy H1=>td σ H1 λx b=>∃a o,x=.ref a/\gT b a y o/\Q (.bl o.isSome) b
def EY(td ty tv:TE):TS:=λD σ H=>tv σ H λv H1=>td σ H1 λx b=>ty σ b λy c=>∃a H4,x=.ref a/\tR c a y v H4/\D.nx σ H4
variable{o i:Expr}{pos:Pos}{td ty:TE}
def JN(hu:X.A.units+1<cLine)(ho:PE X o td)(hi:PE X i ty)(hs:JL i):PE X (.Subscript o i pos) (EX td ty):=by
 intro b s σ H Q I h;refine Ba PySem.F.slot_dict_getitem.lookup hs<|bN (ho b s σ H _ I h) λu r ⟨x,H1,q,m,l⟩=>bN (hi b r σ H1 _ q l) λt z ⟨y,f,d,p,a,v,j,g,n⟩=>?_;subst j;obtain rfl:u=Value.ref a:=m;exact⟨vR d g,Cz hu d g p λB w e c=>⟨v,f,e,c,n⟩⟩
def EZ(hu:X.A.units+1<cLine)(hi:PE X i ty)(ho:PE X o td):PC X .In i o (JM ty td):=by
 intro b s σ H Q I h;refine bN (hi b s σ H _ I h) λt r ⟨y,H1,q,p,f⟩=>bN (ho b r σ H1 _ q f) λu w ⟨x,d,n,l,a,j,e,g,m⟩=>?_;subst e;obtain rfl:u=Value.ref a:=l;exact T8 hu n g p λv c=>⟨.bl j.isSome,d,c,rfl,m⟩
variable{pos':Pos}{tv:TE}
def JO(hu:X.A.units+1<cLine)(ho:PE X o td)(hi:PE X i ty)(hv:PE X value tv)(hs:swapsWith value (some<|.Subscript o i pos') pos.line X.env=pure false):
  PS X (.Assign [.Subscript o i pos'] value pos) (EY td ty tv):=by
 intro b s σ H D I h;refine wpAny_Assign_Subscript (bN (hv b s σ H _ I h) λr C ⟨v,H1,B,n,m⟩=>bN (ho b C σ H1 _ B m) λu f ⟨x,j,w,p,q⟩=>bN (hi b f σ j _ w q) λE F ⟨y,J,c,z,a,t,l,g,e⟩=>?_) hs;subst l;obtain rfl:u=Value.ref a:=p;exact CA hu c g z n λG d=>⟨σ,t,d,e⟩
def vS(h:Heap)(hb:sysModules<h.objs.size):bB P w H (h.push {cls:=.type "dict",data:=.dict #[]}) h.objs.size (.dK []):=
 ⟨zero_le _,rJ.mpr<|Ne.symm<|ot hb,[],.nil,Heap.DictOf.new h⟩
def yM:TE:=λ_ H Q=>∀p,H p=none->Q (.ref p) (upd H p<|.dK [])
def Fb:PE X (.Dict [] [] pos) yM:=λb s σ H Q I h=>
 wpAny_Dict_empty ⟨.ref s.heap.objs.size,_,I.laid (a:=s.heap.objs.size) (o:=.dK []) (t':=s.toks) (λ_ _ q=>ef _ q) (ey _)<|vS s.heap I.big,rfl,h _<|I.bf.fresh<|ey _⟩
def yN:List (TE × TE)->St->Hp->(List (V × V)->r_)->Prop
 | [],_,H,Q=>Q [] H
 |(d,c)::r,σ,H,Q=>d σ H λx H1=>c σ H1 λy a=>yN r σ a λe b=>Q ((x,y)::e) b
abbrev VV:List (V × V)->List (Value × Value)->Prop:=Paired λp q=>RelV p.1 q.1/\RelV p.2 q.2
def TF(X:Cx)(pos:Pos)(keys:List (Option Expr))(values:i_)(trs:List (TE × TE)):Prop:=
 ∀(w_:aO0) (s:Shared) (σ:St) (H:Hp) (Q:List (V × V)->r_),Inv X w_ σ H s->yN trs σ H Q->
  wpAny (model X.prog X.w) X.A (evalPairs<|pairTrees keys values X.env pos) (λa b=>∃ps H',Inv X w_ σ H' b/\VV ps a/\Q ps H') X.xe s
def JP{pos:Pos}:TF X pos [] [] []:=λa s σ H Q I h=>pairTrees_nil_walk ⟨[],H,I,.nil,h⟩
variable{trs:List (TE × TE)}
def vT{pos:Pos}{k v:Expr}{ks:List (Option Expr)}{vs:i_}{tk:TE}(hk:PE X k tk)(hv:PE X v tv)(hr:TF X pos ks vs trs):
  TF X pos (some k::ks) (v::vs) ((tk,tv)::trs):=λa s σ H Q I h=>
 pairTrees_cons_walk (bN (hk a s σ H _ I h) λu q ⟨x,H1,p,j,g⟩=>bN (hv a q σ H1 _ p g) λt e ⟨y,f,m,n,l⟩=>
  bN (hr a e σ f _ m l) λw r ⟨i,o,c,b,d⟩=>⟨(x,y)::i,o,c,.cons ⟨j,n⟩ b,d⟩)
noncomputable def fV(C_ more:s_):s_:=more.foldl (λa kv=>putK a kv.1 kv.2) C_
def KV.merge:∀ {more:s_} {rs:List (Key × Value)} {C_:s_} {vs:List (Key × Value)},KV more rs->KV C_ vs->KV (fV C_ more) (merged vs rs):=by
 intro more rs C_ vs r;unfold KV at r
 induction r generalizing C_ vs with
 |nil=>intro q;exact q
 | @cons p q d c h t b=>
  intro a;have e:KV (putK C_ p.1 p.2) (stored vs q.1 q.2):=by
   have:=a.put p.1 h.2
   rw[<-h.1];exact this
  exact b e
theorem jG:∀(more C_:s_),(fV C_ more).length<=C_.length+more.length
 | [],C_=>by show C_.length<=C_.length+0;omega
 |p::r,C_=>by
  have h1:=jG r<|putK C_ p.1 p.2;have a:=iK C_ p.1 p.2;show(fV (putK C_ p.1 p.2) r).length<=_;rw[kf];omega
theorem oR{P:Program}{w:World}:∀ {C_:s_} {ws:List (Value × Value)},VV (C_.map λkv=>(kV kv.1,kv.2)) ws->∃rs,Carries (bz P w) ws rs/\KV C_ rs
 | [],_,r=>by rw[map_nil]at r;cases r;exact⟨[],True.intro,.nil⟩
 |p::C_,_,r=>by
  rw[qb]at r
  cases r with
  | @cons a b e bs h t=>
   obtain⟨rs,c,q⟩:=oR (P:=P) (w:=w) t;obtain⟨f,d⟩:=b;exact⟨(p.1,d)::rs,⟨mZ h.1,rfl,c⟩,.cons ⟨rfl,h.2⟩ q⟩
def Fc(trs:List (TE × TE)):TE:=λσ H Q=>∀p,H p=none->yN trs σ (upd H p<|.dK []) λb a=>a p=some (.dK [])/\∃C_:s_,b=C_.map (λkv=>(kV kv.1,kv.2))/\C_.length<=15/\Q (.ref p) (upd a p<|.dK<|fV [] C_)
def JQ{pos:Pos}{keys:List (Option Expr)}{values:i_}(h:TF X pos keys values trs)(cO:keys.all (·.isSome)=true)(hl:keys.length=values.length)(h0:keys≠[])
  (h15:keys.length<=15):PE X (.Dict keys values pos) (Fc trs):=by
 intro d s σ H Q I q;have hn:=I.bf.fresh<|ey s.heap.objs.size;have r:=I.laid (a:=s.heap.objs.size) (o:=.dK []) (h':=s.heap.push {cls:=.type "dict",data:=.dict #[]}) (t':=s.toks) (λ_ _ q=>ef _ q) (ey _)<|vS s.heap I.big;refine wpAny_Dict_walk (knd:=bz X.prog X.w) cO hl h0 h15<|bN (h d _ σ _ _ r<|q _ hn) λC E ⟨B,A,i,g,e,f,l,D,m⟩=>?_;subst l;obtain⟨y,c,t⟩:=oR (P:=X.prog) (w:=X.w) g;obtain⟨z,n,u,j,p⟩:=EV i.bf e
 cases j
 refine⟨y,c,p,λh' b x=>⟨.ref s.heap.objs.size,_,?_,rfl,m⟩⟩;have v:(fV [] f).length<=sizeLine:=by
  have h1:=jG f [];rw[length_nil]at h1;rw[sizeLine_eq];omega
 have he:∃q,h'.get? s.heap.objs.size=some q:=let ⟨q,_,_,hq,_⟩:=b;⟨q,hq⟩;exact tT i (by rw[e];exact True.intro) x he<|EW v n (t.merge .nil) b
structure M2(X:Cx)(o:Expr)(m:Str)(A':Pos)(e f:Expr)(bR:Pos):Prop where
 base:attributeBase o m X.env (eval o X.env)=eval o X.env
 eD:((backTo bR<|starEach [e,f] X.env).all (λx=>!x.1)&&(backToKw bR<|keywordEach [] X.env).all (λx=>x.1.isSome)
  &&decide (([e,f]:i_).length+([]:List Keyword).length+(if([]:List Keyword).isEmpty then 0 else 1)<30))=true
 line:(A'.endLine==bR.line)=true
 trees:backTo bR (starEach [e,f] X.env)=[(false,eval e X.env),(false,eval f X.env)]
def T9(H:Hp)(a:Addr):Prop:=(∃C_,Rd H a<|.dK C_)∨∃C_,Rd H a<|.dT C_
def OF{σ:St}(I:Inv X w_ σ H s)(d:T9 H a):
  s.TypeIs (.ref a) "dict"/\(∀b,Value.ref a=.ref b->∃ob,s.heap.get? b=some ob/\ob.dict=none)/\(a==sysModules)=false:=by
 rcases d with ⟨g,e⟩|⟨g,e⟩
 ·obtain⟨_,h,i,_,c⟩:=oP I.bf e;refine⟨c.typeIs,λb q=>?_,h⟩
  cases q
  obtain⟨ob,_,_,h1,f,_⟩:=c;exact⟨ob,h1,f.2.1⟩
 ·obtain⟨_,h,j,_,c⟩:=sf I.bf e;refine⟨c.typeIs,λb q=>?_,h⟩
  cases q
  obtain⟨ob,_,_,h1,f,_⟩:=c;exact⟨ob,h1,f.2.1⟩
variable{d:V}{o:v_}
def OG{Q:c_}(hu:A.units+1<cLine)(I:Inv X w_ σ H s)(g:gT H a y o)(ry:RelV y u)(rd:RelV d r)(h:∀w' s',Inv X w_ σ H s'->RelV (o.getD d) w'->Q w' s'):
  wpAny (model X.prog X.w) A (call (.builtin "dict.get") [.ref a,u,r]) Q E s:=by
 rcases g with ⟨i,k,e,j,l⟩|⟨i,k,b,e,j,p,l⟩
 ·subst j;obtain⟨z,m,q,c,f⟩:=oP I.bf e;refine call_meetsIn slot_dict_get f.typeIs entry_dict_get (PySem.F.args_dict_get_3 _ _ _) (meets_dict_get_default (bz X.prog X.w) a (mZ ry) m r) ⟨_,f.mapOf,h _ _ (I.tok _) ?_⟩;rw[l];exact(c.val k).getD rd
 ·subst j
  cases(show u=Value.ref b from ry)
  obtain⟨z,m,n,c,f⟩:=sf I.bf e;refine call_meetsIn slot_dict_get f.typeIs entry_dict_get (PySem.F.args_dict_get_3 _ _ _) (meetsH_dict_get_default (tupleKind<|bz X.prog X.w) a b m r) ⟨tupleKind_room_in1 hu,k,n,oQ I.bf p,f,h _ _ (I.tok _) ?_⟩;rw[l];exact(c.val k).getD rd
def yO(td ty tx:TE):TE:=λσ H Q=>td σ H λx H1=>∃a,x=.ref a/\T9 H1 a/\ty σ H1 λy c=>tx σ c λz b=>∃o,gT b a y o/\Q (o.getD z) b
variable{o e f:Expr}{A' bR:Pos}{tx:TE}
def Fd(hu:X.A.units+1<cLine)(ho:PE X o td)(he:PE X e ty)(hf:PE X f tx)(m:M2 X o "get" A' e f bR):PE X (.Call (.Attribute o "get" A') [e,f] [] bR) (yO td ty tx):=by
 intro b s σ H Q I h;refine wpAny_Call_method m.base m.eD m.line PySem.F.plainAttrs_dict slot_dict_get PySem.F.type_dict_get<|bN (ho b s σ H _ I h) λu w ⟨x,H1,i,G,a,p,d,E⟩=>?_;subst p;obtain rfl:u=Value.ref a:=G;obtain⟨C,r,_⟩:=OF i d;refine⟨C,r,?_⟩;rw[m.trees];refine Calls.callWith_builtin rfl (Calls.evalArgs_plain (Calls.spliced_cons (bN (he b w σ H1 _ i E) λL D ⟨y,n,v,J,t⟩=>
  Calls.spliced_cons (bN (hf b D σ n _ v t) λR M ⟨z,K,j,q,O,g,B⟩=>Calls.spliced_nil ?_))))
 exact OG hu j g J q λP N l c=>⟨_,K,l,c,B⟩
def rl(scope osc:Scope):Scope:=
 {scope with names:=scope.names.map λ(n,k)=>if(k==.free&&osc.kind==.function&&osc.names.lookup n==some .cell)then(n,.cell)else(n,k)}
noncomputable def fQ(env:Env):List (Str × NameKind)->List (Str × Addr)->List (Str × Addr)
 | [],a=>a
 |(n,k)::r,a=>if(k==NameKind.free)=true then fQ env r ((n,(env.cells.lookup n).getD 0)::a)else fQ env r a
theorem jH{env:Env}:∀(names:List (Str × NameKind)) (cs:List (Str × Addr)),(∀x∈names,x.2=.free->∃c,env.cells.lookup x.1=some c)->
  (forIn names cs λ(x:Str × NameKind) (r:List (Str × Addr))=>if(x.2==NameKind.free)=true then(do let y<-cellOf env x.1;pure (ForInStep.yield ((x.1,y)::r)))else(pure (ForInStep.yield r):Sem _))=(pure (fQ env names cs):Sem _)
 | [],cs,_=>rfl
 |(n,k)::r,cs,h=>by
  have e:=λd=>jH (env:=env) r d λx hx=>h x<|fN _ hx;rw[forIn_cons]
  by_cases hk:(k==NameKind.free)=true
  ·obtain⟨c,hc⟩:=h (n,k) gc (by simpa using hk)
   have a:env.cells.lookup n=some c:=hc;have f:cellOf env n=(pure c:Sem Addr):=by unfold cellOf;rw[a]
   simp only[hk,if_true,f,pure_bind];rw[e];have b:fQ env ((n,k)::r) cs=fQ env r ((n,c)::cs):=by
    show(if(k==NameKind.free)=true then fQ env r ((n,(env.cells.lookup n).getD 0)::cs)else fQ env r cs)=_
    rw[if_pos hk,a]<;>rfl
   rw[b]
  ·simp only[hk,if_false,pure_bind];show(forIn r cs _:Sem _)=_;rw[e];have b:fQ env ((n,k)::r) cs=fQ env r cs:=by
    show(if(k==NameKind.free)=true then fQ env r ((n,(env.cells.lookup n).getD 0)::cs)else fQ env r cs)=_
    rw[if_neg hk]
   rw[b]
def qA{scope:Scope}{env:Env}(h:∀x∈scope.names,x.2=.free->∃c,env.cells.lookup x.1=some c):closureFor scope env=pure (fQ env scope.names []):=by
 have q:=jH scope.names [] h;show((forIn scope.names ([]:List (Str × Addr)) λ(x:Str × NameKind) (r:List (Str × Addr))=>if(x.2==NameKind.free)=true then(do let y<-cellOf env x.1;pure (ForInStep.yield ((x.1,y)::r)))else(pure (ForInStep.yield r):Sem _)) >>= λa=>pure a)=_
 rw[q,pure_bind]
theorem oS{env:Env}:∀(names:List (Str × NameKind)) (cs:List (Str × Addr)),(∀x∈names,x.2=.free->∃c,env.cells.lookup x.1=some c)->(∀x c,cs.lookup x=some c->env.cells.lookup x=some c)->
  ∀x c,(fQ env names cs).lookup x=some c->env.cells.lookup x=some c
 | [],_,_,h,x,c,e=>h x c e
 |(n,k)::r,cs,b,h,x,c,e=>by
  have f:∀x∈r,x.2=.free->∃c,env.cells.lookup x.1=some c:=λx hx=>b x<|fN _ hx;unfold fQ at e
  by_cases hk:(k==NameKind.free)=true
  ·rw[if_pos hk]at e;obtain⟨g,hc⟩:=b (n,k) gc (by simpa using hk)
   have a:env.cells.lookup n=some g:=hc;refine oS r _ f (λy d q=>?_) x c e;rw[L0]at q
   cases hy:y==n with
   |true=>
    rw[hy]at q
    have:y=n:=by simpa using hy
    subst this;rw[a]at q
    cases q
    exact a
   |false=>rw[hy]at q;exact h y d q
  ·rw[if_neg hk]at e;exact oS r cs f h x c e
theorem lU{env:Env}:∀(names:List (Str × NameKind)) (cs:List (Str × Addr)) (x:Str),(∃c,cs.lookup x=some c)->∃c,(fQ env names cs).lookup x=some c
 | [],_,_,h=>h
 |(n,k)::r,cs,x,h=>by
  unfold fQ
  split
  ·refine lU r _ x ?_;rw[L0]
   cases hy:x==n with
   |true=>exact⟨_,rfl⟩
   |false=>exact h
  ·exact lU r cs x h
theorem kW{env:Env}:∀(names:List (Str × NameKind)) (cs:List (Str × Addr)) (x:Str),(x,NameKind.free)∈names->∃c,(fQ env names cs).lookup x=some c
 | [],_,_,h=>(nomatch h)
 |(n,k)::r,cs,x,h=>by
  unfold fQ
  rcases gz.mp h with e|h
  ·cases e
   rw[if_pos (by rfl)]
   exact lU r _ _ ⟨_,by rw[L0,VA]⟩
  ·split
   ·exact kW r _ x h
   ·exact kW r cs x h
structure Qp(osc:Scope)(oN N:f_)(scope:Scope)(fv:List (Option Nat)):Prop where
 kind:scope.kind=.function
 U3:osc.kind=.function
 Ax:∀y∈scope.names,y.2≠.cell
 loc:∀y∈scope.names,y.2=.local->scope.names.lookup y.1=some .local
 U2:∀y∈scope.names,y.2=.free->osc.names.lookup y.1=some .cell
 own:∀y∈(rl scope osc).names,y.2≠.free
 len:fv.length=N.length
 up:∀(i j:Nat),i<20->fv[i]?=some (some j)->oN[j]?=N[i]?/\∀x,N[i]?=some x->(rl scope osc).names.lookup x=some .cell/\osc.names.lookup x=some .cell
 eD:N.length<20
noncomputable def yP(fv:List (Option Nat))(σ:St):St:=fv.map λo=>match o with
 |none=>none
 |some j=>(σ[j]?).join
noncomputable def kX(X:Cx)(N:f_)(scope:Scope)(cl:List (Str × Addr))(C:Addr)(fp:l_)(s:Shared)(H:Hp):Cx where
 prog:=X.prog
 w:=X.w
 K:=X.K
 mg:=X.mg
 base:=X.base
 A:=X.A
 N:=N
 s₀:=s
 H₀:=H
 env:=compEnvC scope cl C X.env
 outer:=X.stack
 stack:=X.stack
 ex:=fp
 fn:=λ_=>false
 calm:=true
 pn:=[]
 xe:=λ_ _=>False
def Mg(Y:Cx)(A_:i_)(t:TT):Prop:=
 ∀(w_:aO0) (s:Shared) (σ:St) (H:Hp) (Q:Bool->r_),Inv Y w_ σ H s->t σ H Q->
  wpAny (model Y.prog Y.w) Y.A (forIn A_ true λc r=>if r=true then do let ok<-isTrue c Y.env (eval c Y.env);pure (ForInStep.yield ok)else pure (ForInStep.yield r)) (TP Y w_ σ Q) Y.xe s
def iL:TT:=λ_ H Q=>Q true H
variable{Y:Cx}
def JR:Mg Y [] iL:=λ_ _ _ H _ I h=>wpAny_tests_nil ⟨H,I,h⟩
def JS{c:Expr}{t:TT}(h:PT Y c t):Mg Y [c] t:=λa s σ H Q I b=>wpAny_tests_one<|h a s σ H Q I b
def vB(g:TG)(tc:TT)(te:TE)(τ0:St)(Q:VK):It->r_:=λJ H1=>∀B_,H1 B_=none->
 ∃W:Nat->o_,(∃m,W 0 m τ0<|upd H1 B_<|.lst [])/\∀i m τ H,W i m τ H->
  (J.stop i H/\Q (.ref B_) H)∨(J.go i H/\∃N:p_,(∀τ' H',N τ' H'->∃m',m' < m/\W (i+1) m' τ' H')/\
   ∀x H',J.Aw i H x H'->g x τ H' λa e=>tc a e λb c=>if b=true then te a c λv d=>∃ys,d B_=some (.lst ys)/\ys.length<sizeLine/\N a (upd d B_<|.lst<|ys++[v])else N a c)
variable{prog:Program}{R:Result->Shared->Prop}{z_ x_:Expr}{A_:i_}
def iM{y_:Expr}{scope:Scope}{pos:Pos}{it B_:Value}{env:Env}(I:Nat->Shared->Prop)
  (turn:∀n s,I n s->wpAny (model prog w) A (pyNext it) (λr s₁=>match r with
   |none=>R (.ok .next) s₁
   |some v=>wpAny (model prog w) A (letOwnedTupleGo x_ it v) (λ_ s₁'=>wpAny (model prog w) A (assign x_ env v) (λ_ s₂=>
     wpAny (model prog w) A (forIn A_ true λc r=>if r=true then do let ok<-isTrue c env (eval c env);pure (ForInStep.yield ok)else pure (ForInStep.yield r)) (λok s₃=>
      if ok=true then wpAny (model prog w) A (eval z_ env) (λx s₄=>
       wpAny (model prog w) A (call (.builtin "list.append") [B_,x]) (λ_ s₅=>∃m,m<n/\I m s₅) (λ_ _=>False) s₄) (λ_ _=>False) s₃
      else ∃m,m<n/\I m s₃) (λ_ _=>False) s₂) (λ_ _=>False) s₁') (λ_ _=>False) s₁) (λ_ _=>False) s)
  (n:Nat) (h:I n s):
  codeAny (model prog w) A (.compLoop (.ListComp z_ [⟨x_,y_,A_,0⟩] scope pos) 0 it B_ env) R s:=by
 refine codeAny_loop rfl I (λn s g=>?_) n h;show wpAny _ A ((compTurn (.ListComp z_ [⟨x_,y_,A_,0⟩] scope pos) 0 it B_ env).onRaise (λx=>do noteFrame x env;theTreesLotGoes x)) _ _ s
 refine wpAny_noted ?_;rw[compTurn_list];refine dy<|wpAny_standAt<|dy<|sh (turn n s g) (λr s₁ e=>?_) λ_ _ a=>a.elim
 cases r with
 |none=>exact fO e
 |some v=>
  refine dy<|sh e (λ_ s₁' b=>?_) λ_ _ a=>a.elim;refine dy<|sh b (λ_ s₂ f=>dy<|sh f (λok s₃ d=>?_) λ_ _ a=>a.elim) λ_ _ a=>a.elim
  cases ok with
  |false=>exact fO ⟨rfl,d⟩
  |true=>
   exact dy<|dy<|sh d (λx s₄ i=>dy<|sh i (λ_ s₅ j=>fO<|fO ⟨rfl,j⟩) λ_ _ a=>a.elim) λ_ _ a=>a.elim
def vU{σ:St}{j:Nat}(h:(σ[j]?).join=some v):σ[j]?=some (some v):=by
 cases e:σ[j]? with
 |none=>rw[e]at h;cases h
 |some o=>rw[e]at h;exact SL some h
variable{scope:Scope}{N:f_}{fv:List (Option Nat)}
def JT{σ:St}{s4:Shared}{fp:l_}{C:Addr}{m:b_}(hc:X.calm=true)(S:Qp X.env.scope X.N N scope fv)(I:Inv X w_ σ H s)(hC:s.heap.objs.size<=C)
  (hf:∀b∈fp,b<s.heap.objs.size/\kN X w_ H b) (hk:∀b o,s.heap.get? b=some o->s4.heap.get? b=some o) (hn:s4.heap.Ns C m) (hos:s4.os=s.os) (hg:s4.gens=s.gens):
  Inv (kX X N scope (fQ X.env scope.names []) C fp s H) [] (yP fv σ) H s4:=by
 have B:∀x∈scope.names,x.2=.free->∃c,X.env.cells.lookup x.1=some c:=λx hx e=>I.ok.has x.1<|.inl<|S.U2 x hx e;have g:=oS scope.names [] B λ_ _ e=>nomatch e;have R:=I.sz;have fresh:∀a,s.heap.objs.size<=a->H a=none:=λa ha=>I.bf.fresh ha;refine⟨⟨I.ok.mod,S.kind,I.ok.glob,I.ok.blt,hC,λx y c L t=>I.ok.inj x y c (g x c L)<|g y c t,λx hx=>?_,λx c z _=>(nomatch z),λ_=>I.ok.hd hc,I.ok.frames,.inl rfl,λb hb=>⟨?_,λx c e=>(hf b hb).2.2.2.2.2.1 x c<|g x c e⟩,
   I.bs,hU I.ok.Ej R,λb o e hb=>?_,λb hb z=>?_,I.stack,I.nS⟩,
  hos,?_,Un.kept hk,⟨m,hn,λi x v L t e3=>?_⟩,λx c e=>?_,fresh C hC,λx c e=>I.fU x c<|g x c e,λp Z=>absurd (show p∈([]:aO0)from Z) (by simp),I.bf.kept hk,?_⟩
 ·have P:(rl scope X.env.scope).names.lookup x=some .cell∨(rl scope X.env.scope).names.lookup x=some .free:=hx
  rcases P with e|e
  ·have hm:=D2 e;obtain⟨⟨n,k⟩,h,U⟩:=kc.mp hm;have f:(if(k==NameKind.free&&X.env.scope.kind==.function&&X.env.scope.names.lookup n==some .cell)=true then(n,NameKind.cell)else(n,k))=(x,NameKind.cell):=U
   by_cases d:(k==NameKind.free&&X.env.scope.kind==.function&&X.env.scope.names.lookup n==some .cell)=true
   ·rw[if_pos d]at f;have O:n=x:=SL Prod.fst f;have A:k=NameKind.free:=by
     rw[fz,fz]at d
     simpa using d.1.1
    subst O A;exact kW scope.names [] n h
   ·rw[if_neg d]at f;have A:k=NameKind.cell:=SL Prod.snd f;exact absurd A<|S.Ax _ h
  ·exact absurd rfl<|S.own _<|D2 e
 ·exact ot<|j5 (hf b hb).1 hC
 ·rcases(hf b hb).2.2.2.2.1 with z|z
  ·exact I.ok.ve b o e z
  ·exact absurd (j5 (lt_size e)<|hU I.ok.Ej z)<|F8 _
 ·rcases gz.mp (I.tD b z)with q|q
  ·exact(hf b hb).2.2.1 q
  ·exact(hf b hb).2.2.2.1 q
 ·show AllBare s4.gens;rw[hg];exact I.bare
 ·have Y:i<fv.length:=by
   have:=(nt.mp t).1
   unfold yP at this
   rwa [b5]at this
  have J:i<20:=by have:=S.eD;have:=S.len;omega
  unfold yP at t;rw[eG]at t
  cases Q:fv[i]? with
  |none=>rw[Q]at t;cases t
  |some o=>
   rw[Q]at t
   cases o with
   |none=>cases t
   |some j=>
    have W:(σ[j]?).join=some v:=qa t;have hσ:=vU W;obtain⟨O,hx⟩:=S.up i j J Q;obtain⟨E,K⟩:=hx x L;obtain⟨mX,hnX,hl⟩:=I.loc;obtain⟨u,r,l⟩:=hl j x v (O.trans L) hσ<|.inr<|.inl K;refine⟨u,r,?_⟩
    rcases l with ⟨k,_⟩|⟨k,c,ec,cl⟩
    ·have w:X.env.scope.names.lookup x=some .local:=k;rw[K]at w
     cases w
    ·obtain⟨F,D,M⟩:=cl;have hm:(x,NameKind.free)∈scope.names:=by
      have hm:=D2 E;obtain⟨⟨n,w⟩,h,U⟩:=kc.mp hm;have f:(if(w==NameKind.free&&X.env.scope.kind==.function&&X.env.scope.names.lookup n==some .cell)=true then(n,NameKind.cell)else(n,w))=(x,NameKind.cell):=U
      by_cases d:(w==NameKind.free&&X.env.scope.kind==.function&&X.env.scope.names.lookup n==some .cell)=true
      ·rw[if_pos d]at f;have T:n=x:=SL Prod.fst f;have A:w=NameKind.free:=by
        rw[fz,fz]at d
        simpa using d.1.1
       subst T A;exact h
      ·rw[if_neg d]at f;have A:w=NameKind.cell:=SL Prod.snd f;exact absurd A<|S.Ax _ h
     obtain⟨c',G⟩:=kW (env:=X.env) scope.names [] x hm
     have:=g x c' G
     rw[ec]at this
     cases this
     exact .inr ⟨.inl E,c,G,F,hk c F D,M⟩
 ·obtain⟨v,F,D,M⟩:=I.cell x c<|g x c e;exact⟨v,F,hk c F D,M⟩
 ·show(yP fv σ).length=N.length;unfold yP;rw[b5];exact S.len
variable{y_:Expr}{g:TG}{tc:TT}{te:TE}{Q:VK}{wi:TI}
def sj(hc:X.calm=true)(hi:PI X x_ y_ wi)(S:Qp X.env.scope X.N N scope fv)
  (hB:∀cl C fp s H,PG (kX X N scope cl C fp s H) x_ g/\Mg (kX X N scope cl C fp s H) A_ tc/\PE (kX X N scope cl C fp s H) z_ te)
  {σ:St} (I:Inv X w_ σ H s) {use:Option (Value->Sem Unit)} {Post:c_} {p2:Pos}
  (h:wi σ H (vB g tc te (yP fv σ) Q))
  (hPost:∀(B_ C:Addr) (s':Shared) (H':Hp) (m:b_),Inv X w_ σ H' s'->s'.heap.Ns C m->kN X w_ H' C->Q (.ref B_) H'->compPost (model X.prog X.w) X.A X.xe use Post (.ref B_) C (.ok .next) s')
  (hs:∀x,foldedSetIterable y_ X.env x=pure x):
  wpAny (model X.prog X.w) X.A (comprehension (.ListComp z_ [⟨x_,y_,A_,0⟩] scope pos) scope X.env p2 (newList []) false (eval y_ X.env) use) Post X.xe s:=by
 have G:∀x∈scope.names,x.2=.free->∃c,X.env.cells.lookup x.1=some c:=λx hx e=>I.ok.has x.1<|.inl<|S.U2 x hx e;refine wpAny_comprehension_free (use:=use) rfl hs (qA G) S.kind S.loc<|bN (hi w_ s σ H _ I h) λxv s1 h1=>bN h1 λitv a h2=>?_;obtain⟨it,fp,tn,J,K,e,I2,T,E,f2,rd⟩:=h2;subst e;have U:K a.heap.objs.size=none:=I2.fresh;obtain⟨W,⟨m0,w0⟩,aI⟩:=rd a.heap.objs.size U;refine Vr (wpAny_newFunctionEnv S.Ax (by intro y hy;simp at hy) (λh₁ f l=>?_) S.kind)
 dsimp only at f l ⊢
 have IA:Inv X w_ σ (upd K a.heap.objs.size<|.lst []) {a with heap:=a.heap.push {cls:=.type "list",data:=.seq ([]:f').toArray}}:=I2.OA (t':=a.toks) .nil<|zero_le _;generalize P:a.heap.push {cls:=.type "list",dict:=none,data:=.seq ([]:f').toArray}=hA at f l IA ⊢;have O:hA.objs.size=a.heap.objs.size+1:=by rw[<-P,C6]
 have aV:∀b o,a.heap.get? b=some o->hA.get? b=some o:=λb o e=>by rw[<-P];exact ef _ e
 have F:∀b o,hA.get? b=some o->h₁.get? b=some o:=λb o e=>l.extBut b o (ot<|lt_size e)<|ef _ e;have aF:∀b∈fp,b<a.heap.objs.size:=λb hb=>by
  obtain⟨o,e,_⟩:=T.obj 0 _ E b hb;exact lt_size e
 have L:∀b∈fp,b<hA.objs.size/\kN X w_ (upd K a.heap.objs.size<|.lst []) b:=λb hb=>⟨by rw[O];exact Vw<|aF b hb,by rw[aK (ot<|aF b hb)];exact(f2 b hb).1,(f2 b hb).2⟩
 let sA:Shared:={a with heap:=hA}
 let Y:Cx:=kX X N scope (fQ X.env scope.names []) hA.objs.size fp sA<|upd K a.heap.objs.size<|.lst []
 obtain⟨hG,hIf,hE⟩:=hB (fQ X.env scope.names []) hA.objs.size fp sA<|upd K a.heap.objs.size<|.lst [];have B:∀s4:Shared,s4={a with heap:=h₁,toks:=a.toks+([]:List (Str × Value)).length}->
   codeAny (model X.prog X.w) X.A (.compLoop (.ListComp z_ [⟨x_,y_,A_,0⟩] scope pos) 0 (.ref it) (.ref a.heap.objs.size)<|compEnvC scope (fQ X.env scope.names []) hA.objs.size X.env)
    (compPost (model X.prog X.w) X.A X.xe use Post (.ref a.heap.objs.size) hA.objs.size) s4:=by
  rintro s4 rfl;have IY:Inv Y [] (yP fv σ) (upd K a.heap.objs.size<|.lst []) {a with heap:=h₁,toks:=a.toks+([]:List (Str × Value)).length}:=
   JT hc S IA (ey _) L F f rfl rfl
  have t:∀ {H':Hp},(∀b∈fp,H' b=none)->∀b∈fp,kN Y [] H' b:=λhn b hb=>
   ⟨hn b hb,(IY.ok.Qg b hb).1,IY.ok.xM b hb,.inl hb,(IY.ok.Qg b hb).2,λp hp=>absurd (show p∈([]:aO0)from hp) (by simp)⟩
  refine iM (λn s'=>∃i τ H',Inv Y [] τ H' s'/\tn i s'.heap/\(∀b∈fp,H' b=none)/\W i n τ H') ?_ m0
   ⟨0,yP fv σ,_,IY,T.keep _ _ _ E λb hb o e=>F b o<|aV b o e,λb hb=>(L b hb).2.1,w0⟩
  rintro n s5 ⟨i,τ,H5,I5,R,ab,w5⟩
  rcases aI i n τ H5 w5 with ⟨az,q⟩|⟨go,NN,hN,step⟩
  ·refine sh (T.done Y rfl rfl rfl rfl i [] s5 τ H5 (λ_ _=>False) I5 (t ab) R az) (λr s6 ⟨hr,M⟩=>?_) λ_ _ z=>z;subst hr;obtain⟨m6,hn6,_⟩:=id M.loc;have IX:Inv X w_ σ H5 s6:=IA.vE M.os M.base M.bf M.bare λb hb=>⟨(L b hb).2.2.2.2.1,(L b hb).2.2.1,(L b hb).2.2.2.2.2.1,(L b hb).2.2.2.2.2.2⟩;exact hPost _ _ _ _ m6 IX hn6 (IA.yr (ey _) M.free) q
  ·refine sh (T.item Y rfl rfl rfl rfl i [] s5 τ H5 (λ_ _=>False) I5 (t ab) R go) (λr s6 ⟨u,hr,h6⟩=>?_) λ_ _ z=>z;subst hr;refine sh h6 (λ_ s7 ⟨x,H7,I7,r7,y7,D,fr7⟩=>?_) λ_ _ z=>z;have I7':=I7.pinned (t fr7)<|T.obj _ _ D;refine sh (hG _ s7 τ H7 x u _ I7' r7<|step x H7 y7) (λ_ s8 ⟨τ8,H8,I8,q8⟩=>?_) λ_ _ z=>z;refine sh (hIf _ s8 τ8 H8 _ I8 q8) (λb s9 ⟨H9,I9,q9⟩=>?_) λ_ _ z=>z;have j:∀ {Z:St} {H':Hp} {s':Shared},Inv Y ([]++oI fp s7.heap) Z H' s'->NN Z H'->∃m,m<n/\∃i τ H',Inv Y [] τ H' s'/\tn i s'.heap/\(∀b∈fp,H' b=none)/\W i m τ H':=λ{Z H' s'} I' n'=>by
    obtain⟨m',hm,w'⟩:=hN Z H' n';refine⟨m',hm,i+1,Z,H',I'.kP,T.keep _ _ _ D λb hb o e=>(I'.pin (b,o)<|rk _<|rk _<|gS hb e).1,λb hb=>?_,w'⟩;obtain⟨o,e,d⟩:=T.obj _ _ D b hb;exact(I'.pin (b,o)<|rk _<|rk _<|gS hb e).2.1
   cases b with
   |false=>exact j I9 q9
   |true=>
    show wpAny _ _ _ _ _ _;refine sh (hE _ s9 τ8 H9 _ I9 q9) (λv s10 ⟨y,H10,I10,r10,ys,hy,hz,q10⟩=>?_) λ_ _ z=>z;refine sh (bH (X:=Y) _ s10 τ8 H10 (.ref a.heap.objs.size) [y] (.ref a.heap.objs.size) [v] (λ_ H'=>NN τ8 H') I10 rfl (.cons r10 .nil) ⟨_,ys,y,rfl,rfl,hy,hz,q10⟩) (λ_ s11 ⟨_,H11,I11,_,q11⟩=>?_) λ_ _ z=>z;exact j I11 q11
 have st1:tn 0 h₁:=T.keep _ _ _ E λb hb o e=>F b o<|aV b o e;exact codeAny_compStart_list (B _ rfl)<|T.self _ 0 _ _ _ st1<|B _ rfl
def OH(wi:TI)(g:TG)(tc:TT)(te:TE)(fv:List (Option Nat)):TE:=λσ H Q=>wi σ H<|vB g tc te (yP fv σ) Q
def Q1(hc:X.calm=true)(hi:PI X x_ y_ wi)(S:Qp X.env.scope X.N N scope fv)
  (hB:∀cl C fp s H,PG (kX X N scope cl C fp s H) x_ g/\Mg (kX X N scope cl C fp s H) A_ tc/\PE (kX X N scope cl C fp s H) z_ te)
  (hs:∀x,foldedSetIterable y_ X.env x=pure x:=by intro _;rfl):PE X (.ListComp z_ [⟨x_,y_,A_,0⟩] scope pos) (OH wi g tc te fv):=by
 intro c s σ H Q I h;rw[eval_ListComp];refine sj hc hi S hB I (use:=none) h (λa C n u m r hn d q=>⟨m,hn,λw j=>?_⟩) hs;obtain⟨f,i,v,t,p,l⟩:=d;exact⟨.ref a,u,r.turned (t':=n.toks) (λb o hb e=>j.extBut b o hb e) f i t p l,rfl,q⟩
variable{px spos:Pos}
def Q2{i:Nat}(hN:X.N.Nodup)(hi':X.N[i]?=some x)(hx:X.env.scope.names.lookup x=some .local)(hc:X.calm=true)(hi:PI X x_ y_ wi)(S:Qp X.env.scope X.N N scope fv)
  (hB:∀cl C fp s H,PG (kX X N scope cl C fp s H) x_ g/\Mg (kX X N scope cl C fp s H) A_ tc/\PE (kX X N scope cl C fp s H) z_ te)
  (hsw:swapsWith (.ListComp z_ [⟨x_,y_,A_,0⟩] scope pos) (some<|.Name x px) spos.line X.env=pure true)
  (hs:∀x,foldedSetIterable y_ X.env x=pure x:=by intro _;rfl):PS X (.Assign [.Name x px] (.ListComp z_ [⟨x_,y_,A_,0⟩] scope pos) spos) (qx (OH wi g tc te fv)<|bF i):=by
 intro d s σ H D I h;rw[exec_Assign_Name_used _ _ _ _ hsw];refine dy<|wpAny_standAt<|dy ?_;show wpAny _ _ (do let _<-comprehension (.ListComp z_ [⟨x_,y_,A_,0⟩] scope pos) scope X.env _ (newList []) false (eval y_ X.env) (some<|assign (.Name x px) X.env)) _ _ s
 refine dy<|sh (sj hc hi S hB I (use:=some<|assign (.Name x px) X.env) (Post:=λ_ l=>SP X d D .next l) h (λc C l F m A hn r q=>?_) hs) (λ_ l hq=>fO<|fO hq) λ_ _ e=>e;show wpAny _ _ (assign (.Name x px) X.env<|.ref c) _ _ _;refine wpAny_assign_Name<|rM A hN hi' (.inl hx) (show RelV (.ref c) _ from rfl) (λv B ⟨a,f,y⟩=>?_)<|.inr hx
 obtain⟨t,n,G,E,p,w⟩:=r;have j:C≠a:=by
  rcases y with z|z
  ·rw[z];exact n
  ·exact λe=>p x a z e.symm
 refine⟨m,hn.sameBut f j,λJ u=>?_⟩;exact⟨_,F,B.turned (t':=v.toks) (λb o hb e=>u.extBut b o hb e) t n E p w,q⟩
def Bt(k:Nat)(i:Int):Prop:=i.natAbs<2 ^ k
variable{i:Int}{m:Nat}
def Bt.mono{k:Nat}(h:Bt k i)(hk:k<=m):Bt m i:=j5 h (qc a_ hk)
variable{a b:Nat}{j:Int}
def Bt.mul(h:Bt a i)(h':Bt b j):Bt (a+b) (i*j):=by
 unfold Bt at *;rw[Int.natAbs_mul,Nat.pow_add];exact Nat.mul_lt_mul'' h h'
def Bt.of_le(h:Bt a i)(h0:0<=j)(h1:j<=i):Bt a j:=by
 unfold Bt at *
 omega
def Bt.ok(h:Bt a i)(h':Bt b j)(hs:a+b<=100000):IntMulOk i j:=
 PySem.IntMulOk.of_le (PySem.intBits_le_iff.mpr h) (PySem.intBits_le_iff.mpr h') (by omega)
def Bt.log(h:Bt a i)(h0:0<i)(ha:a<=9000):i.natAbs.log2<9000:=
 j5 ((log2_lt (by omega)).mpr h) ha
def nX(h1:-(2 ^ 64)<i)(h2:i<2 ^ 64):IntMulOk i j:=.of_left<|intBits_le_64 h1 h2
def oU(h1:-(2 ^ 64)<j)(h2:j<2 ^ 64):IntMulOk i j:=.of_right<|intBits_le_64 h1 h2
def dH:dU X (binaryOp .Mult) (rI IntMulOk λi j=>.int<|i*j):=Oe λ_ _ _ _ _ _ _ hc q=>mul_int q hc
def c7:dU X (binaryOp .FloorDiv) (rI (λ_ j=>0<j/\j.natAbs.log2<9000) λi j=>.int<|i / j):=Oe λi j _ _ _ _ _ hc q=>by
 have h1:(0:Int)<j:=hc.1;exact floordiv_int (by omega) (by rw[Int.fdiv_eq_ediv_of_nonneg i (by omega)];exact q)<|.inl<|PyProof.noPylong_of_log2 hc.2
def tI(f:Int->V)(ta:TE):TE:=λσ H Q=>ta σ H λx H1=>∃i,x=.int i/\Q (f i) H1
variable{a:Expr}{ta:TE}{k:Nat}{n:Int}
def JU(ha:PE X a ta)(h:0<n/\n<1073741824:=by decide):PE X (.BinOp a .FloorDiv (.Constant (.int n) k pos') pos) (tI (λi=>.int<|i / n) ta):=by
 intro b s σ H Q I hq;refine vJ Jq ha lO b s σ H Q I ?_;refine(show ∀t:TE,PE X a t->_ from λ_ _=>?_) ta ha
 exact(show tG (rI Of λi j=>.int<|i / j) ta (tC<|.int n) σ H Q from by
  unfold tG tC rI;unfold tI at hq
  have:(λx H1=>∃i,x=V.int i/\Q (.int<|i / n) H1)=(λx H1=>∃i j,x=V.int i/\V.int n=V.int j/\Of i j/\Q (.int<|i / j) H1):=by
   funext x H1
   apply propext
   constructor
   ·rintro⟨i,e,q⟩;exact⟨i,n,e,rfl,h,q⟩
   ·rintro⟨i,j,e,c,_,q⟩;cases c;exact⟨i,e,q⟩
  rw[this]at hq;exact hq)
def JV(ha:PE X a ta)(h:0<n:=by decide):PE X (.BinOp a .Mod (.Constant (.int n) k pos') pos) (tI (λi=>.int<|i%n) ta):=by
 intro b s σ H Q I hq;refine vJ bO ha lO b s σ H Q I ?_;unfold tG tC rI;unfold tI at hq
 have:(λx H1=>∃i,x=V.int i/\Q (.int<|i%n) H1)=(λx H1=>∃i j,x=V.int i/\V.int n=V.int j/\0<j/\Q (.int<|i%j) H1):=by
  funext x H1
  apply propext
  constructor
  ·rintro⟨i,e,q⟩;exact⟨i,n,e,rfl,h,q⟩
  ·rintro⟨i,j,e,c,_,q⟩;cases c;exact⟨i,e,q⟩
 rw[this]at hq;exact hq
def JW(ha:PE X a ta)(h:-(2 ^ 64)<n/\n<2 ^ 64:=by decide):PE X (.BinOp a .Mult (.Constant (.int n) k pos') pos) (tI (λi=>.int<|i*n) ta):=by
 intro b s σ H Q I hq;refine vJ dH ha lO b s σ H Q I ?_;unfold tG tC rI;unfold tI at hq
 have:(λx H1=>∃i,x=V.int i/\Q (.int<|i*n) H1)=(λx H1=>∃i j,x=V.int i/\V.int n=V.int j/\IntMulOk i j/\Q (.int<|i*j) H1):=by
  funext x H1
  apply propext
  constructor
  ·rintro⟨i,e,q⟩;exact⟨i,n,e,rfl,oU h.1 h.2,q⟩
  ·rintro⟨i,j,e,c,_,q⟩;cases c;exact⟨i,e,q⟩
 rw[this]at hq;exact hq
def JX(ha:PE X a ta)(h:-(2 ^ 64)<n/\n<2 ^ 64:=by decide):PE X (.BinOp (.Constant (.int n) k pos') .Mult a pos) (tI (λi=>.int<|n*i) ta):=by
 intro b s σ H Q I hq;refine vJ dH lO ha b s σ H Q I ?_;unfold tG tC rI;unfold tI at hq
 have:(λx H1=>∃i,x=V.int i/\Q (.int<|n*i) H1)=(λx H1=>∃i j,V.int n=V.int i/\x=V.int j/\IntMulOk i j/\Q (.int<|i*j) H1):=by
  funext x H1
  apply propext
  constructor
  ·rintro⟨i,e,q⟩;exact⟨n,i,rfl,e,nX h.1 h.2,q⟩
  ·rintro⟨i,j,c,e,_,q⟩;cases c;exact⟨j,e,q⟩
 rw[this]at hq;exact hq
def Fe(hc:X.calm=true):bJ X (.builtin "sum") (λxs H Q=>∃(p:Addr) (ns:e_),xs=[.ref p]/\ay X.K H p (ns.map V.int)/\Q (.int ns.sum) H):=by
 intro e s σ H xs l Q I r h;obtain⟨p,ns,rfl,hq,q⟩:=h;obtain⟨u,rfl,g⟩:=vals1 r
 cases g
 obtain⟨a,i,j,o⟩:=I.list hq;have hi:=intsAre_of i;obtain⟨m,hn,_⟩:=I.loc;have b:s.heap.IsList p a.toArray:=j.isList;obtain⟨xs,d⟩:=hi.allInts.items;rw[d]at b;refine PySem.sum_intListG (I.ok.hd hc) b λn t f hk=>⟨.int ns.sum,H,I.kept hk,⟨f,?_⟩,q⟩;have c:(numsOf a.toArray.toList)=ns:=by rw[show a.toArray.toList=a from rfl,hi.numsOf]
 rw[d,nums_intItems]at c;rw[preSum_eq,AC (by simp),<-c]
noncomputable def tyName:V->Hp->Option String
 |.bA,_=>some "NoneType"
 |.bl _,_=>some "bool"
 |.int _,_=>some "int"
 |.str _,_=>some "str"
 |.ref a,H=>match H a with
  |some (.lst _)=>some "list"
  |some (.tup _)=>some "tuple"
  |some (.dK _)=>some "dict"
  |_=>none
 |_,_=>none
variable{b:Expr}{n:String}
def CB{x:V}(h:tyName x H=some n):lS K H x (.type n):=by
 cases x with
 |bA=>cases h;exact .bA
 |bl b=>cases h;exact .bl b
 |int i=>cases h;exact .int i
 |str y=>cases h;exact .str y
 |ref a=>
  unfold tyName at h
  cases e:H a with
  |none=>simp[e]at h
  |some o=>
   cases o<;>simp[e]at h
   ·subst h;exact .lst e
   ·subst h;exact .tup e
   ·subst h;exact .dK e
 |Tw _=>cases h
 |NC _=>cases h
 |ty _=>cases h
noncomputable def JY(n T:String):Option Bool:=kitOne [] (.type n)<|.type T
def JZ{T:String}:kitOne K (.type n) (.type T)=JY n T:=rfl
def Ff:bJ X (.builtin "isinstance") (λxs H Q=>∃x T n b,xs=[x,.ty T]/\tyName x H=some n/\JY n T=some b/\Q (.bl b) H):=by
 intro a s σ H xs f Q I r h;obtain⟨x,T,n,b,rfl,hn,hb,q⟩:=h;obtain⟨u,v,rfl,d,c⟩:=r.two
 cases(show v=Value.type T from c)
 exact Cp I d (CB hn) (JZ.trans hb) λe=>⟨.bl b,H,I.tok e,rfl,q⟩
end L2
namespace L2
open PySem PySem.Spec PyProof.Rows
mutual
inductive Dt(K:Frag)(H:Hp):V->PyData->Prop where
 |bA:Dt K H .bA .none
 |bl (b):Dt K H (.bl b) (.bool b)
 |int (i):Dt K H (.int i) (.int i)
 |str (x):Dt K H (.str x) (.str x)
 |lst {a xs ds}:ay K H a xs->dI K H xs ds->Dt K H (.ref a) (.list ds)
 |tup {a xs ds}:aP K H a xs->dI K H xs ds->Dt K H (.ref a) (.tuple ds)
inductive dI(K:Frag)(H:Hp):u_->List PyData->Prop where
 |nil:dI K H [] []
 |cons {x xs d ds}:Dt K H x d->dI K H xs ds->dI K H (x::xs) (d::ds)
end
variable{X:Cx}
mutual
theorem Dt.reads{w_:aO0}{σ:St}{H:Hp}{s:Shared}(I:Inv X w_ σ H s):∀ {x:V} {d:PyData} {u:Value},Dt X.K H x d->RelV x u->∃as,Reads s.heap u d as
 |_,_,_,.bA,r=>by cases r;exact⟨_,.none⟩
 |_,_,_,.bl b,r=>by cases r;exact⟨_,.bool b⟩
 |_,_,_,.int i,r=>by obtain⟨t,rfl⟩:=r;exact⟨_,.int i t⟩
 |_,_,_,.str x,r=>by obtain⟨t,rfl⟩:=r;exact⟨_,.str x t⟩
 |_,_,_,.lst h g,r=>by
  cases r
  obtain⟨f,j,⟨o,n,e,c,l,a⟩,_⟩:=I.list h;obtain⟨as,q⟩:=dI.reads I g j;exact⟨_,.list e c a (by simpa using q)⟩
 |_,_,_,.tup h g,r=>by
  cases r
  obtain⟨f,j,⟨o,e,c,n,a⟩,_⟩:=I.tuple h;obtain⟨as,q⟩:=dI.reads I g j;exact⟨_,.tuple e c a (by simpa using q)⟩
theorem dI.reads{w_:aO0}{σ:St}{H:Hp}{s:Shared}(I:Inv X w_ σ H s):∀ {xs:u_} {ds:List PyData} {us:f'},dI X.K H xs ds->Vals xs us->∃as,ReadsAll s.heap us ds as
 |_,_,_,.nil,r=>by cases r;exact⟨_,.nil⟩
 |_,_,_,.cons h b,r=>by
  cases r with
  |cons r c=>
   obtain⟨as,q⟩:=Dt.reads I h r;obtain⟨bs,a⟩:=dI.reads I b c;exact⟨_,.cons q a⟩
end
def OI(hu:X.A.units+64<cLine):dU X (compareOp .Eq) (λx y H Q=>∃d d',Dt X.K H x d/\Dt X.K H y d'/\shaped d=true/\shaped d'=true/\Q (.bl<|PyData.eqv d d') H):=by
 intro a s σ H x y v u Q I e f h;obtain⟨d,d',h1,b,j,c,q⟩:=h;obtain⟨l,i⟩:=h1.reads I e;obtain⟨bs,g⟩:=b.reads I f;exact eq_dataH i g j c hu ⟨.bl _,H,I,rfl,q⟩
def OJ(hu:X.A.units+64<cLine):dU X (compareOp .NotEq) (λx y H Q=>∃d d',Dt X.K H x d/\Dt X.K H y d'/\shaped d=true/\shaped d'=true/\Q (.bl<|!PyData.eqv d d') H):=by
 intro a s σ H x y v u Q I e f h;obtain⟨d,d',h1,b,j,c,q⟩:=h;obtain⟨l,i⟩:=h1.reads I e;obtain⟨bs,g⟩:=b.reads I f;exact ne_dataH i g j c hu ⟨.bl _,H,I,rfl,q⟩
theorem dI.ints{K:Frag}{H:Hp}:∀ns:e_,dI K H (ns.map V.int)<|ns.map PyData.int
 | []=>.nil
 |n::r=>.cons (.int n)<|dI.ints r
theorem m7:∀ns ms:e_,PyData.eqvAll (ns.map PyData.int) (ms.map PyData.int)=decide (ns=ms)
 | [],[]=>by simp[PyData.eqvAll]
 | [],_::_=>by simp[PyData.eqvAll]
 |_::_,[]=>by simp[PyData.eqvAll]
 |n::r,m::q=>by
  simp only[map_cons,PyData.eqvAll,PyData.eqv,m7 r q]
  by_cases h:n=m<;>simp[h]
def kY(ns:e_):shaped (.list<|ns.map .int)=true:=PySem.W.shaped_ints ns
def J0:dU X (binaryOp .Add) (λx y H Q=>∃l b xs zs,x=.ref l/\y=.ref b/\ay X.K H l xs/\ay X.K H b zs/\xs.length+zs.length<=sizeLine/\∀p,H p=none->Q (.ref p) (upd H p<|.lst<|xs++zs)):=by
 intro t s σ H x y v u Q I O R h;obtain⟨l,b,xs,zs,rfl,rfl,G,J,C,q⟩:=h
 cases O
 cases R
 obtain⟨c,r,⟨⟨M,S,m,E⟩,n,e,B,z,o⟩,_⟩:=I.list G;obtain⟨a,D,⟨⟨A,L,j,i⟩,N,w,g,f,d⟩,_⟩:=I.list J
 simp only at B z o g f d
 subst B z o g f d;refine concat_meets ⟨_,e,rfl⟩ ⟨_,w,rfl⟩ noFill_list_add seq_list_add PySem.F.slot_list_add PySem.F.entry_list_add (PySem.F.args_list_add_2 _ _) (list_addW l b c.toArray a.toArray n N none none E i (by rw[gd,gd,<-r.length,<-D.length];exact C)) ⟨e,w,?_⟩
 have P:c.toArray++a.toArray=(c++a).toArray:=by simp
 rw[P];exact⟨.ref _,_,I.OA (t':=s.toks) (r.append D) (by rw[eR];exact C),rfl,q _ I.fresh⟩
structure Def(K:Frag)(mg:b_)(x:Str)(st:Stmt):Prop where
 ex:∃f fd,IS K x x st f fd/\mg x=some (.ref f)
structure Fn(P:Program)(w:World)(K:Frag)(mg:b_)(base:Heap)(k:Nat)(x:Str)(ps:f_)(sp:Sp):Prop where
 ex:∃f fd,eh P w K mg base Cy k f fd ps sp/\mg x=some (.ref f)/\keepIn K (.ref f)=true/\Binds K fd ps []
variable{P:Program}{w:World}{K:Frag}{mg:b_}{base:Heap}{k:Nat}{x:Str}{N ps:f_}{sp:Sp}{st:Stmt}
def Def.fn(D:Def K mg x st)(S:kR N ps (aj st))
  (hb:∀(kV doc pm:Value) (an:h_) (cy ct:Value) (us:f'),us.length=ps.length->bindArgs (fnOf x x (bw st) (aS st) (aj st) .none kV doc pm an cy ct) ⟨us,[]⟩=pure (ps.zip us))
  (len:∀vs H Q E,sp vs H Q E->vs.length=ps.length)
  (cX:∀(f:Addr) (cy:Value) (A:Around) (outer:List Env) (s:Shared) (H:Hp) (vs:u_) (Q:VK) (E:XK),ck k (A.deeper<|envOfC x (aj st) s.heap.objs.size f cy)->sp vs H Q E->
   ∃t,yn (fP Cy P w K mg base N x (aj st) f cy A outer s H E).Mc (aS st) t/\t {nx:=λ_ H'=>Q .bA H',rt:=Q} (start N vs) H):Fn P w K mg base (k+1) x ps sp:=by
 obtain⟨f,a,F,m⟩:=D.ex;exact⟨f,a,F.ok S len λcy A outer s H vs Q E=>cX f cy A outer s H vs Q E,m,F.kp,F.binds hb⟩
variable{m:Nat}{p pos:Pos}{e:Expr}{es:i_}{t:TA}
def Q3(F:Fn X.prog X.w X.K X.mg X.base k x ps sp)(hr:ck m X.A)(hg:Gl X x)(ha:PA X (e::es) t)(hk:k<=m:=by decide)
  (hdb:(x==("__debug__":Str))=false:=by decide) (he:starEach (e::es) X.env=(false,eval e X.env)::starEach es X.env:=by rfl) (hpl:(backTo pos<|starEach es X.env).any (·.1)=false:=by rfl):
  PE X (.Call (.Name x p) (e::es) [] pos) (oM sp [] E0 t):=by
 obtain⟨f,b,F,hm,a,hb⟩:=F.ex;exact tH F (hr.mono hk) hg hm a hb .nil Me ha hdb he hpl
def OK{h:Heap}{f:Addr}{oc:Value}{od an:h_}{osl:Array (g_)}{kV doc pm cy ct:Value}(X:K.In h)(G:h.Ns mainGlobals mg)
  (a:nsIn K mainGlobals x=some (some<|.ref f)) (l:K.lookup f=some ⟨oc,od,.func<|fnOf x x (bw st) (aS st) (aj st) .none kV doc pm an cy ct,osl⟩)
  (c:codeIn K cy x=true) (k:keepIn K (.ref f)=true):Def K mg x st:=⟨f,_,yL l c k,mg_of X G a⟩
def OL{T:String}{pos:Pos}(hg:Gl X x)(hm:X.mg x=none)(hv:bootBuiltins x=some (.type T))(hn:x≠"__name__":=by decide)(hd:(x==("__debug__":Str))=false:=by decide):PE X (.Name x pos) (tC<|.ty T):=
 Jf hg hm hv rfl hn hd
variable{H:Hp}{Q:VK}{σ:St}
def Q4{i:Nat}{v:V}(h:σ[i]?=some (some v)):tE i σ H Q=Q v H:=by
 unfold tE;rw[h];simp
def Ua{v:V}:tC v σ H Q=Q v H:=rfl
def OM{r:R2}{ta tb:TE}:tG r ta tb σ H Q=ta σ H λx H1=>tb σ H1 λy H2=>r x y H2 Q:=rfl
def Q5{r:V->Hp->VK->Prop}{ta:TE}:T5 r ta σ H Q=ta σ H λx H1=>r x H1 Q:=rfl
variable{g:Int->Int->V}
def Mh{i j:Int}:Ec g (.int i) (.int j) H Q=Q (g i j) H:=by unfold Ec;simp
def Q6{C:Int->Int->Prop}{i j:Int}:rI C g (.int i) (.int j) H Q=(C i j/\Q (g i j) H):=by unfold rI;simp
def Q7{g:Int->V}{i:Int}:rU g (.int i) H Q=Q (g i) H:=by unfold rU;simp
def rT(f:Int->V):V->Hp->VK->Prop:=λx H Q=>∃i,x=.int i/\Q (f i) H
variable{f:Int->V}
def Q8{ta:TE}:tI f ta σ H Q=ta σ H λx H1=>rT f x H1 Q:=rfl
def Q9{i:Int}:rT f (.int i) H Q=Q (f i) H:=by unfold rT;simp
def rB(x:V)(H:Hp)(Q:Bool->r_):Prop:=∃k,x=.bl k/\Q k H
variable{Q:Bool->r_}
def vV{b:Bool} :rB (.bl b) H Q=Q b H:=by unfold rB;simp
variable{t:TE}
def Fg:vK t σ H Q=t σ H λx H'=>rB x H' Q:=rfl
def Ra:tB t σ H Q=t σ H λx H'=>rB x H' Q:=rfl
variable{t:TT}
def Fh:NT t σ H Q=t σ H λc H1=>Q (!c) H1:=rfl
variable{u:TT}
def Fi:NS t u σ H Q=t σ H λc H1=>if c=true then u σ H1 Q else Q false H1:=rfl
def Mi:TZ t u σ H Q=t σ H λc H1=>if c=true then Q true H1 else u σ H1 Q:=rfl
variable{Q:VK}{u t:TE}
def Fj:En t u σ H Q=t σ H λx H1=>rB x H1 λc H2=>if c=true then u σ H2 Q else Q (.bl false) H2:=rfl
def Mj:NX t u σ H Q=t σ H λx H1=>rB x H1 λc H2=>if c=true then Q (.bl true) H2 else u σ H2 Q:=rfl
def Fo:Eo t σ H Q=t σ H λx H1=>rB x H1 λc H2=>Q (.bl<|!c) H2:=rfl
def Bb{r r':R2}{ta tb tc:TE}:oJ r r' ta tb tc σ H Q=ta σ H λx H1=>tb σ H1 λy H2=>r x y H2 λz H3=>rB z H3 λk H4=>if k=true then tc σ H4 λw' H5=>r' y w' H5 Q else Q (.bl false) H4:=rfl
def Ml{t:TT}{ta tb:TE}:T1 t ta tb σ H Q=t σ H λc H1=>if c=true then ta σ H1 Q else tb σ H1 Q:=rfl
variable{Q:u_->r_}
def Mm:vL σ H Q=Q [] H:=rfl
def Fp{ta:TE}{tr:TA} :vM ta tr σ H Q=ta σ H λx H1=>tr σ H1 λxs H2=>Q (x::xs) H2:=rfl
variable{Q:VK}{E:XK}{t:TA}
def Fq{oC:u_} :oM sp oC E t σ H Q=t σ H λvs H1=>sp (vs++oC) H1 Q E:=rfl
def Rb{r:u_->Hp->VK->Prop} :Oo r t σ H Q=t σ H λvs H1=>r vs H1 Q:=rfl
def Mn:Jy t σ H Q=t σ H λxs H1=>xs.length<=sizeLine/\∀p,H1 p=none->Q (.ref p) (upd H1 p<|.tup xs):=rfl
def Mo:Jz t σ H Q=t σ H λxs H1=>xs.length<=sizeLine/\∀p,H1 p=none->Q (.ref p) (upd H1 p<|.lst xs):=rfl
variable{r:V->u_->Hp->VK->Prop}
def Rc{T:String}{to:TE} :QV K T r to t σ H Q=to σ H λx H1=>QU K T x H1/\t σ H1 λvs H2=>r x vs H2 Q:=rfl
def Mp{T:String}{to:TE}:JI K T r to σ H Q=to σ H λx H1=>QU K T x H1/\r x [] H1 Q:=rfl
def Rf{r:V->j_->j_->Hp->VK->Prop}{te:TE}{tl th:TO}:T6 r te tl th σ H Q=te σ H λx H1=>tl σ H1 λl H2=>th σ H2 λh H3=>r x l h H3 Q:=rfl
variable{Q:j_->r_}
def vW:tJ σ H Q=Q none H:=rfl
def rP(x:V)(H:Hp)(Q:j_->r_):Prop:=∃i,x=.int i/\Q (some i) H
def Fs{t:TE} :EH t σ H Q=t σ H λx H1=>rP x H1 Q:=rfl
def Rg{i:Int} :rP (.int i) H Q=Q (some i) H:=by unfold rP;simp
variable{Q:VK}{g:TG}
def Rh{wi:TI}{tc:TT}{te:TE}{fv:List (Option Nat)}:OH wi g tc te fv σ H Q=wi σ H (vB g tc te (yP fv σ) Q):=rfl
def jZ{Q:Bool->r_}:iL σ H Q=Q true H:=rfl
variable{D:Ends}
def Ft:vG D σ H=D.nx σ H:=rfl
variable{u t:TS}
def Ri:oH t u D σ H=t {D with nx:=u D} σ H:=rfl
def Fu{te:TE}:Es te D σ H=te σ H λ_ H1=>D.nx σ H1:=rfl
def Mq{te:TE}:N1 te D σ H=te σ H D.rt:=rfl
variable{c:TT}
def Mr:N3 c t u D σ H=c σ H λb H1=>if b=true then t D σ H1 else u D σ H1:=rfl
def Ms{te:TE} :qx te g D σ H=te σ H λx H1=>g x σ H1 D.nx:=rfl
variable{i:Nat}
def yQ{v:V}{σ:St}{Q:p_}:bF i v σ H Q=Q (σ.set i<|some v) H:=rfl
def Mt{to ti:TE}{t:Et}{v:V}{σ:St}{Q:p_}:N6 to ti t v σ H Q=to σ H λo H1=>ti σ H1 λi H2=>t o i v H2 λH3=>Q σ H3:=rfl
variable{tl:TE}{R:It->r_}
def Bc{σ:St} :AV K tl σ H R=tl σ H λx H1=>∃a,x=.ref a/\(∃xs,ay K H1 a xs)/\R (IQ K a) H1:=rfl
def Fv{σ:St} :Jm K tl σ H R=tl σ H λx H1=>∃a,x=.ref a/\(∃xs,aP K H1 a xs)/\R (Eb K a) H1:=rfl
def Bd{ta:TA}{σ:St} :AW ta σ H R=ta σ H λvs H1=>∃j:Int,vs=[.int j]/\-(2 ^ 62)<=j/\j<2 ^ 62/\R (AU 0 j.toNat) H1:=rfl
def qB(g:TG)(tb:TS)(D:Ends)(σ:St):It->r_:=λJ H1=>∃W:Nat->o_,(∃m,W 0 m σ H1)/\∀i m σ H,W i m σ H->
 (J.stop i H/\D.nx σ H)∨(J.go i H/\∃N:p_,(∀σ' H',N σ' H'->∃m',m' < m/\W (i+1) m' σ' H')/\∀x H',J.Aw i H x H'->g x σ H' λa b=>tb {D with nx:=N,ct:=N,bk:=D.nx} a b)
variable{tb:TS}
def Mu{wi:TI}{σ:St} :Ob wi g tb D σ H=wi σ H (qB g tb D σ):=rfl
variable{p:Addr}
def ag.new(h:H p=none)(o:HO):ag H (upd H p o):=λb u q=>by rw[aK (bG q h)];exact q
variable{a:Addr}{xs:u_}
def ag.aO{H':Hp}(e:ag H H')(h:aP K H a xs):aP K H' a xs:=by
 rcases h with (h|⟨o,h⟩)|h
 ·exact .inl<|.inl<|e _ _ h
 ·exact .inl<|.inr ⟨o,e _ _ h⟩
 ·exact .inr h
def ag.set{H':Hp}(e:ag H H')(h:H p=none)(o:HO):ag H (upd H' p o):=λb u q=>by rw[aK (bG q h)];exact e b u q
structure vX(J:It)(H1:Hp)(n:Nat)(item:Nat->V):Prop where
 go:∀i H,ag H1 H->i<n->J.go i H
 stop:∀i H,ag H1 H->n<=i->J.stop i H
 Aw:∀i H x H',ag H1 H->i<n->J.Aw i H x H'->H'=H/\x=item i
def gB{H1:Hp}(h:aP K H1 a xs):vX (Eb K a) H1 xs.length λi=>xs.getD i .bA where
 go:=λi H e hi=>⟨xs,xs[i],e.aO h,by simp[hi]⟩
 stop:=λi H e hi=>⟨xs,e.aO h,hi⟩
 Aw:=λi H x c e hi y=>by
  obtain⟨b,y⟩:=y
  have:=y xs<|e.aO h
  refine⟨b,?_⟩;show x=xs.getD i .bA;rw[b4,this];rfl
def bV{H1:Hp}(h:ay K H1 a xs):vX (IQ K a) H1 xs.length λi=>xs.getD i .bA where
 go:=λi H e hi=>⟨xs,xs[i],e.seq h,by simp[hi]⟩
 stop:=λi H e hi=>⟨xs,e.seq h,hi⟩
 Aw:=λi H x c e hi y=>by
  obtain⟨b,y⟩:=y
  have:=y xs<|e.seq h
  refine⟨b,?_⟩;show x=xs.getD i .bA;rw[b4,this];rfl
variable{n:Nat}
def ft{H1:Hp}{lo:Int} :vX (AU lo n) H1 n λi=>.int (lo+i) where
 go:=λi H e hi=>hi
 stop:=λi H e hi=>hi
 Aw:=λi H x a e hi y=>y
def TH(T:Nat->St->Prop)(F:Nat->u_)(H1:Hp)(B_:Addr)(i:Nat):p_:=λb a=>T (i+1) b/\ag H1 a/\a B_=some (.lst<|F<|i+1)
variable{B_:Addr}
def ON{T:Nat->St->Prop}{F:Nat->u_}{H1 H4:Hp}{τ:St}{v:V}(hn:H1 B_=none)(h:H4 B_=some (.lst<|F i))(hs:ag H1 H4)(hz:(F i).length<sizeLine)(hF:F (i+1)=F i++[v])(hT:T (i+1) τ):
  ∃ys,H4 B_=some (.lst ys)/\ys.length<sizeLine/\TH T F H1 B_ i τ (upd H4 B_<|.lst<|ys++[v]):=
 ⟨F i,h,hz,hT,hs.set hn _,by rw[af,hF]⟩
variable{J:It}{item:Nat->V}
def OO{tc:TT}{te:TE}{τ0:St}{H1:Hp}(ok:vX J H1 n item)(F:Nat->u_)(T:Nat->St->Prop)
  (h0:F 0=[]) (hT:T 0 τ0)
  (step:∀i τ H B_,i<n->T i τ->H1 B_=none->ag H1 H->H B_=some (.lst<|F i)->g (item i) τ H λτ2 H2=>tc τ2 H2 λb H3=>
   if b=true then te τ2 H3 λv H4=>∃ys,H4 B_=some (.lst ys)/\ys.length<sizeLine/\TH T F H1 B_ i τ2 (upd H4 B_<|.lst<|ys++[v])else TH T F H1 B_ i τ2 H3)
  (fin:∀B_ H,H1 B_=none->ag H1 H->H B_=some (.lst<|F n)->Q (.ref B_) H):vB g tc te τ0 Q J H1:=by
 intro B_ d;refine⟨λi m τ H=>m=n-i/\i<=n/\T i τ/\ag H1 H/\H B_=some (.lst<|F i),⟨n,by simp,zero_le _,hT,ag.new d _,by rw[af,h0]⟩,?_⟩
 rintro i m τ H ⟨rfl,hi,j,h,o⟩
 by_cases f:i<n
 ·refine .inr ⟨ok.go i H h f,TH T F H1 B_ i,λp l ⟨a,b,c⟩=>⟨n-(i+1),by omega,rfl,f,a,b,c⟩,λx l y=>?_⟩
  obtain⟨rfl,rfl⟩:=ok.Aw i H x l h f y;exact step i τ l B_ f j d h o
 ·have e:i=n:=by omega
  subst e;exact .inl ⟨ok.stop i H h<|ey _,fin B_ H d h o⟩
def Ka{σ:St}(Pv:p_)(μ:St->Nat)(h0:Pv σ H)
  (hs:∀σ H,Pv σ H->c σ H λb H1=>if b=true then ∃N:p_,(∀σ' H',N σ' H'->∃m',m' < μ σ/\m'=μ σ'/\Pv σ' H')/\tb {D with nx:=N,ct:=N,bk:=D.nx} σ H1 else D.nx σ H1):tF c tb D σ H:=
 ⟨λm σ H=>m=μ σ/\Pv σ H,⟨_,rfl,h0⟩,λm σ H ⟨e,p⟩=>by subst e;exact hs σ H p⟩
def Kb{Pv:p_}{μ:St->Nat}{σ:St}{R:(p_)->Prop}(h:R λσ' H'=>Pv σ' H'/\μ σ' < μ σ):
  ∃N:p_,(∀σ' H',N σ' H'->∃m',m' < μ σ/\m'=μ σ'/\Pv σ' H')/\R N:=⟨_,λ_ _ ⟨p,l⟩=>⟨_,l,rfl,p⟩,h⟩
def yR{v:V}{σ:St} :tE 0 (some v::σ) H Q=Q v H:=Q4 rfl
def Fw{o:v_}{σ:St} :tE (i+1) (o::σ) H Q=tE i σ H Q:=rfl
def OP(osc:Scope)(oN N:f_)(scope:Scope)(fv:List (Option Nat)):Bool:=
 decide (scope.kind=.function)&&decide (osc.kind=.function)&&scope.names.all (λy=>decide<|y.2≠.cell)&&scope.names.all (λy=>decide<|y.2=.local->scope.names.lookup y.1=some .local)&&
 scope.names.all (λy=>decide<|y.2=.free->osc.names.lookup y.1=some .cell)&&(rl scope osc).names.all (λy=>decide<|y.2≠.free)&&decide (fv.length=N.length)&&decide (N.length<20)&&
 (List.range N.length).all (λi=>match fv[i]? with
  |some (some j)=>decide (oN[j]?=N[i]?)&&(match N[i]? with|some x=>decide ((rl scope osc).names.lookup x=some .cell)&&decide (osc.names.lookup x=some .cell)|none=>false)
  |_=>true)
variable{osc:Scope}{oN:f_}
def OQ{scope:Scope}{fv:List (Option Nat)}(h1:X.env.scope=osc)(h2:X.N=oN)(h:OP osc oN N scope fv=true):Qp X.env.scope X.N N scope fv:=by
 rw[h1,h2];unfold OP at h;simp only[Bool.and_eq_true,List.all_eq_true,decide_eq_true_eq]at h;obtain⟨⟨⟨⟨⟨⟨⟨⟨m,g⟩,o⟩,l⟩,f⟩,d⟩,a⟩,n⟩,c⟩:=h;refine⟨m,g,o,l,f,d,a,λi j _ e=>?_,n⟩;have hi:i<N.length:=by rw[<-a];exact(nt.mp e).1
 have q:=c i<|mv.mpr hi;rw[e]at q;simp only[Bool.and_eq_true,decide_eq_true_eq]at q;refine⟨q.1,λx hx=>?_⟩;have b:=q.2;rw[hx]at b
 simpa using b
def Fx(e:Expr):Bool:=match e with
 |.Starred _ _=>false
 |_=>true
def bb{env:Env}(h:Fx e=true):starEach (e::es) env=(false,eval e env)::starEach es env:=by
 cases e<;>first|rfl|cases h
theorem cA{pos:Pos}{env:Env}:∀ {es:i_},es.all Fx=true->(backTo pos<|starEach es env).any (·.1)=false
 | [],_=>rfl
 |e::es,h=>by
  rw[VL,fz]at h;rw[bb h.1];show(false||(backTo pos<|starEach es env).any (·.1))=false;rw[cA h.2];rfl
theorem lV{pos:Pos}{env:Env}:∀ {es:i_},es.all Fx=true->(backTo pos<|starEach es env).all (λx=>!x.1)=true
 | [],_=>rfl
 |e::es,h=>by
  rw[VL,fz]at h;rw[bb h.1];show(true&&(backTo pos<|starEach es env).all (λx=>!x.1))=true;rw[lV h.2];rfl
structure PB(X:Cx)(es:i_)(t:TA):Prop where
 pa:PA X es t
 ns:es.all Fx=true
def yS:PB X [] vL:=⟨Oh,rfl⟩
variable{te:TE}{t:TA}
def tU(ha:PE X e te)(hr:PB X es t)(hn:Fx e=true:=by rfl):PB X (e::es) (vM te t):=
 ⟨Jx ha hr.pa<|bb hn,by rw[VL,hn,hr.ns];rfl⟩
def PB.he(h:PB X (e::es) t):Fx e=true:=by have:=h.ns;rw[VL,fz]at this;exact this.1
def PB.Be(h:PB X (e::es) t):es.all Fx=true:=by have:=h.ns;rw[VL,fz]at this;exact this.2
def Rj{x1}(h:PB X es t):PE X (.Tuple es x1 pos) (Jy t):=Oi h.pa
def Rk(h:PB X es t):PE X (.List es pos) (Jz t):=Oj h.pa
structure Sc(X:Cx)(N W G:f_):Prop where
 eN:X.N=N
 nd:N.Nodup
 Tx:∀x∈N,TB X.env.scope x/\(x==("__debug__":Str))=false/\(x==("__classdict__":Str))=false
 Tu:∀x∈W,Loc X.env.scope x/\(X.fn x=true∨X.env.scope.names.lookup x=some .local)
 gl:∀x∈G,Gl X x/\(x==("__debug__":Str))=false/\x≠"__name__"
def Fy(sc:Scope)(x:Str):Bool:=(sc.names.lookup x==some .local||sc.names.lookup x==some .cell||sc.names.lookup x==some .free)&&!(x==("__debug__":Str))&&!(x==("__classdict__":Str))
def tV{sc:Scope}(h:Fy sc x=true):TB sc x/\(x==("__debug__":Str))=false/\(x==("__classdict__":Str))=false:=by
 unfold Fy at h;simp only[Bool.and_eq_true,Bool.or_eq_true,beq_iff_eq,Bool.not_eq_true']at h;obtain⟨⟨h1,a⟩,b⟩:=h;refine⟨?_,a,b⟩
 rcases h1 with (h1|h1)|h1
 ·exact .inl h1
 ·exact .inr<|.inl h1
 ·exact .inr<|.inr h1
def Rl(sc:Scope)(x:Str):Bool:=sc.names.lookup x==some .globalImplicit&&!(x==("__debug__":Str))&&!(x==("__name__":Str))
def yT{sc:Scope}(h:Rl sc x=true):sc.names.lookup x=some .globalImplicit/\(x==("__debug__":Str))=false/\x≠"__name__":=by
 unfold Rl at h;simp only[Bool.and_eq_true,beq_iff_eq,Bool.not_eq_true',beq_eq_false_iff_ne]at h;exact⟨h.1.1,by simpa using h.1.2,h.2⟩
def UL(sc:Scope)(N ps G:f_):Bool:=
 decide (sc.kind=.function)&&!sc.isCoroutine&&!sc.isGenerator&&decide N.Nodup&&decide (N.take ps.length=ps)&&ps.all (λx=>sc.names.lookup x==some .local||sc.names.lookup x==some .cell)&&
 sc.names.all (λy=>decide<|y.2≠.free)&&N.all (Fy sc)&&N.all (λx=>sc.names.lookup x==some .local||sc.names.lookup x==some .cell)&&G.all (Rl sc)
structure DS(sc:Scope)(N ps G:f_):Prop where
 fs:kR N ps sc
 Tx:∀x∈N,Fy sc x=true
 loc:∀x∈N,Loc sc x
 gl:∀x∈G,Rl sc x=true
variable{G:f_}
def aM{sc:Scope}(h:UL sc N ps G=true:=by decide +kernel):DS sc N ps G:=by
 unfold UL at h;simp only[Bool.and_eq_true,Bool.not_eq_true',List.all_eq_true,decide_eq_true_eq,Bool.or_eq_true,beq_iff_eq]at h;obtain⟨⟨⟨⟨⟨⟨⟨⟨⟨f,j⟩,l⟩,e⟩,g⟩,c⟩,i⟩,d⟩,b⟩,a⟩:=h;exact⟨⟨f,j,l,e,g,c,i⟩,d,b,a⟩
variable{f:Addr}
def DS.cx{sc:Scope}{q:Str}{cy:Value}{A:Around}{outer:List Env}{s:Shared}(D:DS sc N ps G):Sc (fP Cy P w K mg base N q sc f cy A outer s H E).Mc N N G:=
 ⟨rfl,D.fs.nd,λx hx=>tV<|D.Tx x hx,λx hx=>⟨D.loc x hx,.inl rfl⟩,λx hx=>yT<|D.gl x hx⟩
def Def.go(D:Def K mg x st)(S:DS (aj st) N ps G)
  (hb:∀(kV doc pm:Value) (an:h_) (cy ct:Value) (us:f'),us.length=ps.length->bindArgs (fnOf x x (bw st) (aS st) (aj st) .none kV doc pm an cy ct) ⟨us,[]⟩=pure (ps.zip us))
  (len:∀vs H Q E,sp vs H Q E->vs.length=ps.length)
  (cX:∀(X:Cx),Sc X N N G->X.prog=P->X.w=w->X.K=K->X.mg=mg->X.base=base->X.calm=true->X.env.scope=aj st->X.xe=(λ_ _=>False)->ck k X.A->X.A.units+64<cLine->
   ∀(H:Hp) (vs:u_) (Q:VK) (E:XK),sp vs H Q E->∃t,yn X (aS st) t/\t {nx:=λ_ H'=>Q .bA H',rt:=Q} (L2.start N vs) H):Fn P w K mg base (k+1) x ps sp:=by
 refine D.fn S.fs hb len λf cy A a s H vs Q E b h=>?_;exact cX _ S.cx rfl rfl rfl rfl rfl rfl rfl rfl b b.units H vs Q E h
variable{W:f_}
def vv(S:Sc X N W G)(i:Nat){pos:Pos}(h:N[i]?=some x:=by rfl):PE X (.Name x pos) (tE i):=
 have q:=S.Tx x (fA h)
 NO (by rw[S.eN];exact h) q.1 q.2.1 q.2.2
def sv(S:Sc X N W G)(i:Nat){pos pos':Pos}(he:PE X e te)(h:N[i]?=some x:=by rfl)(hw:W[i]?=some x:=by rfl)(hs:swapsWith e (some<|.Name x pos') pos.line X.env=pure false:=by rfl):
  PS X (.Assign [.Name x pos'] e pos) (qx te<|bF i):=
 have q:=S.Tu x (fA hw)
 N9 (by rw[S.eN];exact S.nd) (by rw[S.eN];exact h) q.1 he hs q.2
def gv(S:Sc X N W G)(i:Nat){pos:Pos}(h:N[i]?=some x:=by rfl)(hw:W[i]?=some x:=by rfl):PG X (.Name x pos) (bF i):=
 have q:=S.Tu x (fA hw)
 Jk (by rw[S.eN];exact S.nd) (by rw[S.eN];exact h) q.1 q.2
variable{p:Pos}
def ff(S:Sc X N W G)(g:Nat)(F:Fn X.prog X.w X.K X.mg X.base k x ps sp)(hr:ck m X.A)(ha:PB X (e::es) t)(hk:k<=m:=by decide)(hg:G[g]?=some x:=by rfl):PE X (.Call (.Name x p) (e::es) [] pos) (oM sp [] E0 t):=
 have q:=S.gl x (fA hg)
 Q3 F hr q.1 ha.pa hk q.2.1 (bb ha.he) (cA ha.Be)
variable{id:String}{r:u_->Hp->VK->Prop}
def cb(S:Sc X N W G)(g:Nat)(hc:bJ X (.builtin id) r)(hm:X.mg x=none)(hv:bootBuiltins x=some (.builtin id))(ha:PB X (e::es) t)(hg:G[g]?=some x:=by rfl):PE X (.Call (.Name x p) (e::es) [] pos) (Oo r t):=
 have q:=S.gl x (fA hg)
 EF hc q.1 hm hv ha.pa q.2.2 q.2.1 (bb ha.he) (cA ha.Be)
variable{T:String}
def ct(S:Sc X N W G)(g:Nat)(hc:bJ X (.type T) r)(hm:X.mg x=none)(hv:bootBuiltins x=some (.type T))(ha:PB X (e::es) t)(hg:G[g]?=some x:=by rfl):PE X (.Call (.Name x p) (e::es) [] pos) (Oo r t):=
 have q:=S.gl x (fA hg)
 Cr hc q.1 hm hv ha.pa q.2.2 q.2.1 (bb ha.he) (cA ha.Be)
def U5(S:Sc X N W G)(g:Nat)(hm:X.mg x=none)(hv:bootBuiltins x=some (.type T))(hg:G[g]?=some x:=by rfl):PE X (.Name x pos) (tC<|.ty T):=
 have q:=S.gl x (fA hg)
 OL q.1 hm hv q.2.2 q.2.1
def U6(S:Sc X N W G)(g:Nat){tg:Expr}(hm:X.mg "range"=none)(ha:PB X [e] t)(hg:G[g]?=some "range":=by rfl):PI X tg (.Call (.Name "range" p) [e] [] pos) (AW t):=
 Cg (S.gl _<|fA hg).1 hm ha.pa (bb ha.he)
variable{a:Expr}
def U7(S:Sc X N W G)(g:Nat){tg:Expr}(hm:X.mg "range"=none)(ha:PB X [e,a] t)(hg:G[g]?=some "range":=by rfl):PI X tg (.Call (.Name "range" p) [e,a] [] pos) (AX t):=
 have b:Fx a=true:=by have:=ha.Be;rw[VL,fz]at this;exact this.1
 Ci (S.gl _<|fA hg).1 hm ha.pa (by rw[bb ha.he,bb b];rfl) (bb b)
variable{o:Expr}{to:TE}{name:Str}{A' bR:Pos}{rm:V->u_->Hp->VK->Prop}
def mb(pa:PlainAttrs T)(slot:Slot T name id)(hty:typeOf (.builtin id)=pure (.type "method_descriptor"))(hm:yo X id rm)(ho:PE X o to)(ha:PB X (e::es) t)
  (eP:attributeBase o name X.env (eval o X.env)=eval o X.env:=by rfl) (hlen:decide ((e::es).length<30)=true:=by rfl)
  (b6:(A'.endLine==bR.line)=true:=by rfl):PE X (.Call (.Attribute o name A') (e::es) [] bR) (QV X.K T rm to t):=
 QX pa slot hty hm ho ha.pa eP (by rw[lV ha.ns];exact hlen) b6 (bb ha.he) (cA ha.Be)
def Mv(osc:Scope)(oN N W G:f_)(scope:Scope)(fv:List (Option Nat)):Bool:=
 OP osc oN N scope fv&&decide N.Nodup&&N.all (Fy<|rl scope osc)&&W.all (λx=>(rl scope osc).names.lookup x==some .local)&&G.all (Rl<|rl scope osc)
variable{scope:Scope}{fv:List (Option Nat)}
def Bf{cl:List (Str × Addr)}{C:Addr}{fp:l_}{s:Shared}(h1:X.env.scope=osc)(h:Mv osc oN N W G scope fv=true):Sc (kX X N scope cl C fp s H) N W G:=by
 unfold Mv at h;simp only[Bool.and_eq_true,List.all_eq_true,decide_eq_true_eq,beq_iff_eq]at h;obtain⟨⟨⟨⟨_,c⟩,d⟩,a⟩,b⟩:=h;have e:(kX X N scope cl C fp s H).env.scope=rl scope osc:=by rw[<-h1];rfl
 exact⟨rfl,c,λx hx=>by rw[e];exact tV<|d x hx,λx hx=>by rw[e];exact⟨.inl<|a x hx,.inr<|a x hx⟩,λx hx=>by unfold Gl Env.kindOf;rw[e];exact yT<|b x hx⟩
variable{oW oG:f_}
def Bg(S:Sc X oN oW oG)(h1:X.env.scope=osc)(h:Mv osc oN N W G scope fv=true):Qp X.env.scope X.N N scope fv:=by
 unfold Mv at h;simp only[Bool.and_eq_true]at h;exact OQ h1 S.eN h.1.1.1.1
variable{z_ x_ y_:Expr}{A_:i_}{tc:TT}{wi:TI}
def U8(S:Sc X oN oW oG)(hc:X.calm=true)(h1:X.env.scope=osc)(hi:PI X x_ y_ wi)(h:Mv osc oN N W G scope fv=true)
  (hB:∀cl C fp s H,Sc (kX X N scope cl C fp s H) N W G->PG (kX X N scope cl C fp s H) x_ g/\Mg (kX X N scope cl C fp s H) A_ tc/\PE (kX X N scope cl C fp s H) z_ te)
  (hs:∀x,foldedSetIterable y_ X.env x=pure x:=by intro _;rfl):PE X (.ListComp z_ [⟨x_,y_,A_,0⟩] scope pos) (OH wi g tc te fv):=
 Q1 hc hi (Bg S h1 h) (λcl C fp s H=>hB cl C fp s H<|Bf h1 h) hs
def U9{px spos:Pos}(S:Sc X oN oW oG)(hc:X.calm=true)(h1:X.env.scope=osc)(hi:PI X x_ y_ wi)(h:Mv osc oN N W G scope fv=true)
  (hB:∀cl C fp s H,Sc (kX X N scope cl C fp s H) N W G->PG (kX X N scope cl C fp s H) x_ g/\Mg (kX X N scope cl C fp s H) A_ tc/\PE (kX X N scope cl C fp s H) z_ te)
  (hx:X.env.scope.names.lookup x=some .local)
  (hsw:swapsWith (.ListComp z_ [⟨x_,y_,A_,0⟩] scope pos) (some<|.Name x px) spos.line X.env=pure true) (hi':oN[i]?=some x:=by rfl)
  (hs:∀x,foldedSetIterable y_ X.env x=pure x:=by intro _;rfl):PS X (.Assign [.Name x px] (.ListComp z_ [⟨x_,y_,A_,0⟩] scope pos) spos) (qx (OH wi g tc te fv)<|bF i):=
 Q2 (by rw[S.eN];exact S.nd) (by rw[S.eN];exact hi') hx hc hi (Bg S h1 h) (λcl C fp s H=>hB cl C fp s H<|Bf h1 h) hsw hs
def Fz(h:X.xe=λ_ _=>False):PassesOwn (model X.prog X.w) X.A X.env X.xe:=by rw[h];exact PassesOwn.never
def cB(h:X.K=K):Ov X (nF K):=by subst h;exact JG
def dJ(h:X.K=K):Ov X (Ct K):=by subst h;exact Ow
def cp(h:X.K=K):Ot X (yJ K):=by subst h;exact JH
def jo(h:X.K=K):Ot X (JE K):=by subst h;exact Ou
def yU(h:X.K=K):dU X (compareOp .In) (Qo K false):=by subst h;exact Cu
def et(h:X.K=K):dU X (compareOp .NotIn) (Qo K true):=by subst h;exact tN
def OR(K:Frag):u_->Hp->VK->Prop:=λa H Q=>∃p ys,a=[.ref p]/\(ay K H p ys∨aP K H p ys)/\Q (.int ys.length) H
def aA(h:X.K=K):bJ X (.builtin "len") (OR K):=by subst h;exact tP
def Rm(K:Frag):u_->Hp->VK->Prop:=λa H Q=>∃(p:Addr) (ns:e_),a=[.ref p]/\ay K H p (ns.map V.int)/\Q (.int ns.sum) H
def dq(hc:X.calm=true)(h:X.K=K):bJ X (.builtin "sum") (Rm K):=by subst h;exact Fe hc
variable{l:Expr}
def FA(K:Frag):u_->Hp->VK->Prop:=λa H Q=>∃p ys,a=[.ref p]/\((ay K H p ys/\∀l,H l=none->Q (.ref l) (upd H l<|.tup ys))∨(aP K H p ys/\Q (.ref p) H))
def dv(h:X.K=K):bJ X (.type "tuple") (FA K):=by subst h;exact qz
def Kc(K:Frag):u_->Hp->VK->Prop:=λa H Q=>∃p ys,a=[.ref p]/\(ay K H p ys∨aP K H p ys)/\∀l,H l=none->Q (.ref l) (upd H l<|.lst ys)
def yV(h:X.K=K):bJ X (.type "list") (Kc K):=by subst h;exact tQ
def OS(K:Frag):R2:=λx y H Q=>∃d d',Dt K H x d/\Dt K H y d'/\shaped d=true/\shaped d'=true/\Q (.bl<|PyData.eqv d d') H
def OT(K:Frag):R2:=λx y H Q=>∃d d',Dt K H x d/\Dt K H y d'/\shaped d=true/\shaped d'=true/\Q (.bl<|!PyData.eqv d d') H
def lW(hu:X.A.units+64<cLine)(h:X.K=K):dU X (compareOp .Eq) (OS K):=by subst h;exact OI hu
def lX(hu:X.A.units+64<cLine)(h:X.K=K):dU X (compareOp .NotEq) (OT K):=by subst h;exact OJ hu
def Bh(K:Frag):R2:=λx y H Q=>∃l b xs zs,x=.ref l/\y=.ref b/\ay K H l xs/\ay K H b zs/\xs.length+zs.length<=sizeLine/\∀p,H p=none->Q (.ref p) (upd H p<|.lst<|xs++zs)
def bW(h:X.K=K):dU X (binaryOp .Add) (Bh K):=by subst h;exact J0
def Rn:u_->Hp->VK->Prop:=λa H Q=>∃x T n b,a=[x,.ty T]/\tyName x H=some n/\JY n T=some b/\Q (.bl b) H
def sk:bJ X (.builtin "isinstance") Rn:=Ff
def Ro:u_->Hp->VK->Prop:=λa H Q=>∃i j,a=[.int i,.int j]/\Q (.int<|if j>i then j else i) H
def CC(hc:X.calm=true):bJ X (.builtin "max") Ro:=Ck hc
variable{i:Int}
def Mw{j:Int} :Ro [.int i,.int j] H Q=Q (.int<|if j>i then j else i) H:=propext ⟨λ⟨a,b,e,q⟩=>by cases e;exact q,λq=>⟨i,j,rfl,q⟩⟩
variable{tg:Expr}
def FC(hl:PE X l tl)(h:X.K=K):PI X tg l (AV K tl):=by subst h;exact Jn hl
def Kd(hl:PE X l tl)(h:X.K=K):PI X tg l (Jm K tl):=by subst h;exact Oa hl
def Va(pa:PlainAttrs T)(slot:Slot T name id)(hty:typeOf (.builtin id)=pure (.type "method_descriptor"))(hm:yo X id rm)(h:X.K=K)(ho:PE X o to)(ha:PB X (e::es) t)
  (eP:attributeBase o name X.env (eval o X.env)=eval o X.env:=by rfl) (hlen:decide ((e::es).length<30)=true:=by rfl)
  (b6:(A'.endLine==bR.line)=true:=by rfl):PE X (.Call (.Attribute o name A') (e::es) [] bR) (QV K T rm to t):=by subst h;exact mb pa slot hty hm ho ha eP hlen b6
def Ub(pa:PlainAttrs T)(slot:Slot T name id)(hty:typeOf (.builtin id)=pure (.type "method_descriptor"))(hm:yo X id rm)(h:X.K=K)(ho:PE X o to)
  (eP:attributeBase o name X.env (eval o X.env)=eval o X.env:=by rfl)
  (b6:(A'.endLine==bR.line)=true:=by rfl):PE X (.Call (.Attribute o name A') [] [] bR) (JI K T rm to):=by subst h;exact Oz pa slot hty hm ho eP b6
def FD(K:Frag):R2:=λx y H Q=>∃a b xs ys,x=.ref a/\y=.ref b/\aP K H a xs/\aP K H b ys/\xs.length+ys.length<=sizeLine/\∀p H',ag H H'->aP K H' p (xs++ys)->Q (.ref p) H'
def iN(h:X.K=K):dU X (binaryOp .Add) (FD K):=by
 subst h;intro c s σ H x y v u Q I B C h;obtain⟨a,b,w,M,rfl,rfl,m,hb,N,q⟩:=h
 by_cases hx:w=[]
 ·subst hx
  cases B
  cases C
  obtain⟨O,P,⟨⟨J,G,o,E⟩,e,A,n,r⟩,_⟩:=I.tuple m;obtain⟨g,R,⟨⟨z,l,j,i⟩,t,f,L,d⟩,_⟩:=I.tuple hb
  simp only at A r f d
  subst A r f d
  cases P
  refine concat_meets ⟨_,e,rfl⟩ ⟨_,t,rfl⟩ noFill_tuple_add seq_tuple_add slot_tuple_add entry_tuple_add (args_tuple_add_2 _ _) (tuple_addW0 a b _ g.toArray n L G l E i rfl) ⟨e,t,?_⟩;exact⟨.ref b,H,I,rfl,q b H (ag.refl _) hb⟩
 ·exact JF c s σ H _ _ v u Q I B C ⟨a,b,w,M,rfl,rfl,m,hb,hx,N,λe=>q a H (ag.refl _) (by rw[e,Vj];exact m),λ_ p D=>q p _ (ag.new D _)<|aP.of af⟩
def Rp(sc:Scope):Env:={scope:=sc,locals:=0,globals:=0,cells:=[],qual:="",func:=none,code:=.none,frame:=none,builtins:=0}
def c9(v:Expr)(t:Option Expr)(l:Nat)(env:Env):swapsWith v t l env=swapsWith v t l (Rp env.scope):=rfl
def Bi:i_->Option (e_)
 | []=>some []
 |.Constant (.int i) _ _::r=>(Bi r).map (i::·)
 |_=>none
def FE(ns:e_):TA:=λ_ H Q=>Q (ns.map V.int) H
theorem Bj{X:Cx}:∀ {es:i_} {ns:e_},Bi es=some ns->PB X es (FE ns)
 | [],ns,h=>by cases h;exact yS
 |e::es,ns,h=>by
  unfold Bi at h
  split at h
  ·rename_i h1;cases h1
  ·rename_i i k p r h1
   cases h1
   obtain⟨b,a,rfl⟩:=Option.map_eq_some_iff.mp h;exact tU lO<|Bj a
  ·cases h
def Bl:i_->Option (f_)
 | []=>some []
 |.Constant (.str i) _ _::r=>(Bl r).map (i::·)
 |_=>none
def FF(ns:f_):TA:=λ_ H Q=>Q (ns.map V.str) H
theorem Bm{X:Cx}:∀ {es:i_} {ns:f_},Bl es=some ns->PB X es (FF ns)
 | [],ns,h=>by cases h;exact yS
 |e::es,ns,h=>by
  unfold Bl at h
  split at h
  ·rename_i h1;cases h1
  ·rename_i i k p r h1
   cases h1
   obtain⟨b,a,rfl⟩:=Option.map_eq_some_iff.mp h;exact tU El<|Bm a
  ·cases h
variable{Q:u_->r_}
def FG{ns:e_}{σ:St} :FE ns σ H Q=Q (ns.map V.int) H:=rfl
def FH{ns:f_}{σ:St} :FF ns σ H Q=Q (ns.map V.str) H:=rfl
structure QE(X:Cx)(e:Expr)(t:TE):Prop where
 h:PE X e t
structure QT(X:Cx)(e:Expr)(t:TT):Prop where
 h:PT X e t
structure QW(X:Cx)(e:Expr)(t:TT):Prop where
 h:PW X e t
structure QB(X:Cx)(es:i_)(t:TA):Prop where
 h:PB X es t
structure QS(X:Cx)(st:Stmt)(t:TS):Prop where
 h:PS X st t
structure vY(X:Cx)(st:n_)(t:TS):Prop where
 h:yn X st t
structure QG(X:Cx)(e:Expr)(t:TG):Prop where
 h:PG X e t
structure Rq(X:Cx)(e:i_)(t:AS):Prop where
 h:Qn X e t
structure QI(X:Cx)(tg y_:Expr)(wi:TI):Prop where
 h:PI X tg y_ wi
structure TJ(X:Cx)(A_:i_)(t:TT):Prop where
 h:Mg X A_ t
structure QO(X:Cx)(e:Option Expr)(t:TO):Prop where
 h:PO X e t
def kv(S:Sc X N W G)(i:Nat)(h:N[i]?=some x:=by rfl):QE X (.Name x pos) (tE i):=⟨vv S i h⟩
variable{j:Nat}
def aq:QE X (.Constant (.int i) j pos) (tC<|.int i):=⟨lO⟩
def yp{i:Bool} :QE X (.Constant (.bool i) j pos) (tC<|.bl i):=⟨QD⟩
def lY:QE X (.Constant .none j pos) (tC .bA):=⟨NP⟩
def aU{i:Str} :QE X (.Constant (.str i) j pos) (tC<|.str i):=⟨El⟩
variable{b:Expr}{ta tb:TE}
def aN{op:Operator}{r:R2}(ho:dU X (binaryOp op) r)(ha:QE X a ta)(hb:QE X b tb):QE X (.BinOp a op b pos) (tG r ta tb):=⟨vJ ho ha.h hb.h⟩
variable{pos':Pos}{n:Int}
def sr(ha:QE X a ta)(h:0<n/\n<1073741824:=by decide):QE X (.BinOp a .FloorDiv (.Constant (.int n) k pos') pos) (tI (λi=>.int<|i / n) ta):=⟨JU ha.h h⟩
def bc(ha:QE X a ta)(h:0<n:=by decide):QE X (.BinOp a .Mod (.Constant (.int n) k pos') pos) (tI (λi=>.int<|i%n) ta):=⟨JV ha.h h⟩
def FI(ha:QE X a ta)(h:-(2 ^ 64)<n/\n<2 ^ 64:=by decide):QE X (.BinOp a .Mult (.Constant (.int n) k pos') pos) (tI (λi=>.int<|i*n) ta):=⟨JW ha.h h⟩
def FJ(ha:QE X a ta)(h:-(2 ^ 64)<n/\n<2 ^ 64:=by decide):QE X (.BinOp (.Constant (.int n) k pos') .Mult a pos) (tI (λi=>.int<|n*i) ta):=⟨JX ha.h h⟩
def OU{op:UnaryOp}{r:V->Hp->VK->Prop}(ho:TC X (unaryOp op) r)(ha:QE X a ta):QE X (.UnaryOp op a pos) (T5 r ta):=⟨QL ho ha.h⟩
def Uc(ha:QE X a ta):QE X (.UnaryOp .Not a pos) (Eo ta):=⟨N0 ha.h⟩
variable{r:R2}
def gD{op:CmpOp}(ho:dU X (compareOp op) r)(ha:QE X a ta)(hb:QE X b tb)(hm:behindInMarks op b=false):QE X (.Compare a [op] [b] pos) (tG r ta tb):=⟨Js ho ha.h hb.h hm⟩
variable{c:Expr}{tc:TE}
def yW{op op':CmpOp}{r':R2}(ho:dU X (compareOp op) r)(ho':dU X (compareOp op') r')(ha:QE X a ta)(hb:QE X b tb)(hc:QE X c tc)
  (hm:lastMarks [op,op'] [b,c]=false:=by with_unfolding_all rfl):QE X (.Compare a [op,op'] [b,c] pos) (oJ r r' ta tb tc):=⟨Ez ho ho' ha.h hb.h hc.h hm⟩
def vZ{op}(h:QE X a ta):QE X (.BoolOp op [a] pos) ta:=⟨NY h.h⟩
variable{rest:i_}
def oX(ha:QE X a ta)(hb:QE X (.BoolOp .And (b::rest) pos) tb):QE X (.BoolOp .And (a::b::rest) pos) (En ta tb):=⟨NZ ha.h hb.h⟩
def Vb(ha:QE X a ta)(hb:QE X (.BoolOp .Or (b::rest) pos) tb):QE X (.BoolOp .Or (a::b::rest) pos) (NX ta tb):=⟨QH ha.h hb.h⟩
variable{tA:TT}
def Ud(hc:QT X c tA)(ha:QE X a ta)(hb:QE X b tb):QE X (.IfExp c a b pos) (T1 tA ta tb):=⟨Ep hc.h ha.h hb.h⟩
def bI:QB X [] vL:=⟨yS⟩
def ah(ha:QE X e te)(hr:QB X es t)(hn:Fx e=true:=by rfl):QB X (e::es) (vM te t):=⟨tU ha.h hr.h hn⟩
def nY{ns:e_}(h:Bi es=some ns):QB X es (FE ns):=⟨Bj h⟩
def jq{ns:f_}(h:Bl es=some ns):QB X es (FF ns):=⟨Bm h⟩
def qC{x1}(h:QB X es t):QE X (.Tuple es x1 pos) (Jy t):=⟨Rj h.h⟩
def dc(h:QB X es t):QE X (.List es pos) (Jz t):=⟨Rk h.h⟩
def j3(hr:Ov X r)(ha:QE X a ta)(hb:QE X b tb)(hs:nW b):QE X (.Subscript a b pos) (tG r ta tb):=⟨QP hr ha.h hb.h hs⟩
def bg:QO X none tJ:=⟨JC⟩
def aY(h:QE X e te):QO X (some e) (EH te):=⟨JD h.h⟩
def jz{lo hi:Option Expr}{tl th:TO}{p2:Pos}{r:V->j_->j_->Hp->VK->Prop}(hr:Ot X r)(he:QE X e te)(hl:QO X lo tl)(hu:QO X hi th):QE X (.Subscript e (.Slice lo hi none p2) pos) (T6 r te tl th):=⟨EI hr he.h hl.h hu.h⟩
def bZ(S:Sc X N W G)(g:Nat)(F:Fn X.prog X.w X.K X.mg X.base k x ps sp)(hr:ck m X.A)(ha:QB X (e::es) t)(hk:k<=m:=by decide)(hg:G[g]?=some x:=by rfl):QE X (.Call (.Name x p) (e::es) [] pos) (oM sp [] E0 t):=⟨ff S g F hr ha.h hk hg⟩
variable{r:u_->Hp->VK->Prop}
def cj(S:Sc X N W G)(g:Nat)(hc:bJ X (.builtin id) r)(hm:X.mg x=none)(hv:bootBuiltins x=some (.builtin id))(ha:QB X (e::es) t)(hg:G[g]?=some x:=by rfl):QE X (.Call (.Name x p) (e::es) [] pos) (Oo r t):=⟨cb S g hc hm hv ha.h hg⟩
def iG(S:Sc X N W G)(g:Nat)(hc:bJ X (.type T) r)(hm:X.mg x=none)(hv:bootBuiltins x=some (.type T))(ha:QB X (e::es) t)(hg:G[g]?=some x:=by rfl):QE X (.Call (.Name x p) (e::es) [] pos) (Oo r t):=⟨ct S g hc hm hv ha.h hg⟩
def Ue(S:Sc X N W G)(g:Nat)(hm:X.mg x=none)(hv:bootBuiltins x=some (.type T))(hg:G[g]?=some x:=by rfl):QE X (.Name x pos) (tC<|.ty T):=⟨U5 S g hm hv hg⟩
def gU(pa:PlainAttrs T)(slot:Slot T name id)(hty:typeOf (.builtin id)=pure (.type "method_descriptor"))(hm:yo X id rm)(h:X.K=K)(ho:QE X o to)(ha:QB X (e::es) t)
  (eP:attributeBase o name X.env (eval o X.env)=eval o X.env:=by rfl) (hlen:decide ((e::es).length<30)=true:=by rfl)
  (b6:(A'.endLine==bR.line)=true:=by rfl):QE X (.Call (.Attribute o name A') (e::es) [] bR) (QV K T rm to t):=⟨Va pa slot hty hm h ho.h ha.h eP hlen b6⟩
def Ug(pa:PlainAttrs T)(slot:Slot T name id)(hty:typeOf (.builtin id)=pure (.type "method_descriptor"))(hm:yo X id rm)(h:X.K=K)(ho:QE X o to)
  (eP:attributeBase o name X.env (eval o X.env)=eval o X.env:=by rfl)
  (b6:(A'.endLine==bR.line)=true:=by rfl):QE X (.Call (.Attribute o name A') [] [] bR) (JI K T rm to):=⟨Ub pa slot hty hm h ho.h eP b6⟩
variable{r:R2}
def aL{op:CmpOp}(ho:dU X (compareOp op) r)(ha:QE X a ta)(hb:QE X b tb)(hm:behindInMarks op b=false):QT X (.Compare a [op] [b] pos) (vK<|tG r ta tb):=⟨Jt ho ha.h hb.h hm⟩
def yX{op op':CmpOp}{r':R2}(ho:dU X (compareOp op) r)(ho':dU X (compareOp op') r')(ha:QE X a ta)(hb:QE X b tb)(hc:QE X c tc)
  (hm:lastMarks [op,op'] [b,c]=false:=by with_unfolding_all rfl):QT X (.Compare a [op,op'] [b,c] pos) (vK<|oJ r r' ta tb tc):=⟨EA ho ho' ha.h hb.h hc.h hm⟩
def gE(ha:QT X a tA):QW X (.BoolOp .And [a] pos) tA:=⟨Jg ha.h⟩
def v3(ha:QT X a tA):QW X (.BoolOp .Or [a] pos) tA:=⟨NU ha.h⟩
variable{tB':TT}
def j4(ha:QT X a tA)(hb:QW X (.BoolOp .And (b::rest) pos) tB'):QW X (.BoolOp .And (a::b::rest) pos) (NS tA tB'):=⟨NV ha.h hb.h⟩
def My(ha:QT X a tA)(hb:QW X (.BoolOp .Or (b::rest) pos) tB'):QW X (.BoolOp .Or (a::b::rest) pos) (TZ tA tB'):=⟨QF ha.h hb.h⟩
def qD(h:QW X a tA):QT X a tA:=⟨h.h.pt⟩
def j7(ha:QT X a tA):QT X (.UnaryOp .Not a pos) (NT tA):=⟨NW ha.h⟩
variable{v:TS}
def jA(h:QE X e te)(he:∀whole,isTrue e X.env whole=(do let v<-whole;standAt e.pos;holding [v] (truthy v)):=by intro _;rfl):QT X e (tB te):=⟨NR h.h he⟩
def kg(S:Sc X N W G)(i:Nat)(h:N[i]?=some x:=by rfl)(hw:W[i]?=some x:=by rfl):QG X (.Name x pos) (bF i):=⟨gv S i h hw⟩
def cQ:Rq X [] qv:=⟨Jl⟩
variable{tgs:AS}
def aQ(h1:QG X e g)(h2:Rq X es tgs)(hs:(assignEach (e::es) X.env).map (·.2)=assign e X.env::(assignEach es X.env).map (·.2):=by rfl):Rq X (e::es) (dS g tgs):=⟨Eu h1.h h2.h hs⟩
variable{n kk:Nat}
def kZ(hc:X.calm=true)(hK:X.K=K)(h:Rq X es tgs)(hn:(assignEach es X.env).length=n:=by rfl)(hst:(assignEach es X.env).findIdx? (·.1)=none:=by rfl):QG X (.Tuple es kk pos) (qw K n tgs):=⟨by subst hK;exact N5 hc h.h hn hst⟩
def OV{ti:TE}{i:Expr}{tS:Et}(ho:QE X o to)(hi:QE X i ti)(hs:N4 X tS)
  (ha:∀v,assign (.Subscript o i pos) X.env v=(do
   let ov<-holding [v] (eval o X.env)
   let iv<-holding [v,ov] (eval i X.env)
   standAt pos
   holding [v,ov,iv] (setItem ov iv v)
   release [v,ov,iv] []):=by intro _;rfl):QG X (.Subscript o i pos) (N6 to ti tS):=⟨N7 ho.h hi.h hs ha⟩
def gW(S:Sc X N W G)(g:Nat)(hm:X.mg "range"=none)(ha:QB X [e] t)(hg:G[g]?=some "range":=by rfl):QI X tg (.Call (.Name "range" p) [e] [] pos) (AW t):=⟨U6 S g hm ha.h hg⟩
def Rr(S:Sc X N W G)(g:Nat)(hm:X.mg "range"=none)(ha:QB X [e,a] t)(hg:G[g]?=some "range":=by rfl):QI X tg (.Call (.Name "range" p) [e,a] [] pos) (AX t):=⟨U7 S g hm ha.h hg⟩
def cC(hl:QE X e te)(h:X.K=K):QI X tg e (AV K te):=⟨FC hl.h h⟩
def dW(hl:QE X e te)(h:X.K=K):QI X tg e (Jm K te):=⟨Kd hl.h h⟩
def bp:TJ X [] iL:=⟨JR⟩
def fu(h:QT X e tA):TJ X [e] tA:=⟨JS h.h⟩
def bo(S:Sc X N W G)(i:Nat)(he:QE X e te)(h:N[i]?=some x:=by rfl)(hw:W[i]?=some x:=by rfl)(hs:swapsWith e (some<|.Name x pos') pos.line X.env=pure false:=by rfl):
  QS X (.Assign [.Name x pos'] e pos) (qx te<|bF i):=⟨sv S i he.h h hw hs⟩
def yY(he:QE X e te)(hg:QG X tg g)(hs:swapsWithSole [tg] e pos.line X.env=pure false:=by rfl)(hw:swappedStores [tg] e X.env=pure none:=by rfl)
  (h1:(assignEach [tg] X.env).map (·.2)=[assign tg X.env]:=by rfl):QS X (.Assign [tg] e pos) (qx te g):=⟨N8 he.h hg.h hs hw h1⟩
def aG(he:QE X e te):QS X (.Return (some e) pos) (N1 te):=⟨N2 he.h⟩
def dw(he:QE X e te)(hs:swapsWith e none pos.line X.env=pure false:=by rfl):QS X (.Expr e pos) (Es te):=⟨Jj he.h hs⟩
def bT{l l':n_}(hc:QT X c tA)(ha:vY X l u)(hb:vY X l' v):QS X (.If c l l' pos) (N3 tA u v):=⟨QK hc.h ha.h hb.h⟩
variable{sts:n_}
def yZ(hxe:X.xe=λ_ _=>False)(hc:QT X c tA)(hb:vY X sts u):QS X (.While c sts [] pos) (tF tA u):=⟨Ew (Fz hxe) hc.h hb.h⟩
def eY(hxe:X.xe=λ_ _=>False)(hc:X.calm=true)(hi:QI X tg y_ wi)(hg:QG X tg g)(hb:vY X sts u)(hs:∀x,foldedSetIterable y_ X.env x=pure x:=by intro _;rfl):QS X (.For tg y_ sts [] pos) (Ob wi g u):=⟨Oc (Fz hxe) hc hi.h hg.h hb.h hs⟩
def aw:vY X [] vG:=⟨Jh⟩
def ae(h1:QS X st u)(h2:vY X sts v):vY X (st::sts) (oH u v):=⟨Er h1.h h2.h⟩
def ai(h1:QS X st u):vY X [st] u:=⟨Ji h1.h⟩
def iD(S:Sc X oN oW oG)(hc:X.calm=true)(h1:X.env.scope=osc)(hi:QI X x_ y_ wi)(h:Mv osc oN N W G scope fv=true)
  (hB:∀cl C fp s H,Sc (kX X N scope cl C fp s H) N W G->QG (kX X N scope cl C fp s H) x_ g/\TJ (kX X N scope cl C fp s H) A_ tA/\QE (kX X N scope cl C fp s H) z_ te)
  (hs:∀x,foldedSetIterable y_ X.env x=pure x:=by intro _;rfl):QE X (.ListComp z_ [⟨x_,y_,A_,0⟩] scope pos) (OH wi g tA te fv):=
 ⟨U8 S hc h1 hi.h h (λcl C fp s H a=>⟨(hB cl C fp s H a).1.h,(hB cl C fp s H a).2.1.h,(hB cl C fp s H a).2.2.h⟩) hs⟩
variable{i:Nat}
def Ee{px spos:Pos}(S:Sc X oN oW oG)(hc:X.calm=true)(h1:X.env.scope=osc)(hi:QI X x_ y_ wi)(h:Mv osc oN N W G scope fv=true)
  (hB:∀cl C fp s H,Sc (kX X N scope cl C fp s H) N W G->QG (kX X N scope cl C fp s H) x_ g/\TJ (kX X N scope cl C fp s H) A_ tA/\QE (kX X N scope cl C fp s H) z_ te)
  (hx:X.env.scope.names.lookup x=some .local)
  (hsw:swapsWith (.ListComp z_ [⟨x_,y_,A_,0⟩] scope pos) (some<|.Name x px) spos.line X.env=pure true) (hi':oN[i]?=some x:=by rfl)
  (hs:∀x,foldedSetIterable y_ X.env x=pure x:=by intro _;rfl):QS X (.Assign [.Name x px] (.ListComp z_ [⟨x_,y_,A_,0⟩] scope pos) spos) (qx (OH wi g tA te fv)<|bF i):=
 ⟨U9 S hc h1 hi.h h (λcl C fp s H a=>⟨(hB cl C fp s H a).1.h,(hB cl C fp s H a).2.1.h,(hB cl C fp s H a).2.2.h⟩) hx hsw hi' hs⟩
def Def.gq(D:Def K mg x st)(S:DS (aj st) N ps G)
  (hb:∀(kV doc pm:Value) (an:h_) (cy ct:Value) (us:f'),us.length=ps.length->bindArgs (fnOf x x (bw st) (aS st) (aj st) .none kV doc pm an cy ct) ⟨us,[]⟩=pure (ps.zip us))
  (len:∀vs H Q E,sp vs H Q E->vs.length=ps.length)
  (cX:∀(X:Cx),Sc X N N G->X.prog=P->X.w=w->X.K=K->X.mg=mg->X.base=base->X.calm=true->X.env.scope=aj st->X.xe=(λ_ _=>False)->ck k X.A->X.A.units+64<cLine->
   ∀(H:Hp) (vs:u_) (Q:VK) (E:XK),sp vs H Q E->∃t,vY X (aS st) t/\t {nx:=λ_ H'=>Q .bA H',rt:=Q} (L2.start N vs) H):Fn P w K mg base (k+1) x ps sp:=
 D.go S hb len λX a b c d e f g h i j l H vs Q E q=>by
  obtain⟨t,z,y⟩:=cX X a b c d e f g h i j l H vs Q E q;exact⟨t,z.h,y⟩
def pr:e_->Int
 | []=>1
 |c::r=>c*pr r
def tW(xs:e_)(c:Int):pr (xs++[c])=pr xs*c:=by
 induction xs with
 |nil=>simp[pr]
 |cons a r b=>rw[cons_append,pr,b,pr,Int.mul_assoc]
def dg(W:Int)(cs:e_):Int:=(cs.map (W / ·)).sum
def sum_append(xs ys:e_):(xs++ys).sum=xs.sum+ys.sum:=by
 induction xs with
 |nil=>simp
 |cons a r b=>rw[cons_append,Vs,b,Vs,Int.add_assoc]
def CD(W:Int)(xs:e_)(c:Int):dg W (xs++[c])=dg W xs+W / c:=by
 unfold dg;rw[hI,sum_append];simp
theorem y0{c:Int}:∀ {cs:e_},c∈cs->c∣pr cs
 |a::r,h=>by
  rcases gz.mp h with rfl|h
  ·exact⟨pr r,rfl⟩
  ·obtain⟨d,e⟩:=y0 h;exact⟨a*d,by rw[pr,e,<-Int.mul_assoc,<-Int.mul_assoc,Int.mul_comm a c]⟩
theorem oY:∀ {cs:e_},(∀c∈cs,1<=c)->1<=pr cs
 | [],_=>by decide
 |a::r,h=>by
  have h1:=h a<|gc ..;have b:=oY (cs:=r) λc hc=>h c<|fN _ hc
  have:=Int.mul_le_mul h1 b a_ (by omega)
  rw[pr];omega
theorem v7{W d:Int}:∀ {cs:e_},(∀c∈cs,c∣W)->dg (W*d) cs=dg W cs*d
 | [],_=>by simp[dg]
 |a::r,h=>by
  have b:=v7 (W:=W) (d:=d) (cs:=r) λc hc=>h c<|fN _ hc;unfold dg at b ⊢;rw[qb,qb,Vs,Vs,b,Int.add_mul,Int.mul_comm W d,Int.mul_ediv_assoc d<|h a<|gc ..,Int.mul_comm d]
theorem iO{W:Int}(hW:0<=W):∀ {cs:e_},(∀c∈cs,1<=c)->0<=dg W cs
 | [],_=>by simp[dg]
 |a::r,h=>by
  have b:=iO hW (cs:=r) λc hc=>h c<|fN _ hc;have h1:=h a<|gc ..
  have:0<=W / a:=Int.ediv_nonneg hW (by omega)
  unfold dg at b ⊢;rw[qb,Vs];omega
variable{c:Int}
def CF{xs:e_}(hc:1<=c):dg (pr<|xs++[c]) (xs++[c])=dg (pr xs) xs*c+pr xs:=by
 rw[CD,tW,v7 λc hc=>y0 hc,Int.mul_ediv_cancel _ (by omega)]
theorem tX{W:Int}(hW:0<=W):∀ {cs:e_},(∀c∈cs,1<=c)->dg W cs<=cs.length*W
 | [],_=>by simp[dg]
 |a::r,h=>by
  have b:=tX hW (cs:=r) λc hc=>h c<|fN _ hc;have h1:=h a<|gc ..;have d:W / a<=W:=ediv_le_self _ hW;unfold dg at b ⊢;rw[qb,Vs,kf,Int.natCast_succ,Int.add_mul];omega
def FK(m n:Nat):Nat.gcd n (m%n)=Nat.gcd m n:=by
 rw[Nat.gcd_comm m n,Nat.gcd_rec n m,Nat.gcd_comm]
variable{b g:Int}
def Ke{a:Int}(hg:0<g)(h1:g∣a)(h2:g∣b):(a / g) / (b / g)=a / b:=by
 obtain⟨x,rfl⟩:=h1;obtain⟨y,rfl⟩:=h2;rw[Vx _ (by omega),Vx _ (by omega),Int.mul_ediv_mul_of_pos _ _ hg]
def Kf(hg:0<g)(hb:0<b)(h2:g∣b):1<=b / g:=by
 obtain⟨y,rfl⟩:=h2;rw[Vx _ (by omega)]
 have:=Int.pos_of_mul_pos_right hb (by omega)
 omega
def dX(W c start seen:Int):Int:=((start-seen)%W+W / c-1) / (W / c)%c
variable{W seen:Int}
def FN{start:Int}(hc:1<=c):0<=dX W c start seen:=A5 _ (by omega)
def FO{start:Int}(hc:1<=c):dX W c start seen<c:=B9 _ (by omega)
def others(n i:Nat):d_:=(List.range n).filter λj=>decide<|¬j=i
def seenOf(W:Int)(cs hs:e_)(i:Nat):Int:=((others cs.length i).map λj=>hs.getD j 0*(W / cs.getD j 0)).sum
def cg(cs hs:e_)(i:Nat):Int:=dX (pr cs) (cs.getD i 0) (dg (pr cs)<|cs.take i)<|seenOf (pr cs) cs hs i
variable{cs:e_}
def getD_mem(hi:i<cs.length):cs.getD i 0∈cs:=by
 rw[b4,cc hi];exact pS hi
variable{hs:e_}
def Rt(h:∀c∈cs,1<=c)(hi:i<cs.length):0<=cg cs hs i:=FN<|h _<|getD_mem hi
def Ru(h:∀c∈cs,1<=c)(hi:i<cs.length):cg cs hs i<cs.getD i 0:=FO<|h _<|getD_mem hi
def take_snoc{α:Type}(d:α){xs:List α}(h:n<xs.length):xs.take (n+1)=xs.take n++[xs.getD n d]:=by
 rw[take_succ,cc h,b4,cc h];rfl
def FP(h:∀c∈cs,1<=c)(hi:i<cs.length):pr cs / cs.getD i 0<=pr cs/\1<=pr cs / cs.getD i 0:=by
 have a:=oY h;have hc:=h _<|getD_mem hi;refine⟨ediv_le_self _ (by omega),?_⟩
 obtain⟨d,e⟩:=y0<|getD_mem hi;rw[e,Vx _ (by omega)]
 have:=Int.pos_of_mul_pos_right (show 0<cs.getD i 0*d by omega) (by omega)
 omega
variable{A:Prop}
def FQ{B:Prop}[Decidable (true=true)]:(if true=true then A else B)=A:=if_pos rfl
def oZ{B:Prop}[Decidable True]:(if True then A else B)=A:=if_pos trivial
theorem Mz{B:Prop}[Decidable False]:(if False then A else B)=B:=if_neg id
def Rv[i:Decidable True]:@decide True i=true:=by cases i with
 |isTrue _=>rfl
 |isFalse h=>exact absurd trivial h
def MA{σ:St}:yP [] σ=[]:=rfl
def MB{σ:St}:yP (none::fv) σ=none::yP fv σ:=rfl
def Kg(σ:St)(i:Nat):v_:=(σ[i]?).join
def MC{σ:St}:yP (some i::fv) σ=Kg σ i::yP fv σ:=rfl
variable{o:v_}
def Rw{σ:St}:Kg (o::σ) 0=o:=rfl
def Rx{σ:St}:Kg (o::σ) (i+1)=Kg σ i:=rfl
variable{Q:VK}
def FR{x:V}{n:String}{b:Bool}(hn:tyName x H=some n)(hb:JY n T=some b)(q:Q (.bl b) H):Rn [x,.ty T] H Q:=⟨x,T,n,b,rfl,hn,hb,q⟩
variable{p:Addr}
def OW(h:H p=some (.lst xs)):tyName (.ref p) H=some "list":=by unfold tyName;simp only[h]
def aR{ys:u_}(h:ay K H p ys∨aP K H p ys)(q:Q (.int ys.length) H):OR K [.ref p] H Q:=⟨p,ys,rfl,h,q⟩
def o8{ns:e_}(h:ay K H p (ns.map V.int))(q:Q (.int ns.sum) H):Rm K [.ref p] H Q:=⟨p,ns,rfl,h,q⟩
variable{i:Int}
def fB{α:Type}{xs:List α}{k:Nat}(e:i=(k:Int))(d:α)(h1:k<xs.length):yH xs i=some (xs.getD k d):=by
 subst e;rw[jl (cc h1),b4,cc h1];rfl
def getD_ints{ns:e_}{k:Nat}(h:k<ns.length):(ns.map V.int).getD k .bA=.int (ns.getD k 0):=by
 rw[b4,eG,cc h,b4,cc h];rfl
def cq{ns:e_}{k:Nat}(h:ay K H p (ns.map V.int))(e:i=(k:Int))(h1:k<ns.length)(q:Q (.int<|ns.getD k 0) H):nF K (.ref p) (.int i) H Q:=
 ⟨p,_,i,_,rfl,rfl,h,fB e .bA (by rw[b5];exact h1),by rw[getD_ints h1];exact q⟩
def dM{ns:e_}{k:Nat}(h:aP K H p (ns.map V.int))(e:i=(k:Int))(h1:k<ns.length)(q:Q (.int<|ns.getD k 0) H):Ct K (.ref p) (.int i) H Q:=
 ⟨p,_,i,_,rfl,rfl,h,fB e .bA (by rw[b5];exact h1),by rw[getD_ints h1];exact q⟩
variable{a:Addr}{ns:e_}{g:TG}{tb:TS}
def Kh(I:o_)(h:aP K H a (ns.map V.int))(h0:I 0 σ H)(hl:∀i σ H,I i σ H->aP K H a (ns.map V.int))
  (step:∀i σ H,i<ns.length->I i σ H->g (.int<|ns.getD i 0) σ H λσ2 H2=>tb {D with nx:=I<|i+1,ct:=I<|i+1,bk:=D.nx} σ2 H2)
  (fin:∀σ H,I ns.length σ H->D.nx σ H):∃b,V.ref a=.ref b/\(∃xs,aP K H b xs)/\qB g tb D σ (Eb K b) H:=by
 refine⟨a,rfl,⟨_,h⟩,AY (xs:=ns.map V.int) I h0 (λi σ H _ p=>hl i σ H p) (λi x σ H e p=>?_) λσ H p=>fin σ H (by rw[b5]at p;exact p)⟩
 have hi:i<ns.length:=by have:=(nt.mp e).1;rw[b5]at this;exact this
 have c:x=.int (ns.getD i 0):=by
  rw[<-getD_ints hi,b4,e];rfl
 rw[c];exact step i σ H hi p
def forL(I:o_)(h:ay K H a (ns.map V.int))(h0:I 0 σ H)(hl:∀i σ H,I i σ H->ay K H a (ns.map V.int))
  (step:∀i σ H,i<ns.length->I i σ H->g (.int<|ns.getD i 0) σ H λσ2 H2=>tb {D with nx:=I<|i+1,ct:=I<|i+1,bk:=D.nx} σ2 H2)
  (fin:∀σ H,I ns.length σ H->D.nx σ H):∃b,V.ref a=.ref b/\(∃xs,ay K H b xs)/\qB g tb D σ (IQ K b) H:=by
 refine⟨a,rfl,⟨_,h⟩,vI (xs:=ns.map V.int) I h0 (λi σ H _ p=>hl i σ H p) (λi x σ H e p=>?_) λσ H p=>fin σ H (by rw[b5]at p;exact p)⟩
 have hi:i<ns.length:=by have:=(nt.mp e).1;rw[b5]at this;exact this
 have c:x=.int (ns.getD i 0):=by
  rw[<-getD_ints hi,b4,e];rfl
 rw[c];exact step i σ H hi p
variable{j:Int}
def forR(n:Nat)(I:o_)(e:j=(n:Int))(hn:n<=1000000)(h0:I 0 σ H)
  (step:∀i σ H,i<n->I i σ H->g (.int (i:Int)) σ H λσ2 H2=>tb {D with nx:=I<|i+1,ct:=I<|i+1,bk:=D.nx} σ2 H2)
  (fin:∀σ H,I n σ H->D.nx σ H):∃k:Int,[V.int j]=[.int k]/\-(2 ^ 62)<=k/\k<2 ^ 62/\qB g tb D σ (AU 0 k.toNat) H:=by
 subst e;refine⟨_,rfl,by omega,by omega,rO (n:=((n:Nat):Int).toNat) I h0 (λi σ H hi p=>?_) λσ H p=>fin σ H (by rw[ri]at p;exact p)⟩
 rw[ri]at hi
 have:=step i σ H hi p
 rw[<-Int.zero_add ((i:Nat):Int)]at this;exact this
variable{tc:TT}
def qF{rest:St}{H1:Hp}(ok:vX J H1 n item)(keep:Nat->Bool)(val:Nat->V)(hn:n<sizeLine)
  (step:∀i H (A:q_) (B:r_),i<n->ag H1 H->(keep i=true->∀H',ag H H'->A (val i) H')->(keep i=false->∀H',ag H H'->B H')->
   tc (some (item i)::rest) H λb H3=>if b=true then te (some (item i)::rest) H3 A else B H3)
  (fin:∀B_ H,H1 B_=none->ag H1 H->H B_=some (.lst<|((List.range n).filter keep).map val)->Q (.ref B_) H):vB (bF 0) tc te (none::rest) Q J H1:=by
 have c:∀i,i<n->(((List.range i).filter keep).map val).length<sizeLine:=λi hi=>by
  have:=ya keep<|List.range i
  rw[j6]at this;rw[b5];omega
 refine OO ok (λi=>((List.range i).filter keep).map val) (λ_ τ=>∃y,τ=y::rest) rfl ⟨_,rfl⟩ ?_ fin;rintro i τ H B_ hi ⟨y,rfl⟩ d e f;show tc (some (item i)::rest) H _;refine step i H _ _ hi e (λhk H' a=>?_) λhk H' a=>?_
 ·refine ON d (a _ _ f) (e.trans a) (c i hi) ?_ ⟨_,rfl⟩
  simp[List.range_succ,List.filter_append,List.map_append,hk]
 ·refine⟨⟨_,rfl⟩,e.trans a,?_⟩;rw[a _ _ f]
  simp[List.range_succ,List.filter_append,List.map_append,hk]
def TL{rest:St}{H1:Hp}(keep:Nat->Bool)(val:Nat->Int)(h:aP K H1 a (ns.map V.int))(hn:ns.length<sizeLine)
  (step:∀i H (A:q_) (B:r_),i<ns.length->ag H1 H->(keep i=true->∀H',ag H H'->A (.int<|val i) H')->(keep i=false->∀H',ag H H'->B H')->
   tc (some (.int<|ns.getD i 0)::rest) H λb H3=>if b=true then te (some (.int<|ns.getD i 0)::rest) H3 A else B H3)
  (fin:∀B_ H,H1 B_=none->ag H1 H->H B_=some (.lst<|(((List.range ns.length).filter keep).map val).map V.int)->Q (.ref B_) H):
  ∃b,V.ref a=.ref b/\(∃xs,aP K H1 b xs)/\vB (bF 0) tc te (none::rest) Q (Eb K b) H1:=by
 refine⟨a,rfl,⟨_,h⟩,qF (gB h) keep (λi=>.int<|val i) (by rw[b5];exact hn) (λi H A B hi g c f=>?_) λB_ H h1 e d=>fin B_ H h1 e (by rw[d,kb,b5];rfl)⟩
 rw[b5]at hi;rw[getD_ints hi];exact step i H A B hi g c f
def Uh{rest:St}{H1:Hp}(keep:Nat->Bool)(val:Nat->Int)(h:ay K H1 a (ns.map V.int))(hn:ns.length<sizeLine)
  (step:∀i H (A:q_) (B:r_),i<ns.length->ag H1 H->(keep i=true->∀H',ag H H'->A (.int<|val i) H')->(keep i=false->∀H',ag H H'->B H')->
   tc (some (.int<|ns.getD i 0)::rest) H λb H3=>if b=true then te (some (.int<|ns.getD i 0)::rest) H3 A else B H3)
  (fin:∀B_ H,H1 B_=none->ag H1 H->H B_=some (.lst<|(((List.range ns.length).filter keep).map val).map V.int)->Q (.ref B_) H):
  ∃b,V.ref a=.ref b/\(∃xs,ay K H1 b xs)/\vB (bF 0) tc te (none::rest) Q (IQ K b) H1:=by
 refine⟨a,rfl,⟨_,h⟩,qF (bV h) keep (λi=>.int<|val i) (by rw[b5];exact hn) (λi H A B hi g c f=>?_) λB_ H h1 e d=>fin B_ H h1 e (by rw[d,kb,b5];rfl)⟩
 rw[b5]at hi;rw[getD_ints hi];exact step i H A B hi g c f
def Ry{rest:St}{H1:Hp}(n:Nat)(keep:Nat->Bool)(val:Nat->Int)(e:j=(n:Int))(hn:n<=1000000)
  (step:∀i H (A:q_) (B:r_),i<n->ag H1 H->(keep i=true->∀H',ag H H'->A (.int<|val i) H')->(keep i=false->∀H',ag H H'->B H')->
   tc (some (.int (i:Int))::rest) H λb H3=>if b=true then te (some (.int (i:Int))::rest) H3 A else B H3)
  (fin:∀B_ H,H1 B_=none->ag H1 H->H B_=some (.lst<|(((List.range n).filter keep).map val).map V.int)->Q (.ref B_) H):
  ∃k:Int,[V.int j]=[.int k]/\-(2 ^ 62)<=k/\k<2 ^ 62/\vB (bF 0) tc te (none::rest) Q (AU 0 k.toNat) H1:=by
 subst e;refine⟨_,rfl,by omega,by omega,?_⟩
 rw[ri];refine qF ft keep (λi=>.int<|val i) (A6 hn a_) (λi H A B hi g a f=>?_) λB_ H h1 d c=>fin B_ H h1 d (by rw[c,kb];rfl)
 rw[Int.zero_add];exact step i H A B hi g a f
def bE(n:Nat):(List.range n).filter (λ_=>true)=List.range n:=by simp
variable{β:Type}
def map_getD(ns:e_)(f:Int->β):(List.range ns.length).map (λi=>f<|ns.getD i 0)=ns.map f:=by
 apply ext_getElem
 ·simp
 ·intro i h1 a
  simp at h1
  simp[h1]
theorem Bt.pr{k:Nat}:∀ {cs:e_},(∀c∈cs,Bt k c)->Bt (cs.length*k+1) (L2.pr cs)
 | [],_=>by unfold Bt;simp[L2.pr]
 |c::r,h=>by
  have h1:=h c<|gc ..;have a:=Bt.pr (k:=k) (cs:=r) λd b=>h d<|fN _ b
  have:=h1.mul a
  rw[L2.pr];exact this.mono (by rw[kf,Nat.succ_mul];omega)
def Bt.le{a:Nat}(h0:0<=i)(h:i<2 ^ a):Bt a i:=by
 unfold Bt
 have:(i.natAbs:Int)<((2 ^ a:Nat):Int):=by
  rw[natCast_pow];rw[Int.natAbs_of_nonneg h0];exact_mod_cast h
 omega
def IS.gq{k:Nat}{fd:FuncData}(F:IS K x x st f fd)(S:DS (aj st) N ps G)
  (len:∀vs H Q E,sp vs H Q E->vs.length=ps.length)
  (cX:∀(X:Cx),Sc X N N G->X.prog=P->X.w=w->X.K=K->X.mg=mg->X.base=base->X.calm=true->X.env.scope=aj st->X.xe=(λ_ _=>False)->ck k X.A->X.A.units+64<cLine->
   ∀(H:Hp) (vs:u_) (Q:VK) (E:XK),sp vs H Q E->∃t,vY X (aS st) t/\t {nx:=λ_ H'=>Q .bA H',rt:=Q} (L2.start N vs) H):eh P w K mg base Cy (k+1) f fd ps sp:=
 F.ok S.fs len λc A a s H vs Q E b h=>by
  obtain⟨t,z,y⟩:=cX _ S.cx rfl rfl rfl rfl rfl rfl rfl rfl b b.units H vs Q E h;exact⟨t,z.h,y⟩
def FU{k:Nat}(h:k<=xs.length):jy xs none (some (k:Int))=xs.take k:=by
 unfold jy;rw[HT.kS,HT.jk,drop_zero,Nat.sub_zero,Nat.min_eq_left h]
def FV{k:Nat}(h:k<=xs.length):jy xs (some (k:Int)) none=xs.drop k:=by
 unfold jy;rw[HT.kS,HT.jk,Nat.min_eq_left h,AC];rw[q5];exact ey _
def cZ{k:Nat}:jy xs (some (k:Int)) none=xs.drop k:=by
 by_cases h:k<=xs.length
 ·exact FV h
 ·unfold jy;rw[HT.kS,HT.jk,Nat.min_eq_right (by omega),drop_eq_nil_of_le<|ey _,drop_eq_nil_of_le (by omega),List.take_nil]
def jr{k:Nat}:jy xs none (some (k:Int))=xs.take k:=by
 by_cases h:k<=xs.length
 ·exact FU h
 ·unfold jy;rw[HT.kS,HT.jk,drop_zero,Nat.sub_zero,Nat.min_eq_right (by omega),AC<|ey _,AC (by omega)]
def tY(k:Nat)(h:aP K H a (ns.map V.int))(e:i=(k:Int))(hk:k<ns.length)(q:∀p,H p=none->Q (.ref p) (upd H p<|.tup<|(ns.take k).map V.int)):JE K (.ref a) none (some i) H Q:=by
 subst e;refine⟨a,_,rfl,h,?_,λp b=>?_⟩
 ·rw[b5,HT.jk];omega
 ·rw[jr,<-map_take];exact q p b
def tZ(k:Nat)(h:aP K H a (ns.map V.int))(e:i=((k+1:Nat):Int))(hk:k<ns.length)(q:∀p,H p=none->Q (.ref p) (upd H p<|.tup<|(ns.drop<|k+1).map V.int)):JE K (.ref a) (some i) none H Q:=by
 subst e;refine⟨a,_,rfl,h,?_,λp b=>?_⟩
 ·rw[b5,HT.jk];omega
 ·rw[cZ,<-Vu];exact q p b
def Ki(k:Nat)(h:ay K H a (ns.map V.int))(e:i=(k:Int))(q:∀p,H p=none->Q (.ref p) (upd H p<|.lst<|(ns.drop k).map V.int)):yJ K (.ref a) (some i) none H Q:=by
 subst e;refine⟨a,_,rfl,h,λp b=>?_⟩;rw[cZ,<-Vu];exact q p b
variable{b:Addr}{ms:e_}
def nZ(h:ay K H a (ns.map V.int))(h':ay K H b (ms.map V.int))(hz:ns.length+ms.length<=sizeLine)(q:∀p,H p=none->Q (.ref p) (upd H p<|.lst<|(ns++ms).map V.int)):Bh K (.ref a) (.ref b) H Q:=
 ⟨a,b,_,_,rfl,rfl,h,h',by rw[b5,b5];exact hz,λp c=>by rw[<-hI];exact q p c⟩
def t9(h:aP K H a (ns.map V.int))(h':aP K H b (ms.map V.int))(hz:ns.length+ms.length<=sizeLine)(q:∀p H',ag H H'->aP K H' p ((ns++ms).map V.int)->Q (.ref p) H'):FD K (.ref a) (.ref b) H Q:=
 ⟨a,b,_,_,rfl,rfl,h,h',by rw[b5,b5];exact hz,λp H' d c=>by rw[<-hI]at c;exact q p H' d c⟩
def cw(h:n<=100):n<=sizeLine:=hU h a_
variable{v:V}
def br(h:aP K H p xs)(e:yH xs i=some v)(q:Q v H):Ct K (.ref p) (.int i) H Q:=⟨p,_,i,_,rfl,rfl,h,e,q⟩
structure Cn(c:Int):Prop where
 lo:1<=c
 hi:c<=1000000000000000000000000000000
def MD:Sp:=λa H Q _=>∃m n:Nat,a=[.int m,.int n]/\Q (.int<|Nat.gcd m n) H
def Rz(H0:Hp)(g:Nat)(r:St)(σ:St)(H:Hp):Prop:=H=H0/\∃(m n:Nat) (y:St),σ=some (.int m)::some (.int n)::y/\y.length=r.length/\Nat.gcd m n=g
def UM(σ:St):Nat:=match σ with
 |_::some (.int n)::_=>n.toNat
 |_=>0
def Ui{α:Type}{y:List α}(h:y.length=1):∃a,y=[a]:=by
 match y,h with
 | [a],_=>exact⟨a,rfl⟩
def Uj(m n:Nat):(m:Int)%(n:Int)=((m%n:Nat):Int):=(natCast_emod m n).symm
structure b9(cs:e_):Prop where
 cn:∀c∈cs,Cn c
 len:cs.length<=8
end L2
namespace L2
open PySem PySem.Spec PyProof.Rows
def b9.pos{cs:e_}(h:b9 cs):∀c∈cs,1<=c:=λc hc=>(h.cn c hc).lo
theorem b9.take{cs:e_}(h:b9 cs)(i:Nat):b9 (cs.take i):=⟨λc hc=>h.cn c<|mem_of_mem_take hc,by rw[rr];have:=h.len;omega⟩
def Cn.bt{c:Int}(h:Cn c):Bt 100 c:=by
 unfold Bt;have h1:=h.lo;have a:=h.hi
 have:(2:Nat) ^ 100=1267650600228229401496703205376:=by decide
 omega
def b9.CG{cs:e_}(h:b9 cs):Bt 801 (pr cs):=(Bt.pr λc hc=>(h.cn c hc).bt).mono (by have:=h.len;omega)
def b9.jI{cs:e_}(h:b9 cs):1<=pr cs:=oY h.pos
def b9.RA{cs:e_}(h:b9 cs):0<=dg (pr cs) cs:=iO (by have:=h.jI;omega) h.pos
def b9.RB{cs:e_}(h:b9 cs):Bt 805 (dg (pr cs) cs):=by
 have h1:=tX (W:=pr cs) (by have:=h.jI;omega) h.pos
 have b:(cs.length:Int)*pr cs<=8*pr cs:=Int.mul_le_mul_of_nonneg_right (by have:=h.len;omega) (by have:=h.jI;omega)
 have a:Bt (4+801) (8*pr cs):=Bt.mul (by unfold Bt;decide) h.CG
 exact a.of_le h.RA (by omega)
def b9.get{cs:e_}(h:b9 cs){i:Nat}(hi:i<cs.length):Cn (cs.getD i 0):=h.cn _<|L2.getD_mem hi
noncomputable def gC(cs:e_):Nat:=Nat.gcd (dg (pr cs) cs).toNat (pr cs).toNat
def za{cs:e_}(h:b9 cs):0<gC cs:=Nat.gcd_pos_of_pos_right _ (by have:=h.jI;omega)
def toN{i:Int}(h:0<=i):((i.toNat:Nat):Int)=i:=Int.toNat_of_nonneg h
def RC{cs:e_}(h:b9 cs):(gC cs:Int)∣dg (pr cs) cs:=by
 have:=Int.natCast_dvd_natCast.mpr<|Nat.gcd_dvd_left (dg (pr cs) cs).toNat (pr cs).toNat
 rw[toN h.RA]at this;exact this
def FW{cs:e_}(h:b9 cs):(gC cs:Int)∣pr cs:=by
 have:=Int.natCast_dvd_natCast.mpr<|Nat.gcd_dvd_right (dg (pr cs) cs).toNat (pr cs).toNat
 rw[toN (show 0<=pr cs by have:=h.jI;omega)]at this
 exact this
noncomputable def RD(cs:e_):Int:=dg (pr cs) cs / gC cs
noncomputable def Qq(cs:e_):Int:=pr cs / gC cs
def zb{cs:e_}(h:b9 cs):0<=RD cs:=Int.ediv_nonneg h.RA (by omega)
def o9{cs:e_}(h:b9 cs):1<=Qq cs:=Kf (by have:=za h;omega) (by have:=h.jI;omega)<|FW h
def OX{cs:e_}(h:b9 cs):Bt 805 (RD cs):=h.RB.of_le (zb h)<|ediv_le_self _ h.RA
def FX{cs:e_}(h:b9 cs):Bt 801 (Qq cs):=h.CG.of_le (by have:=o9 h;omega) (ediv_le_self _ (by have:=h.jI;omega))
def RE{cs:e_}(h:b9 cs):Bt 801 (gC cs):=h.CG.of_le (by omega) (Int.le_of_dvd (by have:=h.jI;omega)<|FW h)
def OY{cs:e_}(h:b9 cs):RD cs / Qq cs=dg (pr cs) cs / pr cs:=Ke (by have:=za h;omega) (RC h)<|FW h
def uc(K:Frag):Sp:=λa H Q _=>∃(p:Addr) (cs:e_),a=[.ref p]/\aP K H p (cs.map V.int)/\b9 cs/\∀(q:Addr) (H':Hp),ag H H'->H' q=some (.tup [.int (RD cs),.int<|Qq cs])->Q (.ref q) H'
def Uk(H0:Hp)(p:Addr)(cs:e_)(i:Nat)(σ:St)(H:Hp):Prop:=H=H0/\∃y,σ=[some (.ref p),some<|.int<|dg (pr<|cs.take i)<|cs.take i,some<|.int<|pr<|cs.take i,y,none]
def FY(K:Frag):Sp:=λa H Q _=>∃(p:Addr) (cs:e_),a=[.ref p]/\aP K H p (cs.map V.int)/\b9 cs/\∀(H':Hp),ag H H'->Q (.int<|dg (pr cs) cs / pr cs) H'
def OZ{i j:Int}(h:i=j):(!decide (i=j))=false:=by rw[ed h];rfl
def Bo(K:Frag):Sp:=λb H Q _=>∃(a:Addr) (ns:e_),b=[.ref a]/\ay K H a (ns.map V.int)/\ns.length<=63/\∀H',Q (.bl true) H'
def FZ(K:Frag):Sp:=λa H Q _=>∃(p:Addr) (cs:e_),a=[.ref p]/\aP K H p (cs.map V.int)/\b9 cs/\Q (.int<|pr cs) H
def RF(H0:Hp)(p:Addr)(cs:e_)(i:Nat)(σ:St)(H:Hp):Prop:=H=H0/\∃y,σ=[some (.ref p),some<|.int<|pr<|cs.take i,y]
structure RG(cs hs:e_):Prop where
 len:hs.length=cs.length
 bt:∀j,j<cs.length->Bt 100 (hs.getD j 0)
def RH(K:Frag):Sp:=λa H Q _=>∃(p h:Addr) (cs hs:e_) (i:Nat),a=[.ref p,.ref h,.int i]/\aP K H p (cs.map V.int)/\aP K H h (hs.map V.int)/\b9 cs/\RG cs hs/\i<cs.length/\∀H',ag H H'->Q (.int<|cg cs hs i) H'
variable{i:Nat}
def O0{cs:e_}(hcs:b9 cs)(hi:i<cs.length):(0:Int)<cs.getD i 0/\(cs.getD i 0).natAbs.log2<9000:=by
 have h1:=hcs.get hi;exact⟨by have:=h1.lo;omega,h1.bt.log (by have:=h1.lo;omega) a_⟩
def ME{cs:e_}(hcs:b9 cs)(hi:i<cs.length):Bt 801 (pr cs / cs.getD i 0):=by
 have h:=FP hcs.pos hi;exact hcs.CG.of_le (by omega) h.1
variable{j:Nat}
def O1:(!decide ((j:Int)=(i:Int)))=decide (¬j=i):=by
 by_cases h:j=i
 ·subst h;simp
 ·have a:¬(j:Int)=(i:Int):=by omega
  rw[cv a,ed h];rfl
noncomputable def putAt(hs:e_)(i:Nat)(o:Int):e_:=hs.take i++[o]++hs.drop (i+1)
def HN(cs h:e_)(n:Nat):Prop:=h.length=n/\∀i,i<n->0<=h.getD i 0/\h.getD i 0<cs.getD i 0
def pb{n:Nat}(h:n<=1000):n<=sizeLine:=Nat.le_of_lt<|aC h
variable{o:HO}
def aP.gF{K:Frag}{H:Hp}{r B_:Addr}{xs ys:u_}(h:aP K H r xs)(ha:H B_=some (.lst ys)):aP K (upd H B_ o) r xs:=by
 rcases h with (h|⟨u,h⟩)|h
 ·exact .inl (.inl (by rw[aK (iq h ha (by intro z;cases z))];exact h))
 ·exact .inl (.inr ⟨u,by rw[aK (iq h ha (by intro z;cases z))];exact h⟩)
 ·exact .inr h
def ud{n k:Nat}(h:k<n):EJ n (k:Int)=some k:=by
 unfold EJ;rw[if_pos (by omega),if_pos (by omega),ri]
def F0(ns ms:e_):PyData.eqv (.list<|ns.map PyData.int) (.list<|ms.map PyData.int)=decide (ns=ms):=by
 simp only[PyData.eqv,m7]
def ez{L:d_}{k:Nat}(h:k<L.length):L.getD k 0∈L:=by
 rw[b4,cc h];exact pS h
noncomputable def fC(ws:d_)(i j:Nat):Bool:=(ws.getD i 0).testBit j
structure iu(ws:d_):Prop where
 lt:∀i,i<ws.length->ws.getD i 0<2 ^ ws.length
 self:∀i,i<ws.length->fC ws i i=false
variable{ws:d_}
def iu.inside(h:iu ws)(hi:i<ws.length)(s:fC ws i j=true):j<ws.length:=by
 by_cases c:j<ws.length
 ·exact c
 ·unfold fC at s
  have:=Nat.testBit_lt_two_pow (x:=ws.getD i 0) (i:=j) (j5 (h.lt i hi) (qc a_ (by omega)))
  rw[this]at s;cases s
noncomputable def ready(ws:d_)(laid i:Nat):Bool:=!laid.testBit i&&decide (ws.getD i 0|||laid=laid)
noncomputable def bP(ws:d_)(laid:Nat):Option Nat:=(List.range ws.length).find?<|ready ws laid
variable{b:Nat}
def O2{a:Nat}:a|||b=b↔∀j,a.testBit j=true->b.testBit j=true:=by
 constructor
 ·intro h j hj;rw[<-h,testBit_or,hj];rfl
 ·intro h
  apply UV
  intro j;rw[testBit_or]
  cases e:a.testBit j with
  |false=>rfl
  |true=>rw[h j e];rfl
def iP{m:Nat}:(m|||2 ^ i).testBit j=(m.testBit j||decide (i=j)):=by
 rw[testBit_or,GE]
noncomputable def fW(ws:d_):Nat->d_->Nat->List Nat
 |0,order,_=>order
 |f+1,order,laid=>match bP ws laid with
  |none=>order
  |some i=>fW ws f (order++[i]) (laid|||2 ^ i)
noncomputable def laidOut(ws:d_):d_:=fW ws (ws.length+1) [] 0
structure Laid(ws order:d_)(laid:Nat):Prop where
 bits:∀j,laid.testBit j=true↔j∈order
 nd:order.Nodup
 lt:∀i∈order,i<ws.length
 ok:∀k,k<order.length->∀j,fC ws (order.getD k 0) j=true->j∈order.take k
def Laid.nil(ws:d_):Laid ws [] 0:=⟨by simp,nodup_nil,by simp,by simp⟩
def lZ{laid:Nat}:ready ws laid i=true↔laid.testBit i=false/\∀j,fC ws i j=true->laid.testBit j=true:=by
 unfold ready fC;rw[fz,Bool.not_eq_true',ka,O2]
def iw{laid:Nat}(h:bP ws laid=some i):i<ws.length/\laid.testBit i=false/\∀j,fC ws i j=true->laid.testBit j=true:=by
 have h1:=List.find?_some h;have a:=List.mem_of_find?_eq_some h;exact⟨mv.mp a,lZ.mp h1⟩
variable{h:d_}{x d:Nat}
def eC(hj:j<h.length):(h++[x]).getD j d=h.getD j d:=by
 rw[b4,u5 hj,<-b4]
def fX:(h++[x]).getD h.length d=x:=by
 rw[b4,tz<|ey _,Nat.sub_self];rfl
variable{order:d_}
def Laid.put{laid:Nat}(h:Laid ws order laid)(hf:bP ws laid=some i):Laid ws (order++[i]) (laid|||2 ^ i):=by
 obtain⟨h1,f,l⟩:=iw hf;have d:i∉order:=λz=>by rw[(h.bits i).mpr z]at f;cases f
 refine⟨λj=>?_,?_,?_,?_⟩
 ·rw[iP,P3,h.bits,ih,ek,ka]
  constructor
  ·rintro(a|a)
   ·exact .inl a
   ·exact .inr a.symm
  ·rintro(a|a)
   ·exact .inl a
   ·exact .inr a.symm
 ·rw[VH];refine⟨h.nd,by simp,?_⟩
  intro a g b hb e;rw[ek]at hb;subst hb;subst e;exact d g
 ·intro j hj
  rcases ih.mp hj with hj|hj
  ·exact h.lt j hj
  ·rw[ek.mp hj];exact h1
 ·intro k hk j hj;rw[eR]at hk
  by_cases e:k=order.length
  ·subst e;rw[fX]at hj;rw[List.take_append_of_le_length (ey _),L1];exact(h.bits j).mp (l j hj)
  ·have c:k<order.length:=by simp at hk;omega
   rw[eC c]at hj;rw[List.take_append_of_le_length (by omega)]
   exact h.ok k c j hj
theorem cE:∀ {n:Nat} {order:d_},order.Nodup->(∀i∈order,i<n)->order.length<=n
 |0,[],_,_=>ey _
 |0,a::r,_,h=>absurd (h a<|gc ..)<|VE a
 |n+1,order,b,h=>by
  have h1:(order.erase n).Nodup:=b.erase n;have d:=cE (n:=n) h1 λi hi=>by
   have:=(b.mem_erase_iff).mp hi
   have:=h i this.2
   omega
  have c:=length_erase (a:=n) (l:=order)
  split at c<;>omega
theorem su:∀ {xs ys:d_},xs.Nodup->(∀i∈xs,i∈ys)->xs.length<=ys.length
 | [],_,_,_=>zero_le _
 |a::r,ys,d,h=>by
  have b:=wh.mp d;have h1:=su (xs:=r) (ys:=ys.erase a) b.2 λi hi=>by
   have:i≠a:=λz=>b.1<|z ▸ hi
   exact(List.mem_erase_of_ne this).mpr (h i<|fN _ hi)
  have c:=length_erase (a:=a) (l:=ys);rw[if_pos (h a<|gc ..)]at c
  have:0<ys.length:=length_pos_of_mem<|h a<|gc ..
  rw[kf];omega
theorem pd{ws:d_}:∀(f:Nat) (order:d_) (laid:Nat),Laid ws order laid->ws.length<f+order.length->∃l,Laid ws (fW ws f order laid) l/\bP ws l=none
 |0,order,l,h,a=>by
  have:=cE h.nd h.lt
  omega
 |f+1,order,laid,h,a=>by
  unfold fW
  cases e:bP ws laid with
  |none=>exact⟨_,h,e⟩
  |some i=>exact pd f _ _ (h.put e) (by rw[eR];simp;omega)
variable{f:Nat}
def v9{laid:Nat}(e:bP ws laid=some i):fW ws (f+1) order laid=fW ws f (order++[i]) (laid|||2 ^ i):=by
 rw[fW,e]
def we{laid:Nat}(e:bP ws laid=none):fW ws f order laid=order:=by
 cases f with
 |zero=>rfl
 |succ f=>rw[fW,e]
def gX(ws:d_):∃l,Laid ws (laidOut ws) l/\bP ws l=none:=pd _ _ _ (Laid.nil ws) (by simp)
def CH(hw:iu ws)(hi:i<ws.length)(hn:i∉laidOut ws):∃j,j<ws.length/\fC ws i j=true/\j∉laidOut ws:=by
 obtain⟨l,h,e⟩:=gX ws;have h1:ready ws l i=false:=by
  have:=List.find?_eq_none.mp e i<|mv.mpr hi
  simpa using this
 have b:l.testBit i=false:=by
  cases q:l.testBit i with
  |false=>rfl
  |true=>exact absurd ((h.bits i).mp q) hn
 have a:¬ ∀j,fC ws i j=true->l.testBit j=true:=λz=>by
  have:=lZ.mpr ⟨b,z⟩
  rw[this]at h1;cases h1
 have c:∃j,fC ws i j=true/\¬l.testBit j=true:=by
  apply vr
  intro q
  apply a
  intro j hj
  apply vr
  intro r;exact q ⟨j,hj,r⟩
 obtain⟨j,hj,d⟩:=c;exact⟨j,hw.inside hi hj,hj,λz=>d<|(h.bits j).mpr z⟩
def Ga:(laidOut ws).length<ws.length↔∃i,i<ws.length/\i∉laidOut ws:=by
 obtain⟨l,h,e⟩:=gX ws
 constructor
 ·intro a
  apply vr
  intro q
  have:∀i,i<ws.length->i∈laidOut ws:=λi hi=>vr λz=>q ⟨i,hi,z⟩
  have h1:=su (VN (n:=ws.length)) λi hi=>this i<|mv.mp hi;rw[j6]at h1
  omega
 ·rintro⟨i,hi,hn⟩;have h1:(i::laidOut ws).Nodup:=wh.mpr ⟨hn,h.nd⟩;have b:=cE h1 λj hj=>by
   rcases gz.mp hj with rfl|hj
   ·exact hi
   ·exact h.lt j hj
  rw[kf]at b
  omega
structure Ring(ws r:d_):Prop where
 two:2<=r.length
 nd:r.Nodup
 lt:∀i∈r,i<ws.length
 next:∀k,k+1<r.length->fC ws (r.getD k 0) (r.getD (k+1) 0)=true
 last:fC ws (r.getD (r.length-1) 0) (r.getD 0 0)=true
structure Path(ws left path:d_)(i:Nat):Prop where
 nd:path.Nodup
 sub:∀j∈path,j∈left
 here:i∈left
 next:∀k,k+1<path.length->fC ws (path.getD k 0) (path.getD (k+1) 0)=true
 last:path≠[]->fC ws (path.getD (path.length-1) 0) i=true
variable{left:d_}
def Path.nil(h:i∈left):Path ws left [] i:=⟨nodup_nil,by simp,h,by simp,by simp⟩
variable{path:d_}
def Path.put(h:Path ws left path i)(hn:i∉path)(hj:j∈left)(hs:fC ws i j=true):Path ws left (path++[i]) j:=by
 refine⟨?_,?_,hj,?_,?_⟩
 ·rw[VH];refine⟨h.nd,by simp,?_⟩
  intro a c b hb e;rw[ek]at hb;subst hb;subst e;exact hn c
 ·intro k hk
  rcases ih.mp hk with hk|hk
  ·exact h.sub k hk
  ·rw[ek.mp hk];exact h.here
 ·intro k hk;rw[eR]at hk
  simp at hk
  by_cases e:k+1=path.length
  ·rw[e,fX,eC (by omega)]
   have:=h.last (λz=>by subst z;simp at e)
   rw[<-e]at this
   simpa using this
  ·rw[eC (by omega),eC (by omega)]
   exact h.next k (by omega)
 ·intro _;rw[eR];show fC ws ((path++[i]).getD (path.length+1-1) 0) j=true;rw[Nat.add_sub_cancel,fX];exact hs
variable{l:d_}
def gY{n k:Nat}:(l.drop n).getD k d=l.getD (n+k) d:=by
 rw[b4,getElem?_drop,<-b4]
def Path.ring(hw:iu ws)(hl:∀j∈left,j<ws.length)(h:Path ws left path i)(hi:i∈path):Ring ws (path.drop<|path.idxOf i):=by
 have d:=I1 hi;have c:path.getD (path.idxOf i) 0=i:=by
  rw[b4,cc d];exact Vy d
 have a:=h.last<|List.ne_nil_of_mem hi;generalize path.idxOf i=n at d c;have b:(path.drop n).length=path.length-n:=q5;refine⟨?_,h.nd.sublist<|List.drop_sublist _ _,λj hj=>hl j<|h.sub j<|mem_of_mem_drop hj,λk hk=>?_,?_⟩
 ·rw[b]
  apply vr
  intro q;have e:path.length-1=n:=by omega
  rw[e,c]at a;rw[hw.self i (hl i h.here)]at a
  cases a
 ·rw[gY,gY];rw[b]at hk;exact h.next (n+k) (by omega)
 ·rw[gY,gY,b,Nat.add_zero,c,show n+(path.length-n-1)=path.length-1 by omega]
  exact a
def Kj(m n:Nat):Builtin.bitAnd (m:Int) (n:Int)=((m&&& n:Nat):Int):=by
 have h1:decide (0<=(m:Int))=true:=ed (by omega)
 have a:decide (0<=(n:Int))=true:=ed (by omega)
 unfold Builtin.bitAnd;rw[h1,a];simp only[toNat_natCast]
def Kk(m n:Nat):Builtin.bitAnd (Builtin.bitNot (m:Int)) (Builtin.bitNot (n:Int))=Builtin.bitNot ((m|||n:Nat):Int):=by
 have h1:decide (0<=Builtin.bitNot (m:Int))=false:=cv (by unfold Builtin.bitNot;omega)
 have a:decide (0<=Builtin.bitNot (n:Int))=false:=cv (by unfold Builtin.bitNot;omega)
 have e:∀k:Nat,(Builtin.bitNot<|Builtin.bitNot (k:Int)).toNat=k:=λk=>by unfold Builtin.bitNot;omega
 unfold Builtin.bitAnd;rw[h1,a];simp only[e]
def Ul(m n:Nat):Builtin.bitOr (m:Int) (n:Int)=((m|||n:Nat):Int):=by
 unfold Builtin.bitOr;rw[Kk];unfold Builtin.bitNot
 omega
def ue(m n:Nat):Builtin.bitAnd (m:Int) (Builtin.bitNot (n:Int))=((m-(m&&& n):Nat):Int):=by
 have h1:decide (0<=(m:Int))=true:=ed (by omega)
 have a:decide (0<=Builtin.bitNot (n:Int))=false:=cv (by unfold Builtin.bitNot;omega)
 have e:(Builtin.bitNot<|Builtin.bitNot (n:Int)).toNat=n:=by unfold Builtin.bitNot;omega
 unfold Builtin.bitAnd;rw[h1,a];simp only[e,toNat_natCast]
 have:=Nat.and_le_left (n:=m) (m:=n)
 omega
def Kl(K:Frag):V->u_->Hp->VK->Prop:=λx a H Q=>∃(l:Addr) (ns:e_) (k:Int),x=.ref l/\a=[.int k]/\ay K H l (ns.map V.int)/\k∈ns/\Q (.int (ns.idxOf k:Nat)) H
variable{X:Cx}
def CI{K:Frag}(hK:X.K=K):yo X "list.index" (Kl K):=by
 subst hK;intro m s σ H x O v P Q I L J h;obtain⟨l,e,k,rfl,rfl,C,hk,q⟩:=h
 cases L
 obtain⟨u,rfl,D⟩:=J.one;obtain⟨t,rfl⟩:=D;obtain⟨g,r,N,M⟩:=I.list C;have hi:=intsAre_of r;obtain⟨⟨G,E,i,B⟩,o,A,n,w⟩:=id N.isList
 simp only at A w
 subst A w;have d:=hi.length;have c:e.idxOf k<e.length:=C2.mpr hk;rw[b5]at M;have p:sizeLine<2 ^ 62:=by decide
 refine KM Vp ⟨_,o,rfl⟩ PySem.F.entry_list_index (PySem.F.args_list_index_2 _ _) (list_indexAt l g.toArray n E B (.int k t) (isInt k) (e.idxOf k) (by rw[gd,d];exact c) (by omega) ?a ?b) ⟨o,λy hy=>(eq_isInt k t hi y (by simpa using hy)).at _ _,?_⟩
 case a=>
  have z:=isInt_at k hi (e.idxOf k) (by rw[d];exact c) c
  rw[Vy c,VA]at z;exact z
 case b=>
  intro j hj f;have z:=isInt_at k hi j (by simpa using hj) (by omega)
  rw[ne_of_lt_idxOf f]at z;exact z
 exact⟨.int _,H,I.tok _,⟨_,rfl⟩,q⟩
def zc:u_->Hp->VK->Prop:=λa H Q=>∃(p:Addr) (n:Nat),a=[.ref p]/\H p=some (.Ja 0 n)/\n<=1000000/\∀l,H l=none->Q (.ref l) (upd H l<|.lst<|((List.range n).map λi=>((i:Nat):Int)).map V.int)
def Km:u_->Hp->VK->Prop:=λa H Q=>∃n:Nat,a=[.int n]/\n<=1000000/\∀l,H l=none->Q (.ref l) (upd H l<|.Ja 0 n)
def k7:bJ X (.type "range") Km:=by
 intro a s σ H d f Q I r h;obtain⟨n,rfl,hn,q⟩:=h;obtain⟨u,rfl,c⟩:=vals1 r;obtain⟨t,rfl⟩:=c;refine call_range_1 ?_;exact⟨.ref _,_,I.laid (λb o e=>ef _ e) (ey _)<|show bB X.prog X.w _ _ _ (.Ja 0 n)from⟨_,_,_,h9 _ rfl⟩,rfl,q _ I.fresh⟩
def zd{n:Nat}{B_:k_}(h:ItemsOf (λi v=>∃t,v=Value.int ((0:Int)+i*1) t) B_ n):Vals (((List.range n).map λi=>((i:Nat):Int)).map V.int) B_.toList:=by
 obtain⟨h1,d⟩:=h;have b:∀(l:f') (k:Nat),(∀i v,l[i]?=some v->∃t,v=Value.int (((k+i:Nat):Int)) t)->Vals ((List.range' k l.length).map λi=>V.int ((i:Nat):Int)) l:=by
  intro l
  induction l with
  |nil=>intro k _;exact .nil
  |cons a r c=>
   intro k h;rw[kf,List.range'_succ,qb];refine .cons ?_ (c (k+1) λi v e=>?_)
   ·obtain⟨t,e⟩:=h 0 a rfl;exact⟨t,by rw[e,Nat.add_zero]⟩
   ·obtain⟨t,e⟩:=h (i+1) v (by simpa using e)
    exact⟨t,by rw[e,show k+(i+1)=k+1+i by omega]⟩
 have z:=b B_.toList 0 λi v e=>by
  obtain⟨t,q⟩:=d i v (by rw[<-getElem?_toList];exact e)
  exact⟨t,by rw[q];congr 1;omega⟩
 rw[kb];rw[SZ,h1]at z;rw[List.range_eq_range'];exact z
def gG(hc:X.calm=true):bJ X (.type "list") zc:=by
 intro c s σ H o v Q I r h;obtain⟨p,n,rfl,f,hn,q⟩:=h;obtain⟨u,rfl,l⟩:=vals1 r
 cases l
 obtain⟨m,x,t,j⟩:=I.bf p _ f;refine PySem.call_list_range (n:=n) (I.ok.hd hc) j (small_one (by omega) (by omega) (by omega) (by omega)) (by rw[rangeSize_one];split<;>omega) (by omega) λg y b i d e a=>?_
 refine⟨.ref _,_,I.laid d (ey _) (show bB X.prog X.w _ g _ (.lst _)from⟨?_,b.toList,i,zd a,by simpa using e⟩),rfl,q _ I.fresh⟩
 rw[b5,b5,j6];exact hU hn a_
noncomputable abbrev fY(led:Bool):Obj:={cls:=.type "set",dict:=none,data:=.set #[] 0 (.fresh 0 0 led)}
noncomputable def jB(ns:e_)(n:Nat):e_:=firstMet (λi=>ns.getD i 0) n
abbrev Kn(s:Shared)(P:Heap->Prop)(E:Value->Shared->Prop):Result->Shared->Prop:=wants (λr a=>r=.none/\∃h1 k,a={s with heap:=h1,toks:=k}/\P h1) E
variable{prog:Program}{w:World}{A:Around}{E Q:c_}{s:Shared}
def jJ{p:Addr}{P:Heap->Prop}(h:∀(h1:Heap) (k:Nat),P h1->Q (.ref s.heap.objs.size) {s with heap:=h1,toks:=k})
  (hin:∀led,wpAny (model prog w) A.in1.in1 (Builtin.«set.__init__» {pos:=[.ref s.heap.objs.size,.ref p]}) (λfin s'=>match fin with
   |.done f=>Kn s P E (.ok f) s'
   |.again c=>c.quiet=true/\codeAny (model prog w) A.in1 c (Kn s P E) s') (λe s'=>Kn s P E (.error e) s') {s with heap:=s.heap.push (fY led)}):
  wpAny (model prog w) A (call (.type "set") [.ref p]) Q E s:=by
 obtain⟨u,D,v⟩:=VI.mro;have q:=VI.made;have G:=VI.sub;have B:=VI.notType;have y:=VI.canCreate;have C:=F.typeCall_set_1<|.ref p;refine wpAny_call (codeAny_of_tree (show wpAny _ _ (callAny (.type "set") _) _ _ _ from fO ⟨Code.quiet_builtin _ Dk0,codeAny_builtin F.entry_type_call ?_⟩))
 rw[Around.under_plain (weight_type_call_type "set" [.ref p] []) rfl]
 repeat (any_goals (first|assumption|wp_step))
 refine codeAny_mono (code_set_new_1 (.ref p) (E:=E) (Q₁:=λo g=>∃led:Bool,o=.ref s.heap.objs.size/\g={s with heap:=s.heap.push (fY led)}) λled=>⟨led,rfl,rfl⟩) λr g d=>?_
 cases r with
 |error e=>exact d
 |ok m=>
  cases m with
  |ret obj=>
   obtain⟨led,rfl,rfl⟩:=d;have i:(s.heap.push<|fY led).get? s.heap.objs.size=some (fY led):=h9 _ rfl;have j:Shared.TypeIs {s with heap:=s.heap.push (fY led)} (.ref s.heap.objs.size) "set":=⟨_,i,rfl⟩;have x:=VI.init.lookup;have z:=VI.init.bind (.ref s.heap.objs.size)
   repeat (any_goals (first|assumption|wp_step))
   refine codeAny_mono (codeAny_call_builtin (R:=Kn s P E) VI.init.plain F.entry_set_init<|check_set_init_1 j ?_) λn t b=>?_
   ·exact hin led
   ·cases n with
    |error e=>exact b
    |ok l=>
     cases l with
     |ret r=>
      obtain⟨rfl,h1,k,rfl,a⟩:=b
      repeat (any_goals (first|assumption|wp_step))
      exact h _ _ a
     |_=>exact b.elim
  |_=>exact d.elim
variable{vs:k_}
def uf{p:Addr}{ns:e_}(hA:A.handled=none)(hp:s.heap.IsTuple p vs)(hi:IntsAre vs.toList ns)(hb:vs.size+1<scanBound)
  (h:∀(h1:Heap) (k:Nat),h1.SetOf (intKind prog w) s.heap.objs.size (λj=>(jB ns vs.size).any (· == j)) (jB ns vs.size).length->(∀b o,b<s.heap.objs.size->s.heap.get? b=some o->h1.get? b=some o)->Q (.ref s.heap.objs.size) {s with heap:=h1,toks:=k}):
  wpAny (model prog w) A (call (.type "set") [.ref p]) Q E s:=by
 refine jJ (P:=λh1=>h1.SetOf (intKind prog w) s.heap.objs.size (λj=>(jB ns vs.size).any (· == j)) (jB ns vs.size).length/\∀b o,b<s.heap.objs.size->s.heap.get? b=some o->h1.get? b=some o) (λh1 k z=>h h1 k z.1 z.2) λa=>?_;have q:(s.heap.push<|fY a).get? s.heap.objs.size=some (fY a):=h9 _ rfl;have X:Shared.TypeIs {s with heap:=s.heap.push (fY a)} (.ref s.heap.objs.size) "set":=⟨_,q,rfl⟩;obtain⟨N,m,B,I,r⟩:=hp;obtain⟨u1,R,Y,W⟩:=N
 simp only at B r
 subst B;subst r;have D:=ef (fY a) m;have U:=F.sub_tuple_set;have S:=F.sub_tuple_frozenset;have T:(Value.type "tuple" == Value.type "dict")=false:=by decide
 have u:(s.heap.push<|fY a).IsTuple p vs:=⟨_,D,rfl,I,rfl⟩;unfold Builtin.«set.__init__» noKeywords Builtin.Frozenset.updateFrom;generalize c:pyIter=PI
 wp_walk
 subst c;refine Vi u<|dy<|wpAny_runValue ?_;have n:p<s.heap.objs.size:=lt_size m;have H:A.in1.in1.in1.handled=none:=by simp[hA]
 have f:(s.heap.push<|fY a).objs.size=s.heap.objs.size+1:=C6 ..;have J:p≠(s.heap.push<|fY a).objs.size:=by rw[f];exact ot<|Vw n
 have L:s.heap.objs.size∉[(s.heap.push<|fY a).objs.size,p]:=by
  rw[f];simp only[mem_cons,not_mem_nil,or_false,not_or];exact⟨ot<|VM _,VF n⟩
 have C:∀(i:Nat) (v:Value),vs[i]?=some v->∃t,v=.int ((λi=>ns.getD i 0) i) t:=λi v O=>IntsAre.int_at hi i v (by rw[getElem?_toList];exact O)
 refine codeAny_set_update_loopS ((Walks.tuple H _ p J vs).toS) s.heap.objs.size L (λi=>ns.getD i 0) C hb (vs.size-0) 0 _ (by omega) (zero_le _) ⟨⟨_,h9 _ rfl,rfl,rfl⟩,(u.push _)⟩ ?x ?y
 case x=>
  exact SetOf_congr ((setObjOf_fresh (knd:=intKind prog w) a).setOf (ef _ q) (by unfold scanBound;omega)) (λ_=>rfl) rfl
 case y=>
  intro M hm g;obtain⟨h1,K,G,d,l⟩:=M;obtain rfl:K=s.gens:=hm.gens;obtain rfl:G=s.drawn:=hm.drawn;obtain rfl:l=s.os:=hm.os;show wpAny _ _ _ _ _ _;refine fO<|show wpAny _ _ (ret Value.none) _ _ _ from fO ⟨rfl,h1,d,rfl,g,λb o hb e=>?_⟩
  refine hm.heap b o ?_ (ef _<|ef _ e);rw[f];simp only[mem_cons,not_mem_nil,or_false,not_or];exact⟨ot hb,ot<|Vw hb⟩
noncomputable def unlike(ns:e_):Nat:=(jB ns ns.length).length
def O3(K:Frag):u_->Hp->VK->Prop:=λa H Q=>∃(p:Addr) (ns:e_),a=[.ref p]/\(ay K H p (ns.map V.int)∨aP K H p (ns.map V.int))/\ns.length<1000/\∀l,H l=none->Q (.ref l) (upd H l (.set (λj=>(jB ns ns.length).any (· == j))<|unlike ns))
def CJ{K:Frag}(hc:X.calm=true)(hK:X.K=K):bJ X (.type "set") (O3 K):=by
 subst hK;intro f s σ H y z Q I r h;obtain⟨p,ns,rfl,hq,x,q⟩:=h;obtain⟨u,rfl,t⟩:=vals1 r
 cases t
 have n:(1001:Nat)<scanBound:=by decide
 have g:∀(h1:Heap) (k:Nat),h1.SetOf (intKind X.prog X.w) s.heap.objs.size (λj=>(jB ns ns.length).any (· == j)) (jB ns ns.length).length->(∀b o,b<s.heap.objs.size->s.heap.get? b=some o->h1.get? b=some o)->EP X f σ Q (.ref s.heap.objs.size) {s with heap:=h1,toks:=k}:=λh1 k c d=>
  ⟨.ref _,_,I.laid (λb o e=>d b o (lt_size e) e) (ey _)<|show bB X.prog X.w _ h1 _ (.set _ _)from c,rfl,q _ I.fresh⟩
 rcases hq with hq|hq
 ·obtain⟨a,l,m,v⟩:=I.list hq;have hi:=intsAre_of l;have i:=hi.length;refine call_set_list (items:=a.toArray) (ns:=ns) (I.ok.hd hc) m.isList (by simpa using hi) (by rw[gd];omega) λh1 k c d=>?_
  rw[show a.toArray.size=ns.length by rw[gd];exact i]at c
  exact g h1 k c d
 ·obtain⟨a,l,m,v⟩:=I.tuple hq;have hi:=intsAre_of l;have i:=hi.length;refine uf (vs:=a.toArray) (ns:=ns) (I.ok.hd hc) (show s.heap.IsTuple p a.toArray from m) (by simpa using hi) (by rw[gd];omega) λh1 k c d=>?_
  rw[show a.toArray.size=ns.length by rw[gd];exact i]at c
  exact g h1 k c d
def Inv.Ko{w_:aO0}{σ:St}{H:Hp}{h':Heap}{t':Nat}{ch:l_}(I:Inv X w_ σ H s)(k:∀b o,b∉ch->s.heap.get? b=some o->h'.get? b=some o)(hf:∀b∈ch,kN X w_ H b):Inv X w_ σ H {s with heap:=h',toks:=t'}:=by
 have a:∀b u,H b=some u->b∉ch:=λb u e z=>by rw[(hf b z).1]at e;cases e
 refine I.step (g':=s.gens) (d':=s.drawn) (ch:=ch) (λb hb=>⟨(hf b hb).2.2.2.1,(hf b hb).2.1,(hf b hb).2.2.2.2.1,(hf b hb).2.2.2.2.2⟩) (λb o _ _ hc e _=>k b o hc e) (λb o _ _ hc e _=>⟨o.slots,k b o hc e⟩) (λ_ _ _ _ n=>n)
  (λb o hc e=>⟨o,k b o hc e⟩) (λ_ _ e=>e) (λ_ _ _ e=>e) (λb h e=>⟨#[],by rw[e];simp⟩) (λm hm=>?_) (λb u e=>?_) I.bare
 ·obtain⟨o,f,d,g,r⟩:=hm;exact⟨o,f,d,k _ o (λz=>(hf _ z).2.1 rfl) g,r⟩
 ·refine(I.bf b u e).tq (λc v hc q=>k c v ?_ q) (λ_ q=>q) λ_ _ q=>q
  rcases hc with z|z
  ·rw[z];exact a b u e
  ·exact a c _ z
def wg{it p:Addr}{x:Value}(h1:s.heap.IsTupleIter it p i)(h2:s.heap.IsTuple p vs)(hx:vs[i]?=some x)
  (q:∀h',h'.IsTupleIter it p (i+1)->SameBut it s.heap h'->Q x {s with heap:=h'}):wpAny (model prog w) A (Builtin.SmallTypes.nextOf<|.ref it) Q E s:=by
 obtain⟨o,b,e,a⟩:=id h1;obtain⟨g,d,_,f,c⟩:=h2;unfold Builtin.SmallTypes.nextOf;refine dy<|PP (name:=("__next__":Str)) h1.typeIs F.slot_tuple_iterator_next<|Vg F.slot_tuple_iterator_next h1.typeIs F.entry_tuple_iterator_next ?_ (F.args_tuple_iterator_next_1 _);refine dy (m:=field (.ref it) 0)<|KE b a (x:=.ref p) rfl ?_;rw[if_neg (id o6:¬((Value.ref p==Value.none)=true))];refine dy (m:=field (.ref it) 1)<|KE b a (x:=.int i 0) rfl<|dy (m:=seqItems?<|.ref p)<|Vk d c ?_;simp only[toNat_natCast,hx];refine dy (wpAny_setField b a (by simp)<|fO ⟨x,rfl,fO<|q _ ⟨_,get?_update_self _ b<|Obj.isFreed_of_fields<|Vl a _,(Obj.cls_mapFields ..).trans e,?_⟩<|Heap.SameBut.update ..⟩)
 rw[Vl a]
 simp[rawInt]
def k8{it p:Addr}(hA:A.handled=none)(h1:s.heap.IsTupleIter it p i)(h2:s.heap.IsTuple p vs)(hx:vs[i]?=none)
  (q:∀h' e,ExtBut it s.heap h'->(∃o,h'.get? e=some o/\o.cls=.type "StopIteration")->E (.ref e) {s with heap:=h'}):wpAny (model prog w) A (Builtin.SmallTypes.nextOf<|.ref it) Q E s:=by
 obtain⟨o,c,j,d⟩:=id h1;obtain⟨h,f,_,g,b⟩:=h2;unfold Builtin.SmallTypes.nextOf;refine dy<|PP (name:=("__next__":Str)) h1.typeIs F.slot_tuple_iterator_next<|Vg F.slot_tuple_iterator_next h1.typeIs F.entry_tuple_iterator_next ?_ (F.args_tuple_iterator_next_1 _);refine dy (m:=field (.ref it) 0)<|KE c d (x:=.ref p) rfl ?_;rw[if_neg (id o6:¬((Value.ref p==Value.none)=true))];refine dy (m:=field (.ref it) 1)<|KE c d (x:=.int i 0) rfl<|dy (m:=seqItems?<|.ref p)<|Vk f b ?_;simp only[toNat_natCast,hx];refine dy (wpAny_rule (dy (wpAny_setField c d (by simp)<|dy (m:=newExc (.type "StopIteration") []) ?_)))
 simp only[newExc,newTuple];refine dy (Vr (dy (m:=firstArgMember _ _) (wpAny_of_eq (a:=Value.none) (by first|rfl|(simp only[firstArgMember];rfl)) (Vr ?_ (by size_fits)))) (by size_fits))
 simp only[raiseNew];refine dy (wpAny_handled ?_)
 first|rw[show A.in1.handled=none from hA]|rw[hA]
 exact dy<|fO<|wpAny_throw<|q _ _ (((Heap.SameBut.update ..).extBut.push _).push _) ⟨_,h9 _ rfl,rfl⟩
def O4(hA:A.handled=none)(it p:Addr)(hne:p≠it)(vs:k_):Draws prog w A it [it,p] vs.size (λi v=>vs[i]?=some v) (λi h=>h.IsTupleIter it p i/\h.IsTuple p vs) where
 live:=λ_ _ c=>⟨_,c.1.choose_spec.1⟩
 frame:=λ_ _ _ c hk=>⟨c.1.at λo e=>hk it (by simp) o e,c.2.at λo e=>hk p (by simp) o e⟩
 item:=λi s Q E hi c g=>wg c.1 c.2 (x:=vs[i]) (by simp[hi]) λf a b=>g _ f s.toks (by simp[hi]) ⟨a,c.2.extBut b.extBut hne⟩ b
 done:=λs Q E c d=>k8 hA c.1 c.2 (by simp) d
def CK(p:Addr)(vs:k_)(n:Nat)(Qz:h_)(sl:Array (g_)):
  Meets (Builtin.«enumerate.__new__» ⟨[.type "enumerate",.ref p],[]⟩) (λ_ R s=>s.heap.get? p=some {cls:=.type "tuple",dict:=Qz,data:=.seq vs n,slots:=sl}/\
   R (.ok<|.ret<|.ref (s.heap.push {cls:=.type "tuple_iterator",data:=.fields #[.ref p,.int 0 0]}).objs.size)
    {s with heap:=(s.heap.push {cls:=.type "tuple_iterator",data:=.fields #[.ref p,.int 0 0]}).push {cls:=.type "enumerate",data:=.fields #[.none,.bool false,.ref s.heap.objs.size,rawInt 0,.none,.none]}}):=
 .of_wp λb w A R s h=>by
  obtain⟨i,g,d,j,f⟩:=s;obtain⟨a,h⟩:=h;have z:=sub_enumerate;have e:Heap.IsTuple (Shared.heap ⟨i,g,d,j,f⟩) p vs:=⟨_,a,rfl,n,rfl⟩
  wp_walk using PySem.AutoSeq1.wpAny_loadPart' a
  refine wpAny_stack_any λl=>fO ?_
  split
  ·rename_i c _ _ _ _ _
   cases(c==Value.type "enumerate")<;>(wp_walk using PySem.AutoSeq1.wpAny_loadPart' a,Vi e;exact⟨_,rfl,h⟩)
  ·wp_walk using PySem.AutoSeq1.wpAny_loadPart' a,Vi e
   exact⟨_,rfl,h⟩
def ze{p:Addr}(hT:s.heap.IsTuple p vs)
  (q:∀h',IsEnum h' (s.heap.objs.size+1) s.heap.objs.size 0 .none->h'.IsTupleIter s.heap.objs.size p 0->(∀b o,s.heap.get? b=some o->h'.get? b=some o)->Q (.ref<|s.heap.objs.size+1) {s with heap:=h'}):
  wpAny (model prog w) A (call (.type "enumerate") [.ref p]) Q E s:=by
 obtain⟨⟨c,h,dt,e⟩,f,i,n,g⟩:=hT;obtain rfl:c=.type "tuple":=i;obtain rfl:dt=.seq vs n:=g;have d:(s.heap.push {cls:=.type "tuple_iterator",data:=.fields #[.ref p,.int 0 0]}).objs.size=s.heap.objs.size+1:=C6 ..;have a:=h9 (s.heap.push {cls:=.type "tuple_iterator",data:=.fields #[.ref p,.int 0 0]}) (o:={cls:=.type "enumerate",data:=.fields #[.none,.bool false,.ref s.heap.objs.size,rawInt 0,.none,.none]}) rfl;refine callType_new F.called_enumerate a_ (F.typeCall_enumerate_1 _) (F.newCall_enumerate_1 _) (λobj=>F.args_object_init_2 obj _) F.entry_enumerate_new (CK p vs n h e) ⟨f,?_⟩
 rw[d]at a;show _/\_;rw[d];exact⟨⟨_,a,rfl⟩,q _ a ⟨_,ef _<|h9 _ rfl,rfl,rfl⟩ λb o x=>ef _<|ef _ x⟩
def Inv.sx{w_:aO0}{σ:St}{H:Hp}{h':Heap}{t':Nat}{ch:l_}{a:Addr}(I:Inv X w_ σ H s)(k:∀b u,b∉ch->s.heap.get? b=some u->h'.get? b=some u)(hf:∀b∈ch,kN X w_ H b)
  (ha:s.heap.objs.size<=a) (new:bB X.prog X.w (upd H a o) h' a o):Inv X w_ σ (upd H a o) {s with heap:=h',toks:=t'}:=by
 have f:∀b u,H b=some u->b∉ch:=λb u e z=>by rw[(hf b z).1]at e;cases e
 have hn:H a=none:=I.bf.fresh ha;have d:∀b u,H b=some u->upd H a o b=some u:=λb u e=>by rw[aK (bG e hn)];exact e
 refine I.step (g':=s.gens) (d':=s.drawn) (ch:=ch) (λb hb=>⟨(hf b hb).2.2.2.1,(hf b hb).2.1,(hf b hb).2.2.2.2.1,(hf b hb).2.2.2.2.2⟩) (λb u _ _ hc e _=>k b u hc e) (λb u _ _ hc e _=>⟨u.slots,k b u hc e⟩) (λb u _ e n=>?_)
  (λb u hc e=>⟨u,k b u hc e⟩) (λb g e=>d b _ e) (λb v u e=>d b _ e) (λb l e=>⟨#[],by rw[d b _ e];simp⟩) (λm hm=>?_) (λb u e=>?_) I.bare
 ·rw[aK (ot<|j5 (lt_size e) ha)];exact n
 ·obtain⟨v,i,h,j,r⟩:=hm;exact⟨v,i,h,k _ v (λz=>(hf _ z).2.1 rfl) j,r⟩
 ·by_cases hb:b=a
  ·subst hb;rw[af]at e
   cases e
   exact new
  ·rw[aK hb]at e;refine(I.bf b u e).tq (λc v hc q=>k c v ?_ q) (λc q=>d c _ q) λc g q=>d c _ q
   rcases hc with z|z
   ·rw[z];exact f b u e
   ·exact f c _ z
def Gb:R2:=λx y H Q=>y=.bA/\Q (.bl<|decide<|x=.bA) H
def pe:R2:=λx y H Q=>y=.bA/\Q (.bl<|!decide (x=.bA)) H
def n9:dU X (compareOp .Is) Gb:=Og
def wj:dU X (compareOp .IsNot) pe:=Jr
variable{H:Hp}{Q:VK}
def Gd:Gb .bA .bA H Q=Q (.bl true) H:=by unfold Gb;simp
def Ge{a:Addr}:Gb (.ref a) .bA H Q=Q (.bl false) H:=by unfold Gb;simp
def Gf:pe .bA .bA H Q=Q (.bl false) H:=by unfold pe;simp
def Gg{i:Int}:pe (.int i) .bA H Q=Q (.bl true) H:=by unfold pe;simp
def Kp:u_->Hp->VK->Prop:=λa H Q=>∃p S n,a=[.ref p]/\H p=some (.set S n)/\Q (.int n) H
def wk:bJ X (.builtin "len") Kp:=by
 intro a s σ H j l Q I r h;obtain⟨p,S,n,rfl,d,q⟩:=h;obtain⟨u,rfl,g⟩:=vals1 r
 cases g
 obtain⟨o,v,m,t,i,f,e,_,_,hb,c,hn⟩:=I.bf p _ d;have b:scanBound<2 ^ 62:=by decide
 refine PySem.call_len_set i f e c (by omega) ⟨.int n,H,I.tok _,⟨_,by rw[hn]⟩,q⟩
def RI{k:Nat}:(1:Int)*2 ^ ((k:Nat):Int).toNat=((2 ^ k:Nat):Int):=by rw[ri,Int.one_mul,natCast_pow];rfl
def RJ{m k:Nat}:((m:Nat):Int) / 2 ^ ((k:Nat):Int).toNat=((m / 2 ^ k:Nat):Int):=by rw[ri,Int.natCast_ediv,natCast_pow];rfl
def eI{k:Nat}(h:k<=1000):lP 1 (k:Int):=⟨by omega,by omega,a_⟩
def RK{m k:Nat}:decide (((m / 2 ^ k:Nat):Int)%2=1)=m.testBit k:=by
 rw[q7]
 congr 1
 apply propext
 omega
def RL{m k:Nat}:decide (((m / 2 ^ k:Nat):Int)%2=0)=!m.testBit k:=by
 rw[q7]
 by_cases h:m / 2 ^ k%2=1
 ·rw[ed h,cv (by omega)];rfl
 ·rw[cv h,ed (by omega)];rfl
def MF{a:Nat}:decide (((a|||b:Nat):Int)=(b:Int))=decide (a|||b=b):=by
 congr 1
 apply propext
 omega
noncomputable def aE(ws:d_):e_:=ws.map λm=>((m:Nat):Int)
def ak(ws:d_):(aE ws).length=ws.length:=b5 _
def aZ(ws:d_)(i:Nat):(aE ws).getD i 0=((ws.getD i 0:Nat):Int):=by
 unfold aE;rw[b4,eG,b4]
 cases ws[i]?<;>rfl
def eA(a b:d_):aE (a++b)=aE a++aE b:=hI
def Gh(a:d_)(n:Nat):(aE a).take n=aE (a.take n):=List.map_take.symm
def wm(a:d_)(n:Nat):(aE a).drop n=aE (a.drop n):=Vu.symm
variable{a:d_}
def og{k:Nat}:(k:Int)∈aE a↔k∈a:=by
 unfold aE;rw[kc]
 constructor
 ·rintro⟨m,h,e⟩
  rwa [show k=m by omega]
 ·exact λh=>⟨k,h,rfl⟩
def Kq{b:d_}:aE a=aE b↔a=b:=by
 constructor
 ·intro h
  apply F1
  intro i
  have:=SL (λl=>l[i]?) h
  unfold aE at this;simp only[List.getElem?_map]at this
  cases p:a[i]?<;>cases q:b[i]?<;>rw[p,q]at this<;>simp at this
  ·rename_i u v
   rw[show u=v by omega]
 ·rintro rfl;rfl
def Bp{k:Nat}:(aE a).idxOf (k:Int)=a.idxOf k:=by
 unfold aE
 induction a with
 |nil=>rfl
 |cons m r d=>
  rw[qb,idxOf_cons,idxOf_cons,d]
  by_cases e:m=k
  ·have c:((m:Int)==(k:Int))=true:=by rw[e];exact VA _
   have b:(m==k)=true:=by rw[e];exact VA _
   rw[c,b]
  ·have c:((m:Int)==(k:Int))=false:=rJ.mpr (by omega)
   have b:(m==k)=false:=rJ.mpr e;rw[c,b]
def Gi(k:Int)(ns:e_):Md (.int k) (ns.map V.int)=decide (k∈ns):=by
 induction ns with
 |nil=>simp[Md]
 |cons a r b=>
  unfold Md at b ⊢;rw[qb,any_cons,b]
  by_cases e:a=k
  ·subst e;simp[Ed]
  ·have:¬k=a:=λz=>e z.symm
   simp[Ed,e,this]
variable{neg:Bool}
def Bq{K:Frag}{p:Addr}{k:Nat}(h:ay K H p ((aE a).map V.int)∨aP K H p ((aE a).map V.int))(q:Q (.bl<|if neg then !decide (k∈a)else decide (k∈a)) H):Qo K neg (.int k) (.ref p) H Q:=by
 refine⟨p,_,rfl,h,rfl,?_,?_⟩
 ·rw[GM];exact j9.mpr λ_ _=>rfl
 ·rw[Gi,show decide ((k:Int)∈aE a)=decide (k∈a) by congr 1;exact propext og]
  exact q
def Br{c:TT}{tb:TS}{D:Ends}{σ:St}(P:o_)(m0:Nat)(h0:P m0 σ H)
  (hs:∀m σ H,P m σ H->c σ H λb H1=>if b=true then ∃N:p_,(∀σ' H',N σ' H'->∃m',m' < m/\P m' σ' H')/\tb {D with nx:=N,ct:=N,bk:=D.nx} σ H1 else D.nx σ H1):tF c tb D σ H:=⟨P,⟨m0,h0⟩,hs⟩
def Bs{P:o_}{m:Nat}{R:(p_)->Prop}(h:R λσ' H'=>∃m',m' < m/\P m' σ' H'):∃N:p_,(∀σ' H',N σ' H'->∃m',m' < m/\P m' σ' H')/\R N:=⟨_,λ_ _ h=>h,h⟩
variable{p:Nat->Bool}
def find_some{n k:Nat}(h:∀j,j<k->p j=false)(hk:p k=true)(hn:k<n):(List.range n).find? p=some k:=by
 rw[List.find?_eq_some_iff_getElem];refine⟨hk,k,by rw[j6];exact hn,by simp,λj hj=>?_⟩
 simp[h j hj]
def find_none{n:Nat}(h:∀j,j<n->p j=false):(List.range n).find? p=none:=by
 rw[List.find?_eq_none];intro j hj;rw[h j (mv.mp hj)];exact o6
theorem pf{ns:e_}:∀n,n<=ns.length->ns.Nodup->jB ns n=ns.take n
 |0,_,_=>by unfold jB;rw[firstMet_zero,take_zero]
 |n+1,hn,b=>by
  have a:=pf n (by omega) b
  unfold jB at a ⊢;rw[firstMet_succ,a,take_snoc 0 (by omega)]
  unfold step_dedup;rw[if_neg];intro z;obtain⟨y,hy,e⟩:=List.any_eq_true.mp z;have e:y=ns.getD n 0:=by simpa using e
  subst e;have h1:=b.sublist<|take_sublist (n+1) _;rw[take_snoc 0 (by omega),VH]at h1
  exact h1.2.2 _ hy _ (ek.mpr rfl) rfl
def CL{ns:e_}(h:ns.Nodup):unlike ns=ns.length:=by
 unfold unlike;rw[pf _ (ey _) h,L1]
theorem wo{ns:e_}:∀n,n<=ns.length->(jB ns n).Nodup/\∀x,x∈jB ns n↔x∈ns.take n
 |0,_=>by unfold jB;rw[firstMet_zero,take_zero];exact⟨nodup_nil,λ_=>Iff.rfl⟩
 |n+1,hn=>by
  obtain⟨f,d⟩:=wo (ns:=ns) n (by omega)
  unfold jB at f d ⊢;rw[firstMet_succ,take_snoc 0 (by omega)]
  unfold step_dedup
  by_cases c:((firstMet (λi=>ns.getD i 0) n).any λx=>x==ns.getD n 0)=true
  ·rw[if_pos c];obtain⟨y,hy,e⟩:=List.any_eq_true.mp c;have e:y=ns.getD n 0:=by simpa using e
   refine⟨f,λx=>?_⟩;rw[ih,ek,d]
   constructor
   ·exact .inl
   ·rintro(z|z)
    ·exact z
    ·rw[z,<-e];exact(d y).mp hy
  ·rw[if_neg c];refine⟨?_,λx=>by rw[ih,ih,d]⟩
   rw[VH];refine⟨f,by simp,λa g b hb e=>c ?_⟩
   rw[ek]at hb;subst hb;subst e;exact List.any_eq_true.mpr ⟨_,g,by simp⟩
def zf(K:Frag):Sp:=λa H Q _=>∃(w:Addr) (ws:d_) (i j:Nat),a=[.ref w,.int i,.int j]/\aP K H w ((aE ws).map V.int)/\i<ws.length/\Q (.bl<|fC ws i j) H
def O5(K:Frag):Sp:=λa H Q _=>∃(w:Addr) (ws:d_) (laid:Nat),a=[.ref w,.int laid]/\aP K H w ((aE ws).map V.int)/\ws.length<=8/\∀H',ag H H'->(bP ws laid=none->Q .bA H')/\∀i:Nat,bP ws laid=some i->Q (.int i) H'
def MG(H0:Hp)(w:Addr)(ws:d_)(laid k:Nat)(σ:St)(H:Hp):Prop:=ag H0 H/\(∀j,j<k->ready ws laid j=false)/\∃y1 y2:v_,σ=[some (.ref w),some<|.int laid,y1,y2]
def O6(K:Frag):Sp:=λa H Q _=>∃(w:Addr) (ws:d_),a=[.ref w]/\aP K H w ((aE ws).map V.int)/\ws.length<=8/\∀(l:Addr) (H':Hp),ag H H'->H l=none->H' l=some (.lst<|(aE<|laidOut ws).map V.int)->Q (.ref l) H'
noncomputable def MH(ws:d_)(laid:Nat):V:=match bP ws laid with
 |none=>.bA
 |some i=>.int i
def RM(H0:Hp)(w l:Addr)(ws:d_)(f:Nat)(σ:St)(H:Hp):Prop:=∃(order:d_) (laid:Nat),σ=[some (.ref w),some<|.ref l,some<|.int laid,some<|MH ws laid]/\ag H0 H/\H l=some (.lst<|(aE order).map V.int)/\Laid ws order laid/\fW ws f order laid=laidOut ws/\ws.length<f+order.length
def RN(K:Frag):Sp:=λa H Q _=>∃(w:Addr) (ws:d_),a=[.ref w]/\aP K H w ((aE ws).map V.int)/\ws.length<=8/\∀(H':Hp),ag H H'->((laidOut ws).length<ws.length->Q .bA H')/\(¬(laidOut ws).length<ws.length->∀p,H' p=some (.tup<|(aE<|laidOut ws).map V.int)->Q (.ref p) H')
noncomputable def cf(ws:d_):d_:=(List.range ws.length).filter λi=>!decide (i∈laidOut ws)
def gH:i∈cf ws↔i<ws.length/\i∉laidOut ws:=by
 unfold cf;rw[rz,mv]
 simp
def wq:cf ws=[]↔¬(laidOut ws).length<ws.length:=by
 rw[Ga]
 constructor
 ·rintro h ⟨i,h1,b⟩
  have:i∈cf ws:=gH.mpr ⟨h1,b⟩
  rw[h]at this;cases this
 ·intro h
  cases e:cf ws with
  |nil=>rfl
  |cons a r=>
   have:a∈cf ws:=by rw[e];exact gc ..
   exact absurd ⟨a,gH.mp this⟩ h
def Gj(ws:d_):(cf ws).length<=ws.length:=by
 have:=ya (λi=>!decide (i∈laidOut ws))<|List.range ws.length
 rw[j6]at this;exact this
def ph:∀m n:Nat,m+n=(m|||n)+(m&&& n):=by
 intro m
 induction m using Nat.strongRecOn with
 |_ m f=>
  intro n
  by_cases e:m=0
  ·subst e;simp
  have c:=f (m / 2) (by omega)<|n / 2
  rw[<-Nat.and_div_two,<-Nat.or_div_two]at c;have a:=Nat.and_mod_two_pow (a:=m) (b:=n) (n:=1);have b:=Nat.or_mod_two_pow (a:=m) (b:=n) (n:=1);have d:m%2 ^ 1+n%2 ^ 1=(m%2 ^ 1|||n%2 ^ 1)+(m%2 ^ 1&&& n%2 ^ 1):=by
   have hm:m%2 ^ 1=0∨m%2 ^ 1=1:=by omega
   have hn:n%2 ^ 1=0∨n%2 ^ 1=1:=by omega
   rcases hm with hm|hm<;>rcases hn with hn|hn<;>rw[hm,hn]<;>decide
  rw[<-a,<-b]at d
  omega
variable{a:Nat}
def Bu{k:Nat}(h:a.testBit k=false):a+2 ^ k=a|||2 ^ k:=by
 have z:a&&& 2 ^ k=0:=by
  apply UV
  intro j;rw[testBit_and,GE,zero_testBit]
  by_cases e:k=j
  ·subst e;rw[h];rfl
  ·rw[cv e,M8]
 have:=ph a<|2 ^ k
 omega
def iQ(m n j:Nat):(m-(m&&& n)).testBit j=(m.testBit j&&!n.testBit j):=by
 have h:m ^^^ (m&&& n)=m-(m&&& n):=by
  have p:∀a b:Nat,(a ^^^ b)+(a&&& b)=a|||b:=by
   intro a
   induction a using Nat.strongRecOn with
   |_ m l=>
    intro n
    by_cases o:m=0
    ·subst o;simp
    have d:=l (m / 2) (by omega)<|n / 2
    rw[<-Nat.and_div_two,<-Nat.or_div_two,<-Nat.xor_div_two]at d;have a:=Nat.and_mod_two_pow (a:=m) (b:=n) (n:=1);have b:=Nat.or_mod_two_pow (a:=m) (b:=n) (n:=1);have c:=Nat.xor_mod_two_pow (a:=m) (b:=n) (n:=1);have e:(m%2 ^ 1 ^^^ n%2 ^ 1)+(m%2 ^ 1&&& n%2 ^ 1)=(m%2 ^ 1|||n%2 ^ 1):=by
     have hm:m%2 ^ 1=0∨m%2 ^ 1=1:=by omega
     have hn:n%2 ^ 1=0∨n%2 ^ 1=1:=by omega
     rcases hm with hm|hm<;>rcases hn with hn|hn<;>rw[hm,hn]<;>decide
    rw[<-a,<-b,<-c]at e
    omega
  have g:=p m<|m&&& n;have f:m&&& (m&&& n)=m&&& n:=by rw[<-Nat.and_assoc,Nat.and_self]
  have i:m|||(m&&& n)=m:=by
   apply UV
   intro j;rw[testBit_or,testBit_and]
   cases m.testBit j<;>rfl
  rw[f,i]at g
  omega
 rw[<-h,Nat.testBit_xor,testBit_and]
 cases m.testBit j<;>cases n.testBit j<;>rfl
def sub_zero{m:Nat}(h:∀j,m.testBit j=true->a.testBit j=true):m-(m&&& a)=0:=by
 apply UV
 intro j;rw[iQ,zero_testBit]
 cases e:m.testBit j with
 |false=>rfl
 |true=>rw[h j e];rfl
def zg{m n:Nat}(h:∀j,n<=j->m.testBit j=false):m<2 ^ n:=by
 apply Nat.lt_pow_two_of_testBit
 exact λj hj=>h j hj
def j8{m n:Nat}(h:m<2 ^ n)(hj:n<=j):m.testBit j=false:=Nat.testBit_lt_two_pow (j5 h (qc a_ hj))
def Kr(l:d_):(aE l).sum=((l.sum:Nat):Int):=by
 unfold aE
 induction l with
 |nil=>rfl
 |cons a r b=>rw[qb,Vs,b,Vs,natCast_add]
def RO{m:Nat}:((m:Nat):Int) / ((2 ^ j:Nat):Int)=((m / 2 ^ j:Nat):Int):=(Int.natCast_ediv _ _).symm
noncomputable def ahead(n k:Nat):Nat:=if k=0 then n-1 else k-1
variable{r:d_}
def sy(h:r.Nodup):(aE r).Nodup:=by
 unfold aE;rw[I3,List.pairwise_map];exact(I3.mp h).imp λh=>by omega
noncomputable abbrev Ef(a b:Value):Obj:={cls:=.type "tuple",data:=.seq #[a,b]}
variable{h:Heap}
def gZ{a b:Addr}{o u:Obj}{n m:String}(ha:h.get? a=some o)(hn:o.cls=.type n)(hb:h.get? b=some u)(hm:u.cls=.type m)(hc:n≠m):a≠b:=λz=>by
 subst z;rw[ha]at hb;cases hb
 rw[hn]at hm;exact hc (by injection hm)
def RP(K:Frag):u_->Hp->VK->Prop:=λa H Q=>∃(p:Addr) (bs:List Bool),a=[.ref p]/\ay K H p (bs.map V.bl)/\Q (.bl<|bs.all id) H
theorem ug:∀ {bs:List Bool} {its:f'},Vals (bs.map V.bl) its->its=bs.map Value.bool
 | [],_,.nil=>rfl
 |b::r,_,.cons h t=>by rw[ug t,show _=Value.bool b from h];rfl
def cP{K:Frag}(hc:X.calm=true)(hK:X.K=K):bJ X (.builtin "all") (RP K):=by
 subst hK;intro g s σ H C A Q I r h;obtain⟨p,bs,rfl,hq,q⟩:=h;obtain⟨u,rfl,x⟩:=vals1 r
 cases x
 obtain⟨a,t,f,E⟩:=I.list hq;have j:=ug t;have l:p<s.heap.objs.size:=by obtain⟨o,e,_⟩:=f.isList;exact lt_size e
 refine PySem.call_all_walk<|Os f.isList ?_;refine⟨s.heap.objs.size,_,_,_,_,_,λi=>bs.getD i false,rfl,Walks.list (by simpa using I.ok.hd hc) s.heap.objs.size p (ot l) a.toArray,⟨⟨_,h9 _ rfl,rfl,rfl⟩,f.isList.push _⟩,?_,λB F hk=>?_⟩
 ·intro i v w n D c d;have c:a[i]?=some v:=by simpa using c
  rw[j,eG]at c
  cases e:bs[i]? with
  |none=>rw[e]at c;cases c
  |some b=>
   rw[e]at c
   cases c
   have d:n (bs.getD i false) w:=d;rw[b4,e]at d;exact A2 d
 ·have m:a.toArray.size=bs.length:=by rw[gd,j,b5]
  have y:(List.range a.toArray.size).all (λi=>bs.getD i false)=bs.all id:=by
   rw[m]
   apply Vq.mpr
   simp only[List.all_eq_true,List.mem_range,id_eq]
   constructor
   ·intro h b hb;obtain⟨k,hk,e⟩:=C4 hb
    have:=h k hk
    rw[b4,cc hk]at this;rw[<-e];exact this
   ·intro h k hk;rw[b4,cc hk];exact h _<|pS hk
  rw[y];refine⟨.bl _,H,I.kept λb o e=>hk b o ?_ (ef _ e),rfl,q⟩
  have:=lt_size e
  intro z
  have:b=s.heap.objs.size:=by simpa using z
  subst this;exact F8 _<|lt_size e
def Ks:V->u_->Hp->VK->Prop:=λx a H Q=>∃m:Nat,x=.int m/\a=[]/\∀n:Nat,m<2 ^ n->(∀k,m<2 ^ k->n<=k)->Q (.int n) H
def CM:yo X "int.bit_length" Ks:=by
 intro a s σ H x f v e Q I d c h;obtain⟨m,rfl,rfl,q⟩:=h;obtain⟨t,rfl⟩:=d
 cases c
 refine call_int_bit_length ⟨.int (Builtin.Int.intBits (m:Int):Nat),H,I.tok _,⟨_,rfl⟩,?_⟩;unfold Builtin.Int.intBits
 by_cases b:m=0
 ·subst b;exact q 0 a_ λk _=>zero_le k
 ·have h1:((m:Int)==0)=false:=rJ.mpr (by omega)
  rw[h1];simp only[Bool.false_eq_true,if_false,natAbs_natCast];refine q _ (Nat.lt_log2_self) λk hk=>?_
  have:=(log2_lt b).mpr hk
  omega
noncomputable def ba(m:Nat):d_:=(List.range<|m.log2+1).filter m.testBit
theorem iR{p:Nat->Bool}:∀(d n:Nat),(∀j,n<=j->p j=false)->(List.range<|n+d).filter p=(List.range n).filter p
 |0,n,_=>rfl
 |d+1,n,h=>by
  rw[<-Nat.add_assoc,GT,VJ,iR d n h]
  simp[h (n+d) (by omega)]
def sC{m n:Nat}(h:m<2 ^ n):(List.range n).filter m.testBit=ba m:=by
 unfold ba;have a:m<2 ^ (m.log2+1):=Nat.lt_log2_self
 rcases Nat.le_total n (m.log2+1)with c|c
 ·have:=iR (p:=m.testBit) (m.log2+1-n) n λj hj=>j8 h hj
  rw[show n+(m.log2+1-n)=m.log2+1 by omega]at this
  exact this.symm
 ·have:=iR (p:=m.testBit) (n-(m.log2+1)) (m.log2+1) λj hj=>j8 a hj
  rw[show m.log2+1+(n-(m.log2+1))=n by omega]at this
  exact this
noncomputable def mask(l:d_):Nat:=(l.map λj=>2 ^ j).sum
theorem gJ:∀ {l:d_},l.Nodup->∀j,(mask l).testBit j=decide (j∈l)
 | [],_,j=>by simp[mask]
 |a::r,h,j=>by
  have c:=wh.mp h;have b:=gJ c.2;have d:(mask r).testBit a=false:=by rw[b];simp[c.1]
  show(2 ^ a+mask r).testBit j=_;rw[Nat.add_comm,Bu d,iP,b]
  by_cases e:a=j
  ·subst e;simp
  ·have:¬j=a:=λz=>e z.symm
   simp[e,this]
def Kt{n:Nat}(h:l.Nodup)(hl:∀i∈l,i<n):mask l<2 ^ n:=zg λj hj=>by
 rw[gJ h,cv];exact λz=>absurd (hl j z) (by omega)
noncomputable def de(ws l:d_):Bool:=l.all λi=>l.all λj=>decide (j=i)||fC ws i j
def uh:a&&& b=b↔∀j,b.testBit j=true->a.testBit j=true:=by
 constructor
 ·intro h j hj
  have:(a&&& b).testBit j=true:=by rw[h];exact hj
  rw[testBit_and,fz]at this;exact this.1
 ·intro h
  apply UV
  intro j;rw[testBit_and]
  cases e:b.testBit j with
  |false=>rw[M8]
  |true=>rw[h j e];rfl
def pj(h:l.Nodup)(hi:i∈l):∀j,(mask l-2 ^ i).testBit j=decide (j∈l/\j≠i):=by
 intro j;have e:mask l&&& 2 ^ i=2 ^ i:=uh.mpr λj hj=>by
  rw[GE,ka]at hj;subst hj;rw[gJ h,ed hi]
 have:=iQ (mask l) (2 ^ i) j
 rw[e]at this;rw[this,gJ h,GE]
 by_cases c:j∈l<;>by_cases a:i=j
 ·subst a;simp
 ·have:¬j=i:=λz=>a z.symm
  simp[c,a,this]
 ·simp[c]
 ·simp[c]
def wt(hi:i∈l):2 ^ i<=mask l:=by
 unfold mask
 induction l with
 |nil=>cases hi
 |cons a r b=>
  rw[qb,Vs]
  rcases gz.mp hi with rfl|h
  ·omega
  ·exact hU (b h)<|Nat.le_add_left _ _
def zh(h:l.Nodup)(hi:i∈l):decide (ws.getD i 0&&& (mask l-2 ^ i)=mask l-2 ^ i)=l.all λj=>decide (j=i)||fC ws i j:=by
 apply Vq.mpr
 rw[ka,uh,j9]
 constructor
 ·intro z j hj
  by_cases e:j=i
  ·rw[ed e];rfl
  ·have:=z j (by rw[pj h hi,ed ⟨hj,e⟩])
   unfold fC;rw[this,Bool.or_true]
 ·intro z j hj;rw[pj h hi,ka]at hj
  have:=z j hj.1
  rw[cv hj.2,Bool.false_or]at this;exact this
def k9:Sp:=λa H Q _=>∃m:Nat,a=[.int m]/\m<2 ^ 64/\∀(l:Addr) (H':Hp),ag H H'->H l=none->H' l=some (.lst<|(aE<|ba m).map V.int)->Q (.ref l) H'
def O7(K:Frag):Sp:=λa H Q _=>∃(w p:Addr) (ws l:d_),a=[.ref w,.ref p]/\aP K H w ((aE ws).map V.int)/\aP K H p ((aE l).map V.int)/\ws.length<=8/\l.Nodup/\(∀i∈l,i<ws.length)/\∀H',ag H H'->Q (.bl<|de ws l) H'
def RQ(H0:Hp)(w p:Addr)(ws l:d_)(k:Nat)(σ:St)(H:Hp):Prop:=H=H0/\(∀j,j<k->(l.all λx=>decide (x=l.getD j 0)||fC ws (l.getD j 0) x)=true)/\∃y1 y2:v_,σ=[some (.ref w),some<|.ref p,some<|.int (mask l:Nat),y1,y2]
def Bv(l:d_):((List.range (aE l).length).map λj=>((2 ^ l.getD j 0:Nat):Int)).sum=((mask l:Nat):Int):=by
 have e:(List.range (aE l).length).map (λj=>((2 ^ l.getD j 0:Nat):Int))=aE (l.map λj=>2 ^ j):=by
  unfold aE
  apply F1
  intro i;rw[b5,eG,eG,eG]
  by_cases h:i<l.length
  ·rw[r4 h,cc h];show some (((2 ^ l.getD i 0:Nat):Int))=some (((2 ^ l[i]:Nat):Int));rw[b4,cc h];rfl
  ·rw[ls (by rw[j6];omega),ls (by omega)];rfl
 rw[e,Kr];rfl
def Ku(h:2 ^ i<=a):(a:Int)-((2 ^ i:Nat):Int)=((a-2 ^ i:Nat):Int):=by omega
def RR:(((a:Nat):Int)=((b:Nat):Int))=(a=b):=propext ⟨λh=>by omega,λh=>by rw[h]⟩
noncomputable def jK(ws r:d_):Bool:=decide (2<=r.length)&&(decide r.Nodup&&(List.range r.length).all λk=>fC ws (r.getD (ahead r.length k) 0)<|r.getD k 0)
noncomputable def qG(r:d_):d_:=r.drop 1++r.take 1
def Gk(h:1<=r.length):(qG r).length=r.length:=by unfold qG;rw[eR,q5,rr];omega
def pq{k:Nat}(hk:k<r.length):(qG r).getD k 0=r.getD (if k+1<r.length then k+1 else 0) 0:=by
 unfold qG;rw[b4,b4]
 by_cases c:k+1<r.length
 ·rw[if_pos c,u5 (by rw[q5];omega),getElem?_drop,Nat.add_comm]
 ·rw[if_neg c,tz (by rw[q5];omega),q5,show k-(r.length-1)=0 by omega,List.getElem?_take_of_lt a_]
def CN:((List.range r.length).map λk=>fC ws (r.getD k 0)<|(qG r).getD k 0).all id=(List.range r.length).all λk=>fC ws (r.getD (ahead r.length k) 0) (r.getD k 0):=by
 apply Vq.mpr
 rw[GM];simp only[List.all_eq_true,List.mem_range,Function.comp,id_eq]
 constructor
 ·intro h k hk;unfold ahead
  by_cases c:k=0
  ·subst c;rw[if_pos rfl]
   have:=h (r.length-1) (by omega)
   rw[pq (by omega),if_neg (by omega)]at this
   exact this
  ·rw[if_neg c]
   have:=h (k-1) (by omega)
   rw[pq (by omega),if_pos (by omega),show k-1+1=k by omega]at this
   exact this
 ·intro h k hk;rw[pq hk]
  by_cases c:k+1<r.length
  ·rw[if_pos c]
   have:=h (k+1) c
   unfold ahead at this;rw[if_neg (by omega),Nat.add_sub_cancel]at this
   exact this
  ·rw[if_neg c]
   have:=h 0 (by omega)
   unfold ahead at this;rw[if_pos rfl,show r.length-1=k by omega]at this
   exact this
def qH:(aE r).Nodup↔r.Nodup:=by
 constructor
 ·intro h;unfold aE at h;rw[I3,List.pairwise_map]at h;rw[I3];exact h.imp λh=>by omega
 ·exact sy
theorem sD:∀ {ns:e_},¬ns.Nodup->∃x∈ns,x∈ns.erase x
 | [],h=>absurd nodup_nil h
 |a::r,h=>by
  by_cases c:a∈r
  ·exact⟨a,gc ..,by rw[List.erase_cons_head];exact c⟩
  ·have e:¬r.Nodup:=λz=>h<|wh.mpr ⟨c,z⟩;obtain⟨x,h1,d⟩:=sD e;refine⟨x,fN _ h1,?_⟩;have b:a≠x:=λz=>c<|z ▸ h1;rw[List.erase_cons_tail (by simpa using b)]
   exact fN _ d
theorem pv:∀ {xs ys:e_},xs.Nodup->(∀i∈xs,i∈ys)->xs.length<=ys.length
 | [],_,_,_=>zero_le _
 |a::r,ys,d,h=>by
  have b:=wh.mp d;have h1:=pv (xs:=r) (ys:=ys.erase a) b.2 λi hi=>by
   have:i≠a:=λz=>b.1<|z ▸ hi
   exact(List.mem_erase_of_ne this).mpr (h i<|fN _ hi)
  have c:=length_erase (a:=a) (l:=ys);rw[if_pos (h a<|gc ..)]at c
  have:0<ys.length:=length_pos_of_mem<|h a<|gc ..
  rw[kf];omega
def CO{ns:e_}(h:¬ns.Nodup):unlike ns<ns.length:=by
 obtain⟨x,h1,b⟩:=sD h;obtain⟨f,c⟩:=wo (ns:=ns) ns.length<|ey _;have g:=pv (ys:=ns.erase x) f λi hi=>by
  have hi:=(c i).mp hi;rw[L1]at hi
  by_cases e:i=x
  ·rw[e];exact b
  ·exact(List.mem_erase_of_ne e).mpr hi
 have d:=length_erase (a:=x) (l:=ns);rw[if_pos h1]at d
 have:0<ns.length:=length_pos_of_mem h1
 unfold unlike
 omega
def RS(K:Frag):Sp:=λa H Q _=>∃(w p:Addr) (ws r:d_),a=[.ref w,.ref p]/\aP K H w ((aE ws).map V.int)/\aP K H p ((aE r).map V.int)/\ws.length<=8/\r.length<=90/\(∀i∈r,i<ws.length)/\∀H',ag H H'->Q (.bl<|jK ws r) H'
def Off(wb:Addr)(H H':Hp):Prop:=∀b o,b≠wb->H b=some o->H' b=some o
variable{wb:Addr}
def Off.trans{H1 H2:Hp}(a:Off wb H H1)(b:Off wb H1 H2):Off wb H H2:=λc o n h=>b c o n<|a c o n h
def ag.wu{H':Hp}(s:ag H H'):Off wb H H':=λb o _ h=>s b o h
theorem Off.upd{wb:Addr}{H:Hp}{o:HO}:Off wb H (L2.upd H wb o):=λb u n h=>by rw[aK n];exact h
variable{p:Addr}
def au{K:Frag}{xs:u_}{i:Int}{v:V}(h:ay K H p xs)(e:yH xs i=some v)(q:Q v H):nF K (.ref p) (.int i) H Q:=⟨p,_,i,_,rfl,rfl,h,e,q⟩
def Bw{ds:List PyData}:PyData.eqv (.list ds) (.list [])=decide (ds=[]):=by
 cases ds with
 |nil=>rfl
 |cons a r=>simp[PyData.eqv,PyData.eqvAll]
variable{a:Addr}
def Kv{K:Frag}{b:Addr}{q':d_}(h:ay K H a ((aE r).map V.int))(h':ay K H b ((aE q').map V.int))(hz:r.length+q'.length<=1000)(q:∀p,H p=none->Q (.ref p) (upd H p<|.lst<|(aE<|r++q').map V.int)):Bh K (.ref a) (.ref b) H Q:=
 nZ h h' (by rw[ak,ak];exact pb hz) λp c=>by rw[<-eA];exact q p c
def Gm{k:Nat}(hd:l.Nodup)(h:x∈l.take k):l.idxOf x<k:=by
 obtain⟨i,hi,e⟩:=C4 h;rw[rr]at hi;rw[getElem_take]at e;rw[<-e,hd.idxOf_getElem i (by omega)]
 omega
def RT{K:Frag}{xs:u_}{g:TG}{tb:TS}{D:Ends}{σ:St}(I:o_)(h:ay K H a xs)(h0:I 0 σ H)(hl:∀i σ H,I i σ H->ay K H a xs)
  (step:∀i x σ H,xs[i]?=some x->I i σ H->g x σ H λσ2 H2=>tb {D with nx:=I<|i+1,ct:=I<|i+1,bk:=D.nx} σ2 H2)
  (fin:∀σ H,I xs.length σ H->D.nx σ H):∃b,V.ref a=.ref b/\(∃xs,ay K H b xs)/\qB g tb D σ (IQ K b) H:=
 ⟨a,rfl,⟨_,h⟩,vI (xs:=xs) I h0 (λi σ H _ p=>hl i σ H p) step fin⟩
def CP{ms:e_}{k:Nat}{v:Int}:(ms.set j v).getD k 0=if j=k/\j<ms.length then v else ms.getD k 0:=by
 rw[b4,List.getElem?_set,b4]
 by_cases e:j=k
 ·by_cases h:j<ms.length
  ·rw[if_pos e,if_pos h,if_pos ⟨e,h⟩];rfl
  ·rw[if_pos e,if_neg h,if_neg λz=>h z.2,ls (by omega)]
 ·rw[if_neg e,if_neg λz=>e z.1]
theorem HN.set{cs ms:e_}{n j:Nat}{v:Int}(h:HN cs ms n)(h0:0<=v)(h1:v<cs.getD j 0):HN cs (ms.set j v) n:=by
 refine⟨by rw[length_set,h.1],λi hi=>?_⟩
 rw[CP]
 by_cases e:j=i/\j<ms.length
 ·rw[if_pos e,<-e.1];exact⟨h0,h1⟩
 ·rw[if_neg e];exact h.2 i hi
variable{us:u_}
def ax{v:V}(h:us[i]?=some v):yH us (i:Int)=some v:=by
 have a:=(nt.mp h).1
 have:=fB (xs:=us) (i:=(i:Int)) (k:=i) rfl .bA a
 rw[this,b4,h];rfl
def Um(K:Frag):u_->Hp->VK->Prop:=λa H Q=>∃(p:Addr) (bs:List Bool),a=[.ref p]/\ay K H p (bs.map V.bl)/\Q (.bl<|bs.any id) H
def RU(K:Frag):u_->Hp->VK->Prop:=λa H Q=>∃(p:Addr) (ns:e_),a=[.ref p]/\(ay K H p (ns.map V.int)∨aP K H p (ns.map V.int))/\ns≠[]/\∀m∈ns,(∀n∈ns,n<=m)->Q (.int m) H
theorem pw:∀ {ns:e_} {its:f'} {i:Nat} {v:Value},Vals (ns.map V.int) its->its[i]?=some v->∃t,v=.int (ns.getD i 0) t/\i<ns.length
 | [],_,i,v,.nil,h=>by simp at h
 |n::r,_,0,v,.cons h _,e=>by
  obtain⟨t,h⟩:=h
  simp at e
  exact⟨t,by rw[<-e,h];rfl,by simp⟩
 |n::r,_,i+1,v,.cons _ t,e=>by
  obtain⟨b,h1,a⟩:=pw t (i:=i) (v:=v) (by simpa using e)
  exact⟨b,by rw[h1];simp,by simp;exact a⟩
theorem wx:∀ {xs:u_} {its:f'},Vals xs its->Vals xs.reverse its.reverse
 | [],_,.nil=>.nil
 |_::_,_,.cons h t=>by rw[List.reverse_cons,List.reverse_cons];exact(wx t).append (.cons h .nil)
variable{K:Frag}
def CQ(hc:X.calm=true)(hK:X.K=K):bJ X (.builtin "any") (Um K):=by
 subst hK;intro g s σ H C A Q I r h;obtain⟨p,bs,rfl,hq,q⟩:=h;obtain⟨u,rfl,x⟩:=vals1 r
 cases x
 obtain⟨a,t,f,E⟩:=I.list hq;have j:=ug t;have l:p<s.heap.objs.size:=by obtain⟨o,e,_⟩:=f.isList;exact lt_size e
 refine PySem.call_any_walk<|Os f.isList ?_;refine⟨s.heap.objs.size,_,_,_,_,_,λi=>bs.getD i false,rfl,Walks.list (by simpa using I.ok.hd hc) s.heap.objs.size p (ot l) a.toArray,⟨⟨_,h9 _ rfl,rfl,rfl⟩,f.isList.push _⟩,?_,λB F hk=>?_⟩
 ·intro i v w n D c d;have c:a[i]?=some v:=by simpa using c
  rw[j,eG]at c
  cases e:bs[i]? with
  |none=>rw[e]at c;cases c
  |some b=>
   rw[e]at c
   cases c
   have d:n (bs.getD i false) w:=d;rw[b4,e]at d;exact A2 d
 ·have m:a.toArray.size=bs.length:=by rw[gd,j,b5]
  have y:(List.range a.toArray.size).any (λi=>bs.getD i false)=bs.any id:=by
   rw[m]
   apply Vq.mpr
   simp only[List.any_eq_true,List.mem_range,id_eq]
   constructor
   ·rintro⟨k,hk,h⟩;rw[b4,cc hk]at h;exact⟨_,pS hk,h⟩
   ·rintro⟨b,hb,h⟩;obtain⟨k,hk,e⟩:=C4 hb;refine⟨k,hk,?_⟩;rw[b4,cc hk];show bs[k]=true;rw[e];exact h
  rw[y];refine⟨.bl _,H,I.kept λb o e=>hk b o ?_ (ef _ e),rfl,q⟩;intro z
  have:b=s.heap.objs.size:=by simpa using z
  subst this;exact F8 _<|lt_size e
def CS{w_:aO0}{σ:St}{ns:e_}(hc:X.calm=true)(I:Inv X w_ σ H s)(hq:ay X.K H p (ns.map V.int)∨aP X.K H p (ns.map V.int)){R:c_}
  (h:∀(J:Addr) (fp wr:l_) (Pv:Nat->Value->Prop) (St:Nat->Heap->Prop) (s2:Shared),Walks X.prog X.w X.A.in1 J fp wr ns.length Pv St->St 0 s2.heap->(∀b∈fp,b<s2.heap.objs.size)->(∀i v,Pv i v->∃t,v=.int (ns.getD i 0) t)->
   (∀h' tk,(∀b o,b∉wr->s2.heap.get? b=some o->h'.get? b=some o)->Inv X w_ σ H {s2 with heap:=h',toks:=tk})->R (.ref J) s2):wpAny (model X.prog X.w) X.A.in1 (pyIter<|.ref p) R E s:=by
 have kept:∀ {o:Obj} {h':Heap} {tk:Nat},(∀b u,b∉[s.heap.objs.size]->(s.heap.push o).get? b=some u->h'.get? b=some u)->Inv X w_ σ H {s with heap:=h',toks:=tk}:=λhk=>I.kept λb u e=>hk b u (λz=>by
  have:b=s.heap.objs.size:=by simpa using z
  subst this;exact F8 _<|lt_size e)<|ef _ e
 rcases hq with hq|hq
 ·obtain⟨a,d,f,l⟩:=I.list hq;have g:a.toArray.size=ns.length:=by rw[gd,<-d.length,b5]
  have c:p<s.heap.objs.size:=by obtain⟨o,e,_⟩:=f.isList;exact lt_size e
  refine Os f.isList ?_;have W:=Walks.list (prog:=X.prog) (w:=X.w) (A:=X.A.in1) (by simpa using I.ok.hd hc) s.heap.objs.size p (ot c) a.toArray
  rw[g]at W;refine h _ _ _ _ _ _ W ⟨⟨_,h9 _ rfl,rfl,rfl⟩,f.isList.push _⟩ (λb hb=>?_) (λi v j=>?_) λh' tk hk=>kept hk
  ·show b<(s.heap.push _).objs.size;rw[C6]
   rcases gz.mp hb with rfl|hb
   ·exact VM _
   ·have:b=p:=by simpa using hb
    rw[this];exact Vw c
  ·obtain⟨t,e,_⟩:=pw d (by simpa using j)
   exact⟨t,e⟩
 ·obtain⟨a,d,f,l⟩:=I.tuple hq;have pt:s.heap.IsTuple p a.toArray:=f;have g:a.toArray.size=ns.length:=by rw[gd,<-d.length,b5]
  have c:p<s.heap.objs.size:=by obtain⟨o,e,_⟩:=pt;exact lt_size e
  refine Vi pt ?_;have W:=Walks.tuple (prog:=X.prog) (w:=X.w) (A:=X.A.in1) (by simpa using I.ok.hd hc) s.heap.objs.size p (ot c) a.toArray
  rw[g]at W;refine h _ _ _ _ _ _ W ⟨⟨_,h9 _ rfl,rfl,rfl⟩,pt.at λo e=>ef _ e⟩ (λb hb=>?_) (λi v j=>?_) λh' tk hk=>kept hk
  ·show b<(s.heap.push _).objs.size;rw[C6]
   rcases gz.mp hb with rfl|hb
   ·exact VM _
   ·have:b=p:=by simpa using hb
    rw[this];exact Vw c
  ·obtain⟨t,e,_⟩:=pw d (by simpa using j)
   exact⟨t,e⟩
def zi(hc:X.calm=true)(hK:X.K=K):bJ X (.builtin "max") (RU K):=by
 subst hK;intro l s σ H E C Q I r h;obtain⟨p,c,rfl,hq,f,q⟩:=h;obtain⟨u,rfl,z⟩:=vals1 r
 cases z
 have hn:0<c.length:=FM.mpr f;refine PySem.call_max_walk<|CS hc I hq λJ y B Pv St D W o j a b=>?_;refine⟨J,y,B,_,Pv,St,_,rfl,W,o,j,hn,CmpOf.ints_gt (λi=>c.getD i 0) a,λv w A m hk=>?_⟩;obtain⟨t,rfl⟩:=a _ _ m;obtain⟨F,x⟩:=argBest_gt (λi=>c.getD i 0)<|c.length-1;refine⟨.int _,H,b w A hk,⟨t,rfl⟩,q _ (L2.getD_mem (by omega)) λn d=>?_⟩
 obtain⟨k,g,e⟩:=C4 d
 have:=x k (by omega)
 rw[b4,cc g]at this;rw[<-e];exact this
def MI:TS:=λ_ _ _=>False
def sE{st:Stmt}:QS X st MI:=⟨λ_ _ _ _ _ _ h=>h.elim⟩
def Gn{D:Ends}{σ:St} :MI D σ H=False:=rfl
def RV(K:Frag):V->Hp->VK->Prop:=λx H Q=>∃a xs,x=.ref a/\ay K H a xs/\∀p,H p=none->Q (.ref p) (upd H p<|.lst xs.reverse)
def Uo(K:Frag)(te ts:TE):TE:=λσ H Q=>te σ H λx H1=>ts σ H1 λy a=>y=.int (-1)/\RV K x a Q
variable{e st:Expr}{te ts:TE}{pos p2:Pos}{ops:Value->Value->f'}
def O8(he:PE X e te)(hs:PE X st ts)(hsub:∀o i,subscripted (.Slice none none (some st) p2) false o i=operate (ops o i) (getItem o i)):PE X (.Subscript e (.Slice none none (some st) p2) pos) (Uo X.K te ts):=by
 intro c s σ H Q I h;refine Subscript_<|bN (he c s σ H _ I h) λv B ⟨x,H1,E,D,u⟩=>?_;refine wpAny_Slice ?_;rw[evalPart_none];refine fO<|fO ?_;rw[evalPart_some];refine bN (hs c B σ H1 _ E u) λG d ⟨y,C,m,F,n⟩=>?_;obtain⟨rfl,a,p,rfl,hx,q⟩:=n
 cases D
 obtain⟨t,rfl⟩:=F;have f:Inv X c σ C {d with heap:=d.heap.push {cls:=.type "slice",data:=.fields #[.none,.none,.int (-1) t]}}:=m.kept (t':=d.toks) λb ob q=>ef _ q;obtain⟨g,r,l,z⟩:=f.list hx;have j:=r.length;show wpAny (model X.prog X.w) X.A (subscriptTail e (.Slice none none (some st) p2) (.ref a)<|.ref d.heap.objs.size) (EP X c σ Q) X.xe {d with heap:=d.heap.push {cls:=.type "slice",data:=.fields #[.none,.none,.int (-1) t]}};refine tail_any (T:="list") (ops:=ops (.ref a)<|.ref d.heap.objs.size) l.isList.typeIs slot_list_getitem.lookup ?_ (hsub _ _);refine wpAny_getItem_list_slice l.isList (Heap.IsSliceOf.new ..) .none .none (.int (-1) t) (by simp) ?_ (by rw[gd]<;>omega)
 rw[PySem.W.krv_pick];refine⟨.ref _,_,f.laid (t':=d.toks) (o:=.lst p.reverse) (λb ob q=>ef _ q) (ey _) ?_,rfl,q _<|f.bf.fresh<|ey _⟩;exact⟨by rw[List.length_reverse];exact z,g.reverse,0,wx r,h9 _ rfl⟩
def O9(he:QE X e te)(hs:QE X st ts)(h:X.K=K)(hsub:∀o i,subscripted (.Slice none none (some st) p2) false o i=operate (ops o i) (getItem o i):=by intro _ _;with_unfolding_all rfl):QE X (.Subscript e (.Slice none none (some st) p2) pos) (Uo K te ts):=⟨by subst h;exact O8 he.h hs.h hsub⟩
def RW{σ:St} :Uo K te ts σ H Q=te σ H λx H1=>ts σ H1 λy H2=>y=.int (-1)/\RV K x H2 Q:=rfl
noncomputable def rg(n i:Nat)(s:Int):Int:=if i=n-1 then s else 1-s
def RX:Sp:=λa H Q _=>∃(n i:Nat) (s:Int),a=[.int n,.int i,.int s]/\1<=n/\Q (.int<|rg n i s) H
noncomputable def kd(b:Bool):Str:=if b then "ring" else "circle"
def ui(b:Bool):decide (kd b="ring")=b:=by cases b<;>decide
def GL(K:Frag)(H:Hp):u_->List (Bool × List Nat)->Prop
 | [],[]=>True
 |v::a,g::L=>(∃r p,v=.ref r/\aP K H r [.str (kd g.1),.ref p]/\aP K H p ((aE g.2).map V.int))/\GL K H a L
 |_,_=>False
variable{H':Hp}
theorem GL.mono(s:ag H H'):∀ {vs:u_} {L:B0L},GL K H vs L->GL K H' vs L
 | [],[],h=>h
 |_::_,_::_,⟨⟨r,p,e,h,a⟩,t⟩=>⟨⟨r,p,e,s.aO h,s.aO a⟩,GL.mono s t⟩
 | [],_::_,h=>h.elim
 |_::_,[],h=>h.elim
theorem GL.length:∀ {vs:u_} {L:B0L},GL K H vs L->vs.length=L.length
 | [],[],_=>rfl
 |_::_,_::_,⟨_,t⟩=>by rw[kf,kf,GL.length t]
 | [],_::_,h=>h.elim
 |_::_,[],h=>h.elim
theorem GL.get:∀ {vs:u_} {L:B0L} {i:Nat} {v:V},GL K H vs L->vs[i]?=some v->∃g r p,L[i]?=some g/\v=.ref r/\aP K H r [.str (kd g.1),.ref p]/\aP K H p ((aE g.2).map V.int)
 | [],[],i,v,_,e=>by simp at e
 |_::_,g::_,0,v,⟨⟨r,p,e,h,d⟩,_⟩,c=>by simp at c;subst c;exact⟨g,r,p,rfl,e,h,d⟩
 |_::_,_::_,i+1,v,⟨_,t⟩,c=>by
  obtain⟨g,r,p,a,b⟩:=GL.get (i:=i) (v:=v) t (by simpa using c)
  exact⟨g,r,p,by simpa using a,b⟩
 | [],_::_,_,_,h,_=>h.elim
 |_::_,[],_,_,h,_=>h.elim
noncomputable def pk(cs:e_)(l:d_):e_:=l.map λi=>cs.getD i 0
noncomputable def sF(cs:e_)(g:Bool × List Nat):Int:=if g.1 then 1 else dg (pr<|pk cs g.2) (pk cs g.2) / pr (pk cs g.2)
structure Kw(n:Nat)(g:Bool × List Nat):Prop where
 lt:∀i∈g.2,i<n
 len:g.2.length<=8
variable{g:Bool × List Nat}
def MJ{cs:e_}(h:b9 cs)(hg:Kw cs.length g):b9 (pk cs g.2):=by
 refine⟨λc hc=>?_,by unfold pk;rw[b5];exact hg.len⟩
 obtain⟨i,hi,e⟩:=kc.mp hc;rw[<-e];exact h.get<|hg.lt i hi
def uj{cs:e_} :(pk cs l).length=l.length:=by unfold pk;rw[b5]
def Pa{cs:e_}{k:Nat}(h:k<l.length):(pk cs l).getD k 0=cs.getD (l.getD k 0) 0:=by
 unfold pk;rw[b4,eG,cc h,b4 (l:=l),cc h];rfl
def pz(K:Frag):Sp:=λa H Q _=>∃(c p:Addr) (cs:e_) (l:d_),a=[.ref c,.ref p]/\aP K H c (cs.map V.int)/\aP K H p ((aE l).map V.int)/\(∀i∈l,i<cs.length)/\l.length<=8/\∀(t:Addr) (H':Hp),ag H H'->H' t=some (.tup<|(pk cs l).map V.int)->Q (.ref t) H'
def Bx(K:Frag):Sp:=λa H Q _=>∃(c p:Addr) (cs:e_) (g:Bool × List Nat),a=[.ref c,.str<|kd g.1,.ref p]/\aP K H c (cs.map V.int)/\aP K H p ((aE g.2).map V.int)/\b9 cs/\Kw cs.length g/\∀(H':Hp),ag H H'->Q (.int<|sF cs g) H'
def zj(K:Frag):Sp:=λa H Q _=>∃(c g:Addr) (cs:e_) (us:u_) (L:B0L),a=[.ref c,.ref g]/\aP K H c (cs.map V.int)/\aP K H g us/\GL K H us L/\b9 cs/\(∀g∈L,Kw cs.length g)/\L.length<=100/\∀(H':Hp),ag H H'->Q (.int (L.map<|sF cs).sum) H'
noncomputable def wy(cs:e_)(l:d_):e_:=l.map λi=>cs.getD i 0
def By{cs:e_} :(wy cs l).length=l.length:=by unfold wy;rw[b5]
def Kx{cs:e_}{k:Nat}(h:k<l.length):(wy cs l).getD k 0=cs.getD (l.getD k 0) 0:=by
 unfold wy;rw[b4,eG,cc h,b4 (l:=l),cc h];rfl
noncomputable def RY(cs hs:e_)(g:Bool × List Nat)(i:Nat):Int:=if g.1 then rg g.2.length (g.2.idxOf i) (hs.getD (g.2.getD ((g.2.idxOf i+1)%g.2.length) 0) 0)else cg (wy cs g.2) (wy hs g.2) (g.2.idxOf i)
noncomputable def wA(cs:e_)(L:B0L)(hs:e_)(i:Nat):Int:=match L.find? (λg=>decide<|i∈g.2)with
 |none=>0
 |some g=>RY cs hs g i
structure RZ(cs:e_)(ws:d_)(g:Bool × List Nat):Prop where
 lt:∀x∈g.2,x<cs.length
 nd:g.2.Nodup
 ring:g.1=true->2<=g.2.length/\(∀x∈g.2,cs.getD x 0=2)/\∀k,k<g.2.length->fC ws (g.2.getD k 0) (g.2.getD ((k+1)%g.2.length) 0)=true
 Li:g.1=false->∀x∈g.2,∀y∈g.2,x≠y->fC ws x y=true
structure CT(cs:e_)(ws:d_)(L:B0L):Prop where
 each:∀g∈L,RZ cs ws g
 Ay:L.Pairwise λg h=>∀x∈g.2,x∉h.2
def qI{k:Nat}(h:k<l.length):l.getD k 0∈l:=by
 rw[b4,cc h];exact pS h
def Up{k:Nat}(hd:l.Nodup)(h:k<l.length):l.idxOf (l.getD k 0)=k:=by
 rw[b4,cc h];exact hd.idxOf_getElem k h
def getIdx(h:x∈l):l.getD (l.idxOf x) 0=x:=by
 have a:=I1 h;rw[b4,cc a];exact Vy a
variable{L:B0L}
def zk(h:L.find? (λg=>decide<|i∈g.2)=some g):g∈L/\i∈g.2:=⟨List.mem_of_find?_eq_some h,by have:=List.find?_some h;exact qN this⟩
def Ky{cs hs:e_}(hp:∀c∈cs,1<=c)(hn:HN cs hs cs.length)(h:RZ cs ws g)(hi:i∈g.2):0<=RY cs hs g i/\RY cs hs g i<cs.getD i 0:=by
 have a:=I1 hi;unfold RY
 cases hb:g.1 with
 |true=>
  obtain⟨n,hc,_⟩:=h.ring hb;have f:=qI (l:=g.2) (k:=(g.2.idxOf i+1)%g.2.length) (mod_lt _ (by omega))
  have m:=hn.2 _<|h.lt _ f;rw[hc _ f]at m;rw[hc i hi];simp only[if_true];unfold rg
  split<;>omega
 |false=>
  simp only[Bool.false_eq_true,if_false];have d:∀c∈wy cs g.2,1<=c:=λc hc=>by
   obtain⟨x,hx,e⟩:=kc.mp hc;rw[<-e];exact hp _<|getD_mem<|h.lt x hx
  have j:g.2.idxOf i<(wy cs g.2).length:=by rw[By];exact a
  have b:=Ru (hs:=wy hs g.2) d j;rw[Kx a,getIdx hi]at b;exact⟨Rt d j,b⟩
def Kz{cs hs:e_}(hp:∀c∈cs,1<=c)(hn:HN cs hs cs.length)(h:CT cs ws L)(hi:i<cs.length):0<=wA cs L hs i/\wA cs L hs i<cs.getD i 0:=by
 unfold wA
 cases b:L.find? (λg=>decide<|i∈g.2)with
 |none=>have:=hp _<|getD_mem hi;exact⟨by show(0:Int)<=0;decide,by show(0:Int)<_;omega⟩
 |some g=>
  obtain⟨h1,a⟩:=zk b;exact Ky hp hn (h.each g h1) a
noncomputable def qt(cs:e_)(g:Bool × List Nat):Int:=if g.1 then 1 else dg (pr<|wy cs g.2) (wy cs g.2) / pr (wy cs g.2)
theorem ng:∀ {vs:f'} {ns:e_},IntsAre vs ns->∀i,i<ns.length->∃u,vs[i]?=some (.int (ns.getD i 0) u)
 |_,_,.nil,i,h=>absurd h<|VE i
 |_,_,.cons n t _,0,_=>⟨t,rfl⟩
 |_,_,.cons n t r,i+1,h=>by
  obtain⟨u,e⟩:=ng r i (by simpa using h)
  exact⟨u,by simpa using e⟩
def l9{vs:f'}{ns:e_}{k:Int}{t:Tok}{Q:c_}(hp:s.heap.IsTuple p vs.toArray)(hi:IntsAre vs ns)(hk:k∈ns)(q:∀tk,Q (.int (ns.idxOf k:Nat) tk) {s with toks:=s.toks+1}):
  wpAny (model prog w) A (call (.builtin "tuple.index") [.ref p,.int k t]) Q E s:=by
 obtain⟨o,z,B,n,v⟩:=id hp;refine Vg slot_tuple_index hp.typeIs F.entry_tuple_index ?_ (F.args_tuple_index_2 _ _);unfold Builtin.«tuple.index»;refine dy (wpAny_of_eq (a:=(Value.ref p,[Value.int k t])) rfl ?_)
 dsimp only
 have j:=hi.length;have b:ns.idxOf k<ns.length:=C2.mpr hk;have dG:=ng hi;unfold Builtin.Tuple.tupleItemsOf;refine dy<|dy<|Vk z v<|fO<|dy<|fO<|dy<|fO<|dy ?_;rw[Std.Legacy.Range.forIn_eq_forIn_range'];have c:∀(m i:Nat) (R:Option Fin × Unit->Shared->Prop),i+m=vs.length->i<=ns.idxOf k->R (some<|.done<|.ret<|.int (ns.idxOf k:Nat) s.toks,()) {s with toks:=s.toks+1}->
   wpAny (model prog w) A.in1 (forIn (List.range' i m) ((none,()):Option Fin × Unit) λ(i:Nat) __s=>
    match vs.toArray[i]? with
    |some y=>do
     let __do_lift<-eqBool y (Value.int k t)
     if __do_lift=true then do
       let __do_lift<-retInt ((i:Nat):Int)
       pure (ForInStep.done (some __do_lift,()))
      else pure (ForInStep.yield (none,()))
    |x=>pure<|ForInStep.yield (none,())) R E s:=by
  intro m
  induction m with
  |zero=>intro i R h1 r _;omega
  |succ m l=>
   intro i R h1 r h;obtain⟨u,hu⟩:=dG i (by omega)
   rw[List.range'_succ,forIn_cons];have f:vs.toArray[i]?=some (.int (ns.getD i 0) u):=by simpa using hu
   simp only[f];refine dy<|dy<|wpAny_eqBool_int ?_
   by_cases e:i=ns.idxOf k
   ·have d:(ns.getD i 0==k)=true:=by
     rw[e,b4,cc b];show(ns[ns.idxOf k]==k)=true;rw[Vy b,VA]
    rw[d,if_pos rfl];unfold retInt;refine dy<|dy<|wpAny_mkInt<|fO<|fO<|fO ?_;rw[e];exact h
   ·have d:(ns.getD i 0==k)=false:=by
     rw[b4,cc (by omega)]
     exact ne_of_lt_idxOf (show i<ns.idxOf k by omega) (by omega)
    rw[d,if_neg a_]
    exact fO (l (i+1) R (by omega) (by omega) h)
 have g:(([: min vs.toArray.size vs.toArray.size]:Std.Legacy.Range)).size=vs.length:=by simp[Std.Legacy.Range.size]
 rw[g];exact c vs.length 0 _ (by omega) (zero_le _)<|fO ⟨_,rfl,q _⟩
def KA(K:Frag):V->u_->Hp->VK->Prop:=λx a H Q=>∃(l:Addr) (ns:e_) (k:Int),x=.ref l/\a=[.int k]/\aP K H l (ns.map V.int)/\k∈ns/\Q (.int (ns.idxOf k:Nat)) H
def zl(hK:X.K=K):yo X "tuple.index" (KA K):=by
 subst hK;intro a s σ H x i v j Q I e d h;obtain⟨l,m,k,rfl,rfl,c,hk,q⟩:=h
 cases e
 obtain⟨u,rfl,f⟩:=d.one;obtain⟨t,rfl⟩:=f;obtain⟨b,r,g,n⟩:=I.tuple c;exact l9 (show s.heap.IsTuple l b.toArray from g) (intsAre_of r) hk (Q:=EP X a σ Q) λo=>⟨.int _,H,I.tok _,⟨_,rfl⟩,q⟩
def R1(K:Frag)(H0:Hp)(c g h:Addr)(L:B0L)(i:Nat)(k:Nat)(σ:St)(H:Hp):Prop:=ag H0 H/\(∀t,t<k->∀x,L[t]?=some x->i∉x.2)/\∃y1 y2 y3:v_,σ=[some (.ref c),some<|.ref g,some<|.ref h,some<|.int (i:Int),y1,y2,y3]
def zm(h:∀t,t<L.length->∀x,L[t]?=some x->i∉x.2):L.find? (λg=>decide<|i∈g.2)=none:=by
 rw[List.find?_eq_none];intro g b;obtain⟨t,a,e⟩:=C4 b;rw[ka];exact h t a g (by rw[cc a,e])
def zo{k:Nat}(h:∀t,t<k->∀x,L[t]?=some x->i∉x.2)(hk:L[k]?=some g)(hi:i∈g.2):L.find? (λg=>decide<|i∈g.2)=some g:=by
 induction L generalizing k with
 |nil=>simp at hk
 |cons a r c=>
  cases k with
  |zero=>
   simp at hk
   subst hk;rw[find?_cons,ed hi]
  |succ k=>
   have b:=h 0 (Nat.succ_pos k) a rfl;rw[find?_cons,cv b];exact c (k:=k) (λt d x hx=>h (t+1) (by omega) x (by simpa using hx)) (by simpa using hk)
def KD{cs hs:e_}(hcs:b9 cs)(hn:HN cs hs cs.length)(hl:∀x∈l,x<cs.length):RG (pk cs l) (pk hs l):=by
 refine⟨by rw[uj,uj],λj hj=>?_⟩
 rw[uj]at hj;rw[Pa hj];have hx:=hl _<|ez hj;have a:=hn.2 _ hx;exact(hcs.get hx).bt.of_le a.1 (by omega)
def wB(K:Frag)(H:Hp)(p:Addr):Prop:=(∃o,K.lookup p=some o/\o.cls=.type "tuple"/\o.dict=none)∨∃o u,H p=some (.iE o u)/\o.cls=.type "tuple"/\o.dict=none
def wB.mono(s:ag H H'):wB K H p->wB K H' p
 |.inl h=>.inl h
 |.inr ⟨o,u,h,c⟩=>.inr ⟨o,u,s _ _ h,c⟩
def wB.gF{B_:Addr}{ys:u_}(ha:H B_=some (.lst ys)):wB K H p->wB K (upd H B_ o) p
 |.inl h=>.inl h
 |.inr ⟨ob,u,h,c⟩=>.inr ⟨ob,u,by rw[aK (iq h ha λz=>nomatch z)];exact h,c⟩
def Pb{w_:aO0}{σ:St}(I:Inv X w_ σ H s)(ty:wB X.K H p):s.TypeIs (.ref p) "tuple"/\∀a,Value.ref p=.ref a->∃ob,s.heap.get? a=some ob/\ob.dict=none:=by
 rcases ty with ⟨o,hk,hc,b⟩|⟨o,u,hk,hc,b⟩
 ·refine⟨⟨o,I.jw p o hk,hc⟩,λa e=>?_⟩
  cases e
  exact⟨o,I.jw _ o hk,b⟩
 ·obtain⟨c,_⟩:=I.bf p _ hk;refine⟨⟨o,c,hc⟩,λa e=>?_⟩
  cases e
  exact⟨o,c,b⟩
def Pc(K:Frag)(r:V->u_->Hp->VK->Prop)(to:TE)(t:TA):TE:=λσ H Q=>to σ H λx H1=>(∃p,x=.ref p/\wB K H1 p)/\t σ H1 λb a=>r x b a Q
variable{r:V->u_->Hp->VK->Prop}
def MK{to:TE}{t:TA}{σ:St} :Pc K r to t σ H Q=to σ H λx H1=>(∃p,x=.ref p/\wB K H1 p)/\t σ H1 λxs H2=>r x xs H2 Q:=rfl
variable{o:Expr}{es:i_}{to:TE}{t:TA}{name:Str}{A' bR:Pos}{id:String}
def Pd(pa:PlainAttrs "tuple")(slot:Slot "tuple" name id)(hty:typeOf (.builtin id)=pure (.type "method_descriptor"))(hm:yo X id r)(ho:PE X o to)(ha:PA X (e::es) t)
  (eP:attributeBase o name X.env (eval o X.env)=eval o X.env:=by rfl)
  (hfew:((backTo bR<|starEach (e::es) X.env).all (λx=>!x.1)&&(backToKw bR<|keywordEach [] X.env).all (λx=>x.1.isSome)
   &&decide ((e::es).length+([]:List Keyword).length+(if([]:List Keyword).isEmpty then 0 else 1)<30))=true:=by rfl)
  (b6:(A'.endLine==bR.line)=true:=by rfl) (hs:starEach (e::es) X.env=(false,eval e X.env)::starEach es X.env:=by rfl) (hplain:(backTo bR<|starEach es X.env).any (·.1)=false:=by rfl):
  PE X (.Call (.Attribute o name A') (e::es) [] bR) (Pc X.K r to t):=by
 intro a s σ H Q I h;refine wpAny_Call_method_late eP hfew b6 rfl<|bN (ho a s σ H _ I h) λv y ⟨x,H1,c,w,⟨p,m,ty⟩,i⟩=>?_;subst m
 cases w
 obtain⟨h1,f⟩:=Pb c ty;refine⟨"tuple",id,pa,slot,hty,h1,f,?_⟩;have b:=ha bR a y σ H1 _ c i;rw[hs]at b ⊢;refine Calls.callWith_builtin (by show(false||(backTo bR<|starEach es X.env).any (·.1))=false;rw[hplain]<;>rfl)<|Calls.evalArgs_plain ?_
 exact bN b λj d ⟨l,g,q,u,n⟩=>hm a d σ g (.ref p) l (.ref p) j Q q rfl u n
def UN(pa:PlainAttrs "tuple")(slot:Slot "tuple" name id)(hty:typeOf (.builtin id)=pure (.type "method_descriptor"))(hm:yo X id r)(h:X.K=K)(ho:QE X o to)(ha:QB X (e::es) t)
  (eP:attributeBase o name X.env (eval o X.env)=eval o X.env:=by rfl) (hlen:decide ((e::es).length<30)=true:=by rfl)
  (b6:(A'.endLine==bR.line)=true:=by rfl):QE X (.Call (.Attribute o name A') (e::es) [] bR) (Pc K r to t):=by
 subst h;exact⟨Pd pa slot hty hm ho.h ha.h.pa eP (by rw[lV ha.h.ns];exact hlen) b6 (bb ha.h.he)<|cA ha.h.Be⟩
def R3(K:Frag):u_->Hp->VK->Prop:=λa H Q=>∃p ys,a=[.ref p]/\ay K H p ys/\∀l o,H l=none->o.cls=.type "tuple"->o.dict=none->Q (.ref l) (upd H l<|.iE o<|.tup ys)
def g4(hK:X.K=K):bJ X (.type "tuple") (R3 K):=by
 subst hK;intro a s σ H x y Q I r h;obtain⟨p,g,rfl,hq,q⟩:=h;obtain⟨u,rfl,m⟩:=vals1 r
 cases m
 obtain⟨c,j,v,n⟩:=I.list hq;have f:=j.length;refine call_tuple_list v.isList (λd l=>?_) (by simp only[List.size_toArray]<;>omega)
 have i:Inv X a σ H {s with heap:=d}:=I.kept (t':=s.toks) l;have t:Inv X a σ (upd H d.objs.size<|.iE {cls:=.type "tuple",data:=.seq c.toArray}<|.tup g) {s with heap:=d.push {cls:=.type "tuple",data:=.seq c.toArray}}:=
  i.laid (t':=s.toks) (λb o e=>ef _ e) (ey _) (show bB X.prog X.w _ _ _ (.iE _<|.tup g)from⟨h9 _ rfl,n,c,j,IsTup.new _ _⟩)
 exact⟨.ref d.objs.size,_,t,rfl,q _ _ (i.bf.fresh<|ey _) rfl rfl⟩
theorem aP.iE{K:Frag}{H:Hp}{a:Addr}{o:Obj}{xs:u_}(h:H a=some (.iE o<|.tup xs)):aP K H a xs:=.inl<|.inr ⟨o,h⟩
def GF(K:Frag)(H:Hp):u_->List (Bool × List Nat)->Prop
 | [],[]=>True
 |v::a,g::L=>(∃r p,v=.ref r/\aP K H r [.str (kd g.1),.ref p]/\aP K H p ((aE g.2).map V.int)/\wB K H p)/\GF K H a L
 |_,_=>False
theorem GF.gl:∀ {vs:u_} {L:B0L},GF K H vs L->GL K H vs L
 | [],[],h=>h
 |_::_,_::_,⟨⟨r,p,e,h,a,_⟩,t⟩=>⟨⟨r,p,e,h,a⟩,GF.gl t⟩
 | [],_::_,h=>h.elim
 |_::_,[],h=>h.elim
theorem GF.mono(s:ag H H'):∀ {vs:u_} {L:B0L},GF K H vs L->GF K H' vs L
 | [],[],h=>h
 |_::_,_::_,⟨⟨r,p,e,h,b,a⟩,t⟩=>⟨⟨r,p,e,s.aO h,s.aO b,a.mono s⟩,GF.mono s t⟩
 | [],_::_,h=>h.elim
 |_::_,[],h=>h.elim
theorem GF.gF{B_:Addr}{ys:u_}{o:HO}(ha:H B_=some (.lst ys)):∀ {vs:u_} {L:B0L},GF K H vs L->GF K (upd H B_ o) vs L
 | [],[],h=>h
 |_::_,_::_,⟨⟨r,p,e,h,b,a⟩,t⟩=>⟨⟨r,p,e,h.gF ha,b.gF ha,a.gF ha⟩,GF.gF ha t⟩
 | [],_::_,h=>h.elim
 |_::_,[],h=>h.elim
theorem GF.append:∀ {vs ws:u_} {L M:B0L},GF K H vs L->GF K H ws M->GF K H (vs++ws) (L++M)
 | [],_,[],_,_,h=>h
 |_::_,_,_::_,_,⟨a,t⟩,h=>⟨a,GF.append t h⟩
 | [],_,_::_,_,h,_=>h.elim
 |_::_,_,[],_,h,_=>h.elim
theorem GF.length{vs:u_}{L:B0L}(h:GF K H vs L):vs.length=L.length:=h.gl.length
theorem GF.get:∀ {vs:u_} {L:B0L} {i:Nat} {v:V},GF K H vs L->vs[i]?=some v->∃g r p,L[i]?=some g/\v=.ref r/\aP K H r [.str (kd g.1),.ref p]/\aP K H p ((aE g.2).map V.int)/\wB K H p
 | [],[],i,v,_,e=>by simp at e
 |_::_,g::_,0,v,⟨⟨r,p,e,h,d⟩,_⟩,c=>by simp at c;subst c;exact⟨g,r,p,rfl,e,h,d⟩
 |_::_,_::_,i+1,v,⟨_,t⟩,c=>by
  obtain⟨g,r,p,a,b⟩:=GF.get (i:=i) (v:=v) t (by simpa using c)
  exact⟨g,r,p,by simpa using a,b⟩
 | [],_::_,_,_,h,_=>h.elim
 |_::_,[],_,_,h,_=>h.elim
def Pe{i0 j0:Nat}{tb:TS}{D:Ends}{σ:St}(I:o_)(h:aP K H a us)(hL:GF K H us L)(h0:I 0 σ H)(hl:∀i σ H,I i σ H->aP K H a us/\GF K H us L)
  (step:∀(i:Nat) g p σ H,L[i]?=some g->aP K H p ((aE g.2).map V.int)->wB K H p->I i σ H->tb {D with nx:=I<|i+1,ct:=I<|i+1,bk:=D.nx} ((σ.set i0<|some<|.str<|kd g.1).set j0<|some<|.ref p) H)
  (fin:∀σ H,I L.length σ H->D.nx σ H):∃b,V.ref a=.ref b/\(∃xs,aP K H b xs)/\qB (qw K 2<|dS (bF i0)<|dS (bF j0) qv) tb D σ (Eb K b) H:=by
 refine⟨a,rfl,⟨_,h⟩,AY (xs:=us) I h0 (λi σ H _ p=>(hl i σ H p).1) (λi x σ H e p=>?_) λσ H p=>fin σ H (by rw[hL.length]at p;exact p)⟩
 obtain⟨g,r,f,c,rfl,j,d,l⟩:=(hl i σ H p).2.get e;exact⟨r,_,rfl,j,rfl,_,_,rfl,_,_,rfl,rfl,step i g f σ H c d l p⟩
def R4(K:Frag):Sp:=λa H Q _=>∃(c g h:Addr) (cs hs:e_) (ws:d_) (us:u_) (L:B0L) (i:Nat),a=[.ref c,.ref g,.ref h,.int i]/\aP K H c (cs.map V.int)/\aP K H g us/\GF K H us L/\aP K H h (hs.map V.int)/\b9 cs/\HN cs hs cs.length/\CT cs ws L/\i<cs.length/\∀(H':Hp),ag H H'->Q (.int<|wA cs L hs i) H'
def ML:QE X (.Dict [] [] pos) yM:=⟨Fb⟩
variable{i:Expr}{td ty:TE}
def R5(hu:X.A.units+1<cLine)(hi:QE X i ty)(ho:QE X o td)(hm:behindInMarks .In o=false):QE X (.Compare i [.In] [o] pos) (JM ty td):=⟨NQ (EZ hu hi.h ho.h) hm⟩
variable{value:Expr}{pos':Pos}{tv:TE}
def MM(hu:X.A.units+1<cLine)(hv:QE X value tv)(ho:QE X o td)(hi:QE X i ty)(hs:swapsWith value (some<|.Subscript o i pos') pos.line X.env=pure false:=by rfl):QS X (.Assign [.Subscript o i pos'] value pos) (EY td ty tv):=⟨JO hu ho.h hi.h hv.h hs⟩
variable{σ:St}
def Gp:yM σ H Q=∀p,H p=none->Q (.ref p) (upd H p<|.dK []):=rfl
def MN:JM ty td σ H Q=ty σ H λy H1=>td σ H1 λx H2=>∃a o,x=.ref a/\gT H2 a y o/\Q (.bl o.isSome) H2:=rfl
variable{D:Ends}
def Gq:EY td ty tv D σ H=tv σ H λv H1=>td σ H1 λx H2=>ty σ H2 λy H3=>∃a H4,x=.ref a/\tR H3 a y v H4/\D.nx σ H4:=rfl
def u1(hu:X.A.units+64<cLine):X.A.units+1<cLine:=by omega
def Gr(H:Hp)(d:Addr)(ns:e_):Prop:=∃C_:s_,H d=some (.dK C_)/\C_.length<=ns.length/\∀k:Int,(cJ C_<|Sum.inl k).isSome=decide (k∈ns)
variable{d:Addr}
def Gr.nil(h:H d=some (.dK [])):Gr H d []:=⟨[],h,ey _,λk=>by rw[ES];rfl⟩
def Gr.same{ns:e_}(s:ag H H'):Gr H d ns->Gr H' d ns
 |⟨a,h,l,v⟩=>⟨a,s _ _ h,l,v⟩
def Pf{ns:e_}{k:Int}(h:Gr H d ns)(q:Q (.bl<|decide<|k∈ns) H):∃a o,V.ref d=.ref a/\gT H a (.int k) o/\Q (.bl o.isSome) H:=by
 obtain⟨b,e,_,v⟩:=h;exact⟨d,_,rfl,gT.k (k:=Sum.inl k) e,by rw[v];exact q⟩
def Gs(C_:s_)(k:Key)(y:V):(putK C_ k y).length<=C_.length+1:=by
 unfold putK
 split
 ·rw[b5];omega
 ·rw[eR];exact ey _
def KG{ns:e_}{k:Int}{y:V}{Q:r_}(h:Gr H d ns)(hl:ns.length<sizeLine)(q:∀o,Gr (upd H d o) d (ns++[k])->Q (upd H d o)):∃a H4,V.ref d=.ref a/\tR H a (.int k) y H4/\Q H4:=by
 obtain⟨b,e,l,v⟩:=h;refine⟨d,_,rfl,tR.k (k:=Sum.inl k) e<|A6 l hl,q _ ⟨_,af,?_,λj=>?_⟩⟩
 ·rw[eR];exact hU (Gs _ _ _)<|Nat.succ_le_succ l
 ·rw[ET]
  by_cases c:j=k
  ·subst c;rw[if_pos rfl]
   simp
  ·rw[if_neg (λz=>c<|Sum.inl.inj z),v]
   congr 1
   simp[c]
noncomputable def pA(l:d_):Bool:=(List.range<|l.length-1).all λk=>decide<|l.getD k 0<l.getD (k+1) 0
def wC(h:pA l=true):l.Nodup:=by
 have b:∀k,k+1<l.length->l.getD k 0<l.getD (k+1) 0:=λk hk=>by
  have:=j9.mp h k (mv.mpr (by omega))
  simpa using this
 have lt:∀d i,i+d+1<l.length->l.getD i 0<l.getD (i+d+1) 0:=by
  intro d
  induction d with
  |zero=>intro i hi;exact b i hi
  |succ d f=>intro i hi;exact VG (f i (by omega)) (b (i+d+1) (by omega))
 rw[I3,List.pairwise_iff_getElem];intro i j hi hj c e
 have:=lt (j-i-1) i (by omega)
 rw[show i+(j-i-1)+1=j by omega,b4,b4,cc hi,cc hj]at this
 exact F8 _ (by have a:l[i]<l[j]:=this;rw[e]at a;exact a)
noncomputable def nats(ns:e_):d_:=ns.map toNat
noncomputable def IT(n:Nat)(ns:e_):Bool:=ns.all λi=>decide (0<=i)&&decide (i<(n:Int))
def KH{n:Nat}{ns:e_}(h:IT n ns=true):ns=aE (nats ns)/\∀x∈nats ns,x<n:=by
 have hb:∀i∈ns,0<=i/\i<(n:Int):=λi hi=>by
  have:=j9.mp h i hi
  simpa using this
 refine⟨?_,λx hx=>?_⟩
 ·unfold aE nats;rw[kb]
  apply ext_getElem
  ·simp
  ·intro i h1 a
   have:=hb _<|pS h1
   simp
   omega
 ·obtain⟨i,hi,rfl⟩:=kc.mp hx
  have:=hb i hi
  omega
noncomputable def CU(cs:e_)(ws:d_)(b:Bool)(l:d_):Bool:=if b then jK ws l&&l.all (λx=>decide<|cs.getD x 0=2)else pA l&&de ws l
noncomputable def Eg(cs:e_)(ws:d_)(g:Bool × List Int):Bool:=decide (1<=g.2.length)&&(IT cs.length g.2&&CU cs ws g.1 (nats g.2))
noncomputable def Eh(cs:e_)(ws:d_):e_->Nat->List (Bool × List Int)->Option Nat
 |_,_,[]=>none
 |gone,k,g::r=>if(Eg cs ws g&&!(g.2.any λi=>decide<|i∈gone))=true then Eh cs ws (gone++g.2) (k+1) r else some k
noncomputable def oV:Option Nat->V
 |none=>.bA
 |some k=>.int (k:Int)
def GI(K:Frag)(H:Hp):u_->List (Bool × List Int)->Prop
 | [],[]=>True
 |v::a,g::L=>(∃r p,v=.ref r/\aP K H r [.str (kd g.1),.ref p]/\aP K H p (g.2.map V.int))/\GI K H a L
 |_,_=>False
theorem GI.length:∀ {vs:u_} {L:List (Bool × List Int)},GI K H vs L->vs.length=L.length
 | [],[],_=>rfl
 |_::_,_::_,⟨_,t⟩=>by rw[kf,kf,GI.length t]
 | [],_::_,h=>h.elim
 |_::_,[],h=>h.elim
theorem GI.get:∀ {vs:u_} {L:List (Bool × List Int)} {i:Nat} {v:V},GI K H vs L->vs[i]?=some v->∃g r p,L[i]?=some g/\v=.ref r/\aP K H r [.str (kd g.1),.ref p]/\aP K H p (g.2.map V.int)
 | [],[],i,v,_,e=>by simp at e
 |_::_,g::_,0,v,⟨⟨r,p,e,h,d⟩,_⟩,c=>by simp at c;subst c;exact⟨g,r,p,rfl,e,h,d⟩
 |_::_,_::_,i+1,v,⟨_,t⟩,c=>by
  obtain⟨g,r,p,a,b⟩:=GI.get (i:=i) (v:=v) t (by simpa using c)
  exact⟨g,r,p,by simpa using a,b⟩
 | [],_::_,_,_,h,_=>h.elim
 |_::_,[],_,_,h,_=>h.elim
def Bz(K:Frag):Sp:=λa H Q _=>∃(p:Addr) (l:d_),a=[.ref p]/\aP K H p ((aE l).map V.int)/\1<=l.length/\l.length<=90/\∀H',ag H H'->Q (.bl<|pA l) H'
def MO(K:Frag):Sp:=λa H Q _=>∃(c w p:Addr) (cs:e_) (ws:d_) (g:Bool × List Int),a=[.ref c,.ref w,.str<|kd g.1,.ref p]/\aP K H c (cs.map V.int)/\aP K H w ((aE ws).map V.int)/\aP K H p (g.2.map V.int)/\ws.length=cs.length/\cs.length<=8/\g.2.length<=90/\∀H',ag H H'->Q (.bl<|Eg cs ws g) H'
def wD(K:Frag):Sp:=λa H Q _=>∃(c w g:Addr) (cs:e_) (ws:d_) (us:u_) (L:List (Bool × List Int)),a=[.ref c,.ref w,.ref g]/\aP K H c (cs.map V.int)/\aP K H w ((aE ws).map V.int)/\aP K H g us/\GI K H us L/\ws.length=cs.length/\cs.length<=8/\(∀g∈L,g.2.length<=30)/\L.length<=30/\∀H',ag H H'->Q (oV<|Eh cs ws [] 0 L) H'
def Gu(l:d_):nats (aE l)=l:=by
 unfold nats aE;rw[kb]
 conv=>rhs;rw[<-List.map_id l]
 apply List.map_congr_left
 intro x _;exact ri x
def nh(L:d_):(List.range L.length).map (λk=>L.getD k 0)=L:=by
 apply F1
 intro k
 by_cases hk:k<L.length
 ·rw[eG,r4 hk,cc hk];show some (L.getD k 0)=_;rw[b4,cc hk];rfl
 ·rw[ls (by rw[b5,j6];omega),ls (by omega)]
def BA{σ:St}{R:It->r_}:AX t σ H R=t σ H λvs H1=>∃i j:Int,vs=[.int i,.int j]/\(-(2 ^ 62)<=i/\i<2 ^ 62/\-(2 ^ 62)<=j/\j<2 ^ 62)/\R (AU i (j-i).toNat) H1:=rfl
def MP{i j:Int}{lo n:Nat}{g:TG}{tb:TS}{σ:St}(I:o_)(ei:i=(lo:Int))(ej:j=((lo+n:Nat):Int))(hn:lo+n<=1000000)(h0:I 0 σ H)
  (step:∀k σ H,k<n->I k σ H->g (.int ((lo+k:Nat):Int)) σ H λσ2 H2=>tb {D with nx:=I<|k+1,ct:=I<|k+1,bk:=D.nx} σ2 H2)
  (fin:∀σ H,I n σ H->D.nx σ H):∃i' j':Int,[V.int i,V.int j]=[.int i',.int j']/\(-(2 ^ 62)<=i'/\i' < 2 ^ 62/\-(2 ^ 62)<=j'/\j' < 2 ^ 62)/\qB g tb D σ (AU i' (j'-i').toNat) H:=by
 subst ei ej;refine⟨_,_,rfl,⟨by omega,by omega,by omega,by omega⟩,?_⟩
 rw[show(((lo+n:Nat):Int)-(lo:Int)).toNat=n by omega]
 refine rO (n:=n) I h0 (λk σ H hk p=>?_) λσ H p=>fin σ H p;rw[show(lo:Int)+(k:Nat)=((lo+k:Nat):Int) by omega]
 exact step k σ H hk p
variable{z:Str}
def sG{m:Made}{w_:aO0}{σ:St}(I:Inv X w_ σ H s)(hm:(∃t,m=.val (.str z t))∨m=.str z)(hz:z.length<=sizeLine)(q:Q (.str z) H):m.post (EP X w_ σ Q) s:=by
 rcases hm with ⟨t,rfl⟩|rfl
 ·exact⟨.str z,H,I,⟨_,rfl⟩,q⟩
 ·exact⟨hz,.str z,H,I.tok _,⟨_,rfl⟩,q⟩
def Uq:V->j_->j_->Hp->VK->Prop:=λx l u H Q=>∃z,x=.str z/\(StrLaws.sliceText z l u).length<=sizeLine/\Q (.str<|StrLaws.sliceText z l u) H
def eB:Ot X Uq:=by
 intro d s σ H x v A B b hi y Q I i n r j h;obtain⟨z,rfl,m,q⟩:=h;obtain⟨t,rfl⟩:=i;refine⟨"str",_,slot_str_getitem.lookup,typeIs_str s z t,?_⟩;have a:∀ {w:Value} {o:j_},IsPart w o->∃p:Option (Int × Tok),w=partValue p/\p.map (·.1)=o:=λ{w o} h=>by
  cases h with
  |none=>exact⟨none,rfl,rfl⟩
  |int=>exact⟨some (_,_),rfl,rfl⟩
 obtain⟨l,rfl,g⟩:=a r;obtain⟨u,rfl,hu⟩:=a j;refine wpAny_getItem_str_slice (st:=none) n rfl ?_;refine sG I ?_ m q;have e:sliceMade z t l u none=if((Builtin.Str.strSliceIndices b hi 1 z.length).length==z.length)=true then Made.val (Value.str z t)else Made.str ⟨((Builtin.Str.strSliceIndices b hi 1 z.length).filterMap λx=>z.cps[x]?).toArray⟩:=by
  unfold sliceMade slicePicked;rw[g,hu]
  rfl
 have f:StrLaws.sliceText z b hi=if((Builtin.Str.strSliceIndices b hi 1 z.length).length==z.length)=true then z else⟨((Builtin.Str.strSliceIndices b hi 1 z.length).filterMap λx=>z.cps[x]?).toArray⟩:=by
  unfold StrLaws.sliceText
  rfl
 rw[e,f]
 by_cases c:((Builtin.Str.strSliceIndices b hi 1 z.length).length==z.length)=true
 ·rw[if_pos c,if_pos c];exact .inl ⟨t,rfl⟩
 ·rw[if_neg c,if_neg c];exact .inr rfl
noncomputable def Qr(z:Str):It:=⟨λi _=>i<z.cps.size,λi H x a=>a=H/\∃c,z.cps[i]?=some c/\x=.str ⟨#[c]⟩,λi _=>z.cps.size<=i⟩
def Pg(te:TE):TI:=λσ H R=>te σ H λx H1=>∃z,x=.str z/\R (Qr z) H1
def sH{P:Program}(hA:A.handled=none)(I:Addr)(x:Str)(t:Tok):Walks P w A I [I] [I] x.cps.size (SignAt x) λi h=>h.IsStrIter I (strIterType x) x t i:=by
 unfold strIterType
 split
 ·exact Walks.strAscii hA I x t
 ·exact Walks.strWide hA I x t
variable{x:Str}{Q:c_}{t:Tok}
def Gv{P:Program}{it:Addr}{i:Nat}(st:s.heap.IsStrIter it (strIterType x) x t i)(h:Q (.ref it) s):wpAny (model P w) A (pyIter<|.ref it) Q E s:=by
 unfold strIterType at st
 split at st
 ·exact wpAny_pyIter_striter_ascii st h
 ·exact wpAny_pyIter_striter_wide st h
def Gw{P:Program}{tg:Expr}(z:Str)(t:Tok)(it:Addr):Turn P w K tg (Qr z) [it] it (λi h=>i<=z.cps.size/\h.IsStrIter it (strIterType z) z t i) where
 mem:=by simp
 obj:=λi h f b hb=>by
  have e:b=it:=by simpa using hb
  subst e;obtain⟨_,o,e,c,d⟩:=f;exact⟨o,e,λv z=>by rw[d]at z;cases z⟩
 keep:=λi h l f k=>by
  obtain⟨a,o,e,c,d⟩:=f;exact⟨a,o,k it (by simp) o e,c,d⟩
 item:=by
  intro X r q J hc i g s σ H E I m f n;subst r q J;obtain⟨C,D,L,B,y,x⟩:=m it (by simp)
  refine(sH (I.ok.hd hc) it z t).item i s _ E n f.2 λv l j N G p=>?_;obtain⟨c,u,F,rfl⟩:=N;have M:Inv X g σ H {s with heap:=l,toks:=j}:=I.turned (t':=j) (λb o hb e=>p b o (by simpa using hb) e) C D B y x
  have go:∀ {Q:Unit->Shared->Prop},Q () {s with heap:=l,toks:=j}->wpAny (model X.prog X.w) X.A (letOwnedTupleGo tg (.ref it)<|.str ⟨#[c]⟩ u) Q E {s with heap:=l,toks:=j}:=λhq=>by
   unfold letOwnedTupleGo
   cases tg<;>exact fO hq
  exact⟨_,rfl,go ⟨.str ⟨#[c]⟩,H,M,⟨_,rfl⟩,⟨rfl,c,F,rfl⟩,⟨n,G⟩,λb hb=>(m b hb).1⟩⟩
 done:=by
  intro X r q J hc i g s σ H E I m f n;subst r q J;obtain⟨C,D,L,B,y,x⟩:=m it (by simp)
  have e:i=z.cps.size:=Nat.le_antisymm f.1 n;subst e;exact(sH (I.ok.hd hc) it z t).done s _ E f.2 λl j p=>⟨rfl,I.turned (t':=j) (λb o hb e=>p b o (by simpa using hb) e) C D B y x⟩
 self:=λA i s Q E f h=>Gv f.2 h
variable{tg:Expr}
def KI(he:PE X e te):PI X tg e (Pg te):=by
 intro a s σ H R I h;refine bN (he a s σ H _ I h) λv c ⟨x,H1,d,g,f⟩=>?_;obtain⟨z,rfl,q⟩:=f;obtain⟨t,rfl⟩:=g;refine wpAny_pyIter_strU ?_;refine⟨c.heap.objs.size,[c.heap.objs.size],_,_,H1,rfl,d.kept (t':=c.toks) λb o e=>ef _ e,Gw z t _,⟨zero_le _,_,h9 _ rfl,rfl,rfl⟩,λb hb=>?_,q⟩;have e:b=c.heap.objs.size:=by simpa using hb
 subst e;exact d.yr (ey _)<|d.bf.fresh<|ey _
def Gx(he:QE X e te)(hK:X.K=K):QI X tg e (Pg te):=⟨KI he.h⟩
def Gy{σ:St}{R:It->r_}:Pg te σ H R=te σ H λx H1=>∃z,x=.str z/\R (Qr z) H1:=rfl
def Gz{H1:Hp}:vX (Qr z) H1 z.cps.size λi=>.str ⟨#[(z.cps[i]?).getD 0]⟩ where
 go:=λi H _ hi=>hi
 stop:=λi H _ hi=>hi
 Aw:=λi H x a _ _ y=>by
  obtain⟨rfl,c,e,rfl⟩:=y;exact⟨rfl,by rw[e];rfl⟩
def Ph:V->u_->Hp->VK->Prop:=λx a H Q=>∃z y,x=.str z/\a=[.str y]/\y.length≠0/\z.length+2<=sizeLine/\(Txt.split z y).length<=sizeLine/\∀l,H l=none->Q (.ref l) (upd H l<|.lst<|(Txt.split z y).map V.str)
theorem sI:∀(k:Nat) (l:f_),Vals (l.map V.str)<|strsFrom k l
 |_,[]=>.nil
 |k,x::r=>.cons ⟨_,rfl⟩<|sI _ r
def cK:yo X "str.split" Ph:=by
 intro a s σ H x r v p Q I n m h;obtain⟨z,y,rfl,rfl,hy,A,l,q⟩:=h;obtain⟨t,rfl⟩:=n;obtain⟨u,rfl,t',rfl⟩:=vals1 m;have d:(y.length==0)=false:=by simpa using hy
 have one:Txt.split z y=[z]->EP X a σ Q (.ref s.heap.objs.size) {s with heap:=s.heap.push {cls:=.type "list",data:=.seq #[.str z t]}}:=λe=>by
  rw[e]at q;exact⟨.ref _,_,I.laid (t':=s.toks) (λb o i=>ef _ i) (ey _) (show bB X.prog X.w _ _ _ (.lst [V.str z])from⟨by show 1<=sizeLine;decide,[.str z t],0,.cons (show RelV (.str z) _ from⟨t,rfl⟩) .nil,h9 _ rfl⟩),rfl,q _<|I.bf.fresh<|ey _⟩
 by_cases c:(decide (z.length<y.length)||decide (Builtin.Str.strKind z<Builtin.Str.strKind y))=true
 ·refine KM KB (typeIs_str s z t) F.entry_str_split (F.args_str_split_2 _ _) (meets_str_split_cannot_occur z y t t' c) ?_;exact one (by unfold Txt.split;rw[if_pos c])
 ·have f:(decide (z.length<y.length)||decide (Builtin.Str.strKind z<Builtin.Str.strKind y))=false:=by simpa using c
  by_cases g:(Builtin.Str.occurrences z y 0 z.length<|z.length+1).isEmpty=true
  ·refine KM KB (typeIs_str s z t) F.entry_str_split (F.args_str_split_2 _ _) (meets_str_split_not_found z y t t' f d g) ?_;exact one (by unfold Txt.split;rw[if_neg c,if_pos g])
  ·have j:(Builtin.Str.occurrences z y 0 z.length<|z.length+1).isEmpty=false:=by simpa using g
   have e:Txt.split z y=Builtin.Str.partsBetween z (Builtin.Str.occurrences z y 0 z.length<|z.length+1) y.length:=by unfold Txt.split;rw[if_neg c,if_neg g]
   refine KM KB (typeIs_str s z t) F.entry_str_split (F.args_str_split_2 _ _) (meets_str_split_sep z y t t' f d j (by omega) (by rw[<-e];exact l)) ?_
   rw[<-e];exact⟨.ref _,_,I.laid (λb o i=>ef _ i) (ey _) (show bB X.prog X.w _ _ _ (.lst _)from⟨by rw[b5];exact l,_,0,sI _ _,h9 _ rfl⟩),rfl,q _<|I.bf.fresh<|ey _⟩
def rJoin(K:Frag):V->u_->Hp->VK->Prop:=λx a H Q=>∃y p l,x=.str y/\a=[.ref p]/\ay K H p (l.map V.str)/\(l.map λz=>z.length+y.length).sum<=sizeLine/\(y.join l).length<=sizeLine/\Q (.str<|y.join l) H
theorem ma:∀ {l:f_} {us:f'},Vals (l.map V.str) us->∃m:List (Str × Tok),us=strValues m/\m.map (·.1)=l
 | [],_,.nil=>⟨[],rfl,rfl⟩
 |x::r,_,.cons ⟨t,rfl⟩ h=>by
  obtain⟨m,rfl,e⟩:=ma h;exact⟨(x,t)::m,rfl,by rw[qb,e]⟩
theorem sL(k:Nat):∀(l:f_) (a:Nat),l.foldl (λx1 x2=>x1+x2.length+k) a=a+(l.map λz=>z.length+k).sum
 | [],a=>by simp
 |x::r,a=>by rw[foldl_cons,sL k r,qb,Vs];omega
def bC(hK:X.K=K):yo X "str.join" (rJoin K):=by
 subst hK;intro e s σ H x B v A Q I j i h;obtain⟨y,p,l,rfl,rfl,g,C,hj,q⟩:=h;obtain⟨t,rfl⟩:=j;obtain⟨u,rfl,o⟩:=vals1 i
 cases o
 obtain⟨n,r,w,f⟩:=I.list g;obtain⟨m,rfl,d⟩:=ma r;refine KM Do (typeIs_str s y t) F.entry_str_join (F.args_str_join_2 _ _) (meets_str_join_list y t p m ?_) ⟨w.isList,?_⟩
 ·rw[d,<-Array.foldl_toList,sL,Nat.zero_add,show l.toArray.toList=l from rfl]
  unfold Builtin.Str.tooLong;exact cv (by omega)
 ·refine sG I (z:=y.join l) ?_ hj q;unfold joinMade
  match m,d with
  | [],d=>exact .inr (by
    show Made.str (Builtin.Str.glued y [])=_;rw[StrLaws.glued_eq_join,<-d];rfl)
  | [a],d=>exact .inl ⟨a.2,by rw[<-d];rfl⟩
  |a::b::c,d=>exact .inr (by
    show Made.str (Builtin.Str.glued y ((a::b::c).map (·.1)))=_;rw[StrLaws.glued_eq_join,<-d])
def R6:u_->Hp->VK->Prop:=λa H Q=>∃x n,a=[.str x]/\intText? x=some n/\x.length<=640/\Q (.int n) H
def eZ:bJ X (.type "int") R6:=by
 intro a s σ H c d Q I r h;obtain⟨x,n,rfl,hx,b,q⟩:=h;obtain⟨u,rfl,t,rfl⟩:=vals1 r;exact PySem.W.KIN.call_text hx b ⟨.int n,H,I.tok _,⟨_,rfl⟩,q⟩
noncomputable def qJ(val:Nat->Str):Nat->Nat->(Str->Bool)->Nat->(Str->Bool) × Nat
 |0,_,F,m=>(F,m)
 |k+1,i,F,m=>qJ val k (i+1) (λx=>F x||decide (x=val i))<|if F (val i)=true then m else m+1
variable{R:Result->Shared->Prop}{I:Addr}{fp wr:l_}{G:Array GenState->Array GenState->Prop}{n:Nat}{P:Nat->Value->Prop}{St:Nat->Shared->Prop}
def uk(Wk:WalksS prog w A.in1 I fp wr G n P St)(S:Addr)(hS:S∉fp)(val:Nat->Str)(hv:∀i v,P i v->∃t,v=.str (val i) t)(hn:n+1<scanBound):
  ∀(k i:Nat) (s:Shared) (Fm:Str->Bool) (m:Nat),n-i=k->i<=n->m<=i->St i s->s.heap.SetOf (PySem.strKind prog w) S Fm m->
   (∀s',Moved (S::wr) G s s'->s'.heap.SetOf (PySem.strKind prog w) S (qJ val k i Fm m).1 (qJ val k i Fm m).2->R (.ok<|.ret .none) s')->
   codeAny (model prog w) A (.builtin "set.update.loop" ⟨[.ref S,.ref I],[]⟩) R s:=by
 intro k
 induction k with
 |zero=>
  intro i s Fm m hk hi hm g D h;have e:i=n:=by omega
  subst e;refine codeAny_builtin F.entry_set_update_loop ?_;rw[Around.under_plainId F.plain_set_update_loop _];show wpAny _ A.in1 (pyNext (.ref I) >>= _) _ _ s;refine dy<|Wk.done s _ _ g λs' K=>?_;refine fO ?_;refine h s' (K.mono λb hb=>fN _ hb) ?_;obtain⟨o,B,j,t,E,r⟩:=D;exact⟨o,B,j,t,K.heap S o (λz=>hS<|Wk.sub S z) E,r⟩
 |succ k L=>
  intro i s Fm m hk hi hm g D h;refine codeAny_builtin F.entry_set_update_loop ?_;rw[Around.under_plainId F.plain_set_update_loop _];show wpAny _ A.in1 (pyNext (.ref I) >>= _) _ _ s;refine dy (Wk.item i s _ _ (by omega) g λv a M q d=>?_)
  obtain⟨t,rfl⟩:=hv i v M;have y:a.heap.SetOf (PySem.strKind prog w) S Fm m:=by
   obtain⟨o,B,j,t,E,r⟩:=D;exact⟨o,B,j,t,d.heap S o (λz=>hS<|Wk.sub S z) E,r⟩
  have c:(PySem.strKind prog w).is (val i) (.str (val i) t)=true:=by
   show Value.isStrOf (val i) (.str (val i) t)=true
   simp[Value.isStrOf]
  show wpAny _ A.in1 (holding [.str (val i) t] (setAdd S<|.str (val i) t) >>= _) _ _ a;refine dy ?_;show wpAny _ A.in1 (setAdd S<|.str (val i) t) _ _ a;unfold setAdd;show wpAny _ A.in1 (pyHash (.str (val i) t) >>= λx=>setAddHashed S (.str (val i) t) x) _ _ a;refine dy<|(PySem.strKind prog w).pyHash c ?_;refine wpAny_setAddHashed_of (knd:=PySem.strKind prog w) (s:={a with toks:=a.toks+1}) c rfl y (by omega) λJ H C=>?_
  refine fO ⟨plainId_quiet F.plain_set_update_loop _,?_⟩;have u:Moved (S::wr) G a {a with heap:=J,toks:=a.toks+1}:=⟨λb o hb e=>(H.2 b (λz=>hb (by rw[z];exact gc))).trans e,Wk.grefl _,rfl,rfl,le_succ _⟩
  have f:=Wk.frame (i+1) a J (a.toks+1) q (le_succ _) λb hb o e=>(H.2 b (λz=>hS (by rw[<-z];exact hb))).trans e
  refine L (i+1) _ _ _ (by omega) (by omega) (by split<;>omega) f C λs' l p=>?_
  exact h s' (Moved.trans Wk.gtrans (Moved.trans Wk.gtrans (d.mono λb hb=>fN _ hb) u) l) p
def qK(val:Nat->Str)(hA:A.handled=none)(hp:s.heap.IsList p vs)(vl:∀(i:Nat) (v:Value),vs[i]?=some v->∃t,v=.str (val i) t)(hb:vs.size+1<scanBound)
  (h:∀(h1:Heap) (k:Nat),h1.SetOf (PySem.strKind prog w) s.heap.objs.size (qJ val vs.size 0 (λ_=>false) 0).1 (qJ val vs.size 0 (λ_=>false) 0).2->(∀b o,b<s.heap.objs.size->s.heap.get? b=some o->h1.get? b=some o)->Q (.ref s.heap.objs.size) {s with heap:=h1,toks:=k}):
  wpAny (model prog w) A (call (.type "set") [.ref p]) Q E s:=by
 refine jJ (P:=λh1=>h1.SetOf (PySem.strKind prog w) s.heap.objs.size (qJ val vs.size 0 (λ_=>false) 0).1 (qJ val vs.size 0 (λ_=>false) 0).2/\∀b o,b<s.heap.objs.size->s.heap.get? b=some o->h1.get? b=some o) (λh1 k z=>h h1 k z.1 z.2) λa=>?_;have n:(s.heap.push<|fY a).get? s.heap.objs.size=some (fY a):=h9 _ rfl;have T:Shared.TypeIs {s with heap:=s.heap.push (fY a)} (.ref s.heap.objs.size) "set":=⟨_,n,rfl⟩;obtain⟨L,l,u,G,q⟩:=hp;obtain⟨u1,M,U,S⟩:=L
 simp only at u q
 subst u;subst q;have B:=ef (fY a) l;have R:=F.sub_list_set;have N:=F.sub_list_frozenset;have O:(Value.type "list" == Value.type "dict")=false:=by decide
 have r:(s.heap.push<|fY a).IsList p vs:=⟨_,B,rfl,G,rfl⟩;unfold Builtin.«set.__init__» noKeywords Builtin.Frozenset.updateFrom;generalize c:pyIter=PI
 wp_walk
 subst c;refine Os r<|dy<|wpAny_runValue ?_;have m:p<s.heap.objs.size:=lt_size l;have D:A.in1.in1.in1.handled=none:=by simp[hA]
 have f:(s.heap.push<|fY a).objs.size=s.heap.objs.size+1:=C6 ..;have H:p≠(s.heap.push<|fY a).objs.size:=by rw[f];exact ot<|Vw m
 have J:s.heap.objs.size∉[(s.heap.push<|fY a).objs.size,p]:=by
  rw[f];simp only[mem_cons,not_mem_nil,or_false,not_or];exact⟨ot<|VM _,VF m⟩
 refine uk ((Walks.list D _ p H vs).toS) s.heap.objs.size J val vl hb (vs.size-0) 0 _ (λ_=>false) 0 (by omega) (zero_le _) (ey _) ⟨⟨_,h9 _ rfl,rfl,rfl⟩,(r.push _)⟩ ?x ?y
 case x=>
  exact SetOf_congr ((setObjOf_fresh (knd:=PySem.strKind prog w) a).setOf (ef _ n) (by unfold scanBound;omega)) (λ_=>rfl) rfl
 case y=>
  intro K hm g;obtain⟨h1,I,C,d,j⟩:=K;obtain rfl:I=s.gens:=hm.gens;obtain rfl:C=s.drawn:=hm.drawn;obtain rfl:j=s.os:=hm.os;show wpAny _ _ _ _ _ _;refine fO<|show wpAny _ _ (ret Value.none) _ _ _ from fO ⟨rfl,h1,d,rfl,g,λb o hb e=>?_⟩
  refine hm.heap b o ?_ (ef _<|ef _ e);rw[f];simp only[mem_cons,not_mem_nil,or_false,not_or];exact⟨ot hb,ot<|Vw hb⟩
noncomputable def wF(P:Program)(w:World)(a:Addr)(n:Nat):HO:=.ext λh=>∃Fm,h.SetOf (PySem.strKind P w) a Fm n
noncomputable def um(l:f_):Nat:=(qJ (λi=>l.getD i ⟨#[]⟩) l.length 0 (λ_=>false) 0).2
def CV(l:f_):∀(k i:Nat) (Fm:Str->Bool) (m:Nat),l.length-i=k->i<=l.length->(∀x,Fm x=true↔x∈l.take i)->m<=i->(m=i↔(l.take i).Nodup)->(qJ (λi=>l.getD i ⟨#[]⟩) k i Fm m).2<=l.length/\((qJ (λi=>l.getD i ⟨#[]⟩) k i Fm m).2=l.length↔l.Nodup):=by
 intro k
 induction k with
 |zero=>
  intro i Fm m hk hi f hm hn;have e:i=l.length:=by omega
  subst e;rw[L1]at hn;exact⟨hm,hn⟩
 |succ k j=>
  intro i Fm m hk hi f hm hn;have d:i<l.length:=by omega
  have g:l.take (i+1)=l.take i++[l.getD i ⟨#[]⟩]:=by rw[take_succ,cc d,b4,cc d];rfl
  refine j (i+1) _ _ (by omega) (by omega) (λx=>?_) ?_ ?_
  ·rw[g,ih,ek,P3,f x,ka]
  ·split<;>omega
  ·rw[g,VH]
   by_cases c:Fm (l.getD i ⟨#[]⟩)=true
   ·rw[if_pos c]
    constructor
    ·intro e;omega
    ·intro h;exact absurd rfl<|h.2.2 _ ((f _).mp c) _<|ek.mpr rfl
   ·rw[if_neg c]
    constructor
    ·intro e;refine⟨hn.mp (by omega),by simp,λa n b hb=>?_⟩
     rw[ek.mp hb];intro z;exact c ((f _).mpr (by rw[<-z];exact n))
    ·intro h
     have:=hn.mpr h.1
     omega
def KJ(l:f_):um l<=l.length/\(um l=l.length↔l.Nodup):=
 CV l l.length 0 (λ_=>false) 0 (by omega) (zero_le _) (λx=>by simp) (ey _) (by simp)
def KL(K:Frag):u_->Hp->VK->Prop:=λb H Q=>∃p l,b=[.ref p]/\ay K H p (l.map V.str)/\l.length<1000/\∀(P:Program) (w:World) a,H a=none->Q (.ref a) (upd H a<|wF P w a<|um l)
def uo(hc:X.calm=true)(hK:X.K=K):bJ X (.type "set") (KL K):=by
 subst hK;intro x s σ H O N Q I r h;obtain⟨p,l,rfl,hq,L,q⟩:=h;obtain⟨u,rfl,E⟩:=vals1 r
 cases E
 obtain⟨G,C,J,P⟩:=I.list hq;obtain⟨m,rfl,n⟩:=ma C;have g:m.length=l.length:=by rw[<-n,b5]
 have d:(strValues m).toArray.size=l.length:=by rw[gd];unfold strValues;rw[b5,g]
 have z:(1001:Nat)<scanBound:=by decide
 refine qK (vs:=(strValues m).toArray) (λi=>l.getD i ⟨#[]⟩) (I.ok.hd hc) J.isList (λi v c=>?_) (by rw[d];omega) λh1 k f B=>?_
 ·rw[List.getElem?_toArray]at c;unfold strValues at c;rw[eG]at c
  cases e:m[i]? with
  |none=>rw[e]at c;cases c
  |some a=>
   rw[e]at c
   cases c
   refine⟨a.2,?_⟩;rw[<-n,b4,eG,e];rfl
 ·rw[d]at f;refine⟨.ref _,_,I.laid (λb o e=>B b o (lt_size e) e) (ey _)<|show bB X.prog X.w _ h1 _ (wF X.prog X.w _<|um l)from⟨⟨_,f⟩,?_,λh1 M ⟨D,F⟩ k=>?_⟩,rfl,q X.prog X.w _ I.fresh⟩
  ·obtain⟨o,A,y,t,j,_⟩:=f;exact⟨o,j⟩
  ·obtain⟨o,A,y,t,j,r⟩:=F;exact⟨D,o,A,y,t,k o j,r⟩
def Pj:u_->Hp->VK->Prop:=λa H Q=>∃p n P w,a=[.ref p]/\H p=some (wF P w p n)/\Q (.int n) H
def zp:bJ X (.builtin "len") Pj:=by
 intro a s σ H j l Q I r h;obtain⟨p,n,P,w,rfl,d,q⟩:=h;obtain⟨u,rfl,g⟩:=vals1 r
 cases g
 obtain⟨⟨x,o,v,m,t,i,f,e,_,_,hb,c,hn⟩,_,_⟩:=I.bf p _ d;have b:scanBound<2 ^ 62:=by decide
 refine PySem.call_len_set i f e c (by omega) ⟨.int n,H,I.tok _,⟨_,by rw[hn]⟩,q⟩
variable{N W G:f_}
def R7(S:Sc X N W G)(g:Nat)(h:∃t,X.mg x=some (.str z t))(hg:G[g]?=some x:=by rfl):QE X (.Name x pos) (tC<|.str z):=by
 obtain⟨t,h⟩:=h;have q:=S.gl _<|fA hg;exact⟨nU q.1 h ⟨t,rfl⟩ q.2.1⟩
def Pk(S:Sc X N W G)(g:Nat){z:Int}(h:∃t,X.mg x=some (.int z t))(hg:G[g]?=some x:=by rfl):QE X (.Name x pos) (tC<|.int z):=by
 obtain⟨t,h⟩:=h;have q:=S.gl _<|fA hg;exact⟨nU q.1 h ⟨t,rfl⟩ q.2.1⟩
structure R8(K:Frag)(x qual:Str)(st:Stmt)(f:Addr)(fd:FuncData)(d:f'):Prop where
 ex:∃(oc:Value) (od:h_) (T:Addr) (kV doc pm:Value) (an:h_) (cy ct:Value) (osl:Array (g_)) (o:Obj) (n:Nat),
  fd=fnOf x qual (bw st) (aS st) (aj st) (.ref T) kV doc pm an cy ct/\K.lookup f=some ⟨oc,od,.func fd,osl⟩/\codeIn K cy qual=true/\K.lookup T=some o/\o.data=.seq d.toArray n
 kp:keepIn K (.ref f)=true
structure GA(K:Frag)(mg:b_)(x:Str)(st:Stmt)(i:Int):Prop where
 ex:∃f fd t,R8 K x x st f fd [.int i t]/\mg x=some (.ref f)
variable{i:Int}{st:Stmt}{f T:Addr}
def KN{mg:b_}{o:Obj}{m:Nat}{oc:Value}{od an:h_}{osl:Array (g_)}{kV doc pm cy ct:Value}(X:K.In h)(G:h.Ns mainGlobals mg)
  (a:nsIn K mainGlobals x=some (some<|.ref f)) (l:K.lookup f=some ⟨oc,od,.func<|fnOf x x (bw st) (aS st) (aj st) (.ref T) kV doc pm an cy ct,osl⟩)
  (c:codeIn K cy x=true) (k:keepIn K (.ref f)=true) (lt:K.lookup T=some o) (ld:o.data=.seq #[.int i t] m):GA K mg x st i:=
 ⟨f,_,t,⟨⟨oc,od,T,kV,doc,pm,an,cy,ct,osl,o,m,rfl,l,c,lt,ld⟩,k⟩,mg_of X G a⟩
noncomputable def TM{α:Type}:List α->List α->List α
 | [a],[b]=>[a,b]
 |_,_=>[]
variable{us:f'}{zs:u_}
def GB{vs:u_}{ws:f'}(h:Vals vs us)(k:Vals zs ws):Vals (TM vs zs) (TM us ws):=by
 cases h with
 |nil=>exact .nil
 |cons a t=>
  cases t with
  |cons _ _=>exact .nil
  |nil=>
   cases k with
   |nil=>exact .nil
   |cons b s=>
    cases s with
    |nil=>exact .cons a<|.cons b .nil
    |cons _ _=>exact .nil
structure TN(P:Program)(w:World)(K:Frag)(mg:b_)(base:Heap)(k:Nat)(x p1 p2:Str)(i:Int)(sp:Sp):Prop where
 ex:∃f fd t,eh P w K mg base Cy k f fd [p1,p2] sp/\mg x=some (.ref f)/\keepIn K (.ref f)=true/\Binds K fd [p1,p2] []/\Binds K fd [p1,p2] [.int i t]/\Om K fd [p1,p2] [p2] TM TM
variable{k:Nat}
def MR(x:Str)(st:Stmt)(p1 p2:Str):Prop:=∀(T:Addr) (kV doc pm:Value) (an:h_) (cy ct u v:Value),
 (∃k,bindArgs (fnOf x x (bw st) (aS st) (aj st) (.ref T) kV doc pm an cy ct) ⟨[u],[]⟩=(seqItems? (.ref T) >>= k)/\∀d,k (some #[d])=pure [(p1,u),(p2,d)])/\
 (∃k,bindArgs (fnOf x x (bw st) (aS st) (aj st) (.ref T) kV doc pm an cy ct) ⟨[u,v],[]⟩=(seqItems? (.ref T) >>= k)/\∀d,k (some #[d])=pure [(p1,u),(p2,v)])/\
 (∃k,bindArgs (fnOf x x (bw st) (aS st) (aj st) (.ref T) kV doc pm an cy ct) ⟨[u],[(p2,v)]⟩=(seqItems? (.ref T) >>= k)/\∀d,k (some #[d])=pure [(p1,u),(p2,v)])
variable{P:Program}{mg:b_}{base:Heap}{p1 p2:Str}{sp:Sp}
def GA.gq(D:GA K mg x st i)(S:DS (aj st) N [p1,p2] G)(hb:MR x st p1 p2)
  (len:∀vs H Q E,sp vs H Q E->vs.length=2)
  (cX:∀(X:Cx),Sc X N N G->X.prog=P->X.w=w->X.K=K->X.mg=mg->X.base=base->X.calm=true->X.env.scope=aj st->X.xe=(λ_ _=>False)->ck k X.A->X.A.units+64<cLine->
   ∀(H:Hp) (vs:u_) (Q:VK) (E:XK),sp vs H Q E->∃t,vY X (aS st) t/\t {nx:=λ_ H'=>Q .bA H',rt:=Q} (L2.start N vs) H):TN P w K mg base (k+1) x p1 p2 i sp:=by
 obtain⟨f,U,t,F,hm⟩:=D.ex;obtain⟨R,O,T,kV,e,B,z,p,ct,L,o,n,rfl,M,m,lt,C⟩:=F.ex;refine⟨f,_,t,vO M m S.fs len λA y s H vs Q E J r=>?_,hm,F.kp,λs d l c=>?_,λs d l c=>?_,λs d I l c=>?_,λa b=>GB a b⟩
 ·obtain⟨t,h,q⟩:=cX _ S.cx rfl rfl rfl rfl rfl rfl rfl rfl J J.units H vs Q E r;exact⟨t,h.h.Mc,q⟩
 ·rw[Vj]at c ⊢
  match d,c with
  | [u,v],_=>
   obtain⟨k,g,j⟩:=(hb T kV e B z p ct u v).2.1;exact binds_K l rfl lt C g<|j _
 ·obtain⟨u,rfl⟩:∃u,d=[u]:=by
   rw[eR]at c
   have:d.length=1:=by simpa using c
   exact S4.mp this
  obtain⟨k,g,j⟩:=(hb T kV e B z p ct u u).1;exact binds_K l rfl lt C g<|j _
 ·obtain⟨u,v,rfl,rfl⟩:∃u v,d=[u]/\I=[v]:=by
   match d,I,c with
   | [u],[v],_=>exact⟨u,v,rfl,rfl⟩
  obtain⟨k,g,j⟩:=(hb T kV e B z p ct u v).2.2;exact binds_K l rfl lt C g<|j _
variable{m:Nat}{p:Pos}{e2:Expr}{t:TA}
def Ur(S:Sc X N W G)(g:Nat)(F:TN X.prog X.w X.K X.mg X.base k x p1 p2 i sp)(hr:ck m X.A)(ha:QB X [e,e2] t)(hk:k<=m:=by decide)(hg:G[g]?=some x:=by rfl):QE X (.Call (.Name x p) [e,e2] [] pos) (oM sp [] E0 t):=by
 obtain⟨f,b,c,F,hm,a,hb,_⟩:=F.ex;have q:=S.gl _<|fA hg;exact⟨tH F (hr.mono hk) q.1 hm a hb .nil Me ha.h.pa q.2.1 (bb ha.h.he)<|cA ha.h.Be⟩
abbrev cz(x:Str):List Nat:=x.cps.toList
variable{b:Str}
def oh{a:Str}(h:cz a=cz b):a=b:=by
 obtain⟨a⟩:=a;obtain⟨b⟩:=b
 congr 1
 exact Array.toList_inj.mp h
def c5(a b:Str):cz (a++b)=cz a++cz b:=by show(a.cps++b.cps).toList=_;rw[Array.toList_append]
def aB(a:Str):a.length=(cz a).length:=by show a.cps.size=_;rw[SZ]
def GC(c:Nat):cz ⟨#[c]⟩=[c]:=rfl
def bX(s x y:Str)(r:f_):cz (s.join (x::y::r))=cz x++cz s++cz (s.join (y::r)):=by
 show cz (x++s++s.join (y::r))=_;rw[c5,c5]
theorem GH{c:Nat}:∀ {p p' q q':d_},c∉p->c∉p'->p++c::q=p'++c::q'->p=p'/\q=q'
 | [],[],_,_,_,_,e=>⟨rfl,(UF e).2⟩
 | [],a::p',_,_,_,d,e=>absurd (gz.mpr<|.inl (UF e).1) d
 |a::p,[],_,_,h,_,e=>absurd (gz.mpr<|.inl (UF e).1.symm) h
 |a::p,b::p',_,_,h,d,e=>by
  obtain⟨j,g⟩:=UF e;obtain⟨f,i⟩:=GH (λz=>h<|fN _ z) (λz=>d<|fN _ z) g;exact⟨by rw[j,f],i⟩
theorem wG(c:Nat):∀ {a b:f_},a≠[]->b≠[]->(∀x∈a,c∉cz x)->(∀x∈b,c∉cz x)->cz (Str.join ⟨#[c]⟩ a)=cz (Str.join ⟨#[c]⟩ b)->a=b
 | [],_,h,_,_,_,_=>absurd rfl h
 |_::_,[],_,h,_,_,_=>absurd rfl h
 | [x],[y],_,_,_,_,e=>by rw[oh (show cz x=cz y from e)]
 | [x],y::z::r,_,_,d,_,e=>by
  rw[bX]at e;have e:cz x=cz y++[c]++_:=e;refine absurd ?_ (d x gc);rw[e];simp
 |x::y::r,[z],_,_,_,hb,e=>by
  rw[bX]at e;have e:cz x++[c]++_=cz z:=e;refine absurd ?_ (hb z gc);rw[<-e];simp
 |x::y::r,i::j::l,_,_,d,hb,e=>by
  rw[bX,bX,GC,A4,A4]at e;obtain⟨g,f⟩:=GH (d x gc) (hb i gc) e;rw[oh g,wG c (by simp) (by simp) (λx hx=>d x<|fN _ hx) (λx hx=>hb x<|fN _ hx) f]
def lg(x:Str)(c:Nat):Txt.split x ⟨#[c]⟩≠[]:=by
 unfold Txt.split
 split
 ·simp
 split
 ·simp
 ·unfold Builtin.Str.partsBetween
  cases Builtin.Str.occurrences x ⟨#[c]⟩ 0 x.length (x.length+1)<;>simp
variable{a:f_}
def fD(c:Nat)(h:a≠[])(hf:∀x∈a,c∉cz x):Txt.split (Str.join ⟨#[c]⟩ a) ⟨#[c]⟩=a:=
 wG c (lg _ c) h (λp b=>StrLaws.split_free _ c p b) hf (by rw[StrLaws.join_split])
def iS:Str:="abcdefghijklmnopqrstuvwxyz"
def zq:Str:="0123456789"
noncomputable def GJ(c:Nat):Bool:=decide<|c∈cz iS
noncomputable def KO(c:Nat):Bool:=decide<|c∈cz zq
noncomputable def bq(x:Str):Bool:=decide (1<=x.length/\x.length<=12)&&(cz x).all GJ
noncomputable def cR(x:Str):Bool:=decide (1<=x.length/\x.length<=30)&&(decide ((cz x).getD 0 0≠48)&&(cz x).all KO)
noncomputable def wH(l:f_):Bool:=decide (l.length=3)&&(decide (l.getD 0 ⟨#[]⟩="hat")&&(bq (l.getD 1 ⟨#[]⟩)&&cR (l.getD 2 ⟨#[]⟩)))
noncomputable def sM(l:f_):Bool:=decide (3<=l.length)&&(decide (l.getD 0 ⟨#[]⟩="sees")&&(l.drop 1).all bq)
variable{c:Nat}
def BB(h:GJ c=true):c≠32/\c≠10:=by
 have a:=qN h
 have:∀c∈cz iS,c≠32/\c≠10:=by decide +kernel
 exact this c a
def lh:KO c=true↔48<=c/\c<=57:=by
 unfold KO;rw[decide_eq_true_iff,show cz zq=List.range' 48 10 by decide +kernel,List.mem_range'_1]
 omega
def fE(h:bq x=true):32∉cz x/\10∉cz x:=by
 unfold bq at h;rw[fz,j9]at h;exact⟨λz=>(BB<|h.2 _ z).1 rfl,λz=>(BB<|h.2 _ z).2 rfl⟩
def iT(h:cR x=true):32∉cz x/\10∉cz x:=by
 unfold cR at h;rw[fz,fz,j9]at h;exact⟨λz=>by have:=lh.mp<|h.2.2 _ z;omega,λz=>by have:=lh.mp<|h.2.2 _ z;omega⟩
def pB(n:Nat):cz (Str.ofString<|toString ((n:Nat):Int))=(toDigits 10 n).map Char.toNat:=by
 show(Str.ofString<|toString<|Int.ofNat n).cps.toList=_;rw[text_ofNat n]
def wI:∀(n:Nat),0<n->∃c r,toDigits 10 n=c::r/\c≠'0':=by
 intro n
 induction n using Nat.strongRecOn with
 |_ n a=>
  intro h;rw[Nat.toDigits_eq_if a_]
  by_cases c:n<10
  ·rw[if_pos c];refine⟨_,_,rfl,?_⟩
   have:∀n,n<10->0<n->digitChar n≠'0':=by decide
   exact this n c h
  ·rw[if_neg c];obtain⟨d,r,e,b⟩:=a (n / 10) (by omega) (by omega)
   exact⟨d,r++[digitChar (n%10)],by rw[e];rfl,b⟩
def di(h0:0<n)(h30:n<10 ^ 30):cR (Str.ofString<|toString ((n:Nat):Int))=true/\intText? (Str.ofString<|toString ((n:Nat):Int))=some (n:Int):=by
 have e:=pB n;have a:∀c∈(toDigits 10 n).map Char.toNat,48<=c/\c<=57:=λc hc=>by
  obtain⟨d,a,rfl⟩:=kc.mp hc
  have:=Nat.isDigit_of_mem_toDigits a_ a_ a
  simp only[Char.isDigit,Bool.and_eq_true,decide_eq_true_eq]at this;exact this
 have h:(toDigits 10 n).length<=30:=(Nat.length_toDigits_le_iff a_ a_).mpr h30
 have g:0<(toDigits 10 n).length:=Nat.length_toDigits_pos;obtain⟨c,r,f,hc⟩:=wI n h0
 constructor
 ·unfold cR;rw[aB,e,b5,ed<|show 1<=(toDigits 10 n).length/\(toDigits 10 n).length<=30 from⟨g,h⟩,oo,fz]
  refine⟨ed ?_,j9.mpr λc hc=>lh.mpr<|a c hc⟩;rw[f];show c.toNat≠48;intro z;exact hc<|Char.toNat_inj.mp z
 ·have b:(Str.ofString<|toString ((n:Nat):Int)).cps.toList=(toDigits 10 n).map Char.toNat:=e;rw[intText_digits (by rw[b];exact a) (by rw[b,f];simp) (by rw[aB,e,b5];omega),b,PySem.W.KIN.val_back]
def aW:(" ":Str)=⟨#[32]⟩:=by decide +kernel
theorem md(c:Nat):∀ {l:f_} {x:Str},x∈l->x.length<=(Str.join ⟨#[c]⟩ l).length
 | [y],x,h=>by rw[ek.mp h];exact ey _
 |y::z::r,x,h=>by
  have e:(Str.join ⟨#[c]⟩ (y::z::r)).length=y.length+1+(Str.join ⟨#[c]⟩ (z::r)).length:=by
   rw[aB,bX,eR,eR,<-aB,<-aB];rfl
  rcases gz.mp h with rfl|h
  ·omega
  ·have:=md c h
   omega
def ke(h:x∈Txt.split z ⟨#[32]⟩):x.length<=z.length:=by
 have:=md 32 h
 rw[StrLaws.join_split]at this;exact this
abbrev aX:Str:=⟨#[]⟩
def lj:Sp:=λa H Q _=>∃z:Str,a=[.str z]/\z.length<=1000000/\∀H',ag H H'->Q (.bl<|bq z) H'
def me:Sp:=λa H Q _=>∃z:Str,a=[.str z]/\z.length<=1000000/\∀H',ag H H'->Q (.bl<|cR z) H'
structure Ws(K:Frag)(H:Hp)(p:Addr)(l:f_):Prop where
 sq:ay K H p (l.map V.str)
 eD:l.length<=900
 short:∀x∈l,x.length<=1000000
def BC(K:Frag):Sp:=λa H Q _=>∃(p:Addr) (l:f_),a=[.ref p]/\Ws K H p l/\∀H',ag H H'->Q (.bl<|wH l) H'
def wJ(K:Frag):Sp:=λa H Q _=>∃(p:Addr) (l:f_),a=[.ref p]/\Ws K H p l/\∀H',ag H H'->Q (.bl<|sM l) H'
def zr(K:Frag):Sp:=λa H Q _=>∃(z:Str) (i:Int) (l:f_),a=[.str z,.int i]/\z.length<=1000000/\Txt.split z ⟨#[32]⟩=l/\l.length<=900/\
 ((wH l=true/\∃c:Int,intText? (l.getD 2 aX)=some c/\∀(t:Addr) (H':Hp),ag H H'->H' t=some (.tup [.str "hat",.str<|l.getD 1 aX,.int c])->Q (.ref t) H')∨
  (wH l=false/\sM l=true/\(l.drop 1).Nodup/\∀(t u:Addr) (H':Hp),ag H H'->H' t=some (.tup [.str "sees",.str<|l.getD 1 aX,.ref u])->H' u=some (.tup<|(l.drop 2).map V.str)->Q (.ref t) H'))
def ll(h:n<=1000000):n<=sizeLine:=hU h a_
variable{l:f_}
def aT{k:Nat}(h:k<l.length):(l.map V.str)[k]?=some (.str<|l.getD k aX):=by
 rw[eG,cc h,b4,cc h];rfl
def getD_memS{k:Nat}(h:k<l.length):l.getD k aX∈l:=by
 rw[b4,cc h];exact pS h
end L2
namespace L2
open PySem PySem.Spec PyProof.Rows
def CW(z:Str)(p:Nat->Bool):((List.range z.cps.size).map λi=>p<|(z.cps[i]?).getD 0).all id=(cz z).all p:=by
 rw[GM];have e:cz z=(List.range z.cps.size).map λi=>(z.cps[i]?).getD 0:=by
  apply F1
  intro i
  by_cases hi:i<z.cps.size
  ·rw[eG,r4 hi,getElem?_toList,Array.getElem?_eq_getElem hi];show some z.cps[i]=some ((z.cps[i]?).getD 0);rw[Array.getElem?_eq_getElem hi];rfl
  ·rw[ls (by rw[SZ];omega),ls (by rw[b5,j6];omega)]
 rw[e,GM]
 rfl
variable{Q:VK}{y:Str}
def wK{K:Frag}{z:Str}{H:Hp}(hz:z.length<=1000000)(q:∀H',ag H H'->Q (.bl<|(cz z).all λc=>decide<|c∈cz y) H'):
  vB (bF 0) iL (tG (λx y H Q=>∃i j,x=V.str i/\y=V.str j/\Q (V.bl !(Builtin.Str.occurrences j i 0 j.length 1).isEmpty) H) (tE 0)<|tC<|.str y) [none] (λx H1=>RP K [x] H1 Q) (Qr z) H:=by
 refine qF Gz (λ_=>true) (λi=>.bl<|decide<|(z.cps[i]?).getD 0∈cz y) (A6 hz a_) ?_ ?_
 ·intro i H1 A B hi f d _;simp only[jZ,FQ,oZ,OM,yR,Ua];refine⟨_,_,rfl,rfl,?_⟩;rw[StrLaws.found_one];exact d rfl _<|ag.refl _
 ·intro b H1 hn e a;rw[bE]at a;refine⟨b,(List.range z.cps.size).map λi=>decide<|(z.cps[i]?).getD 0∈cz y,rfl,ay.of (by rw[a,kb];rfl),?_⟩
  rw[CW z λc=>decide<|c∈cz y];exact q H1 e
def GK(k:Str)(ns:f_):Md (.str k) (ns.map V.str)=decide (k∈ns):=by
 induction ns with
 |nil=>simp[Md]
 |cons a r b=>
  unfold Md at b ⊢;rw[qb,any_cons,b]
  by_cases e:a=k
  ·subst e;simp[Ed]
  ·have:¬k=a:=λz=>e z.symm
   simp[Ed,e,this]
def mf{K:Frag}{neg:Bool}{H:Hp}{p:Addr}{k:Str}{a:f_}(h:ay K H p (a.map V.str)∨aP K H p (a.map V.str))(q:Q (.bl<|if neg then !decide (k∈a)else decide (k∈a)) H):Qo K neg (.str k) (.ref p) H Q:=by
 refine⟨p,_,rfl,h,rfl,?_,?_⟩
 ·rw[GM];exact j9.mpr λ_ _=>rfl
 ·rw[GK];exact q
def gK(x:Str):Prop:=∀c∈cz x,GJ c=true
def gK.append{a b:Str}(ha:gK a)(hb:gK b):gK (a++b):=λc hc=>by
 rw[c5]at hc
 rcases ih.mp hc with z|z
 ·exact ha c z
 ·exact hb c z
def av(a b:Str):(a++b).length=a.length+b.length:=by rw[aB,c5,eR,<-aB,<-aB]
def oi{x:Str}(h:gK x)(h1:1<=x.length)(h2:x.length<=12):bq x=true:=by
 unfold bq;rw[ed (show 1<=x.length/\x.length<=12 from⟨h1,h2⟩),oo]
 exact j9.mpr h
def cF{x:Str}(h:bq x=true):gK x/\1<=x.length/\x.length<=12:=by
 unfold bq at h;rw[fz,j9]at h;exact⟨h.2,(qN h.1).1,(qN h.1).2⟩
def lp{x:Str}{k:Nat}(h:k<=x.length):cz (StrLaws.sliceText x none<|some (k:Int))=(cz x).take k:=by
 have a:k<=x.cps.toList.length:=by rw[aB]at h;exact h
 rw[StrLaws.sliceText_to ⟨by omega,by omega⟩]
 show List.take ((k:Int)-0).toNat (List.drop 0 _)=_;rw[drop_zero,show((k:Int)-0).toNat=k by omega]
def kh{x:Str}{k:Nat}(h:k<=x.length):cz (StrLaws.sliceText x (some (k:Int)) none)=(cz x).drop k:=by
 have a:k<=x.cps.toList.length:=by rw[aB]at h;exact h
 rw[StrLaws.sliceText_from ⟨by omega,by omega⟩]
 show List.take _ (List.drop ((k:Int)).toNat _)=_;rw[ri,AC (by rw[q5];omega)]
def zt{x:Str}{k:Nat}(h0:1<=k)(h:k<=x.length):cz (StrLaws.sliceText x (some (-(k:Int))) none)=(cz x).drop ((cz x).length-k):=by
 have e:=aB x;rw[StrLaws.sliceText_from_neg (by omega) (by omega)]
 show List.take _ (List.drop (-(k:Int)+(x.length:Nat)).toNat _)=_;rw[show(-(k:Int)+(x.length:Nat)).toNat=(cz x).length-k by omega,AC (by rw[q5];show(cz x).length-_<=(((cz x).length:Int)-_).toNat;omega)]
def wL{x:Str}{k:Nat}(h:gK x)(e:cz y=(cz x).take k):gK y:=λc hc=>h c (mem_of_mem_take (by rw[<-e];exact hc))
def wM{x:Str}{k:Nat}(h:gK x)(e:cz y=(cz x).drop k):gK y:=λc hc=>h c (mem_of_mem_drop (by rw[<-e];exact hc))
def KP{c:Nat}{i:Nat}(h:(cz iS)[i]?=some c):gK ⟨#[c]⟩:=λd a=>by
 have e:d=c:=by simpa using a
 subst e;unfold GJ;exact ed<|fA h
def GN:(cz iS).length=26:=by decide +kernel
def zu{i:Int}(h0:0<=i)(h1:i<26):∃c,yH (cz iS) i=some c/\gK ⟨#[c]⟩:=by
 obtain⟨n,rfl⟩:=hO h0;have hn:n<(cz iS).length:=by rw[GN];omega
 refine⟨(cz iS).getD n 0,fB rfl 0 hn,KP (i:=n) ?_⟩;rw[b4,cc hn];rfl
def lq:Sp:=λa H Q _=>∃(cell:Int) (n:Nat),a=[.int cell,.int n]/\n<=100/\∀(l:Addr) (ns:e_) (H':Hp),ag H H'->H l=none->H' l=some (.lst<|ns.map V.int)->ns.length=n->(∀x∈ns,0<=x)->Q (.ref l) H'
def R9(H0:Hp)(n:Nat)(k:Nat)(σ:St)(H:Hp):Prop:=∃(num:Int) (z:Str) (y:v_),σ=[some (.int num),some<|.int n,some<|.str iS,some<|.str z,y]/\H=H0/\z.length=k/\gK z
structure IU(ns:f_)(n:Nat):Prop where
 eD:ns.length<=n
 nd:ns.Nodup
 nm:∀x∈ns,bq x=true
def BD:Sp:=λa H Q _=>∃(cell:Int) (n:Nat),a=[.int cell,.int n]/\1<=n/\n<=8/\∀(l:Addr) (ns:f_) (H':Hp),ag H H'->H l=none->H' l=some (.lst<|ns.map V.str)->ns≠[]->IU ns n->Q (.ref l) H'
noncomputable def ni:f_:=["hat","sees","put","guess","right","ring","order","book","sure","share","groups","circle","hats"]
def GP:∀x∈ni,bq x=true:=by decide +kernel
def Sa(H0:Hp)(cell:Int)(n:Nat)(sm dr:Addr)(base:Str)(a:Nat)(l:Addr)(dn:e_)(k:Nat)(σ:St)(H:Hp):Prop:=∃(ns:f_) (y1 y2 y3 y4:v_),σ=[some (.int cell),some<|.int n,some<|.str iS,some<|.ref sm,some<|.ref dr,some<|.str base,some<|.int a,some<|.ref l,y1,y2,y3,y4]/\ag H0 H/\H l=some (.lst<|ns.map V.str)/\H sm=some (.lst<|ni.map V.str)/\H dr=some (.lst<|dn.map V.int)/\IU ns k/\(1<=k->ns≠[])
def wN:Sp:=λa H Q _=>∃(cell:Int) (k:Int),a=[.int cell,.int k]/\∀(c:Nat) (H':Hp),0<c->c<10 ^ 30->ag H H'->Q (.int (c:Int)) H'
theorem g5{K:Frag}{H:Hp}:∀l:f_,dI K H (l.map V.str)<|l.map PyData.str
 | []=>.nil
 |x::r=>.cons (.str x)<|g5 r
theorem g6:∀l:f_,PyData.depthAll (l.map PyData.str)<=1
 | []=>by simp[PyData.depthAll]
 |x::r=>by
  have:=g6 r
  simp only[map_cons,PyData.depthAll,PyData.depth]
  omega
def Pl{x:Str}(h:gK x):PyData.strOk x=true:=by
 show(x.cps.all λx=>decide<|x<1114112)=true;rw[<-all_toList,j9];intro c hc;have a:=qN<|h c hc
 have:∀c∈cz iS,c<1114112:=by decide +kernel
 exact ed<|this c a
theorem wO:∀l:f_,(∀x∈l,gK x)->PyData.canLayAll0 (l.map PyData.str)=true
 | [],_=>by simp[PyData.canLayAll0]
 |x::r,h=>by simp[PyData.canLayAll0,PyData.canLay0,wO r λx hx=>h x<|mem_cons_of_mem _ hx,Pl<|h x mem_cons_self]
def mh{d:PyData}(h1:PyData.canLay0 d=true)(h2:PyData.depth d<=64):shaped d=true:=by
 show(PyData.canLay0 d&&decide (PyData.depth d<=64))=true;rw[h1,ed h2];rfl
def Pm(H:Hp)(f:Addr)(n:Str)(l:f_):Prop:=∃p,H f=some (.tup [.str "sees",.str n,.ref p])/\H p=some (.tup<|l.map V.str)
def Sb(H:Hp)(f:Addr)(n:Str)(c:Int):Prop:=H f=some (.tup [.str "hat",.str n,.int c])
noncomputable abbrev gL(c:Nat):Str:=Str.ofString<|toString ((c:Nat):Int)
structure Us(l:f_):Prop where
 two:2<=l.length
 eD:l.length<=40
 nd:l.Nodup
 nm:∀x∈l,bq x=true
theorem pC(c:Nat):∀l:f_,(Str.join ⟨#[c]⟩ l).length<=(l.map λz=>z.length+1).sum
 | []=>by show(0:Nat)<=_;omega
 | [x]=>by show x.length<=(x.length+1)+0;omega
 |x::y::r=>by
  have a:=pC c (y::r);have e:(Str.join ⟨#[c]⟩ (x::y::r)).length=x.length+1+(Str.join ⟨#[c]⟩ (y::r)).length:=by
   rw[aB,bX,eR,eR,<-aB,<-aB];rfl
  rw[e,qb,Vs]
  omega
theorem dN(b:Nat):∀l:f_,(∀x∈l,x.length<=b)->(l.map λz=>z.length+1).sum<=l.length*(b+1)
 | [],_=>by simp
 |x::r,h=>by
  have a:=dN b r λx hx=>h x<|fN _ hx
  have:=h x gc
  rw[qb,Vs,kf,Nat.add_mul]
  omega
def fi{x:Str}(h:cR x=true):x.length<=30:=by
 unfold cR at h;rw[fz]at h;exact(qN h.1).2
variable{n:Str}
def CY{c:Nat}(hn:bq n=true)(h0:0<c)(h30:c<10 ^ 30):∀x∈[("hat":Str),n,gL c],32∉cz x/\10∉cz x/\x.length<=30:=by
 intro x hx;have h1:32∉cz ("hat":Str)/\10∉cz ("hat":Str)/\("hat":Str).length<=30:=by decide +kernel
 have b:=fE hn;have a:=(di h0 h30).1
 rcases gz.mp hx with rfl|hx
 ·exact h1
 rcases gz.mp hx with rfl|hx
 ·exact⟨b.1,b.2,hU (cF hn).2.2 a_⟩
 rw[ek.mp hx];exact⟨(iT a).1,(iT a).2,fi a⟩
def zw{l:f_}(h:∀x∈l,bq x=true):∀x∈(("sees":Str)::l),32∉cz x/\10∉cz x/\x.length<=30:=by
 intro x hx;have h1:32∉cz ("sees":Str)/\10∉cz ("sees":Str)/\("sees":Str).length<=30:=by decide +kernel
 rcases gz.mp hx with rfl|hx
 ·exact h1
 ·exact⟨(fE<|h x hx).1,(fE<|h x hx).2,hU (cF<|h x hx).2.2 a_⟩
def Pn{c:Nat}(hn:bq n=true)(h0:0<c)(h30:c<10 ^ 30):wH [("hat":Str),n,gL c]=true:=by
 show(decide (3=3)&&(decide (("hat":Str)=("hat":Str))&&(bq n&&cR (gL c))))=true;rw[hn,(di h0 h30).1,ed (rfl:("hat":Str)=("hat":Str))];rfl
def GQ(l:f_):wH (("sees":Str)::l)=false:=by
 unfold wH;show(_&&(decide (("sees":Str)=("hat":Str))&&_))=false;rw[show decide (("sees":Str)=("hat":Str))=false by decide +kernel,qm,M8]
def KQ{l:f_}(h2:2<=l.length)(h:∀x∈l,bq x=true):sM (("sees":Str)::l)=true:=by
 unfold sM;show(decide (3<=l.length+1)&&(decide (("sees":Str)=("sees":Str))&&l.all bq))=true;rw[ed (show 3<=l.length+1 by omega),ed rfl,j9.mpr h];rfl
def lr(n c:Str):(((("hat ":Str)++n)++(" ":Str))++c)=Str.join ⟨#[32]⟩ [("hat":Str),n,c]:=by
 apply oh
 rw[c5,c5,c5,bX,bX,show cz ("hat ":Str)=cz ("hat":Str)++[32] by decide +kernel,show cz (" ":Str)=[32] by decide +kernel]
 show _=cz ("hat":Str)++[32]++(cz n++[32]++cz c);simp only[List.append_assoc]
variable{prog:Program}{w:World}{κ:Type}{a:Addr}[DecidableEq κ]{knd:KeyKind prog w κ}
def CZ{h:Heap}{C_:List (κ × Value)}(x:h.DictOf knd a C_):∃ep,h.DictAt knd a C_ ep:=by
 obtain⟨o,b,ep,r⟩:=x;exact⟨ep,o,b,r⟩
variable{A:Around}{E:c_}{s:Shared}{ep:Nat}
def jC{d:Addr}{C_:List (κ × Value)}{Q₁:c_}(lo:(d==sysModules)=false)(hh:A.handled=none)(hd:s.heap.DictAt knd d C_ ep)(hn:C_.length<=sizeLine)
  (h:∀(h':Heap) (tk:Nat) (B_:k_),(∀b o,s.heap.get? b=some o->h'.get? b=some o)->ItemsOf (λi v=>∃k x,C_[i]?=some (k,x)/\knd.is k v=true) B_ C_.length->Q₁ (.ref h'.objs.size) {s with heap:=h'.push {cls:=.type "tuple",data:=.seq B_},toks:=tk}):
  codeAny (model prog w) A (.call (.builtin "tuple.__new__") ⟨[.type "tuple",.ref d],[]⟩) (wants Q₁ E) s:=by
 refine codeAny_of_tree ?_;show wpAny _ A.in1 (do checkBuiltinCall "tuple.__new__" ⟨[.type "tuple",.ref d],[]⟩;again (.builtin "tuple.__new__" ⟨[.type "tuple",.ref d],[]⟩)) _ _ s
 refine dy<|wpAny_of_eq (F.newCall_tuple_1 _)<|fO ⟨plainId_quiet F.plain_tuple_new _,codeAny_builtin F.entry_tuple_new ?_⟩;rw[Around.under_plainId F.plain_tuple_new _];have g:=sub_tuple_self;have c:=init_tuple_lookup;have j:=madeHere_tuple;have f:=hd.dictOf.typeIs
 wp_walk using wpAny_typeOf f,PySem.W.kdu_collect (A:=A.in1) (PySem.W.kdl_dict (knd:=knd) (ep:=ep) lo) hh hd hn
 intro h' tk B_ hm a;show wpAny _ _ (Builtin.Tuple.tupleExact B_.toList.toArray >>= λv=>ret v) _ _ _;unfold Builtin.Tuple.tupleExact;refine dy (Vr ?_ (by show B_.toList.toArray.size<=sizeLine;simp only[Array.toArray_toList];rw[a.1];exact hn))
 refine fO ?_;have e:B_.toList.toArray=B_:=by simp
 rw[e];exact h h' tk B_ hm a
def nH{d:Addr}{C_:List (κ × Value)}{Q:c_}(lo:(d==sysModules)=false)(hh:A.handled=none)(hd:s.heap.DictAt knd d C_ ep)(hn:C_.length<=sizeLine)
  (h:∀(h':Heap) (tk:Nat) (B_:k_),(∀b o,s.heap.get? b=some o->h'.get? b=some o)->ItemsOf (λi v=>∃k x,C_[i]?=some (k,x)/\knd.is k v=true) B_ C_.length->Q (.ref h'.objs.size) {s with heap:=h'.push {cls:=.type "tuple",data:=.seq B_},toks:=tk}):
  wpAny (model prog w) A (call (.type "tuple") [.ref d]) Q E s:=by
 refine callType_codes (Q₁:=λobj c=>c.TypeIs obj "tuple"/\Q obj c) F.called_tuple (F.typeCall_tuple_1 _) F.entry_object_init
  (jC lo hh hd hn λh' tk B_ hm a=>⟨⟨_,h9 _ rfl,rfl⟩,h h' tk B_ hm a⟩) λobj c e=>?_
 exact⟨e.1,F.args_object_init_2 obj _,object_init_meets F.called_tuple.init.lookup F.called_tuple.made a_ prog w A.in1 _ c ⟨e.1,rfl,e.2⟩⟩
variable{X:Cx}{o i:Expr}{pos:Pos}{td ty:TE}
def GR(hu:X.A.units+1<cLine)(ho:QE X o td)(hi:QE X i ty)(hs:JL i:=by intro _ _;rfl):QE X (.Subscript o i pos) (EX td ty):=⟨JN hu ho.h hi.h hs⟩
def MS:u_->Hp->VK->Prop:=λb H Q=>∃a C_,b=[.ref a]/\H a=some (.dK C_)/\Q (.int C_.length) H
def sN:bJ X (.builtin "len") MS:=by
 intro c s σ H g i Q I r h;obtain⟨a,b,rfl,e,q⟩:=h;obtain⟨u,rfl,d⟩:=vals1 r
 cases d
 exact Q0 I (.inl e) λt j f=>⟨.int b.length,H,f,⟨_,rfl⟩,q⟩
variable{u:Value}
def Po{P:Program}{i:Int}(h:(bz P w).is (Sum.inl i) u=true):RelV (.int i) u:=by
 rcases bL (show mT (Sum.inl i) u=true from h)with ⟨j,t,e,rfl⟩|⟨x,t,e,rfl⟩
 ·cases e;exact⟨t,rfl⟩
 ·cases e
def Pp{P:Program}{x:Str}(h:(bz P w).is (Sum.inr x) u=true):RelV (.str x) u:=by
 rcases bL (show mT (Sum.inr x) u=true from h)with ⟨j,t,e,rfl⟩|⟨y,t,e,rfl⟩
 ·cases e
 ·cases e;exact⟨t,rfl⟩
theorem sO{α β:Type}{F:α->β->Prop}:∀ {l₁:List α} {l₂:List β},l₁.length=l₂.length->(∀(i:Nat) a b,l₁[i]?=some a->l₂[i]?=some b->F a b)->Paired F l₁ l₂
 | [],[],_,_=>.nil
 |a::l₁,b::l₂,e,h=>.cons (h 0 a b rfl rfl)<|sO (Nat.succ.inj e) λi a b h1 c=>h (i+1) a b h1 c
def KR{P:Program}{k:Key}(h:(bz P w).is k u=true):RelV (kV k) u:=by
 cases k with
 |inl i=>exact Po h
 |inr x=>exact Pp h
def C0{P:Program}{C_:s_}{vs:List (Key × Value)}{B_:k_}(rel:KV C_ vs)(h:ItemsOf (λi v=>∃k x,vs[i]?=some (k,x)/\(bz P w).is k v=true) B_ vs.length):Vals (C_.map λp=>kV p.1) B_.toList:=by
 have hk:=rel.keys;have j:=rel.length;refine sO (by rw[b5,j,<-h.1];exact(SZ (xs:=B_)).symm) λi a b h1 g=>?_
 obtain⟨k,x,e,hi⟩:=h.2 i b (by rw[<-getElem?_toList];exact g)
 rw[eG]at h1;obtain⟨p,f,rfl⟩:=Option.map_eq_some_iff.mp h1;have c:(C_.map (·.1))[i]?=some p.1:=by rw[eG,f];rfl
 have d:(vs.map (·.1))[i]?=some k:=by rw[eG,e];rfl
 rw[hk,d]at c
 cases c
 exact KR hi
variable{H:Hp}{σ:St}
def GS:EX td ty σ H Q=td σ H λx H1=>ty σ H1 λy H2=>∃a v,x=.ref a/\gT H2 a y (some v)/\Q v H2:=rfl
def Sd{pos:Pos}(hu:X.A.units+1<cLine)(hi:QE X i ty)(ho:QE X o td)(hm:behindInMarks .In o=false):QT X (.Compare i [.In] [o] pos) (tB<|JM ty td):=⟨Em (EZ hu hi.h ho.h) hm⟩
noncomputable def pD:Nat->f_->List (Key × V)
 |_,[]=>[]
 |k,x::r=>(Sum.inr x,.int (k:Int))::pD (k+1) r
theorem uq:∀(k:Nat) (ns:f_),(pD k ns).length=ns.length
 |_,[]=>rfl
 |k,x::r=>by rw[pD,kf,uq,kf]
theorem wQ:∀(k:Nat) (ns:f_),(pD k ns).map (λp=>kV p.1)=ns.map V.str
 |_,[]=>rfl
 |k,x::r=>by rw[pD,qb,wQ,qb];rfl
theorem wR:∀(k:Nat) (ns:f_) (x:Str),pD k (ns++[x])=pD k ns++[(Sum.inr x,.int ((k+ns.length:Nat):Int))]
 |k,[],x=>rfl
 |k,y::r,x=>by
  rw[cons_append,pD,wR,pD,kf,show k+1+r.length=k+(r.length+1) by omega]
  rfl
theorem om(x:Str):∀(k:Nat) (ns:f_),cJ (pD k ns) (Sum.inr x)=if x∈ns then some (.int ((k+ns.idxOf x:Nat):Int))else none
 |_,[]=>rfl
 |k,y::r=>by
  rw[pD]
  by_cases e:y=x
  ·subst e;rw[cM rfl,if_pos gc,List.idxOf_cons_self]
   rfl
  ·rw[cN (λz=>e<|Sum.inr.inj z),om x (k+1) r]
   by_cases m:x∈r
   ·have a:List.idxOf x (y::r)=List.idxOf x r+1:=by
     rw[idxOf_cons,show(y==x)=false from rJ.mpr e];rfl
    rw[if_pos m,if_pos<|fN _ m,a,show k+1+List.idxOf x r=k+(List.idxOf x r+1) by omega]
   ·rw[if_neg m,if_neg λz=>(gz.mp z).elim (λz=>e z.symm) m]
def DN(H:Hp)(d:Addr)(ns:f_):Prop:=H d=some (.dK<|pD 0 ns)
variable{ns:f_}
def wU{d:Addr}{x:Str}(h:DN H d ns)(m:x∈ns):gT H d (.str x) (some<|.int (ns.idxOf x:Nat)):=by
 have:=gT.k (k:=Sum.inr x) h
 rw[om,if_pos m,Nat.zero_add]at this;exact this
def Pq{d:Addr}{x:Str}(h:DN H d ns)(m:x∉ns):gT H d (.str x) none:=by
 have:=gT.k (k:=Sum.inr x) h
 rw[om,if_neg m]at this;exact this
def GU{Q:r_}{d:Addr}{x:Str}{k:Int}(h:DN H d ns)(hk:k=(ns.length:Nat))(m:x∉ns)(hl:ns.length<sizeLine)(q:Q (upd H d<|.dK<|pD 0<|ns++[x])):∃a H4,V.ref d=.ref a/\tR H a (.str x) (.int k) H4/\Q H4:=by
 subst hk;refine⟨d,_,rfl,tR.k (k:=Sum.inr x) h (by rw[uq];exact hl),?_⟩
 rw[EU _ (by rw[om,if_neg m]),show((ns.length:Nat):Int)=((0+ns.length:Nat):Int) by rw[Nat.zero_add],<-wR]
 exact q
def wV{d:Addr}(h:DN H d ns)(q:Q (.int (ns.length:Nat)) H):MS [.ref d] H Q:=⟨d,_,rfl,h,by rw[uq];exact q⟩
inductive Ln where
 |dG (n:Str) (c:Nat)
 |sees (n:Str) (l:f_)
noncomputable def lM:Ln->List Str
 |.dG n c=>[("hat":Str),n,gL c]
 |.sees n l=>("sees":Str)::n::l
noncomputable def lu(x:Ln):Str:=Str.join ⟨#[32]⟩<|lM x
def jD:Ln->Prop
 |.dG n c=>bq n=true/\0<c/\c<10 ^ 30
 |.sees n l=>Us (n::l)
structure Bk where
 ns:List Str
 cs:List Nat
 ws:List Nat
noncomputable def nj(ns l:f_):Nat:=(l.map λy=>2 ^ ns.idxOf y).sum
noncomputable def jL(b:Bk):Ln->Option Bk
 |.dG n c=>if n∉b.ns/\b.ns.length<8 then some ⟨b.ns++[n],b.cs++[c],b.ws++[0]⟩else none
 |.sees n l=>if n∈b.ns/\b.ws.getD (b.ns.idxOf n) 0=0/\∀y∈l,y∈b.ns then some ⟨b.ns,b.cs,b.ws.set (b.ns.idxOf n)<|nj b.ns l⟩else none
variable{b b2:Bk}
def C7{c:Nat}(h:jL b (.dG n c)=some b2):n∉b.ns/\b.ns.length<8/\b2=⟨b.ns++[n],b.cs++[c],b.ws++[0]⟩:=by
 have h:(if n∉b.ns/\b.ns.length<8 then some (⟨b.ns++[n],b.cs++[c],b.ws++[0]⟩:Bk)else none)=some b2:=h
 by_cases a:n∉b.ns/\b.ns.length<8
 ·rw[if_pos a]at h;exact⟨a.1,a.2,(qa h).symm⟩
 ·rw[if_neg a]at h;cases h
def zx{l:f_}(h:jL b (.sees n l)=some b2):n∈b.ns/\b.ws.getD (b.ns.idxOf n) 0=0/\(∀y∈l,y∈b.ns)/\b2=⟨b.ns,b.cs,b.ws.set (b.ns.idxOf n)<|nj b.ns l⟩:=by
 have h:(if n∈b.ns/\b.ws.getD (b.ns.idxOf n) 0=0/\∀y∈l,y∈b.ns then some (⟨b.ns,b.cs,b.ws.set (b.ns.idxOf n)<|nj b.ns l⟩:Bk)else none)=some b2:=h
 by_cases a:n∈b.ns/\b.ws.getD (b.ns.idxOf n) 0=0/\∀y∈l,y∈b.ns
 ·rw[if_pos a]at h;exact⟨a.1,a.2.1,a.2.2,(qa h).symm⟩
 ·rw[if_neg a]at h;cases h
noncomputable def dz:Bk->List Ln->Option Bk
 |b,[]=>some b
 |b,x::r=>(jL b x).bind λa=>dz a r
theorem g7:∀(b:Bk) (l r:List Ln),dz b (l++r)=(dz b l).bind λb'=>dz b' r
 |b,[],r=>rfl
 |b,x::l,r=>by
  rw[cons_append,dz,dz]
  cases jL b x with
  |none=>rfl
  |some b'=>exact g7 b' l r
variable{x:Ln}{L:List Ln}
def zy{b0:Bk}{k:Nat}(h:dz b0 L=some b)(hx:L[k]?=some x):∃b1 b2,dz b0 (L.take k)=some b1/\jL b1 x=some b2/\dz b0 (L.take<|k+1)=some b2:=by
 have e:L=L.take k++x::L.drop (k+1):=by
  have hk:k<L.length:=(nt.mp hx).1
  have:=Vh k L
  rw[List.drop_eq_getElem_cons hk]at this;rw[(nt.mp hx).2]at this;exact this.symm
 rw[e,g7]at h
 cases h1:dz b0 (L.take k)with
 |none=>rw[h1]at h;cases h
 |some b1=>
  rw[h1]at h;have h:(jL b1 x).bind (λc=>dz c<|L.drop<|k+1)=some b:=h
  cases a:jL b1 x with
  |none=>rw[a]at h;cases h
  |some b2=>
   refine⟨b1,b2,rfl,a,?_⟩;rw[List.take_add_one,hx,Option.toList_some,g7,h1];show(jL b1 x).bind (λc=>dz c [])=_;rw[a];rfl
def zA{α:Type}(g:Str->α)(l:f_):((List.range l.length).map λi=>g<|l.getD i aX)=l.map g:=by
 apply F1
 intro i
 by_cases hi:i<l.length
 ·rw[eG,r4 hi,eG,cc hi];show some (g<|l.getD i aX)=some (g l[i]);rw[b4,cc hi];rfl
 ·rw[ls (by rw[b5,j6];omega),ls (by rw[b5];omega)]
theorem sP{α:Type}(f:α->Nat):∀l:List α,(l.map λi=>((f i:Nat):Int)).sum=((l.map f).sum:Nat)
 | []=>rfl
 |x::r=>by rw[qb,Vs,sP f r,qb,Vs];rfl
def GV(ns l:f_):((List.range l.length).map λi=>((2 ^ ns.idxOf (l.getD i aX):Nat):Int)).sum=(nj ns l:Nat):=by
 rw[sP (λi=>2 ^ ns.idxOf (l.getD i aX)),zA λy=>2 ^ ns.idxOf y];rfl
def GW(ws:d_)(i m:Nat):((aE ws).map V.int).set i (.int (m:Int))=(aE<|ws.set i m).map V.int:=by
 unfold aE;rw[List.map_set,List.map_set]
def pE(ws:d_)(m:Nat):(aE ws).map V.int++[.int (m:Int)]=(aE<|ws++[m]).map V.int:=by
 unfold aE;rw[hI,hI];rfl
def g9(h:jD x):(∀y∈lM x,32∉cz y/\10∉cz y/\y.length<=30)/\(lM x).length<=41/\3<=(lM x).length:=by
 cases x with
 |dG n c=>exact⟨CY h.1 h.2.1 h.2.2,by show 3<=41;decide,ey 3⟩
 |sees n l=>exact⟨zw h.nm,Nat.succ_le_succ h.eD,Nat.succ_le_succ h.two⟩
theorem sQ{c d:Nat}(hcd:d≠c):∀ {l:f_},(∀y∈l,d∉cz y)->d∉cz (Str.join ⟨#[c]⟩ l)
 | [],_=>by show d∉([]:d_);simp
 | [x],h=>h x gc
 |x::y::r,h=>by
  rw[bX];intro z
  rcases ih.mp z with z|z
  ·rcases ih.mp z with z|z
   ·exact h x gc z
   ·exact hcd (by simpa using z)
  ·exact sQ hcd (λy hy=>h y<|fN _ hy) z
def GX(h:jD x):10∉cz (lu x):=sQ a_ λy hy=>((g9 h).1 y hy).2.1
def fe(h:jD x):(lu x).length<=1271:=by
 have h1:=pC 32<|lM x;have b:=dN 30 (lM x) λy hy=>((g9 h).1 y hy).2.2;have a:=(g9 h).2.1;have c:(lM x).length*31<=41*31:=sU _ a;unfold lu
 omega
def KS(x:Ln):0<(lu x).length:=by
 cases x with
 |dG n c=>
  have e:(lu<|.dG n c).length=(cz<|Str.join ⟨#[32]⟩ [("hat":Str),n,gL c]).length:=aB _;rw[e,bX,eR,eR];show 0<_+1+_
  omega
 |sees n l=>
  have e:(lu<|.sees n l).length=(cz<|Str.join ⟨#[32]⟩ (("sees":Str)::n::l)).length:=aB _;rw[e,bX,eR,eR];show 0<_+1+_
  omega
noncomputable def dO(L:List Ln):Str:=Str.join ⟨#[10]⟩<|L.map lu
noncomputable def iU(z:Str):f_:=if z=("":Str)then[]else Txt.split z ⟨#[10]⟩
def fF(h:∀x∈L,jD x):iU (dO L)=L.map lu:=by
 cases L with
 |nil=>rfl
 |cons x r=>
  have a:0<(dO (x::r)).length:=by
   have h1:=md 10 (l:=(x::r).map lu) (x:=lu x) (by simp)
   have b:=KS x;unfold dO
   omega
  unfold iU;rw[if_neg (λz=>by rw[z]at a;exact absurd a Dk0)]
  exact fD 10 (by simp) λy hy=>by
   obtain⟨u,hu,rfl⟩:=kc.mp hy;exact GX<|h u hu
def fj(h:∀x∈L,jD x)(hl:L.length<=100):(dO L).length<=127200:=by
 have h1:=pC 10<|L.map lu;have a:=dN 1271 (L.map lu) λy hy=>by
  obtain⟨u,hu,rfl⟩:=kc.mp hy;exact fe<|h u hu
 rw[b5]at a;have b:L.length*1272<=100*1272:=sU _ hl;unfold dO
 omega
def wW:Sp:=λa H Q _=>∃(d:Addr) (ns:f_) (x:Str) (i:Int),a=[.ref d,.str x,.int i]/\DN H d ns/\x∉ns/\ns.length<8/\Q .bA (upd H d<|.dK<|pD 0<|ns++[x])
def pF(K:Frag):Sp:=λa H Q _=>∃(d w t:Addr) (ns l:f_) (ws:d_) (x:Str) (i:Int),a=[.ref d,.ref w,.str x,.ref t,.int i]/\DN H d ns/\H w=some (.lst<|(aE ws).map V.int)/\ws.length=ns.length/\ns.length<=8/\x∈ns/\ws.getD (ns.idxOf x) 0=0/\H t=some (.tup<|l.map V.str)/\(∀y∈l,y∈ns)/\l.length<=40/\
 ∀H1,ag H H1->Q .bA (upd H1 w<|.lst<|(aE<|ws.set (ns.idxOf x)<|nj ns l).map V.int)
def zB:Sp:=λa H Q _=>∃z:Str,a=[.str z]/\z.length<=1000000/\(iU z).length<=900/\∀l H',ag H H'->H l=none->H' l=some (.lst<|(iU z).map V.str)->Q (.ref l) H'
structure UO(H:Hp)(d c w:Addr)(b:Bk):Prop where
 hd:DN H d b.ns
 hc:H c=some (.lst<|(aE b.cs).map V.int)
 hw:H w=some (.lst<|(aE b.ws).map V.int)
 lw:b.ws.length=b.ns.length
 lc:b.cs.length=b.ns.length
 eD:b.ns.length<=8
def Se(H0:Hp)(z:Str)(d c w r:Addr)(L:List Ln)(k:Nat)(σ:St)(H:Hp):Prop:=∃(b:Bk) (y1 y2 y3:v_),σ=[some (.str z),some<|.ref d,some<|.ref c,some<|.ref w,y1,y2,y3]/\ag H0 H/\H r=some (.lst<|(L.map lu).map V.str)/\dz ⟨[],[],[]⟩ (L.take k)=some b/\UO H d c w b
def KU{K:Frag}{i:Int}{E:XK}(h:jD x)(q1:∀n c f H',x=.dG n c->ag H H'->Sb H' f n (c:Int)->Q (.ref f) H')(q2:∀n l f H',x=.sees n l->ag H H'->Pm H' f n l->Q (.ref f) H'):zr K [.str (lu x),.int i] H Q E:=by
 have e:=fe h;have b:=g9 h;have d:Txt.split (lu x) ⟨#[32]⟩=lM x:=fD 32 (by intro z;rw[z]at b;exact absurd b.2.2 a_) λy hy=>(b.1 y hy).1
 refine⟨_,i,_,rfl,by omega,d,by omega,?_⟩
 cases x with
 |dG n c=>exact .inl ⟨Pn h.1 h.2.1 h.2.2,c,(di h.2.1 h.2.2).2,λf H' s a=>q1 n c f H' rfl s a⟩
 |sees n l=>exact .inr ⟨GQ _,KQ h.two h.nm,h.nd,λf u H' s a hu=>q2 n l f H' rfl s ⟨u,a,hu⟩⟩
theorem MT{it t:Addr}{items:k_}(hne:t≠it):∀(n i:Nat) (s:Shared) (Q:f'->Shared->Prop),s.heap.IsListIter it t i->s.heap.IsList t items->i+n<=items.size->
  (∀h',h'.IsListIter it t (i+n)->SameBut it s.heap h'->Q ((items.toList.drop i).take n) {s with heap:=h'})->wpAny (model prog w) A (draw (.ref it) n) Q E s
 |0,i,s,Q,a,_,_,g=>by
  show wpAny _ _ (pure []) Q E s;exact fO (by simpa using g s.heap a (Heap.SameBut.refl ..))
 |n+1,i,s,Q,a,h,j,g=>by
  have b:i<items.size:=by omega
  show wpAny _ _ (pyNext (.ref it) >>= _) Q E s;refine dy (wpAny_pyNext_list_item a h (x:=items[i]) (by simp[b]) λo d c=>?_)
  refine dy (Vv (MT hne n (i+1) _ _ d (h.extBut c.extBut hne) (by omega) λl e f=>fO ?_))
  have m:items.toList.drop i=items[i]::items.toList.drop (i+1):=by simp[List.drop_eq_getElem_cons,b]
  have:=g l (by rw[show i+(n+1)=i+1+n by omega];exact e)<|c.trans f
  rw[m,List.take_succ_cons]at this;exact this
variable{t:Addr}
def ur{items:k_}{Q:f'->Shared->Prop}(hh:A.handled=none)(ht:s.heap.IsList t items)
  (hQ:∀h',ExtBut s.heap.objs.size s.heap h'->Q items.toList {s with heap:=h'}):wpAny (model prog w) A (unpackItems (.ref t) items.size none) Q E s:=by
 have a:t≠s.heap.objs.size:=by obtain⟨o,j,_⟩:=ht;exact ot<|lt_size j
 unfold unpackItems;refine dy ?_
 ·unfold notIterableAtAll;refine dy<|wpAny_specialOf ht.typeIs F.slot_list_iter.lookup ?_;refine fO ?_;simp only[Bool.false_eq_true,if_false];refine dy<|Vv<|Os ht ?_;refine dy (Vv (MT a items.size 0 _ _ ⟨_,h9 _ rfl,rfl,rfl⟩ (ht.push _) (by omega) λh d c=>?_))
  have i:List.take items.size (List.drop 0 items.toList)=items.toList:=by
   rw[drop_zero];exact AC (by simp)
  rw[i];rw[if_neg (by simp)]
  have f:h.IsList t items:=(ht.push _).extBut c.extBut a;refine dy (Vv (wpAny_pyNext_list_end hh d f (by simp) λl g=>?_))
  simp only[isSome_none,Bool.false_eq_true,if_false];refine fO<|hQ l λb o hb e=>g b o hb<|c.extBut b o hb<|ef _ e
variable{elts:i_}
def KW{env:Env}{x1}{pos:Pos}{items:k_}{Q:Unit->Shared->Prop}(hh:A.handled=none)(ht:s.heap.IsList t items)
  (hn:(assignEach elts env).length=items.size) (hstar:(assignEach elts env).findIdx? (·.1)=none)
  (h:∀h',ExtBut s.heap.objs.size s.heap h'->wpAny (model prog w) A (assignInOrder ((assignEach elts env).map (·.2)) items.toList) Q E {s with heap:=h'}):
  wpAny (model prog w) A (assign (.Tuple elts x1 pos) env<|.ref t) Q E s:=by
 rw[assign_Tuple];refine dy<|wpAny_standAt ?_;unfold unpack;rw[hn,hstar];exact dy<|Vv<|ur hh ht h
def Pr(K:Frag)(n:Nat)(t:AS):TG:=λv σ H Q=>∃a xs,v=.ref a/\ay K H a xs/\xs.length=n/\t xs σ H Q
variable{t:AS}{n:Nat}
def Pt{es:i_}{k:Nat}(hc:X.calm=true)(h:Qn X es t)
  (hn:(assignEach es X.env).length=n:=by rfl) (hst:(assignEach es X.env).findIdx? (·.1)=none:=by rfl):PG X (.Tuple es k pos) (Pr X.K n t):=by
 intro c s σ H v u Q I r d;obtain⟨a,g,m,hq,i,d⟩:=d;subst m
 cases r
 obtain⟨p,f,q,w⟩:=I.list hq;refine KW (I.ok.hd hc) q.isList (by simp[hn,<-i,f.length]) hst λj hx=>?_
 have l:Inv X c σ H {s with heap:=j}:=I.kept (t':=s.toks) λb o e=>hx b o (ot<|lt_size e) e;exact h c _ σ H g _ Q l (by simpa using f) d
variable{K:Frag}
def KY{es:i_}{kk:Nat}{tgs:AS}(hc:X.calm=true)(hK:X.K=K)(h:Rq X es tgs)(hn:(assignEach es X.env).length=n:=by rfl)(hst:(assignEach es X.env).findIdx? (·.1)=none:=by rfl):QG X (.Tuple es kk pos) (Pr K n tgs):=⟨by subst hK;exact Pt hc h.h hn hst⟩
def GY{v:V}{σ:St}{Q:p_}:Pr K n t v σ H Q=∃a xs,v=.ref a/\ay K H a xs/\xs.length=n/\t xs σ H Q:=rfl
noncomputable def dA{α:Type}(l:List α)(k:Nat)(x:α):List α:=l.take k++x::l.drop k
def KZ:V->u_->Hp->VK->Prop:=λx a H Q=>∃(l:Addr) (xs:u_) (k:Nat) (y:V),x=.ref l/\a=[.int (k:Int),y]/\H l=some (.lst xs)/\xs.length<1000000/\k<=xs.length/\Q .bA (upd H l<|.lst<|dA xs k y)
def K0{x y:V}{us:f'}(r:Vals [x,y] us):∃u v,us=[u,v]/\RelV x u/\RelV y v:=by
 cases r with
 |cons a r=>cases r with
  |cons b r=>cases r;exact⟨_,_,rfl,a,b⟩
def GZ{k:Nat}(h:k<=1000000):¬(!Builtin.List.listFitsIndex (k:Int))=true:=by
 have:Builtin.List.listFitsIndex (k:Int)=true:=by
  unfold Builtin.List.listFitsIndex;rw[fz];have a:(2:Int) ^ 63=9223372036854775808:=by decide
  exact⟨ed (by rw[a];omega),ed (by rw[a];omega)⟩
 rw[this];decide
theorem BE{α β:Type}{F:α->β->Prop}{a:α}{b:β}:∀ {l₁:List α} {l₂:List β} (k:Nat),Paired F l₁ l₂->F a b->Paired F (dA l₁ k a) (dA l₂ k b)
 |_,_,0,r,h=>.cons h r
 | [],_,k+1,.nil,h=>.cons h .nil
 |_::_,_::_,k+1,.cons c r,h=>.cons c<|BE k r h
def C8:UK X "list.insert" KZ:=by
 intro g s σ H x C v B Q I o m h;obtain⟨l,D,k,y,rfl,rfl,i,E,hk,q⟩:=h
 cases o
 obtain⟨u,w,rfl,⟨t,rfl⟩,d⟩:=K0 m;obtain⟨z,a,n,r,A,e⟩:=I.OB i;have j:=r.length;have p:(1000002:Nat)<=sizeLine:=by decide
 have c:a.toArray.size<=sizeLine:=by rw[gd];omega
 have b:=GZ (k:=k) (by omega)
 generalize f:(k:Int)=ki at b ⊢;have M:=PySem.AutoSeq1.list_insert_list_int_val_1 l a.toArray n ki t w b c;refine KM F.slot_list_insert ⟨_,e,rfl⟩ F.entry_list_insert (F.args_list_insert_3 _ _ _) M ⟨e,?_⟩;refine⟨.bA,_,I.QY (its':=dA a k w) i e ?_ (BE k r d) ?_,rfl,q⟩
 ·subst f;show(a.toArray.extract 0<|if(k:Int)<0 then((k:Int)+(a.toArray.size:Int)).toNat else min (k:Int).toNat a.toArray.size).push w++a.toArray.extract (if(k:Int)<0 then((k:Int)+(a.toArray.size:Int)).toNat else min (k:Int).toNat a.toArray.size)=_
  rw[if_neg (by omega),ri,gd,Nat.min_eq_left (by omega)]
  apply Array.toList_inj.mp
  simp[dA]
  exact AC (by rw[q5];omega)
 ·unfold dA;rw[eR,kf,rr,q5]
  omega
noncomputable def isStr(k:Str):Value->Bool
 |.str x _=>x==k
 |_=>false
theorem pG(k:Str):∀ {xs:f_} {vs:f'},Vals (xs.map V.str) vs->∀(j:Nat) (h1:j<vs.length) (h2:j<xs.length),isStr k vs[j]=(xs[j]==k)
 |x::xs,_,.cons ⟨t,rfl⟩ r,0,_,_=>rfl
 |x::xs,_,.cons ⟨t,rfl⟩ r,j+1,h1,h2=>pG k r j (Nat.lt_of_succ_lt_succ h1)<|Nat.lt_of_succ_lt_succ h2
theorem wX(k:Str)(t:Tok){A:Around}{s:Shared}:∀ {xs:f_} {vs:f'},Vals (xs.map V.str) vs->∀y,y∈vs->EqAt A s y (.str k t) (isStr k y)
 | [],_,.nil,_,hy=>nomatch hy
 |x::xs,_,.cons ⟨u,rfl⟩ r,y,hy=>by
  rcases gz.mp hy with rfl|hy
  ·exact PySem.SeqAt.EqAt.str_str x u k t
  ·exact wX k t r y hy
def BF{k:Str}{j:Nat}(h:j<ns.idxOf k)(h2:j<ns.length):(ns[j]==k)=false:=by
 have:=List.not_of_lt_findIdx (p:=(· == k)) h
 simpa using this
def K1(K:Frag):V->u_->Hp->VK->Prop:=λx a H Q=>∃(l:Addr) (ns:f_) (k:Str),x=.ref l/\a=[.str k]/\ay K H l (ns.map V.str)/\k∈ns/\Q (.int (ns.idxOf k:Nat)) H
def js(hK:X.K=K):yo X "list.index" (K1 K):=by
 subst hK;intro m s σ H x O v P Q I L J h;obtain⟨l,e,k,rfl,rfl,C,hk,q⟩:=h
 cases L
 obtain⟨u,rfl,D⟩:=J.one;obtain⟨t,rfl⟩:=D;obtain⟨g,r,N,M⟩:=I.list C;obtain⟨⟨G,E,i,B⟩,o,A,n,w⟩:=id N.isList
 simp only at A w
 subst A w;have c:=r.length;rw[b5]at c;have d:e.idxOf k<e.length:=C2.mpr hk;rw[b5]at M;have p:sizeLine<2 ^ 62:=by decide
 refine KM Vp ⟨_,o,rfl⟩ PySem.F.entry_list_index (PySem.F.args_list_index_2 _ _) (list_indexAt l g.toArray n E B (.str k t) (isStr k) (e.idxOf k) (by rw[gd,<-c];exact d) (by omega) ?a ?b) ⟨o,λy hy=>wX k t r y (by simpa using hy),?_⟩
 case a=>
  have z:=pG k r (e.idxOf k) (by rw[<-c];exact d) d
  rw[Vy d,VA]at z;exact z
 case b=>
  intro j hj f;have z:=pG k r j (by simpa using hj) (by omega)
  rw[BF f]at z;exact z
 exact⟨.int _,H,I.tok _,⟨_,rfl⟩,q⟩
structure iy(ns:f_)(cs ws:d_):Prop where
 nm:IU ns 8
 lc:cs.length=ns.length
 lw:ws.length=ns.length
 TU:∀c∈cs,0<c/\c<10 ^ 30
 Tt:∀j,j<ns.length->ws.getD j 0<2 ^ ns.length
 ND:∀j,j<ns.length->ws.getD j 0 / 2 ^ j%2=0
def jM(H:Hp)(b:Addr)(ns:f_)(cs ws:d_):Prop:=∃a1 a2 a3,H b=some (.lst [.ref a1,.ref a2,.ref a3])/\H a1=some (.lst<|ns.map V.str)/\H a2=some (.lst<|(aE cs).map V.int)/\H a3=some (.lst<|(aE ws).map V.int)
variable{cs:d_}
def jM.mono{H':Hp}{b:Addr}{ws:d_}(h:jM H b ns cs ws)(s:ag H H'):jM H' b ns cs ws:=by
 obtain⟨d,e,g,a,h1,c,f⟩:=h;exact⟨d,e,g,s _ _ a,s _ _ h1,s _ _ c,s _ _ f⟩
noncomputable def iF(n w:Nat):d_:=(List.range n).filter λj=>decide<|w / 2 ^ j%2=1
theorem oq(w:Nat):∀n,((iF n w).map λj=>2 ^ j).sum=w%2 ^ n
 |0=>by show 0=_;rw[Nat.pow_zero,Nat.mod_one]
 |n+1=>by
  have a:=oq w n;unfold iF at a ⊢;rw[GT,VJ,hI,List.sum_append,a,Nat.mod_pow_succ]
  congr 1
  rcases Vm (w / 2 ^ n)with e|e
  ·rw[List.filter_cons_of_neg (by simp[e]),e];simp
  ·rw[List.filter_cons_of_pos (by simp[e]),e];simp
variable{w:Nat}
def jt{j:Nat}:j∈iF n w↔j<n/\w / 2 ^ j%2=1:=by
 unfold iF;rw[rz,mv,decide_eq_true_iff]
def Pu(n w:Nat):(iF n w).Nodup:=VN.sublist filter_sublist
inductive Mx where
 |dG (j:Nat)
 |sees (i:Nat) (l:d_)
noncomputable def Mx.hi:Mx->Option Nat
 |.dG j=>some j
 |.sees _ _=>none
noncomputable def Mx.si:Mx->Option Nat
 |.dG _=>none
 |.sees i _=>some i
noncomputable def fk(ns:f_)(cs:d_):Mx->Ln
 |.dG j=>.dG (ns.getD j aX)<|cs.getD j 0
 |.sees i l=>.sees (ns.getD i aX)<|l.map λj=>ns.getD j aX
def uu:d_->List Mx->Prop
 |_,[]=>True
 |S,.dG j::r=>uu (S++[j]) r
 |S,.sees i l::r=>(i∈S/\∀j∈l,j∈S)/\uu S r
theorem fG:∀(S:d_) (A B:List Mx),uu S (A++B)↔uu S A/\uu (S++A.filterMap Mx.hi) B
 |S,[],B=>by simp[uu]
 |S,.dG j::A,B=>by
  show uu (S++[j]) (A++B)↔uu (S++[j]) A/\_;rw[fG,tp];show _↔_/\uu (S++(j::A.filterMap Mx.hi)) B;rw[A4];rfl
 |S,.sees i l::A,B=>by
  show(_/\uu S (A++B))↔(_/\uu S A)/\uu (S++(Mx.sees i l::A).filterMap Mx.hi) B;rw[fG,tp];exact and_assoc.symm
variable{i q:Nat}{M:List Mx}{l:d_}
def K2(h:uu [] M)(hi:i∈(M.take q).filterMap Mx.hi)(hl:∀j∈l,j∈(M.take q).filterMap Mx.hi):uu [] (dA M q<|.sees i l):=by
 have a:=(fG [] (M.take q)<|M.drop q).mp (by rw[Vh];exact h)
 unfold dA;refine(fG _ _ _).mpr ⟨a.1,⟨?_,a.2⟩⟩;rw[nil_append];exact⟨hi,hl⟩
def Pw:(dA M q<|.sees i l).filterMap Mx.hi=M.filterMap Mx.hi:=by
 unfold dA;rw[F2,tp];show _++(M.drop q).filterMap Mx.hi=_;rw[<-F2,Vh]
def G0:((dA M q<|.sees i l).filterMap Mx.si).Perm (i::M.filterMap Mx.si):=by
 unfold dA;rw[F2,tp];show((M.take q).filterMap Mx.si++i::(M.drop q).filterMap Mx.si).Perm _;refine List.perm_middle.trans<|List.Perm.cons _ ?_;rw[<-F2,Vh]
def K3{α:Type}{M:List α}{x y:α}:y∈dA M q x↔y=x∨y∈M:=by
 unfold dA;rw[ih,gz]
 constructor
 ·rintro(h|h|h)
  ·exact .inr<|mem_of_mem_take h
  ·exact .inl h
  ·exact .inr<|mem_of_mem_drop h
 ·rintro(h|h)
  ·exact .inr<|.inl h
  ·rw[<-Vh q M]at h
   rcases ih.mp h with z|z
   ·exact .inl z
   ·exact .inr<|.inr z
def BG{α β:Type}(f:α->β)(M:List α)(q:Nat)(x:α):(dA M q x).map f=dA (M.map f) q (f x):=by
 unfold dA;rw[hI,qb,map_take,Vu]
noncomputable def stM(ns:f_)(cs ws:d_)(h:Nat)(U:d_):Bk:=⟨ns.take h,cs.take h,(List.range h).map λi=>if i∈U then ws.getD i 0 else 0⟩
variable{ws:d_}{h:Nat}
def uw(P:iy ns cs ws){j:Nat}(hj:j<h)(hh:h<=ns.length):ns.getD j aX∈ns.take h/\(ns.take h).idxOf (ns.getD j aX)=j:=by
 have a:(ns.take h).length=h:=by rw[rr];omega
 have e:ns.getD j aX=(ns.take h)[j]'(by omega):=by
  rw[getElem_take,b4,cc (by omega)];rfl
 rw[e];exact⟨pS _,(P.nm.nd.sublist<|take_sublist _ _).idxOf_getElem _ _⟩
def mi{α:Type}{l:List α}(d:α)(hh:h<l.length):l.take (h+1)=l.take h++[l.getD h d]:=by
 rw[List.take_add_one,cc hh,b4,cc hh];rfl
def K4(P:iy ns cs ws)(hl:∀j∈l,j<h)(hh:h<=ns.length)(hp:l.Perm (iF ns.length<|ws.getD i 0))(hi:i<ns.length):nj (ns.take h) (l.map λj=>ns.getD j aX)=ws.getD i 0:=by
 unfold nj;rw[kb];have e:l.map ((λy=>2 ^ (ns.take h).idxOf y) ∘ λj=>ns.getD j aX)=l.map λj=>2 ^ j:=List.map_congr_left λj hj=>by
  show 2 ^ _=_;rw[(uw P (hl j hj) hh).2]
 rw[e,(hp.map _).sum_nat,oq,mod_eq_of_lt<|P.Tt i hi]
theorem mj(P:iy ns cs ws):∀(r:List Mx) (h:Nat) (U:d_),uu (List.range h) r->List.range h++r.filterMap Mx.hi=List.range ns.length->(U++r.filterMap Mx.si).Nodup->(∀i∈U,i<h)->
  (∀i l,Mx.sees i l∈r->l.Perm (iF ns.length<|ws.getD i 0))->dz (stM ns cs ws h U) (r.map<|fk ns cs)=some (stM ns cs ws ns.length<|U++r.filterMap Mx.si)
 | [],h,U,_,g,_,_,_=>by
  have e:h=ns.length:=by
   have:=SL List.length g
   simpa using this
  rw[map_nil,List.filterMap_nil,Vj,e];rfl
 |.dG j::r,h,U,ok,g,p,q,n=>by
  have a:List.range h++j::r.filterMap Mx.hi=List.range ns.length:=g;have c:=SL List.length a;rw[eR,kf,j6,j6]at c;have C:j=h:=by
   have this:(List.range h++j::r.filterMap Mx.hi)[h]?=(List.range ns.length)[h]?:=by rw[a]
   rw[tz (by simp),j6,Nat.sub_self,r4 (by omega)]at this
   exact qa this
  subst C;have b:j<ns.length:=by omega
  have E:=P.nm.eD;have s:=mj P r (j+1) U (by rw[GT];exact ok) (by rw[GT,A4];exact a) p (λi hi=>Vw<|q i hi) λi l hm=>n i l<|fN _ hm
  have B:(ns.take j).length=j:=by rw[rr];omega
  have d:ns.getD j aX∉ns.take j:=λz=>by
   have e:ns.getD j aX=ns[j]:=by rw[b4,cc b];rfl
   rw[e]at z;obtain⟨k,hk,x⟩:=C4 z;rw[getElem_take]at x
   have:=(getElem_inj P.nm.nd).mp x
   omega
  have t:jL (stM ns cs ws j U) (fk ns cs<|.dG j)=some (stM ns cs ws (j+1) U):=by
   show(if ns.getD j aX∉ns.take j/\(ns.take j).length<8 then some (⟨ns.take j++[ns.getD j aX],cs.take j++[cs.getD j 0],((List.range j).map λi=>if i∈U then ws.getD i 0 else 0)++[0]⟩:Bk)else none)=_
   rw[if_pos ⟨d,by omega⟩,<-mi aX b,<-mi 0 (by rw[P.lc];exact b)]
   unfold stM;rw[GT,hI];have hj:j∉U:=λz=>F8 _<|q j z;show some (⟨_,_,_++[0]⟩:Bk)=some ⟨_,_,_++[if j∈U then ws.getD j 0 else 0]⟩
   rw[if_neg hj]
  rw[qb,dz,t];exact s
 |.sees i l::r,h,U,ok,g,p,q,n=>by
  obtain⟨⟨hi,o⟩,u⟩:=ok;have hi:i<h:=mv.mp hi;have o:∀j∈l,j<h:=λj hj=>mv.mp<|o j hj;have a:List.range h++r.filterMap Mx.hi=List.range ns.length:=g;have v:h<=ns.length:=by
   have:=SL List.length a
   rw[eR,j6,j6]at this
   omega
  have f:(U++i::r.filterMap Mx.si).Nodup:=p;have w:i∉U:=λz=>by
   have:=(VH.mp f).2.2 i z i gc
   exact this rfl
  have s:=mj P r h (U++[i]) u a (by rw[A4];exact f) (λk hk=>by
   rcases ih.mp hk with z|z
   ·exact q k z
   ·rw[ek.mp z];exact hi) λk m hm=>n k m<|fN _ hm
  have hn:=uw P hi v;have t:jL (stM ns cs ws h U) (fk ns cs<|.sees i l)=some (stM ns cs ws h<|U++[i]):=by
   show(if ns.getD i aX∈ns.take h/\((List.range h).map λi=>if i∈U then ws.getD i 0 else 0).getD ((ns.take h).idxOf<|ns.getD i aX) 0=0/\∀y∈l.map (λj=>ns.getD j aX),y∈ns.take h then some (⟨ns.take h,cs.take h,((List.range h).map λi=>if i∈U then ws.getD i 0 else 0).set ((ns.take h).idxOf<|ns.getD i aX)<|nj (ns.take h)<|l.map λj=>ns.getD j aX⟩:Bk)else none)=_
   rw[hn.2,K4 P o v (n i l gc) (by omega)]
   have D:((List.range h).map λi=>if i∈U then ws.getD i 0 else 0).getD i 0=0:=by
    rw[b4,eG,r4 hi];show(if i∈U then _ else 0)=0
    rw[if_neg w]
   have A:∀y∈l.map (λj=>ns.getD j aX),y∈ns.take h:=by
    intro y hy;obtain⟨j,hj,rfl⟩:=kc.mp hy;exact(uw P (o j hj) v).1
   rw[if_pos ⟨hn.1,D,A⟩];unfold stM
   congr 2
   apply F1
   intro k;rw[List.getElem?_set,eG,b5,j6]
   by_cases e:i=k
   ·subst e;rw[if_pos rfl,if_pos hi,eG,r4 hi];show _=some (if i∈U++[i]then _ else _)
    rw[if_pos (by simp)]
   ·rw[if_neg e,eG]
    by_cases hk:k<h
    ·rw[r4 hk];show some (if k∈U then _ else _)=some (if k∈U++[i]then _ else _)
     have:k∈U↔k∈U++[i]:=by
      rw[ih,ek];exact⟨.inl,λz=>z.elim id λz=>absurd z.symm e⟩
     simp only[this]
    ·rw[ls (by rw[j6];omega)]
     first|rfl|(rw[eG,ls (by rw[j6];omega)];rfl)
  rw[qb,dz,t];show dz _ _=some (stM ns cs ws ns.length (U++i::r.filterMap Mx.si));rw[show U++i::r.filterMap Mx.si=(U++[i])++r.filterMap Mx.si by rw[A4];rfl]
  exact s
structure c8(ns:f_)(ws:d_)(done:Nat->Prop)(M:List Mx):Prop where
 ok:uu [] M
 fR:M.filterMap Mx.hi=List.range ns.length
 nd:(M.filterMap Mx.si).Nodup
 pm:∀i l,Mx.sees i l∈M->l.Perm (iF ns.length<|ws.getD i 0)/\i<ns.length/\l≠[]
 al:∀i,i∈M.filterMap Mx.si↔done i/\i<ns.length/\iF ns.length (ws.getD i 0)≠[]
variable{done:Nat->Prop}
def c8.book(P:iy ns cs ws)(h:c8 ns ws done M)(hd:∀i,i<ns.length->done i):dz ⟨[],[],[]⟩ (M.map<|fk ns cs)=some ⟨ns,cs,ws⟩:=by
 have:=mj P M 0 [] h.ok (by rw[range_zero,nil_append];exact h.fR) (by rw[nil_append];exact h.nd) (λ_ z=>nomatch z) λi l hm=>(h.pm i l hm).1
 rw[nil_append]at this;have c:stM ns cs ws 0 []=⟨[],[],[]⟩:=by unfold stM;simp
 rw[c]at this;rw[this];unfold stM
 congr 2
 ·exact AC<|ey _
 ·exact AC (by rw[P.lc];exact ey _)
 ·apply F1
  intro k;rw[eG]
  by_cases hk:k<ns.length
  ·have b:k<ws.length:=by rw[P.lw];exact hk
   rw[r4 hk,cc (by rw[P.lw];exact hk)]
   show some (if k∈M.filterMap Mx.si then ws.getD k 0 else 0)=some ws[k]
   have a:ws.getD k 0=ws[k]'(by rw[P.lw];exact hk):=by rw[b4,cc (by rw[P.lw];exact hk)];rfl
   by_cases hb:iF ns.length (ws.getD k 0)=[]
   ·rw[if_neg (λz=>((h.al k).mp z).2.2 hb)]
    have:=oq (ws.getD k 0) ns.length
    rw[hb,mod_eq_of_lt<|P.Tt k hk]at this;rw[<-a,<-this];rfl
   ·rw[if_pos ((h.al k).mpr ⟨hd k hk,hk,hb⟩),a]
  ·rw[ls (by rw[j6];omega),ls (by rw[P.lw];omega)]
   rfl
noncomputable abbrev dY(ns:List Str)(cs:List Nat)(x:Mx):Str:=lu<|fk ns cs x
def getD_inj(P:iy ns cs ws){j:Nat}(hi:i<ns.length)(hj:j<ns.length)(e:ns.getD i aX=ns.getD j aX):i=j:=by
 rw[b4,b4,cc hi,cc hj]at e;exact(getElem_inj P.nm.nd).mp e
def pH(P:iy ns cs ws){j:Nat}(hj:j<ns.length):jD (fk ns cs<|.dG j):=by
 have hc:cs.getD j 0∈cs:=by
  rw[b4,cc (by rw[P.lc];exact hj)];exact pS _
 exact⟨P.nm.nm _<|getD_memS hj,P.TU _ hc⟩
theorem G8(P:iy ns cs ws):∀ {l:d_},l.Nodup->(∀j∈l,j<ns.length)->(l.map λj=>ns.getD j aX).Nodup
 | [],_,_=>.nil
 |x::r,h,a=>by
  have b:=wh.mp h;rw[qb,wh];refine⟨λz=>?_,G8 P b.2 λj hj=>a j<|fN _ hj⟩;obtain⟨j,hj,e⟩:=kc.mp z
  have:=getD_inj P (a j<|fN _ hj) (a x gc) e
  exact b.1<|this ▸ hj
def ou(P:iy ns cs ws)(hi:i<ns.length)(hp:l.Perm (iF ns.length<|ws.getD i 0))(hl:l≠[]):jD (fk ns cs<|.sees i l):=by
 have hm:∀j∈l,j<ns.length/\ws.getD i 0 / 2 ^ j%2=1:=λj hj=>jt.mp<|hp.mem_iff.mp hj;have a:l.Nodup:=hp.nodup_iff.mpr<|Pu _ _;have b:i∉l:=λz=>by have:=(hm i z).2;rw[P.ND i hi]at this;cases this
 have c:l.length<=ns.length:=by
  rw[hp.length_eq];unfold iF
  have:=ya (λj=>decide<|ws.getD i 0 / 2 ^ j%2=1)<|List.range ns.length
  rw[j6]at this;exact this
 have f:=P.nm.eD;have d:0<l.length:=FM.mpr hl;have e:(ns.getD i aX::l.map λj=>ns.getD j aX)=(i::l).map λj=>ns.getD j aX:=rfl;show Us (ns.getD i aX::l.map λj=>ns.getD j aX);rw[e];refine⟨by rw[b5,kf];omega,by rw[b5,kf];omega,G8 P (wh.mpr ⟨b,a⟩) ?_,?_⟩
 ·intro j hj
  rcases gz.mp hj with z|z
  ·rw[z];exact hi
  ·exact(hm j z).1
 ·intro x hx;obtain⟨j,hj,rfl⟩:=kc.mp hx
  rcases gz.mp hj with z|z
  ·rw[z];exact P.nm.nm _<|getD_memS hi
  ·exact P.nm.nm _<|getD_memS (hm j z).1
def ux{j:Nat}:Mx.dG j∈M↔j∈M.filterMap Mx.hi:=by
 rw[List.mem_filterMap]
 constructor
 ·intro h;exact⟨_,h,rfl⟩
 ·rintro⟨x,hx,e⟩
  cases x with
  |dG k=>cases e;exact hx
  |sees i l=>cases e
def c8.pI(P:iy ns cs ws)(h:c8 ns ws done M):∀x∈M,jD (fk ns cs x):=by
 intro x hx
 cases x with
 |dG j=>
  have:=ux.mp hx
  rw[h.fR]at this;exact pH P<|mv.mp this
 |sees i l=>exact ou P (h.pm i l hx).2.1 (h.pm i l hx).1 (h.pm i l hx).2.2
def c8.lx(P:iy ns cs ws)(h:c8 ns ws done M):∀x∈M.map (fk ns cs),jD x:=by
 intro x hx;obtain⟨y,hy,rfl⟩:=kc.mp hx;exact h.pI P y hy
def G9{y:Ln}(hx:jD x)(hy:jD y)(e:lu x=lu y):lM x=lM y:=by
 have f:∀ {z:Ln},jD z->Txt.split (lu z) ⟨#[32]⟩=lM z:=λ{z} a=>fD 32 (by intro w;have:=(g9 a).2.2;rw[w]at this;exact absurd this a_) λy hy=>((g9 a).1 y hy).1
 rw[<-f hx,<-f hy,e]
def Px(P:iy ns cs ws)(h:c8 ns ws done M){x:Mx}{j:Nat}(hx:x∈M)(hj:j<ns.length)(e:dY ns cs x=dY ns cs (.dG j)):x=.dG j:=by
 have w:=G9 (h.pI P x hx) (pH P hj) e
 cases x with
 |dG k=>
  have hk:k<ns.length:=by
   have:=ux.mp hx
   rw[h.fR]at this;exact mv.mp this
  have w:[("hat":Str),ns.getD k aX,gL<|cs.getD k 0]=[("hat":Str),ns.getD j aX,gL<|cs.getD j 0]:=w;have a:ns.getD k aX=ns.getD j aX:=(UF (UF w).2).1;rw[getD_inj P hk hj a]
 |sees i l=>
  have w:("sees":Str)::_=("hat":Str)::_:=w;exact absurd (UF w).1 Dk0
def c8.idx(P:iy ns cs ws)(h:c8 ns ws done M){j:Nat}(hj:j<ns.length):dY ns cs (.dG j)∈M.map (dY ns cs)/\(M.map<|dY ns cs).idxOf (dY ns cs<|.dG j)<M.length/\∀q,(M.map<|dY ns cs).idxOf (dY ns cs<|.dG j)<q->j∈(M.take q).filterMap Mx.hi:=by
 have hm:Mx.dG j∈M:=ux.mpr (by rw[h.fR];exact mv.mpr hj)
 have h1:dY ns cs (.dG j)∈M.map (dY ns cs):=kc.mpr ⟨_,hm,rfl⟩;have a:=C2.mpr h1;rw[b5]at a;refine⟨h1,a,λq hq=>?_⟩;have e:=Vy (xs:=M.map<|dY ns cs) (x:=dY ns cs<|.dG j) (by rw[b5];exact a)
 rw[List.getElem_map]at e;have hx:=Px P h (pS a) hj e;refine ux.mp ?_;rw[<-hx];refine fA (i:=(M.map<|dY ns cs).idxOf<|dY ns cs<|.dG j) ?_;rw[List.getElem?_take_of_lt hq];exact cc a
def c8.start:c8 ns ws (λ_=>False) ((List.range ns.length).map Mx.dG):=by
 have f:∀l:d_,(l.map Mx.dG).filterMap Mx.hi=l:=λl=>by
  induction l with
  |nil=>rfl
  |cons a r b=>rw[qb,tp];show a::_=_;rw[b]
 have c:∀l:d_,(l.map Mx.dG).filterMap Mx.si=[]:=λl=>by
  induction l with
  |nil=>rfl
  |cons a r b=>rw[qb,tp];exact b
 have d:∀(l S:d_),uu S (l.map Mx.dG):=λl=>by
  induction l with
  |nil=>intro S;trivial
  |cons a r b=>intro S;exact b<|S++[a]
 refine⟨d _ _,f _,by rw[c];exact .nil,λi l hm=>?_,λi=>?_⟩
 ·obtain⟨k,_,e⟩:=kc.mp hm;cases e
 ·rw[c];exact⟨(λz=>nomatch z),λz=>z.1.elim⟩
def c8.ins{done done':Nat->Prop}{M:List Mx}(h:c8 ns ws done M){q i:Nat}{l:d_}(hi:i<ns.length)(hd:¬done i)(hp:l.Perm (iF ns.length<|ws.getD i 0))(hl:l≠[])(hq:∀j∈i::l,j∈(M.take q).filterMap Mx.hi)(hdd:∀x,done' x↔done x∨x=i):
  c8 ns ws done' (dA M q<|.sees i l) where
 ok:=K2 h.ok (hq i gc) λj hj=>hq j (fN _ hj)
 fR:=by rw[Pw];exact h.fR
 nd:=G0.nodup_iff.mpr (wh.mpr ⟨λz=>hd ((h.al i).mp z).1,h.nd⟩)
 pm:=λk m hm=>by
  rcases K3.mp hm with e|e
  ·cases e;exact⟨hp,hi,hl⟩
  ·exact h.pm k m e
 al:=λk=>by
  rw[G0.mem_iff,gz,h.al k,hdd]
  constructor
  ·rintro(rfl|⟨a,b,c⟩)
   ·exact⟨.inr rfl,hi,λz=>hl (by rw[z]at hp;exact hp.eq_nil)⟩
   ·exact⟨.inl a,b,c⟩
  ·rintro⟨a|a,b,c⟩
   ·exact .inr ⟨a,b,c⟩
   ·exact .inl a
def c8.skip{done':Nat->Prop}(h:c8 ns ws done M)(hb:iF ns.length (ws.getD i 0)=[])(hdd:∀x,done' x↔done x∨x=i):c8 ns ws done' M where
 ok:=h.ok
 fR:=h.fR
 nd:=h.nd
 pm:=h.pm
 al:=λk=>by
  rw[h.al k,hdd]
  constructor
  ·rintro⟨a,b,c⟩;exact⟨.inl a,b,c⟩
  ·rintro⟨a|a,b,c⟩
   ·exact⟨a,b,c⟩
   ·rw[a]at c;exact absurd hb c
def dB{k:Nat}(h:k<l.length):((aE l).map V.int).getD k .bA=.int ((l.getD k 0:Nat):Int):=by
 unfold aE;rw[b4,eG,eG,cc h,b4,cc h];rfl
def cL{α:Type}(g:Nat->α)(l:d_):((List.range l.length).map λi=>g<|l.getD i 0)=l.map g:=by
 apply F1
 intro i
 by_cases hi:i<l.length
 ·rw[eG,r4 hi,eG,cc hi];show some (g<|l.getD i 0)=some (g l[i]);rw[b4,cc hi];rfl
 ·rw[ls (by rw[b5,j6];omega),ls (by rw[b5];omega)]
def dC{k:Nat}(h:k<l.length):l.getD k 0∈l:=by
 rw[b4,cc h];exact pS h
def uy(K:Frag):Sp:=λa H Q _=>∃(b dr:Addr) (ns:f_) (cs ws:d_) (dn:e_),a=[.ref b,.ref dr]/\jM H b ns cs ws/\iy ns cs ws/\H dr=some (.lst<|dn.map V.int)/\dn.length=26/\(∀x∈dn,0<=x)/\
 ∀l M H',ag H H'->H' l=some (.lst<|(M.map<|dY ns cs).map V.str)->c8 ns ws (λi=>i<ns.length) M->M.length<=16->Q (.ref l) H'
def Sf(H0:Hp)(b dr a1 a2 a3 l:Addr)(ns:f_)(cs:d_)(k:Nat)(σ:St)(H:Hp):Prop:=∃y6 y7 y8 y9 y10 y11 y12:v_,σ=[some (.ref b),some<|.ref dr,some<|.ref a1,some<|.ref a2,some<|.ref a3,some<|.ref l,y6,y7,y8,y9,y10,y11,y12]/\ag H0 H/\H l=some (.lst<|(((List.range k).map Mx.dG).map<|dY ns cs).map V.str)
def Sg(H0:Hp)(b dr a1 a2 a3 l o:Addr)(ns:f_)(cs ws od:d_)(k:Nat)(σ:St)(H:Hp):Prop:=∃(M:List Mx) (y6 y8 y9 y10 y11 y12:v_),σ=[some (.ref b),some<|.ref dr,some<|.ref a1,some<|.ref a2,some<|.ref a3,some<|.ref l,y6,some<|.ref o,y8,y9,y10,y11,y12]/\ag H0 H/\H o=some (.lst<|(aE od).map V.int)/\H l=some (.lst<|(M.map<|dY ns cs).map V.str)/\c8 ns ws (λi=>i∈od.take k) M/\M.length<=ns.length+k
def Sh(H0:Hp)(b dr a1 a2 a3 l:Addr)(ns:f_)(cs:d_)(σ:St)(H:Hp):Prop:=∃(o:Addr) (od:d_) (y6 y8 y9 y10 y11 y12:v_),σ=[some (.ref b),some<|.ref dr,some<|.ref a1,some<|.ref a2,some<|.ref a3,some<|.ref l,y6,some<|.ref o,y8,y9,y10,y11,y12]/\ag H0 H/\H l=some (.lst<|(((List.range ns.length).map Mx.dG).map<|dY ns cs).map V.str)/\H o=some (.lst<|(aE od).map V.int)/\od.Perm (List.range ns.length)/\l≠o
def Si(H0:Hp)(b dr a1 a2 a3 l o:Addr)(i:Nat)(bt:d_)(σ:St)(H:Hp):Prop:=∃(s:Addr) (sm:d_) (y6 y10 y11 y12:v_),σ=[some (.ref b),some<|.ref dr,some<|.ref a1,some<|.ref a2,some<|.ref a3,some<|.ref l,y6,some<|.ref o,some<|.int (i:Int),some<|.ref s,y10,y11,y12]/\ag H0 H/\H s=some (.lst<|(aE sm).map V.int)/\sm.Perm bt
variable{od:d_}
def C9{k:Nat}(hk:k<od.length)(x:Nat):x∈od.take (k+1)↔x∈od.take k∨x=od.getD k 0:=by
 rw[mi 0 hk,ih,ek]
def Ha(nd:od.Nodup){k:Nat}(hk:k<od.length):od.getD k 0∉od.take k:=λz=>by
 have e:od.getD k 0=od[k]:=by rw[b4,cc hk];rfl
 rw[e]at z;obtain⟨j,hj,a⟩:=C4 z;rw[getElem_take]at a;rw[rr]at hj
 have:=(getElem_inj nd).mp a
 omega
def Sj{tc:TT}{te:TE}{rest:St}{J:It}{H1:Hp}{item:Nat->V}(ok:vX J H1 n item)(hn:n<sizeLine)
  (step:∀i H (B:r_) (A:q_),i<n->ag H1 H->B H->tc (some (item i)::rest) H λb H3=>if b=true then te (some (item i)::rest) H3 A else B H3)
  (fin:∀B_ H,ag H1 H->H B_=some (.lst [])->Q (.ref B_) H):vB (bF 0) tc te (none::rest) Q J H1:=
 qF ok (λ_=>false) (λ_=>.bA) hn (λi H A B hi c _ d=>step i H B A hi c<|d rfl _<|ag.refl _) λB_ H _ c a=>fin B_ H c (by rw[a];simp)
def Sk:V->Hp->VK->Prop:=λx H Q=>(∃y,x=.str y/\y.length<=sizeLine/\Q (.str y) H)∨(∃i:Int,x=.int i/\i.natAbs.log2<1920/\Q (.str<|Str.ofString<|toString i) H)
def Sl(tv:TE):TE:=λσ H Q=>tv σ H λx H1=>Sk x H1 Q
variable{v:Expr}{tv:TE}
def K5(hv:QE X v tv):QE X (.FormattedValue v (-1) none pos) (Sl tv):=⟨by
 intro a s σ H Q I h;refine FormattedValue_plain<|bN (hv.h a s σ H _ I h) λu g ⟨x,H1,b,c,d⟩=>?_
 rcases d with ⟨y,rfl,hy,q⟩|⟨i,rfl,hi,q⟩
 ·obtain⟨t,rfl⟩:=c;exact formatField_str (λt' f=>⟨.str y,H1,b.kept (t':=f) λ_ _ e=>e,⟨_,rfl⟩,q⟩) hy
 ·obtain⟨t,rfl⟩:=c;exact formatField_int_small hi ⟨.str _,H1,b.kept (t':=_) λ_ _ e=>e,⟨_,rfl⟩,q⟩⟩
def Qs:List TE->Str->TE
 | [],a=>λ_ H Q=>a.length<=sizeLine/\Q (.str a) H
 |t::r,a=>λσ H Q=>t σ H λx H1=>∃y,x=.str y/\(a++y).length<=sizeLine/\Qs r (a++y) σ H1 Q
structure QJ(X:Cx)(es:i_)(ts:List TE):Prop where
 h:∀(B_:Str) (w_:aO0) (s:Shared) (σ:St) (H:Hp) (Q:VK),Inv X w_ σ H s->Qs ts B_ σ H Q->wpAny (model X.prog X.w) X.A (joinParts B_<|evalEach es X.env) (EP X w_ σ Q) X.xe s
def Hb:QJ X [] []:=⟨λa b s σ H Q I h=>joinParts_nil ⟨.str a,H,I.tok _,⟨_,rfl⟩,h.2⟩ h.1⟩
variable{t:TE}{ts:List TE}
def hJ{e:Expr}{es:i_}(he:QE X e t)(hr:QJ X es ts):QJ X (e::es) (t::ts):=⟨λb a s σ H Q I h=>by
 refine joinParts_cons (x:=eval e X.env) (rest:=evalEach es X.env)<|bN (he.h a s σ H _ I h) λu g ⟨x,H1,f,d,c⟩=>?_;obtain⟨y,rfl,hy,q⟩:=c;obtain⟨i,rfl⟩:=d;exact⟨hy,hr.h _ a g σ H1 Q f q⟩⟩
def MU{e e2:Expr}{es:i_}(h:QJ X (e::e2::es) ts):QE X (.JoinedStr (e::e2::es) pos) (Qs ts Str.empty):=⟨λa s σ H Q I q=>JoinedStr_many<|h.h Str.empty a s σ H Q I q⟩
def MV{σ:St} :Sl tv σ H Q=tv σ H λx H1=>Sk x H1 Q:=rfl
variable{B_:Str}
def MW{σ:St} :Qs [] B_ σ H Q=(B_.length<=sizeLine/\Q (.str B_) H):=rfl
def MX{r:List TE}{σ:St} :Qs (t::r) B_ σ H Q=t σ H λx H1=>∃y,x=.str y/\(B_++y).length<=sizeLine/\Qs r (B_++y) σ H1 Q:=rfl
def MY(K:Frag):V->Int->Int->Hp->VK->Prop:=λx a b H Q=>∃l xs,x=.ref l/\ay K H l xs/\b≠0/\∀(R:d_) p,H p=none->(R.filterMap λi=>xs[i]?).length<=sizeLine->Q (.ref p) (upd H p<|.lst<|R.filterMap λi=>xs[i]?)
def Hc(K:Frag)(te tl ts:TE):TE:=λσ H Q=>te σ H λx H1=>tl σ H1 λy c=>∃a,y=.int a/\ts σ c λz d=>∃b,z=.int b/\MY K x a b d Q
theorem sR{xs:u_}{its:f'}(r:Vals xs its):∀R:d_,Vals (R.filterMap λi=>xs[i]?)<|R.filterMap λi=>its[i]?
 | []=>.nil
 |k::R=>by
  have a:=sR r R;have c:=r.length;rw[tp,tp]
  by_cases hk:k<xs.length
  ·obtain⟨u,hu,b⟩:=r.get<|cc hk;rw[cc hk,hu];exact .cons b a
  ·rw[ls (by omega),ls (by omega)]
   exact a
variable{e lo st:Expr}{te tl ts:TE}{p2:Pos}
def K6{ops:Value->Value->f'}(he:PE X e te)(hlo:PE X lo tl)(hs:PE X st ts)(hsub:∀o i,subscripted (.Slice (some lo) none (some st) p2) false o i=operate (ops o i) (getItem o i)):PE X (.Subscript e (.Slice (some lo) none (some st) p2) pos) (Hc X.K te tl ts):=by
 intro c s σ H Q I h;refine Subscript_<|bN (he c s σ H _ I h) λv P ⟨x,H1,O,r1,W⟩=>?_;refine wpAny_Slice ?_;rw[evalPart_some];refine bN (hlo c P σ H1 _ O W) λvl U ⟨y,G,N,Z,u⟩=>?_;obtain⟨f,rfl,u⟩:=u;rw[evalPart_none];refine fO ?_;rw[evalPart_some];refine bN (hs c U σ G _ N u) λvs l ⟨z,Y,F,r3,S⟩=>?_;obtain⟨g,rfl,a,D,rfl,hx,hb,q⟩:=S
 cases r1
 obtain⟨m,rfl⟩:=Z;obtain⟨t,rfl⟩:=r3;have p:Inv X c σ Y {l with heap:=l.heap.push {cls:=.type "slice",data:=.fields #[.int f m,.none,.int g t]}}:=F.kept (t':=l.toks) λb ob q=>ef _ q;obtain⟨d,r,B,hz⟩:=p.list hx;have C:=r.length;show wpAny (model X.prog X.w) X.A (subscriptTail e (.Slice (some lo) none (some st) p2) (.ref a)<|.ref l.heap.objs.size) (EP X c σ Q) X.xe {l with heap:=l.heap.push {cls:=.type "slice",data:=.fields #[.int f m,.none,.int g t]}};refine tail_any (T:="list") (ops:=ops (.ref a)<|.ref l.heap.objs.size) B.isList.typeIs slot_list_getitem.lookup ?_ (hsub _ _);refine wpAny_getItem_list_slice B.isList (Heap.IsSliceOf.new ..) (.int f m) .none (.int g t) (by simpa using hb) ?_ (by rw[gd]<;>omega)
 obtain⟨R,M⟩:∃R:d_,slicePick d.toArray (some f) none (some g)=(R.filterMap λi=>d[i]?).toArray:=by
  unfold slicePick;refine⟨sliceRange (sliceBounds (some f) none (some g) d.toArray.size).1 (sliceBounds (some f) none (some g) d.toArray.size).2.1 (sliceBounds (some f) none (some g) d.toArray.size).2.2,?_⟩;have J:(λk=>d.toArray[k]?)=(λk:Nat=>d[k]?):=by funext k;simp
  rw[J]
 have n:=slicePick_size_le d.toArray (some f) none<|some g;rw[M]at n ⊢;rw[gd,gd]at n;have E:=sR r R;have L:=E.length;have j:(R.filterMap λi=>D[i]?).length<=sizeLine:=by omega
 exact⟨.ref _,_,p.laid (t':=l.toks) (o:=.lst<|R.filterMap λi=>D[i]?) (λb ob q=>ef _ q) (ey _) ⟨j,_,0,E,h9 _ rfl⟩,rfl,q R _ (p.bf.fresh<|ey _) j⟩
def MZ{ops:Value->Value->f'}(he:QE X e te)(hlo:QE X lo tl)(hs:QE X st ts)(h:X.K=K)(hsub:∀o i,subscripted (.Slice (some lo) none (some st) p2) false o i=operate (ops o i) (getItem o i):=by intro _ _;with_unfolding_all rfl):QE X (.Subscript e (.Slice (some lo) none (some st) p2) pos) (Hc K te tl ts):=⟨by subst h;exact K6 he.h hlo.h hs.h hsub⟩
def Hd{σ:St} :Hc K te tl ts σ H Q=te σ H λx H1=>tl σ H1 λy H2=>∃a,y=.int a/\ts σ H2 λz H3=>∃b,z=.int b/\MY K x a b H3 Q:=rfl
def sS(ns:e_)(R:d_):(R.filterMap λi=>(ns.map V.int)[i]?)=(R.filterMap λi=>ns[i]?).map V.int:=by
 rw[List.map_filterMap];have a:(λi=>(ns.map V.int)[i]?)=(λi:Nat=>Option.map V.int ns[i]?):=by funext k;rw[eG]
 rw[a]
noncomputable def bh(ns:f_)(ws:d_):List Mx:=(List.range ns.length).map Mx.dG++((List.range ns.length).filter λi=>decide<|ws.getD i 0≠0).map λi=>.sees i<|iF ns.length<|ws.getD i 0
def wY(P:iy ns cs ws)(hi:i<ns.length):iF ns.length (ws.getD i 0)≠[]↔ws.getD i 0≠0:=by
 have a:=oq (ws.getD i 0) ns.length;rw[mod_eq_of_lt (P.Tt i hi)]at a
 constructor
 ·intro h z;refine h ?_
  apply List.eq_nil_iff_forall_not_mem.mpr
  intro j hj
  have:=(jt.mp hj).2
  rw[z,Nat.zero_div]at this
  cases this
 ·intro h z;rw[z]at a;exact h a.symm
theorem uz:∀l:d_,(l.map Mx.dG).filterMap Mx.hi=l
 | []=>rfl
 |a::r=>by rw[qb,tp];show a::_=_;rw[uz r]
theorem uA:∀l:d_,(l.map Mx.dG).filterMap Mx.si=[]
 | []=>rfl
 |a::r=>by rw[qb,tp];exact uA r
theorem BH(g:Nat->d_):∀l:d_,(l.map λi=>Mx.sees i<|g i).filterMap Mx.hi=[]
 | []=>rfl
 |a::r=>by rw[qb,tp];exact BH g r
theorem uB(g:Nat->d_):∀l:d_,(l.map λi=>Mx.sees i<|g i).filterMap Mx.si=l
 | []=>rfl
 |a::r=>by rw[qb,tp];show a::_=_;rw[uB g r]
theorem ow(g:Nat->d_)(S:d_):∀l:d_,(∀i∈l,i∈S/\∀j∈g i,j∈S)->uu S (l.map λi=>Mx.sees i<|g i)
 | [],_=>trivial
 |a::r,h=>⟨h a gc,ow g S r λi hi=>h i<|fN _ hi⟩
theorem BI:∀(l S:d_),uu S<|l.map Mx.dG
 | [],_=>trivial
 |a::r,S=>BI r<|S++[a]
def cU(P:iy ns cs ws):c8 ns ws (λi=>i<ns.length) (bh ns ws) where
 ok:=by
  refine(fG _ _ _).mpr ⟨BI _ _,?_⟩;rw[uz,nil_append];refine ow _ _ _ λi hi=>⟨(rz.mp hi).1,λj hj=>mv.mpr (jt.mp hj).1⟩
 fR:=by unfold bh;rw[F2,uz,BH,Vj]
 nd:=by unfold bh;rw[F2,uA,uB,nil_append];exact VN.sublist filter_sublist
 pm:=λi l hm=>by
  unfold bh at hm
  rcases ih.mp hm with z|z
  ·obtain⟨k,_,e⟩:=kc.mp z;cases e
  ·obtain⟨k,hk,e⟩:=kc.mp z
   cases e
   have:=rz.mp hk
   exact⟨List.Perm.refl _,mv.mp this.1,(wY P<|mv.mp this.1).mpr<|qN this.2⟩
 al:=λi=>by
  unfold bh;rw[F2,uA,uB,nil_append,rz,mv,decide_eq_true_iff]
  constructor
  ·intro⟨a,b⟩;exact⟨a,a,(wY P a).mpr b⟩
  ·intro⟨_,a,b⟩;exact⟨a,(wY P a).mp b⟩
def fm:(bh ns ws).length<=2*ns.length:=by
 unfold bh
 have:=ya (λi=>decide<|ws.getD i 0≠0)<|List.range ns.length
 rw[j6]at this;rw[eR,b5,b5,j6]
 omega
def wZ:Sp:=λa H Q _=>∃(b:Addr) (ns:f_) (cs ws:d_),a=[.ref b]/\jM H b ns cs ws/\iy ns cs ws/\∀H',ag H H'->Q (.str<|dO<|(bh ns ws).map<|fk ns cs) H'
noncomputable def BJ(ns:f_)(ws:d_)(k:Nat):List Mx:=(List.range ns.length).map Mx.dG++((List.range k).filter λi=>decide<|ws.getD i 0≠0).map λi=>.sees i<|iF ns.length<|ws.getD i 0
def ly(ns:f_)(ws:d_)(k:Nat):BJ ns ws (k+1)=if ws.getD k 0≠0 then BJ ns ws k++[.sees k (iF ns.length<|ws.getD k 0)]else BJ ns ws k:=by
 unfold BJ;rw[GT,VJ,hI]
 by_cases c:ws.getD k 0≠0
 ·have e:(List.filter (λi=>decide<|ws.getD i 0≠0) [k])=[k]:=by
   rw[List.filter_cons,if_pos<|ed c];rfl
  rw[if_pos c,e,<-A4];rfl
 ·have e:(List.filter (λi=>decide<|ws.getD i 0≠0) [k])=[]:=by
   rw[List.filter_cons,if_neg (by rw[cv c];exact o6)];rfl
  rw[if_neg c,e,map_nil,Vj]
def K7(h:w<2 ^ n):ba w=iF n w:=by
 rw[<-sC h];unfold iF;have a:w.testBit=λj=>decide (w / 2 ^ j%2=1):=by funext j;exact q7
 rw[a]
def uC{l:f_}(h:∀x∈l,gK x):shaped (.list<|l.map PyData.str)=true:=mh
 (by simp[PyData.canLay0,wO l h])
 (by have:=g6 l;simp only[PyData.depth];omega)
def Sm(H0:Hp)(b a1 a2 a3 r:Addr)(ns:f_)(cs ws:d_)(k:Nat)(σ:St)(H:Hp):Prop:=∃y5 y6:v_,σ=[some (.ref b),some<|.ref a1,some<|.ref a2,some<|.ref a3,some<|.ref r,y5,y6]/\ag H0 H/\H r=some (.lst<|((BJ ns ws k).map<|dY ns cs).map V.str)
def Sn(H0:Hp)(t a1 r:Addr)(ns:f_)(cs ws:d_)(k:Nat)(σ:St)(H:Hp):Prop:=∃y3 y4 y5:v_,σ=[some (.ref t),some<|.ref a1,some<|.ref r,y3,y4,y5]/\ag H0 H/\H r=some (.lst<|((BJ ns ws k).map<|dY ns cs).map V.str)
def Fl(h:Heap)(a T C:Addr)(d:h_)(fl:Value):Prop:=
 ∃oe vs oT ts,h.get? a=some oe/\oe.cls=.ref C/\oe.dict=d/\oe.data=.fields vs/\vs[1]?=some (.ref T)/\T≠a/\h.get? T=some oT/\oT.data=.fields ts/\ts[3]?=some fl
def So(h:Heap)(H:Hp)(a T C:Addr)(d:h_):Prop:=Fl h a T C d .none/\H a=none/\H T=none
def lN(P:Program)(w:World):A0:=λb H s E e c=>
 ∃a T C d H',e=.ref a/\c.os=s.os/\AllBare c.gens/\Un (jF b) [] H H' s.heap c.heap/\iC P w H' c.heap/\s.heap.get? a=none/\s.heap.get? T=none/\So c.heap H' a T C d/\E (.ref C) d H'
variable{w:World}
def gM{P:Program} :Passes (lN P w) X E0:=λ_ _ _ _ _ _ _ h=>by
 obtain⟨_,_,_,_,_,_,_,_,_,_,_,_,_,q⟩:=h;exact q.elim
variable{fs bad:l_}{H0 H1:Hp}{h0 h1 h2:Heap}
def He(u:Un fs [] H0 H1 h0 h1)(hb:∀b∈bad,h0.get? b=none)(k:∀b o,h1.get? b=some o->b∉fs->b∉bad->h2.get? b=some o)
  (sl:∀b o,h1.get? b=some o->b∈fs->b∉bad->∃s,h2.get? b=some {o with slots:=s}):Un fs [] H0 H1 h0 h2:=by
 have d:∀b o,h0.get? b=some o->b∉bad:=λb o e z=>by rw[hb b z]at e;cases e
 refine⟨λb o e n a hx=>k b o (u.keep b o e n a hx) a<|d b o e,λb o e n a hx=>?_,u.free,λb o e hx=>?_,u.qT,u.qh,u.qQ⟩
 ·obtain⟨i,c⟩:=u.slot b o e n a hx;obtain⟨g,f⟩:=sl b _ c a<|d b o e;exact⟨g,f⟩
 ·obtain⟨h,c⟩:=u.there b o e hx
  by_cases a:b∈fs
  ·obtain⟨g,f⟩:=sl b _ c a<|d b o e;exact⟨_,f⟩
  ·exact⟨_,k b _ c a<|d b o e⟩
variable{P:Program}
def BK(x:iC P w H1 h1)(k:∀b o,h1.get? b=some o->b∉fs->b∉bad->h2.get? b=some o)(nf:∀b∈fs,H1 b=none)(nb:∀b∈bad,H1 b=none):iC P w H1 h2:=λa o e=>
 (x a o e).tq (λb u hb q=>k b u q (λz=>by
  rcases hb with rfl|hb
  ·rw[nf b z]at e;cases e
  ·rw[nf b z]at hb;cases hb) (λz=>by
  rcases hb with rfl|hb
  ·rw[nb b z]at e;cases e
  ·rw[nb b z]at hb;cases hb)) (λ_ q=>q) λ_ _ q=>q
variable{h:Heap}
def iC.there{o:HO}(x:iC P w H h)(e:H a=some o):∃u,h.get? a=some u:=by
 have z:=x a o e
 cases o with
 |lst c=>obtain⟨_,_,_,_,e⟩:=z;exact⟨_,e⟩
 |tup c=>obtain⟨_,_,_,o,e,_⟩:=z;exact⟨_,e⟩
 |dK b=>obtain⟨_,_,_,_,o,_,_,e,_⟩:=z;exact⟨_,e⟩
 |dT b=>obtain⟨_,_,_,_,o,_,_,e,_⟩:=z;exact⟨_,e⟩
 |set S n=>obtain⟨o,_,_,_,e,_⟩:=z;exact⟨_,e⟩
 |ins C d fs=>obtain⟨_,_,_,e,_⟩:=z;exact⟨_,e⟩
 |own y=>exact z
 |xd fs=>obtain⟨_,⟨_,_,_,e,_⟩,_⟩:=z;exact⟨_,e⟩
 |Ja g hi=>obtain⟨_,_,_,e⟩:=z;exact⟨_,e⟩
 |iE ob u=>obtain⟨e,_⟩:=z;exact⟨_,e⟩
 |NH i=>exact⟨_,z⟩
 |met f y=>exact⟨_,z⟩
 |ext φ=>obtain⟨_,e,_⟩:=z;exact e
def iC.Hf(x:iC P w H h)(e:h.get? a=none):H a=none:=by
 cases q:H a with
 |none=>rfl
 |some o=>obtain⟨u,z⟩:=x.there q;rw[e]at z;cases z
def Dc(o:Obj)(f):(o.mapFields f).dict=o.dict:=by
 cases o with
 |mk c d dt a=>cases dt<;>rfl
def Kept(l:l_)(bad:l_)(h h':Heap):Prop:=(∀b o,h.get? b=some o->b∉l->b∉bad->h'.get? b=some o)/\∀b o,h.get? b=some o->b∉bad->∃sl,h'.get? b=some {o with slots:=sl}
variable{l:l_}
def Kept.trans{bad':l_}(x:Kept l bad h h1)(y:Kept l bad' h1 h2)(hs:∀b o,h.get? b=some o->b∈bad'->b∈bad):Kept l bad h h2:=by
 refine⟨λb o e c a=>y.1 b o (x.1 b o e c a) c λz=>a<|hs b o e z,λb o e a=>?_⟩;obtain⟨i,f⟩:=x.2 b o e a;obtain⟨g,d⟩:=y.2 b _ f λz=>a<|hs b o e z;exact⟨g,d⟩
variable{M:Model}{base:Heap}{env:Env}{outer:List Env}{L C:Addr}{d:h_}{Q:Unit->Shared->Prop}{oe:Obj}
def sT{vs:k_}{head:Value}{nx:Bool}(hfr:A.frames=some (env::outer))(hl:s.heap.FunFrames base (env::outer))(hf:env.frame=some L)
  (he:s.heap.get? a=some oe) (hc:oe.cls=.ref C) (hdi:oe.dict=d) (hd:oe.data=.fields vs) (hsz:1<vs.size)
  (h:∀h' T,s.heap.get? T=none->Fl h' a T C d (rawInt L)->Kept (jF (env::outer)) [a] s.heap h'->Q () {s with heap:=h'}):
  wpAny M A (do let fr<-frameOf env;let pl<-entryPlaceOf L nx;let t<-EntryCells.newEntry head fr .none (rawInt L) .none pl;setField (.ref a) 1 t) Q E s:=by
 have x:a∉(env::outer).filterMap (·.frame):=λhm=>by
  obtain⟨_,o,r,hn⟩:=hl.mem hm;rw[he]at r;cases r;exact hn vs hd
 refine dy<|wpAny_frameOf_fun hfr hl hf λh1 g=>?_;refine dy<|wpAny_entryPlaceOf λpl f=>?_;unfold EntryCells.newEntry newFields;refine dy<|Vr ?_ (f.sizeOk5 _ _ _ _ _);have n:h1.get? a=some oe:=(g.2.1 a x).trans he;have lt:a<h1.objs.size:=lt_size n;generalize p:({cls:=.type "traceback",dict:=none,data:=.fields ([head,.ref L,.none,rawInt L,.none]++(if pl.isEmpty then List.replicate 6 Value.none else pl)).toArray}:Obj)=oT
 have j:oT.isFreed=false:=by rw[<-p];rfl
 have m:(h1.push oT).get? a=some oe:=ef _ n;have v:(h1.push oT).get? h1.objs.size=some oT:=h9 h1 j;refine wpAny_setField m hd hsz<|h _ h1.objs.size (Heap.get?_none_of_le<|Nat.le_of_eq g.1.symm) ?_ ⟨λb o l u i=>?_,λb o l i=>?_⟩
 ·have ne:h1.objs.size≠a:=VF lt;have e:=Vl hd (·.setIfInBounds 1 (Value.ref h1.objs.size));refine⟨_,_,oT,_,get?_update_self _ m<|Obj.isFreed_of_fields e,(Obj.cls_mapFields _ _).trans hc,(Dc _ _).trans hdi,e,by simp[hsz],ne,(Pi _ _ ne.symm).trans v,by rw[<-p],?_⟩
  first|(simp;done)|(rcases f with rfl|⟨_,_,_,_,_,_,_,rfl⟩<;>simp)
 ·have c:b≠a:=λz=>i (by rw[z];exact gc)
  rw[Pi _ _ c.symm];exact ef _<|(g.2.1 b u).trans l
 ·have c:b≠a:=λz=>i (by rw[z];exact gc)
  obtain⟨w,q⟩:=g.2.2 b o l;refine⟨w,?_⟩;rw[Pi _ _ c.symm];exact ef _ q
def zC{vs:k_}(hfr:A.frames=some (env::outer))(hl:s.heap.FunFrames base (env::outer))(hf:env.frame=some L)
  (he:s.heap.get? a=some oe) (hc:oe.cls=.ref C) (hdi:oe.dict=d) (hd:oe.data=.fields vs) (h1:vs[1]?=some .none)
  (h:∀h' T,s.heap.get? T=none->Fl h' a T C d (rawInt L)->Kept (jF (env::outer)) [a] s.heap h'->Q () {s with heap:=h'}):wpAny M A (noteFrame (.ref a) env) Q E s:=by
 unfold noteFrame;simp only[hf];refine dy<|KE he hd h1 ?_;rw[if_neg a_]
 exact sT hfr hl hf he hc hdi hd (Da.mp h1).1 h
def BL{T:Addr}(hfr:A.frames=some (env::outer))(hl:s.heap.FunFrames base (env::outer))(hf:env.frame=some L)(f:Fl s.heap a T C d .none)
  (h:∀h' T',s.heap.get? T'=none->Fl h' a T' C d (rawInt L)->Kept (jF (env::outer)) [a,T] s.heap h'->Q () {s with heap:=h'}):wpAny M A (noteFrame (.ref a) env) Q E s:=by
 obtain⟨F,t,D,w,he,hc,l,v,h1,r,i,g,u⟩:=f;unfold noteFrame;simp only[hf];refine dy<|KE he v h1 ?_;rw[if_pos (show(Value.ref T != Value.none)=true from by simp)]
 refine dy<|KE i g u ?_;rw[if_neg (show ¬((Value.none==rawInt L)=true)from by simp[rawInt])]
 refine dy<|wpAny_setField i g (Da.mp u).1 ?_;have c:∀b,b≠T->(s.heap.update T (Obj.mapFields (·.setIfInBounds 3 Value.none))).get? b=s.heap.get? b:=λb hb=>Pi _ _ hb.symm;have B:Kept (jF (env::outer)) [a,T] s.heap (s.heap.update T (Obj.mapFields (·.setIfInBounds 3 Value.none))):=by
  refine⟨λb o e _ n=>(c b λz=>n (by simp[z])).trans e,λb o e n=>⟨o.slots,(c b λz=>n (by simp[z])).trans e⟩⟩
 have p:∀b o,s.heap.get? b=some o->(∀t,o.data≠.fields t)->b≠T:=λb o hb hn q=>by rw[q,i]at hb;cases hb;exact hn w g
 refine sT hfr (hl.of_keeps λb o hb hn=>⟨o,(c b<|p b o hb hn).trans hb,rfl⟩) hf ((c a r.symm).trans he) hc l v (Da.mp h1).1 λh' T' j y x=>?_;refine h h' T' ?_ y (B.trans x λb _ _ z=>by rw[ek.mp z];exact gc)
 have m:T'≠T:=λz=>by
  rw[z,get?_update_self _ i<|Obj.isFreed_of_fields<|Vl g _]at j
  cases j
 rw[<-c T' m];exact j
def fS{T:Addr}{fl:Value}(f:Fl s.heap a T C d fl)(h:∀h',Fl h' a T C d .none->Kept l [T] s.heap h'->Q () {s with heap:=h'}):wpAny M A (setFlight (.ref a) none) Q E s:=by
 obtain⟨v,t,w,r,he,hc,m,q,h1,j,p,c,u⟩:=f;have i:3<r.size:=(Da.mp u).1;unfold setFlight;refine dy<|KE he q h1 ?_;rw[if_pos (show(Value.ref T != Value.none)=true from by simp)]
 have g:∀b,b≠T->(s.heap.update T (Obj.mapFields (·.setIfInBounds 3 ((none:h_).elim Value.none λf=>rawInt f)))).get? b=s.heap.get? b:=λb hb=>Pi _ _ hb.symm;refine wpAny_setField p c i (h _ ⟨v,t,_,_,(g a j.symm).trans he,hc,m,q,h1,j,get?_update_self _ p<|Obj.isFreed_of_fields<|Vl c _,Vl c _,by simp[i]⟩ ?_)
 exact⟨λb o e _ n=>(g b λz=>n (by simp[z])).trans e,λb o e n=>⟨o.slots,(g b λz=>n (by simp[z])).trans e⟩⟩
def w4{vs:k_}(hfr:A.frames=some (env::outer))(hl:s.heap.FunFrames base (env::outer))(hf:env.frame=some L)
  (he:s.heap.get? a=some oe) (hc:oe.cls=.ref C) (hdi:oe.dict=d) (hd:oe.data=.fields vs) (h1:vs[1]?=some .none)
  (h:∀h' T,s.heap.get? T=none->Fl h' a T C d .none->Kept (jF (env::outer)) [a] s.heap h'->Q () {s with heap:=h'}):wpAny M A (leaving env<|.ref a) Q E s:=by
 unfold leaving;refine dy<|zC hfr hl hf he hc hdi hd h1 λh' T c f k=>?_;refine fS (l:=jF (env::outer)) f λg j i=>h g T c j<|k.trans i λb o e z=>?_;rw[ek.mp z,c]at e;cases e
def Hg{T:Addr}(hfr:A.frames=some (env::outer))(hl:s.heap.FunFrames base (env::outer))(hf:env.frame=some L)(f:Fl s.heap a T C d .none)
  (h:∀h' T',s.heap.get? T'=none->Fl h' a T' C d .none->Kept (jF (env::outer)) [a,T] s.heap h'->Q () {s with heap:=h'}):wpAny M A (leaving env<|.ref a) Q E s:=by
 unfold leaving;refine dy<|BL hfr hl hf f λh' T' c f k=>?_;refine fS (l:=jF (env::outer)) f λg j i=>h g T' c j<|k.trans i λb o e z=>?_;rw[ek.mp z,c]at e;cases e
variable{mg:b_}{N:f_}{qual:Str}{scope:Scope}{f e:Addr}{cd:Value}{s0:Shared}{E:XK}{w_:aO0}
def BM{T:Addr}(I:Inv (fP (lN P w) P w K mg base N qual scope f cd A outer s0 H0 E) w_ σ H s)
  (hb:∀b∈bad,s0.heap.get? b=none/\H b=none) (k:Kept (jF (envOfC qual scope s0.heap.objs.size f cd::outer)) bad s.heap h2) (he:s0.heap.get? e=none) (nT:s.heap.get? T=none) (hH:H e=none)
  (fl:Fl h2 e T C d .none) (q:E (.ref C) d H):lN P w outer H0 s0 E (.ref e) {s with heap:=h2}:=by
 have h:∀b,b∉jF outer->b≠(envOfC qual scope s0.heap.objs.size f cd).locals->b∉jF (envOfC qual scope s0.heap.objs.size f cd::outer):=λb h1 h2 z=>by
  rcases gz.mp (I.tD b z)with z|z
  ·exact h2 z
  ·exact h1 z
 have a:∀b∈(envOfC qual scope s0.heap.objs.size f cd).locals::bad,s0.heap.get? b=none/\H b=none:=λb hm=>by
  rcases gz.mp hm with z|z
  ·rw[z];exact⟨Heap.get?_none_of_le<|ey _,I.free⟩
  ·exact hb b z
 have l:∀b o,s.heap.get? b=some o->b∉jF outer->b∉(envOfC qual scope s0.heap.objs.size f cd).locals::bad->h2.get? b=some o:=λb o g m j=>
  k.1 b o g (h b m λz=>j (by rw[z];exact gc)) λz=>j<|fN _ z
 have c:∀b∈jF outer,H b=none:=λb hm=>I.nS b (by
  show b∈jF (envOfC qual scope s0.heap.objs.size f cd::outer);unfold jF;rw[tp];exact fN _ hm)
 refine⟨e,T,C,d,H,rfl,I.os,I.bare,He I.base (λb hm=>(a b hm).1) l λb o g _ n=>k.2 b o g λz=>n<|fN _ z,BK I.bf l c λb hm=>(a b hm).2,he,?_,⟨fl,hH,I.bf.Hf nT⟩,q⟩
 cases z:s0.heap.get? T with
 |none=>rfl
 |some o=>
  obtain⟨p,i⟩:=I.base.there T o z (by simp[fP])
  rw[nT]at i;cases i
def ju(I:Inv (fP (lN P w) P w K mg base N qual scope f cd A outer s0 H0 E) w_ σ H s)(n:s.heap.get? a=none):s0.heap.get? a=none:=by
 cases z:s0.heap.get? a with
 |none=>rfl
 |some o=>
  obtain⟨c,b⟩:=I.base.there a o z (by simp[fP])
  rw[n]at b;cases b
def Dd{vs:k_}(I:Inv (fP (lN P w) P w K mg base N qual scope f cd A outer s0 H0 E) w_ σ H s)
  (he:s.heap.get? e=some oe) (n0:s0.heap.get? e=none) (hH:H e=none) (hc:oe.cls=.ref C) (hdi:oe.dict=d) (hd:oe.data=.fields vs) (h1:vs[1]?=some .none) (q:E (.ref C) d H):
  (fP (lN P w) P w K mg base N qual scope f cd A outer s0 H0 E).xe (.ref e) s:=by
 refine w4 (L:=s0.heap.objs.size) I.ok.frames I.stack rfl he hc hdi hd h1 λg T a c k=>?_;exact BM I (λb hb=>by rw[ek.mp hb];exact⟨n0,hH⟩) k n0 a hH c q
def pJ{args:f'}{h':Heap}(I:Inv (fP (lN P w) P w K mg base N qual scope f cd A outer s0 H0 E) w_ σ H s)(M:Heap.MadeExcOf s.heap h' e (.ref C) args)(q:E (.ref C) none H):
  (fP (lN P w) P w K mg base N qual scope f cd A outer s0 H0 E).xe (.ref e) {s with heap:=h'}:=by
 obtain⟨t,he,_,_⟩:=M.there;have a:Inv (fP (lN P w) P w K mg base N qual scope f cd A outer s0 H0 E) w_ σ H {s with heap:=h'}:=I.vE (ch:=[]) rfl (Un.kept M.keeps) (I.bf.kept M.keeps) I.bare λb z=>absurd z (by simp)
 exact Dd a he (ju I M.new) (I.bf.Hf M.new) rfl rfl rfl rfl q
def zD{s':Shared}{e:Value}(I:Inv (fP (lN P w) P w K mg base N qual scope f cd A outer s0 H0 E) w_ σ H s)(h:lN P w (envOfC qual scope s0.heap.objs.size f cd::outer) H s E e s'):
  (fP (lN P w) P w K mg base N qual scope f cd A outer s0 H0 E).xe e s':=by
 obtain⟨a,T,C,d,u,rfl,o,c,un,n,m,p,⟨r,l,t⟩,q⟩:=h;have j:Inv (fP (lN P w) P w K mg base N qual scope f cd A outer s0 H0 E) w_ σ u s':=I.vE (ch:=[]) o un n c λb z=>absurd z (by simp)
 refine Hg (L:=s0.heap.objs.size) j.ok.frames j.stack rfl r λx v g i k=>?_;refine BM j (λb hb=>?_) k (ju I m) g l i q
 rcases gz.mp hb with z|z
 ·rw[z];exact⟨ju I m,l⟩
 ·rw[ek.mp z];exact⟨ju I p,t⟩
def sV:Passes (lN P w) (fP (lN P w) P w K mg base N qual scope f cd A outer s0 H0 E) E:=λ_ _ _ _ _ _ I h=>zD I h
variable{E:c_}{g:Array GenState}{d:Drawn}{t:Nat}{os:OsState}{od:Option Obj}
def De{nv:Value}(X:K.In h)(I:PySem.W.InstAt h a oe C od)(hb:mroIn K C (.type "BaseException")=some true)(hq:Q () ⟨h,g,d,t,os⟩):
  wpAny M A (checkBuiltinCall "BaseException.__getattribute__" ⟨[.ref a,nv],[]⟩) Q E ⟨h,g,d,t,os⟩:=by
 have hk:builtinKind "BaseException.__getattribute__"=some .slot:=by decide +kernel
 have f:splitId "BaseException.__getattribute__"=some ("BaseException","__getattribute__"):=by decide +kernel
 have b:=I.type (M:=M);have c:=looks_mroIn (M:=M) X hb;have e:Looks M h (isInstance (.ref a)<|.type "BaseException") true:=b.andThen c;have i:=F.args_bexc_ga (.ref a) nv;simp only[checkBuiltinCall,hk,f];refine dy (e.at ?_)
 repeat (first|assumption|wp_step)
variable{name:Str}{v:Value}{tk:Tok}
def pK{gt at':Value}{Q:Fin->Shared->Prop}(X:K.In h)(I:PySem.W.InstAt h a oe C od)(hf:findObj K C od name=some (.bind gt at'))
  (hc:∀(A:Around) (R:Result->Shared->Prop) (s:Shared),s.heap=h->R (.ok<|.ret v) s->codeAny (model prog w) A (.call gt ⟨[at',.ref a,.ref C],[]⟩) R s) (hq:Q (.done<|.ret v) ⟨h,g,d,t,os⟩):
  wpAny (model prog w) A (Builtin.«object.__getattribute__» ⟨[.ref a,.str name tk],[]⟩) Q E ⟨h,g,d,t,os⟩:=by
 have b:=I.type (M:=model prog w);have c:=PySem.W.looks_find (M:=model prog w) X I hf;unfold Builtin.«object.__getattribute__»
 repeat (first|with_reducible refine b.at ?_|with_reducible refine c.at ?_|wp_step)
 refine hc _ _ _ rfl ?_
 repeat (first|assumption|wp_step)
structure Hh(K:Frag)(C:Addr):Prop where
 ga:findIn K (.ref C) "__getattribute__"=some (some<|.builtin "BaseException.__getattribute__")
 no:findIn K (.ref C) "__getattr__"=some none
 base:mroIn K C (.type "BaseException")=some true
def Py{fill expr:Bool}{Q:c_}(X:K.In h)(I:PySem.W.InstAt h a oe C od)(G:Hh K C)
  (hc:∀(A:Around) (Q:Fin->Shared->Prop) (E:c_),Q (.done<|.ret v) ⟨h,g,d,t,os⟩->wpAny (model prog w) A (Builtin.«object.__getattribute__» ⟨[.ref a,.str name tk],[]⟩) Q E ⟨h,g,d,t,os⟩)
  (hv:handedIn v=true) (hq:Q v ⟨h,g,d,t,os⟩):wpAny (model prog w) A (getAttrBy (.ref a) (.str name tk) fill expr) Q E ⟨h,g,d,t,os⟩:=by
 have i:=I.type (M:=model prog w);have j:=looks_findIn (M:=model prog w) X G.ga;have c:=looks_findIn (M:=model prog w) X G.no;have FB:=F.excAttr_ValueError;have l:=FB.ga.bind<|.ref a;have e:(expr&&onTheHeap (Value.builtin "BaseException.__getattribute__"))=false:=by cases expr<;>rfl
 have b:(Value.builtin "BaseException.__getattribute__" == Value.builtin "object.__getattribute__")=false:=by decide +kernel
 have f:(onTheHeap (Value.ref C)&&Value.builtin "BaseException.__getattribute__" == Value.builtin "object.__getattribute__")=false:=by rw[b];rfl
 unfold getAttrBy getAttrByItsOwn hookBefore
 repeat (first|with_reducible refine i.at ?_|with_reducible refine j.at ?_|with_reducible refine c.at ?_|assumption|wp_step)
 refine codeAny_call_builtin FB.ga.plain F.entry_bexc_ga<|De X I G.base<|hc _ _ _ ?_;exact PySem.W.handed_on hv hq
def zE(X:K.In h){t:Value}(z:mroIn K C t=some true):Looks M h (isType<|.ref C) true:=by
 unfold mroIn clsIn at z
 split at z
 ·rename_i c' d' cd' sl' ho
  intro c a d b k q;unfold isType loadHead;exact dy<|wpAny_loadPart (k _ _<|X _ _ ho)<|fO q
 ·cases z
structure uD(K:Frag)(C:Addr):Prop extends Hh K C where
 cl:findIn K (.ref C) "__class__"=some (some<|.builtin "object.__class__")
 gt:specialIn K (.builtin "object.__class__") "__get__"=some (some<|.builtin "getset_descriptor.__get__")
 tk:takesIn K (.builtin "object.__class__")=some true
 ob:mroIn K C (.type "object")=some true
def Df{Q:g_->Shared->Prop}(X:K.In h)(I:PySem.W.InstAt h a oe C od)(G:uD K C)(hq:Q (some<|.ref C) ⟨h,g,d,t+1,os⟩):
  wpAny (model prog w) A (getAttr? (.ref a) "__class__") Q E ⟨h,g,d,t,os⟩:=by
 have b:(clsIn K C).isSome=true:=by
  have z:=G.ob;unfold mroIn at z
  cases q:clsIn K C with
  |none=>rw[q]at z;cases z
  |some _=>rfl
 have c:findObj K C od "__class__"=some (.bind (.builtin "getset_descriptor.__get__")<|.builtin "object.__class__"):=by
  obtain⟨m,hc⟩:=Option.isSome_iff_exists.mp b;unfold findObj;rw[hc,bind_some,G.cl,bind_some]
  simp[G.gt,G.tk]
 unfold getAttr? getAttrBy?;refine dy<|wpAny_mkText<|dy<|wpAny_attempt ?_;refine Py (v:=.ref C) X I ⟨G.ga,G.no,G.base⟩ (λA Q E q=>pK X I c (λA R s e r=>?_) q) rfl ?_
 ·obtain⟨l,i,n,f,j⟩:=s
  cases e
  exact PySem.W.class_get X I G.ob r
 ·exact fO hq
def w6(G:uD K C):KitX K (.ref a) (.ref C) (λh=>PySem.W.InstAt h a oe C od) where
 ty:=λ_ _ _ I=>I.type
 it:=λ_ _ X _=>by
  have z:=G.ob;unfold mroIn clsIn at z
  split at z
  ·rename_i c' d' cd' sl' ho
   intro t p o r k q;unfold isType loadHead;exact dy<|wpAny_loadPart (k _ _<|X _ _ ho)<|fO q
  ·cases z
 ne:=λh c f d n i X b=>by
  have z:=G.ob;refine Vt.mpr λq=>?_;have e:C=c:=Value.ref.inj<|beq_iff_eq.mp q;subst e;unfold mroIn clsIn at z
  split at z
  ·rename_i c' d' cd' sl' ho
   have z:=(X _ _ ho).symm.trans b
   cases z
  ·cases z
 ca:=λ{_ _ _ _ _ s} X I k=>by
  obtain⟨m,j,f,g,l⟩:=s;exact Df X I G k
noncomputable def kj(x y:Str):Bool:=x==y||y == "HatError"||(y == "LineError"&&(x == "NoLine"||x == "Twice"||x == "Unknown"||x == "TooMany"))
noncomputable def Na(x:Str):Bool:=x == "LineError"||x == "NoLine"||x == "Twice"||x == "Unknown"||x == "TooMany"
noncomputable def Hi:f':=[.type "ValueError",.type "Exception",.type "BaseException",.type "object"]
noncomputable def Hj(K:Frag)(C:Addr):Bool:=
 findIn K (.ref C) "__getattribute__" == some (some<|.builtin "BaseException.__getattribute__")&&findIn K (.ref C) "__getattr__" == some none&&mroIn K C (.type "BaseException")==some true&&
 findIn K (.ref C) "__class__" == some (some<|.builtin "object.__class__")&&specialIn K (.builtin "object.__class__") "__get__" == some (some<|.builtin "getset_descriptor.__get__")&&
 takesIn K (.builtin "object.__class__")==some true&&mroIn K C (.type "object")==some true&&typeIn K (.ref C)==some (.type "type")&&kitOne K (.ref C) (.type "ValueError")==some true
def Dg(K:Frag)(C:Addr)(bmB:f')(newId:String):Bool:=(K.lookup C).any λo=>o.cls==.type "type"&&o.slots.size==6&&o.slots[4]? == some (some<|.builtin newId)&&(match o.data with
 |.cls a=>a.mro.head? == some (.ref C)&&!a.hasDel&&tailIn K bmB a.mro.tail&&nsOkIn K a.ns&&nsIn K a.ns "__init__" == some none
 |_=>false)
noncomputable def Nb(K:Frag)(names:f_)(er:Str->Addr):Bool:=
 names.all λx=>nsIn K mainGlobals x==some (some<|.ref<|er x)&&Hj K (er x)&&(Na x||Dg K (er x) Hi "ValueError.__new__")&&
  names.all λy=>kitOne K (.ref<|er x) (.ref<|er y)==some (kj x y)&&mroIn K (er x) (.ref<|er y)==some (kj x y)
structure ml(K:Frag)(mg:b_)(names:f_)(er:Str->Addr):Prop where
 gl:∀x∈names,mg x=some (.ref<|er x)
 cls:∀x∈names,uD K (er x)
 ty:∀x∈names,typeIn K (.ref<|er x)=some (.type "type")
 val:∀x∈names,kitOne K (.ref<|er x) (.type "ValueError")=some true
 own:∀x∈names,Na x=false->Dg K (er x) Hi "ValueError.__new__"=true
 Vf:∀x∈names,∀y∈names,kitOne K (.ref<|er x) (.ref<|er y)=some (kj x y)
 Ve:∀x∈names,∀y∈names,mroIn K (er x) (.ref<|er y)=some (kj x y)
variable{er:Str->Addr}
def K8{names:f_}(X:K.In h)(G:h.Ns mainGlobals mg)(e:Nb K names er=true):ml K mg names er:=by
 have z:∀x∈names,_:=j9.mp e;simp only[Bool.and_eq_true,Bool.or_eq_true,beq_iff_eq,Hj,List.all_eq_true]at z;refine⟨λx hx=>mg_of X G (z x hx).1.1.1,λx hx=>?_,λx hx=>(z x hx).1.1.2.1.2,λx hx=>(z x hx).1.1.2.2,λx hx hn=>?_,λx hx y hy=>((z x hx).2 y hy).1,λx hx y hy=>((z x hx).2 y hy).2⟩
 ·obtain⟨⟨⟨_,⟨⟨⟨⟨⟨⟨⟨⟨a,b⟩,c⟩,d⟩,e⟩,f⟩,g⟩,_⟩,_⟩⟩,_⟩,_⟩:=z x hx;exact⟨⟨a,b,c⟩,d,e,f,g⟩
 ·rcases(z x hx).1.2 with q|q
  ·rw[hn]at q;cases q
  ·exact q
end L2
namespace L2
open PySem PySem.Spec PyProof.Rows
inductive Sr(h:Heap)(C:Addr)(bmB:f')(newId:String):Prop
 |mk (bm N nm qn bs hdct sn sub ab col dd k0 k1 k2 k3 k5 mN) (o:h.get? C=some (excClassObj nm qn C N bs bm hdct sn sub ab col dd k0 k1 k2 k3 k5 newId)) (n:h.Ns N mN) (i:mN "__init__"=none) (t:OwnTail h bmB bm)
def six{α:Type}:∀ {l:List α},l.length=6->∃a b c d e f,l=[a,b,c,d,e,f]
 | [a,b,c,d,e,f],_=>⟨a,b,c,d,e,f,rfl⟩
variable{K:Frag}{h:Heap}{C:Addr}{bmB:f'}{newId:String}
def K9(X:K.In h)(q:Dg K C bmB newId=true):Sr h C bmB newId:=by
 unfold Dg at q;obtain⟨⟨y,H,s,⟨w⟩⟩,c,q⟩:=((Option.any_eq_true _ _).mp q);simp only[Bool.and_eq_true,beq_iff_eq]at q;obtain⟨⟨⟨j,n⟩,r⟩,q⟩:=q;obtain⟨J,u,x,A,F,B,e⟩:=six n;subst j e
 cases qa r
 have Y:=X _ _ c;clear c
 split at q
 next cd=>
  obtain⟨t,bs,a,E,v,D,I,g,G,l,o⟩:=cd;simp only[Bool.and_eq_true,beq_iff_eq,Bool.not_eq_true']at q;obtain⟨⟨⟨⟨d,i⟩,p⟩,b⟩,f⟩:=q;subst i
  cases a with
  |nil=>cases d
  |cons m z=>
   cases qa d
   exact⟨_,_,_,_,_,_,_,_,_,_,_,_,_,_,_,_,_,Y,Heap.Ns.of_isNs<|PySem.W.isNs_of_in X b,PySem.W.nsMap_none_of_in X b f,PySem.W.tail_of_in X p⟩
 next=>cases q
def Raises(X:Cx)(E:XK):Prop:=∀(w_:aO0) (σ:St) (H:Hp) (s:Shared) (e C:Addr) (args:f') (h':Heap),Inv X w_ σ H s->Heap.MadeExcOf s.heap h' e (.ref C) args->E (.ref C) none H->X.xe (.ref e) {s with heap:=h'}
def zF(E:XK)(C:Addr)(t:TA):TS:=λ_ σ H=>t σ H λa H1=>a.length<=sizeLine/\E (.ref C) none H1
variable{X:Cx}{E:XK}{x:Str}{np bR pos:Pos}{e:Expr}{es:i_}{t:TA}
def Hk(hc:X.calm=true)(hx:Raises X E)(hg:Gl X x)(hm:X.mg x=some (.ref C))(ho:Dg X.K C Hi "ValueError.__new__"=true)(ha:PA X (e::es) t)
  (hdb:(x==("__debug__":Str))=false:=by decide) (he:starEach (e::es) X.env=(false,eval e X.env)::starEach es X.env:=by rfl) (hpl:(backTo bR<|starEach es X.env).any (·.1)=false:=by rfl):
  PS X (.Raise (some<|.Call (.Name x np) (e::es) [] bR) none pos) (zF E C t):=by
 intro b s σ H D I h;have FB:ExcBaseFacts "ValueError" "ValueError.__new__" "ValueError.__init__" Hi:=PySem.F.excBase_ValueError;obtain⟨bm,N,nm,j,bs,hdct,sn,sub,ab,col,dd,k0,k1,k2,k3,k5,mN,i,g,d,T⟩:=K9 I.ok.mod.NG ho;refine wpAny_Raise_call_subT (C:=C) (nm:=nm) (q:=j) (N:=N) (bs:=bs) (bm:=bm) (hdct:=hdct) (sn:=sn) (sub:=sub) (ab:=ab) (col:=col) (dd:=dd) (k0:=k0) (k1:=k1) (k2:=k2) (k3:=k3) (k5:=k5)
  FB (mN:=mN) (T.hasType FB.hasBase) (I.ok.hd hc) ?_ d (kM I hg hm ⟨rfl,?_⟩ hdb)
 ·rw[he];show(false||(backTo bR<|starEach es X.env).any (·.1))=false;rw[hpl];rfl
 ·have z:=ha bR b s σ H _ I h;rw[he]at z ⊢;refine Calls.evalArgs_plain<|bN z λm o ⟨l,H1,c,r,f,q⟩=>?_;exact⟨rfl,by rw[<-r.length];exact f,c.bk _ _ i,g.keeps c.bk,T.keeps c.bk,λn a M=>hx _ _ _ _ _ _ _ _ c M q⟩
variable{b:Bool}
def Dh{M:Model}{A:Around}{E:c_}{g:Array GenState}{d:Drawn}{t:Nat}{os:OsState}{a D:Addr}{oe:Obj}{Q:Bool->Shared->Prop}(X:K.In h)
  (he:h.get? a=some oe) (hc:oe.cls=.ref C) (hD:typeIn K (.ref D)=some (.type "type")) (GD:uD K D) (hs:mroIn K C (.ref D)=some b) (hq:Q b ⟨h,g,d,t,os⟩):
  wpAny M A (excMatches (.ref a)<|.ref D) Q E ⟨h,g,d,t,os⟩:=by
 have e:Looks M h (typeOf<|.ref a) (.ref C):=hc ▸ (PySem.W.Looks.ld he).andThen .now;have l:=PySem.W.looks_typeIn (M:=M) X hD;have c:=looks_mroIn (M:=M) X GD.base;have i:=looks_mroIn (M:=M) X hs;have j:Looks M h (isType<|.ref D) true:=zE X GD.base;have f:=tc_notTuple;unfold excMatches isExcClass isInstance
 repeat (first|with_reducible refine e.at ?_|with_reducible refine l.at ?_|with_reducible refine c.at ?_|with_reducible refine i.at ?_|with_reducible refine j.at ?_|wp_step)
 all_goals (cases b<;>first|exact hq|(wp_walk;exact hq))
structure TQ(P:Program)(w:World)(K:Frag)(mg:b_)(base:Heap)(k:Nat)(x:Str)(ps:f_)(sp:Sp):Prop where
 ex:∃f fd,eh P w K mg base (lN P w) k f fd ps sp/\mg x=some (.ref f)/\keepIn K (.ref f)=true/\Binds K fd ps []
variable{P:Program}{w:World}{mg:b_}{base:Heap}{N ps G:f_}
def DS.UP{CX:A0}{sc:Scope}{q:Str}{f:Addr}{cy:Value}{A:Around}{outer:List Env}{s:Shared}{H:Hp}(D:DS sc N ps G):Sc (fP CX P w K mg base N q sc f cy A outer s H E) N N G:=
 ⟨rfl,D.fs.nd,λx hx=>tV<|D.Tx x hx,λx hx=>⟨D.loc x hx,.inl rfl⟩,λx hx=>yT<|D.gl x hx⟩
def Own(X:Cx):Prop:=X.stack=X.env::X.outer/\X.env.frame=some X.env.locals
variable{k:Nat}{sp:Sp}{st:Stmt}
def Def.ge(D:Def K mg x st)(S:DS (aj st) N ps G)
  (hb:∀(kV doc pm:Value) (an:h_) (cy ct:Value) (us:f'),us.length=ps.length->bindArgs (fnOf x x (bw st) (aS st) (aj st) .none kV doc pm an cy ct) ⟨us,[]⟩=pure (ps.zip us))
  (len:∀vs H Q E,sp vs H Q E->vs.length=ps.length)
  (cX:∀(X:Cx) (E:XK),Sc X N N G->X.prog=P->X.w=w->X.K=K->X.mg=mg->X.base=base->X.calm=true->X.env.scope=aj st->Own X->Raises X E->Passes (lN P w) X E->ck k X.A->X.A.units+64<cLine->
   ∀(H:Hp) (vs:u_) (Q:VK),sp vs H Q E->∃t,vY X (aS st) t/\t {nx:=λ_ H'=>Q .bA H',rt:=Q} (L2.start N vs) H):TQ P w K mg base (k+1) x ps sp:=by
 obtain⟨f,g,F,m⟩:=D.ex;refine⟨f,g,?_,m,F.kp,F.binds hb⟩;obtain⟨l,j,kV,doc,pm,an,cy,ct,e,rfl,i,c⟩:=F.ex;refine vO i c S.fs len λA b s H vs Q E d a=>?_;obtain⟨t,h,q⟩:=cX _ E S.UP rfl rfl rfl rfl rfl rfl rfl ⟨rfl,rfl⟩ (λ_ _ _ _ _ _ _ _ I M q=>pJ I M q) sV d d.units H vs Q a;exact⟨t,h.h,q⟩
def Def.gy(D:Def K mg x st)(S:DS (aj st) N ps G)
  (hb:∀(kV doc pm:Value) (an:h_) (cy ct:Value) (us:f'),us.length=ps.length->bindArgs (fnOf x x (bw st) (aS st) (aj st) .none kV doc pm an cy ct) ⟨us,[]⟩=pure (ps.zip us))
  (len:∀vs H Q E,sp vs H Q E->vs.length=ps.length)
  (cX:∀(X:Cx),Sc X N N G->X.prog=P->X.w=w->X.K=K->X.mg=mg->X.base=base->X.calm=true->X.env.scope=aj st->Own X->X.xe=(λ_ _=>False)->ck k X.A->X.A.units+64<cLine->
   ∀(H:Hp) (vs:u_) (Q:VK) (E:XK),sp vs H Q E->∃t,vY X (aS st) t/\t {nx:=λ_ H'=>Q .bA H',rt:=Q} (L2.start N vs) H):Fn P w K mg base (k+1) x ps sp:=by
 refine D.fn S.fs hb len λf cy A a s H vs Q E b h=>?_;obtain⟨t,z,y⟩:=cX _ S.cx rfl rfl rfl rfl rfl rfl rfl ⟨rfl,rfl⟩ rfl b b.units H vs Q E h;exact⟨t,z.h,y⟩
variable{W:f_}{m:Nat}{p:Pos}
def UQ(S:Sc X N W G)(g:Nat)(F:TQ X.prog X.w X.K X.mg X.base k x ps sp)(hx:Passes (lN X.prog X.w) X E)(hr:ck m X.A)(ha:QB X (e::es) t)(hk:k<=m:=by decide)(hg:G[g]?=some x:=by rfl):
  QE X (.Call (.Name x p) (e::es) [] pos) (oM sp [] E t):=by
 obtain⟨f,b,F,hm,a,hb⟩:=F.ex;have q:=S.gl x<|fA hg;exact⟨tH F (hr.mono hk) q.1 hm a hb .nil hx ha.h.pa q.2.1 (bb ha.h.he)<|cA ha.h.Be⟩
def pL(S:Sc X N W G)(g:Nat)(hc:X.calm=true)(hx:Raises X E)(hm:X.mg x=some (.ref C))(ho:Dg X.K C Hi "ValueError.__new__"=true)(ha:QB X (e::es) t)(hg:G[g]?=some x:=by rfl):
  QS X (.Raise (some<|.Call (.Name x np) (e::es) [] bR) none pos) (zF E C t):=by
 have q:=S.gl x<|fA hg;exact⟨Hk hc hx q.1 hm ho ha.h.pa q.2.1 (bb ha.h.he)<|cA ha.h.Be⟩
abbrev Ss:=St->Hp->VK->XK->Prop
abbrev Pz:=Ends->(St->XK)->St->Hp->Prop
def XP(X:Cx)(w_:aO0)(W:St->XK)(e:Value)(s':Shared):Prop:=∃σ' H0 s0,Inv X w_ σ' H0 s0/\lN X.prog X.w X.stack H0 s0 (W σ') e s'
structure UR(X:Cx)(e:Expr)(t:Ss):Prop where
 h:∀(w_:aO0) (s:Shared) (σ:St) (H:Hp) (Q:VK) (E:XK),Inv X w_ σ H s->t σ H Q E->wpAny (model X.prog X.w) X.A (eval e X.env) (EP X w_ σ Q) (λx s'=>∃H0 s0,Inv X w_ σ H0 s0/\lN X.prog X.w X.stack H0 s0 E x s') s
structure US(X:Cx)(st:Stmt)(t:Pz):Prop where
 h:∀(w_:aO0) (s:Shared) (σ:St) (H:Hp) (D:Ends) (W:St->XK),Inv X w_ σ H s->t D W σ H->wpAny (model X.prog X.w) X.A (exec st X.env) (SP X w_ D) (XP X w_ W) s
structure Su(X:Cx)(st:n_)(t:Pz):Prop where
 h:∀(w_:aO0) (s:Shared) (σ:St) (H:Hp) (D:Ends) (W:St->XK),Inv X w_ σ H s->t D W σ H->wpAny (model X.prog X.w) X.A (execs st X.env) (SP X w_ D) (XP X w_ W) s
def Nc(te:Ss)(g:TG):Pz:=λD W σ H=>te σ H (λx H1=>g x σ H1 D.nx)<|W σ
variable{pos':Pos}{te:Ss}{v:Pz}
def Ut(S:Sc X N W G)(i:Nat)(he:UR X e te)(h:N[i]?=some x:=by rfl)(hw:W[i]?=some x:=by rfl)(hs:swapsWith e (some<|.Name x pos') pos.line X.env=pure false:=by rfl):
  US X (.Assign [.Name x pos'] e pos) (Nc te<|bF i):=by
 have q:=S.Tu x<|fA hw;refine⟨λa s σ H D W I z=>wpAny_Assign_Name (sh (he.h a s σ H _ _ I z) (λv o ⟨y,H1,l,g,d⟩=>?_) λx n ⟨j,b,c,z⟩=>⟨σ,j,b,c,z⟩) hs⟩;exact kL l (by rw[S.eN];exact S.nd) (by rw[S.eN];exact h) q.1 g (λm f=>⟨_,H1,f,d⟩) q.2
variable{u:Pz}
def PD(h1:US X st u):Su X [st] u:=by
 refine⟨λa s σ H D W I h=>wpAny_execs_cons<|bN (h1.h a s σ H D W I h) λf b q=>?_⟩
 cases f with
 |next=>exact wpAny_execs_nil q
 |ret v=>exact q
 |brk=>exact q
 |cont=>exact q
variable{w_:aO0}{H:Hp}{s:Shared}{σ:St}
def ox{M:Model}{A:Around}{E:c_}{i:Nat}{pos:Pos}{Q:Unit->Shared->Prop}(I:Inv X w_ σ H s)(hN:X.N.Nodup)(hi:X.N[i]?=some x)(hk:X.env.kindOf x=some .local)
  (h:∀s',Inv X w_ (σ.set i none) H s'->Q () s'):wpAny M A (do bindName X.env x .none;unbindBehindTheSuite X.env x pos) Q E s:=by
 obtain⟨m,hn,D⟩:=id I.loc;have g:(X.env.scope.kind==.class||(X.env.scope.kind==.module&&X.env.locals != X.env.globals))=false:=by rw[I.ok.kind];rfl
 refine wpAny_nameGoes_keeps hk hn g λO v r a=>h _ ?_;have t:∀b o,X.s₀.heap.get? b=some o->b≠X.env.locals:=λb o e=>ot<|j5 (lt_size e) I.ok.above;refine⟨I.ok,I.os,I.bare,⟨λb o e n hb hx=>(a.2 b<|t b o e).trans<|I.base.keep b o e n hb hx,λb o e n hb hx=>?_,I.base.free,λb o e hx=>?_,I.base.qT,I.base.qh,I.base.qQ⟩,
  ⟨_,r,λj y F f l w=>?_⟩,λy c e=>?_,I.free,I.fU,λp B=>?_,λb ob e=>?_,by simpa using I.len⟩
 ·obtain⟨C,f⟩:=I.base.slot b o e n hb hx;exact⟨C,(a.2 b<|t b o e).trans f⟩
 ·obtain⟨J,f⟩:=I.base.there b o e hx;exact⟨J,(a.2 b<|t b o e).trans f⟩
 ·by_cases hj:j=i
  ·subst hj;rw[List.getElem?_set_self (by rw[I.len];exact(nt.mp hi).1)]at l
   cases l
  ·rw[List.getElem?_set_ne (Ne.symm hj)]at l;obtain⟨L,G,q⟩:=D j y F f l w;refine⟨L,G,?_⟩
   rcases q with ⟨k,e⟩|⟨k,c,e,z⟩
   ·have:y≠x:=λe=>hj<|oF hN f<|e ▸ hi
    exact .inl ⟨k,by simp[this,e]⟩
   ·exact .inr ⟨k,c,e,z.sameBut a<|I.Je y c e⟩
 ·obtain⟨u,z⟩:=I.cell y c e;exact⟨u,z.sameBut a<|I.Je y c e⟩
 ·obtain⟨e,n,ne,K,d⟩:=I.pin p B;exact⟨(a.2 p.1 ne).trans e,n,ne,K,d⟩
 ·refine(I.bf b ob e).tq (λc u hc q=>(a.2 c ?_).trans q) (λ_ q=>q) λ_ _ q=>q;rintro rfl
  rcases hc with rfl|hc
  ·rw[I.free]at e;cases e
  ·rw[I.free]at hc;cases hc
noncomputable def Cx.hand(X:Cx)(a:Addr)(o:Obj):Cx:={X with A:=X.A.mark<|some<|.ref a,calm:=false,pn:=(a,o)::X.pn}
noncomputable def Cx.held(X:Cx)(a:Addr):Cx:={X with A:=X.A.mark<|some<|.ref a,calm:=false}
theorem Inv.held(I:Inv X w_ σ H s)(a:Addr):Inv (X.held a) w_ σ H s:=
 ⟨⟨I.ok.mod,I.ok.kind,I.ok.glob,I.ok.blt,I.ok.above,I.ok.inj,I.ok.has,I.ok.NF,(λz=>by cases z),I.ok.frames,I.ok.LW,I.ok.Qg,I.ok.bs,I.ok.Ej,I.ok.ve,I.ok.xM,I.ok.jx,I.ok.Jb⟩,I.os,I.bare,I.base,I.loc,I.cell,I.free,I.fU,I.pin,I.bf,I.len⟩
variable{a:Addr}{o:Obj}
theorem Inv.hand(I:Inv X w_ σ H s)(e:s.heap.get? a=some o)(n:H a=none)(ne:a≠X.env.locals)(nf:a∉X.fs)(nc:∀v,o.data≠.cell v):Inv (X.hand a o) w_ σ H s:=
 ⟨⟨I.ok.mod,I.ok.kind,I.ok.glob,I.ok.blt,I.ok.above,I.ok.inj,I.ok.has,I.ok.NF,(λz=>by cases z),I.ok.frames,I.ok.LW,I.ok.Qg,I.ok.bs,I.ok.Ej,I.ok.ve,I.ok.xM,I.ok.jx,I.ok.Jb⟩,I.os,I.bare,I.base,I.loc,I.cell,I.free,I.fU,
  λp b=>by
   rcases gz.mp (show p∈(a,o)::(X.pn++w_)from b)with z|z
   ·rw[z];exact⟨e,n,ne,nf,nc⟩
   ·exact I.pin p z,I.bf,I.len⟩
def Inv.uE(hc:X.calm=true->X.A.handled=none)(hf:X.A.frames=some X.stack)(I:Inv (X.hand a o) w_ σ H s):Inv X w_ σ H s:=
 ⟨⟨I.ok.mod,I.ok.kind,I.ok.glob,I.ok.blt,I.ok.above,I.ok.inj,I.ok.has,I.ok.NF,hc,hf,I.ok.LW,I.ok.Qg,I.ok.bs,I.ok.Ej,I.ok.ve,I.ok.xM,I.ok.jx,I.ok.Jb⟩,I.os,I.bare,I.base,I.loc,I.cell,I.free,I.fU,
  λp b=>I.pin p<|fN _ b,I.bf,I.len⟩
theorem Sc.hand{N W G:f_}(S:Sc X N W G):Sc (X.hand a o) N W G:=⟨S.eN,S.nd,S.Tx,S.Tu,S.gl⟩
def La(o:Obj)(C:Addr)(d:h_):Prop:=o.cls=.ref C/\o.dict=d/\∃vs,o.data=.fields vs
def Sv(names:f_)(er:Str->Addr)(tb:Pz)(i:Nat)(y:Str)(th:Str->Addr->h_->TS):TS:=λD σ H=>
 tb D (λe C d c=>∃x,x∈names/\C=.ref (er x)/\kj x y=true/\∀a,th x a d {nx:=λb=>D.nx<|b.set i none,rt:=D.rt,bk:=λb=>D.bk<|b.set i none,ct:=λb=>D.ct (b.set i none)} (e.set i<|some<|.ref a) c) σ H
variable{tb:Pz}{th:Str->Addr->h_->TS}
def Uu{names:f_}{er:Str->Addr}{y n:Str}{hpos pos:Pos}{b0:Stmt}{suite body:n_}{rest:List ExceptHandler}(S:Sc X N W G)(g i:Nat)
  (hxe:X.xe=λ_ _=>False) (hc:X.calm=true) (ho:Own X) (ER:ml X.K X.mg names er) (hy:y∈names) (hb:Su X body tb)
  (hh:∀(a:Addr) (o:Obj) (x:Str) (d:h_),x∈names->kj x y=true->La o (er x) d->Sc (X.hand a o) N W G->vY (X.hand a o) (b0::suite) (th x a d))
  (hk:X.env.scope.names.lookup n=some .local) (hg:G[g]?=some y:=by rfl) (hi:N[i]?=some n:=by rfl) (hw:W[i]?=some n:=by rfl):
  QS X (.Try body (.ExceptHandler (some<|.Name y np) (some n) (b0::suite) hpos::rest) [] [] pos) (Sv names er tb i y th):=by
 have qg:=S.gl y<|fA hg;have qs:=S.Tu n<|fA hw;have hN:X.N.Nodup:=by rw[S.eN];exact S.nd
 have t:X.N[i]?=some n:=by rw[S.eN];exact hi
 refine⟨λc s σ H D I h=>?_⟩;refine wpAny_Try_except<|sh (hb.h c s σ H D _ I h) (λf B q=>?_) λe B ⟨σ',H0,s0,I0,z⟩=>?_
 ·cases f with
  |next=>exact wpAny_execs_nil q
  |ret v=>exact q
  |brk=>exact q
  |cont=>exact q
 obtain⟨a,T,C,d,E,rfl,os,F,un,bf,na,nT,⟨fl,ha,hT⟩,x,hx,hC,hxy,w⟩:=z
 cases hC
 have J:Inv X c σ' E B:=I0.vE (ch:=[]) os un bf F λb z=>absurd z (by simp)
 have fr:X.A.frames=some (X.env::X.outer):=by rw[I.ok.frames,ho.1]
 have LW:B.heap.FunFrames X.base (X.env::X.outer):=by rw[<-ho.1];exact J.stack
 refine BL fr LW ho.2 fl λh4 T4 Y f4 k4=>?_;refine fS (l:=jF (X.env::X.outer)) f4 λh5 f5 k5=>?_;have k45:Kept (jF (X.env::X.outer)) [a,T] B.heap h5:=k4.trans k5 λb o e z=>by rw[ek.mp z,Y]at e;cases e
 have step:∀(P:l_) (h2:Heap),(∀b∈P,s0.heap.get? b=none/\E b=none)->Kept (jF (X.env::X.outer)) P B.heap h2->Inv X c σ' E {B with heap:=h2}:=λP h2 M k=>by
  refine I0.vE (ch:=[]) os ?_ ?_ F λb z=>absurd z (by simp)
  ·exact He un (λb hb=>(M b hb).1) (λb o e n1 n2=>k.1 b o e (by rw[<-ho.1];exact n1) n2) λb o e _ n2=>k.2 b o e n2
  ·exact BK bf (λb o e n1 n2=>k.1 b o e (by rw[<-ho.1];exact n1) n2) J.nS λb hb=>(M b hb).2
 have L:∀b∈[a,T],s0.heap.get? b=none/\E b=none:=λb hb=>by
  rcases gz.mp hb with z|z
  ·rw[z];exact⟨na,ha⟩
  ·rw[ek.mp z];exact⟨nT,hT⟩
 have I5:Inv X c σ' E {B with heap:=h5}:=step _ _ L k45;obtain⟨oe5,vs5,oT5,ts5,he5,hc5,hd5,hdt5,_⟩:=id f5;refine wpAny_handleBy_cons (codeAny_handlers_test<|kM (X:=X.held a) (I5.held a) qg.1 (ER.gl y hy) ?_ qg.2.1) (by intro q;cases q)
 refine Dh (K:=X.K) I5.jw he5 hc5 (ER.ty y hy) (ER.cls y hy) ((ER.Ve x hx y hy).trans (by rw[hxy])) ?_
 show codeAny _ _ _ _ _;refine codeAny_handlers_suite_as ?_;refine fS (l:=jF (X.env::X.outer)) f5 λh6 f6 k6=>?_;have nT4':s0.heap.get? T4=none:=by
  cases z:s0.heap.get? T4 with
  |none=>rfl
  |some o=>
   obtain⟨o',e'⟩:=un.there T4 o z (by simp)
   rw[Y]at e';cases e'
 have k56:Kept (jF (X.env::X.outer)) [a,T] B.heap h6:=k45.trans k6 λb o e z=>by rw[ek.mp z,Y]at e;cases e
 have I6:Inv X c σ' E {B with heap:=h6}:=step _ _ L k56;obtain⟨O,vs6,oT6,ts6,Q,hc6,hd6,p,_⟩:=id f6;have nal:a≠X.env.locals:=λz=>by
  obtain⟨m,⟨o,es,ep,Z,e2,_⟩,_⟩:=I6.loc;rw[<-z,Q]at Z;cases Z
  rw[p]at e2;cases e2
 have naf:a∉X.fs:=λz=>by
  obtain⟨_,o,Z,e2⟩:=I6.jx.mem z;rw[Q]at Z;cases Z
  exact e2 _ p
 have I7:Inv (X.hand a O) c σ' E {B with heap:=h6}:=I6.hand Q ha nal naf λv z=>by rw[p]at z;cases z
 refine kL (X:=X.hand a O) (v:=.ref a) I7 hN t qs.1 rfl (λs7 I8=>?_) qs.2;refine sh ((hh a O x d hx hxy ⟨hc6,hd6,vs6,p⟩ S.hand).h c s7 _ E _ I8<|w a) (λf s8 q=>?_) λe s8 z=>?_
 ·cases f with
  |next=>
   obtain⟨σ8,U,R,q⟩:=q;exact ox (R.uE I.ok.hd I.ok.frames) hN t hk λs9 j=>⟨_,U,j,q⟩
  |brk=>
   obtain⟨σ8,U,R,q⟩:=q;exact ox (R.uE I.ok.hd I.ok.frames) hN t hk λs9 j=>⟨_,U,j,q⟩
  |cont=>
   obtain⟨σ8,U,R,q⟩:=q;exact ox (R.uE I.ok.hd I.ok.frames) hN t hk λs9 j=>⟨_,U,j,q⟩
  |ret u=>
   obtain⟨v,σ8,U,R,r,q⟩:=q;exact ox (R.uE I.ok.hd I.ok.frames) hN t hk λs9 j=>⟨v,_,U,j,r,q⟩
 ·have z':X.xe e s8:=z;rw[hxe]at z';exact z'.elim
def Lb(H:Hp):h_->Prop
 |none=>True
 |some a=>∃fs,H a=some (.xd fs)
def Lc(a:Addr)(d:h_)(c:V)(b:Bool):u_->Hp->VK->Prop:=λe H Q=>e=[.ref a,c]/\Lb H d/\Q (.bl b) H
variable{er:Str->Addr}{d:h_}
def Inv.Nd{σ:St}(I:Inv (X.hand a o) w_ σ H s)(ho:La o (er x) d)(v:Lb H d):∃od,PySem.W.InstAt s.heap a o (er x) od:=by
 have e:=(I.pin (a,o)<|LI _ gc).1;obtain⟨h1,b,g,c⟩:=ho;have hn:notCls o=true:=by unfold notCls;rw[c]
 cases d with
 |none=>exact⟨none,⟨e,h1,hn,by rw[b];trivial⟩⟩
 |some f=>
  obtain⟨fs,q⟩:=v;obtain⟨u,z⟩:=I.bf.there q;exact⟨some u,⟨e,h1,hn,by rw[b];exact z⟩⟩
variable{names:f_}{y:Str}
def fo(ER:ml X.K X.mg names er)(ho:La o (er x) d)(hx:x∈names)(hy:y∈names):bJ (X.hand a o) (.builtin "isinstance") (Lc a d (.ref<|er y)<|kj x y):=by
 intro b s σ H j l Q I r h;obtain⟨rfl,v,q⟩:=h;obtain⟨u1,c,rfl,f,e⟩:=r.two
 cases(show u1=Value.ref a from f)
 cases(show c=Value.ref (er y)from e)
 obtain⟨i,J⟩:=I.Nd ho v;exact kia_one (w6<|ER.cls x hx) I.jw J (ER.Vf x hx y hy) (by intro z;cases z) λg=>⟨.bl _,H,I.tok g,rfl,q⟩
def Di(ER:ml X.K X.mg names er)(ho:La o (er x) d)(hx:x∈names):bJ (X.hand a o) (.builtin "isinstance") (Lc a d (.ty "ValueError") true):=by
 intro b s σ H j l Q I r h;obtain⟨rfl,v,q⟩:=h;obtain⟨u1,c,rfl,f,e⟩:=r.two
 cases(show u1=Value.ref a from f)
 cases(show c=Value.type "ValueError" from e)
 obtain⟨i,J⟩:=I.Nd ho v;exact kia_one (w6<|ER.cls x hx) I.jw J (ER.val x hx) (by intro z;cases z) λg=>⟨.bl _,H,I.tok g,rfl,q⟩
def Qt(S:Sc X N W G)(g:Nat)(ER:ml X.K X.mg names er)(hy:y∈names)(hg:G[g]?=some y:=by rfl):QE X (.Name y pos) (tC<|.ref<|er y):=by
 have q:=S.gl y<|fA hg;exact⟨nU q.1 (ER.gl y hy) rfl q.2.1⟩
variable{c:V}{Q:VK}
def Nf:Lc a d c b [.ref a,c] H Q=(Lb H d/\Q (.bl b) H):=by unfold Lc;simp
def Hl:Lb H none=True:=rfl
variable{D:Ends}
def BN:zF E C t D σ H=t σ H λvs H1=>vs.length<=sizeLine/\E (.ref C) none H1:=rfl
def Ng{names:f_}{i:Nat} :Sv names er tb i y th D σ H=
 tb D (λσ' C d H'=>∃x,x∈names/\C=.ref (er x)/\kj x y=true/\∀a,th x a d {nx:=λσ''=>D.nx<|σ''.set i none,rt:=D.rt,bk:=λσ''=>D.bk<|σ''.set i none,ct:=λσ''=>D.ct (σ''.set i none)} (σ'.set i<|some<|.ref a) H') σ H:=rfl
def Hm{g:TG}{W:St->XK}:Nc te g D W σ H=te σ H (λx H1=>g x σ H1 D.nx) (W σ):=rfl
def nI:bootBuiltins "ValueError"=some (.type "ValueError"):=by decide +kernel
theorem zG{K:Frag}{H:Hp}:∀bs:List Bool,dI K H (bs.map V.bl)<|bs.map PyData.bool
 | []=>.nil
 |b::bs=>.cons (.bl b)<|zG bs
def mn:fillsNumberSlot (.type "tuple") "mul"=pure false:=by
 first|(unfold fillsNumberSlot;kernel_rfl)|kernel_rfl
def uF:seqRepeat? (.type "tuple")=pure (some<|.builtin "tuple.__mul__"):=by
 first|(unfold seqRepeat?;kernel_rfl)|kernel_rfl
def zI(a:Int)(t:Tok)(l:Addr)(dd:h_)(items:k_)(n:Nat)(sl:Array (g_)):
  Meets (Builtin.«int.__rmul__» ⟨[.int a t,.ref l],[]⟩) (λ_ R s=>s.heap.get? l=some ⟨.type "tuple",dd,.seq items n,sl⟩/\R (.ok<|.ret Value.notImplemented) s):=
 .of_wp λb w A R s h=>by obtain⟨e,g,d,i,c⟩:=s;obtain⟨f,h⟩:=h;wp_walk;exact⟨_,rfl,h⟩
section
variable{k:Int}(t:Tok)(l:Addr)(dd:h_)(it:Value)(n:Nat)(sl:Array (g_))
def Hn(m:Nat):List.foldl (λx1 x2=>x1++x2) #[] (List.replicate m #[it])=(List.replicate m it).toArray:=by
 have:∀(m:Nat) (a:f'),List.foldl (λx1 x2=>x1++x2) a.toArray (List.replicate m #[it])=(a++List.replicate m it).toArray:=by
  intro m
  induction m with
  |zero=>intro a;simp
  |succ m b=>
   intro a;rw[Fk,foldl_cons,show a.toArray++#[it]=(a++[it]).toArray from by simp,b,A4]
   simp[List.replicate_succ]
 simpa using this m []
def Dj(h1:1<k)(h2:k<=1000):
  Meets (Builtin.«tuple.__mul__» ⟨[.ref l,.int k t],[]⟩) (λ_ R s=>s.heap.get? l=some ⟨.type "tuple",dd,.seq #[it] n,sl⟩/\R (.ok<|.ret<|.ref s.heap.objs.size) {s with heap:=s.heap.push {cls:=.type "tuple",data:=.seq (List.replicate k.toNat it).toArray}}):=
 .of_wp λb w A R s h=>by
  obtain⟨o,g,d,q,m⟩:=s;obtain⟨p,h⟩:=h;have f:(decide (k < -(2 ^ 63))||decide (k ≥ 2 ^ 63))=false:=by rw[cv (by omega),cv (by omega)];rfl
  have i:((#[it]:k_).isEmpty||k==1)=false:=by rw[show(k==1)=false from rJ.mpr (by omega)];rfl
  have c:(decide (k<=0)||(#[it]:k_).isEmpty)=false:=by rw[cv (by omega)];rfl
  have e:¬(((#[it]:k_).size:Int)*k>(2 ^ 63-1) / 8):=by show ¬((1:Int)*k>_);omega
  have sl:(sizeLine:Int) ≥ 1000:=by decide
  have j:Builtin.Tuple.tupleTooMany (((#[it]:k_).size:Int)*k)=false:=by
   unfold Builtin.Tuple.tupleTooMany;exact cv (by show ¬((1:Int)*k>_);omega)
  have a:(List.replicate k.toNat it).toArray.size<=sizeLine:=by rw[gd,length_replicate];omega
  unfold Builtin.«tuple.__mul__»
  k_delta "repeated"
  wp_walk
  rw[if_neg (by rw[f];exact o6)]
  wp_walk
  rw[if_neg (by rw[i];exact o6)]
  wp_walk
  rw[if_neg (by rw[c];exact o6)]
  rw[if_neg e,if_neg (by rw[j];exact o6),Hn]
  unfold Builtin.Tuple.tupleExact;refine dy<|Vr ?_ a;exact fO ⟨_,rfl,h⟩
def zJ:
  Meets (Builtin.«tuple.__mul__» ⟨[.ref l,.int 1 t],[]⟩) (λ_ R s=>s.heap.get? l=some ⟨.type "tuple",dd,.seq #[it] n,sl⟩/\R (.ok<|.ret<|.ref l) s):=
 .of_wp λa w A R s h=>by
  obtain⟨c,g,d,f,b⟩:=s;obtain⟨e,h⟩:=h;unfold Builtin.«tuple.__mul__»
  k_delta "repeated"
  wp_walk
  exact⟨_,rfl,h⟩
def zK:
  Meets (Builtin.«tuple.__mul__» ⟨[.ref l,.int 0 t],[]⟩) (λ_ R s=>s.heap.get? l=some ⟨.type "tuple",dd,.seq #[it] n,sl⟩/\R (.ok<|.ret<|.ref s.heap.objs.size) {s with heap:=s.heap.push {cls:=.type "tuple",data:=.seq #[]}}):=
 .of_wp λa w A R s h=>by
  obtain⟨c,g,d,f,b⟩:=s;obtain⟨e,h⟩:=h;unfold Builtin.«tuple.__mul__»
  k_delta "repeated"
  wp_walk
  exact⟨_,rfl,h⟩
end
def Nh(K:Frag):R2:=λx y H Q=>∃(l:Addr) (k:Nat) (v:V),x=.ref l/\y=.int (k:Int)/\aP K H l [v]/\k<=1000/\∀p H',ag H H'->aP K H' p (List.replicate k v)->Q (.ref p) H'
theorem w8{v:V}{u:Value}(r:RelV v u):∀k:Nat,Vals (List.replicate k v)<|List.replicate k u
 |0=>.nil
 |k+1=>.cons r<|w8 r k
def Ho(h:X.K=K):dU X (binaryOp .Mult) (Nh K):=by
 subst h;intro m s σ H x y v u Q I C E h;obtain⟨l,k,w,rfl,rfl,p,hk,q⟩:=h
 cases C
 obtain⟨t,rfl⟩:=E;obtain⟨i,r,⟨⟨cls,f,data,d⟩,e,z,n,j⟩,_⟩:=I.tuple p
 simp only at z j
 subst z j;obtain⟨c,rfl,A⟩:∃c,i=[c]/\RelV w c:=by
  cases r with
  |cons a b=>cases b;exact⟨_,rfl,a⟩
 have D:(List.replicate k w).length<=sizeLine:=by
  have:1000<=sizeLine:=by decide
  rw[length_replicate];omega
 refine wpAny_binaryOp_repeat_ref (T:="tuple") (U:="int") a_ ⟨_,e,rfl⟩ (λB=>typeIs_int B k t) mn F.fills_int_mul F.slot_int_rmul uF F.slot_int_index.lookup
  (KM F.slot_int_rmul (typeIs_int s k t) F.entry_int_rmul (F.args_int_rmul_2 _ _) (zI k t l f [c].toArray n d) ⟨e,rfl,⟨_,e,rfl⟩,?_⟩)
 rcases Nat.lt_or_ge 1 k with h1|h1
 ·refine KM F.slot_tuple_mul ⟨_,e,rfl⟩ F.entry_tuple_mul (F.args_tuple_mul_2 _ _) (Dj t l f c n d (k:=(k:Int)) (by omega) (by omega)) ⟨e,?_⟩
  rw[ri];have g:=I.laid (t':=s.toks) (a:=s.heap.objs.size) (o:=.tup<|List.replicate k w) (h':=s.heap.push {cls:=.type "tuple",data:=.seq (List.replicate k c).toArray}) (λ_ _ q=>ef _ q) (ey _) ⟨D,_,w8 A k,_,h9 _ rfl,rfl,0,rfl⟩;exact⟨.ref _,_,g,rfl,q _ _ (ag.new I.fresh _)<|aP.of af⟩
 ·have hc:k=0∨k=1:=by omega
  rcases hc with rfl|rfl
  ·refine KM F.slot_tuple_mul ⟨_,e,rfl⟩ F.entry_tuple_mul (F.args_tuple_mul_2 _ _) (zK t l f c n d) ⟨e,?_⟩;have g:=I.laid (t':=s.toks) (a:=s.heap.objs.size) (o:=.tup []) (h':=s.heap.push {cls:=.type "tuple",data:=.seq #[]}) (λ_ _ q=>ef _ q) (ey _) ⟨zero_le _,[],.nil,_,h9 _ rfl,rfl,0,rfl⟩;exact⟨.ref _,_,g,rfl,q _ _ (ag.new I.fresh _)<|aP.of af⟩
  ·refine KM F.slot_tuple_mul ⟨_,e,rfl⟩ F.entry_tuple_mul (F.args_tuple_mul_2 _ _) (zJ t l f c n d) ⟨e,?_⟩;exact⟨.ref l,H,I,rfl,q _ _ (ag.refl _) p⟩
def Hq{x y:V} :Nh K x y H Q=∃(l:Addr) (k:Nat) (v:V),x=.ref l/\y=.int (k:Int)/\aP K H l [v]/\k<=1000/\∀p H',ag H H'->aP K H' p (List.replicate k v)->Q (.ref p) H':=rfl
noncomputable def BO(K:Frag)(x:Str)(C:Addr)(fields:f_):Bool:=
 nsIn K mainGlobals x==some (some<|.ref C)&&plainGet K C Str.empty&&hasDictIn K C&&plainOver K C&&findIn K (.ref C) "__setattr__" == some (some<|.builtin "object.__setattr__")&&
 makesIn K C&&keepIn K (.ref C)&&fields.all λf=>findIn K (.ref C) f==some none
structure eQ(K:Frag)(mg:b_)(x:Str)(C:Addr)(fields:f_):Prop where
 gl:mg x=some (.ref C)
 cls:Jv K C
 makes:makesIn K C=true
 kp:keepIn K (.ref C)=true
 no:∀f∈fields,oK K C f
variable{fields:f_}
def BP(X:K.In h)(G:h.Ns mainGlobals mg)(e:BO K x C fields=true):eQ K mg x C fields:=by
 unfold BO at e;simp only[Bool.and_eq_true,beq_iff_eq,List.all_eq_true]at e;obtain⟨⟨⟨⟨⟨⟨⟨a,b⟩,c⟩,d⟩,f⟩,g⟩,i⟩,j⟩:=e;exact⟨mg_of X G a,⟨b,c,d,f⟩,g,i,j⟩
structure nJ(K:Frag)(C:Addr)(m qual:Str)(st:Stmt):Prop where
 ex:∃f fd,IS K m qual st f fd/\Meth K C m f
variable{m:Str}{od:h_}
def Ld{qual:Str}{f:Addr}{oc:Value}{an:h_}{osl:Array (g_)}{kV doc pm cy ct:Value}
  (a:findIn K (.ref C) m=some (some<|.ref f)) (l:K.lookup f=some ⟨oc,od,.func<|fnOf m qual (bw st) (aS st) (aj st) .none kV doc pm an cy ct,osl⟩)
  (c:codeIn K cy qual=true) (k:keepIn K (.ref f)=true) (i:isFn K (.ref f)=true):nJ K C m qual st:=⟨f,_,yL l c k,a,i,k⟩
noncomputable def nk(s:Stmt)(j:Nat):Stmt:=match s with
 |.ClassDef _ _ _ a _ _ _ _ _ _ _=>a.getD j<|.Pass ⟨0,0,0,0⟩
 |_=>.Pass ⟨0,0,0,0⟩
structure nq(P:Program)(w:World)(K:Frag)(mg:b_)(base:Heap)(k:Nat)(C:Addr)(m:Str)(ps:f_)(sp:Sp):Prop where
 ex:∃f fd,eh P w K mg base (lN P w) k f fd ps sp/\Meth K C m f/\Binds K fd ps []
def eh.lift{f:Addr}{fd:FuncData}(F:eh P w K mg base Cy k f fd ps sp):eh P w K mg base (lN P w) k f fd ps sp:=
 ⟨F.len,λA a s H b d c Q E l i hb j h=>codeAny_mono (F.run A a s H b d c Q E l i hb j h) λr m z=>by
  cases r with
  |error e=>exact False.elim z
  |ok g=>cases g<;>exact z⟩
variable{qual:Str}
def nJ.ge(D:nJ K C m qual st)(S:DS (aj st) N ps G)
  (hb:∀(kV doc pm:Value) (an:h_) (cy ct:Value) (us:f'),us.length=ps.length->bindArgs (fnOf m qual (bw st) (aS st) (aj st) .none kV doc pm an cy ct) ⟨us,[]⟩=pure (ps.zip us))
  (len:∀vs H Q E,sp vs H Q E->vs.length=ps.length)
  (cX:∀(X:Cx) (E:XK),Sc X N N G->X.prog=P->X.w=w->X.K=K->X.mg=mg->X.base=base->X.calm=true->X.env.scope=aj st->Own X->Raises X E->Passes (lN P w) X E->ck k X.A->X.A.units+64<cLine->
   ∀(H:Hp) (vs:u_) (Q:VK),sp vs H Q E->∃t,vY X (aS st) t/\t {nx:=λ_ H'=>Q .bA H',rt:=Q} (L2.start N vs) H):nq P w K mg base (k+1) C m ps sp:=by
 obtain⟨f,g,F,M⟩:=D.ex;refine⟨f,g,?_,M,F.binds hb⟩;obtain⟨l,j,kV,doc,pm,an,cy,ct,e,rfl,i,c⟩:=F.ex;refine vO i c S.fs len λA b s H vs Q E d a=>?_;obtain⟨t,h,q⟩:=cX _ E S.UP rfl rfl rfl rfl rfl rfl rfl ⟨rfl,rfl⟩ (λ_ _ _ _ _ _ _ _ I M q=>pJ I M q) sV d d.units H vs Q a;exact⟨t,h.h,q⟩
def nJ.gq(D:nJ K C m qual st)(S:DS (aj st) N ps G)
  (hb:∀(kV doc pm:Value) (an:h_) (cy ct:Value) (us:f'),us.length=ps.length->bindArgs (fnOf m qual (bw st) (aS st) (aj st) .none kV doc pm an cy ct) ⟨us,[]⟩=pure (ps.zip us))
  (len:∀vs H Q E,sp vs H Q E->vs.length=ps.length)
  (cX:∀(X:Cx),Sc X N N G->X.prog=P->X.w=w->X.K=K->X.mg=mg->X.base=base->X.calm=true->X.env.scope=aj st->X.xe=(λ_ _=>False)->ck k X.A->X.A.units+64<cLine->
   ∀(H:Hp) (vs:u_) (Q:VK) (E:XK),sp vs H Q E->∃t,vY X (aS st) t/\t {nx:=λ_ H'=>Q .bA H',rt:=Q} (L2.start N vs) H):nq P w K mg base (k+1) C m ps sp:=by
 obtain⟨f,c,F,M⟩:=D.ex;refine⟨f,c,eh.lift ?_,M,F.binds hb⟩;refine F.ok S.fs len λcy A a s H vs Q E b h=>?_;obtain⟨t,z,y⟩:=cX _ S.cx rfl rfl rfl rfl rfl rfl rfl rfl b b.units H vs Q E h;exact⟨t,z.h,y⟩
def UT(C:Addr)(f:Str)(ta:TE):TE:=λσ H Q=>ta σ H λx H1=>∃a dx fs v,x=.ref a/\H1 a=some (.ins C dx fs)/\fs.lookup f=some v/\Q v H1
def UU(C:Addr)(f:Str)(ta tv:TE):TS:=λD σ H=>tv σ H λy H1=>ta σ H1 λx b=>∃a dx fs,x=.ref a/\b a=some (.ins C dx fs)/\fs.length<1000/\D.nx σ (upd b a<|.ins C dx<|dF f y fs)
variable{f:Str}{ta:TE}
def w9(T:eQ X.K X.mg x C fields)(he:QE X e ta)(hf:f∈fields:=by decide)(hb:attributeBase e f X.env (eval e X.env)=eval e X.env:=by rfl):QE X (.Attribute e f pos) (UT C f ta):=by
 refine⟨λb s σ H Q I h=>Jw hb<|bN (he.h b s σ H _ I h) λu r ⟨x,H1,d,g,a,n,fs,v,c,i,l,q⟩=>?_⟩;subst c;obtain rfl:u=Value.ref a:=g;exact yz d i T.cls (T.no f hf) l λp o j m=>⟨v,H1,j,m,q⟩
variable{o value:Expr}{tv:TE}
def Qu(T:eQ X.K X.mg x C fields)(ha:QE X o ta)(hv:QE X value tv)(hf:f∈fields:=by decide)(hs:swapsWith value (some<|.Attribute o f pos') pos.line X.env=pure false:=by rfl):QS X (.Assign [.Attribute o f pos'] value pos) (UU C f ta tv):=by
 refine⟨λb s σ H D I h=>plainObj_wpAny_Assign_Attribute (bN (hv.h b s σ H _ I h) λu r ⟨y,H1,p,n,q⟩=>bN (ha.h b r σ H1 _ p q) λe w ⟨x,z,m,g,a,t,fs,d,j,l,i⟩=>?_) hs⟩;subst d;obtain rfl:e=Value.ref a:=g;exact yA m j T.cls (T.no f hf) l n λv c=>⟨σ,_,c,i⟩
variable{n:Nat}{A':Pos}
def IV{pl:Sem Bool}(T:eQ X.K X.mg x C fields)(F:nq X.prog X.w X.K X.mg X.base k C m ps sp)(hx:Passes (lN X.prog X.w) X E)(hr:ck n X.A)(he:QE X o ta)(ha:QB X (e::es) t)(hk:k<=n:=by decide)
  (ht:eval (.Call (.Attribute o m A') (e::es) [] pos) X.env=(do
   let ov<-eval o X.env
   standAt A'.atName
   let (f,first)<-holding [ov] (getMethod ov m pl)
   callWith pos f first (backTo pos<|starEach (e::es) X.env) (backToKw pos<|keywordEach [] X.env)):=by rfl):
  QE X (.Call (.Attribute o m A') (e::es) [] pos) (rS C m sp [] E ta t):=by
 obtain⟨f,a,F,M,hb⟩:=F.ex;exact⟨JA he.h T.cls M F (hr.mono hk) hb .nil hx ha.h.pa (bb ha.h.he) (cA ha.h.Be) ht⟩
def Sw{pl:Sem Bool}(T:eQ X.K X.mg x C fields)(F:nq X.prog X.w X.K X.mg X.base k C m ps sp)(hx:Passes (lN X.prog X.w) X E)(hr:ck n X.A)(he:QE X o ta)(hk:k<=n:=by decide)
  (ht:eval (.Call (.Attribute o m A') [] [] pos) X.env=(do
   let ov<-eval o X.env
   standAt A'.atName
   let (f,first)<-holding [ov] (getMethod ov m pl)
   callWith pos f first (backTo pos<|starEach [] X.env) (backToKw pos<|keywordEach [] X.env)):=by rfl):
  QE X (.Call (.Attribute o m A') [] [] pos) (rS C m sp [] E ta vL):=by
 obtain⟨f,a,F,M,hb⟩:=F.ex;exact⟨ED he.h T.cls M F (hr.mono hk) hb .nil hx ht⟩
def UW(S:Sc X N W G)(g:Nat)(T:eQ X.K X.mg x C fields)(F:nq X.prog X.w X.K X.mg X.base k C "__init__" ps sp)(hx:Passes (lN X.prog X.w) X E)(hr:ck n X.A)(ha:QB X (e::es) t)(hk:k+1<=n:=by decide)(hg:G[g]?=some x:=by rfl):
  QE X (.Call (.Name x p) (e::es) [] pos) (rV C sp [] E t):=by
 obtain⟨f,a,F,M,hb⟩:=F.ex;have q:=S.gl x<|fA hg;exact⟨A7 ⟨T.makes,M.at_,M.fn,T.kp⟩ F (hr.mono hk) q.1 T.gl hb .nil hx ha.h.pa q.2.1 (bb ha.h.he)<|cA ha.h.Be⟩
def Sx:UT C f ta σ H Q=ta σ H λx H1=>∃a dx fs v,x=.ref a/\H1 a=some (.ins C dx fs)/\fs.lookup f=some v/\Q v H1:=rfl
def Ni:UU C f ta tv D σ H=tv σ H λy H1=>ta σ H1 λx H2=>∃a dx fs,x=.ref a/\H2 a=some (.ins C dx fs)/\fs.length<1000/\D.nx σ (upd H2 a<|.ins C dx<|dF f y fs):=rfl
def Hr:rS C m sp [] E ta t σ H Q=ta σ H λx H1=>∃a dx fs,x=.ref a/\H1 a=some (.ins C dx fs)/\fs.lookup m=none/\t σ H1 λvs H2=>sp (x::vs) H2 Q E:=by
 unfold rS;simp only[append_nil]
def Hs:rV C sp [] E t σ H Q=t σ H λvs H1=>∀x dx,H1 x=none->H1 dx=none->dx≠x->sp (.ref x::vs) (upd (upd H1 dx<|.own x) x<|.ins C dx []) (λv H2=>v=.bA/\Q (.ref x) H2) E:=by
 unfold rV;simp only[append_nil]
noncomputable def eK(cs hs:e_):Bool:=decide (hs.length=cs.length)&&(List.range cs.length).all λk=>decide (0<=hs.getD k 0)&&decide (hs.getD k 0<cs.getD k 0)
def Nj(K:Frag):Sp:=λa H Q _=>∃(c h:Addr) (cs hs:e_),a=[.ref c,.ref h]/\aP K H c (cs.map V.int)/\aP K H h (hs.map V.int)/\cs.length<=90/\∀H',ag H H'->Q (.bl<|eK cs hs) H'
noncomputable def yq(c g n:Addr):t_:=[("counts",.ref c),("groups",.ref g),("worn",.ref n)]
structure cG(K:Frag)(C:Addr)(H:Hp)(a:Addr)(c g:Addr)(cs:e_)(us:u_)(hs:e_):Prop where
 ex:∃dx n,H a=some (.ins C dx<|yq c g n)/\aP K H n (hs.map V.int)
 QA:aP K H c (cs.map V.int)
 Tv:aP K H g us
def uG(K:Frag)(C:Addr)(er:Str->Addr):Sp:=λa H Q E=>∃(x dx c w g:Addr) (cs:e_) (ws:d_) (us:u_) (L:List (Bool × List Int)),a=[.ref x,.ref c,.ref w,.ref g]/\H x=some (.ins C dx [])/\aP K H c (cs.map V.int)/\aP K H w ((aE ws).map V.int)/\aP K H g us/\GI K H us L/\ws.length=cs.length/\cs.length<=8/\(∀g∈L,g.2.length<=30)/\L.length<=30/\
 (Eh cs ws [] 0 L≠none->∀H',ag H H'->E (.ref<|er "NoGroups") none H')/\(Eh cs ws [] 0 L=none->∀H',Off x H H'->cG K C H' x c g cs us (List.replicate cs.length 0)->Q .bA H')
noncomputable def Nk(c:Addr):t_:=[("counts",.ref c)]
noncomputable def zL(c g:Addr):t_:=[("counts",.ref c),("groups",.ref g)]
variable{c:Addr}
def Dk:dF "counts" (.ref c) []=Nk c:=rfl
variable{g:Addr}
def Dl:dF "groups" (.ref g) (Nk c)=zL c g:=by
 unfold Nk dF;rw[if_neg a_];rfl
variable{n:Addr}
def Le:dF "worn" (.ref n) (zL c g)=yq c g n:=by
 unfold zL dF;rw[if_neg a_];unfold dF;rw[if_neg a_];rfl
def Ht{m:Addr}:dF "worn" (.ref m) (yq c g n)=yq c g m:=by
 unfold yq dF;rw[if_neg a_];unfold dF;rw[if_neg a_];unfold dF;rw[if_pos rfl]
def mq:(yq c g n).lookup ("counts":Str)=some (.ref c):=rfl
def sW:(yq c g n).lookup ("groups":Str)=some (.ref g):=by
 unfold yq;rw[L0,show(("groups":Str)==("counts":Str))=false from by decide];rfl
def oy:(yq c g n).lookup ("worn":Str)=some (.ref n):=by
 unfold yq;rw[L0,show(("worn":Str)==("counts":Str))=false from by decide];dsimp only;rw[L0,show(("worn":Str)==("groups":Str))=false from by decide];rfl
def jN(h1:(m==("counts":Str))=false:=by decide)(h2:(m==("groups":Str))=false:=by decide)(h3:(m==("worn":Str))=false:=by decide):(yq c g n).lookup m=none:=by
 unfold yq;rw[L0,h1];dsimp only;rw[L0,h2];dsimp only;rw[L0,h3];rfl
variable{r dx:Addr}{fs:t_}{H':Hp}{xs:u_}
def aP.c6(s:Off a H H')(ha:H a=some (.ins C dx fs))(h:aP K H r xs):aP K H' r xs:=by
 rcases h with (h|⟨o,h⟩)|h
 ·exact .inl<|.inl<|s r _ (iq h ha λz=>nomatch z) h
 ·exact .inl<|.inr ⟨o,s r _ (iq h ha λz=>nomatch z) h⟩
 ·exact .inr h
variable{p:Addr}
def wB.c6(s:Off a H H')(ha:H a=some (.ins C dx fs)):wB K H p->wB K H' p
 |.inl h=>.inl h
 |.inr ⟨o,u,h,c⟩=>.inr ⟨o,u,s p _ (iq h ha λz=>nomatch z) h,c⟩
theorem GF.c6(s:Off a H H')(ha:H a=some (.ins C dx fs)):∀ {vs:u_} {L:B0L},GF K H vs L->GF K H' vs L
 | [],[],h=>h
 |_::_,_::_,⟨⟨r,p,e,h,b,t⟩,q⟩=>⟨⟨r,p,e,h.c6 s ha,b.c6 s ha,t.c6 s ha⟩,GF.c6 s ha q⟩
 | [],_::_,h=>h.elim
 |_::_,[],h=>h.elim
variable{us:u_}{cs:e_}
def cG.off{n':Addr}{hs hs':e_}(h:cG K C H a c g cs us hs)(s:Off a H H')(e:∃dx,H' a=some (.ins C dx<|yq c g n'))(hn:aP K H' n' (hs'.map V.int)):cG K C H' a c g cs us hs':=by
 obtain⟨dx,n,d,_⟩:=h.ex;obtain⟨b,e⟩:=e;exact⟨⟨b,n',e,hn⟩,h.QA.c6 s d,h.Tv.c6 s d⟩
def cG.mono{hs:e_}(h:cG K C H a c g cs us hs)(s:ag H H'):cG K C H' a c g cs us hs:=by
 obtain⟨d,n,b,hn⟩:=h.ex;exact⟨⟨d,n,s _ _ b,s.aO hn⟩,s.aO h.QA,s.aO h.Tv⟩
def xa(K:Frag)(C:Addr)(er:Str->Addr):Sp:=λb H Q E=>∃(a hb c g:Addr) (cs hs0 hs:e_) (us:u_),b=[.ref a,.ref hb]/\cG K C H a c g cs us hs0/\aP K H hb (hs.map V.int)/\cs.length<=90/\
 (eK cs hs=false->∀H',ag H H'->E (.ref<|er "NoHats") none H')/\(eK cs hs=true->∀H',Off a H H'->cG K C H' a c g cs us hs->Q .bA H')
def zM(K:Frag)(C:Addr)(er:Str->Addr):Sp:=λb H Q E=>∃(a c g:Addr) (cs hs0:e_) (us:u_) (i col:Int),b=[.ref a,.int i,.int col]/\cG K C H a c g cs us hs0/\hs0.length=cs.length/\cs.length<=90/\
 (¬(0<=i/\i<(cs.length:Int))->∀H',ag H H'->E (.ref<|er "NoName") none H')/\(0<=i/\i<(cs.length:Int)->eK cs (hs0.set i.toNat col)=false->∀H',ag H H'->E (.ref<|er "NoHats") none H')/\
 (0<=i/\i<(cs.length:Int)->eK cs (hs0.set i.toNat col)=true->∀H',Off a H H'->cG K C H' a c g cs us (hs0.set i.toNat col)->Q .bA H')
def lA(K:Frag)(C:Addr):Sp:=λb H Q _=>∃(a c g:Addr) (cs hs:e_) (ws:d_) (us:u_) (L:B0L) (i:Nat),b=[.ref a,.int i]/\cG K C H a c g cs us hs/\GF K H us L/\b9 cs/\HN cs hs cs.length/\CT cs ws L/\i<cs.length/\∀H',ag H H'->Q (.int<|wA cs L hs i) H'
structure UX(cs:e_)(g:Bool × List Nat):Prop where
 lt:∀x∈g.2,x<cs.length
 nd:g.2.Nodup
 ne:1<=g.2.length
 ring:g.1=true->2<=g.2.length/\∀x∈g.2,cs.getD x 0=2
 Li:g.1=false->pA g.2=true
noncomputable def gI(L:B0L):List (Bool × List Int):=L.map λg=>(g.1,aE g.2)
theorem GF.gi{K:Frag}{H:Hp}:∀ {vs:u_} {L:B0L},GF K H vs L->GI K H vs (gI L)
 | [],[],h=>h
 |_::_,_::_,⟨⟨r,p,e,h,a,_⟩,q⟩=>⟨⟨r,p,e,h,a⟩,GF.gi q⟩
 | [],_::_,h=>h.elim
 |_::_,[],h=>h.elim
def PF{ws:d_}{g:Bool × List Nat}(h:RZ cs ws g)(a:UX cs g):Eg cs ws (g.1,aE g.2)=true:=by
 unfold Eg;have c:decide (1<=(aE g.2).length)=true:=ed (by rw[ak];exact a.ne)
 have b:IT cs.length (aE g.2)=true:=by
  unfold IT aE;rw[GM,j9];intro x hx
  have:=a.lt x hx
  simp only[Function.comp,Bool.and_eq_true,decide_eq_true_eq]
  omega
 show(decide (1<=(aE g.2).length)&&(IT cs.length (aE g.2)&&CU cs ws g.1 (nats<|aE g.2)))=true;rw[c,b,Gu,oo,oo];unfold CU
 cases hb:g.1 with
 |true=>
  obtain⟨d,hc,f⟩:=h.ring hb;rw[if_pos rfl,fz];refine⟨?_,?_⟩
  ·unfold jK;rw[ed d,ed h.nd,oo,oo,j9];intro k hk;have hk:=mv.mp hk
   have:=f (ahead g.2.length k) (by unfold ahead;split<;>omega)
   have e:(ahead g.2.length k+1)%g.2.length=k:=by
    unfold ahead
    split
    ·rename_i z;rw[show g.2.length-1+1=g.2.length by omega,Nat.mod_self,z]
    ·rw[show k-1+1=k by omega,mod_eq_of_lt hk]
   rw[e]at this;exact this
  ·rw[j9];exact λx hx=>ed<|hc x hx
 |false=>
  rw[if_neg o6,a.Li hb,oo];unfold de;rw[j9];intro x hx;rw[j9];intro y hy
  by_cases e:y=x
  ·rw[ed e];rfl
  ·rw[h.Li hb x hx y hy (Ne.symm e),Bool.or_true]
theorem BQ{cs:e_}{ws:d_}:∀ {L:B0L} {gone:d_} {k:Nat},(∀g∈L,RZ cs ws g/\UX cs g)->(L.Pairwise λg h=>∀x∈g.2,x∉h.2)->(∀g∈L,∀x∈g.2,x∉gone)->Eh cs ws (aE gone) k (gI L)=none
 | [],_,_,_,_,_=>rfl
 |g::L,gone,k,h,d,n=>by
  have h1:=h g gc;show(if(Eg cs ws (g.1,aE g.2)&&!((aE g.2).any λi=>decide<|i∈aE gone))=true then Eh cs ws (aE gone++aE g.2) (k+1) (gI L)else some k)=none
  have e:((aE g.2).any λi=>decide<|i∈aE gone)=false:=by
   rw[List.any_eq_false];intro i hi;obtain⟨x,hx,rfl⟩:=kc.mp hi;rw[ka];exact λz=>n g gc x hx<|og.mp z
  rw[PF h1.1 h1.2,e,if_pos a_,<-eA]
  obtain⟨f,c⟩:=List.pairwise_cons.mp d;refine BQ (λb a=>h b<|fN _ a) c λb a x hx z=>?_
  rcases ih.mp z with z|z
  ·exact n b (fN _ a) x hx z
  ·exact f b a x z hx
def xb(row:d_)(p:Nat->Bool):(((List.range (aE row).length).filter λj=>p<|row.getD j 0).map λj=>((row.getD j 0:Nat):Int))=aE (row.filter p):=by
 have e:row=(List.range row.length).map λk=>row.getD k 0:=by
  apply ext_getElem
  ·simp
  ·intro i h1 a;simp[h1]
 have f:=List.filter_map (f:=λk=>row.getD k 0) (p:=p) (l:=List.range row.length);rw[<-e]at f;rw[ak,f];unfold aE;rw[kb]
 rfl
noncomputable def eL(cs hs:e_)(L:B0L):d_:=(List.range cs.length).filter λi=>decide<|wA cs L hs i=hs.getD i 0
def Hu{hs:e_}(h:HN cs hs cs.length):eK cs hs=true:=by
 unfold eK;rw[ed h.1,oo,j9];intro k hk
 have:=h.2 k<|mv.mp hk
 rw[ed this.1,ed this.2]
 rfl
def HN.PH(h:∀c∈cs,1<=c):HN cs (List.replicate cs.length 0) cs.length:=by
 refine⟨length_replicate,λi hi=>?_⟩
 have:=h _<|L2.getD_mem hi
 rw[show(List.replicate cs.length (0:Int)).getD i 0=0 by rw[b4,List.getElem?_replicate,if_pos hi];rfl]
 omega
variable{A B:TS}
def nK{σ:L2.St}(I:L2.St->r_)(h2:∀σ' H',I σ' H'->B D σ' H')(h1:∀R:L2.St->r_,(∀σ' H',I σ' H'->R σ' H')->A {D with nx:=R} σ H):oH A B D σ H:=h1 (B D) h2
def Hv(C:Addr)(m:Str)(sp:Sp)(ta:TE)(t:TA):Ss:=λσ H Q E=>ta σ H λx H1=>∃a dx fs,x=.ref a/\H1 a=some (.ins C dx fs)/\fs.lookup m=none/\t σ H1 λc b=>sp (x::c) b Q E
variable{n:Nat}
def Vc{pl:Sem Bool}(hxe:X.xe=λ_ _=>False)(T:eQ X.K X.mg x C fields)(F:nq X.prog X.w X.K X.mg X.base k C m ps sp)(hr:ck n X.A)(he:QE X o ta)(ha:QB X (e::es) t)(hk:k<=n:=by decide)
  (ht:eval (.Call (.Attribute o m A') (e::es) [] pos) X.env=(do
   let ov<-eval o X.env
   standAt A'.atName
   let (f,first)<-holding [ov] (getMethod ov m pl)
   callWith pos f first (backTo pos<|starEach (e::es) X.env) (backToKw pos<|keywordEach [] X.env)):=by rfl):
  UR X (.Call (.Attribute o m A') (e::es) [] pos) (Hv C m sp ta t):=by
 obtain⟨f,S,F,M,hb⟩:=F.ex;refine⟨λb s σ H Q E I h=>?_⟩;refine methodCall_KW (pl:=pl) (sh (he.h b s σ H _ I h) (λu L ⟨x,H1,B,N,a,R,fs,p,P,l,q⟩=>?_) λx D z=>by rw[hxe]at z;exact z.elim) ht
 subst p;obtain rfl:u=Value.ref a:=N;refine jX B P T.cls M l ?_;refine callWith_K (first:=[.ref a]) (h₀:=X.base) I.ok.mod.NG M.kp (sh (ha.h.pa pos b L σ H1 _ B q) (λc i ⟨v,j,d,r,y⟩=>⟨d.jw,?_⟩) λx D z=>by rw[hxe]at z;exact z.elim) (bb ha.h.he)<|cA ha.h.Be
 have G:Vals (V.ref a::v) (Value.ref a::c):=.cons rfl r;have J:(Value.ref a::c).length=ps.length:=by rw[<-G.length];exact F.len _ _ _ _ y
 have g:=hb i (Value.ref a::c) d.jw (by rw[Vj];exact J)
 rw[Vj]at g;refine wpAny_call<|codeAny_mono (F.run X.A X.stack i j ⟨Value.ref a::c,[]⟩ (Value.ref a::c) (V.ref a::v) Q E (hr.mono hk) d.Ol g G y) λr D hq=>?_
 cases r with
 |error e=>exact⟨j,i,d,hq⟩
 |ok O=>
  cases O with
  |ret u=>exact d.after hq
  |next=>exact False.elim hq
  |brk=>exact False.elim hq
  |cont=>exact False.elim hq
theorem foldl_size(x:Array Nat):∀(k:Nat) (a:Array Nat),((List.replicate k x).foldl (·++·) a).size=a.size+x.size*k
 |0,a=>by simp
 |k+1,a=>by rw[Fk,foldl_cons,foldl_size x k,Array.size_append,Nat.mul_succ];omega
theorem sX(x:Array Nat){c:Nat}:∀(k:Nat) (a:Array Nat),c∈((List.replicate k x).foldl (·++·) a).toList->c∈a.toList∨c∈x.toList
 |0,a,h=>.inl h
 |k+1,a,h=>by
  rw[Fk,foldl_cons]at h
  rcases sX x k _ h with z|z
  ·rw[Array.toList_append,ih]at z;exact z
  ·exact .inr z
def Sy:R2:=λx y H Q=>∃(i:Str) (k:Nat),x=.str i/\y=.int (k:Int)/\2<=k/\k<=1000/\1<=i.length/\i.length<=1000/\∀r:Str,r.length=i.length*k->(∀c∈cz r,c∈cz i)->Q (.str r) H
def zN:dU X (binaryOp .Mult) Sy:=by
 intro a s σ H x y v u Q I d j h;obtain⟨i,k,rfl,rfl,h1,b,m,g,q⟩:=h;obtain⟨t,rfl⟩:=d;obtain⟨l,rfl⟩:=j;have hk:¬((k:Int)<1):=by omega
 have o:(1000000:Nat)<=sizeLine:=by decide
 have n:i.length*k<=1000*1000:=Nat.mul_le_mul g b;have f:((k:Int)==1||i.length==0)=false:=by
  rw[Bool.or_eq_false_iff];exact⟨rJ.mpr (by omega),rJ.mpr (by omega)⟩
 refine PySem.P.mul_str ?_ (λ_ _ z=>?_) (λ_ _=>?_) ?_
 ·rw[cv (by omega),cv (by omega)];rfl
 ·have hm:(i.length:Int)*(k:Int)<=2 ^ 63-1:=by
   have:((i.length*k:Nat):Int)<=1000000:=by omega
   rw[Int.natCast_mul]at this
   omega
  have:=Int.le_ediv_of_mul_le (by omega) hm
  omega
 ·unfold Builtin.Str.tooLong;rw[ri];exact cv (by omega)
 ·rw[if_neg hk,f,if_neg a_]
  have e:(⟨(List.replicate (k:Int).toNat i.cps).foldl (·++·) #[]⟩:Str).length=i.length*k:=by
   show((List.replicate (k:Int).toNat i.cps).foldl (·++·) #[]).size=_;rw[foldl_size,ri];show 0+i.length*k=_;omega
  exact⟨by rw[e];omega,.str _,H,I.tok _,⟨_,rfl⟩,q _ e λc hc=>(sX i.cps _ #[] hc).elim (λz=>nomatch z) id⟩
theorem xc(c:Nat):∀ {l:f_},l.length<=(Str.join ⟨#[c]⟩ l).length+1
 | []=>by simp
 | [x]=>by simp
 |x::y::r=>by
  have a:=xc c (l:=y::r);have e:(Str.join ⟨#[c]⟩ (x::y::r)).length=x.length+1+(Str.join ⟨#[c]⟩ (y::r)).length:=by
   rw[aB,bX,eR,eR,<-aB,<-aB];rfl
  rw[kf]
  omega
def mr(z:Str):(Txt.split z ⟨#[32]⟩).length<=z.length+1:=by
 have:=xc 32 (l:=Txt.split z ⟨#[32]⟩)
 rw[StrLaws.join_split]at this;exact this
def nr(k:Nat):cz (StrLaws.sliceText x (some (k:Int)) none)=(cz x).drop k:=by
 by_cases h:k<=x.length
 ·exact kh h
 ·have e:StrLaws.sliceText x (some (k:Int)) none=StrLaws.sliceText x (some ((x.length:Nat):Int)) none:=by
   unfold StrLaws.sliceText
   have:Builtin.Str.strSliceIndices (some (k:Int)) none 1 x.length=Builtin.Str.strSliceIndices (some ((x.length:Nat):Int)) none 1 x.length:=by
    unfold Builtin.Str.strSliceIndices
    dsimp only
    rw[if_neg (show ¬((k:Int)<0) by omega),if_neg (show ¬(((x.length:Nat):Int)<0) by omega),if_pos a_,if_pos a_,if_pos a_,show max (0:Int) (min (k:Int) (x.length:Int))=max 0 (min ((x.length:Nat):Int) (x.length:Int)) by omega]
   rw[this]
  rw[e,kh<|ey _,drop_eq_nil_of_le (by rw[aB];omega),drop_eq_nil_of_le (by rw[aB]at h;omega)]
def sY(k:Nat):cz (StrLaws.sliceText x none<|some (k:Int))=(cz x).take k:=by
 by_cases h:k<=x.length
 ·exact lp h
 ·have e:StrLaws.sliceText x none (some (k:Int))=StrLaws.sliceText x none (some ((x.length:Nat):Int)):=by
   unfold StrLaws.sliceText
   have:Builtin.Str.strSliceIndices none (some (k:Int)) 1 x.length=Builtin.Str.strSliceIndices none (some ((x.length:Nat):Int)) 1 x.length:=by
    unfold Builtin.Str.strSliceIndices
    dsimp only
    rw[if_neg (show ¬((k:Int)<0) by omega),if_neg (show ¬(((x.length:Nat):Int)<0) by omega),show max (0:Int) (min (k:Int) (x.length:Int))=max 0 (min ((x.length:Nat):Int) (x.length:Int)) by omega]
    rfl
   rw[this]
  rw[e,lp<|ey _,AC (by rw[aB];omega),AC (by rw[aB]at h;omega)]
def pM(k:Nat):(StrLaws.sliceText x (some (k:Int)) none).length<=x.length:=by rw[aB,nr,aB,q5];omega
def hV(k:Nat):(StrLaws.sliceText x none<|some (k:Int)).length<=x.length:=by rw[aB,sY,aB,rr];omega
variable{tb:TS}
def Uv{z:Str}{g:TG}{σ:St}(I:o_)(h0:I 0 σ H)
  (step:∀i σ H,i<(cz z).length->I i σ H->g (.str ⟨#[(cz z).getD i 0]⟩) σ H λσ2 H2=>tb {D with nx:=I<|i+1,ct:=I<|i+1,bk:=D.nx} σ2 H2)
  (fin:∀σ H,I (cz z).length σ H->D.nx σ H):∃y,V.str z=.str y/\qB g tb D σ (Qr y) H:=by
 refine⟨z,rfl,λi m σ H=>m=z.cps.size-i/\i<=z.cps.size/\I i σ H,⟨_,rfl,zero_le _,h0⟩,?_⟩;rintro i m σ H ⟨rfl,hi,p⟩
 by_cases a:i<z.cps.size
 ·refine .inr ⟨a,I<|i+1,λf d b=>⟨z.cps.size-(i+1),by omega,rfl,a,b⟩,λx d y=>?_⟩
  obtain⟨rfl,c,e,rfl⟩:=y
  have:=step i σ _ (by rw[SZ];exact a) p
  rw[show(cz z).getD i 0=c by rw[b4,getElem?_toList,e];rfl]at this
  exact this
 ·have e:i=z.cps.size:=by omega
  refine .inl ⟨by show z.cps.size<=i;omega,fin σ H ?_⟩
  rw[SZ,<-e];exact p
noncomputable abbrev wz(z:Str):List Str:=Txt.split z ⟨#[32]⟩
noncomputable def nu(z y:Str):Bool:=(cz z).all λc=>decide<|c∈cz y
def xf:Sp:=λa H Q _=>∃(z y:Str) (m:Nat),a=[.str z,.str y,.int (m:Int)]/\z.length<=1000000/\Q (.bl<|nu z y&&decide (1<=z.length/\z.length<=m)) H
def Sz(H0:Hp)(z y:Str)(m:Nat)(i:Nat)(σ:St)(H:Hp):Prop:=(∃y3:v_,σ=[some (.str z),some<|.str y,some<|.int (m:Int),y3])/\H=H0/\((cz z).take i).all (λc=>decide<|c∈cz y)=true
def nw{H1:Hp}{o:HO}(hp:H p=none)(e:upd H p o=H1):ag H H1/\H1 p=some o:=by subst e;exact⟨ag.new hp _,af⟩
variable{b:Addr}{zs:u_}
def lB(h:ay K H a xs)(h':ay K H b zs)(hz:xs.length+zs.length<=sizeLine)(q:∀p H',ag H H'->H p=none->H' p=some (.lst<|xs++zs)->Q (.ref p) H'):Bh K (.ref a) (.ref b) H Q:=
 ⟨a,b,xs,zs,rfl,rfl,h,h',hz,λp c=>q p _ (ag.new c _) c af⟩
def PJ(k:Nat)(h:ay K H a xs)(q:∀p H',ag H H'->H p=none->H' p=some (.lst<|xs.drop k)->Q (.ref p) H'):yJ K (.ref a) (some (k:Int)) none H Q:=
 ⟨a,xs,rfl,h,λp b=>q p _ (ag.new b _) b (by rw[cZ];exact af)⟩
def PK(k:Nat)(h:ay K H a xs)(q:∀p H',ag H H'->H p=none->H' p=some (.lst<|xs.take k)->Q (.ref p) H'):yJ K (.ref a) none (some (k:Int)) H Q:=
 ⟨a,xs,rfl,h,λp b=>q p _ (ag.new b _) b (by rw[jr];exact af)⟩
def eM{ss:f_}{i:Int}(h:ay K H a (ss.map V.str))(h0:0<=i)(h1:i<ss.length)(q:∀x∈ss,Q (.str x) H):nF K (.ref a) (.int i) H Q:=by
 obtain⟨m,rfl⟩:=hO h0;exact au h (ax (aT (by omega))) (q _ (getD_memS (by omega)))
def SA{a b v:Int}{j1 j2:Nat}{p1 p2 pos:Pos}(hc:lP a b)(hv:a ^ b.toNat=v):QE X (.BinOp (.Constant (.int a) j1 p1) .Pow (.Constant (.int b) j2 p2) pos) (tC<|.int v):=
 ⟨λc s σ H Q I h=>(aN jU (aq (i:=a))<|aq (i:=b)).h c s σ H Q I (by
  show ∃i j,V.int a=.int i/\V.int b=.int j/\lP i j/\Q (.int<|i ^ j.toNat) H;exact⟨a,b,rfl,rfl,hc,by rw[hv];exact h⟩)⟩
def BR:Hv C m sp ta t σ H Q E=ta σ H λx H1=>∃a dx fs,x=.ref a/\H1 a=some (.ins C dx fs)/\fs.lookup m=none/\t σ H1 λvs H2=>sp (x::vs) H2 Q E:=rfl
def Hw(L:B0L):(gI L).length=L.length:=b5 _
def ag.Hx(s:ag H H')(h:H' b=none):H b=none:=by
 cases e:H b with
 |none=>rfl
 |some o=>rw[s _ _ e]at h;cases h
def Sub(a m:Nat):Prop:=∀j,a.testBit j=true->m.testBit j=true
def SD(a b:Nat):Prop:=∀j,a.testBit j=true->b.testBit j=false
variable{a b:Nat}
def Sub.trans{c:Nat}(h:Sub a b)(k:Sub b c):Sub a c:=λj hj=>k j<|h j hj
variable{m:Nat}
def Sub.and(h:Sub a m):m&&& a=a:=uh.mpr h
def Lf(a b:Nat):a&&& b=2*(a / 2&&& b / 2)+(a%2)*(b%2):=by
 have h1:(a&&& b) / 2=a / 2&&& b / 2:=Nat.and_div_two;have c:(a&&& b)%2=(a%2)*(b%2):=by
  have:=Nat.and_mod_two_pow (a:=a) (b:=b) (n:=1)
  rw[Nat.pow_one]at this;rw[this]
  rcases Vm a with e|e<;>rcases Vm b with f|f<;>rw[e,f]<;>decide
 omega
def Sub.le(h:Sub a m):a<=m:=by
 have:=h.and
 rw[<-this];exact Nat.and_le_left
def Lg:∀(m:Nat),0<m->∃i,m.testBit i=true/\m-(m&&& (m-1))=2 ^ i:=by
 intro m
 induction m using Nat.strongRecOn with
 |_ m c=>
  intro d;have hm:=Lf m<|m-1
  rcases Vm m with e|e
  ·obtain⟨i,h1,f⟩:=c (m / 2) (by omega) (by omega)
   refine⟨i+1,by rw[Nat.testBit_succ];exact h1,?_⟩
   have a:(m-1) / 2=m / 2-1:=by omega
   rw[a,e,Nat.zero_mul]at hm;rw[Nat.pow_succ]
   omega
  ·refine⟨0,by rw[Nat.testBit_zero,e];rfl,?_⟩
   have a:(m-1) / 2=m / 2:=by omega
   have b:(m-1)%2=0:=by omega
   rw[a,b,Nat.and_self]at hm;rw[Nat.pow_zero]
   omega
def lC(h:Sub a m)(j:Nat):(m-a).testBit j=(m.testBit j&&!a.testBit j):=by
 have:=iQ m a j
 rwa [h.and]at this
def uH(h:SD a b)(j:Nat):(a+b).testBit j=(a.testBit j||b.testBit j):=by
 have z:a&&& b=0:=by
  apply UV
  intro j;rw[testBit_and,zero_testBit]
  cases e:a.testBit j with
  |false=>rfl
  |true=>rw[h j e];rfl
 rw[ph,z,Nat.add_zero,testBit_or]
def uI{i:Nat}(h:m.testBit i=true):Sub (2 ^ i) m:=λj hj=>by
 rw[GE,ka]at hj;rw[<-hj];exact h
def fH{i:Nat}(h:m.testBit i=true)(j:Nat):(m-2 ^ i).testBit j=(m.testBit j&&!decide (i=j)):=by
 rw[lC (uI h),GE]
def UY(m:Nat)(l:d_):Prop:=(∀a∈l,Sub a m)/\l.Pairwise SD
noncomputable def val(v:Nat->Nat)(l:d_):Nat:=(l.map v).sum
variable{l:d_}
def Lh{i part:Nat}(hi:m.testBit i=true)(hp:Sub part (m-2 ^ i))(h:UY ((m-2 ^ i)-part) l):UY m ((2 ^ i+part)::l):=by
 have d:SD (2 ^ i) part:=λj hj=>by
  rw[GE,ka]at hj
  cases e:part.testBit j with
  |false=>rfl
  |true=>
   have:=hp j e
   rw[fH hi,hj]at this
   simp at this
 have c:Sub (2 ^ i+part) m:=λj hj=>by
  rw[uH d,P3]at hj
  rcases hj with hj|hj
  ·exact uI hi j hj
  ·have:=hp j hj
   rw[fH hi,fz]at this;exact this.1
 have b:Sub (m-2 ^ i-part) m:=λj hj=>by
  rw[lC hp,fH hi,fz,fz]at hj;exact hj.1.1
 refine⟨λa f=>?_,List.pairwise_cons.mpr ⟨λa f j hj=>?_,h.2⟩⟩
 ·rcases gz.mp f with e|e
  ·rw[e];exact c
  ·exact(h.1 a e).trans b
 ·cases e:a.testBit j with
  |false=>rfl
  |true=>
   have:=h.1 a f j e
   rw[lC hp,fH hi]at this;rw[uH d,P3,GE,ka]at hj
   rcases hj with hj|hj
   ·rw[hj]at this;simp at this
   ·rw[hj]at this;simp at this
variable{x:Nat}
def mw(h:m<2 ^ n)(hx:m.testBit x=true):x<n:=vr λq=>by
 rw[j8 h (by omega)]at hx;cases hx
def fI:x∈ba m↔m.testBit x=true:=by
 unfold ba;rw[rz,mv];exact⟨λh=>h.2,λh=>⟨mw Nat.lt_log2_self h,h⟩⟩
def ny(m:Nat):(ba m).Pairwise (· < ·):=List.pairwise_lt_range.sublist filter_sublist
def dj(m:Nat):(ba m).Nodup:=(ny m).imp λh=>by omega
def Dm(m:Nat):mask (ba m)=m:=by
 apply UV
 intro j;rw[gJ (dj m)]
 by_cases c:m.testBit j=true
 ·rw[c,ed<|fI.mpr c]
 ·rw[cv (λz=>c<|fI.mp z)]
  cases e:m.testBit j with
  |false=>rfl
  |true=>exact absurd e c
noncomputable def uJ(cs:e_)(l:d_):Int:=dg (pr<|wy cs l) (wy cs l) / pr (wy cs l)
noncomputable def Li(cs:e_)(ws:d_)(m:Nat):Int:=if de ws (ba m)=true then uJ cs (ba m)else 0
def Hy(hp:∀c∈cs,1<=c)(hl:∀x∈l,x<cs.length):∀c∈wy cs l,1<=c:=λc hc=>by
 unfold wy at hc;obtain⟨x,hx,e⟩:=kc.mp hc;rw[<-e];exact hp _<|getD_mem<|hl x hx
def qL(hp:∀c∈cs,1<=c)(hl:∀x∈l,x<cs.length):0<=uJ cs l:=by
 have h:=Hy hp hl;have h1:=oY h;exact Int.ediv_nonneg (iO (by omega) h) (by omega)
structure GG(cs:e_)(ws:d_)(m:Nat)(g:Bool × List Nat):Prop where
 ok:RZ cs ws g
 ne:g.2≠[]
 rise:g.1=false->g.2.Pairwise (· < ·)
 UJ:∀x∈g.2,m.testBit x=true
def GG.mono{ws:d_}{k:Nat}{g:Bool × List Nat}(h:GG cs ws k g)(s:Sub k m):GG cs ws m g:=⟨h.ok,h.ne,h.rise,λx hx=>s x<|h.UJ x hx⟩
def zO{ws:d_}(h:de ws l=true):∀x∈l,∀y∈l,x≠y->fC ws x y=true:=λx hx y hy n=>by
 unfold de at h;rw[j9]at h
 have:=h x hx
 rw[j9]at this
 have:=this y hy
 rw[P3,ka]at this
 rcases this with e|e
 ·exact absurd e.symm n
 ·exact e
def zP(cs:e_)(l:d_):qt cs (false,l)=uJ cs l:=rfl
noncomputable def Hz(cs:e_)(l:d_):d_:=l.filter λi=>decide<|cs.getD i 0=2
noncomputable def mx(ws l:d_):d_:=(List.range ws.length).map λi=>if i∈l then ws.getD i 0 else 0
def gN(ws l:d_):(mx ws l).length=ws.length:=by unfold mx;rw[b5,j6]
def pN{ws:d_}{i:Nat}(hi:i<ws.length):(mx ws l).getD i 0=if i∈l then ws.getD i 0 else 0:=by
 unfold mx;rw[b4,eG,r4 hi];rfl
def uK{ws:d_}{i j:Nat}(hi:i<ws.length):fC (mx ws l) i j=(decide (i∈l)&&fC ws i j):=by
 unfold fC;rw[pN hi]
 by_cases c:i∈l
 ·rw[if_pos c,ed c];rfl
 ·rw[if_neg c,cv c,zero_testBit];rfl
def Lj{ws:d_}(h:iu ws):iu (mx ws l):=by
 refine⟨λi hi=>?_,λi hi=>?_⟩
 ·rw[gN]at hi;rw[pN hi,gN]
  split
  ·exact h.lt i hi
  ·exact Re _
 ·rw[gN]at hi;rw[uK hi,h.self i hi,M8]
abbrev oz:=Int × List (Bool × List Nat)
def Ch(K:Frag)(H:Hp)(v:V)(x:oz):Prop:=∃r g us,v=.ref r/\aP K H r [.int x.1,.ref g]/\aP K H g us/\GF K H us x.2
def my(K:Frag)(H:Hp):u_->List oz->Prop
 | [],[]=>True
 |v::b,x::a=>Ch K H v x/\my K H b a
 |_,_=>False
theorem Ch.mono{v:V}{x:oz}(s:ag H H')(h:Ch K H v x):Ch K H' v x:=by
 obtain⟨r,g,b,e,h1,a,c⟩:=h;exact⟨r,g,b,e,s.aO h1,s.aO a,c.mono s⟩
theorem Ch.gF{v:V}{x:oz}{B_:Addr}{ys:u_}{o:HO}(ha:H B_=some (.lst ys))(h:Ch K H v x):Ch K (upd H B_ o) v x:=by
 obtain⟨r,g,b,e,h1,a,c⟩:=h;exact⟨r,g,b,e,h1.gF ha,a.gF ha,c.gF ha⟩
theorem my.mono(s:ag H H'):∀ {vs:u_} {xs:List oz},my K H vs xs->my K H' vs xs
 | [],[],h=>h
 |_::_,_::_,⟨a,t⟩=>⟨a.mono s,my.mono s t⟩
 | [],_::_,h=>h.elim
 |_::_,[],h=>h.elim
theorem my.gF{B_:Addr}{ys:u_}{o:HO}(ha:H B_=some (.lst ys)):∀ {vs:u_} {xs:List oz},my K H vs xs->my K (upd H B_ o) vs xs
 | [],[],h=>h
 |_::_,_::_,⟨a,t⟩=>⟨a.gF ha,my.gF ha t⟩
 | [],_::_,h=>h.elim
 |_::_,[],h=>h.elim
theorem my.length:∀ {vs:u_} {xs:List oz},my K H vs xs->vs.length=xs.length
 | [],[],_=>rfl
 |_::_,_::_,⟨_,t⟩=>by rw[kf,kf,my.length t]
 | [],_::_,h=>h.elim
 |_::_,[],h=>h.elim
theorem my.get:∀ {vs:u_} {xs:List oz} {i:Nat},my K H vs xs->i<xs.length->∃v,vs[i]?=some v/\Ch K H v (xs.getD i (0,[]))
 | [],[],i,_,h=>by simp at h
 |v::_,x::_,0,⟨a,_⟩,_=>⟨v,rfl,a⟩
 |_::_,_::xs,i+1,⟨_,t⟩,h=>by
  obtain⟨v,e,c⟩:=my.get (i:=i) t (by simpa using h)
  exact⟨v,by simpa using e,by simpa using c⟩
 | [],_::_,_,h,_=>h.elim
 |_::_,[],_,h,_=>h.elim
theorem my.append:∀ {vs ws:u_} {xs ys:List oz},my K H vs xs->my K H ws ys->my K H (vs++ws) (xs++ys)
 | [],_,[],_,_,h=>h
 |_::_,_,_::_,_,⟨a,t⟩,h=>⟨a,my.append t h⟩
 | [],_,_::_,_,h,_=>h.elim
 |_::_,_,[],_,h,_=>h.elim
structure zQ(cs:e_)(ws:d_)(m:Nat)(x:oz):Prop where
 each:∀g∈x.2,GG cs ws m g
 Ay:x.2.Pairwise λg h=>∀x∈g.2,x∉h.2
 sum:(x.2.map<|qt cs).sum=x.1
 nn:0<=x.1
theorem zQ.mono{cs:e_}{ws:d_}{k m:Nat}{x:oz}(h:zQ cs ws k x)(s:Sub k m):zQ cs ws m x:=⟨λg a=>(h.each g a).mono s,h.Ay,h.sum,h.nn⟩
variable{x:oz}
def zQ.len{ws:d_}(h:zQ cs ws m x):x.2.length<=cs.length:=by
 have j:∀ {L:B0L},(∀g∈L,GG cs ws m g)->(L.Pairwise λg h=>∀x∈g.2,x∉h.2)->(L.map λg=>g.2.getD 0 0).Nodup/\∀y∈L.map λg=>g.2.getD 0 0,y<cs.length/\∃g∈L,y∈g.2:=λ{L} h1 o=>by
  induction L with
  |nil=>exact⟨nodup_nil,λ_ h=>nomatch h⟩
  |cons g L n=>
   obtain⟨r,q⟩:=List.pairwise_cons.mp o;obtain⟨p,l⟩:=n (λg d=>h1 g<|fN _ d) q;have d:=h1 g gc;have hm:g.2.getD 0 0∈g.2:=qI<|FM.mpr d.ne;refine⟨?_,λy hy=>?_⟩
   ·rw[qb,wh];refine⟨λz=>?_,p⟩;obtain⟨_,f,i,hy⟩:=l _ z;exact r f i _ hm hy
   ·rcases gz.mp hy with e|e
    ·rw[e];exact⟨d.ok.lt _ hm,g,gc,hm⟩
    ·obtain⟨a,f,b,c⟩:=l y e;exact⟨a,f,fN _ b,c⟩
 obtain⟨a,b⟩:=j h.each h.Ay
 have:=cE a λy hy=>(b y hy).1
 rwa [b5]at this
def zQ.add{ws:d_}{y:oz}(h:zQ cs ws a x)(k:zQ cs ws b y)(d:SD a b)(s1:Sub a m)(s2:Sub b m):zQ cs ws m (x.1+y.1,x.2++y.2):=by
 refine⟨λg i=>?_,List.pairwise_append.mpr ⟨h.Ay,k.Ay,λg i l c z n f=>?_⟩,?_,?_⟩
 ·rcases ih.mp i with e|e
  ·exact(h.each g e).mono s1
  ·exact(k.each g e).mono s2
 ·have h1:=(h.each g i).UJ z n;have j:=(k.each l c).UJ z f;rw[d z h1]at j;cases j
 ·show((x.2++y.2).map<|qt cs).sum=x.1+y.1;rw[hI,L2.sum_append,h.sum,k.sum]
 ·show 0<=x.1+y.1
  have:=h.nn;have:=k.nn;omega
def pO(cs:e_)(ws:d_)(m:Nat)(x:oz):Prop:=zQ cs ws m x/\True
def mz(cs:e_)(ws:d_)(m:Nat)(x:oz):Prop:=zQ cs ws m x/\True
def uL(cs:e_)(ws:d_)(m:Nat):zQ cs ws m (0,[]):=⟨(λ_ h=>nomatch h),.nil,rfl,Int.le_refl _⟩
def Dn(cs:e_)(ws:d_):pO cs ws 0 (0,[]):=⟨uL cs ws 0,trivial⟩
def Dp(cs:e_)(ws:d_):mz cs ws 0 (0,[]):=⟨uL cs ws 0,trivial⟩
def xg{k i:Nat}{ps:d_}(hk:k<(ba m).length)(hi:i=(ba m).getD k 0)(h:∀q∈ps,Sub q m/\∀j,q.testBit j=true->j∈(ba m).take k):
  ∀q∈ps++ps.map (λx=>x+2 ^ i),Sub q m/\∀j,q.testBit j=true->j∈(ba m).take (k+1):=by
 rw[take_snoc 0 hk,<-hi];intro q hq
 rcases ih.mp hq with hq|hq
 ·exact⟨(h q hq).1,λj hj=>LI _<|(h q hq).2 j hj⟩
 ·obtain⟨q,c,rfl⟩:=kc.mp hq;obtain⟨a,b⟩:=h q c;have hb:q.testBit i=false:=by
   cases e:q.testBit i with
   |false=>rfl
   |true=>
    have h1:=Gm (dj m)<|b i e;rw[hi,Up (dj m) hk]at h1
    omega
  have g:∀j,(q+2 ^ i).testBit j=true->q.testBit j=true∨i=j:=λj hj=>by
   rw[Bu hb,iP,P3,ka]at hj;exact hj
  refine⟨λj hj=>?_,λj hj=>?_⟩
  ·rcases g j hj with hj|rfl
   ·exact a j hj
   ·rw[hi];exact fI.mp<|qI hk
  ·rcases g j hj with hj|rfl
   ·exact LI _<|b j hj
   ·exact rk _ gc
def Nl(K:Frag):Sp:=λa H Q _=>∃(w:Addr) (ws:d_),a=[.ref w]/\aP K H w ((aE ws).map V.int)/\ws.length<=8/\iu ws/\∀(H':Hp),ag H H'->(¬(laidOut ws).length<ws.length->Q .bA H')/\((laidOut ws).length<ws.length->∀p r o,H' p=some (.iE o<|.tup<|(aE r).map V.int)->o.cls=.type "tuple"->o.dict=none->Ring ws r->Q (.ref p) H')
def SE(K:Frag):Sp:=λa H Q _=>∃(w p:Addr) (ws l:d_),a=[.ref w,.ref p]/\aP K H w ((aE ws).map V.int)/\ay K H p ((aE l).map V.int)/\ws.length<=8/\l.length<=8/\∀(t:Addr) (H':Hp),ag H H'->aP K H' t ((aE<|mx ws l).map V.int)->Q (.ref t) H'
def SF(K:Frag):Sp:=λa H Q _=>∃(c w:Addr) (cs:e_) (ws:d_) (m:Nat),a=[.ref c,.ref w,.int (m:Int)]/\aP K H c (cs.map V.int)/\aP K H w ((aE ws).map V.int)/\b9 cs/\ws.length=cs.length/\iu ws/\0<m/\m<2 ^ cs.length/\
 ∀(t:Addr) (us:u_) (L:B0L) (H':Hp),ag H H'->aP K H' t us->GF K H' us L->pO cs ws m ((L.map<|qt cs).sum,L)->Q (.ref t) H'
def Nm(K:Frag):Sp:=λa H Q _=>∃(c w:Addr) (cs:e_) (ws:d_),a=[.ref c,.ref w]/\aP K H c (cs.map V.int)/\aP K H w ((aE ws).map V.int)/\b9 cs/\ws.length=cs.length/\iu ws/\
 ∀(l:Addr) (us:u_) (fl:List oz) (H':Hp),ag H H'->H l=none->H' l=some (.lst us)->my K H' us fl->fl.length=2 ^ cs.length->(∀k,k<2 ^ cs.length->pO cs ws k (fl.getD k (0,[])))->Q (.ref l) H'
def SG:Sp:=λa H Q _=>∃(m:Nat),a=[.int (m:Int)]/\m<256/\∀(l:Addr) (ps:d_) (H':Hp),ag H H'->H l=none->H' l=some (.lst<|(aE ps).map V.int)->(∀q∈ps,Sub q m)->ps.length<=256->Q (.ref l) H'
def SH(K:Frag):Sp:=λa H Q _=>∃(lo be:Addr) (cs:e_) (ws:d_) (ul ub:u_) (fl fb:List oz) (m:Nat),a=[.ref lo,.ref be,.int (m:Int)]/\ay K H lo ul/\ay K H be ub/\my K H ul fl/\my K H ub fb/\b9 cs/\ws.length=cs.length/\fl.length=2 ^ cs.length/\fb.length=m/\0<m/\m<2 ^ cs.length/\
 (∀k,k<2 ^ cs.length->pO cs ws k (fl.getD k (0,[])))/\(∀k,k<m->mz cs ws k (fb.getD k (0,[])))/\∀(v:V) (x:oz) (H':Hp),ag H H'->Ch K H' v x->mz cs ws m x->Q v H'
def SI(K:Frag):Sp:=λa H Q _=>∃(c w:Addr) (cs:e_) (ws:d_),a=[.ref c,.ref w]/\aP K H c (cs.map V.int)/\aP K H w ((aE ws).map V.int)/\b9 cs/\ws.length=cs.length/\iu ws/\
 ∀(t:Addr) (us:u_) (L:B0L) (H':Hp),ag H H'->aP K H' t us->GF K H' us L->mz cs ws (2 ^ cs.length-1) ((L.map<|qt cs).sum,L)->Q (.ref t) H'
variable{us:f'}
def HA(h:us.length=n+1):∃a t,us=a::t/\t.length=n:=by
 cases us with
 |nil=>cases h
 |cons a t=>exact⟨a,t,rfl,Nat.succ.inj h⟩
def SJ(h:us.length=1):∃a0,us=[a0]:=by
 obtain⟨a,t,rfl,k⟩:=HA h
 cases t with
 |nil=>exact⟨a,rfl⟩
 |cons _ _=>cases k
def SK(h:us.length=2):∃a0 a1,us=[a0,a1]:=by
 obtain⟨a,t,rfl,k⟩:=HA h;obtain⟨b,rfl⟩:=SJ k;exact⟨a,b,rfl⟩
def SM(h:us.length=3):∃a0 a1 a2,us=[a0,a1,a2]:=by
 obtain⟨a,t,rfl,k⟩:=HA h;obtain⟨b,c,rfl⟩:=SK k;exact⟨a,b,c,rfl⟩
def SN(h:us.length=4):∃a0 a1 a2 a3,us=[a0,a1,a2,a3]:=by
 obtain⟨a,t,rfl,k⟩:=HA h;obtain⟨d,b,c,rfl⟩:=SM k;exact⟨a,d,b,c,rfl⟩
def Uw(h:us.length=5):∃a0 a1 a2 a3 a4,us=[a0,a1,a2,a3,a4]:=by
 obtain⟨a,t,rfl,k⟩:=HA h;obtain⟨e,b,c,d,rfl⟩:=SN k;exact⟨a,e,b,c,d,rfl⟩
def Ux{σ:St}(h:∀R:p_,(∀σ' H',B D σ' H'->R σ' H')->A {D with nx:=R} σ H):oH A B D σ H:=h (B D) λ_ _ z=>z
structure Dq(P:Program)(w:World)(K:Frag)(a:Addr)(C_:s_):Prop where
 ns:(a==sysModules)=false
 ex:∃o vs,K.lookup a=some o/\o.IsDictOf (bz P w) vs/\KV C_ vs
def Nn(C_:s_)(a:Addr)(td ty:TE):TE:=λσ H Q=>td σ H λx H1=>ty σ H1 λy b=>∃k v,x=.ref a/\y=kV k/\cJ C_ k=some v/\Q v b
def HB(C_:s_)(a:Addr)(ty td:TE):TE:=λσ H Q=>ty σ H λy H1=>td σ H1 λx b=>∃k,x=.ref a/\y=kV k/\Q (.bl<|!(cJ C_ k).isSome) b
variable{x:Str}{a:Addr}
def SO(S:Sc X N W G)(g:Nat)(h:X.mg x=some (.ref a))(hg:G[g]?=some x:=by rfl):QE X (.Name x pos) (tC<|.ref a):=by
 have q:=S.gl _<|fA hg;exact⟨nU q.1 h rfl q.2.1⟩
variable{C_:s_}
def Dq.at_{σ:St}(D:Dq X.prog X.w X.K a C_)(I:Inv X w_ σ H s):∃vs,KV C_ vs/\s.heap.DictOf (bz X.prog X.w) a vs:=by
 obtain⟨o,vs,hk,b,r⟩:=D.ex;exact⟨vs,r,Heap.dictOf_iff.mpr ⟨o,I.jw a o hk,b⟩⟩
variable{i:Expr}{td ty:TE}
def SQ(D:Dq X.prog X.w X.K a C_)(ho:QE X o td)(hi:QE X i ty)(hs:JL i:=by intro _ _;rfl):QE X (.Subscript o i pos) (Nn C_ a td ty):=by
 refine⟨λb s σ H Q I h=>Ba PySem.F.slot_dict_getitem.lookup hs<|bN (ho.h b s σ H _ I h) λu B ⟨x,H1,A,r,p⟩=>bN (hi.h b B σ H1 _ A p) λC E ⟨y,j,e,z,k,v,m,n,l,t⟩=>?_⟩;subst m n;obtain rfl:u=Value.ref a:=r;obtain⟨q,d,f⟩:=D.at_ e;obtain⟨G,g,c⟩:=gR.some_of (v:=v) (o:=valueAt q k) (by rw[<-l];exact d.val k)
 exact⟨f.typeIs,wpAny_getItem_of (mZ z) f.mapOf g ⟨v,j,e.tok _,c,t⟩⟩
def Lk(D:Dq X.prog X.w X.K a C_)(hi:PE X i ty)(ho:PE X o td):PC X .NotIn i o (HB C_ a ty td):=by
 intro b s σ H Q I h;refine bN (hi b s σ H _ I h) λt r ⟨y,H1,q,n,j⟩=>bN (ho b r σ H1 _ q j) λu v ⟨x,e,d,l,k,f,g,m⟩=>?_;subst f g;obtain rfl:u=Value.ref a:=l;obtain⟨z,c,p⟩:=D.at_ d;refine wpAny_notIn_of (mZ n) D.ns p.mapOf ?_;rw[<-(c.val k).jn];exact⟨.bl<|!(cJ C_ k).isSome,e,d.tok _,rfl,m⟩
def SR(D:Dq X.prog X.w X.K a C_)(hi:QE X i ty)(ho:QE X o td)(hm:behindInMarks .NotIn o=false):QT X (.Compare i [.NotIn] [o] pos) (tB<|HB C_ a ty td):=⟨Em (Lk D hi.h ho.h) hm⟩
def HC{σ:St} :Nn C_ a td ty σ H Q=td σ H λx H1=>ty σ H1 λy H2=>∃k v,x=.ref a/\y=kV k/\cJ C_ k=some v/\Q v H2:=rfl
def HD{σ:St} :HB C_ a ty td σ H Q=ty σ H λy H1=>td σ H1 λx H2=>∃k,x=.ref a/\y=kV k/\Q (.bl<|!(cJ C_ k).isSome) H2:=rfl
noncomputable def lD(e:Nat->Addr):s_:=[(.inr "sure",.ref<|e 0),(.inr "share",.ref<|e 1),(.inr "groups",.ref<|e 2),(.inr "ring",.ref<|e 3),(.inr "order",.ref<|e 4),(.inr "put",.ref<|e 5),(.inr "guess",.ref<|e 6),(.inr "right",.ref<|e 7),(.inr "book",.ref<|e 8)]
structure uM(P:Program)(w:World)(K:Frag)(mg:b_)(a:Addr)(e:Nat->Addr):Prop where
 gl:mg "FORMS"=some (.ref a)
 Qz:Dq P w K a (lD e)
 t0:∀k,k<9->k≠5->k≠6->∀H,aP K H (e k) []
 t5:∀H,aP K H (e 5) [.str "name",.str "colour"]
 t6:∀H,aP K H (e 6) [.str "name"]
noncomputable def Uy(e0 e1 e2 e3 e4 e5 e6 e7 e8:Addr):Nat->Addr
 |0=>e0
 |1=>e1
 |2=>e2
 |3=>e3
 |4=>e4
 |5=>e5
 |6=>e6
 |7=>e7
 |_=>e8
variable{u0 u2:Tok}{n1 n2:Nat}
def HE{e0 e1 e2 e3 e4 e5 e6 e7 e8:Addr}{t0 t1 t2 t3 t4 t5 t6 t7 t8 u1:Tok}{ep n0 n3 n4 n5 n6 n7 n8:Nat}{d0 d1 d2 d3 d4 d5 d6 d7 d8:h_}{s0 s1 s2 s3 s4 s5 s6 s7 s8:Array (g_)}(X:K.In h)(G:h.Ns mainGlobals mg)
  (a0:nsIn K mainGlobals "FORMS"=some (some<|.ref a)) (hs:(a==sysModules)=false)
  (a1:K.lookup a=some ⟨.type "dict",none,.dict #[⟨PyData.keyHash w.params "sure",.str "sure" t0,.ref e0⟩,⟨PyData.keyHash w.params "share",.str "share" t1,.ref e1⟩,⟨PyData.keyHash w.params "groups",.str "groups" t2,.ref e2⟩,⟨PyData.keyHash w.params "ring",.str "ring" t3,.ref e3⟩,⟨PyData.keyHash w.params "order",.str "order" t4,.ref e4⟩,⟨PyData.keyHash w.params "put",.str "put" t5,.ref e5⟩,⟨PyData.keyHash w.params "guess",.str "guess" t6,.ref e6⟩,⟨PyData.keyHash w.params "right",.str "right" t7,.ref e7⟩,⟨PyData.keyHash w.params "book",.str "book" t8,.ref e8⟩] ep,#[]⟩)
  (l0:K.lookup e0=some ⟨.type "tuple",d0,.seq #[] n0,s0⟩) (l1:K.lookup e1=some ⟨.type "tuple",d1,.seq #[] n1,s1⟩) (l2:K.lookup e2=some ⟨.type "tuple",d2,.seq #[] n2,s2⟩) (l3:K.lookup e3=some ⟨.type "tuple",d3,.seq #[] n3,s3⟩) (l4:K.lookup e4=some ⟨.type "tuple",d4,.seq #[] n4,s4⟩) (l5:K.lookup e5=some ⟨.type "tuple",d5,.seq #[.str "name" u0,.str "colour" u1] n5,s5⟩) (l6:K.lookup e6=some ⟨.type "tuple",d6,.seq #[.str "name" u2] n6,s6⟩) (l7:K.lookup e7=some ⟨.type "tuple",d7,.seq #[] n7,s7⟩) (l8:K.lookup e8=some ⟨.type "tuple",d8,.seq #[] n8,s8⟩):uM P w K mg a (Uy e0 e1 e2 e3 e4 e5 e6 e7 e8):=by
 refine⟨mg_of X G a0,⟨hs,_,[(.inr "sure",.ref e0),(.inr "share",.ref e1),(.inr "groups",.ref e2),(.inr "ring",.ref e3),(.inr "order",.ref e4),(.inr "put",.ref e5),(.inr "guess",.ref e6),(.inr "right",.ref e7),(.inr "book",.ref e8)],a1,⟨_,_,⟨rfl,rfl,rfl⟩,rfl,?_,?_,?_⟩,?_⟩,λk hk c b H=>?_,λH=>.inr ⟨_,_,_,l5,rfl,rfl,by show 2<=sizeLine;decide,.cons ⟨_,rfl⟩<|.cons ⟨_,rfl⟩ .nil⟩,λH=>.inr ⟨_,_,_,l6,rfl,rfl,by show 1<=sizeLine;decide,.cons ⟨_,rfl⟩ .nil⟩⟩
 ·intro e he;simp only[List.mem_toArray,mem_cons,not_mem_nil,or_false]at he
  rcases he with rfl|rfl|rfl|rfl|rfl|rfl|rfl|rfl|rfl<;>exact⟨.inr _,bM P w _ _,rfl⟩
 ·exact .cons (bM P w _ _) rfl<|.cons (bM P w _ _) rfl<|.cons (bM P w _ _) rfl<|.cons (bM P w _ _) rfl<|.cons (bM P w _ _) rfl<|.cons (bM P w _ _) rfl<|.cons (bM P w _ _) rfl<|.cons (bM P w _ _) rfl<|.cons (bM P w _ _) rfl .nil
 ·show([.inr "sure",.inr "share",.inr "groups",.inr "ring",.inr "order",.inr "put",.inr "guess",.inr "right",.inr "book"]:List Key).Nodup
  decide +kernel
 ·exact .cons ⟨rfl,rfl⟩<|.cons ⟨rfl,rfl⟩<|.cons ⟨rfl,rfl⟩<|.cons ⟨rfl,rfl⟩<|.cons ⟨rfl,rfl⟩<|.cons ⟨rfl,rfl⟩<|.cons ⟨rfl,rfl⟩<|.cons ⟨rfl,rfl⟩<|.cons ⟨rfl,rfl⟩ .nil
 ·match k,hk,c,b with
  |0,_,_,_=>exact .inr ⟨_,_,_,l0,rfl,rfl,a_,.nil⟩
  |1,_,_,_=>exact .inr ⟨_,_,_,l1,rfl,rfl,a_,.nil⟩
  |2,_,_,_=>exact .inr ⟨_,_,_,l2,rfl,rfl,a_,.nil⟩
  |3,_,_,_=>exact .inr ⟨_,_,_,l3,rfl,rfl,a_,.nil⟩
  |4,_,_,_=>exact .inr ⟨_,_,_,l4,rfl,rfl,a_,.nil⟩
  |7,_,_,_=>exact .inr ⟨_,_,_,l7,rfl,rfl,a_,.nil⟩
  |8,_,_,_=>exact .inr ⟨_,_,_,l8,rfl,rfl,a_,.nil⟩
structure xh(K:Frag)(C:Addr)(m qual:Str)(st:Stmt)(z:Str):Prop where
 ex:∃f fd t,R8 K m qual st f fd [.str z t]/\Meth K C m f
variable{m:Str}
def HF{z:Str}{f T:Addr}{t:Tok}{o:Obj}{oc:Value}{an:h_}{osl:Array (g_)}{kV doc pm cy ct:Value}
  (a:findIn K (.ref C) m=some (some<|.ref f)) (l:K.lookup f=some ⟨oc,od,.func<|fnOf m qual (bw st) (aS st) (aj st) (.ref T) kV doc pm an cy ct,osl⟩)
  (c:codeIn K cy qual=true) (k:keepIn K (.ref f)=true) (i:isFn K (.ref f)=true) (lt:K.lookup T=some o) (ld:o.data=.seq #[.str z t] n):xh K C m qual st z:=
 ⟨f,_,t,⟨⟨oc,od,T,kV,doc,pm,an,cy,ct,osl,o,n,rfl,l,c,lt,ld⟩,k⟩,a,i,k⟩
structure Ll(P:Program)(w:World)(K:Frag)(mg:b_)(base:Heap)(k:Nat)(C:Addr)(m p1 p2:Str)(z:Str)(sp:Sp):Prop where
 ex:∃f fd t,eh P w K mg base (lN P w) k f fd [p1,p2] sp/\Meth K C m f/\Binds K fd [p1,p2] []/\Binds K fd [p1,p2] [.str z t]
def bindM(m qual:Str)(st:Stmt)(p1 p2:Str):Prop:=∀(T:Addr) (kV doc pm:Value) (an:h_) (cy ct u v:Value),
 (∃k,bindArgs (fnOf m qual (bw st) (aS st) (aj st) (.ref T) kV doc pm an cy ct) ⟨[u],[]⟩=(seqItems? (.ref T) >>= k)/\∀d,k (some #[d])=pure [(p1,u),(p2,d)])/\
 (∃k,bindArgs (fnOf m qual (bw st) (aS st) (aj st) (.ref T) kV doc pm an cy ct) ⟨[u,v],[]⟩=(seqItems? (.ref T) >>= k)/\∀d,k (some #[d])=pure [(p1,u),(p2,v)])
variable{z p1 p2:Str}
def xh.gq(D:xh K C m qual st z)(S:DS (aj st) N [p1,p2] G)(hb:bindM m qual st p1 p2)
  (len:∀vs H Q E,sp vs H Q E->vs.length=2)
  (cX:∀(X:Cx),Sc X N N G->X.prog=P->X.w=w->X.K=K->X.mg=mg->X.base=base->X.calm=true->X.env.scope=aj st->X.xe=(λ_ _=>False)->ck k X.A->X.A.units+64<cLine->
   ∀(H:Hp) (vs:u_) (Q:VK) (E:XK),sp vs H Q E->∃t,vY X (aS st) t/\t {nx:=λ_ H'=>Q .bA H',rt:=Q} (L2.start N vs) H):Ll P w K mg base (k+1) C m p1 p2 z sp:=by
 obtain⟨f,R,t,F,M⟩:=D.ex;obtain⟨O,L,T,kV,b,x,r,p,ct,I,o,n,rfl,J,d,lt,y⟩:=F.ex;refine⟨f,_,t,eh.lift<|vO J d S.fs len λA j s H vs Q E B i=>?_,M,λs c l a=>?_,λs c l a=>?_⟩
 ·obtain⟨t,h,q⟩:=cX _ S.cx rfl rfl rfl rfl rfl rfl rfl rfl B B.units H vs Q E i;exact⟨t,h.h.Mc,q⟩
 ·rw[Vj]at a ⊢
  match c,a with
  | [u,v],_=>
   obtain⟨k,e,g⟩:=(hb T kV b x r p ct u v).2;exact binds_K l rfl lt y e<|g _
 ·obtain⟨u,rfl⟩:∃u,c=[u]:=by
   rw[eR]at a
   have:c.length=1:=by simpa using a
   exact S4.mp this
  obtain⟨k,e,g⟩:=(hb T kV b x r p ct u u).1;exact binds_K l rfl lt y e<|g _
variable{p:Pos}
def Uz(S:Sc X N W G)(g:Nat)(T:eQ X.K X.mg x C fields)(F:Ll X.prog X.w X.K X.mg X.base k C "__init__" p1 p2 z sp)(hx:Passes (lN X.prog X.w) X E)(hr:ck n X.A)(ha:QB X (e::es) t)(hk:k+1<=n:=by decide)(hg:G[g]?=some x:=by rfl):
  QE X (.Call (.Name x p) (e::es) [] pos) (rV C sp [] E t):=by
 obtain⟨f,a,_,F,M,hb,_⟩:=F.ex;have q:=S.gl x<|fA hg;exact⟨A7 ⟨T.makes,M.at_,M.fn,T.kp⟩ F (hr.mono hk) q.1 T.gl hb .nil hx ha.h.pa q.2.1 (bb ha.h.he)<|cA ha.h.Be⟩
def BS:rV C sp [.str z] E vL σ H Q=∀x dx,H x=none->H dx=none->dx≠x->sp [.ref x,.str z] (upd (upd H dx<|.own x) x<|.ins C dx []) (λv H2=>v=.bA/\Q (.ref x) H2) E:=rfl
abbrev qM(k:Bool)(h:Heap)(i l:Addr)(n:Nat):Prop:=cond k (h.IsListIter i l n)<|h.IsTupleIter i l n
abbrev uN(k:Bool)(h:Heap)(l:Addr)(ys:Array Value):Prop:=cond k (h.IsList l ys)<|h.IsTuple l ys
abbrev eO(k:Bool)(K:Frag)(H:Hp)(l:Addr)(ys:List V):Prop:=cond k (ay K H l ys)<|aP K H l ys
theorem qM.at{k:Bool}{h h':Heap}{i l:Addr}{n:Nat}(t:qM k h i l n)(q:∀o,h.get? i=some o->h'.get? i=some o):qM k h' i l n:=by
 cases k
 ·exact Heap.IsTupleIter.at t q
 ·exact Heap.IsListIter.at t q
theorem uN.at{k:Bool}{h h':Heap}{l:Addr}{ys:k_}(t:uN k h l ys)(q:∀o,h.get? l=some o->h'.get? l=some o):uN k h' l ys:=by
 cases k
 ·exact Heap.IsTuple.at t q
 ·exact Heap.IsList.at t q
variable{i l:Addr}
def qM.ob{k:Bool}(t:qM k h i l n):∃o m,h.get? i=some o/\o.cls=.type m/\"zip"≠m/\"tuple"≠m/\∃d,o.data=.fields d:=by
 cases k
 ·obtain⟨o,e,c,d⟩:=t;exact⟨o,_,e,c,a_,a_,_,d⟩
 ·obtain⟨o,e,c,d⟩:=t;exact⟨o,_,e,c,a_,a_,_,d⟩
variable{prog:Program}{A:Around}{E Q:c_}{ys:k_}
def UZ{k:Bool}{y:Value}(t:qM k s.heap i l n)(p:uN k s.heap l ys)(e:ys[n]?=some y)
  (q:∀h',qM k h' i l (n+1)->h'.objs.size=s.heap.objs.size/\(∀c,c≠i->h'.get? c=s.heap.get? c)->Q y {s with heap:=h'}):wpAny (model prog w) A (Builtin.SmallTypes.nextOf<|.ref i) Q E s:=by
 cases k
 ·exact wg t p e λh' a b=>q h' a b
 ·exact wpAny_nextOf_list_item t p e λh' a b=>q h' a b
def UA{k:Bool}(hA:A.handled=none)(t:qM k s.heap i l n)(p:uN k s.heap l ys)(e:ys[n]?=none)
  (q:∀h' e,ExtBut i s.heap h'->(∃o,h'.get? e=some o/\o.cls=.type "StopIteration")->E (.ref e) {s with heap:=h'}):wpAny (model prog w) A (Builtin.SmallTypes.nextOf<|.ref i) Q E s:=by
 cases k
 ·exact k8 hA t p e q
 ·exact wpAny_nextOf_list_end hA t p e q
variable{j:Bool}{xs:k_}{z i1 i2:Addr}
def SS{k:Bool}{TI TO l1 l2:Addr}{a b:Value}(hA:A.handled=none)(D:ZipApart z TI TO i1 i2 l1 l2)(kz:IsZip s.heap z TI TO .none)(kI:IsPair s.heap TI (.ref i1) (.ref i2))(kO:IsPair s.heap TO a b)
  (t1:qM j s.heap i1 l1 n1) (t2:qM k s.heap i2 l2 n2) (p1:uN j s.heap l1 xs) (p2:uN k s.heap l2 ys)
  (q:∀x y h',xs[n1]?=some x->ys[n2]?=some y->IsZip h' z TI TO (rawInt s.heap.objs.size)->IsPair h' TO x y->qM j h' i1 l1 (n1+1)->qM k h' i2 l2 (n2+1)->IsPair h' s.heap.objs.size x y->
   (∀c o,c≠z->c≠TO->c≠i1->c≠i2->s.heap.get? c=some o->h'.get? c=some o)->Q (.ref s.heap.objs.size) {s with heap:=h'})
  (qe:∀h' e,xs[n1]?=none∨ys[n2]?=none->(∀c o,c≠z->c≠TO->c≠i1->c≠i2->s.heap.get? c=some o->h'.get? c=some o)->(∃o,h'.get? e=some o/\o.cls=.type "StopIteration")->E (.ref e) {s with heap:=h'}):
  wpAny (model prog w) A (Builtin.«zip.__next__» ⟨[.ref z],[]⟩) (λf s'=>∃v,f=.done (.ret v)/\Q v s') E s:=by
 refine dy (m:=field (.ref z) 2)<|KE kz rfl (x:=.bool false) rfl<|dy (m:=field (.ref z) 3)<|KE kz rfl (x:=.ref TI) rfl<|dy<|Vk kI rfl<|dy (m:=Builtin.SmallTypes.ownedTupleIsFree<|.ref z) ?_;unfold Builtin.SmallTypes.ownedTupleIsFree;refine dy<|KE kz rfl (x:=.none) rfl<|fO ?_;simp only[if_true];refine dy (wpAny_rule (dy (KE kz rfl (x:=.ref TO) rfl (dy (wpAny_setField_rec kz (by simp) λu1 M B=>?_)))))
 have M:IsZip u1 z TI TO .ellipsis:=M;refine dy ?_;simp only[List.zipIdx_cons,List.zipIdx_nil,forIn_cons,List.forIn_nil];have G:∀(i:Addr) (v u:Heap) (e:Addr),i=i1∨i=i2->xs[n1]?=none∨ys[n2]?=none->i≠z->IsZip v z TI TO .ellipsis->(∀c o,c≠z->c≠i1->c≠TO->s.heap.get? c=some o->v.get? c=some o)->ExtBut i v u->(∃o,u.get? e=some o/\o.cls=.type "StopIteration")->
   IsZip u z TI TO .ellipsis/\∀d,SameBut z u d->E (.ref e) {s with heap:=d}:=by
  intro i v u e hi hn iz zv kv l ⟨oe,ge,ce⟩;have z4:u.get? z=some _:=l _ _ iz.symm zv;have ne:e≠z:=gZ ge ce z4 rfl a_
  exact⟨z4,λd h=>qe d e hn (λc o g p t H x=>(h.2 c g).trans<|l c o (λq=>hi.elim (λr=>t<|q.trans r) λr=>H<|q.trans r)<|kv c o g t p x) ⟨oe,(h.2 e ne).trans ge,ce⟩⟩
 cases I:xs[n1]? with
 |none=>
  refine dy<|dy<|wpAny_onRaise<|dy (m:=Builtin.SmallTypes.nextOf<|.ref i1)<|UA hA (t1.at λo e=>(B.2 _ D.i1z).trans e) (p1.at λo e=>(B.2 _ D.l1z).trans e) I λS e F he=>?_;have f:=G i1 u1 S e (.inl rfl) (.inl I) D.i1z M (λc o g _ _ e=>(B.2 c g).trans e) F he;exact wpAny_setField_rec f.1 (by simp) λd _ h=>f.2 d h
 |some x=>
 refine dy<|dy<|wpAny_onRaise<|dy (m:=Builtin.SmallTypes.nextOf<|.ref i1)<|UZ (t1.at λo e=>(B.2 _ D.i1z).trans e) (p1.at λo e=>(B.2 _ D.l1z).trans e) I λS s1 F=>fO ?_;have o2:IsPair S TO a b:=(F.2 _ D.TOi1).trans<|(B.2 _ D.TOz).trans kO;refine dy<|Vk o2 rfl<|dy<|wpAny_updateSeq_pair o2 λO T P=>?_;have T:IsPair O TO x b:=T;have C:∀c o,c≠z->c≠i1->c≠TO->s.heap.get? c=some o->O.get? c=some o:=λc o g p t e=>(P.2 c t).trans<|(F.2 c p).trans<|(B.2 c g).trans e;have Z:IsZip O z TI TO .ellipsis:=(P.2 _ D.TOz.symm).trans<|(F.2 _ D.i1z.symm).trans M;refine dy<|wpAny_letGo<|fO ?_
 cases N:ys[n2]? with
 |none=>
  refine dy<|dy<|wpAny_onRaise<|dy (m:=Builtin.SmallTypes.nextOf<|.ref i2)<|UA hA (t2.at λo e=>C _ o D.i2z D.i12.symm D.TOi2.symm e) (p2.at λo e=>C _ o D.l2z D.l2i1 D.l2TO e) N λU e l he=>?_;have f:=G i2 O U e (.inr rfl) (.inr N) D.i2z Z C l he;exact wpAny_setField_rec f.1 (by simp) λd _ h=>f.2 d h
 |some y=>
 refine dy<|dy<|wpAny_onRaise<|dy (m:=Builtin.SmallTypes.nextOf<|.ref i2)<|UZ (t2.at λo e=>C _ o D.i2z D.i12.symm D.TOi2.symm e) (p2.at λo e=>C _ o D.l2z D.l2i1 D.l2TO e) N λU s2 l=>fO ?_;have o4:IsPair U TO x b:=(l.2 _ D.TOi2).trans T;refine dy<|Vk o4 rfl<|dy<|wpAny_updateSeq_pair o4 λd L h=>?_;have L:IsPair d TO x y:=L;refine dy<|wpAny_letGo<|fO<|fO<|dy<|Vk L rfl<|dy<|wpAny_newTuple ?_;have Y:d.objs.size=s.heap.objs.size:=by rw[h.1,l.1,P.1,F.1,B.1]
 have k5:∀c o,c≠z->c≠TO->c≠i1->c≠i2->s.heap.get? c=some o->d.get? c=some o:=λc o g p t H e=>(h.2 c p).trans<|(l.2 c H).trans<|C c o g t p e;have z5:IsZip d z TI TO .ellipsis:=(h.2 _ D.TOz.symm).trans<|(l.2 _ D.i2z.symm).trans Z;have r1:qM j d i1 l1 (n1+1):=s1.at λo e=>(h.2 _ D.TOi1.symm).trans<|(l.2 _ D.i12).trans<|(P.2 _ D.TOi1.symm).trans e;have r2:qM k d i2 l2 (n2+1):=s2.at λo e=>(h.2 _ D.TOi2.symm).trans e;have X:z<d.objs.size:=lt_size z5;refine dy (m:=Builtin.SmallTypes.ownedTupleHandOut (.ref z)<|.ref d.objs.size) ?_;unfold Builtin.SmallTypes.ownedTupleHandOut;have z6:IsZip (d.push {cls:=.type "tuple",data:=.seq #[x,y]}) z TI TO .ellipsis:=ef _ z5;refine dy (wpAny_setField_rec z6 (by simp) λu7 W b7=>?_)
 have W:IsZip u7 z TI TO (rawInt d.objs.size):=W;refine wpAny_setField_rec W (by simp) λR K b8=>?_
 have K:IsZip R z TI TO (rawInt d.objs.size):=K;have J:∀c o,c≠z->d.get? c=some o->R.get? c=some o:=λc o g e=>(b8.2 c g).trans<|(b7.2 c g).trans<|ef _ e;have new:IsPair R d.objs.size x y:=(b8.2 _<|VF X).trans<|(b7.2 _<|VF X).trans<|h9 _ rfl;rw[Y]at K new;refine fO ⟨_,rfl,(show ∀n:Nat,n=s.heap.objs.size->Q (.ref n) _ from λn en=>?_) d.objs.size Y⟩
 subst en;exact q x y R I N K (J _ _ D.TOz L) (r1.at λo e=>J _ o D.i1z e) (r2.at λo e=>J _ o D.i2z e) new λc o g p t H e=>J c o g<|k5 c o g p t H e
noncomputable abbrev vC(k:Bool)(p:Addr):Obj:={cls:=.type<|cond k "list_iterator" "tuple_iterator",data:=.fields #[.ref p,.int 0 0]}
noncomputable def Qv(j k:Bool)(h:Heap)(p1 p2:Addr):Heap:=(h.push<|vC j p1).push<|vC k p2
noncomputable def UB(j k:Bool)(h:Heap)(p1 p2:Addr):Heap:=
 (((Qv j k h p1 p2).push<|Ef (.ref h.objs.size)<|.ref (h.push<|vC j p1).objs.size).push<|Ef .none .none).push {cls:=.type "zip",data:=.fields #[.none,.bool false,.bool false,.ref (Qv j k h p1 p2).objs.size,.ref ((Qv j k h p1 p2).push<|Ef (.ref h.objs.size)<|.ref (h.push<|vC j p1).objs.size).objs.size]}
def SU{k:Bool}{p:Addr}(h:uN k s.heap p ys)(q:Q (.ref s.heap.objs.size) {s with heap:=s.heap.push (vC k p)}):wpAny (model prog w) A (pyIter<|.ref p) Q E s:=by
 cases k
 ·exact Vi h q
 ·exact Os h q
theorem uN.push{k:Bool}{h:Heap}{p:Addr}{ys:k_}(t:uN k h p ys)(o:Obj):uN k (h.push o) p ys:=t.at λ_ e=>ef _ e
def HG(j k:Bool)(p1 p2:Addr)(xs ys:k_):
  Meets (Builtin.«zip.__new__» ⟨[.type "zip",.ref p1,.ref p2],[]⟩) (λ_ R s=>uN j s.heap p1 xs/\uN k s.heap p2 ys/\R (.ok<|.ret<|.ref (((Qv j k s.heap p1 p2).push<|Ef (.ref s.heap.objs.size)<|.ref (s.heap.push<|vC j p1).objs.size).push<|Ef .none .none).objs.size) {s with heap:=UB j k s.heap p1 p2}):=
 .of_wp λc w A R s h=>by
  obtain⟨b,g,d,e,a⟩:=s;obtain⟨i,f,h⟩:=h;have z:=sub_zip;have l:uN j (Shared.heap ⟨b,g,d,e,a⟩) p1 xs:=i;have m:uN k (Shared.heap ⟨b.push<|vC j p1,g,d,e,a⟩) p2 ys:=f.push _
  wp_walk using SU l,SU m
  exact⟨_,rfl,h⟩
def Dr{k:Bool}{p1 p2:Addr}(e1:uN j s.heap p1 xs)(e2:uN k s.heap p2 ys)
  (q:∀h',IsZip h' (s.heap.objs.size+4) (s.heap.objs.size+2) (s.heap.objs.size+3) .none->IsPair h' (s.heap.objs.size+2) (.ref s.heap.objs.size) (.ref<|s.heap.objs.size+1)->IsPair h' (s.heap.objs.size+3) .none .none->
   qM j h' s.heap.objs.size p1 0->qM k h' (s.heap.objs.size+1) p2 0->(∀c o,s.heap.get? c=some o->h'.get? c=some o)->Q (.ref<|s.heap.objs.size+4) {s with heap:=h'}):
  wpAny (model prog w) A (call (.type "zip") [.ref p1,.ref p2]) Q E s:=by
 refine callType_new F.called_zip a_ (F.typeCall_zip_2 _ _) (F.newCall_zip_2 _ _) (λobj=>F.args_object_init_3 obj _ _) F.entry_zip_new (HG j k p1 p2 xs ys) ⟨e1,e2,?_⟩
 generalize f:s.heap.push (vC j p1)=a;have r:a.objs.size=s.heap.objs.size+1:=by rw[<-f];exact C6 ..
 have z:a.get? s.heap.objs.size=some (vC j p1):=by rw[<-f];exact h9 _ rfl
 have D:∀c o,s.heap.get? c=some o->a.get? c=some o:=λc o e=>by rw[<-f];exact ef _ e
 have hb:Qv j k s.heap p1 p2=a.push (vC k p2):=by unfold Qv;rw[f]
 have h:(a.push<|vC k p2).objs.size=s.heap.objs.size+2:=by rw[C6,r]
 have t:(a.push<|vC k p2).get? (s.heap.objs.size+1)=some (vC k p2):=by rw[<-r];exact h9 _ rfl
 have l:∀c o,a.get? c=some o->(a.push<|vC k p2).get? c=some o:=λc o e=>ef _ e;have C:UB j k s.heap p1 p2=(((a.push<|vC k p2).push<|Ef (.ref s.heap.objs.size)<|.ref a.objs.size).push<|Ef .none .none).push {cls:=.type "zip",data:=.fields #[.none,.bool false,.bool false,.ref (a.push<|vC k p2).objs.size,.ref ((a.push<|vC k p2).push<|Ef (.ref s.heap.objs.size)<|.ref a.objs.size).objs.size]}:=by
  unfold UB;rw[hb,f]
 rw[C,hb];generalize a.push (vC k p2)=b at h t l;generalize hc:b.push (Ef (.ref s.heap.objs.size)<|.ref a.objs.size)=c;have i:c.objs.size=s.heap.objs.size+3:=by rw[<-hc,C6,h]
 have v:c.get? (s.heap.objs.size+2)=some (Ef (.ref s.heap.objs.size)<|.ref a.objs.size):=by rw[<-hc,<-h];exact h9 _ rfl
 have n:∀x o,b.get? x=some o->c.get? x=some o:=λx o e=>by rw[<-hc];exact ef _ e
 generalize p:c.push (Ef .none .none)=d;have y:d.objs.size=s.heap.objs.size+4:=by rw[<-p,C6,i]
 have B:d.get? (s.heap.objs.size+3)=some (Ef .none .none):=by rw[<-p,<-i];exact h9 _ rfl
 have kd:∀x o,c.get? x=some o->d.get? x=some o:=λx o e=>by rw[<-p];exact ef _ e
 have g:∀x o u,d.get? x=some o->(d.push u).get? x=some o:=λx o u e=>ef _ e;rw[r]at v;rw[h,i];have m:=h9 d (o:={cls:=.type "zip",data:=.fields #[.none,.bool false,.bool false,.ref<|s.heap.objs.size+2,.ref<|s.heap.objs.size+3]}) rfl;rw[y]at m;show _/\_;rw[y];exact⟨⟨_,m,rfl⟩,q _ m (g _ _ _<|kd _ _ v) (g _ _ _ B) (by cases j<;>exact⟨_,g _ _ _<|kd _ _<|n _ _<|l _ _ z,rfl,rfl⟩) (by cases k<;>exact⟨_,g _ _ _<|kd _ _<|n _ _ t,rfl,rfl⟩) λx o e=>g _ _ _<|kd _ _<|n _ _<|l _ _<|D _ _ e⟩
noncomputable def Qw(j k:Bool)(K:Frag)(a b:Addr):It:=
 ⟨λi H=>∃xs ys x y,eO j K H a xs/\eO k K H b ys/\xs[i]?=some x/\ys[i]?=some y,λi H v c=>∃p x y,H p=none/\v=.ref p/\c=upd H p (.tup [x,y])/\∀xs ys,eO j K H a xs->eO k K H b ys->xs[i]?=some x/\ys[i]?=some y,λi H=>∃xs ys,eO j K H a xs/\eO k K H b ys/\(xs.length<=i∨ys.length<=i)⟩
structure SV(j k:Bool)(z TI TO i1 i2 a b:Addr)(i:Nat)(h:Heap):Prop where
 zz:IsZip h z TI TO .none
 ti:IsPair h TI (.ref i1) (.ref i2)
 to:∃u v,IsPair h TO u v
 t1:qM j h i1 a i
 t2:qM k h i2 b i
variable{xs:u_}{k:Bool}
def eO.ar(I:Inv X w_ σ H s)(h:eO k X.K H a xs):∃its,Vals xs its/\uN k s.heap a its.toArray:=by
 cases k
 ·obtain⟨its,r,p,_⟩:=I.tuple h;exact⟨its,r,show s.heap.IsTuple a its.toArray from p⟩
 ·obtain⟨its,r,p,_⟩:=I.list h;exact⟨its,r,p.isList⟩
variable{ys:u_}
def eO.inj(I:Inv X w_ σ H s)(h:eO k X.K H a xs)(h':eO k X.K H a ys):xs=ys:=by
 cases k
 ·exact I.rN h h'
 ·exact I.vF h h'
variable{b:Addr}
def fZ(I:Inv X w_ σ H s)(h:eO k X.K H a xs)(f:kN X w_ H b):a≠b:=λz=>by
 subst z
 cases k
 all_goals
  rcases h with (h|⟨o,h⟩)|⟨o,c,n,hk,_⟩
  ·rw[f.1]at h;cases h
  ·rw[f.1]at h;cases h
  ·have e:=I.mod.NG a o hk
   rcases f.2.2.2.1 with z|z
   ·exact I.ok.ve a o e z
   ·exact absurd (j5 (lt_size (I.ok.bs a o e).1) z)<|F8 _
variable{TI TO:Addr}{i:Nat}
def SV.apart(I:Inv X w_ σ H s)(hTT:TI≠TO)(hii:i1≠i2)(st:SV j k z TI TO i1 i2 a b i s.heap)(ha:eO j X.K H a xs)(hb:eO k X.K H b ys)
  (f:∀c∈[z,TI,TO,i1,i2],kN X w_ H c):ZipApart z TI TO i1 i2 a b:=by
 obtain⟨d,h,⟨u,v,l⟩,x,y⟩:=st;obtain⟨E,C,m,n,B,q,_⟩:=x.ob;obtain⟨D,F,e,g,A,r,_⟩:=y.ob;have p:=f z (by simp)
 have t:=f TO (by simp)
 have o:=f i1 (by simp)
 have w:=f i2 (by simp)
 exact⟨gZ h rfl d rfl a_,gZ l rfl d rfl a_,gZ m n d rfl B.symm,gZ e g d rfl A.symm,hTT,gZ h rfl m n q,gZ h rfl e g r,gZ l rfl m n q,gZ l rfl e g r,hii,
  fZ I ha p,fZ I ha t,fZ I ha o,fZ I ha w,fZ I hb p,fZ I hb t,fZ I hb o,fZ I hb w⟩
def SV.obj(st:SV j k z TI TO i1 i2 a b i h)(c:Addr)(hc:c∈[z,TI,TO,i1,i2]):∃o,h.get? c=some o/\∀v,o.data≠.cell v:=by
 obtain⟨d,f,⟨u,v,g⟩,n,l⟩:=st;obtain⟨t,_,m,_,_,_,_,r⟩:=n.ob;obtain⟨s,_,e,_,_,_,_,p⟩:=l.ob;simp only[mem_cons,not_mem_nil,or_false]at hc
 rcases hc with rfl|rfl|rfl|rfl|rfl
 ·exact⟨_,d,λv q=>by cases q⟩
 ·exact⟨_,f,λv q=>by cases q⟩
 ·exact⟨_,g,λv q=>by cases q⟩
 ·exact⟨_,m,λv q=>by rw[r]at q;cases q⟩
 ·exact⟨_,e,λv q=>by rw[p]at q;cases q⟩
variable{x1:Nat}
def Ds{k:Bool}{elts:i_}{pos:Pos}(z TI TO i1 i2 a b:Addr)(hTT:TI≠TO)(hii:i1≠i2):Turn P w K (.Tuple elts x1 pos) (Qw j k K a b) [z,TI,TO,i1,i2] z (SV j k z TI TO i1 i2 a b) where
 mem:=by simp
 obj:=λ_ _ m=>m.obj
 keep:=λi h h' m k=>by
  obtain⟨r,C,⟨u,v,N⟩,Q,G⟩:=m;exact⟨k z (by simp) _ r,k TI (by simp) _ C,⟨u,v,k TO (by simp) _ N⟩,Q.at λo q=>k i1 (by simp) o q,G.at λo q=>k i2 (by simp) o q⟩
 item:=by
  intro X U R hK hc i M s σ H E I B m Y;subst U R hK;obtain⟨xs,ys,x,y,hq,l,hx,hy⟩:=Y;obtain⟨t,rv,p⟩:=eO.ar I hq;obtain⟨f,A,W⟩:=eO.ar I l;obtain⟨u,hu,ru⟩:=rv.get hx;obtain⟨v,hv,S⟩:=A.get hy;have eu:t.toArray[i]?=some u:=by simpa using hu
  have ev:f.toArray[i]?=some v:=by simpa using hv
  have no:t.toArray[i]?=none∨f.toArray[i]?=none->False:=λhn=>by
   rw[eu,ev]at hn
   rcases hn with hn|hn<;>cases hn
  have D:=m.apart I hTT hii hq l B;have ob:=m.obj;obtain⟨r,C,⟨c,d,N⟩,Q,G⟩:=m;have O:s.TypeIs (.ref z) "zip":=⟨_,r,rfl⟩;unfold pyNext;refine dy (wpAny_attempt (PP (name:=("__next__":Str)) O F.slot_zip_next (Vg F.slot_zip_next O F.entry_zip_next
   (SS (by simpa using I.ok.hd hc) D r C N Q G p W (λx' y' h1 gx gy z1 Z r1 r2 new k1=>fO ?_) λ_ _ hn=>(no hn).elim) (F.args_zip_next_1 _))))
  rw[eu]at gx;cases gx
  rw[ev]at gy;cases gy
  refine⟨_,rfl,wpAny_letOwnedTupleGo_zip z1 λn z2 J=>?_⟩;have lz:z<s.heap.objs.size:=lt_size r;have L:∀c o,c≠z->c≠TO->c≠i1->c≠i2->s.heap.get? c=some o->n.get? c=some o:=λc o a1 a2 a3 a4 e=>(J.2 c a1).trans<|k1 c o a1 a2 a3 a4 e;refine⟨.ref s.heap.objs.size,upd H s.heap.objs.size<|.tup [x,y],I.sx (ch:=[z,TI,TO,i1,i2]) (λc o hc q=>?_) B (ey _) (show bB X.prog X.w _ n _ (.tup _)from⟨by show 2<=sizeLine;decide,[u,v],.cons ru<|.cons S .nil,?_⟩),rfl,⟨_,x,y,I.fresh,rfl,rfl,λxs' ys' h1 n=>by rw[eO.inj I h1 hq,eO.inj I n l];exact⟨hx,hy⟩⟩,⟨z2,?_,⟨u,v,?_⟩,?_,?_⟩,λc hc=>?_⟩
  ·simp only[mem_cons,not_mem_nil,or_false,not_or]at hc;exact L c o hc.1 hc.2.2.1 hc.2.2.2.1 hc.2.2.2.2 q
  ·exact⟨_,(J.2 _<|VF lz).trans new,rfl,_,rfl⟩
  ·exact L _ _ D.TIz hTT D.TIi1 D.TIi2 C
  ·exact(J.2 _ D.TOz).trans Z
  ·exact r1.at λo q=>(J.2 _ D.i1z).trans q
  ·exact r2.at λo q=>(J.2 _ D.i2z).trans q
  ·obtain⟨o,e,_⟩:=ob c hc;rw[aK (ot<|lt_size e)];exact(B c hc).1
 done:=by
  intro X U R hK hc i M s σ H E I B m Y;subst U R hK;obtain⟨xs,ys,hq,l,hx⟩:=Y;obtain⟨t,rv,p⟩:=eO.ar I hq;obtain⟨f,A,W⟩:=eO.ar I l;have hl:=rv.length;have hl2:=A.length;have D:=m.apart I hTT hii hq l B;obtain⟨r,C,⟨c,d,N⟩,Q,G⟩:=m;have O:s.TypeIs (.ref z) "zip":=⟨_,r,rfl⟩;have no:∀x y,t.toArray[i]?=some x->f.toArray[i]?=some y->False:=λx y h1 n=>by
   have h1:=(Da.mp h1).1;have n:=(Da.mp n).1
   simp at h1 n
   omega
  unfold pyNext;refine dy (wpAny_attempt (PP (name:=("__next__":Str)) O F.slot_zip_next (Vg F.slot_zip_next O F.entry_zip_next
   (SS (by simpa using I.ok.hd hc) D r C N Q G p W (λx y _ h1 n _ _ _ _ _ _=>(no x y h1 n).elim) λh' e _ k he=>?_) (F.args_zip_next_1 _))))
  obtain⟨o,g,ce⟩:=he;refine dy<|wpAny_isInstance (T:="StopIteration") (b:=true) ⟨o,g,ce⟩ isSubtype_stop<|fO ⟨rfl,I.Ko (t':=s.toks) (ch:=[z,TI,TO,i1,i2]) (λc o hc q=>?_) B⟩;simp only[mem_cons,not_mem_nil,or_false,not_or]at hc;exact k c o hc.1 hc.2.2.1 hc.2.2.2.1 hc.2.2.2.2 q
 self:=λ_ _ _ _ _ m h=>wpAny_pyIter_zip m.zz h
end L2
namespace L2
open PySem PySem.Spec PyProof.Rows
def U0(j k:Bool)(K:Frag)(ta:TA):TI:=λσ H R=>ta σ H λc H1=>∃a b,c=[.ref a,.ref b]/\(∃xs,eO j K H1 a xs)/\(∃ys,eO k K H1 b ys)/\R (Qw j k K a b) H1
variable{X:Cx}{N W G:f_}{K:Frag}{e f:Expr}{t:TA}{p pos tpos:Pos}{elts:i_}{x1:Nat}
def SW(j k:Bool)(S:Sc X N W G)(g:Nat)(hm:X.mg "zip"=none)(hK:X.K=K)(ha:QB X [e,f] t)(hg:G[g]?=some "zip":=by rfl):QI X (.Tuple elts x1 tpos) (.Call (.Name "zip" p) [e,f] [] pos) (U0 j k K t):=by
 subst hK;refine⟨λd s σ H R I h=>?_⟩;have ha:=ha.h;have q:=S.gl _<|fA hg;have w:Fx f=true:=by have:=ha.Be;rw[VL,fz]at this;exact this.1
 refine Call_ (jT I q.1 hm boot_zip (IR (bN (ha.pa pos d s σ H _ I h) λT m ⟨U,H1,l,P,F⟩=>?_) (by rw[bb ha.he,bb w]) (by rw[bb w];rfl)))
 obtain⟨a,b,rfl,⟨Z,hq⟩,⟨ys,r⟩,q⟩:=F;obtain⟨u,v,rfl,L,O⟩:=P.two
 cases L
 cases O
 obtain⟨M,rv,Q⟩:=eO.ar l hq;obtain⟨y,J,o⟩:=eO.ar l r;refine Dr Q o λY x E A C B D=>wpAny_pyIter_zip x ?_;generalize hn:m.heap.objs.size=n at *;refine⟨n+4,[n+4,n+2,n+3,n,n+1],_,_,H1,rfl,l.kept (t':=m.toks) D,Ds _ _ _ _ _ a b (λz=>by have z:n+2=n+3:=z;omega) (λz=>by have z:n=n+1:=z;omega),⟨x,E,⟨_,_,A⟩,C,B⟩,λc hc=>?_,q⟩
 have i:m.heap.objs.size<=c:=by
  simp only[mem_cons,not_mem_nil,or_false]at hc;rw[hn]
  rcases hc with rfl|rfl|rfl|rfl|rfl
  all_goals first|exact ey _|exact Nat.le_add_right _ _
 exact l.yr i<|l.bf.fresh i
variable{ta:TA}{R:It->r_}
def Np{j k:Bool}{σ:St}{H:Hp} :U0 j k K ta σ H R=ta σ H λvs H1=>∃a b,vs=[.ref a,.ref b]/\(∃xs,eO j K H1 a xs)/\(∃ys,eO k K H1 b ys)/\R (Qw j k K a b) H1:=rfl
def eO.mono{k:Bool}{H H':Hp}{l:Addr}{ys:u_}(h:eO k K H l ys)(s:ag H H'):eO k K H' l ys:=by
 cases k
 ·exact s.aO h
 ·exact s.seq h
variable{j k:Bool}{a b:Addr}{te:TE}{Q:VK}{H1:Hp}{vs us:u_}{rest:St}
def SX(n:Nat)(val:Nat->V)(h:eO j K H1 a us)(h':eO k K H1 b vs)(hu:n<=us.length)(hv:n<=vs.length)(hl:us.length<=n∨vs.length<=n)(hn:n<sizeLine)
  (step:∀i H (A:q_),i<n->ag H1 H->(∀H',ag H H'->A (val i) H')->te (some (us.getD i .bA)::some (vs.getD i .bA)::rest) H A)
  (fin:∀B_ H,H1 B_=none->ag H1 H->H B_=some (.lst<|(List.range n).map val)->Q (.ref B_) H):
  ∃c d,[V.ref a,V.ref b]=[.ref c,.ref d]/\(∃xs,eO j K H1 c xs)/\(∃ys,eO k K H1 d ys)/\vB (qw K 2<|dS (bF 0)<|dS (bF 1) qv) iL te (none::none::rest) Q (Qw j k K c d) H1:=by
 refine⟨a,b,rfl,⟨_,h⟩,⟨_,h'⟩,λB_ f=>?_⟩;refine⟨λi m τ H=>m=n-i/\i<=n/\(∃y z,τ=y::z::rest)/\ag H1 H/\H B_=some (.lst<|(List.range i).map val),⟨n,by simp,zero_le _,⟨_,_,rfl⟩,ag.new f _,af⟩,?_⟩
 rintro i m τ H ⟨rfl,hi,⟨y,z,rfl⟩,o,F⟩;have D:=h.mono o;have C:=h'.mono o
 by_cases g:i<n
 ·have G:∀q:u_,n<=q.length->q[i]?=some (q.getD i .bA):=λq M=>by
   rw[b4,cc<|j5 g M];rfl
  have I:=G us hu;have L:=G vs hv;refine .inr ⟨⟨_,_,_,_,D,C,I,L⟩,λJ H'=>(∃y z,J=y::z::rest)/\ag H1 H'/\H' B_=some (.lst<|(List.range<|i+1).map val),λJ H' ⟨u,v,w⟩=>⟨n-(i+1),by omega,rfl,g,u,v,w⟩,λx H' y=>?_⟩
  obtain⟨p,P,O,N,rfl,rfl,B⟩:=y;obtain⟨r,t⟩:=B _ _ D C;have r:P=us.getD i .bA:=qa<|r.symm.trans I;have t:O=vs.getD i .bA:=qa<|t.symm.trans L;subst r t;have E:=ag.new N<|.tup [us.getD i .bA,vs.getD i .bA];refine⟨p,_,rfl,aP.of af,rfl,_,_,rfl,_,_,rfl,rfl,?_⟩;simp only[jZ,FQ,oZ,set_cons_zero,set_cons_succ];refine step i _ _ g (o.trans E) λR l=>?_;have s:=l _ _<|E _ _ F;refine⟨_,s,?_,⟨_,_,rfl⟩,((o.trans E).trans l).set f _,?_⟩
  ·rw[b5,j6];omega
  ·rw[af,GT,hI];rfl
 ·have e:i=n:=by omega
  subst e;exact .inl ⟨⟨_,_,D,C,hl⟩,fin B_ H f o F⟩
def SY(val:Nat->V)(h:eO j K H1 a us)(h':eO k K H1 b vs)(hl:us.length=vs.length)(hn:us.length<sizeLine)
  (step:∀i H (A:q_),i<us.length->ag H1 H->(∀H',ag H H'->A (val i) H')->te (some (us.getD i .bA)::some (vs.getD i .bA)::rest) H A)
  (fin:∀B_ H,H1 B_=none->ag H1 H->H B_=some (.lst<|(List.range us.length).map val)->Q (.ref B_) H):
  ∃c d,[V.ref a,V.ref b]=[.ref c,.ref d]/\(∃xs,eO j K H1 c xs)/\(∃ys,eO k K H1 d ys)/\vB (qw K 2<|dS (bF 0)<|dS (bF 1) qv) iL te (none::none::rest) Q (Qw j k K c d) H1:=
 SX us.length val h h' (ey _) (Nat.le_of_eq hl) (.inl<|ey _) hn step fin
variable{ns:e_}
def PL{ms:e_}(n:Nat)(val:Nat->V)(h:aP K H1 a (ns.map V.int))(h':aP K H1 b (ms.map V.int))(hu:n<=ns.length)(hv:n<=ms.length)(hl:ns.length<=n∨ms.length<=n)(hn:n<sizeLine)
  (step:∀i H (A:q_),i<n->ag H1 H->(∀H',ag H H'->A (val i) H')->te (some (.int<|ns.getD i 0)::some (.int<|ms.getD i 0)::rest) H A)
  (fin:∀B_ H,H1 B_=none->ag H1 H->H B_=some (.lst<|(List.range n).map val)->Q (.ref B_) H):
  ∃c d,[V.ref a,V.ref b]=[.ref c,.ref d]/\(∃xs,eO false K H1 c xs)/\(∃ys,eO false K H1 d ys)/\vB (qw K 2<|dS (bF 0)<|dS (bF 1) qv) iL te (none::none::rest) Q (Qw false false K c d) H1:=by
 have f:∀(e:e_) i,i<e.length->(e.map V.int).getD i .bA=.int (e.getD i 0):=λe i hi=>by
  rw[b4,b4,eG,cc hi];rfl
 refine SX (j:=false) (k:=false) n val h h' (by rw[b5];exact hu) (by rw[b5];exact hv) (by rw[b5,b5];exact hl) hn (λi H A hi g q=>?_) fin
 rw[f ns i (by omega),f ms i (by omega)]
 exact step i H A hi g q
noncomputable def Du(k:Bool)(K:Frag)(a:Addr):It:=
 ⟨λi H=>∃xs x,eO k K H a xs/\xs[i]?=some x,λi H x b=>∃p v,H p=none/\x=.ref p/\b=upd H p (.tup [.int i,v])/\∀xs,eO k K H a xs->xs[i]?=some v,λi H=>∃xs,eO k K H a xs/\xs.length=i⟩
def PM{k:Bool}{prog:Program}{w:World}{A:Around}(hA:A.handled=none)(it p:Addr)(hne:p≠it)(vs:k_):Draws prog w A it [it,p] vs.size (λi v=>vs[i]?=some v) (λi h=>qM k h it p i/\uN k h p vs):=by
 cases k
 ·exact O4 hA it p hne vs
 ·exact Draws.list hA it p hne vs
def HH{k:Bool}{P:Program}{w:World}{pos:Pos}(a e it:Addr)(hei:e≠it):Turn P w K (.Tuple elts x1 pos) (Du k K a) [e,it] e (λi h=>(∃old,IsEnum h e it i old)/\qM k h it a i) where
 mem:=by simp
 obj:=λi h f b hb=>by
  obtain⟨⟨old,he⟩,t⟩:=f;obtain⟨o,_,eo,_,_,_,_,d⟩:=t.ob
  rcases gz.mp hb with rfl|hb
  ·exact⟨_,he,λv z=>by cases z⟩
  ·rw[ek.mp hb];exact⟨o,eo,λv z=>by rw[d]at z;cases z⟩
 keep:=λi h W f k=>by
  obtain⟨⟨old,he⟩,f⟩:=f;exact⟨⟨old,k e (by simp) _ he⟩,f.at λo q=>k it (by simp) o q⟩
 item:=by
  intro X D A Q hc i n s σ H E I l f J;subst D A Q;obtain⟨xs,x,hq,hx⟩:=J;obtain⟨g,M,p⟩:=eO.ar I hq;obtain⟨u,hu,ru⟩:=M.get hx;obtain⟨⟨old,he⟩,si⟩:=f;have O:=fZ I hq (l e (by simp))
  have B:i<g.toArray.size:=by
   rw[gd];exact(nt.mp hu).1
  refine wpAny_pyNext_enum_itemD (PM (by simpa using I.ok.hd hc) it a (fZ I hq (l it (by simp))) g.toArray) he ⟨si,p⟩ B hei (by simp only[mem_cons,not_mem_nil,or_false,not_or];exact⟨hei,Ne.symm O⟩) λv h1 tk hv ho L ht Y hk=>?_
  refine⟨_,rfl,wpAny_letOwnedTupleGo_enum ho λU N j=>?_⟩;have y:e<s.heap.objs.size:=lt_size he;have S:v=u:=by
   have r:g[i]?=some v:=by simpa using hv
   rw[hu]at r;cases r;rfl
  subst S;refine⟨.ref s.heap.objs.size,upd H s.heap.objs.size<|.tup [.int i,x],I.sx (ch:=[e,it]) (λb o hb q=>?_) l (ey _) (show bB X.prog X.w _ U _ (.tup _)from⟨by show 2<=sizeLine;decide,[.int i tk,v],.cons ⟨_,rfl⟩<|.cons ru .nil,?_⟩),rfl,⟨_,x,I.fresh,rfl,rfl,λys hy=>by rw[eO.inj I hy hq];exact hx⟩,⟨⟨v,?_⟩,?_⟩,λb hb=>?_⟩
  ·simp only[mem_cons,not_mem_nil,or_false,not_or]at hb;exact(j.2 b hb.1).trans (hk b o hb.1 hb.2 q)
  ·exact⟨_,(j.2 _<|VF y).trans ht,rfl,_,rfl⟩
  ·exact N
  ·exact L.1.at λo q=>(j.2 it<|Ne.symm hei).trans q
  ·rw[aK (λz=>?_)]
   ·exact(l b hb).1
   ·obtain⟨_,_,G,_⟩:=si.ob
    rcases gz.mp hb with rfl|hb
    ·exact absurd z<|ot y
    ·rw[ek.mp hb]at z;exact absurd z (ot<|lt_size G)
 done:=by
  intro X D A Q hc i n s σ H E I l f J;subst D A Q;obtain⟨xs,hq,hx⟩:=J;obtain⟨g,M,p⟩:=eO.ar I hq;obtain⟨⟨old,he⟩,si⟩:=f;have hl:=M.length;have R:s.TypeIs (.ref e) "enumerate":=⟨_,he,rfl⟩;unfold pyNext;refine dy<|wpAny_attempt<|PP (name:=("__next__":Str)) R F.slot_enumerate_next<|Vg F.slot_enumerate_next R F.entry_enumerate_next ?_ (F.args_enumerate_next_1 _);refine dy (m:=field (.ref e) 2) (KE he rfl (x:=.ref it) rfl (dy (UA (by simpa using I.ok.hd hc) si p (by simp;omega) λW x Z C=>?_)))
  obtain⟨o,q,c⟩:=C;refine dy<|wpAny_isInstance (T:="StopIteration") (b:=true) ⟨o,q,c⟩ isSubtype_stop ?_;obtain⟨f0,f1,f2,f3,f4,f5⟩:=l it (by simp)
  exact fO ⟨rfl,I.turned (t':=s.toks) (λb o hb z=>Z b o hb z) f0 f1 f3 f4 f5⟩
 self:=λ_ _ _ _ _ f h=>by
  obtain⟨⟨old,he⟩,_⟩:=f;exact wpAny_pyIter_enum he h
def PN(k:Bool)(K:Frag)(ta:TA):TI:=λσ H R=>ta σ H λb H1=>∃a,b=[.ref a]/\(∃xs,eO k K H1 a xs)/\R (Du k K a) H1
def PQ(S:Sc X N W G)(g:Nat)(hm:X.mg "enumerate"=none)(hK:X.K=K)(ha:PB X [e] t)(hg:G[g]?=some "enumerate":=by rfl):PI X (.Tuple elts x1 tpos) (.Call (.Name "enumerate" p) [e] [] pos) (PN k K t):=by
 subst hK;intro f s σ H R I h;have q:=S.gl _<|fA hg;refine Call_<|jT I q.1 hm boot_enumerate<|IR (bN (ha.pa pos f s σ H _ I h) λD c ⟨C,H1,n,z,v⟩=>?_) (bb ha.he) rfl;obtain⟨a,rfl,⟨B,hq⟩,q⟩:=v;obtain⟨u,rfl,x⟩:=vals1 z
 cases x
 obtain⟨y,E,r⟩:=eO.ar n hq;have go:∀d,IsEnum d (c.heap.objs.size+1) c.heap.objs.size 0 .none->qM k d c.heap.objs.size a 0->(∀b o,c.heap.get? b=some o->d.get? b=some o)->wpAny (model X.prog X.w) X.A (pyIter<|.ref<|c.heap.objs.size+1) (T3 X f σ (.Tuple elts x1 tpos) R) X.xe {c with heap:=d}:=λd i j l=>by
  refine wpAny_pyIter_enum i ?_;refine⟨c.heap.objs.size+1,[c.heap.objs.size+1,c.heap.objs.size],_,_,H1,rfl,n.kept (t':=c.toks) l,HH a _ _<|Nat.succ_ne_self _,⟨⟨_,i⟩,j⟩,λb hb=>?_,q⟩;have m:c.heap.objs.size<=b:=by
   rcases gz.mp hb with rfl|hb
   ·exact le_succ _
   ·rw[ek.mp hb];exact ey _
  exact n.yr m<|n.bf.fresh m
 cases k
 ·exact ze r λd i j l=>go d i j l
 ·exact call_enumerate_list r λd i j _ l=>go d i j l
def Dv(k:Bool)(S:Sc X N W G)(g:Nat)(hm:X.mg "enumerate"=none)(hK:X.K=K)(ha:QB X [e] t)(hg:G[g]?=some "enumerate":=by rfl):QI X (.Tuple elts x1 tpos) (.Call (.Name "enumerate" p) [e] [] pos) (PN k K t):=⟨PQ S g hm hK ha.h hg⟩
def HI{σ:St}{H:Hp} :PN k K ta σ H R=ta σ H λvs H1=>∃a,vs=[.ref a]/\(∃xs,eO k K H1 a xs)/\R (Du k K a) H1:=rfl
variable{j:Nat}
def HJ(k:Bool){i:Nat}{tb:TS}{D:Ends}{σ:St}{H:Hp}(I:o_)(h:eO k K H a us)(h0:I 0 σ H)(hl:∀i σ H,I i σ H->eO k K H a us)
  (step:∀k v σ H H2,us[k]?=some v->I k σ H->ag H H2->tb {D with nx:=I<|k+1,ct:=I<|k+1,bk:=D.nx} ((σ.set i<|some<|.int k).set j<|some v) H2)
  (fin:∀σ H,I us.length σ H->D.nx σ H):∃b,[V.ref a]=[.ref b]/\(∃xs,eO k K H b xs)/\qB (qw K 2<|dS (bF i)<|dS (bF j) qv) tb D σ (Du k K b) H:=by
 refine⟨a,rfl,⟨_,h⟩,λk m σ H=>m=us.length-k/\k<=us.length/\I k σ H,⟨us.length,by simp,zero_le _,h0⟩,?_⟩
 rintro k m σ H ⟨rfl,hk,p⟩;have q:=hl k σ H p
 by_cases c:k<us.length
 ·obtain⟨v,hx⟩:∃v,us[k]?=some v:=⟨_,cc c⟩;refine .inr ⟨⟨_,_,q,hx⟩,I<|k+1,λl f d=>⟨us.length-(k+1),by omega,rfl,c,d⟩,λx f y=>?_⟩
  obtain⟨t,n,hn,rfl,rfl,g⟩:=y
  have:=g _ q
  rw[hx]at this;cases this
  refine⟨t,[.int k,v],rfl,aP.of af,rfl,?_⟩;exact⟨_,_,rfl,_,_,rfl,rfl,step k v σ H _ hx p<|ag.new hn _⟩
 ·have e:k=us.length:=by omega
  subst e;exact .inl ⟨⟨_,q,rfl⟩,fin σ H p⟩
def Nq{i:Nat}{tb:TS}{D:Ends}{σ:St}{H:Hp}(I:o_)(h:aP K H a (ns.map V.int))(h0:I 0 σ H)(hl:∀i σ H,I i σ H->aP K H a (ns.map V.int))
  (step:∀k σ H H2,k<ns.length->I k σ H->ag H H2->tb {D with nx:=I<|k+1,ct:=I<|k+1,bk:=D.nx} ((σ.set i<|some<|.int k).set j<|some<|.int<|ns.getD k 0) H2)
  (fin:∀σ H,I ns.length σ H->D.nx σ H):∃b,[V.ref a]=[.ref b]/\(∃xs,eO false K H b xs)/\qB (qw K 2<|dS (bF i)<|dS (bF j) qv) tb D σ (Du false K b) H:=
 HJ false I h h0 hl (λk v σ H H2 e p s=>by
  rw[eG]at e;have hk:k<ns.length:=Nat.lt_of_not_le λz=>by rw[ls z]at e;cases e
  have:=step k σ H H2 hk p s
  rw[b4]at this;rw[cc hk]at e this
  cases e;exact this) (λσ H p=>fin σ H (by rw[b5]at p;exact p))
def S0{tc:TT}{rest:St}(keep:Nat->Bool)(val:Nat->Int)(h:aP K H1 a (ns.map V.int))(hn:ns.length<sizeLine)
  (step:∀i H (A:q_) (B:r_),i<ns.length->ag H1 H->(keep i=true->∀H',ag H H'->A (.int<|val i) H')->(keep i=false->∀H',ag H H'->B H')->
   tc (some (.int (i:Int))::some (.int<|ns.getD i 0)::rest) H λb H3=>if b=true then te (some (.int (i:Int))::some (.int<|ns.getD i 0)::rest) H3 A else B H3)
  (fin:∀B_ H,H1 B_=none->ag H1 H->H B_=some (.lst<|(((List.range ns.length).filter keep).map val).map V.int)->Q (.ref B_) H):
  ∃b,[V.ref a]=[.ref b]/\(∃xs,eO false K H1 b xs)/\vB (qw K 2<|dS (bF 0)<|dS (bF 1) qv) tc te (none::none::rest) Q (Du false K b) H1:=by
 refine⟨a,rfl,⟨_,h⟩,λB_ d=>?_⟩;refine⟨λi m τ H=>m=ns.length-i/\i<=ns.length/\(∃y z,τ=y::z::rest)/\ag H1 H/\H B_=some (.lst<|(((List.range i).filter keep).map val).map V.int),⟨ns.length,by simp,zero_le _,⟨_,_,rfl⟩,ag.new d _,af⟩,?_⟩
 rintro i m τ H ⟨rfl,hi,⟨y,z,rfl⟩,g,n⟩;have p:=g.aO h
 by_cases f:i<ns.length
 ·have hx:(ns.map V.int)[i]?=some (.int<|ns.getD i 0):=by
   rw[eG,cc f,b4,cc f];rfl
  refine .inr ⟨⟨_,_,p,hx⟩,λr H'=>(∃y z,r=y::z::rest)/\ag H1 H'/\H' B_=some (.lst<|(((List.range<|i+1).filter keep).map val).map V.int),λr H' ⟨u,v,w⟩=>⟨ns.length-(i+1),by omega,rfl,f,u,v,w⟩,λx H' y=>?_⟩
  obtain⟨t,v,l,rfl,rfl,C⟩:=y
  have:=C _ p
  rw[hx]at this;cases this
  have j:=ag.new l<|.tup [.int (i:Int),.int<|ns.getD i 0];refine⟨t,_,rfl,aP.of af,rfl,_,_,rfl,_,_,rfl,rfl,?_⟩;simp only[set_cons_zero,set_cons_succ];have q:(((List.range i).filter keep).map val).length<=i:=by
   have:=ya keep<|List.range i
   rw[j6]at this;rw[b5];exact this
  refine step i _ _ _ f (g.trans j) (λhk s c=>?_) λhk s c=>?_
  ·have o:=c _ _<|j _ _ n;refine⟨_,o,?_,⟨_,_,rfl⟩,((g.trans j).trans c).set d _,?_⟩
   ·rw[b5];omega
   ·rw[af,GT,VJ,hI,hI]
    simp[hk]
  ·refine⟨⟨_,_,rfl⟩,(g.trans j).trans c,?_⟩;rw[c _ _ (j _ _ n),GT,VJ,hI,hI]
   simp[hk]
 ·have e:i=ns.length:=by omega
  subst e;exact .inl ⟨⟨_,p,by rw[b5]⟩,fin B_ H d g n⟩
theorem nz:∀ {vs:f'} {ns:f_},Vals (ns.map V.str) vs->∀i,i<ns.length->∃u,vs[i]?=some (.str (ns.getD i aX) u)
 |_,[],.nil,i,h=>absurd h<|VE i
 |_,_::_,.cons ⟨t,rfl⟩ _,0,_=>⟨t,rfl⟩
 |_,_::_,.cons ⟨t,rfl⟩ r,i+1,h=>by
  obtain⟨u,e⟩:=nz r i (by simpa using h)
  exact⟨u,by simpa using e⟩
variable{prog:Program}{w:World}{A:Around}{E:c_}{s:Shared}{p:Addr}{ns:f_}
def lE{vs:f'}{k:Str}{t:Tok}{Q:c_}(hp:s.heap.IsTuple p vs.toArray)(hi:Vals (ns.map V.str) vs)(hk:k∈ns)(q:∀tk,Q (.int (ns.idxOf k:Nat) tk) {s with toks:=s.toks+1}):
  wpAny (model prog w) A (call (.builtin "tuple.index") [.ref p,.str k t]) Q E s:=by
 obtain⟨o,z,B,n,v⟩:=id hp;refine Vg slot_tuple_index hp.typeIs F.entry_tuple_index ?_ (F.args_tuple_index_2 _ _);unfold Builtin.«tuple.index»;refine dy (wpAny_of_eq (a:=(Value.ref p,[Value.str k t])) rfl ?_)
 dsimp only
 have c:=hi.length;rw[b5]at c;have b:ns.idxOf k<ns.length:=C2.mpr hk;have dG:=nz hi;unfold Builtin.Tuple.tupleItemsOf;refine dy<|dy<|Vk z v<|fO<|dy<|fO<|dy<|fO<|dy ?_;rw[Std.Legacy.Range.forIn_eq_forIn_range'];have d:∀(m i:Nat) (R:Option Fin × Unit->Shared->Prop),i+m=vs.length->i<=ns.idxOf k->R (some<|.done<|.ret<|.int (ns.idxOf k:Nat) s.toks,()) {s with toks:=s.toks+1}->
   wpAny (model prog w) A.in1 (forIn (List.range' i m) ((none,()):Option Fin × Unit) λ(i:Nat) __s=>
    match vs.toArray[i]? with
    |some y=>do
     let __do_lift<-eqBool y (Value.str k t)
     if __do_lift=true then do
       let __do_lift<-retInt ((i:Nat):Int)
       pure (ForInStep.done (some __do_lift,()))
      else pure (ForInStep.yield (none,()))
    |x=>pure<|ForInStep.yield (none,())) R E s:=by
  intro m
  induction m with
  |zero=>intro i R h1 r _;omega
  |succ m l=>
   intro i R h1 r j;obtain⟨u,hu⟩:=dG i (by omega)
   rw[List.range'_succ,forIn_cons];have g:vs.toArray[i]?=some (.str (ns.getD i aX) u):=by simpa using hu
   simp only[g];refine dy<|dy<|wpAny_eqBool_str ?_
   by_cases e:i=ns.idxOf k
   ·have f:decide (ns.getD i aX=k)=true:=by
     rw[e,b4,cc b];show decide (ns[ns.idxOf k]=k)=true;rw[Vy b];exact ed rfl
    rw[f,if_pos rfl];unfold retInt;refine dy<|dy<|wpAny_mkInt<|fO<|fO<|fO ?_;rw[e];exact j
   ·have f:decide (ns.getD i aX=k)=false:=by
     rw[b4,cc (by omega)]
     show decide (ns[i]=k)=false
     have:=BF (show i<ns.idxOf k by omega) (by omega)
     exact cv (by simpa using this)
    rw[f,if_neg a_]
    exact fO (l (i+1) R (by omega) (by omega) j)
 have h:(([: min vs.toArray.size vs.toArray.size]:Std.Legacy.Range)).size=vs.length:=by simp[Std.Legacy.Range.size]
 rw[h];exact d vs.length 0 _ (by omega) (zero_le _)<|fO ⟨_,rfl,q _⟩
def HK(K:Frag):V->u_->Hp->VK->Prop:=λx a H Q=>∃(l:Addr) (ns:f_) (k:Str),x=.ref l/\a=[.str k]/\aP K H l (ns.map V.str)/\k∈ns/\Q (.int (ns.idxOf k:Nat)) H
def zS(hK:X.K=K):yo X "tuple.index" (HK K):=by
 subst hK;intro a s σ H x i v j Q I e d h;obtain⟨l,m,k,rfl,rfl,c,hk,q⟩:=h
 cases e
 obtain⟨u,rfl,f⟩:=d.one;obtain⟨t,rfl⟩:=f;obtain⟨b,r,g,n⟩:=I.tuple c;exact lE (show s.heap.IsTuple l b.toArray from g) r hk (Q:=EP X a σ Q) λo=>⟨.int _,H,I.tok _,⟨_,rfl⟩,q⟩
def HL:u_->Hp->VK->Prop:=λb H Q=>∃a C_,b=[.ref a]/\H a=some (.dK C_)/\∀l o,H l=none->o.cls=.type "tuple"->o.dict=none->Q (.ref l) (upd H l<|.iE o<|.tup<|C_.map λp=>kV p.1)
def zT(hc:X.calm=true):bJ X (.type "tuple") HL:=by
 intro d s σ H A B Q I r h;obtain⟨a,f,rfl,e,q⟩:=h;obtain⟨u,rfl,v⟩:=vals1 r
 cases v
 obtain⟨z,t,C,i,m⟩:=EV I.bf e;obtain⟨D,m⟩:=CZ m;refine nH t (I.ok.hd hc) m (by rw[<-i.length];exact z) λj l c hk g=>?_
 have n:Inv X d σ H {s with heap:=j,toks:=l}:=I.kept (t':=l) hk;have y:Vals (f.map λp=>kV p.1) c.toList:=C0 i g;have x:Inv X d σ (upd H j.objs.size<|.iE {cls:=.type "tuple",data:=.seq c}<|.tup<|f.map λp=>kV p.1) {s with heap:=j.push {cls:=.type "tuple",data:=.seq c},toks:=l}:=
  n.laid (t':=l) (λb o e=>ef _ e) (ey _) (show bB X.prog X.w _ _ _ (.iE _<|.tup _)from⟨h9 _ rfl,by rw[b5];exact z,c.toList,y,IsTup.new _ _⟩)
 exact⟨.ref j.objs.size,_,x,rfl,q _ _ (n.bf.fresh<|ey _) rfl rfl⟩
def IW(K:Frag)(H:Hp)(t:Addr)(b:Bk):Prop:=∃a1 a2 a3,aP K H t [.ref a1,.ref a2,.ref a3]/\aP K H a1 (b.ns.map V.str)/\wB K H a1/\aP K H a2 ((aE b.cs).map V.int)/\aP K H a3 ((aE b.ws).map V.int)
variable{H H':Hp}{t:Addr}{b:Bk}
theorem IW.mono(s:ag H H')(h:IW K H t b):IW K H' t b:=by
 obtain⟨f,g,i,a,h1,d,c,e⟩:=h;exact⟨f,g,i,s.aO a,s.aO h1,d.mono s,s.aO c,s.aO e⟩
variable{C dx:Addr}{fs:t_}
theorem IW.c6(s:Off a H H')(ha:H a=some (.ins C dx fs))(h:IW K H t b):IW K H' t b:=by
 obtain⟨g,i,j,c,h1,e,d,f⟩:=h;exact⟨g,i,j,c.c6 s ha,h1.c6 s ha,e.c6 s ha,d.c6 s ha,f.c6 s ha⟩
variable{d:Addr}
def Dw(h:DN H d ns)(q:∀l o,H l=none->o.cls=.type "tuple"->o.dict=none->Q (.ref l) (upd H l<|.iE o<|.tup<|ns.map V.str)):HL [.ref d] H Q:=⟨d,_,rfl,h,by rw[wQ];exact q⟩
def BU(K:Frag):Sp:=λa H Q _=>∃(L:List Ln) (b:Bk),a=[.str (dO L)]/\(∀x∈L,jD x)/\L.length<=100/\dz ⟨[],[],[]⟩ L=some b/\∀t H',ag H H'->IW K H' t b->Q (.ref t) H'
def xi(K:Frag):Sp:=λa H Q _=>∃(t:Addr) (ns:f_) (cs ws:d_),a=[.ref t]/\IW K H t ⟨ns,cs,ws⟩/\iy ns cs ws/\∀H',ag H H'->Q (.str<|dO<|(bh ns ws).map<|fk ns cs) H'
noncomputable def Lm(b h:Addr):t_:=[("book",.ref b),("hall",.ref h)]
noncomputable def xj(b:Addr):t_:=[("book",.ref b)]
variable{b:Addr}
def Lo:dF "book" (.ref b) []=xj b:=rfl
variable{h:Addr}
def Lp:dF "hall" (.ref h) (xj b)=Lm b h:=by
 unfold xj dF;rw[if_neg a_];rfl
def xk:(xj b).lookup ("book":Str)=some (.ref b):=rfl
def uO:(Lm b h).lookup ("book":Str)=some (.ref b):=rfl
def jv:(Lm b h).lookup ("hall":Str)=some (.ref h):=by
 unfold Lm;rw[L0,show(("hall":Str)==("book":Str))=false from by decide];rfl
def xl{m:Str}(h1:(m==("book":Str))=false:=by decide)(h2:(m==("hall":Str))=false:=by decide):(Lm b h).lookup m=none:=by
 unfold Lm;rw[L0,h1];dsimp only;rw[L0,h2];rfl
structure bY(K:Frag)(cH cD:Addr)(H:Hp)(d hl:Addr)(ns:f_)(cs ws:d_)(L:B0L)(hs:e_):Prop where
 ex:∃dx b,H d=some (.ins cD dx<|Lm b hl)/\IW K H b ⟨ns,cs,ws⟩
 cO:∃c g us,cG K cH H hl c g (aE cs) us hs/\GF K H us L
structure bx(ns:f_)(cs ws:d_)(L:B0L)(hs:e_):Prop where
 qU:iy ns cs ws
 best:mz (aE cs) ws (2 ^ (aE cs).length-1) ((L.map<|qt<|aE cs).sum,L)
 fR:HN (aE cs) hs (aE cs).length
variable{x:Addr}
def cG.HM{C' c g:Addr}{cs hs:e_}{fs:t_}(h:cG K C H a c g cs us hs)(s:Off x H H')(hx:H x=some (.ins C' dx fs))(ne:a≠x):cG K C H' a c g cs us hs:=by
 obtain⟨d,n,h1,b⟩:=h.ex;exact⟨⟨d,n,s _ _ ne h1,b.c6 s hx⟩,h.QA.c6 s hx,h.Tv.c6 s hx⟩
variable{cH cD hl:Addr}{cs ws:d_}{L:B0L}{hs:e_}
theorem bY.mono(h:bY K cH cD H d hl ns cs ws L hs)(s:ag H H'):bY K cH cD H' d hl ns cs ws L hs:=by
 obtain⟨⟨a,b,h1,f⟩,c,g,j,e,i⟩:=h;exact⟨⟨a,b,s _ _ h1,f.mono s⟩,c,g,j,e.mono s,i.mono s⟩
theorem bY.HM(h:bY K cH cD H d hl ns cs ws L hs)(s:Off x H H')(hx:H x=some (.ins C dx fs))(n1:d≠x)(n2:hl≠x):bY K cH cD H' d hl ns cs ws L hs:=by
 obtain⟨⟨dx,b,h1,e⟩,c,g,i,a,f⟩:=h;exact⟨⟨dx,b,s _ _ n1 h1,e.c6 s hx⟩,c,g,i,a.HM s hx n2,f.c6 s hx⟩
def bY.ne(h:bY K cH cD H d hl ns cs ws L hs):d≠hl:=λe=>by
 obtain⟨⟨j,b,h1,_⟩,c,g,l,a,_⟩:=h;obtain⟨i,n,f,_⟩:=a.ex;rw[e,f]at h1
 injection h1 with h1
 injection h1 with _ _ h1
 have:=SL List.length h1
 cases this
noncomputable def fg(i:Int):Str:=Str.ofString<|toString i
noncomputable def iV(ns:f_)(l:d_):Str:=Str.join ⟨#[32]⟩<|l.map λi=>ns.getD i aX
noncomputable def dZ(ns:f_)(l:d_):f_:=if l=[]then[]else[iV ns l]
noncomputable def xm(ns:f_)(g:Bool × List Nat):Str:=Str.join ⟨#[32]⟩ (kd g.1::g.2.map λi=>ns.getD i aX)
noncomputable def zU(cs:e_):Str:=fg (RD cs)++("/":Str)++fg (Qq cs)
inductive TK where
 |sure|share|groups|ring|order|book
noncomputable def iA:TK->Str
 |.sure=>"sure"
 |.share=>"share"
 |.groups=>"groups"
 |.ring=>"ring"
 |.order=>"order"
 |.book=>"book"
def PR(ns:f_)(cs ws:d_)(L:B0L):TK->f_->Prop
 |.sure,a=>a=[fg (L.map<|qt<|aE cs).sum]
 |.share,a=>a=[zU (aE cs)]
 |.groups,a=>a=L.map (xm ns)
 |.ring,a=>(¬(laidOut ws).length<ws.length/\a=[])∨((laidOut ws).length<ws.length/\∃r,Ring ws r/\a=dZ ns r)
 |.order,a=>((laidOut ws).length<ws.length/\a=[])∨(¬(laidOut ws).length<ws.length/\a=dZ ns (laidOut ws))
 |.book,a=>a=iU (dO<|(bh ns ws).map<|fk ns cs)
inductive AK where
 |told (k:TK)
 |right
 |dX (i:Nat)
 |put (i c:Nat)
noncomputable def jE(ns:f_):AK->List Str
 |.told k=>[iA k]
 |.right=>["right"]
 |.dX i=>["guess",ns.getD i aX]
 |.put i c=>["put",ns.getD i aX,gL c]
def pP(ns:f_):AK->Prop
 |.told _=>True
 |.right=>True
 |.dX i=>i<ns.length
 |.put i c=>i<ns.length/\c<10 ^ 30
noncomputable def eX(p z:Str):Bool:=if p="name" then bq z else decide (z="0")||cR z
def HP:Sp:=λa H Q _=>∃p z:Str,a=[.str p,.str z]/\z.length<=1000000/\∀H',ag H H'->Q (.bl<|eX p z) H'
def Nr(K:Frag)(er:Str->Addr):Sp:=λa H Q E=>∃(p:Addr) (ns:f_) (z:Str),a=[.ref p,.str z]/\aP K H p (ns.map V.str)/\wB K H p/\(z∉ns->∀H',ag H H'->E (.ref<|er "NoName") none H')/\(z∈ns->∀H',ag H H'->Q (.int (ns.idxOf z:Nat)) H')
structure df(ns:f_)(l:d_):Prop where
 nm:∀x∈ns,x.length<=12
 lt:∀i∈l,i<ns.length
 eD:l.length<=8
def xn(K:Frag):Sp:=λb H Q _=>∃(p:Addr) (ns:f_) (v:V) (l:d_),b=[.ref p,v]/\aP K H p (ns.map V.str)/\((v=.bA/\l=[])∨∃q,v=.ref q/\aP K H q ((aE l).map V.int))/\df ns l/\∀a H',ag H H'->H a=none->H' a=some (.lst<|(dZ ns l).map V.str)->Q (.ref a) H'
def xo(K:Frag):Sp:=λb H Q _=>∃(p q:Addr) (ns:f_) (l:d_),b=[.ref p,.ref q]/\aP K H p (ns.map V.str)/\ay K H q ((aE l).map V.int)/\df ns l/\∀a H',ag H H'->H a=none->H' a=some (.lst<|(dZ ns l).map V.str)->Q (.ref a) H'
def HQ(K:Frag):Sp:=λa H Q _=>∃(p:Addr) (cs:e_),a=[.ref p]/\aP K H p (cs.map V.int)/\b9 cs/\∀H',ag H H'->Q (.str<|zU cs) H'
def Nt(K:Frag):Sp:=λa H Q _=>∃(p q:Addr) (ns:f_) (g:Bool × List Nat),a=[.ref p,.str<|kd g.1,.ref q]/\aP K H p (ns.map V.str)/\aP K H q ((aE g.2).map V.int)/\df ns g.2/\∀H',ag H H'->Q (.str<|xm ns g) H'
def uP(K:Frag)(cH cD:Addr):Sp:=λa H Q _=>∃(x dx:Addr) (M:List Ln) (ns:f_) (cs ws:d_),a=[.ref x,.str<|dO M]/\H x=some (.ins cD dx [])/\(∀y∈M,jD y)/\M.length<=100/\dz ⟨[],[],[]⟩ M=some ⟨ns,cs,ws⟩/\iy ns cs ws/\
 ∀H' hl L,Off x H H'->H hl=none->bY K cH cD H' x hl ns cs ws L (List.replicate cs.length 0)->bx ns cs ws L (List.replicate cs.length 0)->Q .bA H'
def Lq(K:Frag)(cH cD:Addr)(er:Str->Addr)(d hl:Addr)(ns:f_)(cs ws:d_)(L:B0L)(hs:e_)(H:Hp)(Q:VK)(E:XK):AK->Prop
 |.told k=>∀l rows H',ag H H'->H l=none->H' l=some (.lst<|rows.map V.str)->PR ns cs ws L k rows->Q (.ref l) H'
 |.right=>∀l H',ag H H'->H l=none->H' l=some (.lst<|(dZ ns<|eL (aE cs) hs L).map V.str)->Q (.ref l) H'
 |.dX i=>∀l H',ag H H'->H l=none->H' l=some (.lst [.str (fg<|wA (aE cs) L hs i)])->Q (.ref l) H'
 |.put i c=>(eK (aE cs) (hs.set i (c:Int))=false->∀H',ag H H'->E (.ref<|er "NoHats") none H')/\(eK (aE cs) (hs.set i (c:Int))=true->∀l H',Off hl H H'->H l=none->H' l=some (.lst [])->bY K cH cD H' d hl ns cs ws L (hs.set i (c:Int))->Q (.ref l) H')
def iy.len(P:iy ns cs ws):(aE cs).length=ns.length:=by rw[ak,P.lc]
def iy.xp(P:iy ns cs ws):b9 (aE cs):=by
 refine⟨λc hc=>?_,by rw[P.len];exact P.nm.eD⟩
 unfold aE at hc;obtain⟨n,hn,rfl⟩:=kc.mp hc;have h:=P.TU n hn;have e:(10:Nat) ^ 30=1000000000000000000000000000000:=by decide
 rw[e]at h;refine⟨?_,?_⟩
 ·show(1:Int)<=((n:Nat):Int)
  omega
 ·show((n:Nat):Int)<=_
  omega
def iy.Nu(P:iy ns cs ws):iu ws:=by
 refine⟨λi hi=>?_,λi hi=>?_⟩
 ·rw[P.lw]at hi ⊢;exact P.Tt i hi
 ·rw[P.lw]at hi
  have:=P.ND i hi
  unfold fC;rw[q7,this];rfl
def bx.zV(D:bx ns cs ws L hs):CT (aE cs) ws L:=⟨λg a=>(D.best.1.each g a).ok,D.best.1.Ay⟩
variable{l:d_}
def zW{n:Nat}(nd:l.Nodup)(h:∀x∈l,x<n):l.length<=n:=cE nd h
def bx.g8(D:bx ns cs ws L hs):∀g∈L,g.2.length<=8:=λg a=>by
 have h:=(D.best.1.each g a).ok
 have:=zW h.nd h.lt
 rw[D.qU.len]at this
 have:=D.qU.nm.eD
 omega
theorem bx.eD(D:bx ns cs ws L hs):L.length<=8:=by
 have:=D.best.1.len
 rw[D.qU.len]at this
 have:=D.qU.nm.eD
 show L.length<=8;have h:((L.map<|qt<|aE cs).sum,L).2.length<=ns.length:=by assumption
 exact hU h this
def Lr(h:l.Pairwise (· < ·)):pA l=true:=by
 unfold pA;refine j9.mpr λk hk=>ed ?_;rw[mv]at hk;rw[b4,b4,cc (by omega),cc (by omega)]
 exact List.pairwise_iff_getElem.mp h k (k+1) (by omega) (by omega) (by omega)
variable{m:Nat}
def xq{cs:e_}{x:Int × List (Bool × List Nat)}(h:zQ cs ws m x):Eh cs ws [] 0 (gI x.2)=none:=by
 refine BQ (gone:=[]) (λg a=>?_) h.Ay λ_ _ _ _ z=>nomatch z;have G:=h.each g a;exact⟨G.ok,G.ok.lt,G.ok.nd,FM.mpr G.ne,λe=>⟨(G.ok.ring e).1,(G.ok.ring e).2.1⟩,λe=>Lr<|G.rise e⟩
theorem BV{α:Type}{f:α->Int}:∀ {l:List α},(∀x∈l,f x<=8)->(l.map f).sum<=8*l.length
 | [],_=>Int.le_refl _
 |a::r,h=>by
  have h1:=h a gc;have b:=BV (l:=r) λx hx=>h x<|fN _ hx;rw[qb,Vs,kf]
  omega
def bx.Ls(D:bx ns cs ws L hs):Bt 7 (L.map<|qt<|aE cs).sum:=by
 have h:(L.map<|qt<|aE cs).sum<=8*L.length:=BV λg c=>by
  unfold qt
  split
  ·decide
  ·have b:=Hy D.qU.xp.pos (D.best.1.each g c).ok.lt;have f:=D.g8 g c;have a:=oY b;have h1:=tX (Int.le_of_lt a) b;rw[By]at h1;refine Int.ediv_le_of_le_mul a (Int.le_trans h1 (Int.mul_le_mul_of_nonneg_right (by omega)<|Int.le_of_lt a))
 have d:=D.eD;have e:0<=(L.map<|qt<|aE cs).sum:=D.best.1.nn;unfold Bt;show _<128
 omega
def iy.Qx(P:iy ns cs ws):∀x∈ns,x.length<=12:=λx hx=>(cF<|P.nm.nm x hx).2.2
def bx.names(D:bx ns cs ws L hs){g:Bool × List Nat}(hg:g∈L):df ns g.2:=
 ⟨D.qU.Qx,λi hi=>by have:=(D.best.1.each g hg).ok.lt i hi;rw[D.qU.len]at this;exact this,D.g8 g hg⟩
def mB(P:iy ns cs ws):df ns (eL (aE cs) hs L):=by
 unfold eL;refine⟨P.Qx,λi hi=>?_,?_⟩
 ·have:=(rz.mp hi).1
  rw[mv,P.len]at this;exact this
 ·refine hU (ya _ _) ?_;rw[j6,P.len];exact P.nm.eD
def BW(P:iy ns cs ws){r:d_}(h:Ring ws r):df ns r:=by
 have a:∀i∈r,i<ns.length:=λi hi=>by have:=h.lt i hi;rw[P.lw]at this;exact this
 exact⟨P.Qx,a,hU (zW h.nd a) P.nm.eD⟩
def pQ(P:iy ns cs ws):df ns (laidOut ws):=by
 obtain⟨l,h,_⟩:=gX ws;have a:∀i∈laidOut ws,i<ns.length:=λi hi=>by have:=h.lt i hi;rw[P.lw]at this;exact this
 exact⟨P.Qx,a,hU (zW h.nd a) P.nm.eD⟩
def xr(n:Nat):cz (fg (n:Int))=(toDigits 10 n).map Char.toNat:=pB n
def HR{n:Nat}{k:Nat}(h:n<10 ^ k)(hk:0<k):(fg (n:Int)).length<=k:=by
 rw[aB,xr,b5];exact(Nat.length_toDigits_le_iff a_ hk).mpr h
def dk{i:Int}{k:Nat}(h0:0<=i)(h:Bt k i)(hk:k<=900):(fg i).length<=300/\i.natAbs.log2<1920:=by
 obtain⟨n,rfl⟩:∃n:Nat,i=(n:Int):=⟨i.toNat,by omega⟩
 have h:n<2 ^ k:=by unfold Bt at h;rwa [Vn]at h
 have a:n<2 ^ 900:=j5 h (qc a_ hk)
 refine⟨HR (VG a Dk0) a_,?_⟩
 rw[Vn]
 by_cases z:n=0
 ·subst z;decide
 ·exact(log2_lt z).mpr (VG a Dk0)
def namesW(h:df ns l):∀x∈l.map (λi=>ns.getD i aX),x.length<=12:=λx hx=>by
 obtain⟨i,hi,rfl⟩:=kc.mp hx;exact h.nm _<|getD_memS<|h.lt i hi
theorem dD(c:Nat)(k:Nat):∀(l:f_),(∀x∈l,x.length<=k)->(Str.join ⟨#[c]⟩ l).length<=l.length*(k+1)
 | [],_=>by show 0<=_;omega
 | [x],h=>by have:=h x gc;show x.length<=1*(k+1);omega
 |x::y::r,h=>by
  have b:=dD c k (y::r) λz a=>h z<|fN _ a
  have:=h x gc
  rw[aB,bX,eR,eR,GC,<-aB,<-aB];show x.length+1+_<=((y::r).length+1)*(k+1);rw[Nat.add_mul,Nat.one_mul]
  omega
def uQ(k:TK):iA k≠"put"/\iA k≠"guess"/\iA k≠"right"/\32∉cz (iA k)/\(iA k).length<=12:=by cases k<;>decide +kernel
variable{c:Nat}
def iW(h:c<10 ^ 30):eX "colour" (gL c)=true/\intText? (gL c)=some (c:Int)/\32∉cz (gL c)/\(gL c).length<=30:=by
 unfold eX;rw[if_neg a_]
 by_cases z:c=0
 ·subst z;decide +kernel
 ·have q:=di (n:=c) (by omega) h
  have a:cR (gL c)=true:=q.1;refine⟨?_,q.2,(iT a).1,fi a⟩;rw[a,Bool.or_true]
def mC(e:Nat->Addr)(k:TK):∃j,j<9/\j≠5/\j≠6/\cJ (lD e) (.inr<|iA k)=some (.ref<|e j):=by
 cases k with
 |sure=>exact⟨0,a_,a_,a_,rfl⟩
 |share=>exact⟨1,a_,a_,a_,rfl⟩
 |groups=>exact⟨2,a_,a_,a_,rfl⟩
 |ring=>exact⟨3,a_,a_,a_,rfl⟩
 |order=>exact⟨4,a_,a_,a_,rfl⟩
 |book=>exact⟨8,a_,a_,a_,rfl⟩
def Lu(e:Nat->Addr):cJ (lD e) (.inr "put")=some (.ref<|e 5):=rfl
def Dx(e:Nat->Addr):cJ (lD e) (.inr "guess")=some (.ref<|e 6):=rfl
def empty_app(x:Str):Str.empty++x=x:=oh (by rw[c5];rfl)
def Dy(P:iy ns cs ws){a:AK}(h:pP ns a):jE ns a≠[]/\(∀x∈jE ns a,32∉cz x/\x.length<=30)/\(jE ns a).length<=3:=by
 have b:∀i,i<ns.length->32∉cz (ns.getD i aX)/\(ns.getD i aX).length<=30:=λi hi=>by
  have q:=P.nm.nm _<|getD_memS hi;exact⟨(fE q).1,hU (cF q).2.2 a_⟩
 cases a with
 |told k=>
  refine⟨(λz=>nomatch z),λx hx=>?_,by show 1<=3;decide⟩
  obtain rfl:x=iA k:=ek.mp hx;exact⟨(uQ k).2.2.2.1,hU (uQ k).2.2.2.2 a_⟩
 |right=>
  refine⟨(λz=>nomatch z),λx hx=>?_,by show 1<=3;decide⟩
  obtain rfl:x="right":=ek.mp hx
  decide +kernel
 |dX i=>
  refine⟨(λz=>nomatch z),λx hx=>?_,by show 2<=3;decide⟩
  rcases gz.mp hx with rfl|hx
  ·decide +kernel
  ·obtain rfl:x=ns.getD i aX:=ek.mp hx;exact b i h
 |put i c=>
  refine⟨(λz=>nomatch z),λx hx=>?_,by show 3<=3;decide⟩
  rcases gz.mp hx with rfl|hx
  ·decide +kernel
  ·rcases gz.mp hx with rfl|hx
   ·exact b i h.1
   ·obtain rfl:x=gL c:=ek.mp hx;have q:=iW h.2;exact⟨q.2.2.1,q.2.2.2⟩
def zX{cs:e_}{i:Nat}(hc:b9 cs)(hn:HN cs hs cs.length)(h:CT cs ws L)(hi:i<cs.length):0<=wA cs L hs i/\Bt 100 (wA cs L hs i):=by
 obtain⟨h1,a⟩:=Kz hc.pos hn h hi;have hm:cs.getD i 0∈cs:=by
  rw[b4,cc hi];exact pS hi
 exact⟨h1,(hc.cn _ hm).bt.of_le h1 (by omega)⟩
def jO{o:HO}(hp:H p=none)(e:upd H p o=H1):ag H H1/\H1 p=some o:=by
 subst e;exact⟨ag.new hp o,af⟩
variable{xs:u_}
def uR(k:Nat)(h:ay K H a xs)(q:∀p H',ag H H'->H p=none->H' p=some (.lst<|xs.drop k)->Q (.ref p) H'):yJ K (.ref a) (some (k:Int)) none H Q:=
 ⟨a,xs,rfl,h,λp b=>q p _ (ag.new b _) b (by rw[cZ];exact af)⟩
def Lv(k:Nat)(h:ay K H a xs)(q:∀p H',ag H H'->H p=none->H' p=some (.lst<|xs.take k)->Q (.ref p) H'):yJ K (.ref a) none (some (k:Int)) H Q:=
 ⟨a,xs,rfl,h,λp b=>q p _ (ag.new b _) b (by rw[jr];exact af)⟩
def BX:Sp:=λb H Q _=>∃(a:Addr) (dn:e_) (many:Nat) (kind:Int) (i:Nat),b=[.ref a,.int many,.int kind,.int i]/\H a=some (.lst<|dn.map V.int)/\dn.length=24/\(∀x∈dn,0<=x)/\1<=many/\many<=8/\i<many/\∀m:Nat,m<2 ^ many->m.testBit i=false->Q (.int (m:Int)) H
def HS:Sp:=λb H Q _=>∃(a:Addr) (dn:e_) (kind:Int) (i:Nat),b=[.ref a,.int kind,.int i]/\H a=some (.lst<|dn.map V.int)/\dn.length=8/\(∀x∈dn,0<=x)/\i<8/\∀(c:Nat) H',ag H H'->0<c->c<10 ^ 30->Q (.int (c:Int)) H'
def sZ(K:Frag):Sp:=λc H Q _=>∃(a:Addr) (xs:e_) (most kinds:Nat),c=[.ref a,.int most,.int kinds]/\ay K H a (xs.map V.int)/\xs.length=3/\1<=most/\most<=8/\1<=kinds/\kinds<=6/\∀b ns cs ws H',ag H H'->jM H' b ns cs ws->iy ns cs ws->ns.length<=most->Q (.ref b) H'
def zZ{n i:Nat}(h:i<n):2 ^ n-1-2 ^ i<2 ^ n/\(2 ^ n-1-2 ^ i).testBit i=false:=by
 have h1:2 ^ i<2 ^ n:=On a_ h
 have b:=Re i;generalize a:2 ^ n=N at h1 ⊢;refine⟨by omega,?_⟩
 subst a;rw[show 2 ^ n-1-2 ^ i=2 ^ n-(2 ^ i+1) by omega,Nat.testBit_two_pow_sub_succ h1,Nat.testBit_two_pow_self]
 simp
def BY{n i:Nat}(h:i<n):((2 ^ n:Nat):Int)-1-((2 ^ i:Nat):Int)=((2 ^ n-1-2 ^ i:Nat):Int):=by
 have h1:2 ^ i<2 ^ n:=On a_ h
 omega
def BZ{x e n i:Nat}(h:e<2 ^ n)(h2:e.testBit i=false):x&&& e<2 ^ n/\(x&&& e).testBit i=false:=by
 refine⟨A6 Nat.and_le_right h,?_⟩;rw[testBit_and,h2,M8]
variable{dn:e_}{dr:Addr}
def cV{i:Int}(hd:H dr=some (.lst<|dn.map V.int))(hl:dn.length=m)(hnn:∀x∈dn,0<=x)(h0:0<=i)(h1:i<m)(q:∀x:Nat,Q (.int (x:Int)) H):nF K (.ref dr) (.int i) H Q:=by
 obtain⟨m,rfl⟩:=hO h0;have hm:m<dn.length:=by omega
 obtain⟨x,hx⟩:=hO<|hnn _<|pS hm;exact au (ay.of hd) (ax (by rw[eG,cc hm,hx];rfl))<|q x
def fh(z:Str):Prop:=∀c∈cz z,c<1114112
def fh.app{a b:Str}(ha:fh a)(hb:fh b):fh (a++b):=λc hc=>by
 rw[c5]at hc
 rcases ih.mp hc with z|z
 ·exact ha c z
 ·exact hb c z
theorem fh.join{d:Nat}(hd:d<1114112):∀ {l:f_},(∀x∈l,fh x)->fh (Str.join ⟨#[d]⟩ l)
 | [],_=>λc hc=>nomatch hc
 | [x],h=>h x gc
 |x::y::r,h=>λc hc=>by
  rw[bX,GC]at hc
  rcases ih.mp hc with z|z
  ·rcases ih.mp z with z|z
   ·exact h x gc c z
   ·rw[ek.mp z];exact hd
  ·exact fh.join hd (λx hx=>h x<|fN _ hx) c z
variable{z:Str}
def fh.ok(h:fh z):PyData.strOk z=true:=by
 unfold PyData.strOk;rw[<-all_toList];exact j9.mpr λc hc=>ed<|h c hc
def fh.low(h:gK z):fh z:=λc hc=>by
 have a:=qN<|h c hc
 have:∀c∈cz iS,c<1114112:=by decide +kernel
 exact this c a
theorem fh.fg{i:Int}(h:0<=i):fh (fg i):=by
 obtain⟨n,rfl⟩:=hO h;intro c hc;rw[xr]at hc;obtain⟨d,a,rfl⟩:=kc.mp hc
 have:=Nat.isDigit_of_mem_toDigits a_ a_ a
 simp only[Char.isDigit,Bool.and_eq_true,decide_eq_true_eq]at this;have b:d.toNat<=57:=this.2
 omega
theorem uS:∀l:f_,(∀x∈l,fh x)->PyData.canLayAll0 (l.map PyData.str)=true
 | [],_=>by simp[PyData.canLayAll0]
 |x::r,h=>by simp[PyData.canLayAll0,PyData.canLay0,uS r λx hx=>h x<|mem_cons_of_mem _ hx,(h x mem_cons_self).ok]
variable{l:f_}
def fT(h:∀x∈l,fh x):shaped (.list<|l.map PyData.str)=true:=mh
 (by simp[PyData.canLay0,uS l h]) (by have:=g6 l;simp only[PyData.depth];omega)
theorem hX:∀l m:f_,PyData.eqvAll (l.map PyData.str) (m.map PyData.str)=decide (l=m)
 | [],[]=>by simp[PyData.eqvAll]
 | [],_::_=>by simp[PyData.eqvAll]
 |_::_,[]=>by simp[PyData.eqvAll]
 |x::r,y::s=>by
  simp only[map_cons,PyData.eqvAll,PyData.eqv,hX r s]
  by_cases h:x=y<;>by_cases a:r=s<;>simp[h,a]
def tf(l m:f_):PyData.eqv (.list<|l.map PyData.str) (.list<|m.map PyData.str)=decide (l=m):=by
 simp only[PyData.eqv,hX]
variable{q:Addr}{m:f_}
def uT(hp:ay K H p (l.map V.str))(hq:ay K H q (m.map V.str))(cl:∀x∈l,fh x)(cm:∀x∈m,fh x)(h:Q (.bl<|!decide (l=m)) H):OT K (.ref p) (.ref q) H Q:=
 ⟨_,_,.lst hp<|g5 _,.lst hq<|g5 _,fT cl,fT cm,by rw[tf];exact h⟩
def oA(hp:ay K H p (l.map V.str))(hq:ay K H q (m.map V.str))(cl:∀x∈l,fh x)(cm:∀x∈m,fh x)(h:Q (.bl<|decide<|l=m) H):OS K (.ref p) (.ref q) H Q:=
 ⟨_,_,.lst hp<|g5 _,.lst hq<|g5 _,fT cl,fT cm,by rw[tf];exact h⟩
structure Nv(ns:f_)(L:B0L):Prop where
 nm:IU ns 8
 each:∀g∈L,df ns g.2/\g.2≠[]
 eD:L.length<=8
def HU(K:Frag):Sp:=λa H Q _=>∃(r nm:Addr) (ns:f_) (L:B0L),a=[.ref r,.ref nm]/\H r=some (.lst<|(L.map<|xm ns).map V.str)/\H nm=some (.lst<|ns.map V.str)/\Nv ns L/\∀t us H',ag H H'->aP K H' t us->GF K H' us L->Q (.ref t) H'
def S1(K:Frag)(H0:Hp)(r nm f:Addr)(L:B0L)(k:Nat)(σ:St)(H:Hp):Prop:=∃(us:u_) (y3 y4:v_),σ=[some (.ref r),some<|.ref nm,some<|.ref f,y3,y4]/\ag H0 H/\H f=some (.lst us)/\GF K H us (L.take k)
variable{l:d_}
def pR(hn:∀x∈ns,bq x=true)(h:df ns l):∀x∈dZ ns l,fh x:=λx hx=>by
 unfold dZ at hx
 split at hx
 ·cases hx
 ·rw[ek.mp hx];unfold iV;refine fh.join a_ λy hy=>?_
  obtain⟨i,hi,rfl⟩:=kc.mp hy;exact fh.low (cF<|hn _<|getD_memS<|h.lt i hi).1
def bx.UC(D:bx ns cs ws L hs):∀g∈gI L,g.2.length<=30:=λz c=>by
 unfold gI at c;obtain⟨b,a,rfl⟩:=kc.mp c
 have:=D.g8 b a
 show(aE b.2).length<=30;rw[ak];omega
def gO{k:TK}{rows:f_}(D:bx ns cs ws L hs)(h:PR ns cs ws L k rows):rows.length<=16:=by
 have one:∀l,(dZ ns l).length<=16:=λl=>by unfold dZ;split<;>exact le_of_ble_eq_true rfl
 cases k with
 |sure=>rw[show rows=_ from h];exact le_of_ble_eq_true rfl
 |share=>rw[show rows=_ from h];exact le_of_ble_eq_true rfl
 |groups=>rw[show rows=_ from h,b5];have:=D.eD;omega
 |ring=>
  rcases h with ⟨_,h⟩|⟨_,r,_,h⟩
  ·rw[h];exact zero_le _
  ·rw[h];exact one r
 |order=>
  rcases h with ⟨_,h⟩|⟨_,h⟩
  ·rw[h];exact zero_le _
  ·rw[h];exact one _
 |book=>
  rw[show rows=_ from h,fF<|(cU D.qU).lx D.qU,b5,b5]
  exact hU fm (by have:=D.qU.nm.eD;omega)
structure Pair(K:Frag)(cH cD:Addr)(H:Hp)(d hl h2 c g:Addr)(us:u_)(ns:f_)(cs ws:d_)(L:B0L)(hs:e_):Prop where
 qR:bY K cH cD H d hl ns cs ws L hs
 cO:cG K cH H h2 c g (aE cs) us hs
 gf:GF K H us L
 n1:h2≠hl
 n2:d≠h2
def mD(a b:Addr)(H H':Hp):Prop:=∀x o,x≠a->x≠b->H x=some o->H' x=some o
def mD.refl:mD a b H H:=λ_ _ _ _ h=>h
theorem mD.lst{a b x:Addr}{H H':Hp}{xs:u_}{Ca Cb da db:Addr}{fa fb:t_}(s:mD a b H H')(ha:H a=some (.ins Ca da fa))(hb:H b=some (.ins Cb db fb))(h:H x=some (.lst xs)):H' x=some (.lst xs):=
 s x _ (iq h ha λz=>nomatch z) (iq h hb λz=>nomatch z) h
theorem Pair.mono{K:Frag}{cH cD:Addr}{H H':Hp}{d hl h2 c g:Addr}{us:u_}{ns:f_}{cs ws:d_}{L:B0L}{hs:e_}(h:Pair K cH cD H d hl h2 c g us ns cs ws L hs)(s:ag H H'):Pair K cH cD H' d hl h2 c g us ns cs ws L hs:=
 ⟨h.qR.mono s,h.cO.mono s,h.gf.mono s,h.n1,h.n2⟩
theorem bx.set{ns:f_}{cs ws:d_}{L:B0L}{hs:e_}{i col:Nat}(D:bx ns cs ws L hs)(hi:i<ns.length)(hc:col<cs.getD i 0):bx ns cs ws L (hs.set i (col:Int))/\eK (aE cs) (hs.set i (col:Int))=true:=by
 have a:HN (aE cs) (hs.set i (col:Int)) (aE cs).length:=HN.set D.fR (natCast_nonneg _) (by rw[aZ];omega)
 exact⟨⟨D.qU,D.best,a⟩,Hu a⟩
def Aa(ns:f_)(i:Nat):("guess ":Str)++ns.getD i aX=Str.join ⟨#[32]⟩ (jE ns<|.dX i):=by
 rw[show("guess ":Str)=("guess":Str)++⟨#[32]⟩ by decide +kernel];rfl
def Dz(hn:∀x∈ns,bq x=true)(h:df ns l)(hl:l≠[]):iV ns l≠("":Str):=λz=>by
 have a:cz (iV ns l)=[]:=by rw[z];decide +kernel
 unfold iV at a
 match l,hl,h,a with
 | [x],_,h,a=>
  have h1:=(cF<|hn _<|getD_memS<|h.lt x gc).2.1;rw[aB]at h1;have a:cz (ns.getD x aX)=[]:=a;rw[a]at h1;exact absurd h1 a_
 |x::y::r,_,h,a=>
  rw[qb,qb,bX]at a;exact absurd (List.append_eq_nil_iff.mp (List.append_eq_nil_iff.mp a).1).2 a_
def DQ(K:Frag)(x:Str)(st:Stmt):Prop:=∃(f:Addr) (oc:Value) (od an:h_) (sl:Array (g_)) (kV doc pm cd ct:Value),nsIn K mainGlobals x=some (some<|.ref f)/\K.lookup f=some ⟨oc,od,.func<|fnOf x x (bw st) (aS st) (aj st) .none kV doc pm an cd ct,sl⟩/\codeIn K cd x=true/\keepIn K (.ref f)=true
variable{h:Heap}{x:Str}
def DQ.def{st:Stmt}{mg:b_}(q:DQ K x st)(X:K.In h)(G:h.Ns mainGlobals mg):Def K mg x st:=by
 obtain⟨_,_,_,_,_,_,_,_,_,_,a,b,c,d⟩:=q;exact OK X G a b c d
def MQ(K:Frag)(C:Addr)(m qual:Str)(st:Stmt):Prop:=∃(f:Addr) (oc:Value) (od an:h_) (sl:Array (g_)) (kV doc pm cd ct:Value),findIn K (.ref C) m=some (some<|.ref f)/\K.lookup f=some ⟨oc,od,.func<|fnOf m qual (bw st) (aS st) (aj st) .none kV doc pm an cd ct,sl⟩/\codeIn K cd qual=true/\keepIn K (.ref f)=true/\isFn K (.ref f)=true
variable{m:Str}
def MQ.def{qual:Str}{st:Stmt}(q:MQ K C m qual st):nJ K C m qual st:=by
 obtain⟨_,_,_,_,_,_,_,_,_,_,a,b,c,d,e⟩:=q;exact Ld a b c d e
variable{R:Prop}
def iB(h:H a=some (.ins C dx fs))(n:fs.lookup m=none)(r:R):∃a' dx' fs',V.ref a=.ref a'/\H a'=some (.ins C dx' fs')/\fs'.lookup m=none/\R:=⟨a,dx,fs,rfl,h,n,r⟩
variable{f:Str}{v:V}{G:V->Prop}
def lF(h:H a=some (.ins C dx fs))(n:fs.lookup f=some v)(r:G v):∃a' dx' fs' v',V.ref a=.ref a'/\H a'=some (.ins C dx' fs')/\fs'.lookup f=some v'/\G v':=⟨a,dx,fs,v,rfl,h,n,r⟩
def HV(h:ay K H p xs)(r:∀t,H t=none->Q (.ref t) (upd H t<|.tup xs)):FA K [.ref p] H Q:=⟨p,xs,rfl,.inl ⟨h,r⟩⟩
def xt:∀j,j<10->(digitChar j).toNat=j+48:=by decide
theorem B0:∀(k:Nat) (ds:d_),ds.length=k+1->(∀c∈ds,48<=c/\c<=57)->ds.getD 0 0≠48->∃n,0<n/\n<10 ^ (k+1)/\ds=(toDigits 10 n).map Char.toNat
 |0,[d],_,h,a=>by
  have h1:=h d gc;have a:d≠48:=a;refine⟨d-48,by omega,by omega,?_⟩
  rw[Nat.toDigits_eq_if a_,if_pos (by omega),qb,xt _ (by omega),map_nil,show d-48+48=d by omega]
 |k+1,ds,b,h,a=>by
  obtain⟨r,d,rfl⟩:∃r d,ds=r++[d]:=⟨ds.dropLast,ds.getLast (λe=>by rw[e]at b;cases b),(List.dropLast_concat_getLast _).symm⟩
  rw[eR]at b;have f:r.length=k+1:=Nat.succ.inj b;have h1:=h d<|rk _ gc;obtain⟨n,i,g,e⟩:=B0 k r f (λc hc=>h c<|LI _ hc) (by rw[b4,u5 (by omega),<-b4]at a;exact a)
  refine⟨n*10+(d-48),by omega,by rw[Nat.pow_succ];omega,?_⟩
  rw[Nat.toDigits_eq_if a_,if_neg (by omega),hI,qb,map_nil,show(n*10+(d-48)) / 10=n by omega,show(n*10+(d-48))%10=d-48 by omega,xt _ (by omega),show d-48+48=d by omega,<-e]
def PU{a b:Str}(h:cz a=cz b):a=b:=by
 obtain⟨a⟩:=a;obtain⟨b⟩:=b
 have:a=b:=ext' h
 rw[this]
def xu(h:cR x=true):∃c,0<c/\c<10 ^ 30/\x=gL c:=by
 have g:=fi h;unfold cR at h;rw[fz,fz,j9]at h;obtain⟨h1,f,d⟩:=h;have h1:=qN h1;have i:(cz x).length=(x.length-1)+1:=by rw[<-aB];omega
 obtain⟨n,b,a,e⟩:=B0 (x.length-1) (cz x) i (λc hc=>lh.mp<|d c hc)<|qN f;refine⟨n,b,j5 a (qc a_ (by omega)),?_⟩
 rw[<-pB]at e;exact PU e
noncomputable def nA(ws left:d_)(i:Nat):Nat:=(left.filter λj=>fC ws i j).getD 0 0
def HW{left:d_}{i:Nat}(h:∃j∈left,fC ws i j=true):nA ws left i∈left/\fC ws i (nA ws left i)=true:=by
 obtain⟨j,hj,b⟩:=h;have a:0<(left.filter λj=>fC ws i j).length:=length_pos_of_mem<|rz.mpr ⟨hj,b⟩;have hm:nA ws left i∈left.filter λj=>fC ws i j:=by
  unfold nA;rw[b4,cc a];exact pS a
 exact rz.mp hm
noncomputable def Nw(ws left:d_):Nat->d_->Nat->List Nat
 |0,a,_=>a
 |f+1,a,i=>if i∈a then a.drop (a.idxOf i)else Nw ws left f (a++[i]) (nA ws left i)
variable{f:Nat}
def Lw{left path:d_}{i:Nat}(hf:0<f)(h:i∈path):Nw ws left f path i=path.drop (path.idxOf i):=by
 match f,hf with
 |f+1,_=>unfold Nw;rw[if_pos h]
def HX{left path:d_}{i:Nat}(h:i∉path):Nw ws left (f+1) path i=Nw ws left f (path++[i]) (nA ws left i):=by
 conv=>lhs;unfold Nw
 rw[if_neg h]
noncomputable def nB(ws:d_):d_:=Nw ws (cf ws) (ws.length+1) []<|(cf ws).getD 0 0
def Nx(K:Frag):Sp:=λa H Q _=>∃(w l:Addr) (ws left:d_) (i:Nat),a=[.ref w,.int i,.ref l]/\aP K H w ((aE ws).map V.int)/\ay K H l ((aE left).map V.int)/\i<ws.length/\left.length<=8/\(∃j∈left,fC ws i j=true)/\∀(H':Hp),ag H H'->Q (.int (nA ws left i:Nat)) H'
def PV(K:Frag)(H0:Hp)(w o lf pa:Addr)(ws:d_)(m:Nat)(σ:St)(H:Hp):Prop:=∃(path:d_) (i:Nat),σ=[some (.ref w),some<|.ref o,some<|.ref lf,some<|.ref pa,some<|.int i]/\ag H0 H/\ay K H lf ((aE<|cf ws).map V.int)/\H pa=some (.lst<|(aE path).map V.int)/\Path ws (cf ws) path i/\m=ws.length-path.length/\Nw ws (cf ws) (ws.length+1-path.length) path i=nB ws
def Ab(K:Frag):Sp:=λa H Q _=>∃(w:Addr) (ws:d_),a=[.ref w]/\aP K H w ((aE ws).map V.int)/\ws.length<=8/\iu ws/\∀(H':Hp),ag H H'->(¬(laidOut ws).length<ws.length->Q .bA H')/\((laidOut ws).length<ws.length->∀p o,H' p=some (.iE o<|.tup<|(aE<|nB ws).map V.int)->o.cls=.type "tuple"->o.dict=none->Ring ws (nB ws)->Q (.ref p) H')
def xw(ns:f_)(cs ws:d_)(L:B0L):TK->f_->Prop
 |.ring,a=>(¬(laidOut ws).length<ws.length/\a=[])∨((laidOut ws).length<ws.length/\a=dZ ns (nB ws)/\Ring ws (nB ws))
 |k,a=>PR ns cs ws L k a
def B1(K:Frag):Sp:=λa H Q _=>∃(b g:Addr) (ns:f_) (cs ws:d_) (us:u_) (L:B0L) (hs:e_) (k:TK),a=[.ref b,.ref g,.str<|iA k]/\IW K H b ⟨ns,cs,ws⟩/\aP K H g us/\GF K H us L/\bx ns cs ws L hs/\∀l rows H',ag H H'->H l=none->H' l=some (.lst<|rows.map V.str)->xw ns cs ws L k rows->Q (.ref l) H'
def HY(K:Frag)(cH cD:Addr)(er:Str->Addr)(d hl:Addr)(ns:f_)(cs ws:d_)(L:B0L)(hs:e_)(H:Hp)(Q:VK)(E:XK):AK->Prop
 |.told k=>∀l rows H',ag H H'->H l=none->H' l=some (.lst<|rows.map V.str)->xw ns cs ws L k rows->Q (.ref l) H'
 |a=>Lq K cH cD er d hl ns cs ws L hs H Q E a
noncomputable def outF (ns:f_)(cs ws:d_)(L:B0L)(hs:e_):AK->Option (f_)
 |.told k=>some (match k with
  |.sure=>[fg (L.map<|qt<|aE cs).sum]
  |.share=>[zU (aE cs)]
  |.groups=>L.map<|xm ns
  |.ring=>if(laidOut ws).length<ws.length then dZ ns (nB ws)else[]
  |.order=>if(laidOut ws).length<ws.length then[]else dZ ns (laidOut ws)
  |.book=>iU<|dO<|(bh ns ws).map<|fk ns cs)
 |.right=>some<|dZ ns<|eL (aE cs) hs L
 |.dX i=>some [fg (wA (aE cs) L hs i)]
 |.put i c=>if eK (aE cs) (hs.set i (c:Int))=true then some []else none
noncomputable def S3(cs:d_)(hs:e_):AK->List Int
 |.put i c=>if eK (aE cs) (hs.set i (c:Int))=true then hs.set i (c:Int)else hs
 |_=>hs
variable{r:f_}
def DA{k:TK}(h:xw ns cs ws L k r):outF ns cs ws L hs (.told k)=some r:=by
 cases k with
 |ring=>
  rcases h with ⟨c,e⟩|⟨c,e,_⟩
  ·rw[e];show some (if _ then _ else _)=_;rw[if_neg c]
  ·rw[e];show some (if _ then _ else _)=_;rw[if_pos c]
 |order=>
  rcases h with ⟨c,e⟩|⟨c,e⟩
  ·rw[e];show some (if _ then _ else _)=_;rw[if_pos c]
  ·rw[e];show some (if _ then _ else _)=_;rw[if_neg c]
 |sure=>rw[show r=_ from h];rfl
 |share=>rw[show r=_ from h];rfl
 |groups=>rw[show r=_ from h];rfl
 |book=>rw[show r=_ from h];rfl
def PX{x:Ln}(h:jD x):fh (lu x):=by
 refine fh.join a_ λy hy=>?_
 cases x with
 |dG n c=>
  rcases gz.mp hy with rfl|hy
  ·unfold fh;decide +kernel
  ·rcases gz.mp hy with rfl|hy
   ·exact fh.low (cF h.1).1
   ·rw[ek.mp hy];exact(fh.fg (i:=(c:Int)) (natCast_nonneg c) :)
 |sees n l=>
  rcases gz.mp hy with rfl|hy
  ·unfold fh;decide +kernel
  ·exact fh.low (cF<|h.nm y hy).1
def HZ{k:TK}(D:bx ns cs ws L hs)(h:xw ns cs ws L k r):∀x∈r,fh x:=by
 have P:=D.qU;have b:=P.xp;intro x hx
 cases k with
 |sure=>
  rw[show r=_ from h]at hx
  rw[ek.mp hx];exact fh.fg D.best.1.nn
 |share=>
  rw[show r=_ from h]at hx
  rw[ek.mp hx];exact((fh.fg<|zb b).app (by unfold fh;decide +kernel)).app (fh.fg (by have:=o9 b;omega))
 |groups=>
  rw[show r=_ from h]at hx
  obtain⟨g,f,rfl⟩:=kc.mp hx;refine fh.join a_ λy hy=>?_
  rcases gz.mp hy with rfl|hy
  ·unfold fh;cases g.1<;>decide +kernel
  ·obtain⟨i,hi,rfl⟩:=kc.mp hy;exact fh.low (cF<|P.nm.nm _<|getD_memS<|(D.names f).lt i hi).1
 |ring=>
  rcases h with ⟨_,e⟩|⟨_,e,c⟩
  ·rw[e]at hx;cases hx
  ·rw[e]at hx;exact pR P.nm.nm (BW P c) x hx
 |order=>
  rcases h with ⟨_,e⟩|⟨_,e⟩
  ·rw[e]at hx;cases hx
  ·rw[e]at hx;exact pR P.nm.nm (pQ P) x hx
 |book=>
  have a:=(cU P).lx P;rw[show r=iU _ from h,fF a]at hx
  obtain⟨l,d,rfl⟩:=kc.mp hx;exact PX<|a l d
def Off.km(s:ag H H'):Off a H H':=λb u _ e=>s b u e
def stays:AK->Prop
 |.put _ _=>False
 |_=>True
def Ac(n:Bool):R2:=λx y H Q=>match x with
 |.int i=>match y with
  |.int j=>Q (.bl<|bif n then !decide (i=j)else decide (i=j)) H
  |_=>False
 |.str i=>match y with
  |.str j=>Q (.bl<|bif n then !decide (i=j)else decide (i=j)) H
  |_=>False
 |_=>False
variable{i j:Int}
def uU:Ac false (.int i) (.int j) H Q=Q (.bl<|decide<|i=j) H:=rfl
def Ia:Ac true (.int i) (.int j) H Q=Q (.bl<|!decide (i=j)) H:=rfl
variable{i j:Str}
def mE:Ac false (.str i) (.str j) H Q=Q (.bl<|decide<|i=j) H:=rfl
def Ib:Ac true (.str i) (.str j) H Q=Q (.bl<|!decide (i=j)) H:=rfl
def B2{n:Bool}{x y:V}{v u:Value}{Y:Prop}(rx:RelV x v)(ry:RelV y u)(h:Ac n x y H Q)
  (a:∀i j t t',v=.int i t->u=.int j t'->Q (.bl<|bif n then !decide (i=j)else decide (i=j)) H->Y) (b:∀i j t t',v=.str i t->u=.str j t'->Q (.bl<|bif n then !decide (i=j)else decide (i=j)) H->Y):Y:=by
 cases x with
 |int i=>
  obtain⟨t,e⟩:=rx
  cases y with
  |int j=>obtain⟨t',c⟩:=ry;exact a i j t t' e c h
  |_=>exact h.elim
 |str i=>
  obtain⟨t,e⟩:=rx
  cases y with
  |str j=>obtain⟨t',c⟩:=ry;exact b i j t t' e c h
  |_=>exact h.elim
 |_=>exact h.elim
def aD:dU X (compareOp .Eq) (Ac false):=λb s σ H x y v u Q I d f h=>B2 d f h
 (λi j t c e a q=>by subst e a;exact eq_int<|jW I q rfl) (λi j t c e a q=>by subst e a;exact eq_str (jW I q (by rw[Vq];simp)))
def kn:dU X (compareOp .NotEq) (Ac true):=λb s σ H x y v u Q I d f h=>B2 d f h
 (λi j t c e a q=>by subst e a;exact ne_int (jW I q (by rw[Vq];simp))) (λi j t c e a q=>by subst e a;exact ne_str (jW I q (by rw[Vq];simp)))
def PY:List TS->TS
 | []=>vG
 | [a]=>a
 |a::b::l=>oH a (PY (b::l))
class Sq (t:TS) (l:outParam (List TS)):Prop where
 e:PY l=t
instance (priority:=low) sq1 {a:TS}:Sq a [a]:=⟨rfl⟩
instance sq2 {a b c:TS} {l:List TS} [h:Sq b (c::l)]:Sq (oH a b) (a::c::l):=⟨by rw[<-h.e];rfl⟩
def PZ:List TS->(TS->Prop)->Prop
 | [],P=>P vG
 | [a],P=>∀b,b=a->P b
 |a::c::l,P=>∀b,b=a->PZ (c::l) λt=>P<|oH b t
theorem S5:∀(l:List TS) (P:TS->Prop),PZ l P->P (PY l)
 | [],_,h=>h
 | [_],_,h=>h _ rfl
 |a::c::l,P,h=>S5 (c::l) (λt=>P<|oH a t)<|h a rfl
def UD{t:TS}{l:List TS}[i:Sq t l]{D:Ends}{σ:St}(q:PZ l λt=>t D σ H):t D σ H:=by
 rw[<-i.e];exact S5 l (λt=>t D σ H) q
variable{b A:TS}
def Vd{D:Ends}{σ:St}(e:b=A)(h:A D σ H):b D σ H:=by rw[e];exact h
def UE{B:TS}{i:Nat}{D:Ends}{σ:St}(e:b=qx te (bF i))(h:∀k:q_,(∀v H',B D (σ.set i<|some v) H'->k v H')->te σ H k):oH b B D σ H:=by
 rw[e];exact h (λv H'=>B D (σ.set i<|some v) H') λ_ _ z=>z
variable{k1 v1 k2 v2:Expr}{t1 t2 t3 t4:TE}
def P0(h1:QE X k1 t1)(h2:QE X v1 t2)(h3:QE X k2 t3)(h4:QE X v2 t4):QE X (.Dict [some k1,some k2] [v1,v2] pos) (Fc [(t1,t2),(t3,t4)]):=⟨JQ (vT h1.h h2.h<|vT h3.h h4.h JP) rfl rfl (λz=>nomatch z) (by show 2<=15;decide)⟩
variable{o f:Expr}{A' bR:Pos}{td ty tx:TE}
def UG(hu:X.A.units+1<cLine)(ho:QE X o td)(he:QE X e ty)(hf:QE X f tx)(m:M2 X o "get" A' e f bR:=by exact⟨rfl,rfl,rfl,rfl⟩):QE X (.Call (.Attribute o "get" A') [e,f] [] bR) (yO td ty tx):=⟨Fd hu ho.h he.h hf.h m⟩
variable{σ:St}
def B3:Fc [(t1,t2),(t3,t4)] σ H Q=∀p,H p=none->t1 σ (upd H p<|.dK []) λa H1=>t2 σ H1 λb H2=>t3 σ H2 λc H3=>t4 σ H3 λd H4=>H4 p=some (.dK [])/\∃C_:s_,[(a,b),(c,d)]=C_.map (λkv=>(kV kv.1,kv.2))/\C_.length<=15/\Q (.ref p) (upd H4 p<|.dK<|fV [] C_):=rfl
def Ny:yO td ty tx σ H Q=td σ H λx H1=>∃a,x=.ref a/\T9 H1 a/\ty σ H1 λy H2=>tx σ H2 λz H3=>∃o,gT H3 a y o/\Q (o.getD z) H3:=rfl
noncomputable def plainS:f_:=["sure","share","groups","ring","order","right","book"]
noncomputable def gP:f_->Bool
 | [w]=>decide<|w∈plainS
 | [w,a]=>decide (w="guess")&&bq a
 | [w,a,b]=>decide (w="put")&&(bq a&&eX "colour" b)
 |_=>false
def S6(w:Str):gP [w]=decide (w∈plainS):=rfl
def nC(w a:Str):gP [w,a]=(decide (w="guess")&&bq a):=rfl
def jP(w a b:Str):gP [w,a,b]=(decide (w="put")&&(bq a&&eX "colour" b)):=rfl
def Nz(w a b c:Str)(l:f_):gP (w::a::b::c::l)=false:=rfl
def xx(K:Frag):Sp:=λa H Q _=>∃(p:Addr) (w0:Str) (b:f_),a=[.ref p]/\ay K H p ((w0::b).map V.str)/\b.length<=4000/\(∀z∈b,z.length<=1000000)/\∀H',ag H H'->Q (.bl<|gP (w0::b)) H'
variable{aF:Addr}
def Ad{P:Program}{mg:b_}{e:Nat->Addr}(FT:uM P w K mg aF e)(w0:Str)(b:f_):
  (cJ (lD e) (.inr w0)=none/\gP (w0::b)=false)∨∃(x:Addr) (f:f_),cJ (lD e) (.inr w0)=some (.ref x)/\(∀H,aP K H x<|f.map V.str)/\f.length<=2/\gP (w0::b)=(decide (b.length=f.length)&&(List.range f.length).all λk=>eX (f.getD k aX)<|b.getD k aX):=by
 have o:w0≠"put"->w0≠"guess"->w0∉plainS->cJ (lD e) (.inr w0)=none:=λg m h1=>by
  unfold cJ;rw[List.find?_eq_none.mpr]
  ·rfl
  intro kv i;simp only[lD,mem_cons,not_mem_nil,or_false]at i;simp only[plainS,mem_cons,not_mem_nil,or_false,not_or]at h1;obtain⟨C,E,I,B,G,F,D⟩:=h1;rw[ka]
  rcases i with rfl|rfl|rfl|rfl|rfl|rfl|rfl|rfl|rfl<;>(intro z;injection z with z;subst z;contradiction)
 have d:∀ {x y r:Str} {l:f_} {n:Nat},n<3->decide ((x::y::r::l).length=n)=false:=λh=>cv (by rw[kf,kf,kf];omega)
 have p:∀a,eX "name" a=bq a:=λ_=>if_pos rfl
 by_cases g:w0="put"
 ·subst g;refine .inr ⟨e 5,["name","colour"],Lu e,FT.t5,a_,?_⟩
  match b with
  | []=>decide
  | [a]=>rw[nC,cv a_];rfl
  | [a,c]=>
   have q:List.range (["name","colour"]:f_).length=[0,1]:=by decide
   rw[jP,ed rfl,q,VL,VL,all_nil,Bool.and_true,<-p a];rfl
  |_::_::_::l=>rw[Nz,show(["name","colour"]:f_).length=2 from rfl,d a_];rfl
 by_cases m:w0="guess"
 ·subst m;refine .inr ⟨e 6,["name"],Dx e,FT.t6,a_,?_⟩
  match b with
  | []=>decide
  | [a]=>
   have v:List.range (["name"]:f_).length=[0]:=by decide
   rw[nC,ed rfl,v,VL,all_nil,Bool.and_true,<-p a];rfl
  | [a,c]=>rw[jP,cv a_];rfl
  |_::_::_::l=>rw[Nz,show(["name"]:f_).length=1 from rfl,d a_];rfl
 by_cases h1:w0∈plainS
 ·obtain⟨j,s,u,t,A⟩:∃j,j<9/\j≠5/\j≠6/\cJ (lD e) (.inr w0)=some (.ref<|e j):=by
   simp only[plainS,mem_cons,not_mem_nil,or_false]at h1
   rcases h1 with rfl|rfl|rfl|rfl|rfl|rfl|rfl
   ·exact mC e .sure
   ·exact mC e .share
   ·exact mC e .groups
   ·exact mC e .ring
   ·exact mC e .order
   ·exact⟨7,a_,a_,a_,rfl⟩
   ·exact mC e .book
  refine .inr ⟨e j,[],A,FT.t0 j s u t,a_,?_⟩
  match b with
  | []=>rw[S6,ed h1];rfl
  | [a]=>rw[nC,cv m];rfl
  | [a,c]=>rw[jP,cv g];rfl
  |_::_::_::l=>rfl
 refine .inl ⟨o g m h1,?_⟩
 match b with
 | []=>exact cv h1
 | [a]=>rw[nC,cv m];rfl
 | [a,c]=>rw[jP,cv g];rfl
 |_::_::_::l=>rfl
def Lx(P:iy ns cs ws){a:AK}(h:pP ns a):gP (jE ns a)=true:=by
 cases a with
 |told k=>exact(by cases k<;>decide:gP [iA k]=true)
 |right=>exact(by decide:gP ["right"]=true)
 |dX i=>rw[show jE ns (.dX i)=[("guess":Str),ns.getD i aX]from rfl,nC,ed rfl,P.nm.nm _<|getD_memS h];rfl
 |put i c=>rw[show jE ns (.put i c)=[("put":Str),ns.getD i aX,gL c]from rfl,jP,ed rfl,P.nm.nm _<|getD_memS h.1,(iW h.2).1];rfl
def pT{l:f_}(h:gP l=true)(n:l.length≠1):(∃z,l=[("guess":Str),z]/\bq z=true)∨∃z c,l=[("put":Str),z,c]/\bq z=true/\eX "colour" c=true:=by
 match l,h,n with
 | [],h,_=>cases h
 | [_],_,n=>exact absurd rfl n
 | [w,a],h,_=>
  rw[nC,fz,ka]at h;exact .inl ⟨a,by rw[h.1],h.2⟩
 | [w,a,b],h,_=>
  rw[jP,fz,fz,ka]at h;exact .inr ⟨a,b,by rw[h.1],h.2.1,h.2.2⟩
 |_::_::_::_::_,h,_=>cases h
def ko(K:Frag)(cH cD:Addr)(er:Str->Addr):Sp:=λb H Q E=>∃(d hl:Addr) (ns:f_) (cs ws:d_) (L:B0L) (hs:e_) (z:Str),b=[.ref d,.str z]/\z.length<=3000/\bY K cH cD H d hl ns cs ws L hs/\bx ns cs ws L hs/\
 ((∃a,wz z=jE ns a/\pP ns a/\HY K cH cD er d hl ns cs ws L hs H Q E a)∨
  (gP (wz z)=false/\∀H',ag H H'->E (.ref<|er "NoAsk") none H')∨
  (gP (wz z)=true/\(wz z).length≠1/\(wz z).getD 1 aX∉ns/\∀H',ag H H'->E (.ref<|er "NoName") none H'))
variable{E:XK}
def oB{er:Str->Addr}(a:AK)(hz:wz z=jE ns a)(hzl:z.length<=3000)(hD:bY K cH cD H d hl ns cs ws L hs)(D:bx ns cs ws L hs)(ha:pP ns a)
  (r:∀l rows H',outF ns cs ws L hs a=some rows->(∀x∈rows,fh x)->Off hl H H'->(stays a->ag H H')->H l=none->H' l=some (.lst<|rows.map V.str)->bY K cH cD H' d hl ns cs ws L (S3 cs hs a)->Q (.ref l) H')
  (x:outF ns cs ws L hs a=none->∀H',ag H H'->E (.ref<|er "NoHats") none H'):ko K cH cD er [.ref d,.str z] H Q E:=by
 refine⟨d,hl,ns,cs,ws,L,hs,z,rfl,hzl,hD,D,.inl ⟨a,hz,ha,?_⟩⟩
 cases a with
 |told k=>exact λl rows H' s b h1 t=>r l rows H' (DA t) (HZ D t) (Off.km s) (λ_=>s) b h1<|hD.mono s
 |right=>exact λl H' s b h1=>r l _ H' rfl (pR D.qU.nm.nm<|mB D.qU) (Off.km s) (λ_=>s) b h1<|hD.mono s
 |dX i=>exact λl H' s b h1=>r l [_] H' rfl (λx hx=>by rw[ek.mp hx];exact fh.fg (zX D.qU.xp D.fR D.zV (by rw[D.qU.len];exact ha)).1) (Off.km s) (λ_=>s) b h1<|hD.mono s
 |put i c=>
  refine⟨λz H' s=>x ?_ H' s,λz l H' o b h1 e=>r l [] H' ?_ (λ_ z=>nomatch z) o (λz=>nomatch z) b h1 ?_⟩
  ·show(if _ then _ else _)=_;rw[if_neg (by rw[z];exact o6)]
  ·show(if _ then _ else _)=_;rw[if_pos z]
  ·show bY _ _ _ _ _ _ _ _ _ _ (if _ then _ else _);rw[if_pos z];exact e
theorem Fn.imp{P:Program}{w:World}{K:Frag}{mg:b_}{base:Heap}{k:Nat}{x:Str}{ps:f_}{sp sp':Sp}(F:Fn P w K mg base k x ps sp)(h:∀vs H Q E,sp' vs H Q E->sp vs H Q E):Fn P w K mg base k x ps sp':=by
 obtain⟨f,a,F,r⟩:=F.ex;exact⟨f,a,F.imp h,r⟩
def P1(vs:u_)(H:Hp)(Q:VK)(E:XK)(h:Nl K vs H Q E):Ab K vs H Q E:=by
 obtain⟨w,b,e,h1,g,f,q⟩:=h;exact⟨w,b,e,h1,g,f,λa s=>⟨(q a s).1,λc p o d l i j=>(q a s).2 c p _ o d l i j⟩⟩
structure Ic(H:Hp)(dr:Addr)(dn:e_)(m:Nat):Prop where
 at_:H dr=some (.lst<|dn.map V.int)
 len:dn.length=m
 nn:∀x∈dn,0<=x/\x<2147483648
variable{m:Nat}
def Ic.mono(h:Ic H dr dn m)(s:ag H H'):Ic H' dr dn m:=⟨s _ _ h.at_,h.len,h.nn⟩
variable{i:Int}
def bj(h:Ic H dr dn m)(h0:0<=i)(h1:i<m)(q:∀x:Int,0<=x->x<2147483648->Q (.int x) H):nF K (.ref dr) (.int i) H Q:=by
 obtain⟨j,rfl⟩:=hO h0;have hj:j<dn.length:=by have:=h.len;omega
 obtain⟨a,b⟩:=h.nn _<|pS hj;exact au (ay.of h.at_) (ax (by rw[eG,cc hj];rfl))<|q _ a b
def pU:Sp:=λa H Q _=>∃(cell:Int) (n:Nat),a=[.int cell,.int n]/\n<=100/\∀(l:Addr) (ns:e_) (H':Hp),ag H H'->H l=none->H' l=some (.lst<|ns.map V.int)->ns.length=n->(∀x∈ns,0<=x/\x<2147483648)->Q (.ref l) H'
def P2(H0:Hp)(cell:Int)(n:Nat)(l:Addr)(k:Nat)(σ:St)(H:Hp):Prop:=∃(num:Int) (ns:e_) (y:v_),σ=[some (.int cell),some<|.int n,some<|.int num,some<|.ref l,y]/\ag H0 H/\H l=some (.lst<|ns.map V.int)/\ns.length=k/\∀x∈ns,0<=x/\x<2147483648
def Ie(vs:u_)(H:Hp)(Q:VK)(E:XK)(h:lq vs H Q E):pU vs H Q E:=by
 obtain⟨c,n,e,hn,q⟩:=h;exact⟨c,n,e,hn,λl g f s a h1 d b=>q l g f s a h1 d λx hx=>(b x hx).1⟩
def lG:Sp:=λa H Q _=>∃(num:Int) (k:Nat),a=[.int num,.int k]/\k<=20/\∀z:Str,z.length=k->gK z->Q (.str z) H
def Ae:(StrLaws.sliceText x none<|some (-1)).length<=x.length:=by
 have e:StrLaws.sliceText x none (some (-1))=StrLaws.sliceText x none (some<|max 0<|(x.length:Int) + -1):=slice_to_neg a_
 obtain⟨k,hk⟩:=hO (show 0<=max 0 ((x.length:Int) + -1) by omega)
 rw[e,hk];exact hV k
def Ig:Sp:=λa H Q _=>∃(z:Str) (dr:Addr) (dn:e_),a=[.str z,.ref dr]/\Ic H dr dn 44/\1<=z.length/\z.length<=12/\∀(y:Str) H',y.length<=302->ag H H'->Q (.str y) H'
def Af:Sp:=λa H Q _=>∃(dr ct:Addr) (k:Nat) (dn:e_) (cs:d_),a=[.ref dr,.int (k:Int),.ref ct]/\Ic H dr dn 44/\k<=3/\H ct=some (.lst<|(aE cs).map V.int)/\cs.length<=8/\(∀c∈cs,0<c/\c<10 ^ 30)/\∀(y:Str) H',y.length<=302->ag H H'->Q (.str y) H'
def Ih:Sp:=λa H Q _=>∃(dr nm ct:Addr) (k:Nat) (dn:e_) (ns:f_) (cs:d_),a=[.ref dr,.int (k:Int),.ref nm,.ref ct]/\Ic H dr dn 44/\k<=3/\H nm=some (.lst<|ns.map V.str)/\(∀x∈ns,bq x=true)/\H ct=some (.lst<|(aE cs).map V.int)/\cs.length<=8/\(∀c∈cs,0<c/\c<10 ^ 30)/\∀(y:Str) H',y.length<=302->ag H H'->Q (.str y) H'
def Ly:lP 10 20:=by unfold lP;decide
def Lz:(10:Int) ^ (20:Int).toNat=100000000000000000000:=by decide
def UH{rest:St}{J:It}{n:Nat}{item:Nat->V}(ok:vX J H1 n item)(hn:n<sizeLine)(Ok:Nat->q_)
  (mono:∀i v H H',ag H H'->Ok i v H->Ok i v H') (off:∀i v B_ ys o H,H B_=some (.lst ys)->v≠.ref B_->Ok i v H->Ok i v (upd H B_ o))
  (step:∀i H (A:q_),i<n->ag H1 H->(∀v H',ag H H'->(∀r,v=.ref r->H r=none)->Ok i v H'->A v H')->te (some (item i)::rest) H A)
  (fin:∀B_ (row:u_) H,H1 B_=none->ag H1 H->H B_=some (.lst row)->row.length=n->(∀i,i<n->Ok i (row.getD i .bA) H)->Q (.ref B_) H):vB (bF 0) iL te (none::rest) Q J H1:=by
 intro B_ d;refine⟨λi m τ H=>m=n-i/\i<=n/\(∃y,τ=y::rest)/\ag H1 H/\∃row:u_,H B_=some (.lst row)/\row.length=i/\∀k,k<i->row.getD k .bA≠.ref B_/\Ok k (row.getD k .bA) H,⟨n,by simp,zero_le _,⟨_,rfl⟩,ag.new d _,[],af,rfl,λk hk=>absurd hk<|VE k⟩,?_⟩
 rintro i m τ H ⟨rfl,hi,⟨y,rfl⟩,h,row,p,q,l⟩
 by_cases e:i<n
 ·refine .inr ⟨ok.go i H h e,λs H'=>(∃y,s=y::rest)/\ag H1 H'/\∃row:u_,H' B_=some (.lst row)/\row.length=i+1/\∀k,k<i+1->row.getD k .bA≠.ref B_/\Ok k (row.getD k .bA) H',λs H' ⟨a,b,c⟩=>⟨n-(i+1),by omega,rfl,e,a,b,c⟩,λx H' y=>?_⟩
  obtain⟨rfl,rfl⟩:=ok.Aw i H x H' h e y;simp only[yQ,jZ,set_cons_zero,FQ,oZ];refine step i H' _ e h λv w g t hk=>?_;have f:=g _ _ p;have j:v≠.ref B_:=λz=>by have:=t B_ z;rw[p]at this;cases this
  refine⟨_,f,by omega,⟨_,rfl⟩,(h.trans g).set d _,row++[v],af,by rw[eR,q];rfl,λk u=>?_⟩
  by_cases c:k<i
  ·rw[b4,u5 (by omega),<-b4]
   exact⟨(l k c).1,off _ _ _ _ _ _ f (l k c).1<|mono _ _ _ _ g (l k c).2⟩
  ·obtain rfl:k=i:=by omega
   rw[b4,tz (by omega),q,Nat.sub_self]
   exact⟨j,off _ _ _ _ _ _ f j hk⟩
 ·obtain rfl:i=n:=by omega
  exact .inl ⟨ok.stop i H h<|ey _,fin B_ row H d h p q λk hk=>(l k hk).2⟩
def Ag(n:Nat)(W:f_):Prop:=∀x∈W,x.length<=n
theorem S7{α:Type}{c:α->V}{Ok:Nat->α->Prop}(d:α):∀(k:Nat) (row:u_),(∀i,i<row.length->∃x,row.getD i .bA=c x/\Ok (k+i) x)->∃W:List α,row=W.map c/\∀i,i<row.length->Ok (k+i) (W.getD i d)
 |_,[],_=>⟨[],rfl,λ_ h=>absurd h<|VE _⟩
 |k,v::r,h=>by
  obtain⟨x,e,hx⟩:=h 0<|Nat.zero_lt_succ _;have a:∀i,k+(i+1)=k+1+i:=λi=>by omega
  obtain⟨W,b,f⟩:=S7 d (k+1) r λi hi=>by rw[<-a];exact h (i+1)<|Nat.succ_lt_succ hi
  refine⟨x::W,by rw[show v=c x from e,b];rfl,λi hi=>?_⟩
  cases i with
  |zero=>exact hx
  |succ i=>rw[a];exact f i<|Nat.lt_of_succ_lt_succ hi
def TR{α:Type}(d:α)(c:α->V){j:Int}{rest:St}(n:Nat)(e:j=(n:Int))(hn:n<=1000000)(Ok:Nat->α->Prop)
  (step:∀i H (A:q_),i<n->ag H1 H->(∀(x:α) H',ag H H'->Ok i x->A (c x) H')->te (some (.int (i:Int))::rest) H A)
  (fin:∀B_ (row:List α) H,H1 B_=none->ag H1 H->H B_=some (.lst<|row.map c)->row.length=n->(∀i,i<n->Ok i (row.getD i d))->Q (.ref B_) H) (hc:∀a r,c a≠V.ref r:=by intro _ _ z;cases z):
  ∃k:Int,[V.int j]=[.int k]/\-(2 ^ 62)<=k/\k<2 ^ 62/\vB (bF 0) iL te (none::rest) Q (AU 0 k.toNat) H1:=by
 subst e;refine⟨_,rfl,by omega,by omega,?_⟩
 rw[ri];refine UH ft (A6 hn a_) (λi v _=>∃x,v=c x/\Ok i x) (λ_ _ _ _ _ h=>h) (λ_ _ _ _ _ _ _ _ h=>h) (λi H A hi b q=>?_) λB_ row H m b f g t=>?_
 ·rw[Int.zero_add];exact step i H A hi b λx H' s o=>q _ H' s (λr z=>absurd z<|hc x r) ⟨x,rfl,o⟩
 ·subst g;obtain⟨W,e,l⟩:=S7 d 0 row λi hi=>by rw[Nat.zero_add];exact t i hi
  have p:W.length=row.length:=by rw[e,b5]
  exact fin B_ W H m b (by rw[f,e]) p λi hi=>by have:=l i hi;rwa [Nat.zero_add]at this
def S8{rest:St}(val:(Bool × List Nat)->V)(h:aP K H1 a us)(hg:GL K H1 us L)(hn:L.length<sizeLine)
  (step:∀(i:Nat) g p H (A:q_),L[i]?=some g->ag H1 H->aP K H p ((aE g.2).map V.int)->(∀H',ag H H'->A (val g) H')->te (some (.str<|kd g.1)::some (.ref p)::rest) H A)
  (fin:∀B_ H,H1 B_=none->ag H1 H->H B_=some (.lst<|L.map val)->Q (.ref B_) H):
  ∃b,V.ref a=.ref b/\(∃xs,aP K H1 b xs)/\vB (qw K 2<|dS (bF 0)<|dS (bF 1) qv) iL te (none::none::rest) Q (Eb K b) H1:=by
 have F:=hg.length;refine⟨a,rfl,⟨_,h⟩,λB_ c=>?_⟩;refine⟨λi m τ H=>m=L.length-i/\i<=L.length/\(∃y z,τ=y::z::rest)/\ag H1 H/\H B_=some (.lst<|(L.take i).map val),⟨L.length,by simp,zero_le _,⟨_,_,rfl⟩,ag.new c _,af⟩,?_⟩
 rintro i m τ H ⟨rfl,hi,⟨y,z,rfl⟩,j,s⟩;have q:=j.aO h
 by_cases l:i<L.length
 ·have hx:us[i]?=some (us[i]'(by omega)):=cc _
  refine .inr ⟨⟨_,_,q,hx⟩,λt H'=>(∃y z,t=y::z::rest)/\ag H1 H'/\H' B_=some (.lst<|(L.take<|i+1).map val),λt H' ⟨u,v,w⟩=>⟨L.length-(i+1),by omega,rfl,l,u,v,w⟩,λx H' y=>?_⟩
  obtain⟨rfl,C⟩:=y;have n:=C _ q;obtain⟨g,r,p,d,rfl,D,B⟩:=(hg.mono j).get n;refine⟨r,_,rfl,D,rfl,_,_,rfl,_,_,rfl,rfl,?_⟩;simp only[jZ,FQ,oZ,set_cons_zero,set_cons_succ];refine step i g p _ _ d j B λE f=>?_;have o:=f _ _ s;refine⟨_,o,?_,⟨_,_,rfl⟩,(j.trans f).set c _,?_⟩
  ·rw[b5,rr];omega
  ·rw[af]
   have:L.take (i+1)=L.take i++[g]:=by rw[take_succ,d];rfl
   rw[this,hI];rfl
 ·have e:i=L.length:=by omega
  subst e;refine .inl ⟨⟨_,q,by omega⟩,fin B_ H c j ?_⟩
  rw[s,L1]
theorem Ag.set{n:Nat}{W:f_}{k:Nat}{y:Str}(h:Ag n W)(hy:y.length<=n):Ag n (W.set k y):=λx hx=>by
 rcases List.mem_or_eq_of_mem_set hx with z|rfl
 ·exact h x z
 ·exact hy
def xy{n:Nat}{us:f_}(h:ay K H a (us.map V.str))(hb:Ag n us)(hz:us.length*(n+1)<=3000)(q:∀z:Str,z.length<=us.length*(n+1)->Q (.str z) H):rJoin K (.str<|(" ":Str)) [.ref a] H Q:=by
 have hj:=dD 32 n us hb;have c:=dN n us hb;have b:(10000:Nat)<=sizeLine:=by decide
 refine⟨_,a,us,rfl,rfl,h,?_,?_,?_⟩
 ·rw[show(" ":Str).length=1 by decide +kernel];omega
 ·rw[aW];omega
 ·rw[aW];exact q _ hj
def Ii(hz:z.length<=sizeLine)(h0:0<=i)(h1:i<z.length)(q:∀w:Str,w.length=1->Q (.str w) H):QQ (.str z) (.int i) H Q:=by
 obtain⟨k,rfl⟩:=hO h0;exact⟨z,_,(cz z).getD k 0,rfl,rfl,hz,fB rfl 0 (by rw[<-aB];omega),q _ rfl⟩
def B4:Sp:=λa H Q _=>∃(dr b:Addr) (dn:e_) (ns:f_) (cs ws:d_),a=[.ref dr,.ref b]/\Ic H dr dn 44/\jM H b ns cs ws/\iy ns cs ws/\∀(z:Str) H',z.length<=3000->ag H H'->Q (.str z) H'
noncomputable def U1:f_:=["put","guess","put","guess","sure","share","groups","ring","order","right","book","put"]
def LA:Ag 6 U1:=by unfold Ag;decide +kernel
def P4(ns:f_)(cs:d_)(W:f_)(r:Int):Prop:=(r=0/\gP W=false)∨(r=1/\gP W=true/\W.length≠1/\W.getD 1 aX∉ns)∨∃a,W=jE ns a/\pP ns a/\((r=2/\∃i c,a=.put i c/\cs.getD i 0<=c)∨(r=-1/\∀i c,a=.put i c->c<cs.getD i 0))
def B5:Sp:=λa H Q _=>∃(z:Str) (b:Addr) (ns:f_) (cs ws:d_),a=[.str z,.ref b]/\z.length<=3000/\jM H b ns cs ws/\iy ns cs ws/\∀r H',ag H H'->P4 ns cs (wz z) r->Q (.int r) H'
def Ij{i:Nat}(hi:i<cs.length)(h:eK (aE cs) (hs.set i (c:Int))=true):c<cs.getD i 0:=by
 unfold eK at h;rw[fz,ka,j9]at h;obtain⟨h1,a⟩:=h;rw[length_set,ak]at h1
 have:=a i (mv.mpr (by rw[ak];exact hi))
 rw[fz,ka,ka,aZ]at this;have e:(hs.set i (c:Int)).getD i 0=(c:Int):=by rw[b4,List.getElem?_set_self (by omega)];rfl
 rw[e]at this
 omega
def Ik(ns:f_)(cs:d_)(W:f_)(r:Int)(hs hs':e_):Prop:=(∃i c,r=-1/\W=jE ns (.put i c)/\i<ns.length/\c<cs.getD i 0/\c<10 ^ 30/\hs'=hs.set i (c:Int))∨((r=-1->W.getD 0 aX≠"put")/\hs'=hs)
def tj(K:Frag)(cH cD:Addr):Sp:=λa H Q _=>∃(d hl:Addr) (ns:f_) (cs ws:d_) (L:B0L) (hs:e_) (z:Str) (r:Int),a=[.ref d,.str z,.int r]/\z.length<=3000/\bY K cH cD H d hl ns cs ws L hs/\bx ns cs ws L hs/\P4 ns cs (wz z) r/\∀H' hs',Off hl H H'->bY K cH cD H' d hl ns cs ws L hs'->bx ns cs ws L hs'->Ik ns cs (wz z) r hs hs'->Q (.bl true) H'
noncomputable def Il(r:Int):List Bool:=[decide (r=0),decide<|r=1,decide<|r=2]
def S9(K:Frag)(cH cD:Addr)(H:Hp)(d hl kl ol:Addr)(ns:f_)(cs ws:d_)(L:B0L)(hs:e_)(z:Str)(r:Int)(σ:St)(J:Hp):Prop:=
 (∃(l:Addr) (rows:f_) (hs':e_),σ=[some (.ref d),some<|.str z,some<|.int r,some<|.ref kl,some<|.ref ol,some<|.ref l,none]/\r=-1/\J l=some (.lst<|rows.map V.str)/\rows.length<=16/\J kl=some (.lst [])/\Off hl H J/\bY K cH cD J d hl ns cs ws L hs'/\bx ns cs ws L hs'/\Ik ns cs (wz z) r hs hs')∨
 (∃k2 o2:Addr,σ=[some (.ref d),some<|.str z,some<|.int r,some<|.ref k2,some<|.ref o2,some .bA,none]/\0<=r/\J k2=some (.lst<|(Il r).map V.bl)/\J o2=some (.lst<|[false,false,false,false].map V.bl)/\ag H J)
def DB{k:TK}(D:bx ns cs ws L hs)(h:xw ns cs ws L k r):r.length<=16:=by
 cases k with
 |ring=>
  refine gO (k:=.ring) D ?_
  rcases h with h|⟨c,e,a⟩
  ·exact .inl h
  ·exact .inr ⟨c,_,a,e⟩
 |sure=>exact gO (k:=.sure) D h
 |share=>exact gO (k:=.share) D h
 |groups=>exact gO (k:=.groups) D h
 |order=>exact gO (k:=.order) D h
 |book=>exact gO (k:=.book) D h
def LB{er:Str->Addr}{r:Int}(hzl:z.length<=3000)(hD:bY K cH cD H d hl ns cs ws L hs)(D:bx ns cs ws L hs)(hdue:P4 ns cs (wz z) r)
  (ok:∀(l:Addr) (rows:f_) (H':Hp) (hs':e_),r=-1->rows.length<=16->Off hl H H'->H' l=some (.lst<|rows.map V.str)->bY K cH cD H' d hl ns cs ws L hs'->bx ns cs ws L hs'->Ik ns cs (wz z) r hs hs'->Q (.ref l) H')
  (no:∀x∈(["NoAsk","NoName","NoHats"]:f_),0<=r->Il r=[kj x "NoAsk",kj x "NoName",kj x "NoHats"]->∀H',ag H H'->E (.ref<|er x) none H'):ko K cH cD er [.ref d,.str z] H Q E:=by
 refine⟨d,hl,ns,cs,ws,L,hs,z,rfl,hzl,hD,D,?_⟩
 rcases hdue with ⟨rfl,n⟩|⟨rfl,n,p,q⟩|⟨a,m,j,b⟩
 ·exact .inr (.inl ⟨n,no "NoAsk" a_ a_ a_⟩)
 ·exact .inr (.inr ⟨n,p,q,no "NoName" a_ a_ a_⟩)
 refine .inl ⟨a,m,j,?_⟩
 cases a with
 |told k=>
  obtain⟨rfl,_⟩:r=-1/\True:=by
   rcases b with ⟨_,i,c,e,_⟩|⟨h,_⟩
   ·cases e
   ·exact⟨h,trivial⟩
  have g:(wz z).getD 0 aX≠"put":=by rw[m];exact(uQ k).1
  exact λl rows H' s u h1 t=>ok l rows H' hs rfl (DB D t) (Off.km s) h1 (hD.mono s) D<|.inr ⟨λ_=>g,rfl⟩
 |right=>
  obtain⟨rfl,_⟩:r=-1/\True:=by
   rcases b with ⟨_,i,c,e,_⟩|⟨h,_⟩
   ·cases e
   ·exact⟨h,trivial⟩
  have g:(wz z).getD 0 aX≠"put":=by rw[m];show("right":Str)≠_;decide
  exact λl H' s u h1=>ok l _ H' hs rfl (by unfold dZ;split<;>exact le_of_ble_eq_true rfl) (Off.km s) h1 (hD.mono s) D<|.inr ⟨λ_=>g,rfl⟩
 |dX i=>
  obtain⟨rfl,_⟩:r=-1/\True:=by
   rcases b with ⟨_,i,c,e,_⟩|⟨h,_⟩
   ·cases e
   ·exact⟨h,trivial⟩
  have g:(wz z).getD 0 aX≠"put":=by rw[m];show("guess":Str)≠_;decide
  exact λl H' s u h1=>ok l [_] H' hs rfl (le_of_ble_eq_true rfl) (Off.km s) h1 (hD.mono s) D<|.inr ⟨λ_=>g,rfl⟩
 |put i c=>
  have hi:i<cs.length:=by rw[D.qU.lc];exact j.1
  rcases b with ⟨rfl,A,B,e,y⟩|⟨rfl,f⟩
  ·cases e
   refine⟨λ_=>no "NoHats" a_ a_ a_,λh=>?_⟩
   have:=Ij hi h
   omega
  ·have f:=f i c rfl;obtain⟨w,n⟩:=D.set j.1 f;exact⟨λh=>(by rw[n]at h;cases h),λ_ l H' o u h1 v=>ok l [] H' _ rfl a_ o h1 v w<|.inl ⟨i,c,rfl,m,j.1,f,j.2,rfl⟩⟩
noncomputable def NA:List TK:=[.sure,.share,.groups,.ring,.order,.book]
noncomputable def jQ (ns:f_)(cs ws:d_)(L:B0L)(i:Nat):f_:=(outF ns cs ws L []<|.told<|NA.getD i .book).getD []
structure pV(H:Hp)(us:u_)(F:Nat->f_):Prop where
 len:us.length=6
 at_:∀i,i<6->∃p,us.getD i .bA=.ref p/\H p=some (.lst<|(F i).map V.str)/\∀x∈F i,fh x
variable{F:Nat->f_}
def pV.mono(h:pV H us F)(s:ag H H'):pV H' us F:=⟨h.len,λi hi=>by
 obtain⟨p,e,a,c⟩:=h.at_ i hi;exact⟨p,e,s _ _ a,c⟩⟩
noncomputable def Qy(F:Nat->f_):List PyData:=(List.range 6).map λi=>.list<|(F i).map PyData.str
theorem xA{K:Frag}{H:Hp}(f:Nat->PyData):∀(n k:Nat) (us:u_),us.length=n->(∀i,i<n->Dt K H (us.getD i .bA) (f<|k+i))->dI K H us ((List.range' k n).map f)
 |0,_,[],_,_=>.nil
 |n+1,k,u::r,a,h=>.cons (h 0<|Nat.zero_lt_succ _) (xA f n (k+1) r (Nat.succ.inj a) λi hi=>by
  have:=h (i+1)<|Nat.succ_lt_succ hi
  rw[Nat.add_assoc,Nat.add_comm 1 i];exact this)
def pV.dt(h:pV H us F):dI K H us (Qy F):=by
 unfold Qy;rw[List.range_eq_range'];refine xA (λi=>.list<|(F i).map PyData.str) 6 0 us h.len λi hi=>?_;obtain⟨p,e,a,_⟩:=h.at_ i hi;rw[e,Nat.zero_add];exact .lst (ay.of a)<|g5 _
theorem xB{F:Nat->f_}:∀l:d_,(∀i∈l,∀x∈F i,fh x)->PyData.canLayAll0 (l.map λi=>PyData.list<|(F i).map PyData.str)=true/\PyData.depthAll (l.map λi=>PyData.list<|(F i).map PyData.str)<=10/\PyData.eqvAll (l.map λi=>PyData.list<|(F i).map PyData.str) (l.map λi=>PyData.list<|(F i).map PyData.str)=true
 | [],_=>by simp[PyData.canLayAll0,PyData.depthAll,PyData.eqvAll]
 |i::l,h=>by
  obtain⟨a,b,c⟩:=xB l λj hj=>h j<|fN _ hj;have d:=g6<|F i;refine⟨?_,?_,?_⟩
  ·simp only[map_cons,PyData.canLayAll0,PyData.canLay0,uS (F i)<|h i mem_cons_self,a,Bool.and_self]
  ·simp only[map_cons,PyData.depthAll,PyData.depth];omega
  ·simp only[map_cons,PyData.eqvAll,PyData.eqv,hX,c,decide_true,Bool.and_self]
def LC{b:Addr}(ha:H a=some (.lst us))(hb:H b=some (.lst vs))(h1:pV H us F)(h2:pV H vs F)(q:Q (.bl false) H):OT K (.ref a) (.ref b) H Q:=by
 obtain⟨e,g,f⟩:=xB (F:=F) (List.range 6) λi hi x hx=>by
  obtain⟨_,_,_,c⟩:=h1.at_ i<|mv.mp hi;exact c x hx
 have d:shaped (.list<|Qy F)=true:=mh (by simp only[PyData.canLay0];exact e) (by simp only[PyData.depth];unfold Qy;omega)
 refine⟨_,_,.lst (ay.of ha) h1.dt,.lst (ay.of hb) h2.dt,d,d,?_⟩;rw[show PyData.eqv (.list<|Qy F) (.list<|Qy F)=true by simp only[PyData.eqv];exact f]
 exact q
def mF(K:Frag)(cH cD:Addr):Sp:=λa H Q _=>∃(d hl:Addr) (ns:f_) (cs ws:d_) (L:B0L) (hs:e_),a=[.ref d]/\bY K cH cD H d hl ns cs ws L hs/\bx ns cs ws L hs/\∀l us H',ag H H'->H' l=some (.lst us)->pV H' us (jQ ns cs ws L)->Q (.ref l) H'
def B6(K:Frag)(cH cD:Addr):Sp:=λa H Q _=>∃(d hl h2 c g nm lk:Addr) (us ul:u_) (ns:f_) (cs ws:d_) (L:B0L) (hs:e_),a=[.ref d,.ref h2,.ref nm,.ref lk]/\Pair K cH cD H d hl h2 c g us ns cs ws L hs/\bx ns cs ws L hs/\H nm=some (.lst<|ns.map V.str)/\H lk=some (.lst ul)/\pV H ul (jQ ns cs ws L)/\∀H',ag H H'->Q (.bl true) H'
def B7(k:TK):wz (iA k)=[iA k]/\(iA k).length<=3000:=by cases k<;>decide +kernel
def P5(P:iy ns cs ws){a:AK}(h:pP ns a):wz (Str.join ⟨#[32]⟩<|jE ns a)=jE ns a/\(Str.join ⟨#[32]⟩<|jE ns a).length<=3000:=by
 obtain⟨d,b,c⟩:=Dy P h;have hj:=dD 32 30 _ λx hx=>(b x hx).2
 have:=sU 31 c
 exact⟨fD 32 d λx hx=>(b x hx).1,by omega⟩
def Ta(H0:Hp)(d h2 nm lk:Addr)(_:Nat)(σ:St)(H:Hp):Prop:=∃y:v_,σ=[some (.ref d),some<|.ref h2,some<|.ref nm,some<|.ref lk,y,none]/\ag H0 H
def Tb(K:Frag)(cH cD:Addr)(H0:Hp)(st:St)(d hl h2 c g:Addr)(us:u_)(ns:f_)(cs ws:d_)(L:B0L)(_:Nat)(σ:St)(H:Hp):Prop:=∃(hs:e_) (y9 y10 y11 y12 y13:v_),σ=st++[y9,y10,y11,y12,y13]/\mD hl h2 H0 H/\Pair K cH cD H d hl h2 c g us ns cs ws L hs/\bx ns cs ws L hs
variable{a b:Expr}{ta tb:TE}
def dR{pos:Pos}(ha:QE X a ta)(hb:QE X b tb)(hs:nW b:=by exact λ_ _=>rfl):QE X (.Subscript a b pos) (tG (nF X.K) ta tb):=j3 (cB rfl) ha hb hs
def P6{pos:Pos}(ha:QE X a ta)(hb:QE X b tb)(hs:nW b:=by exact λ_ _=>rfl):QE X (.Subscript a b pos) (tG (Ct X.K) ta tb):=j3 (dJ rfl) ha hb hs
variable{j:Nat}
def bS{pos pos':Pos}(ha:QE X a ta):QE X (.Subscript a (.Constant (.int i) j pos') pos) (tG (nF X.K) ta<|tC<|.int i):=j3 (cB rfl) ha aq λ_ _=>rfl
def kK{pos pos':Pos}(ha:QE X a ta):QE X (.Subscript a (.Constant (.int i) j pos') pos) (tG (Ct X.K) ta<|tC<|.int i):=j3 (dJ rfl) ha aq λ_ _=>rfl
def aa(ha:QE X e te)(hn:Fx e=true:=by rfl):QB X [e] (vM te vL):=ah ha bI hn
end L2
namespace K76
open PySem L2 PyProof.Rows
def top(i:Nat):Stmt:=PySem.Challenge.pw_hatsight_k76_refused.main.body.getD i<|.Pass ⟨0,0,0,0⟩
abbrev dm:Stmt:=top 1
abbrev uV:Stmt:=top 2
abbrev Ah:Stmt:=top 3
abbrev mG:Stmt:=top 4
abbrev fJ:Stmt:=top 5
abbrev hZ:Stmt:=top 19
abbrev pW:Stmt:=top 21
abbrev Ai:Stmt:=top 22
abbrev iX:Stmt:=top 23
abbrev mH:Stmt:=top 24
abbrev f7:Stmt:=top 25
abbrev kq:Stmt:=top 26
abbrev f9:Stmt:=top 27
abbrev h7:Stmt:=top 28
abbrev ia:Stmt:=top 29
abbrev uW:Stmt:=top 31
abbrev kr:Stmt:=top 32
abbrev gh:Stmt:=top 33
abbrev pX:Stmt:=top 34
abbrev ib:Stmt:=top 35
abbrev iY:Stmt:=top 36
abbrev gj:Stmt:=top 37
abbrev gk:Stmt:=top 38
abbrev ic:Stmt:=top 39
abbrev fK:Stmt:=top 40
abbrev ku:Stmt:=top 41
abbrev gm:Stmt:=top 42
abbrev gn:Stmt:=top 43
abbrev kx:Stmt:=top 45
abbrev mI:Stmt:=top 53
abbrev ky:Stmt:=top 54
abbrev gp:Stmt:=top 55
abbrev fL:Stmt:=top 56
abbrev cW:Stmt:=top 57
abbrev mJ:Stmt:=top 58
abbrev iZ:Stmt:=top 59
abbrev mK:Stmt:=top 60
abbrev i3:Stmt:=top 61
abbrev ie:Stmt:=top 62
abbrev Aj:Stmt:=top 65
abbrev pY:Stmt:=top 66
abbrev i4:Stmt:=top 67
abbrev lH:Stmt:=top 68
abbrev gr:Stmt:=top 69
abbrev gs:Stmt:=top 70
abbrev mL:Stmt:=top 71
abbrev i5:Stmt:=top 74
abbrev IZ:Stmt:=top 75
abbrev i6:Stmt:=top 76
abbrev i7:Stmt:=top 77
abbrev i8:Stmt:=top 78
abbrev dP:Stmt:=top 79
abbrev i9:Stmt:=top 80
abbrev ja:Stmt:=top 81
abbrev eS:Stmt:=top 82
abbrev jb:Stmt:=top 83
abbrev ig:Stmt:=top 84
abbrev kA:Stmt:=top 85
abbrev gu:Stmt:=top 86
abbrev kB:Stmt:=top 87
abbrev jc:Stmt:=top 88
abbrev gw:Stmt:=top 89
abbrev mM:Stmt:=top 90
abbrev jd:Stmt:=top 91
abbrev je:Stmt:=top 92
abbrev jf:Stmt:=top 93
abbrev lI:Stmt:=top 94
noncomputable abbrev eU:Stmt:=nk (top 46) 0
noncomputable abbrev fM:Stmt:=nk (top 46) 1
noncomputable abbrev kC:Stmt:=nk (top 46) 2
noncomputable abbrev NB:Stmt:=nk (top 46) 3
noncomputable abbrev ij:Stmt:=nk (top 46) 4
noncomputable abbrev ik:Stmt:=nk (top 46) 5
noncomputable abbrev bQ:Stmt:=nk (top 72) 0
noncomputable abbrev kD:Stmt:=nk (top 72) 1
structure Bn(mg:b_):Prop where
 range:mg "range"=none
 len:mg "len"=none
 sum:mg "sum"=none
 max:mg "max"=none
 isinstance:mg "isinstance"=none
 int:mg "int"=none
 bool:mg "bool"=none
 str:mg "str"=none
 tuple:mg "tuple"=none
 list:mg "list"=none
 sorted:mg "sorted"=none
 set:mg "set"=none
 all:mg "all"=none
 any:mg "any"=none
 zip:mg "zip"=none
 enumerate:mg "enumerate"=none
 ValueError:mg "ValueError"=none
structure Cs(mg:b_):Prop where
 LY:∃t,mg "LETTERS"=some (.str "abcdefghijklmnopqrstuvwxyz" t)
 LX:∃t,mg "FIGURES"=some (.str "0123456789" t)
 vf:∃t,mg "LONGEST_NAME"=some (.int 12 t)
 qS:∃t,mg "LONGEST_COUNT"=some (.int 30 t)
 xK:∃t,mg "MOST_PEOPLE"=some (.int 8 t)
noncomputable abbrev Im:List Str:=["HatError","LineError","NoAsk","NoName","NoHats","NoGroups","NoPlan"]
local macro_rules | `(tactic| walk_at $s) => do
 let some l:=[("d","L2.Ri"),("r0","L2.yR")].lookup s.getString|Lean.Macro.throwUnsupported
 let x:=("yR Fw Ua OM Q5 Mh Q6 Q7 Q8 Q9 uU Ia vV Fg Ra Fh Fi Mi Fj Mj Fo Bb Ml Mm Fp Fq Rb Mn Mo Rc Mp MK Gp MN Hd MV MW MX GY GS Gq Rf vW Fs Rg Rh jZ Ft Fu Mq Mr Ms yQ Mt Bc Fv Bd BA RW Gn Nf Hl BN Ng Sx Ni Hr Hs BS HC HD Hq BR Hm HI Np B3 Ny Gd Ge Gf Gg mE Ib Gy RI RJ Kj Ul ue RO RK RL MF Mu Mw FG FH Rv oZ Mz MA MB MC Rw Rx".splitOn.map λx=>"L2."++x)++l::"L2.start map_cons map_nil length_cons length_nil List.replicate cons_append nil_append append_nil set_cons_zero set_cons_succ Nat.reduceAdd Nat.reduceSub bitAnd_m1 Bool.false_eq_true Bool.not_true Bool.not_false decide_eq_true_eq".splitOn|>.map λx=>Lean.mkIdent x.toName
 let x:=x.toArray
 `(tactic| try simp only [$[$x:ident],*])
set_option hygiene false in
local macro_rules | `(tactic| omega) => `(tactic| first | (with_reducible first | assumption | exact Nat.le_of_lt ‹_› | exact Nat.le_trans ‹_› (by decide) | exact Nat.lt_of_le_of_lt ‹_› (by decide) | exact Nat.lt_of_lt_of_le ‹_› (by decide) | exact Nat.lt_of_lt_of_le ‹_› ‹_› | exact Nat.lt_of_le_of_lt ‹_› ‹_› | exact Nat.le_trans ‹_› ‹_› | exact Nat.le_trans ‹_› (Nat.le_trans ‹_› (by decide)) | exact Nat.le_of_lt (Nat.lt_of_lt_of_le ‹_› (by decide)) | exact Nat.le_trans (Nat.le_of_lt ‹_›) (Nat.le_trans ‹_› (by decide)) | exact Nat.lt_of_lt_of_le ‹_› (Nat.le_trans ‹_› (by decide)) | exact Int.natCast_nonneg _ | exact Int.emod_nonneg _ (by decide) | exact Int.emod_lt_of_pos _ (by decide) | exact Int.ofNat_lt.mpr ‹_› | exact Int.ofNat_le.mpr ‹_› | exact Int.ofNat_lt.mp ‹_› | exact Int.lt_add_one_of_le (Int.natCast_nonneg _) | exact Int.ne_of_gt (Int.lt_add_one_of_le (Int.natCast_nonneg _)) | exact Int.natCast_pos.mpr ‹_› | exact Nat.le_trans (Nat.add_le_add ‹_› ‹_›) (by decide) | exact Nat.le_trans (Nat.add_le_add ‹_› (Nat.le_of_eq ‹_›)) (by decide) | exact Nat.le_trans (Nat.add_le_add (Nat.le_trans ‹_› ‹_›) (Nat.le_of_eq ‹_›)) (by decide) | exact Nat.le_trans (Nat.add_le_add (Nat.le_trans ‹_› ‹_›) (Nat.le_trans ‹_› ‹_›)) (by decide) | exact Nat.le_trans (Nat.add_le_add ‹_› (Nat.le_trans ‹_› ‹_›)) (by decide) | exact Nat.le_trans (Nat.add_le_add_left ‹_› _) (by decide)) | decide | omega +splitDisjunctions)
set_option hygiene false in
local macro_rules | `(tactic| walk_at"u") => `(tactic| try with_reducible refine Vd (by with_reducible assumption) ?_)
set_option hygiene false in
local macro_rules | `(tactic| walk_at"s") => `(tactic| ((try with_reducible refine zH _ _ ?_); (walk_at"u"); (walk_at"r0"); try (with_reducible refine zH _ _ ?_; walk_at"u"; walk_at"r0")))
set_option hygiene false in
local macro_rules | `(tactic| walk_at"g") => `(tactic| ((try with_reducible refine zH _ _ ?_); (first | (have := z_C) | (refine UD ?_; (repeat (intro z_b; intro z_e)); dsimp only; have z_C := trivial)); (first | with_reducible refine UE (by first | with_reducible assumption | with_reducible rfl) λzR zH => ?_ | refine Ux λzR zH => ?_)))
local macro_rules | `(tactic| walk_at"h") => `(tactic| (walk_at"g";walk_at"s"))
local macro_rules | `(tactic| walk_at"i") => `(tactic| (walk_at"s";walk_at"g";walk_at"s"))
set_option hygiene false in
local macro_rules | `(tactic| walk_at"hI") => `(tactic| (intro X S e1 e2 e3 e4 e5 hc hsc hxe hr hu H vs Q E h; subst e1 e2 e3 e4 e5))
set_option hygiene false in
local macro_rules | `(tactic| walk_at"hH") => `(tactic| (refine D.gq zY (by walk_at"hB") (by walk_at"hL") ?_; walk_at"hI"))
set_option hygiene false in
local macro_rules | `(tactic| walk_at"hB") => `(tactic| (intro _ _ _ _ _ _ us hl; (first | have q := SJ hl | have q := SK hl | have q := SM hl | have q := SN hl | have q := Uw hl); (repeat obtain ⟨_, q⟩ := q); (try subst q); rfl))
set_option hygiene false in
local macro_rules | `(tactic| walk_at"hL") => `(tactic| (intro vs H Q E h; repeat (first | (obtain ⟨rfl, _⟩ := h; rfl) | obtain ⟨_, h⟩ := h)))
variable{P:Program}{w:World}{K:Frag}{mg:b_}{base:Heap}
def DC(B:Bn mg)(KC:Cs mg)(D:Def K mg "is_name" mI):Fn P w K mg base 1 "is_name" ["word"] lj:=by
 have zY:DS (aj mI) ["word"] ["word"] ["LONGEST_NAME","len","all"]:=aM;walk_at"hH";obtain⟨z,rfl,e,q⟩:=h;refine⟨_,(ae (bT (j7<|yX kQ kQ aq (cj S 1 cI B.len mo<|aa<|kv S 0)<|Pk S 0 KC.vf) (ai<|aG yp) aw)
   (ai (aG (cj S 2 (cP hc rfl) B.all boot_all (aa (iD S hc hsc (Gx (kv S 0) rfl) (N:=["sign"]) (W:=["sign"]) (G:=["LETTERS"]) (fv:=[none]) Dk0 (λi C j s H a=>⟨(kg a 0),bp,(gD rQ (kv a 0) (R7 a 0 KC.LY) (by with_unfolding_all rfl))⟩))))))),?_⟩
 cbv;refine⟨z,rfl,ll e,?_⟩;have d:¬(1<=z.length/\z.length<=12)->Q (.bl false) H:=λc=>by
  have:=q H<|ag.refl _
  unfold bq at this;rw[cv c,qm]at this;exact this
 refine bu (λc=>?_) (λc=>d (by omega))
 refine bu (λb=>d (by simp at b;omega)) λb=>?_
 refine⟨z,rfl,wK e λg f=>?_⟩
 have:=q g f
 unfold bq at this;rw[ed (show 1<=z.length/\z.length<=12 by simp at b;omega),oo]at this
 exact this
def Ak(B:Bn mg)(KC:Cs mg)(D:Def K mg "is_count" ky):Fn P w K mg base 1 "is_count" ["word"] me:=by
 have zY:DS (aj ky) ["word"] ["word"] ["LONGEST_COUNT","len","all"]:=aM;walk_at"hH";obtain⟨z,rfl,j,q⟩:=h;refine⟨_,(ae (bT (qD<|My (j7<|yX kQ kQ aq (cj S 1 cI B.len mo<|aa<|kv S 0)<|Pk S 0 KC.qS)<|v3<|aL aD (j3 jY (kv S 0) aq λ_ _=>rfl) aU<|ao _) (ai<|aG yp) aw)
   (ai (aG (cj S 2 (cP hc rfl) B.all boot_all (aa (iD S hc hsc (Gx (kv S 0) rfl) (N:=["sign"]) (W:=["sign"]) (G:=["FIGURES"]) (fv:=[none]) Dk0 (λp C r s H d=>⟨(kg d 0),bp,(gD rQ (kv d 0) (R7 d 0 KC.LX) (by with_unfolding_all rfl))⟩))))))),?_⟩
 cbv;refine⟨z,rfl,ll j,?_⟩;have l:¬(1<=z.length/\z.length<=30)->Q (.bl false) H:=λc=>by
  have:=q H<|ag.refl _
  unfold cR at this;rw[cv c,qm]at this;exact this
 refine bu (λc=>?_) (λc=>l (by omega))
 refine bu (λf=>l (by simp at f;omega)) λf=>?_
 have n:1<=z.length/\z.length<=30:=by simp at f;omega
 have o:0<(cz z).length:=by rw[<-aB];omega
 refine⟨z,0,(cz z).getD 0 0,rfl,rfl,ll j,?_,?_⟩
 ·show yH (cz z) ((0:Nat):Int)=_;exact fB rfl 0 o
 cbv;have b:decide ((⟨#[(cz z).getD 0 0]⟩:Str)=("0":Str))=decide ((cz z).getD 0 0=48):=by
  rw[show("0":Str)=⟨#[48]⟩ by decide +kernel]
  exact decide_eq_decide.mpr ⟨λe=>by simpa using SL cz e,λe=>by rw[e]⟩
 have m:∀a,ag H a->Q (.bl<|decide ((cz z).getD 0 0≠48)&&(cz z).all KO) a:=λa i=>by
  have:=q a i
  unfold cR at this;rw[ed n,oo]at this;exact this
 refine bu (λg=>?_) λg=>?_
 ·have e:(cz z).getD 0 0=48:=qN (by rw[<-b];exact ed g)
  have:=m H<|ag.refl _
  rw[cv (λh=>h e),qm]at this;exact this
 ·have e:(cz z).getD 0 0≠48:=λe=>g (qN (by rw[b];exact ed e))
  refine⟨z,rfl,wK j λa i=>?_⟩
  have:=m a i
  rw[ed e,oo]at this;exact this
def Io(B:Bn mg)(D:Def K mg "is_hat_line" gp)(gQ:Fn P w K mg base 1 "is_name" ["word"] lj)(kE:Fn P w K mg base 1 "is_count" ["word"] me):Fn P w K mg base 2 "is_hat_line" ["words"] (BC K):=by
 have zY:DS (aj gp) ["words"] ["words"] ["is_name","is_count","len"]:=aM;walk_at"hH";obtain⟨p,l,rfl,a,q⟩:=h;refine⟨_,(ai<|aG<|oX (gD aD (cj S 2 (aA rfl) B.len mo<|aa<|kv S 0) aq<|ao _)<|oX (gD aD (bS<|kv S 0) aU<|ao _)<|oX (bZ S 0 gQ hr<|aa<|bS<|kv S 0)<|vZ<|bZ S 1 kE hr<|aa<|bS<|kv S 0),?_⟩;cbv;refine aR (.inl a.sq) ?_;rw[b5];cbv;unfold wH at q;refine bu (λc=>?_) λc=>?_
 ·rw[ed (show l.length=3 by omega),oo]at q
  refine au (i:=((0:Nat):Int)) a.sq (ax (aT (by omega))) ?_
  cbv;refine bu (λb=>?_) λb=>?_
  ·rw[ed b,oo]at q;refine au (i:=((1:Nat):Int)) a.sq (ax (aT (by omega))) ?_
   refine⟨_,rfl,a.short _ (getD_memS (by omega)),λH1 d=>?_⟩
   cbv
   cases h1:bq (l.getD 1 aX)with
   |false=>
    rw[h1,qm]at q;exact q _ d
   |true=>
    rw[h1,oo]at q;cbv;refine au (i:=((2:Nat):Int)) (d.seq a.sq) (ax (aT (by omega))) ?_
    exact⟨_,rfl,a.short _ (getD_memS (by omega)),λf e=>q _<|d.trans e⟩
  ·rw[cv b,qm]at q;exact q _<|ag.refl _
 ·rw[cv (show ¬l.length=3 by omega),qm]at q
  exact q _<|ag.refl _
def DD(B:Bn mg)(D:Def K mg "is_sees_line" fL)(gQ:Fn P w K mg base 1 "is_name" ["word"] lj):Fn P w K mg base 2 "is_sees_line" ["words"] (wJ K):=by
 have zY:DS (aj fL) ["words"] ["words"] ["all","len"]:=aM;walk_at"hH";obtain⟨p,l,rfl,d,q⟩:=h;have n:=d.eD;refine⟨_,(ai (aG (oX (gD Ey (cj S 1 (aA rfl) B.len mo<|aa<|kv S 0) aq<|ao _) (oX (gD aD (bS<|kv S 0) aU<|ao _) (vZ (cj S 0 (cP hc rfl) B.all boot_all (aa (iD S hc hsc (cC (jz (cp rfl) (kv S 0) (aY aq) bg) rfl) (N:=["word"]) (W:=["word"]) (G:=["is_name"]) (fv:=[none]) Dk0 λx C y s H f=>⟨(kg f 0),bp,(bZ f 0 gQ hr<|aa<|kv f 0)⟩)))))))),?_⟩
 cbv;refine aR (.inl d.sq) ?_;rw[b5];cbv;unfold sM at q;refine bu (λc=>?_) λc=>?_
 ·rw[ed (show 3<=l.length by omega),oo]at q
  refine au (i:=((0:Nat):Int)) d.sq (ax (aT (by omega))) ?_
  cbv;refine bu (λg=>?_) λg=>?_
  ·rw[ed g,oo]at q;refine⟨p,_,rfl,d.sq,λa r=>?_⟩;rw[show(some (1:Int))=some ((1:Nat):Int)from rfl,cZ,<-Vu]
   have t:=ag.new r<|.lst<|(l.drop 1).map V.str;have m:(l.drop 1).length=l.length-1:=q5;refine⟨a,rfl,⟨_,ay.of af⟩,qF (bV<|ay.of af) (λ_=>true) (λi=>.bl<|bq<|(l.drop 1).getD i aX) (by rw[b5,m];exact aC (by omega)) ?_ ?_⟩
   ·intro i H1 A F hi E u _;rw[b5]at hi;rw[show((l.drop 1).map V.str).getD i .bA=.str ((l.drop 1).getD i aX) by rw[b4,aT hi];rfl]
    cbv;exact⟨_,rfl,d.short _<|mem_of_mem_drop<|getD_memS hi,λz o=>u rfl _ o⟩
   ·intro j H1 hn v b;rw[bE,b5]at b;refine⟨j,(List.range (l.drop 1).length).map λi=>bq<|(l.drop 1).getD i aX,rfl,ay.of (by rw[b,kb];rfl),?_⟩
    have e:((List.range (l.drop 1).length).map λi=>bq<|(l.drop 1).getD i aX).all id=(l.drop 1).all bq:=by
     rw[GM]
     conv=>rhs;rw[show l.drop 1=(List.range (l.drop 1).length).map λi=>(l.drop 1).getD i aX from by
      apply F1
      intro i
      by_cases hi:i<(l.drop 1).length
      ·rw[eG,r4 hi,cc hi];show some _=some ((l.drop 1).getD i aX);rw[b4,cc hi];rfl
      ·rw[ls (by omega),ls (by rw[b5,j6];omega)]]
     rw[GM];rfl
    rw[e];exact q _<|t.trans v
  ·rw[cv g,qm]at q;exact q _<|ag.refl _
 ·rw[cv (show ¬3<=l.length by omega),qm]at q
  exact q _<|ag.refl _
def uX:DS (aj cW) ["text","line","words","names"] ["text","line"] ["is_hat_line","int","is_sees_line","NoLine","len","Twice","set","tuple"]:=aM
def uY:MR "read_line" cW "text" "line":=λT kV a b d c ct u v=>⟨⟨_,by with_unfolding_all rfl,λ_=>by with_unfolding_all rfl⟩,⟨_,by with_unfolding_all rfl,λ_=>by with_unfolding_all rfl⟩,⟨_,by with_unfolding_all rfl,λ_=>by with_unfolding_all rfl⟩⟩
def LD(B:Bn mg)(D:GA K mg "read_line" cW 0)(qV:Fn P w K mg base 2 "is_hat_line" ["words"] (BC K))(qi:Fn P w K mg base 2 "is_sees_line" ["words"] (wJ K)):TN P w K mg base 3 "read_line" "text" "line" 0 (zr K):=by
 refine D.gq uX uY (by walk_at"hL") ?_
 walk_at"hI";obtain⟨z,i,l,rfl,hz,A,g,q⟩:=h;refine⟨_,(ae (bo S 2<|gU ro KB VB cK rfl (kv S 0)<|aa aU)
   (ae (bT (jA<|bZ S 0 qV hr<|aa<|kv S 2) (ai<|aG<|qC<|ah aU<|ah (bS<|kv S 2)<|aa<|iG S 1 eZ B.int boot_int<|aa<|bS<|kv S 2) aw)
   (ae (bT (j7<|jA<|bZ S 2 qi hr<|aa<|kv S 2) (ai sE) aw)
   (ae (bo S 3<|jz (cp rfl) (kv S 2) (aY aq) bg)
   (ae (bT (aL fq (cj S 4 zp B.len mo<|aa<|iG S 6 (uo hc rfl) B.set boot_set<|aa<|kv S 3) (cj S 4 (aA rfl) B.len mo<|aa<|kv S 3)<|ao _) (ai sE) aw)
   (ai<|aG<|qC<|ah aU<|ah (bS<|kv S 3)<|aa<|iG S 7 (dv rfl) B.tuple SC<|aa<|jz (cp rfl) (kv S 3) (aY aq) bg)))))),?_⟩
 cbv;have T:(1000002:Nat)<=sizeLine:=by decide
 refine⟨rfl,z,_,rfl,rfl,Dk0,by omega,?_,λp R=>?_⟩
 ·rw[aW,A];omega
 rw[aW,A];have Q:=ag.new R<|.lst<|l.map V.str;have m:Ws X.K (upd H p<|.lst<|l.map V.str) p l:=⟨ay.of af,g,λx hx=>hU (ke (by rw[A];exact hx)) hz⟩
 refine⟨p,l,rfl,m,λH1 I=>?_⟩;have e:ay X.K H1 p (l.map V.str):=I.seq m.sq;cbv
 rcases q with ⟨n,c,E,q⟩|⟨n,o,J,q⟩
 ·rw[n];cbv;have hb:=n;unfold wH at hb;rw[fz]at hb;have v:l.length=3:=qN hb.1;have f:cR (l.getD 2 aX)=true:=by
   have M:=hb.2;rw[fz,fz]at M;exact M.2.2
  have W:(l.getD 2 aX).length<=30:=by
   unfold cR at f;rw[fz]at f;exact(qN f.1).2
  refine au (i:=((1:Nat):Int)) e (ax (aT (by omega))) ?_
  refine au (i:=((2:Nat):Int)) e (ax (aT (by omega))) ?_
  refine⟨_,c,rfl,E,by omega,?_⟩
  refine⟨a_,λt G=>?_⟩
  exact q t _ (Q.trans<|I.trans<|ag.new G _) af
 ·rw[n];cbv;refine⟨p,l,rfl,⟨e,m.eD,m.short⟩,λy O=>?_⟩;rw[o];cbv;have C:=O.seq e;have v:3<=l.length:=by
   unfold sM at o;rw[fz]at o;exact qN o.1
  refine⟨p,_,rfl,C,λa Y=>?_⟩;rw[show(some (1:Int))=some ((1:Nat):Int)from rfl,cZ,<-Vu]
  have sa:=ag.new Y<|.lst<|(l.drop 1).map V.str;have U:(l.drop 1).length=l.length-1:=q5;cbv;refine⟨a,l.drop 1,rfl,ay.of af,by omega,λP w b hb=>?_⟩
  have s:=ag.new hb<|wF P w b<|um<|l.drop 1;have j:upd (upd y a<|.lst<|(l.drop 1).map V.str) b (wF P w b<|um<|l.drop 1) b=some (wF P w b<|um<|l.drop 1):=af;have d:ay X.K (upd (upd y a<|.lst<|(l.drop 1).map V.str) b<|wF P w b<|um<|l.drop 1) a ((l.drop 1).map V.str):=ay.of<|s _ _ af;generalize upd (upd y a<|.lst<|(l.drop 1).map V.str) b (wF P w b<|um<|l.drop 1)=H3 at s j d ⊢;refine⟨b,_,P,w,rfl,j,?_⟩;refine aR (.inl d) ?_;rw[b5,(KJ<|l.drop 1).2.mpr J];cbv;rw[if_neg (by omega)]
  refine au (i:=((0:Nat):Int)) d (ax (aT (by omega))) ?_
  rw[show(l.drop 1).getD 0 aX=l.getD 1 aX by rw[b4,getElem?_drop,<-b4]]
  refine⟨a,_,rfl,d,λc L=>?_⟩;rw[cZ,<-Vu,List.drop_drop];have sc:=ag.new L<|.lst<|(l.drop<|1+1).map V.str;refine⟨c,_,rfl,.inl ⟨ay.of af,λu r=>?_⟩⟩;have Z:=ag.new r<|.tup<|(l.drop<|1+1).map V.str;refine⟨a_,λt G=>?_⟩
  have N:=ag.new G<|.tup [.str "sees",.str<|l.getD 1 aX,.ref u];exact q t u _ ((Q.trans I).trans<|(O.trans sa).trans<|(s.trans sc).trans<|Z.trans N) af<|N _ _ af
def DE(B:Bn mg)(KC:Cs mg)(D:Def K mg "add_hat" mJ):Fn P w K mg base 1 "add_hat" ["numbers","name","line"] wW:=by
 have zY:DS (aj mJ) ["numbers","name","line"] ["numbers","name","line"] ["Twice","MOST_PEOPLE","len","TooMany"]:=aM;walk_at"hH";obtain⟨d,e,x,i,rfl,a,hx,b,q⟩:=h;refine⟨_,(ae (bT (Sd (u1 hu) (kv S 1) (kv S 0) (by with_unfolding_all rfl)) (ai sE) aw)
   (ae (bT (aL Ey (cj S 2 sN B.len mo<|aa<|kv S 0) (Pk S 1 KC.xK)<|ao _) (ai sE) aw)
   (ai<|MM (u1 hu) (cj S 2 sN B.len mo<|aa<|kv S 0) (kv S 0)<|kv S 1))),?_⟩
 cbv;refine⟨d,_,rfl,Pq a hx,?_⟩;rw[isSome_none];cbv;refine wV a ?_;cbv;refine bu (λc=>absurd c (by omega)) λc=>?_
 refine wV a ?_;refine GU a rfl hx (cw (by omega)) ?_
 exact q
def xC(B:Bn mg)(D:Def K mg "add_sight" iZ):Fn P w K mg base 1 "add_sight" ["numbers","web","name","seen","line"] (pF K):=by
 have zY:DS (aj iZ) ["numbers","web","name","seen","line"] ["numbers","web","name","seen","line"] ["Twice","all","Unknown","sum"]:=aM;walk_at"hH";obtain⟨d,w,t,a,l,ws,x,i,rfl,M,U,m,h8,hx,T,Z,F,Y,q⟩:=h;refine⟨_,(ae (bT (qD (j4 (Sd (u1 hu) (kv S 2) (kv S 0) (by with_unfolding_all rfl))<|gE<|aL kn (dR (kv S 1)<|GR (u1 hu) (kv S 0)<|kv S 2) aq<|ao _)) (ai sE) aw)
   (ae (bT (j7 (jA (cj S 1 (cP hc rfl) B.all boot_all (aa (iD S hc hsc (dW (aN (iN rfl) (qC<|aa<|kv S 2)<|kv S 3) rfl) (N:=["other","numbers"]) (W:=["other"]) (G:=[]) (fv:=[none,some 0]) Dk0 (λcl C fp s H g=>⟨(kg g 0),bp,(R5 (u1 hu) (kv g 0) (kv g 1) (by with_unfolding_all rfl))⟩)))))) (ai sE) aw)
   (ai (yY (cj S 3 (dq hc rfl) B.sum boot_sum (aa (iD S hc hsc (dW (kv S 3) rfl) (N:=["other","numbers"]) (W:=["other"]) (G:=[]) (fv:=[none,some 0]) Dk0 λcl C fp s H g=>⟨(kg g 0),bp,(aN cT aq<|GR (u1 hu) (kv g 1)<|kv g 0)⟩)))<|OV (kv S 1) (GR (u1 hu) (kv S 0)<|kv S 2) set_list)))),?_⟩
 cbv;have hi:a.idxOf x<a.length:=C2.mpr hx;refine⟨d,_,rfl,wU M hx,?_⟩;rw[isSome_some];cbv;refine⟨d,_,rfl,wU M hx,?_⟩;refine cq (ay.of U) rfl (by rw[ak,m];exact hi) ?_
 rw[aZ,T];cbv;refine⟨a_,λp hp=>?_⟩
 have n:=ag.new hp<|.tup [V.str x];refine⟨p,t,_,_,rfl,rfl,aP.of af,aP.of<|n _ _ Z,by rw[b5];exact cw (by show 1+_<=_;omega),λp1 H1 u f=>?_⟩
 have o:DN H1 d a:=u _ _<|n _ _ M;have I:([V.str x]++l.map V.str)=(x::l).map V.str:=rfl;rw[I]at f;have cO:∀y∈x::l,y∈a:=λy hy=>(gz.mp hy).elim (λe=>e ▸ hx)<|F y;refine⟨p1,rfl,⟨_,f⟩,qF (gB f) (λ_=>true) (λi=>.bl true) (by rw[b5,kf];exact aC (by omega)) ?_ ?_⟩
 ·intro i X A B' hi E L _;rw[b5]at hi;rw[show((x::l).map V.str).getD i .bA=.str ((x::l).getD i aX) by rw[b4,aT hi];rfl]
  cbv;refine⟨d,_,rfl,wU (E _ _ o)<|cO _<|getD_memS hi,?_⟩;exact L rfl _<|ag.refl _
 intro z X hn2 v b;rw[bE,b5]at b;refine⟨z,(List.range (x::l).length).map λ_=>true,rfl,ay.of (by rw[b,kb];rfl),?_⟩
 have eT:(((List.range (x::l).length).map λ_=>true).all id)=true:=by rw[GM];exact j9.mpr λ_ _=>rfl
 rw[eT];cbv;have r:DN X d a:=v _ _ o;have j:=v _ _<|u _ _<|n _ _ Z;have J:=v _ _<|u _ _<|n _ _ U;refine⟨t,rfl,⟨_,aP.of j⟩,qF (gB<|aP.of j) (λ_=>true) (λi=>.int ((2 ^ a.idxOf (l.getD i aX):Nat):Int)) (by rw[b5];exact aC (by omega)) ?_ ?_⟩
 ·intro i H3 A B' hi E L _;rw[b5]at hi;rw[show(l.map V.str).getD i .bA=.str (l.getD i aX) by rw[b4,aT hi];rfl]
  cbv;refine⟨d,_,rfl,wU (E _ _ r)<|F _<|getD_memS hi,?_⟩;have hlt:a.idxOf (l.getD i aX)<a.length:=C2.mpr<|F _<|getD_memS hi;cbv;refine⟨eI (by omega),?_⟩
  exact L rfl H3<|ag.refl _
 intro R H3 hn3 Q c;rw[bE,b5]at c;refine⟨R,(List.range l.length).map λi=>((2 ^ a.idxOf (l.getD i aX):Nat):Int),rfl,ay.of (by rw[c,kb];rfl),?_⟩
 cbv;rw[GV];have O:=Q _ _ J;refine⟨d,_,rfl,wU (Q _ _ r) hx,?_⟩;refine⟨w,_,_,_,rfl,rfl,O,ud (by rw[b5,ak,m];exact hi),?_⟩
 rw[GW];exact q _<|n.trans<|u.trans<|v.trans Q
variable{er:Str->Addr}
def LF(B:Bn mg)(D:Def K mg "rows_of" mK):Fn P w K mg base 1 "rows_of" ["text"] zB:=by
 have zY:DS (aj mK) ["text"] ["text"] []:=aM;walk_at"hH";obtain⟨z,rfl,i,f,q⟩:=h;refine⟨_,(ae (bT (aL aD (kv S 0) aU<|ao _) (ai<|aG<|dc bI) aw)
   (ai<|aG<|gU ro KB VB cK rfl (kv S 0)<|aa aU)),?_⟩
 cbv;refine bu (λc=>?_) λc=>?_
 ·refine⟨a_,λl e=>?_⟩
  exact q l _ (ag.new e _) e (by rw[af];unfold iU;rw[if_pos c];rfl)
 ·have g:(1000002:Nat)<=sizeLine:=by decide
  have a:("\n":Str)=⟨#[10]⟩:=by decide +kernel
  have d:iU z=Txt.split z ⟨#[10]⟩:=by unfold iU;rw[if_neg c]
  refine⟨rfl,z,_,rfl,rfl,Dk0,by omega,?_,λp b=>?_⟩
  ·rw[a,<-d];omega
  ·rw[a,<-d];exact q p _ (ag.new b _) b af
def LG(B:Bn mg)(D:Def K mg "read_book" i3)(mS:Fn P w K mg base 1 "rows_of" ["text"] zB)(xN:TN P w K mg base 3 "read_line" "text" "line" 0 (zr K))(DX:Fn P w K mg base 1 "add_hat" ["numbers","name","line"] wW)(xO:Fn P w K mg base 1 "add_sight" ["numbers","web","name","seen","line"] (pF K)):Fn P w K mg base 4 "read_book" ["text"] (BU K):=by
 have zY:DS (aj i3) ["text","numbers","counts","web","line","row","told"] ["text"] ["enumerate","rows_of","read_line","add_hat","add_sight","tuple"]:=aM;walk_at"hH";obtain⟨L,b,rfl,bf,hL,hb,q⟩:=h;refine⟨_,(ae (bo S 1 ML)
   (ae (bo S 2<|dc bI)
   (ae (bo S 3<|dc bI)
   (ae (eY hxe hc (Dv true S 0 B.enumerate rfl<|aa<|bZ S 1 mS hr<|aa<|kv S 0) (kZ hc (K:=X.K) (n:=2) rfl<|aQ (kg S 4)<|aQ (kg S 5) cQ) (ae (bo S 6<|Ur S 2 xN hr<|ah (kv S 5)<|aa<|kv S 4)
   (ai (bT (aL aD (kK<|kv S 6) aU<|ao _) (ae (dw<|bZ S 3 DX hr<|ah (kv S 1)<|ah (kK<|kv S 6)<|aa<|kv S 4)
   (ae (dw<|gU qo oD p4 bH rfl (kv S 2)<|aa<|kK<|kv S 6)
   (ai<|dw<|gU qo oD p4 bH rfl (kv S 3)<|aa aq)))<|ai<|dw<|bZ S 4 xO hr<|ah (kv S 1)<|ah (kv S 3)<|ah (kK<|kv S 6)<|ah (kK<|kv S 6)<|aa<|kv S 4))))
   (ai<|aG<|qC<|ah (iG S 5 (zT hc) B.tuple SC<|aa<|kv S 1)<|ah (iG S 5 (dv rfl) B.tuple SC<|aa<|kv S 2)<|aa<|iG S 5 (dv rfl) B.tuple SC<|aa<|kv S 3))))),?_⟩
 cbv;intro d hd0;have s0:=ag.new hd0<|.dK [];refine⟨a_,λc y=>?_⟩
 have s1:=ag.new y<|.lst [];refine⟨a_,λw m=>?_⟩
 have s2:=ag.new m<|.lst [];have cd:c≠d:=λz=>by rw[z,af]at y;cases y
 have wd:w≠d:=λz=>by rw[z,aK cd.symm,af]at m;cases m
 have wc:w≠c:=λz=>by rw[z,af]at m;cases m
 have hbt:=fj bf hL;have u:=fF bf;refine⟨_,rfl,by omega,by rw[u,b5];omega,λr H1 t1 s M=>?_⟩
 rw[u]at M;have rd:r≠d:=λz=>by rw[z,aK wd.symm,aK cd.symm,af]at s;cases s
 have rc:r≠c:=λz=>by rw[z,aK wc.symm,af]at s;cases s
 have U:r≠w:=λz=>by rw[z,af]at s;cases s
 have hB0:UO H1 d c w ⟨[],[],[]⟩:=⟨t1 _ _<|s2 _ _<|s1 _ _ af,t1 _ _<|s2 _ _ af,t1 _ _ af,rfl,rfl,a_⟩
 have hcn:H c=none:=s0.free y;have R:H w=none:=(s0.trans s1).free m;refine HJ true (Se H (dO L) d c w r L) (ay.of M) ⟨_,_,_,_,rfl,(s0.trans<|s1.trans s2).trans t1,M,rfl,hB0⟩ (λk σ H' h=>by obtain⟨b,y1,y2,y3,_,_,h,_⟩:=h;exact ay.of h) ?_ ?_
 ·rintro k v σ H2 H3 hv ⟨b1,y1,y2,y3,rfl,T,Q,A,j⟩ s3;obtain⟨x,hx,rfl⟩:∃x,L[k]?=some x/\v=.str (lu x):=by
   rw[eG,eG]at hv
   cases e:L[k]? with
   |none=>rw[e]at hv;cases hv
   |some x=>rw[e]at hv;cases hv;exact⟨x,rfl,rfl⟩
  obtain⟨a,b2,e1,e2,e3⟩:=zy hb hx;have eb:a=b1:=by rw[A]at e1;cases e1;rfl
  subst eb;have hS3:=T.trans s3;cbv;refine KU (bf x<|fA hx) (λn G f I ex s4 E=>?_) λn l f I ex s4 E=>?_
  ·subst ex;obtain⟨hn,h8,rfl⟩:=C7 e2;have g:=s3.trans s4;cbv;refine br (i:=((0:Nat):Int)) (aP.of E) (ax rfl) ?_;cbv;refine br (i:=((1:Nat):Int)) (aP.of E) (ax rfl) ?_;refine⟨d,_,n,_,rfl,g _ _ j.hd,hn,h8,?_⟩;have fd:f≠d:=λz=>by have:=g _ _ j.hd;rw[<-z,E]at this;cases this
   have fc:f≠c:=λz=>by have:=g _ _ j.hc;rw[<-z,E]at this;cases this
   have fw:f≠w:=λz=>by have:=g _ _ j.hw;rw[<-z,E]at this;cases this
   cbv;have O:upd I d (.dK<|pD 0<|a.ns++[n]) c=some (.lst<|(aE a.cs).map V.int):=by rw[aK cd];exact g _ _ j.hc
   have Y:upd I d (.dK<|pD 0<|a.ns++[n]) w=some (.lst<|(aE a.ws).map V.int):=by rw[aK wd];exact g _ _ j.hw
   have Z:upd I d (.dK<|pD 0<|a.ns++[n]) r=some (.lst<|(L.map lu).map V.str):=by rw[aK rd];exact g _ _ Q
   have hf5:upd I d (.dK<|pD 0<|a.ns++[n]) f=some (.tup [.str "hat",.str n,.int (G:Int)]):=by rw[aK fd];exact E
   have hd5:upd I d (.dK<|pD 0<|a.ns++[n]) d=some (.dK<|pD 0<|a.ns++[n]):=af;have ab:ag H (upd I d<|.dK<|pD 0<|a.ns++[n]):=(T.trans g).set hd0 _;generalize upd I d (.dK<|pD 0<|a.ns++[n])=J at O Y Z hf5 hd5 ab ⊢;refine⟨.inl ⟨rfl,_,ay.of O⟩,?_⟩;refine br (i:=((2:Nat):Int)) (aP.of hf5) (ax rfl) ?_;refine⟨c,_,_,rfl,rfl,O,by rw[b5,ak];exact cw (by rw[j.lc];omega),?_⟩
   rw[pE];cbv;have N:upd J c (.lst<|(aE<|a.cs++[G]).map V.int) w=some (.lst<|(aE a.ws).map V.int):=by rw[aK wc];exact Y
   have aF:upd J c (.lst<|(aE<|a.cs++[G]).map V.int) r=some (.lst<|(L.map lu).map V.str):=by rw[aK rc];exact Z
   have az:upd J c (.lst<|(aE<|a.cs++[G]).map V.int) d=some (.dK<|pD 0<|a.ns++[n]):=by rw[aK cd.symm];exact hd5
   have hc6:upd J c (.lst<|(aE<|a.cs++[G]).map V.int) c=some (.lst<|(aE<|a.cs++[G]).map V.int):=af;have W:ag H (upd J c<|.lst<|(aE<|a.cs++[G]).map V.int):=ab.set hcn _;generalize upd J c (.lst<|(aE<|a.cs++[G]).map V.int)=H6 at N aF az hc6 W ⊢;refine⟨.inl ⟨rfl,_,ay.of N⟩,?_⟩;refine⟨w,_,_,rfl,rfl,N,by rw[b5,ak];exact cw (by rw[j.lw];omega),?_⟩
   rw[show(V.int 0)=V.int ((0:Nat):Int)from rfl,pE]
   refine⟨_,_,_,_,rfl,W.set R _,by rw[aK U];exact aF,e3,⟨by show upd _ _ _ _=_;rw[aK wd.symm];exact az,by rw[aK wc.symm];exact hc6,af,?_,?_,?_⟩⟩
   ·rw[eR,eR,j.lw];rfl
   ·rw[eR,eR,j.lc];rfl
   ·rw[eR];show _+1<=8;omega
  ·subst ex;obtain⟨hn,h0,hl,rfl⟩:=zx e2;have g:=s3.trans s4;obtain⟨p,Nk,zL⟩:=E;have hLs:Us (n::l):=bf _<|fA hx;cbv;refine br (i:=((0:Nat):Int)) (aP.of Nk) (ax rfl) ?_;cbv;rw[if_neg Dk0]
   refine br (i:=((1:Nat):Int)) (aP.of Nk) (ax rfl) ?_;refine br (i:=((2:Nat):Int)) (aP.of Nk) (ax rfl) ?_;refine⟨d,w,p,_,l,_,n,_,rfl,g _ _ j.hd,g _ _ j.hw,j.lw,j.eD,hn,h0,zL,hl,by have:=hLs.eD;rw[kf]at this;omega,λJ s5=>?_⟩
   have C:=g.trans s5;cbv;refine⟨_,_,_,_,rfl,(T.trans C).set R _,by rw[aK U];exact C _ _ Q,e3,⟨by show upd _ _ _ _=_;rw[aK wd.symm];exact C _ _ j.hd,by rw[aK wc.symm];exact C _ _ j.hc,af,?_,j.lc,j.eD⟩⟩
   rw[length_set];exact j.lw
 ·rintro σ H2 ⟨b1,y1,y2,y3,rfl,T,Q,A,j⟩;rw[b5,b5,L1,hb]at A
  cases A
  cbv;refine Dw j.hd λa1 o ha1 oc od=>?_;have u1:=ag.new ha1<|.iE o<|.tup<|b.ns.map V.str;refine⟨c,_,rfl,.inl ⟨ay.of<|u1 _ _ j.hc,λa2 ha2=>?_⟩⟩;have u2:=ag.new ha2<|.tup<|(aE b.cs).map V.int;refine⟨w,_,rfl,.inl ⟨ay.of<|u2 _ _<|u1 _ _ j.hw,λa3 ha3=>?_⟩⟩;have u3:=ag.new ha3<|.tup<|(aE b.ws).map V.int;refine⟨a_,λt ht=>?_⟩
  have u4:=ag.new ht<|.tup [.ref a1,.ref a2,.ref a3];exact q t _ (T.trans<|(u1.trans u2).trans<|u3.trans u4) ⟨a1,a2,a3,aP.of af,.inl<|.inr ⟨o,u4 _ _<|u3 _ _<|u2 _ _ af⟩,.inr ⟨o,_,u4 _ _<|u3 _ _<|u2 _ _ af,oc,od⟩,aP.of<|u4 _ _<|u3 _ _ af,aP.of<|u4 _ _ af⟩
def DF(B:Bn mg)(D:Def K mg "places" pW):Fn P w K mg base 1 "places" ["mask"] k9:=by
 have zY:DS (aj pW) ["mask"] ["mask"] ["range"]:=aM;walk_at"hH";obtain⟨m,rfl,hm,q⟩:=h;refine⟨_,(ai (aG (iD S hc hsc (gW S 0 B.range<|aa<|Ug PySem.F.plainAttrs_int PySem.F.slot_int_bit_length PySem.F.type_int_bit_length CM rfl<|kv S 0) (N:=["i","mask"]) (W:=["i"]) (G:=[]) (fv:=[none,some 0]) Dk0 λp C r s H d=>⟨(kg d 0),(fu<|aL aD (aN ee (aN yw (kv d 1)<|kv d 0) aq) aq<|ao _),(kv d 0)⟩))),?_⟩
 cbv;refine⟨rfl,m,rfl,rfl,λn hn b=>?_⟩;have j:=b 64 hm;cbv;refine Ry n (λi=>m.testBit i) (λi=>(i:Int)) rfl (by omega) ?_ ?_
 ·intro i H1 A t hi g l o;cbv;refine⟨by omega,?_⟩
  by_cases c:m.testBit i=true
  ·rw[c];cbv;exact l c _<|ag.refl _
  ·have c:m.testBit i=false:=by simpa using c
   rw[c];cbv;exact o c _<|ag.refl _
 ·intro e H1 f g a;refine q e H1 g f ?_;rw[a,<-sC hn];rfl
def ow(D:Def K mg "sees" Ai):Fn P w K mg base 1 "sees" ["web","i","j"] (zf K):=by
 have zY:DS (aj Ai) ["web","i","j"] ["web","i","j"] []:=aM;walk_at"hH";obtain⟨w,b,i,j,rfl,a,hi,q⟩:=h;refine⟨_,(ai<|aG<|gD aD (aN ee (aN yw (P6 (kv S 0)<|kv S 1)<|kv S 2) aq) aq<|ao _),?_⟩;cbv;refine dM a rfl (by rw[ak];exact hi) ?_
 rw[aZ];cbv;exact⟨by omega,q⟩
def uZ(B:Bn mg)(D:Def K mg "is_circle" iX):Fn P w K mg base 1 "is_circle" ["web","people"] (O7 K):=by
 have zY:DS (aj iX) ["web","people","crowd","i","others"] ["web","people"] ["sum"]:=aM;walk_at"hH";obtain⟨w,p,ws,l,rfl,y,o,T,t,a,q⟩:=h;have M:=cE t a;refine⟨_,(ae (bo S 2 (cj S 0 (dq hc rfl) B.sum boot_sum (aa (iD S hc hsc (dW (kv S 1) rfl) (N:=["i"]) (W:=["i"]) (G:=[]) (fv:=[none]) Dk0 λO C U s H u=>⟨(kg u 0),bp,(aN cT aq<|kv u 0)⟩))))
   (ae (eY hxe hc (dW (kv S 1) rfl) (kg S 3) (ae (bo S 4<|aN cu (kv S 2)<|aN cT aq<|kv S 3)
   (ai<|bT (aL kn (aN ee (P6 (kv S 0)<|kv S 3)<|kv S 4) (kv S 4)<|ao _) (ai<|aG yp) aw)))
   (ai<|aG yp))),?_⟩
 cbv;refine TL (λ_=>true) (λj=>((2 ^ l.getD j 0:Nat):Int)) o (by rw[ak];exact aC (by omega)) ?_ ?_
 ·intro j H1 A X hj Q I R;rw[ak]at hj;rw[aZ];cbv;exact⟨eI (by have:=a _<|ez hj;omega),I rfl _<|ag.refl _⟩
 intro E H1 J b d;rw[bE]at d;refine o8 (ay.of d) ?_;rw[Bv];have f:=b.aO o;have m:=b.aO y;cbv;refine Kh (RQ H1 w p ws l) f ⟨rfl,(λj hj=>absurd hj<|VE j),none,none,rfl⟩ (λk σ r h=>by rw[h.1];exact f) ?_ ?_
 ·rintro k σ r hk ⟨i,g,F,v,rfl⟩;rw[ak]at hk;have hm:=ez hk;rw[i,aZ];cbv;refine⟨eI (by have:=a _ hm;omega),?_⟩
  refine dM m rfl (by rw[ak];exact a _ hm) ?_
  rw[aZ,Ku<|wt hm];cbv;have e:=zh (ws:=ws) t hm
  by_cases c:(l.all λx=>decide (x=l.getD k 0)||fC ws (l.getD k 0) x)=true
  ·rw[c,ka]at e;rw[e]
   try rw[OZ rfl]
   cbv;refine⟨rfl,λj hj=>?_,_,_,rfl⟩
   by_cases L:j=k
   ·rw[L];exact c
   ·exact g j (by omega)
  ·have n:(l.all λx=>decide (x=l.getD k 0)||fC ws (l.getD k 0) x)=false:=by simpa using c
   rw[n,decide_eq_false_iff_not]at e;rw[cv (show ¬(((ws.getD (l.getD k 0) 0&&& (mask l-2 ^ l.getD k 0):Nat):Int)=((mask l-2 ^ l.getD k 0:Nat):Int)) by rw[RR];exact e)]
   cbv
   have:de ws l=false:=by
    cases z:de ws l with
    |false=>rfl
    |true=>
     unfold de at z;rw[j9]at z;rw[z _ hm]at n;cases n
   rw[<-this];exact q _ b
 ·rintro σ r ⟨i,g,F,v,rfl⟩;rw[ak]at g;rw[i];cbv
  have:de ws l=true:=by
   unfold de;rw[j9];intro x hx;obtain⟨k,hk,e⟩:=C4 hx
   have:=g k hk
   rw[b4,cc hk]at this;rw[<-e];exact this
  rw[<-this];exact q _ b
def Al(B:Bn mg)(D:Def K mg "is_ring" mH)(Az:Fn P w K mg base 1 "sees" ["web","i","j"] (zf K)):Fn P w K mg base 2 "is_ring" ["web","people"] (RS K):=by
 have zY:DS (aj mH) ["web","people","followers"] ["web","people"] ["len","set","all","zip"]:=aM;walk_at"hH";obtain⟨w,p,d,r,rfl,I,g,Z,Q,v,q⟩:=h;refine⟨_,(ae (bT (qD<|My (aL fq (cj S 0 (aA rfl) B.len mo<|aa<|kv S 1) aq<|ao _)<|v3<|aL fq (cj S 0 wk B.len mo<|aa<|iG S 1 (CJ hc rfl) B.set boot_set<|aa<|kv S 1) (cj S 0 (aA rfl) B.len mo<|aa<|kv S 1)<|ao _) (ai<|aG yp) aw)
   (ae (bo S 2<|aN (iN rfl) (jz (jo rfl) (kv S 1) (aY aq) bg)<|jz (jo rfl) (kv S 1) bg<|aY aq)
   (ai (aG (cj S 2 (cP hc rfl) B.all boot_all (aa (iD S hc hsc (SW false false S 3 B.zip rfl<|ah (kv S 1)<|aa<|kv S 2) (N:=["i","j","web"]) (W:=["i","j"]) (G:=["sees"]) (fv:=[none,none,some 0]) Dk0 λY C fp s H i=>⟨(kZ rfl (K:=X.K) (n:=2) rfl<|aQ (kg i 0)<|aQ (kg i 1) cQ),bp,(bZ i 0 Az hr<|ah (kv i 2)<|ah (kv i 0)<|aa<|kv i 1)⟩))))))),?_⟩
 cbv;refine aR (.inr g) ?_;rw[b5,ak];cbv;refine bu (λc=>?_) λc=>?_
 ·rw[show false=jK d r by unfold jK;rw[cv (show ¬2<=r.length by omega)];rfl]
  exact q _<|ag.refl _
 refine⟨p,aE r,rfl,.inr g,by rw[ak];omega,λs T=>?_⟩
 have l:=ag.new T (.set (λj=>(jB (aE r) (aE r).length).any (· == j))<|unlike<|aE r);refine⟨s,_,_,rfl,af,?_⟩;generalize upd H s _=H1 at l ⊢;refine aR (.inr<|l.aO g) ?_;rw[b5,ak];cbv
 by_cases o:r.Nodup
 ·rw[if_neg (by rw[CL (sy o),ak];omega)]
  refine tZ 0 (l.aO g) rfl (by rw[ak];omega) λa R=>?_
  have F:=ag.new R<|.tup<|((aE r).drop<|0+1).map V.int;refine tY 1 ((l.trans F).aO g) rfl (by rw[ak];omega) λb hb=>?_
  have E:=ag.new hb<|.tup<|((aE r).take 1).map V.int;refine t9 (ns:=(aE r).drop 1) (ms:=(aE r).take 1) (aP.of<|E _ _ af) (aP.of af) (cw (by rw[q5,rr,ak];omega)) λf J O t=>?_
  have t:aP X.K J f ((aE<|qG r).map V.int):=by
   unfold qG;rw[eA,<-wm,<-Gh];exact t
  have x:=((l.trans F).trans E).trans O;cbv;refine PL _ (λk=>.bl<|fC d (r.getD k 0)<|(qG r).getD k 0) (x.aO g) t (ey _) (by rw[ak,ak,Gk (by omega)];exact ey _) (.inl<|ey _) (by rw[ak];exact aC (by omega)) ?_ ?_
  ·intro k U A hk e L;rw[ak]at hk;rw[aZ,aZ];cbv;exact⟨w,d,r.getD k 0,(qG r).getD k 0,rfl,(x.trans e).aO I,v _<|ez hk,L _<|ag.refl _⟩
  ·intro u U M e m;refine⟨u,(List.range r.length).map λk=>fC d (r.getD k 0)<|(qG r).getD k 0,rfl,ay.of (by rw[m,ak,kb];rfl),?_⟩
   rw[CN,show((List.range r.length).all λk=>fC d (r.getD (ahead r.length k) 0)<|r.getD k 0)=jK d r by unfold jK;rw[ed (show 2<=r.length by omega),ed o];rfl]
   exact q _<|x.trans e
 ·have y:=CO λz=>o<|qH.mp z;rw[ak]at y;rw[if_pos (by omega),show false=jK d r by unfold jK;rw[cv o,qm,M8]]
  exact q _ l
def Ip(B:Bn mg)(D:Def K mg "shown_book" ie)(jg:Fn P w K mg base 1 "places" ["mask"] k9):Fn P w K mg base 2 "shown_book" ["book"] (xi K):=by
 have zY:DS (aj ie) ["book","names","rows","i","mask","seen"] ["book"] ["zip","enumerate","places"]:=aM;walk_at"hH";obtain⟨t,a,b,d,rfl,⟨a1,a2,a3,h0,h1,_,h2,h3⟩,P,q⟩:=h;have h8:=P.nm.eD;refine⟨_,(ae (bo S 1<|kK<|kv S 0)
   (ae (Ee (i:=2) S hc hsc (SW false false S 0 B.zip rfl<|ah (kv S 1)<|aa<|kK<|kv S 0) (N:=["name","count"]) (W:=["name","count"]) (G:=[]) (fv:=[none,none]) Dk0 (λcl C fp s H m=>⟨(kZ rfl (K:=X.K) (n:=2) rfl<|aQ (kg m 0)<|aQ (kg m 1) cQ),bp,(MU<|hJ aU<|hJ (K5<|kv m 0)<|hJ aU<|hJ (K5<|kv m 1) Hb)⟩) (by rw[hsc];decide +kernel) (by rw[c9,hsc];rfl))
   (ae (eY hxe hc (Dv false S 1 B.enumerate rfl<|aa<|kK<|kv S 0) (kZ hc (K:=X.K) (n:=2) rfl<|aQ (kg S 3)<|aQ (kg S 4) cQ) (ai (bT (aL kn (kv S 4) aq<|ao _) (ae (Ee (i:=5) S hc hsc (cC (bZ S 2 jg hr<|aa<|kv S 4) rfl) (N:=["j","names"]) (W:=["j"]) (G:=[]) (fv:=[none,some 1]) Dk0 (λcl C fp s H m=>⟨(kg m 0),bp,(j3 (dJ rfl) (kv m 1) (kv m 0) λ_ _=>rfl)⟩) (by rw[hsc];decide +kernel) (by rw[c9,hsc];rfl))
   (ai<|dw<|gU qo oD p4 bH rfl (kv S 2)<|aa<|gU ro Do Gc (bC rfl) rfl aU<|aa<|aN (bW rfl) (dc<|ah aU<|aa<|P6 (kv S 1)<|kv S 3)<|kv S 5)) aw)))
   (ai<|aG<|gU ro Do Gc (bC rfl) rfl aU<|aa<|kv S 2)))),?_⟩
 walk_at"i";refine br (i:=((0:Nat):Int)) h0 (ax rfl) ?_;have h1000:(1000:Nat)<=sizeLine:=by decide
 have el:("hat ":Str).length=4:=by decide +kernel
 have u:(" ":Str).length=1:=by decide +kernel
 have I:∀k,k<a.length->bq (a.getD k aX)=true/\(a.getD k aX).length<=12/\(Str.ofString<|toString ((b.getD k 0:Nat):Int)).length<=30/\((b.getD k 0:Nat):Int).natAbs.log2<1920:=λk hk=>by
  have Q:bq (a.getD k aX)=true/\0<b.getD k 0/\b.getD k 0<10 ^ 30:=pH P hk;refine⟨Q.1,(cF Q.1).2.2,fi (di Q.2.1 Q.2.2).1,?_⟩;rw[Vn];exact(log2_lt (by omega)).mpr (VG Q.2.2 Dk0)
 walk_at"i";refine br (i:=((1:Nat):Int)) h0 (ax rfl) ?_;refine SY (λk=>.str<|dY a b<|.dG k) h1 h2 (by rw[b5,b5,ak,P.lc]) (by rw[b5];exact aC (by show a.length<=_;omega)) ?_ ?_
 ·intro k H1 A hk hS hA;rw[b5]at hk;rw[show(a.map V.str).getD k .bA=.str (a.getD k aX) by rw[b4,aT hk];rfl,dB (by rw[P.lc];exact hk)]
  obtain⟨f1,f2,f3,f4⟩:=I k hk;lia;have M:(Str.empty++("hat ":Str)).length=4:=by decide +kernel
  refine⟨_,rfl,by rw[M];omega,?_⟩
  refine .inl ⟨_,rfl,by omega,_,rfl,by rw[av,M];omega,?_⟩
  lia;refine⟨_,rfl,by rw[av,av,M,u];omega,?_⟩
  refine .inr ⟨_,rfl,f4,_,rfl,by rw[av,av,av,M,u];omega,?_⟩
  lia;refine⟨by rw[av,av,av,M,u];omega,?_⟩
  have e0:Str.empty++("hat ":Str)=("hat ":Str):=by decide +kernel
  rw[e0,lr];exact hA _<|ag.refl _
 intro r H1 hr0 s1 g;rw[b5]at g;have g:H1 r=some (.lst<|((BJ a d 0).map<|dY a b).map V.str):=by
  rw[g];unfold BJ;rw[range_zero,List.filter_nil,map_nil,Vj,kb,kb];rfl
 have hrn:H r=none:=hr0;walk_at"i";refine br (i:=((2:Nat):Int)) (s1.aO h0) (ax rfl) ?_;refine Nq (Sn H t a1 r a b d) (s1.aO h3) ⟨_,_,_,rfl,s1,g⟩ (λk σ H' h=>by obtain⟨y3,y4,y5,_,s,_⟩:=h;exact s.aO h3) ?_ ?_
 ·rintro k σ H2 H3 hk ⟨y3,y4,y5,rfl,s2,l⟩ s3;rw[ak,P.lw]at hk;rw[aZ];have L:=s2.trans s3;have Y:=s3 _ _ l;have hsl:(BJ a d k).length<=90:=by
   unfold BJ
   have:=ya (λi=>decide<|d.getD i 0≠0)<|List.range k
   rw[j6]at this;rw[eR,b5,b5,j6]
   omega
  lia;refine bu (λc=>?_) λc=>?_
  ·have c':d.getD k 0≠0:=by simpa using c
   walk_at"i";have hw8:2 ^ a.length<=2 ^ 8:=qc a_ h8
   have hwl:=P.Tt k hk;refine⟨_,rfl,by omega,λpl H4 t4 hpl0 f=>?_⟩
   rw[K7 hwl]at f;have e:=ou P hk (List.Perm.refl _)<|(wY P hk).mpr c';generalize p:iF a.length (d.getD k 0)=bt at f e ⊢;have hbl8:bt.length<=a.length:=by
    rw[<-p];unfold iF
    have:=ya (λj=>decide<|d.getD k 0 / 2 ^ j%2=1)<|List.range a.length
    rw[j6]at this;exact this
   have hbm:∀j∈bt,j<a.length:=λj hj=>by
    rw[<-p]at hj;exact(jt.mp hj).1
   have s4:=L.trans t4;refine⟨pl,rfl,⟨_,ay.of f⟩,qF (bV<|ay.of f) (λ_=>true) (λi=>.str<|a.getD (bt.getD i 0) aX) (by rw[b5,ak];exact aC (by omega)) ?_ ?_⟩
   ·intro i H5 A B' hi hS hA _;rw[b5,ak]at hi;rw[dB hi];lia;refine br (hS.aO<|s4.aO h1) (ax<|aT<|hbm _<|dC hi) ?_;exact hA rfl _<|ag.refl _
   intro nl H5 hnl0 s5 Z;rw[bE,b5,ak,cL λj=>V.str<|a.getD j aX]at Z;have O:=s4.trans s5;have J:=s5 _ _<|t4 _ _ Y;lia;refine⟨.inl ⟨rfl,_,ay.of J⟩,rfl,?_⟩;refine br (O.aO h1) (ax<|aT hk) ?_;refine⟨a_,λp7 hp7=>?_⟩
   have U:=ag.new hp7<|.lst [V.str ("sees":Str),V.str<|a.getD k aX];refine⟨p7,nl,_,_,rfl,rfl,ay.of af,ay.of<|U _ _ Z,by rw[b5];exact cw (by show 2+_<=100;omega),λp8 hp8=>?_⟩
   have sp8:=ag.new hp8<|.lst<|[V.str ("sees":Str),V.str<|a.getD k aX]++bt.map λj=>V.str<|a.getD j aX;have e8:([V.str ("sees":Str),V.str<|a.getD k aX]++bt.map λj=>V.str<|a.getD j aX)=(lM<|fk a b<|.sees k bt).map V.str:=by
    show _=[V.str ("sees":Str),V.str<|a.getD k aX]++(bt.map λj=>a.getD j aX).map V.str;rw[kb];rfl
   have T:=g9 e;have hlt:=fe e;have o:=dN 30 (lM<|fk a b<|.sees k bt) λy hy=>(T.1 y hy).2.2;have h41:(lM<|fk a b<|.sees k bt).length*31<=41*31:=sU _ T.2.1;have h2000:(2000:Nat)<=sizeLine:=by decide
   refine⟨_,p8,lM<|fk a b<|.sees k bt,rfl,rfl,ay.of (by rw[af,e8]),?_,?_,?_⟩
   ·rw[aW];show((lM<|fk a b<|.sees k bt).map λz=>z.length+1).sum<=_
    omega
   ·rw[aW]
    have:(lu<|fk a b<|.sees k bt).length=(Str.join ⟨#[32]⟩<|lM<|fk a b<|.sees k bt).length:=rfl
    omega
   rw[aW];have sA:=U.trans sp8;refine⟨r,_,_,rfl,rfl,sA _ _ J,by rw[b5,b5];exact cw (by omega),?_⟩
   refine⟨_,_,_,rfl,(O.trans sA).set hrn _,?_⟩;rw[af,ly,if_pos c',p,hI,hI];rfl
  ·have c':¬d.getD k 0≠0:=by simpa using c
   refine⟨_,_,_,rfl,L,?_⟩;rw[ly,if_neg c'];exact Y
 rintro σ2 H2 ⟨y3,y4,y5,rfl,s2,l⟩;rw[ak,P.lw]at l;lia;have hM:=cU P;have hML:(bh a d).length<=16:=hU fm (by omega)
 have en:("\n":Str)=⟨#[10]⟩:=by decide +kernel
 have v:=hM.lx P;have emm:(bh a d).map (dY a b)=((bh a d).map<|fk a b).map lu:=by rw[kb];rfl
 have R:((bh a d).map<|fk a b).length<=100:=by rw[b5];omega
 have hbl:=fj v R;have o:=dN 1271 ((bh a d).map<|dY a b) λy hy=>by
  obtain⟨x,hx,rfl⟩:=kc.mp hy;exact fe<|hM.pI P x hx
 rw[b5]at o;have h16:(bh a d).length*1272<=16*1272:=sU _ hML;have hbig:(1000000:Nat)<=sizeLine:=by decide
 have E:Str.join ⟨#[10]⟩ ((bh a d).map<|dY a b)=dO ((bh a d).map<|fk a b):=by rw[emm];rfl
 refine⟨rfl,_,r,(bh a d).map<|dY a b,rfl,rfl,ay.of l,?_,?_,?_⟩
 ·rw[en];show(((bh a d).map<|dY a b).map λz=>z.length+1).sum<=_
  omega
 ·rw[en,E];omega
 rw[en,E];exact q H2 s2
def Tc(D:Def K mg "greatest_divisor" dm):Fn P w K mg base 1 "greatest_divisor" ["a","b"] MD:=by
 have zY:DS (aj dm) ["a","b","rest"] ["a","b"] []:=aM;walk_at"hH";obtain⟨m,n,rfl,q⟩:=h;refine⟨_,(ae (yZ hxe (aL kn (kv S 1) aq<|ao _) (ae (bo S 2<|aN bO (kv S 0)<|kv S 1)
   (ae (bo S 0<|kv S 1)
   (ai<|bo S 1<|kv S 2))))
   (ai<|aG<|kv S 0)),?_⟩
 cbv;refine Ka (Rz H (Nat.gcd m n) [none]) UM ⟨rfl,m,n,_,rfl,rfl,rfl⟩ ?_;rintro σ f ⟨e,b,a,y,rfl,hy,d⟩;obtain⟨z,rfl⟩:=Ui hy;rw[e];cbv;refine bu (λc=>?_) λc=>?_
 ·have hn:a≠0:=by simpa using c
  refine Kb (Pv:=Rz H (Nat.gcd m n) [none]) (μ:=UM) ?_;cbv;rw[Uj];refine⟨by omega,⟨rfl,a,b%a,_,rfl,rfl,by rw[FK];exact d⟩,?_⟩
  show((b%a:Nat):Int).toNat<((a:Nat):Int).toNat
  have:=mod_lt b (show a > 0 by omega)
  omega
 ·have hn:a=0:=by simpa using c
  subst hn;rw[Nat.gcd_zero_right]at d;subst d;exact q
def Iq(D:Def K mg "share" uV)(kF:Fn P w K mg base 1 "greatest_divisor" ["a","b"] MD):Fn P w K mg base 2 "share" ["counts"] (uc K):=by
 have zY:DS (aj uV) ["counts","over","under","count","divisor"] ["counts"] ["greatest_divisor"]:=aM;walk_at"hH";obtain⟨p,b,rfl,d,a,q⟩:=h;refine⟨_,(ae (bo S 1 aq)
   (ae (bo S 2 aq)
   (ae (eY hxe hc (dW (kv S 0) rfl) (kg S 3) (ae (bo S 1<|aN aH (aN dH (kv S 1)<|kv S 3)<|kv S 2)
   (ai<|bo S 2<|aN dH (kv S 2)<|kv S 3)))
   (ae (bo S 4<|bZ S 0 kF hr<|ah (kv S 1)<|aa<|kv S 2)
   (ai<|aG<|qC<|ah (aN c7 (kv S 1)<|kv S 4)<|aa<|aN c7 (kv S 2)<|kv S 4))))),?_⟩
 cbv;refine Kh (Uk H p b) d ⟨rfl,none,rfl⟩ (λi σ f h=>by rw[h.1];exact d) ?_ ?_
 ·rintro i σ f hi ⟨c,y,rfl⟩;rw[c];cbv;have hb:=(a.get hi).bt;refine⟨(a.take i).RB.ok hb (by omega),(a.take i).CG.ok hb (by omega),rfl,some<|.int<|b.getD i 0,?_⟩
  rw[take_snoc 0 hi,CF (a.get hi).lo,tW]
 ·rintro σ f ⟨c,y,rfl⟩;rw[c,L1];cbv;refine⟨(dg (pr b) b).toNat,(pr b).toNat,by rw[toN a.RA,toN (show 0<=pr b by have:=a.jI;omega)],?_⟩
  cbv;have j:=za a;have e:(0:Int)<(gC b:Int)/\((gC b:Int)).natAbs.log2<9000:=⟨by omega,(RE a).log (by omega) a_⟩
  exact⟨e,e,a_,λt g=>q t _ (ag.new g _) af⟩
def LH(D:Def K mg "sure" Ah)(vg:Fn P w K mg base 2 "share" ["counts"] (uc K)):Fn P w K mg base 3 "sure" ["counts"] (FY K):=by
 have zY:DS (aj Ah) ["counts","told"] ["counts"] ["share"]:=aM;walk_at"hH";obtain⟨p,c,rfl,d,a,q⟩:=h;refine⟨_,(ae (bo S 1<|bZ S 0 vg hr<|aa<|kv S 0)
   (ai<|aG<|aN c7 (kK<|kv S 1)<|kK<|kv S 1)),?_⟩
 cbv;refine⟨p,c,rfl,d,a,λt e f b=>?_⟩;cbv;refine br (aP.of b) (i:=0) rfl ?_;refine br (aP.of b) (i:=1) rfl ?_;cbv;refine⟨⟨by have:=o9 a;omega,(FX a).log (by have:=o9 a;omega) a_⟩,?_⟩
 rw[OY a];exact q e f
def DG(B:Bn mg)(D:Def K mg "picked" pX):Fn P w K mg base 1 "picked" ["values","people"] (pz K):=by
 have zY:DS (aj pX) ["values","people"] ["values","people"] ["tuple"]:=aM;walk_at"hH";obtain⟨c,p,m,l,rfl,g,n,d,y,q⟩:=h;refine⟨_,(ai (aG (iG S 0 (dv rfl) B.tuple SC (aa (iD S hc hsc (dW (kv S 1) rfl) (N:=["i","values"]) (W:=["i"]) (G:=[]) (fv:=[none,some 0]) Dk0 λz C E s H b=>⟨(kg b 0),bp,(j3 (dJ rfl) (kv b 1) (kv b 0) λ_ _=>rfl)⟩))))),?_⟩
 cbv;refine TL (λ_=>true) (λk=>m.getD (l.getD k 0) 0) n (by rw[ak];exact aC (by omega)) ?_ ?_
 ·intro k H1 A F hk r u _;rw[ak]at hk;rw[aZ];cbv;exact dM (r.aO g) rfl (d _<|ez hk)<|u rfl _<|ag.refl _
 ·intro f H1 v j a;rw[bE,ak]at a;have e:((List.range l.length).map λk=>m.getD (l.getD k 0) 0)=pk m l:=by
   unfold pk
   apply ext_getElem
   ·simp
   ·intro i h1 o
    simp at h1 o
    simp[h1]
  rw[e]at a;exact⟨f,_,rfl,.inl ⟨ay.of a,λt x=>q t _ (j.trans<|ag.new x _) af⟩⟩
def Ir(D:Def K mg "group_sure" ib)(lJ:Fn P w K mg base 1 "picked" ["values","people"] (pz K))(Qi:Fn P w K mg base 3 "sure" ["counts"] (FY K)):Fn P w K mg base 4 "group_sure" ["counts","kind","people"] (Bx K):=by
 have zY:DS (aj ib) ["counts","kind","people"] ["counts","kind","people"] ["sure","picked"]:=aM;walk_at"hH";obtain⟨c,p,m,g,rfl,a,i,d,f,q⟩:=h;refine⟨_,(ae (bT (aL aD (kv S 1) aU<|ao _) (ai<|aG aq) aw)
   (ai<|aG<|bZ S 0 Qi hr<|aa<|bZ S 1 lJ hr<|ah (kv S 0)<|aa<|kv S 2)),?_⟩
 cbv;obtain⟨b,l⟩:=g;have e:decide (kd b="ring")=b:=ui b;simp only[mE,vV,e];unfold sF at q
 cases b with
 |true=>
  cbv;exact q _<|ag.refl _
 |false=>
  cbv;refine⟨c,p,m,l,rfl,a,i,f.lt,f.len,λt H1 o n=>?_⟩;exact⟨t,_,rfl,aP.of n,MJ d f,λr j=>q _<|o.trans j⟩
def LJ(B:Bn mg)(D:Def K mg "made_sure" iY)(vh:Fn P w K mg base 4 "group_sure" ["counts","kind","people"] (Bx K)):Fn P w K mg base 5 "made_sure" ["counts","groups"] (zj K):=by
 have zY:DS (aj iY) ["counts","groups"] ["counts","groups"] ["sum"]:=aM;walk_at"hH";obtain⟨c,g,j,M,L,rfl,d,F,y,e,o,m,q⟩:=h;refine⟨_,(ai (aG (cj S 0 (dq hc rfl) B.sum boot_sum (aa (iD S hc hsc (dW (kv S 1) rfl) (N:=["kind","people","counts"]) (W:=["kind","people"]) (G:=["group_sure"]) (fv:=[none,none,some 0]) Dk0 λI C J s H a=>⟨(kZ rfl (K:=X.K) (n:=2) rfl<|aQ (kg a 0)<|aQ (kg a 1) cQ),bp,(bZ a 0 vh hr<|ah (kv a 2)<|ah (kv a 0)<|aa<|kv a 1)⟩))))),?_⟩
 cbv;refine S8 (λg=>.int<|sF j g) F y (aC (by omega)) ?_ ?_
 ·intro i l p H1 A hi x r z;cbv;exact⟨c,p,j,l,rfl,x.aO d,r,e,o l<|fA hi,λv t=>z v t⟩
 ·intro u H1 E f b;exact o8 (ns:=L.map<|sF j) (ay.of (by rw[b,kb];rfl))<|q H1 f
def pZ(B:Bn mg)(D:Def K mg "first_ready" f7):Fn P w K mg base 1 "first_ready" ["web","laid"] (O5 K):=by
 have zY:DS (aj f7) ["web","laid","i","mask"] ["web","laid"] ["enumerate"]:=aM;walk_at"hH";obtain⟨w,ws,laid,rfl,l,s,q⟩:=h;refine⟨_,(ae (eY hxe hc (Dv false S 0 B.enumerate rfl<|aa<|kv S 0) (kZ hc (K:=X.K) (n:=2) rfl<|aQ (kg S 2)<|aQ (kg S 3) cQ)<|ai<|bT (qD<|j4 (aL aD (aN ee (aN yw (kv S 1)<|kv S 2) aq) aq<|ao _)<|gE<|aL aD (aN AZ (kv S 3)<|kv S 1) (kv S 1)<|ao _) (ai<|aG<|kv S 2) aw)
   (ai<|aG lY)),?_⟩
 cbv;refine Nq (MG H w ws laid) l ⟨ag.refl _,(λj hj=>absurd hj<|VE j),none,none,rfl⟩ (λk σ t h=>h.1.aO l) ?_ ?_
 ·rintro k σ H1 m hk ⟨f,a,p,o,rfl⟩ c;rw[ak]at hk;rw[aZ];cbv;refine⟨by omega,?_⟩
  have e:=lZ (ws:=ws) (laid:=laid) (i:=k);have next:ready ws laid k=false->MG H w ws laid (k+1) [some (.ref w),some<|.int laid,some<|.int k,some<|.int (ws.getD k 0:Nat)] m:=λr=>by
   refine⟨f.trans c,λj hj=>?_,_,_,rfl⟩
   by_cases g:j=k
   ·rw[g];exact r
   ·exact a j (by omega)
  by_cases b:laid.testBit k=true
  ·rw[b];cbv;exact next (by unfold ready;rw[b];rfl)
  ·have b:laid.testBit k=false:=by simpa using b
   rw[b];cbv
   by_cases d:ws.getD k 0|||laid=laid
   ·rw[if_pos d];refine(q m<|f.trans c).2 k (find_some a ?_ hk);unfold ready;rw[b,ed d];rfl
   ·rw[if_neg d];refine next ?_;unfold ready;rw[b,cv d];rfl
 ·rintro σ H1 ⟨f,a,p,o,rfl⟩;cbv;rw[ak]at a;exact(q H1 f).1 (find_none a)
def xD(D:Def K mg "laid_out" kq)(jR:Fn P w K mg base 1 "first_ready" ["web","laid"] (O5 K)):Fn P w K mg base 2 "laid_out" ["web"] (O6 K):=by
 have zY:DS (aj kq) ["web","order","laid","i"] ["web"] ["first_ready"]:=aM;walk_at"hH";obtain⟨w,c,rfl,z,t,q⟩:=h;refine⟨_,(ae (bo S 1<|dc bI)
   (ae (bo S 2 aq)
   (ae (bo S 3<|bZ S 0 jR hr<|ah (kv S 0)<|aa<|kv S 2)
   (ae (yZ hxe (aL wj (kv S 3) lY<|ao _) (ae (dw<|gU qo oD p4 bH rfl (kv S 1)<|aa<|kv S 3)
   (ae (bo S 2<|aN AZ (kv S 2)<|aN cT aq<|kv S 3)
   (ai<|bo S 3<|bZ S 0 jR hr<|ah (kv S 0)<|aa<|kv S 2))))
   (ai<|aG<|kv S 1))))),?_⟩
 cbv;refine⟨a_,λl r=>?_⟩
 have v:=ag.new r<|.lst [];have x:∀(laid:Nat) (H1:Hp) (R:q_),ag H H1->(∀g,ag H1 g->R (MH c laid) g)->O5 X.K [.ref w,.int laid] H1 R E0:=λlaid H1 R A u=>by
  refine⟨w,c,laid,rfl,A.aO z,t,λg a=>⟨λe=>?_,λi e=>?_⟩⟩
  ·have:=u g a
   unfold MH at this;rw[e]at this;exact this
  ·have:=u g a
   unfold MH at this;rw[e]at this;exact this
 refine x 0 _ _ v λH1 n=>?_;cbv;refine Br (RM H w l c) (c.length+1) ⟨[],0,rfl,v.trans n,n _ _ af,Laid.nil c,rfl,by simp⟩ ?_
 rintro f σ g ⟨order,laid,rfl,a,d,s,b,o⟩;have y:=cE s.nd s.lt
 cases e:bP c laid with
 |none=>
  have p:MH c laid=.bA:=by unfold MH;rw[e]
  rw[p];cbv;refine q l g a r ?_;rw[<-b,we e];exact d
 |some i=>
  have p:MH c laid=.int i:=by unfold MH;rw[e]
  obtain⟨hi,_⟩:=iw e;rw[p];cbv;refine Bs ?_;cbv;refine⟨.inl ⟨rfl,_,ay.of d⟩,?_⟩;refine⟨l,_,.int i,rfl,rfl,d,by rw[b5,ak];exact aC (by omega),?_⟩
  cbv;refine⟨eI (by omega),?_⟩
  have m:=a.set r<|.lst<|(aE order).map V.int++[.int i];refine x _ _ _ m λB j=>?_;cbv
  match f,b,o with
  |0,_,o=>exact absurd o (by omega)
  |f+1,b,o=>
   refine⟨f,VM f,order++[i],_,rfl,m.trans j,?_,s.put e,?_,?_⟩
   ·rw[j _ _ af,eA,hI];rfl
   ·rw[<-b,v9 e]
   ·rw[eR];show c.length<f+(order.length+1);omega
def qO(B:Bn mg)(D:Def K mg "first_seen" h7)(Az:Fn P w K mg base 1 "sees" ["web","i","j"] (zf K)):Fn P w K mg base 2 "first_seen" ["web","i","people"] (Nx K):=by
 have zY:DS (aj h7) ["web","i","people"] ["web","i","people"] []:=aM;walk_at"hH";obtain⟨w,l,d,left,i,rfl,m,o,hi,t,⟨y,g,f⟩,q⟩:=h;refine⟨_,(ai (aG (j3 (cB rfl) (iD S hc hsc (cC (kv S 2) rfl) (N:=["j","web","i"]) (W:=["j"]) (G:=["sees"]) (fv:=[none,some 0,some 1]) Dk0 λu C v s H b=>⟨(kg b 0),(fu<|jA<|bZ b 0 Az hr<|ah (kv b 1)<|ah (kv b 2)<|aa<|kv b 0),(kv b 0)⟩) aq λ_ _=>rfl))),?_⟩
 cbv;refine Uh (λk=>fC d i<|left.getD k 0) (λk=>((left.getD k 0:Nat):Int)) o (by rw[ak];exact aC (by omega)) ?_ ?_
 ·intro k H1 A x hk e p r;rw[ak]at hk;rw[aZ];cbv;refine⟨w,d,i,left.getD k 0,rfl,e.aO m,hi,?_⟩;cbv
  by_cases c:fC d i (left.getD k 0)=true
  ·rw[c];cbv;exact p c _<|ag.refl _
  ·have c:fC d i (left.getD k 0)=false:=by simpa using c
   rw[c];cbv;exact r c _<|ag.refl _
 ·intro n H1 hn e a;rw[xb left (λj=>fC d i j)]at a;refine cq (k:=0) (ay.of a) rfl (by rw[ak];exact length_pos_of_mem<|rz.mpr ⟨g,f⟩) ?_
  rw[aZ];exact q H1 e
def p0(B:Bn mg)(D:Def K mg "sight_ring" ia)(kG:Fn P w K mg base 2 "laid_out" ["web"] (O6 K))(vi:Fn P w K mg base 2 "first_seen" ["web","i","people"] (Nx K)):Fn P w K mg base 3 "sight_ring" ["web"] (Ab K):=by
 have zY:DS (aj ia) ["web","order","left","path","i"] ["web"] ["laid_out","range","len","first_seen","tuple"]:=aM;walk_at"hH";obtain⟨w,d,rfl,hw,hl8,bf,q⟩:=h;have hL8:=Gj d;refine⟨_,(ae (bo S 1<|bZ S 0 kG hr<|aa<|kv S 0)
   (ae (Ee (i:=2) S hc hsc (gW S 1 B.range<|aa<|cj S 2 (aA rfl) B.len mo<|aa<|kv S 0) (N:=["i","order"]) (W:=["i"]) (G:=[]) (fv:=[none,some 1]) Dk0 (λcl C fp s H S2=>⟨(kg S2 0),(fu (aL (et rfl) (kv S2 0) (kv S2 1) (by with_unfolding_all rfl))),(kv S2 0)⟩) (by rw[hsc];decide +kernel) (by rw[c9,hsc];rfl))
   (ae (bT (aL (lW hu rfl) (kv S 2) (dc bI)<|ao _) (ai<|aG lY) aw)
   (ae (bo S 3<|dc bI)
   (ae (bo S 4<|bS<|kv S 2)
   (ae (yZ hxe (aL (et rfl) (kv S 4) (kv S 3) (by with_unfolding_all rfl)) (ae (dw<|gU qo oD p4 bH rfl (kv S 3)<|aa<|kv S 4)
   (ai<|bo S 4<|bZ S 3 vi hr<|ah (kv S 0)<|ah (kv S 4)<|aa<|kv S 2)))
   (ai<|aG<|iG S 4 (g4 rfl) B.tuple SC<|aa<|jz (cp rfl) (kv S 3) (aY<|gU qo Vp type_list_index (CI rfl) rfl (kv S 3)<|aa<|kv S 4) bg))))))),?_⟩
 cbv;refine⟨w,d,rfl,hw,hl8,λl H1 aF _ hl=>?_⟩;cbv;refine aR (.inr<|aF.aO hw) ?_;rw[b5,ak];refine Ry d.length (λi=>!decide (i∈laidOut d)) (λi=>(i:Int)) rfl (by omega) ?_ ?_
 ·intro k H2 A B' hk hS hA hB;cbv;refine Bq (.inl<|ay.of<|hS _ _ hl) ?_;cbv
  by_cases c:k∈laidOut d
  ·rw[ed c];cbv;exact hB (by rw[ed c];rfl) _<|ag.refl _
  ·rw[cv c];cbv;exact hA (by rw[cv c];rfl) _<|ag.refl _
 intro T H2 hn2 hS2 n;have n:H2 T=some (.lst<|(aE<|cf d).map V.int):=n;have p:=aF.trans hS2;cbv;refine⟨a_,λe he=>?_⟩
 have Y:=ag.new he<|.lst [];refine⟨_,_,.lst (ay.of<|Y _ _ n)<|dI.ints _,.lst (ay.of af) .nil,kY _,a_,?_⟩
 rw[show([]:List PyData)=([]:e_).map PyData.int from rfl,F0]
 cbv;refine bu (λc=>?_) λc=>?_
 ·have:cf d=[]:=Kq.mp c
  exact(q _<|p.trans Y).1 (wq.mp this)
 ·have Z:cf d≠[]:=λz=>c (by rw[z];rfl)
  have hlt:(laidOut d).length<d.length:=vr λz=>Z<|wq.mpr z;refine⟨a_,λL E=>?_⟩
  have sp:=Y.trans<|ag.new E<|.lst [];have u:0<(cf d).length:=FM.mpr Z;refine cq (k:=0) (ay.of<|sp _ _ n) rfl (by rw[ak];exact u) ?_
  rw[aZ];have h0:(cf d).getD 0 0∈cf d:=by
   rw[b4,cc u];exact pS u
  cbv;have O:H L=none:=(p.trans Y).free E;have v:∀j∈cf d,j<d.length:=λj hj=>(gH.mp hj).1;refine Br (PV X.K H w l T L d) _ ⟨[],_,rfl,p.trans sp,ay.of<|sp _ _ n,af,Path.nil h0,rfl,rfl⟩ ?_;rintro m σ H3 ⟨a,i,rfl,Q,M,f,J,rfl,hg⟩;have hplen:=cE J.nd λj hj=>v j<|J.sub j hj;cbv;refine Bq (.inl<|ay.of f) ?_;cbv
  by_cases y:i∈a
  ·rw[ed y];cbv;refine⟨.inl ⟨rfl,_,ay.of f⟩,L,aE a,i,rfl,rfl,ay.of f,og.mpr y,?_⟩;cbv;refine Ki (a.idxOf i) (ay.of f) (by rw[Bp]) λb hb=>?_
   rw[wm];have sb:=ag.new hb<|.lst<|(aE<|a.drop<|a.idxOf i).map V.int;refine⟨b,_,rfl,ay.of af,λt o ht hoc hod=>?_⟩;have er:a.drop (a.idxOf i)=nB d:=by rw[<-hg,Lw (by omega) y]
   have hR:=J.ring bf v y;rw[er]at hR sb ht ⊢;exact(q _<|(Q.trans sb).trans<|ag.new ht _).2 hlt t o af hoc hod hR
  ·rw[cv y];cbv;refine Bs ?_;have hi:=v i J.here;obtain⟨j,az,U,R⟩:=CH bf hi (gH.mp J.here).2;cbv;refine⟨.inl ⟨rfl,_,ay.of f⟩,?_⟩;refine⟨L,_,.int i,rfl,rfl,f,by rw[b5,ak];exact aC (by omega),?_⟩
   have ab:=Q.set O<|.lst<|(aE a).map V.int++[.int i];have r:ay X.K (upd H3 L<|.lst<|(aE a).map V.int++[.int i]) T ((aE<|cf d).map V.int):=by
    have aV:T≠L:=bG (Y _ _ n) E
    rcases M with (z|⟨o,z⟩)|z
    ·exact .inl (.inl (by rw[aK aV];exact z))
    ·exact .inl (.inr ⟨o,by rw[aK aV];exact z⟩)
    ·exact .inr z
   refine⟨w,T,d,cf d,i,rfl,ab.aO hw,r,hi,by omega,⟨j,gH.mpr ⟨az,R⟩,U⟩,λH5 x=>?_⟩
   obtain⟨hk,aI⟩:=HW ⟨j,gH.mpr ⟨az,R⟩,U⟩;rw[show d.length+1-a.length=(d.length-a.length)+1 by omega,HX y]at hg
   generalize nA d (cf d) i=k at hk aI hg ⊢;cbv;have I:=J.put y hk aI;have g:=cE I.nd λj hj=>v j<|I.sub j hj;rw[eR]at g;refine⟨d.length-(a++[i]).length,?_,a++[i],k,rfl,ab.trans x,x.seq r,?_,I,rfl,by rw[<-hg,eR];congr 1;show d.length+1-(a.length+1)=_;omega⟩
   ·rw[eR];simp at g ⊢;omega
   ·rw[x _ _ af,eA,hI];rfl
def p5(B:Bn mg)(D:Def K mg "sight_order" f9)(kG:Fn P w K mg base 2 "laid_out" ["web"] (O6 K)):Fn P w K mg base 3 "sight_order" ["web"] (RN K):=by
 have zY:DS (aj f9) ["web","order"] ["web"] ["laid_out","len","tuple"]:=aM;walk_at"hH";obtain⟨w,f,rfl,d,b,q⟩:=h;refine⟨_,(ae (bo S 1<|bZ S 0 kG hr<|aa<|kv S 0)
   (ae (bT (aL fq (cj S 1 (aA rfl) B.len mo<|aa<|kv S 1) (cj S 1 (aA rfl) B.len mo<|aa<|kv S 0)<|ao _) (ai<|aG lY) aw)
   (ai<|aG<|iG S 2 (dv rfl) B.tuple SC<|aa<|kv S 1))),?_⟩
 cbv;refine⟨w,f,rfl,d,b,λl H1 a _ e=>?_⟩;cbv;refine aR (.inl<|ay.of e) ?_;refine aR (.inr<|a.aO d) ?_;rw[b5,b5,ak,ak];cbv;refine bu (λc=>?_) λc=>?_
 ·exact(q H1 a).1 (by omega)
 ·exact⟨l,_,rfl,.inl ⟨ay.of e,λp g=>(q _<|a.trans<|ag.new g _).2 (by omega) p af⟩⟩
def DH(B:Bn mg)(D:Def K mg "sights_from" gk):Fn P w K mg base 1 "sights_from" ["web","people"] (SE K):=by
 have zY:DS (aj gk) ["web","people"] ["web","people"] ["tuple","enumerate"]:=aM;walk_at"hH";obtain⟨w,p,d,l,rfl,m,o,y,u,q⟩:=h;refine⟨_,(ai (aG (iG S 0 (dv rfl) B.tuple SC (aa (iD S hc hsc (Dv false S 1 B.enumerate rfl<|aa<|kv S 0) (N:=["i","mask","people"]) (W:=["i","mask"]) (G:=[]) (fv:=[none,none,some 1]) Dk0 (λz C E s H f=>⟨(kZ rfl (K:=X.K) (n:=2) rfl<|aQ (kg f 0)<|aQ (kg f 1) cQ),bp,(Ud (aL (yU rfl) (kv f 0) (kv f 2) (by with_unfolding_all rfl)) (kv f 1) aq)⟩)))))),?_⟩
 cbv;refine S0 (λ_=>true) (λi=>(((mx d l).getD i 0:Nat):Int)) m (by rw[ak];exact aC (by omega)) ?_ ?_
 ·intro i H1 A F hi r g _;rw[ak]at hi;rw[aZ];have e:=pN (l:=l) hi;cbv;refine Bq (a:=l) (.inl<|r.seq o) ?_
  by_cases c:i∈l
  ·rw[if_pos c]at e;rw[ed c];cbv;rw[<-e];exact g rfl _<|ag.refl _
  ·rw[if_neg c]at e;rw[cv c];cbv
   have:=g rfl _<|ag.refl _
   rw[e]at this;exact this
 ·intro j H1 I x b;rw[bE,ak]at b;have e:((List.range d.length).map λi=>(((mx d l).getD i 0:Nat):Int))=aE (mx d l):=by
   unfold aE;rw[<-gN d l]
   conv=>rhs;rw[<-nh (mx d l),kb]
   rfl
  rw[e]at b;exact⟨j,_,rfl,.inl ⟨ay.of b,λt v=>q t _ (x.trans<|ag.new v _)<|aP.of af⟩⟩
def Td{n:Nat}(h:n<=8):2 ^ n<=256:=hU (qc a_ h) a_
def Iu{cs:e_}{ws r:d_}{m:Nat}(hn:ws.length=cs.length)(h:Ring (mx ws<|Hz cs<|ba m) r):GG cs ws m (true,r):=by
 have a:∀x∈r,x<ws.length:=λx hx=>by have:=h.lt x hx;rwa [gN]at this
 have sees:∀k,k<r.length->fC (mx ws<|Hz cs<|ba m) (r.getD k 0) (r.getD ((k+1)%r.length) 0)=true:=λk hk=>by
  by_cases c:k+1=r.length
  ·rw[c,Nat.mod_self]
   have:=h.last
   rw[show r.length-1=k by omega]at this
   exact this
  ·rw[mod_eq_of_lt (by omega)]
   exact h.next k (by omega)
 have two:∀x∈r,x∈Hz cs (ba m):=λx hx=>by
  obtain⟨k,hk,e⟩:=C4 hx
  have:=sees k hk
  rw[b4,cc hk]at this;rw[show(some r[k]).getD 0=r[k]from rfl,e,uK<|a x hx,fz,ka]at this
  exact this.1
 have b:=h.two;refine⟨⟨λx hx=>by rw[<-hn];exact a x hx,h.nd,λ_=>⟨h.two,λx hx=>?_,λk hk=>?_⟩,(λe=>nomatch e)⟩,λz=>?_,(λe=>nomatch e),λx hx=>?_⟩
 ·have:=(rz.mp<|two x hx).2
  exact qN this
 ·have:=sees k hk
  rw[uK (a _<|qI hk),fz]at this;exact this.2
 ·have z:r=[]:=z;rw[z]at b;simp at b
 ·exact fI.mp (rz.mp<|two x hx).1
def qP(B:Bn mg)(D:Def K mg "lone_group" ic)(jg:Fn P w K mg base 1 "places" ["mask"] k9)(jh:Fn P w K mg base 1 "is_circle" ["web","people"] (O7 K))(il:Fn P w K mg base 3 "sight_ring" ["web"] (Nl K))(qW:Fn P w K mg base 1 "sights_from" ["web","people"] (SE K)):Fn P w K mg base 4 "lone_group" ["counts","web","crowd"] (SF K):=by
 have zY:DS (aj ic) ["counts","web","crowd","people","twos","ring"] ["counts","web","crowd"] ["tuple","places","is_circle","sight_ring","sights_from"]:=aM;walk_at"hH";obtain⟨c,w,u,Q,m,rfl,hcq,O,M,hn,bf,hm0,hm,q⟩:=h;have h8:=M.len;have hmb:m<256:=j5 hm<|Td h8;have f:∀x∈ba m,x<u.length:=λx hx=>mw hm<|fI.mp hx;have Y:(ba m).length<=8:=hU (cE (dj m) f) h8;refine⟨_,(ae (bo S 3<|iG S 0 (g4 rfl) B.tuple SC<|aa<|bZ S 1 jg hr<|aa<|kv S 2)
   (ae (bT (jA<|bZ S 2 jh hr<|ah (kv S 1)<|aa<|kv S 3) (ai<|aG<|qC<|aa<|qC<|ah aU<|aa<|kv S 3) aw)
   (ae (Ee (i:=4) S hc hsc (dW (kv S 3) rfl) (N:=["i","counts"]) (W:=["i"]) (G:=[]) (fv:=[none,some 0]) Dk0 (λcl C fp s H R=>⟨(kg R 0),(fu<|aL aD (j3 (dJ rfl) (kv R 1) (kv R 0) λ_ _=>rfl) aq<|ao _),(kv R 0)⟩) (by rw[hsc];decide +kernel) (by rw[c9,hsc];rfl))
   (ae (bo S 5<|bZ S 3 il hr<|aa<|bZ S 4 qW hr<|ah (kv S 1)<|aa<|kv S 4)
   (ae (bT (aL n9 (kv S 5) lY<|ao _) (ai<|aG<|qC bI) aw)
   (ai<|aG<|qC<|aa<|qC<|ah aU<|aa<|kv S 5)))))),?_⟩
 cbv;refine⟨m,rfl,by omega,λl H1 s1 _ hl=>?_⟩
 refine⟨l,_,rfl,ay.of hl,λp o hp hoc hod=>?_⟩;have s2:=s1.trans<|ag.new hp<|.iE o<|.tup<|(aE<|ba m).map V.int;have d:upd H1 p (.iE o<|.tup<|(aE<|ba m).map V.int) p=some (.iE o<|.tup<|(aE<|ba m).map V.int):=af;generalize upd H1 p (.iE o<|.tup<|(aE<|ba m).map V.int)=H2 at s2 d ⊢;cbv;refine⟨w,p,Q,ba m,rfl,s2.aO O,aP.iE d,by omega,dj m,λi hi=>by rw[hn];exact f i hi,λH3 s3=>?_⟩
 have v:=s3 _ _ d;have n:=s2.trans s3;have ab:ba m≠[]:=λz=>by
  have:=Dm m
  rw[z]at this
  have:0=m:=this
  omega
 cases cb:de Q (ba m)with
 |true=>
  cbv;refine⟨a_,λy h1=>⟨a_,λU Z=>?_⟩⟩
  have L:=ag.new h1<|.tup [.str "circle",.ref p];have F:=ag.new Z<|.tup [.ref y];have a:=L.trans F;refine q U [.ref y] [(false,ba m)] _ (n.trans a) (aP.of af) ⟨⟨y,p,rfl,F.aO<|aP.of af,aP.iE<|a _ _ v,.inr ⟨_,_,a _ _ v,hoc,hod⟩⟩,trivial⟩ ?_;have e:(([(false,ba m)]:B0L).map<|qt u).sum=uJ u (ba m):=by
   show qt u (false,ba m)+0=_;rw[zP,Int.add_zero]
  rw[e];refine⟨⟨λg X=>?_,List.pairwise_singleton _ _,e,qL M.pos f⟩,trivial⟩;rw[ek.mp X];exact⟨⟨f,dj m,(λe=>nomatch e),λ_=>zO cb⟩,ab,λ_=>ny m,λx hx=>fI.mp hx⟩
 |false=>
  cbv;refine TL (λj=>decide<|u.getD ((ba m).getD j 0) 0=2) (λj=>(((ba m).getD j 0:Nat):Int)) (aP.iE v) (by rw[ak];exact aC (by omega)) ?_ ?_
  ·intro j H4 A B' hj hS hA hB;rw[ak]at hj;rw[aZ];cbv;refine dM ((n.trans hS).aO hcq) rfl (f _<|ez hj) ?_;cbv
   by_cases T:u.getD ((ba m).getD j 0) 0=2
   ·rw[if_pos T];exact hA (ed T) _<|ag.refl _
   ·rw[if_neg T];exact hB (cv T) _<|ag.refl _
  intro J H4 _ s4 b;rw[xb (ba m) (λx=>decide<|u.getD x 0=2)]at b;have b:H4 J=some (.lst<|(aE<|Hz u<|ba m).map V.int):=b;cbv;refine⟨w,J,Q,Hz u<|ba m,rfl,(n.trans s4).aO O,ay.of b,by omega,hU (ya _ _) Y,λt H5 s5 ht=>?_⟩
  refine⟨t,_,rfl,ht,by rw[gN];omega,Lj bf,λH6 s6=>⟨λnf=>?_,λhlt2 p2 r o2 d E I hR=>?_⟩⟩
  ·cbv;refine⟨a_,λz h1=>?_⟩
   have L:=ag.new h1<|.tup [];refine q z [] [] _ (n.trans<|s4.trans<|s5.trans<|s6.trans L) (aP.of af) trivial ⟨uL u Q m,trivial⟩
  ·cbv;refine⟨a_,λy h1=>⟨a_,λU Z=>?_⟩⟩
   have L:=ag.new h1<|.tup [.str "ring",.ref p2];have F:=ag.new Z<|.tup [.ref y];have a:=L.trans F;refine q U [.ref y] [(true,r)] _ (n.trans<|s4.trans<|s5.trans<|s6.trans a) (aP.of af) ⟨⟨y,p2,rfl,F.aO<|aP.of af,aP.iE<|a _ _ d,.inr ⟨_,_,a _ _ d,E,I⟩⟩,trivial⟩ ?_;have e:(([(true,r)]:B0L).map<|qt u).sum=1:=rfl;rw[e];refine⟨⟨λg X=>?_,List.pairwise_singleton _ _,e,(by show(0:Int)<=1;omega)⟩,trivial⟩
   rw[ek.mp X];exact Iu hn hR
def Te(K:Frag)(H0:Hp)(c w l:Addr)(cs:e_)(ws:d_)(i:Nat)(σ:L2.St)(H:Hp):Prop:=∃(us:u_) (fl:List oz) (y1 y2:v_),σ=[some (.ref c),some<|.ref w,some<|.ref l,y1,y2]/\ag H0 H/\H l=some (.lst us)/\my K H us fl/\fl.length=1+i/\∀k,k<1+i->pO cs ws k (fl.getD k (0,[]))
def nL(B:Bn mg)(D:Def K mg "lone_choices" fK)(vj:Fn P w K mg base 4 "lone_group" ["counts","web","crowd"] (SF K))(ji:Fn P w K mg base 5 "made_sure" ["counts","groups"] (zj K)):Fn P w K mg base 6 "lone_choices" ["counts","web"] (Nm K):=by
 have zY:DS (aj fK) ["counts","web","choices","crowd","groups"] ["counts","web"] ["range","lone_group","len","made_sure"]:=aM;walk_at"hH";obtain⟨c,w,a,O,rfl,x,A,r,hn,bf,q⟩:=h;have h8:=r.len;have hpow:=Td h8;have hpos:0<2 ^ a.length:=Re _;refine⟨_,(ae (bo S 2<|dc<|aa<|qC<|ah aq<|aa<|qC bI)
   (ae (eY hxe hc (Rr S 0 B.range<|ah aq<|aa<|aN cT aq<|cj S 2 (aA rfl) B.len mo<|aa<|kv S 1) (kg S 3) (ae (bo S 4<|bZ S 1 vj hr<|ah (kv S 0)<|ah (kv S 1)<|aa<|kv S 3)
   (ai<|dw<|gU qo oD p4 bH rfl (kv S 2)<|aa<|qC<|ah (bZ S 3 ji hr<|ah (kv S 0)<|aa<|kv S 4)<|aa<|kv S 4)))
   (ai<|aG<|kv S 2))),?_⟩
 cbv;refine⟨a_,λo h0=>⟨a_,λf h1=>⟨a_,λl hl=>?_⟩⟩⟩
 have t0:=ag.new h0<|.tup [];have W:=ag.new h1<|.tup [.int 0,.ref o];have N:=ag.new hl<|.lst [.ref f];have v:H l=none:=(t0.trans W).Hx hl;have R:=t0.trans<|W.trans N;have u:upd (upd (upd H o<|.tup []) f<|.tup [.int 0,.ref o]) l (.lst [.ref f]) l=some (.lst [.ref f]):=af;have C:my X.K (upd (upd (upd H o<|.tup []) f<|.tup [.int 0,.ref o]) l<|.lst [.ref f]) [.ref f] [(0,[])]:=⟨⟨f,o,[],rfl,N.aO<|aP.of af,(W.trans N).aO<|aP.of af,trivial⟩,trivial⟩;generalize upd (upd (upd H o<|.tup []) f<|.tup [.int 0,.ref o]) l (.lst [.ref f])=H1 at R u C ⊢;refine aR (.inr<|R.aO A) ?_;rw[b5,ak,hn];cbv;refine⟨eI (by omega),?_⟩
 refine MP (lo:=1) (n:=2 ^ a.length-1) (Te X.K H c w l a O) rfl (by rw[show 1+(2 ^ a.length-1)=2 ^ a.length by omega]) (by omega) ⟨_,_,_,_,rfl,R,u,C,rfl,λk hk=>?_⟩ ?_ ?_
 ·have:k=0:=by omega
  subst this;exact Dn a O
 ·rintro k σ J hk ⟨I,fl,y1,y2,rfl,t,i,m,b,cO⟩;cbv;refine⟨c,w,a,O,1+k,rfl,t.aO x,t.aO A,r,hn,bf,by omega,by omega,λg y L H2 Z hg hG s=>?_⟩
  cbv;have G:=s.1.len;have hlL:L.length<=8:=by
   have:L.length<=a.length:=s.1.len
   omega
  refine⟨.inl ⟨rfl,_,ay.of<|Z _ _ i⟩,?_⟩;refine⟨c,g,a,y,L,rfl,(t.trans Z).aO x,hg,hG.gl,r,λU p=>⟨(s.1.each U p).ok.lt,hU (cE (s.1.each U p).ok.nd (s.1.each U p).ok.lt) h8⟩,by omega,λH3 Y=>?_⟩
  refine⟨a_,λz hz=>?_⟩
  have sz:=ag.new hz<|.tup [.int ((L.map<|qt a).sum),.ref g];have s4:=Z.trans<|Y.trans sz;have Q:aP X.K (upd H3 z<|.tup [.int ((L.map<|qt a).sum),.ref g]) z [.int ((L.map<|qt a).sum),.ref g]:=aP.of af;have M:=(Y.trans sz).aO hg;have T:=hG.mono<|Y.trans sz;have d:=s4 _ _ i;have E:=m.mono s4;refine⟨l,_,_,rfl,rfl,d,aC (by rw[m.length];omega),?_⟩
  refine⟨I++[.ref z],fl++[((L.map<|qt a).sum,L)],_,_,rfl,(t.trans s4).set v _,af,(E.gF d).append ⟨⟨z,g,y,rfl,Q.gF d,M.gF d,T.gF d⟩,trivial⟩,by rw[eR,b];rfl,λj hj=>?_⟩
  by_cases e:j=1+k
  ·subst e;rw[b4,tz (by omega),b,Nat.sub_self]
   exact s
  ·rw[b4,u5 (by omega),<-b4]
   exact cO j (by omega)
 ·rintro σ J ⟨I,fl,y1,y2,rfl,t,i,m,b,cO⟩;cbv;exact q l I fl J t v i m (by omega) (λk hk=>cO k (by omega))
def Tf(H0:Hp)(pl:Addr)(m:Nat)(k:Nat)(σ:L2.St)(H:Hp):Prop:=∃(l:Addr) (ps:d_) (y:v_),σ=[some (.int (m:Int)),some<|.ref l,y]/\ag H0 H/\H0 l=none/\H l=some (.lst<|(aE ps).map V.int)/\H pl=some (.lst<|(aE<|ba m).map V.int)/\ps.length=2 ^ k/\∀q∈ps,Sub q m/\∀j,q.testBit j=true->j∈(ba m).take k
def xE(B:Bn mg)(D:Def K mg "parts_of" ku)(jg:Fn P w K mg base 1 "places" ["mask"] k9):Fn P w K mg base 2 "parts_of" ["crowd"] SG:=by
 have zY:DS (aj ku) ["crowd","parts","i"] ["crowd"] ["places"]:=aM;walk_at"hH";obtain⟨m,rfl,hm,q⟩:=h;have v:∀x∈ba m,x<8:=λx hx=>mw (n:=8) hm<|fI.mp hx;have R:(ba m).length<=8:=cE (dj m) v;refine⟨_,(ae (bo S 1<|dc<|aa aq)
   (ae (eY hxe hc (cC (bZ S 0 jg hr<|aa<|kv S 0) rfl) (kg S 2) (ai (bo S 1 (aN (bW rfl) (kv S 1) (iD S hc hsc (cC (kv S 1) rfl) (N:=["part","i"]) (W:=["part"]) (G:=[]) (fv:=[none,some 2]) Dk0 λcl C fp s H O=>⟨(kg O 0),bp,(aN aH (kv O 0)<|aN cT aq<|kv O 1)⟩)))))
   (ai<|aG<|kv S 1))),?_⟩
 cbv;refine⟨a_,λl U=>?_⟩
 have Z:=ag.new U<|.lst [.int 0];refine⟨m,rfl,by omega,λpl H2 r _ u=>?_⟩
 have L:=r _ _<|af (H:=H) (a:=l) (o:=.lst [.int 0]);refine forL (Tf H pl m) (ay.of u) ⟨l,[0],_,rfl,Z.trans r,U,L,u,rfl,λq hq=>by rw[ek.mp hq];exact⟨(λj hj=>by rw[zero_testBit]at hj;cases hj),(λj hj=>by rw[zero_testBit]at hj;cases hj)⟩⟩ (λi σ J h=>by obtain⟨_,_,_,_,_,_,_,h,_⟩:=h;exact ay.of h) ?_ ?_
 ·rintro k σ J hk ⟨l,f,y,rfl,I,z,g,E,b,c⟩;rw[ak]at hk;rw[aZ];have M:=v _<|qI hk;have h2k:2 ^ k<=256:=hU (qc a_ (show k<=8 by omega)) a_
  have F:=xg hk rfl c;generalize (ba m).getD k 0=i at M F ⊢;cbv;refine Uh (λ_=>true) (λt=>(((f.getD t 0+2 ^ i:Nat)):Int)) (ay.of g) (by rw[ak];exact aC (by omega)) ?_ ?_
  ·intro t J2 A B' ht hS Q _;rw[aZ];cbv;refine⟨eI (by omega),?_⟩
   rw[<-natCast_add];exact Q rfl _<|ag.refl _
  ·intro ab J2 Y r d;rw[bE,ak]at d;have e:((List.range f.length).map λt=>(((f.getD t 0+2 ^ i:Nat)):Int))=aE (f.map λx=>x+2 ^ i):=by
    unfold aE;rw[kb]
    conv=>rhs;rw[<-nh f,kb]
    rfl
   rw[e]at d;refine nZ (ay.of<|r _ _ g) (ay.of d) (pb (by rw[ak,ak,b5];omega)) λp T=>?_
   have X:=ag.new T<|.lst<|(aE f++aE (f.map λx=>x+2 ^ i)).map V.int;refine⟨p,f++f.map (λx=>x+2 ^ i),_,rfl,I.trans<|r.trans X,(I.trans r).Hx T,?_,(r.trans X) _ _ E,by rw[eR,b5,b,Nat.pow_succ];omega,F⟩
   rw[eA];exact af
 ·rintro σ J ⟨l,f,y,rfl,I,z,g,E,b,c⟩;rw[ak]at b c;cbv;refine q l f J I z g (λq hq=>(c q hq).1) ?_;rw[b];exact hU (qc a_ R) a_
def Tg(K:Frag)(H0:Hp)(lo be:Addr)(cs:e_)(ws:d_)(ul ub:u_)(fl fb:List oz)(m i:Nat)(pp:Addr)(ps:d_)(k:Nat)(σ:L2.St)(H:Hp):Prop:=∃(v:V) (x:oz) (y6 y7 y8:v_),σ=[some (.ref lo),some<|.ref be,some<|.int (m:Int),some<|.int ((2 ^ i:Nat):Int),some<|.int ((m-2 ^ i:Nat):Int),some v,y6,y7,y8]/\ag H0 H/\ay K H pp ((aE ps).map V.int)/\Ch K H v x/\zQ cs ws m x
def LK{m:Nat}(h:0<m):Builtin.bitAnd (m:Int) (-(m:Int))=((m-(m&&& (m-1)):Nat):Int):=by
 have e:-(m:Int)=Builtin.bitNot ((m-1:Nat):Int):=by unfold Builtin.bitNot;omega
 rw[e,ue]
def DI{a m:Nat}(h:Sub a m):Sub (m-a) m:=λj hj=>by
 rw[lC h,fz]at hj;exact hj.1
def Th(K:Frag)(H0:Hp)(lo be:Addr)(cs:e_)(ws:d_)(fb:List oz)(m i:Nat)(σ:L2.St)(H:Hp):Prop:=∃(v:V) (x:oz),σ=[some (.ref lo),some<|.ref be,some<|.int (m:Int),some<|.int ((2 ^ i:Nat):Int),some<|.int ((m-2 ^ i:Nat):Int),some v,none,none,none]/\H=H0/\Ch K H0 v x/\zQ cs ws m x
def p6(B:Bn mg)(D:Def K mg "best_choice" gm)(AA:Fn P w K mg base 2 "parts_of" ["crowd"] SG):Fn P w K mg base 3 "best_choice" ["lone","best","crowd"] (SH K):=by
 have zY:DS (aj gm) ["lone","best","crowd","first","others","found","part","group","rest"] ["lone","best","crowd"] ["parts_of"]:=aM;walk_at"hH";obtain⟨lo,be,cs,ws,ul,ub,N,G,m,rfl,u,o,cl,cb,a6,hn,hfl,hfb,C,hm,hL,hB,q⟩:=h;have h8:=a6.len;have hpow:2 ^ cs.length<=256:=hU (qc a_ h8) a_
 obtain⟨i,hi,A⟩:=Lg m C;have hile:=(uI hi).le;have hip:0<2 ^ i:=Re i;have c:Sub (m-2 ^ i) m:=λj hj=>by rw[fH hi,fz]at hj;exact hj.1
 refine⟨_,(ae (bo S 3<|aN ee (kv S 2)<|OU jV<|kv S 2)
   (ae (bo S 4<|aN cu (kv S 2)<|kv S 3)
   (ae (bo S 5<|dR (kv S 0)<|kv S 2)
   (ae (bT (aL ir (kK<|dR (kv S 1)<|kv S 4) (kK<|kv S 5)<|ao _) (ai<|bo S 5<|dR (kv S 1)<|kv S 4) aw)
   (ae (eY hxe hc (cC (bZ S 0 AA hr<|aa<|kv S 4) rfl) (kg S 6) (ae (bo S 7<|dR (kv S 0)<|aN aH (kv S 3)<|kv S 6)
   (ae (bo S 8<|dR (kv S 1)<|aN cu (kv S 4)<|kv S 6)
   (ai<|bT (aL ir (aN aH (kK<|kv S 7)<|kK<|kv S 8) (kK<|kv S 5)<|ao _) (ai<|bo S 5<|qC<|ah (aN aH (kK<|kv S 7)<|kK<|kv S 8)<|aa<|aN (iN rfl) (kK<|kv S 7)<|kK<|kv S 8) aw))))
   (ai<|aG<|kv S 5)))))),?_⟩
 walk_at"h";rw[LK C,A];walk_at"h";rw[show((m:Int)-((2 ^ i:Nat):Int))=((m-2 ^ i:Nat):Int) by omega]
 obtain⟨v0,a4,c0⟩:=cl.get (i:=m) (by omega)
 obtain⟨v1,L,c1⟩:=cb.get (i:=m-2 ^ i) (by omega)
 have az:=(hL m hm).1;have T:=(hB (m-2 ^ i) (by omega)).1
 walk_at"h";refine au u (jl a4) ?_;lia;refine nK (Th X.K H lo be cs ws G m i) (λσ J h=>?_) (λR hR=>?_)
 rotate_left
 ·walk_at"u";cbv;refine au o (jl L) ?_;obtain⟨r1,g1,us1,rfl,O,h12,h13⟩:=id c1;obtain⟨r0,g0,us0,rfl,aI,h02,h03⟩:=id c0;refine br O rfl ?_;refine br aI rfl ?_;cbv;refine bu (λW=>?_) λaF=>?_
  ·refine au o (jl L) ?_;exact hR _ _ ⟨_,_,rfl,rfl,c1,T.mono c⟩
  ·exact hR _ _ ⟨_,_,rfl,rfl,c0,az⟩
 obtain⟨v,x,rfl,eJ,p,F⟩:=h;rw[eJ];clear eJ J;walk_at"h";refine⟨m-2 ^ i,rfl,by omega,λpp ps J sJ _ I Z ab=>?_⟩
 refine forL (Tg X.K H lo be cs ws ul ub N G m i pp ps) (ay.of I) ⟨v,x,_,_,_,rfl,sJ,ay.of I,p.mono sJ,F⟩ (λi σ J h=>by obtain⟨_,_,_,_,_,_,_,h,_⟩:=h;exact h) ?_ ?_
 ·rintro k σ J2 hk ⟨v,x,y6,y7,y8,rfl,d,b,p,F⟩;rw[ak]at hk;rw[aZ];have a:=Z _<|qI hk;generalize hq:ps.getD k 0=part at a;have hle:=a.le;obtain⟨va,Q,Y⟩:=cl.get (i:=2 ^ i+part) (by omega)
  obtain⟨vb,U,n⟩:=cb.get (i:=(m-2 ^ i)-part) (by omega)
  have ga:=(hL (2 ^ i+part) (by omega)).1
  have gb:=(hB ((m-2 ^ i)-part) (by omega)).1
  cbv;refine au (d.seq u) (v:=va) (by rw[show(((2 ^ i:Nat):Int)+(part:Int))=((2 ^ i+part:Nat):Int) by omega];exact jl Q) ?_
  refine au (d.seq o) (v:=vb) (by rw[show(((m-2 ^ i:Nat):Int)-(part:Int))=((m-2 ^ i-part:Nat):Int) by omega];exact jl U) ?_
  have Y:=Y.mono d;have n:=n.mono d;obtain⟨ra,g1,ua,rfl,f,a3,t⟩:=id Y;obtain⟨rb,g2,r,rfl,g,hb2,E⟩:=id n;obtain⟨rv,gv,uv,rfl,a5,hv2,hv3⟩:=id p;refine br f rfl ?_;refine br g rfl ?_;cbv;refine br a5 rfl ?_;cbv;refine bu (λW=>?_) λaF=>?_
  ·refine br f rfl ?_;refine br g rfl ?_;cbv;refine br f rfl ?_;refine br g rfl ?_;have la:=ga.len;have lb:=gb.len;refine⟨g1,g2,ua,r,rfl,rfl,a3,hb2,cw (by rw[t.length,E.length];omega),λg3 J3 s3 a0=>?_⟩
   refine⟨a_,λz hz=>?_⟩
   have sz:=ag.new hz<|.tup [.int ((N.getD (2 ^ i+part) (0,[])).1+(G.getD ((m-2 ^ i)-part) (0,[])).1),.ref g3];have M:=s3.trans sz;have y:Sub (2 ^ i+part) m:=((Lh (l:=[]) hi a ⟨(λ_ h=>nomatch h),.nil⟩).1 _ gc);have aV:SD (2 ^ i+part) (m-2 ^ i-part):=λj hj=>by
    rw[lC a,fH hi];rw[uH (λj' s=>?_)]at hj
    ·rw[P3,GE,ka]at hj
     rcases hj with hj|hj
     ·rw[hj];simp
     ·rw[hj];simp
    ·rw[GE,ka]at s
     cases e:part.testBit j' with
     |false=>rfl
     |true=>have:=a j' e;rw[fH hi,s]at this;simp at this
   exact⟨.ref z,((N.getD (2 ^ i+part) (0,[])).1+(G.getD ((m-2 ^ i)-part) (0,[])).1,(N.getD (2 ^ i+part) (0,[])).2++(G.getD ((m-2 ^ i)-part) (0,[])).2),_,_,_,rfl,d.trans M,M.seq b,⟨z,g3,ua++r,rfl,aP.of af,sz.aO a0,(t.mono M).append<|E.mono M⟩,ga.add gb aV y<|(DI a).trans c⟩
  ·exact⟨_,x,_,_,_,rfl,d,b,p,F⟩
 ·rintro σ J2 ⟨v,x,y6,y7,y8,rfl,d,b,p,F⟩;lia;cbv;exact q v x J2 d p ⟨F,trivial⟩
def Ti(K:Frag)(H0:Hp)(c w lo l:Addr)(cs:e_)(ws:d_)(i:Nat)(σ:L2.St)(H:Hp):Prop:=∃(us:u_) (fb:List oz) (y1:v_),σ=[some (.ref c),some<|.ref w,some<|.ref lo,some<|.ref l,y1]/\ag H0 H/\H l=some (.lst us)/\my K H us fb/\fb.length=1+i/\∀k,k<1+i->mz cs ws k (fb.getD k (0,[]))
def qd(B:Bn mg)(D:Def K mg "best_groups" gn)(qj:Fn P w K mg base 6 "lone_choices" ["counts","web"] (Nm K))(qX:Fn P w K mg base 3 "best_choice" ["lone","best","crowd"] (SH K)):Fn P w K mg base 7 "best_groups" ["counts","web"] (SI K):=by
 have zY:DS (aj gn) ["counts","web","lone","best","crowd"] ["counts","web"] ["lone_choices","range","len","best_choice"]:=aM;walk_at"hH";obtain⟨c,w,m,I,rfl,W,ab,t,hn,bf,q⟩:=h;have h8:=t.len;have hpow:2 ^ m.length<=256:=hU (qc a_ h8) a_
 have hpos:0<2 ^ m.length:=Re _;refine⟨_,(ae (bo S 2<|bZ S 0 qj hr<|ah (kv S 0)<|aa<|kv S 1)
   (ae (bo S 3<|dc<|aa<|qC<|ah aq<|aa<|qC bI)
   (ae (eY hxe hc (Rr S 1 B.range<|ah aq<|aa<|cj S 2 (aA rfl) B.len mo<|aa<|kv S 2) (kg S 4)<|ai<|dw<|gU qo oD p4 bH rfl (kv S 3)<|aa<|bZ S 3 qX hr<|ah (kv S 2)<|ah (kv S 3)<|aa<|kv S 4)
   (ai<|aG<|kK<|dR (kv S 3)<|OU jV aq)))),?_⟩
 cbv;refine⟨c,w,m,I,rfl,W,ab,t,hn,bf,λlo ul fl H1 s1 hlo0 A cl u hL=>?_⟩;cbv;refine⟨a_,λo h0=>⟨a_,λf h1=>⟨a_,λl hl=>?_⟩⟩⟩
 have t0:=ag.new h0<|.tup [];have R:=ag.new h1<|.tup [.int 0,.ref o];have O:=ag.new hl<|.lst [.ref f];have T:H1 l=none:=(t0.trans R).Hx hl;have U:=t0.trans<|R.trans O;have y:upd (upd (upd H1 o<|.tup []) f<|.tup [.int 0,.ref o]) l (.lst [.ref f]) l=some (.lst [.ref f]):=af;have G:my X.K (upd (upd (upd H1 o<|.tup []) f<|.tup [.int 0,.ref o]) l<|.lst [.ref f]) [.ref f] [(0,[])]:=⟨⟨f,o,[],rfl,O.aO<|aP.of af,(R.trans O).aO<|aP.of af,trivial⟩,trivial⟩;generalize upd (upd (upd H1 o<|.tup []) f<|.tup [.int 0,.ref o]) l (.lst [.ref f])=H2 at U y G ⊢;refine aR (.inl<|ay.of<|U _ _ A) ?_;rw[cl.length,u];cbv;refine MP (lo:=1) (n:=2 ^ m.length-1) (Ti X.K H1 c w lo l m I) rfl (by omega) (by omega) ⟨_,_,_,rfl,U,y,G,rfl,λk hk=>?_⟩ ?_ ?_
 ·have:k=0:=by omega
  subst this;exact Dp m I
 ·rintro k σ J hk ⟨p,M,y1,rfl,E,d,b,a,L⟩;cbv;refine⟨.inl ⟨rfl,_,ay.of d⟩,?_⟩;refine⟨lo,l,m,I,ul,p,fl,M,1+k,rfl,ay.of<|E _ _ A,ay.of d,cl.mono E,b,t,hn,u,a,by omega,by omega,hL,L,λv x H3 Q Z hx=>?_⟩
  have s:=Q _ _ d;refine⟨l,_,_,rfl,rfl,s,aC (by rw[b.length];omega),?_⟩
  refine⟨p++[v],M++[x],_,rfl,(E.trans Q).set T _,af,((b.mono Q).gF s).append ⟨Z.gF s,trivial⟩,by rw[eR,a];rfl,λj hj=>?_⟩
  by_cases e:j=1+k
  ·subst e;rw[b4,tz (by omega),a,Nat.sub_self]
   exact hx
  ·rw[b4,u5 (by omega),<-b4]
   exact L j (by omega)
 ·rintro σ J ⟨p,M,y1,rfl,E,d,b,a,L⟩;cbv;obtain⟨v,ev,Z⟩:=b.get (i:=2 ^ m.length-1) (by omega)
  have hb:=L (2 ^ m.length-1) (by omega)
  have C:=b.length;refine au (ay.of d) (v:=v) ?_ ?_
  ·have N:p=p.dropLast++[v]:=by
    have h1:p≠[]:=λz=>by rw[z]at C;simp at C;omega
    have H:=List.dropLast_concat_getLast h1;have h3:p.getLast h1=v:=by
     rw[List.getLast_eq_getElem];rw[show 2 ^ m.length-1=p.length-1 by omega,cc (by omega)]at ev
     exact qa ev
    rw[h3]at H;exact H.symm
   rw[N];exact EK _ _
  obtain⟨r,g,Y,rfl,h1,H,h3⟩:=Z;refine br h1 rfl ?_;refine q g Y _ J (s1.trans E) H h3 ?_;have e:=hb.1.sum;rw[e];exact hb
def all_map{α:Type}(l:List α)(p:α->Bool):(l.map p).all id=l.all p:=by rw[GM];rfl
def any_map{α:Type}(l:List α)(p:α->Bool):(l.map p).any id=l.any p:=by rw[List.any_map];rfl
def range_getD{α:Type}(l:e_)(f:Int->α):(List.range l.length).map (λk=>f<|l.getD k 0)=l.map f:=by
 apply ext_getElem
 ·simp
 ·intro i h1 a
  simp at h1 a
  simp[h1]
def UI{a:Addr}{ns:e_}{te:TE}{rest:L2.St}{Q:VK}{H1:Hp}(f:Int->Bool)(h:aP K H1 a (ns.map V.int))(hn:ns.length<=1000)
  (step:∀(i:Int) H (A:q_),i∈ns->ag H1 H->(∀H',ag H H'->A (.bl<|f i) H')->te (some (.int i)::rest) H A)
  (fin:∀B_ H,H1 B_=none->ag H1 H->H B_=some (.lst<|(ns.map f).map V.bl)->Q (.ref B_) H):
  ∃b,V.ref a=.ref b/\(∃xs,aP K H1 b xs)/\vB (bF 0) iL te (none::rest) Q (Eb K b) H1:=by
 refine⟨a,rfl,⟨_,h⟩,qF (gB h) (λ_=>true) (λi=>.bl<|f<|ns.getD i 0) (by rw[b5];exact aC hn) ?_ ?_⟩
 ·intro i H A j hi d g _;rw[b5]at hi;rw[getD_ints hi];simp only[jZ,FQ,oZ];exact step _ H A (L2.getD_mem hi) d λH' e=>g rfl _ e
 ·intro B_ H hn d c;rw[bE,b5]at c;refine fin B_ H hn d ?_;rw[c,<-range_getD ns f,kb];rfl
def Iv(B:Bn mg)(D:Def K mg "rises" uW):Fn P w K mg base 1 "rises" ["people"] (Bz K):=by
 have zY:DS (aj uW) ["people"] ["people"] ["all","zip"]:=aM;walk_at"hH";obtain⟨p,l,rfl,g,h1,m,q⟩:=h;refine⟨_,(ai (aG (cj S 0 (cP hc rfl) B.all boot_all (aa (iD S hc hsc (SW false false S 1 B.zip rfl<|ah (kv S 0)<|aa<|jz (jo rfl) (kv S 0) (aY aq) bg) (N:=["i","j"]) (W:=["i","j"]) (G:=[]) (fv:=[none,none]) Dk0 λu C v s H d=>⟨(kZ rfl (K:=X.K) (n:=2) rfl<|aQ (kg d 0)<|aQ (kg d 1) cQ),bp,(gD fq (kv d 0) (kv d 1)<|ao _)⟩))))),?_⟩
 cbv;refine tZ 0 g rfl (by rw[ak];omega) λa o=>?_
 have i:=ag.new o<|.tup<|((aE l).drop<|0+1).map V.int;refine PL (ns:=aE l) (ms:=(aE l).drop<|0+1) _ (λk=>.bl<|decide<|l.getD k 0<l.getD (k+1) 0) (i.aO g) (aP.of af) (by rw[q5,ak];omega) (ey _) (.inr<|ey _) (by rw[q5,ak];exact aC (by omega)) ?_ ?_
 ·intro k t A hk c r;rw[q5,ak]at hk;rw[aZ,show((aE l).drop<|0+1).getD k 0=((l.getD (k+1) 0:Nat):Int) by rw[<-aZ,b4,getElem?_drop,b4];congr 2;omega]
  cbv;have e:decide (((l.getD k 0:Nat):Int)<((l.getD (k+1) 0:Nat):Int))=decide (l.getD k 0<l.getD (k+1) 0):=by
   rw[decide_eq_decide];omega
  rw[e];exact r _<|ag.refl _
 ·intro f t j c b;rw[q5,ak]at b;refine⟨f,(List.range<|l.length-(0+1)).map λk=>decide<|l.getD k 0<l.getD (k+1) 0,rfl,ay.of (by rw[b,kb];rfl),?_⟩
  rw[all_map];exact q _<|i.trans c
def P7(B:Bn mg)(D:Def K mg "is_group" kr)(LZ:Fn P w K mg base 1 "rises" ["people"] (Bz K))(jh:Fn P w K mg base 1 "is_circle" ["web","people"] (O7 K))(DY:Fn P w K mg base 2 "is_ring" ["web","people"] (RS K)):Fn P w K mg base 3 "is_group" ["counts","web","kind","people"] (MO K):=by
 have zY:DS (aj kr) ["counts","web","kind","people"] ["counts","web","kind","people"] ["len","all","rises","is_circle","is_ring"]:=aM;walk_at"hH";obtain⟨c,w,p,f,r,⟨b,a⟩,rfl,F,R,n,E,h8,v,q⟩:=h;have n:aP X.K H p (a.map V.int):=n;have v:a.length<=90:=v;refine⟨_,(ae (bT (qD (My (aL fq (cj S 0 (aA rfl) B.len mo<|aa<|kv S 3) aq<|ao _) (v3 (j7 (jA (cj S 1 (cP hc rfl) B.all boot_all (aa (iD S hc hsc (dW (kv S 3) rfl) (N:=["i","counts"]) (W:=["i"]) (G:=["len"]) (fv:=[none,some 0]) Dk0 λZ C fp s H o=>⟨(kg o 0),bp,(yW kQ fq aq (kv o 0)<|cj o 0 (aA rfl) B.len mo<|aa<|kv o 1)⟩)))))))) (ai<|aG yp) aw)
   (ae (bT (aL aD (kv S 2) aU<|ao _) (ai<|aG<|oX (bZ S 2 LZ hr<|aa<|kv S 3)<|vZ<|bZ S 3 jh hr<|ah (kv S 1)<|aa<|kv S 3) aw)
   (ai (aG (oX (gD aD (kv S 2) aU<|ao _) (oX (bZ S 4 DY hr<|ah (kv S 1)<|aa<|kv S 3) (vZ (cj S 1 (cP hc rfl) B.all boot_all (aa (iD S hc hsc (dW (kv S 3) rfl) (N:=["i","counts"]) (W:=["i"]) (G:=[]) (fv:=[none,some 0]) Dk0 λZ C fp s H o=>⟨(kg o 0),bp,(gD aD (j3 (dJ rfl) (kv o 1) (kv o 0) λ_ _=>rfl) aq<|ao _)⟩)))))))))),?_⟩
 cbv;refine aR (.inr n) ?_;rw[b5];cbv;refine bu (λT=>?_) λT=>?_
 ·have e:Eg f r (b,a)=false:=by unfold Eg;rw[cv (show ¬1<=a.length by omega),qm]
  rw[e]at q;exact q _<|ag.refl _
 refine UI (λi=>decide (0<=i)&&decide (i<(f.length:Int))) n (by omega) ?_ ?_
 ·intro i H1 A hi M y;cbv
  by_cases J:0<=i
  ·rw[if_pos J];refine aR (.inr<|M.aO F) ?_;rw[b5];cbv;rw[ed J,oo]at y;exact y _<|ag.refl _
  ·rw[if_neg J];rw[cv J,qm]at y;exact y _<|ag.refl _
 intro L H1 hn1 j z;refine⟨L,_,rfl,ay.of z,?_⟩;rw[all_map,show(a.all λi=>decide (0<=i)&&decide (i<(f.length:Int)))=IT f.length a from rfl]
 cbv
 by_cases d:IT f.length a=true
 ·rw[d];obtain⟨Y,u⟩:=KH d;have hnl:(nats a).length=a.length:=by unfold nats;rw[b5]
  have O:Eg f r (b,a)=CU f r b (nats a):=by
   unfold Eg;rw[ed (show 1<=a.length by omega),oo]
   show(IT f.length a&&_)=_;rw[d,oo]
  rw[O]at q;generalize nats a=l at *;subst Y;rw[ak]at T v;have e:decide (kd b="ring")=b:=ui b;have e2:decide (kd b="circle")=!b:=by cases b<;>decide
  cbv
  (try simp only[mE,vV])
  (try simp only[e,e2])
  (try simp only[show(kd b=("circle":Str))=(b=false)from propext ⟨λh=>by cases b<;>first|rfl|exact absurd h a_,λh=>by rw[h];rfl⟩,show(kd b=("ring":Str))=(b=true)from propext ⟨λh=>by cases b<;>first|rfl|exact absurd h a_,λh=>by rw[h];rfl⟩])
  cases b with
  |false=>
   (try simp only[Bool.not_false,if_true])
   refine⟨p,l,rfl,j.aO n,by omega,by omega,λH2 m=>?_⟩
   unfold CU at q;simp only[Bool.false_eq_true,if_false]at q;cbv
   cases g:pA l with
   |true=>
    rw[g,oo]at q;cbv;exact⟨w,p,r,l,rfl,(j.trans m).aO R,(j.trans m).aO n,by omega,wC g,λx hx=>by rw[E];exact u x hx,λU Q=>q _<|(j.trans m).trans Q⟩
   |false=>
    rw[g,qm]at q;cbv;exact q _<|j.trans m
  |true=>
   (try simp only[Bool.not_true,Bool.true_eq_false,Bool.false_eq_true,if_false,if_true])
   unfold CU at q;simp only[if_true]at q;cbv
   try simp only[mE,vV,e,if_true]
   refine⟨w,p,r,l,rfl,j.aO R,j.aO n,by omega,by omega,λx hx=>by rw[E];exact u x hx,λH2 m=>?_⟩
   cbv
   cases g:jK r l with
   |true=>
    rw[g,oo]at q;cbv;refine UI (λi=>decide<|f.getD i.toNat 0=2) ((j.trans m).aO n) (by rw[ak];omega) ?_ ?_
    ·intro i U A hi M y;obtain⟨x,hx,rfl⟩:=kc.mp hi;cbv;refine dM (((j.trans m).trans M).aO F) rfl (u x hx) ?_;cbv;exact y _<|ag.refl _
    ·intro I U hn3 Q t;refine⟨I,_,rfl,ay.of t,?_⟩;rw[all_map,show((aE l).all λi=>decide<|f.getD i.toNat 0=2)=l.all (λx=>decide<|f.getD x 0=2) by unfold aE;rw[GM];rfl]
     exact q _<|(j.trans m).trans Q
   |false=>
    rw[g,qm]at q;cbv;exact q _<|j.trans m
 ·have d:IT f.length a=false:=by simpa using d
  have O:Eg f r (b,a)=false:=by
   unfold Eg;show(_&&(IT f.length a&&_))=false;rw[d,qm,M8]
  rw[d];rw[O]at q;cbv;exact q _ j
def Tj(K:Frag)(H0:Hp)(c w g:Addr)(cs:e_)(ws:d_)(L:List (Bool × List Int))(k:Nat)(σ:L2.St)(H:Hp):Prop:=∃(d:Addr) (gone:e_) (y1 y2 y3 y4:v_),σ=[some (.ref c),some<|.ref w,some<|.ref g,some<|.ref d,y1,y2,y3,y4]/\ag H0 H/\H0 d=none/\Gr H d gone/\gone.length<=30*k/\Eh cs ws [] 0 L=Eh cs ws gone k (L.drop k)
def P8(H0:Hp)(c w g d p:Addr)(k:Nat)(y2:V)(gone ns:e_)(j:Nat)(σ:L2.St)(H:Hp):Prop:=∃(y4:v_),σ=[some (.ref c),some<|.ref w,some<|.ref g,some<|.ref d,some<|.int (k:Int),some y2,some<|.ref p,y4]/\ag H0 H/\Gr H d (gone++ns.take j)
def DJ(B:Bn mg)(D:Def K mg "group_fault" gh)(AB:Fn P w K mg base 3 "is_group" ["counts","web","kind","people"] (MO K)):Fn P w K mg base 4 "group_fault" ["counts","web","groups"] (wD K):=by
 have zY:DS (aj gh) ["counts","web","groups","taken","place","group","people","i"] ["counts","web","groups"] ["enumerate","any","is_group"]:=aM;walk_at"hH";obtain⟨c,w,g,cs,M,us,L,rfl,hcq,hw,hg,hL,hwl,h8,T,hL90,q⟩:=h;refine⟨_,(ae (bo S 3 ML)
   (ae (eY hxe hc (Dv false S 0 B.enumerate rfl<|aa<|kv S 2) (kZ hc (K:=X.K) (n:=2) rfl<|aQ (kg S 4)<|aQ (kg S 5) cQ) (ae (bo S 6<|kK<|kv S 5)
   (ae (bT (qD (My (j7<|jA<|bZ S 2 AB hr<|ah (kv S 0)<|ah (kv S 1)<|ah (kK<|kv S 5)<|aa<|kv S 6) (v3 (jA (cj S 1 (CQ hc rfl) B.any boot_any (aa (iD S hc hsc (dW (kv S 6) rfl) (N:=["i","taken"]) (W:=["i"]) (G:=[]) (fv:=[none,some 3]) Dk0 (λcl C fp s H R=>⟨(kg R 0),bp,(R5 (u1 hu) (kv R 0) (kv R 1) (by with_unfolding_all rfl))⟩)))))))) (ai<|aG<|kv S 4) aw)
   (ai<|eY hxe hc (dW (kv S 6) rfl) (kg S 7)<|ai<|MM (u1 hu) yp (kv S 3)<|kv S 7))))
   (ai<|aG lY))),?_⟩
 cbv;intro d hd;have sd:=ag.new hd<|.dK [];refine HJ false (Tj X.K H c w g cs M L) (sd.aO hg) ⟨d,[],_,_,_,_,rfl,sd,hd,Gr.nil af,zero_le _,rfl⟩ (λk σ H' h=>by obtain⟨d,gone,y1,y2,y3,y,_,s,_⟩:=h;exact s.aO hg) ?_ ?_
 ·rintro k v σ H1 H2 hv ⟨d,gone,y1,y2,y3,y,rfl,J,u,O,hgl,a⟩ s2;have b:=J.trans s2;obtain⟨t,r,p,m,rfl,hr0,l⟩:=hL.get hv;have x:=b.aO hr0;have hp:=b.aO l;have Y:k<L.length:=by have:=nt.mp m;exact this.1
  have U:L.drop k=t::L.drop (k+1):=by
   rw[List.drop_eq_getElem_cons Y]
   congr 1
   have:=nt.mp m
   exact this.2
  rw[U,Eh]at a;have g90:=T t<|fA m;cbv;refine br (i:=1) x rfl ?_;refine br (i:=0) x rfl ?_;refine⟨c,w,p,cs,M,t,rfl,b.aO hcq,b.aO hw,hp,hwl,h8,by omega,λH3 z=>?_⟩
  cbv
  cases hG:Eg cs M t with
  |false=>
   rw[hG,qm,if_neg a_]at a
   cbv
   have:=q _<|b.trans z
   rw[a]at this;exact this
  |true=>
   rw[hG,oo]at a;cbv;have Q:=b.trans z;refine UI (λi=>decide<|i∈gone) (z.aO hp) (by omega) ?_ ?_
   ·intro i H4 A hi e F;cbv;exact Pf ((O.same s2).same<|z.trans e)<|F _<|ag.refl _
   intro Z H4 hn4 s4 E;refine⟨Z,_,rfl,ay.of E,?_⟩;rw[any_map];have e:=Q.trans s4
   cases F:t.2.any (λi=>decide<|i∈gone)with
   |true=>
    rw[F,Bool.not_true,if_neg a_]at a
    cbv
    have:=q _ e
    rw[a]at this;exact this
   |false=>
    rw[F,Bool.not_false,if_pos rfl]at a;cbv;refine Kh (P8 H c w g d p k (.ref r) gone t.2) (e.aO l) ⟨_,rfl,e,by rw[take_zero,Vj];exact(O.same s2).same (z.trans s4)⟩ (λj σ H' h=>by obtain⟨y,_,s,_⟩:=h;exact s.aO l) ?_ ?_
    ·rintro j σ H5 hj ⟨y,rfl,s5,f⟩;cbv;refine KG f (aC (by rw[eR,rr];omega)) λo I=>⟨_,rfl,s5.set u _,?_⟩
     rw[take_snoc 0 hj,<-A4];exact I
    ·rintro σ H5 ⟨y,rfl,s5,f⟩;rw[L1]at f;exact⟨d,gone++t.2,_,_,_,_,rfl,s5,u,f,by rw[eR];omega,a⟩
 ·rintro σ H1 ⟨d,gone,y1,y2,y3,y,rfl,J,u,O,hgl,a⟩;rw[hL.length,List.drop_length,Eh]at a;cbv
  have:=q _ J
  rw[a]at this;exact this
def Tn(D:Def K mg "ring_guess" hZ):Fn P w K mg base 1 "ring_guess" ["many","i","seen"] RX:=by
 have zY:DS (aj hZ) ["many","i","seen"] ["many","i","seen"] []:=aM;walk_at"hH";obtain⟨n,i,s,rfl,hn,q⟩:=h;refine⟨_,(ae (bT (aL aD (kv S 1) (aN cu (kv S 0) aq)<|ao _) (ai<|aG<|kv S 2) aw)
   (ai<|aG<|aN cu aq<|kv S 2)),?_⟩
 cbv;unfold rg at q;refine bu (λc=>?_) λc=>?_
 ·rw[if_pos (by omega)]at q;exact q
 ·rw[if_neg (by omega)]at q;exact q
def Am(D:Def K mg "product" mG):Fn P w K mg base 1 "product" ["counts"] (FZ K):=by
 have zY:DS (aj mG) ["counts","whole","count"] ["counts"] []:=aM;walk_at"hH";obtain⟨p,c,rfl,d,a,q⟩:=h;refine⟨_,(ae (bo S 1 aq)
   (ae (eY hxe hc (dW (kv S 0) rfl) (kg S 2)<|ai<|bo S 1<|aN dH (kv S 1)<|kv S 2)
   (ai<|aG<|kv S 1))),?_⟩
 cbv;refine Kh (RF H p c) d ⟨rfl,none,rfl⟩ (λi σ e h=>by rw[h.1];exact d) ?_ ?_
 ·rintro i σ e hi ⟨b,y,rfl⟩;rw[b];cbv;refine⟨(a.take i).CG.ok (a.get hi).bt (by omega),rfl,some<|.int<|c.getD i 0,?_⟩
  rw[take_snoc 0 hi,tW]
 ·rintro σ e ⟨b,y,rfl⟩;rw[b,L1];cbv;exact q
def To(B:Bn mg)(D:Def K mg "circle_guess" fJ)(DZ:Fn P w K mg base 1 "product" ["counts"] (FZ K)):Fn P w K mg base 2 "circle_guess" ["counts","hats","i"] (RH K):=by
 have zY:DS (aj fJ) ["counts","hats","i","wheel","arc","start","seen","lacking"] ["counts","hats","i"] ["product","sum","range","len"]:=aM;walk_at"hH";obtain⟨p,h,b,U,i,rfl,n,R,a,o,hi,q⟩:=h;refine⟨_,(ae (bo S 3<|bZ S 0 DZ hr<|aa<|kv S 0)
   (ae (bo S 4<|aN c7 (kv S 3)<|P6 (kv S 0)<|kv S 2)
   (ae (bo S 5 (cj S 1 (dq hc rfl) B.sum boot_sum (aa (iD S hc hsc (dW (jz (jo rfl) (kv S 0) bg<|aY<|kv S 2) rfl) (N:=["count","wheel"]) (W:=["count"]) (G:=[]) (fv:=[none,some 3]) Dk0 λI C Q s H d=>⟨(kg d 0),bp,(aN c7 (kv d 1)<|kv d 0)⟩))))
   (ae (bo S 6 (cj S 1 (dq hc rfl) B.sum boot_sum (aa (iD S hc hsc (gW S 2 B.range<|aa<|cj S 3 (aA rfl) B.len mo<|aa<|kv S 0) (N:=["j","i","hats","wheel","counts"]) (W:=["j"]) (G:=[]) (fv:=[none,some 2,some 1,some 3,some 0]) Dk0 λI C Q s H d=>⟨(kg d 0),(fu<|aL kn (kv d 0) (kv d 1)<|ao _),(aN dH (j3 (dJ rfl) (kv d 2) (kv d 0) λ_ _=>rfl)<|aN c7 (kv d 3)<|j3 (dJ rfl) (kv d 4) (kv d 0) λ_ _=>rfl)⟩))))
   (ae (bo S 7<|aN bO (aN cu (kv S 5)<|kv S 6)<|kv S 3)
   (ai<|aG<|aN bO (aN c7 (aN cu (aN aH (kv S 7)<|kv S 4) aq)<|kv S 4)<|P6 (kv S 0)<|kv S 2)))))),?_⟩
 cbv;refine⟨p,b,rfl,n,a,?_⟩;cbv;refine dM n rfl hi ?_;have y:=O0 a hi;cbv;refine⟨y,?_⟩;refine tY i n rfl hi λs u=>?_;have x:ag H (upd H s<|.tup<|(b.take i).map V.int):=ag.new u _;refine TL (λ_=>true) (λj=>pr b / (b.take i).getD j 0) (aP.of af) (aC (by have:=(a.take i).len;omega)) ?_ ?_
 ·intro j M A T hj z t _;cbv;exact⟨O0 (a.take i) hj,t rfl _<|ag.refl _⟩
 intro F H1 hn z g;rw[bE,L2.map_getD (b.take i) λc=>pr b / c]at g;refine o8 (ay.of g) ?_;rw[show((b.take i).map λc=>pr b / c).sum=dg (pr b) (b.take i)from rfl]
 have m:=x.trans z;cbv;refine aR (.inr<|m.aO n) ?_;rw[b5];refine Ry b.length (λj=>decide<|¬j=i) (λj=>U.getD j 0*(pr b / b.getD j 0)) rfl (by have:=a.len;omega) ?_ ?_
 ·intro j M A T hj v t L;cbv;rw[O1]
  by_cases f:j=i
  ·rw[cv (not_not_intro f)];cbv;exact L (by rw[cv (not_not_intro f)]) _<|ag.refl _
  ·rw[ed f];cbv;have e:=m.trans v;refine dM (e.aO R) rfl (by rw[o.len];exact hj) ?_
   refine dM (e.aO n) rfl hj ?_;cbv;exact⟨O0 a hj,(o.bt j hj).ok (ME a hj) a_,t (ed f) _<|ag.refl _⟩
 intro E J O e l;refine o8 (ay.of l) ?_;cbv;have r:=m.trans e;have X:=FP a.pos hi;refine⟨by have:=a.jI;omega,⟨by omega,(ME a hi).log (by omega) a_⟩,?_⟩
 refine dM (r.aO n) rfl hi ?_;cbv;exact⟨y.1,q J r⟩
def Tp(B:Bn mg)(D:Def K mg "group_guess" gj)(vk:Fn P w K mg base 1 "ring_guess" ["many","i","seen"] RX)(lJ:Fn P w K mg base 1 "picked" ["values","people"] (pz K))(qk:Fn P w K mg base 2 "circle_guess" ["counts","hats","i"] (RH K)):Fn P w K mg base 3 "group_guess" ["counts","groups","hats","i"] (R4 K):=by
 have zY:DS (aj gj) ["counts","groups","hats","i","kind","people","place"] ["counts","groups","hats","i"] ["circle_guess","ring_guess","picked","len"]:=aM;walk_at"hH";obtain⟨c,g,hb,v,y,ws,us,L,i,rfl,I,N,M,R,s,hn,go,hi,q⟩:=h;refine⟨_,(ae (eY hxe hc (dW (kv S 1) rfl) (kZ hc (K:=X.K) (n:=2) rfl<|aQ (kg S 4)<|aQ (kg S 5) cQ) (ai (bT (aL (yU rfl) (kv S 3) (kv S 5) (by with_unfolding_all rfl)) (ae (bo S 6<|UN PySem.F.plainAttrs_tuple slot_tuple_index PySem.F.type_tuple_index (zl rfl) rfl (kv S 5)<|aa<|kv S 3)
   (ae (bT (aL aD (kv S 4) aU<|ao _) (ai<|aG<|bZ S 1 vk hr<|ah (cj S 3 (aA rfl) B.len mo<|aa<|kv S 5)<|ah (kv S 6)<|aa<|P6 (kv S 2)<|P6 (kv S 5)<|aN bO (aN aH (kv S 6) aq)<|cj S 3 (aA rfl) B.len mo<|aa<|kv S 5) aw)
   (ai<|aG<|bZ S 0 qk hr<|ah (bZ S 2 lJ hr<|ah (kv S 0)<|aa<|kv S 5)<|ah (bZ S 2 lJ hr<|ah (kv S 2)<|aa<|kv S 5)<|aa<|kv S 6))) aw)))
   (ai<|aG aq)),?_⟩
 cbv;refine Pe (R1 X.K H c g hb L i) N M ⟨ag.refl _,λt O=>absurd O<|VE t,_,_,_,rfl⟩ (λk σ H' h=>⟨h.1.aO N,M.mono h.1⟩) ?_ ?_
 ·rintro k u p σ H1 hk o J ⟨j,f,U,T,Z,rfl⟩;have r:=go.each u<|fA hk;have d:u.2.length<=8:=hU (cE r.nd r.lt) s.len;cbv;refine Bq (a:=u.2) (.inr o) ?_
  by_cases hm:i∈u.2
  ·have W:=zo f hk hm;have eq:wA v L y i=RY v y u i:=by unfold wA;rw[W]
   rw[eq]at q;obtain⟨b,l⟩:=u;have hm:i∈l:=hm;have E:=I1 hm;rw[ed hm];cbv;refine⟨⟨p,rfl,J⟩,p,aE l,(i:Int),rfl,rfl,o,og.mpr hm,?_⟩;rw[Bp];cbv;have e:decide (kd b="ring")=b:=ui b
   (try simp only[mE,vV])
   (try simp only[e])
   (try simp only[show(kd b=("ring":Str))=(b=true)from propext ⟨λh=>by cases b<;>first|rfl|exact absurd h a_,λh=>by rw[h];rfl⟩])
   cases b with
   |true=>
    simp only[if_true];cbv;refine aR (.inr o) ?_;refine aR (.inr o) ?_;rw[b5,ak];cbv;refine⟨by omega,?_⟩
    have m:(l.idxOf i+1)%l.length<l.length:=mod_lt _ (by omega)
    have A:l.getD ((l.idxOf i+1)%l.length) 0<v.length:=r.lt _<|ez m;refine dM (k:=(l.idxOf i+1)%l.length) o (by rw[natCast_emod,natCast_add];rfl) (by rw[ak];exact m) ?_
    rw[aZ];refine dM (j.aO R) rfl (by rw[hn.1];exact A) ?_
    exact⟨l.length,l.idxOf i,_,rfl,by omega,q H1 j⟩
   |false=>
    simp only[Bool.false_eq_true,if_false];cbv;refine⟨c,p,v,l,rfl,j.aO I,o,r.lt,d,λt1 H2 G z=>?_⟩;refine⟨hb,p,y,l,rfl,(j.trans G).aO R,G.aO o,λx hx=>by rw[hn.1];exact r.lt x hx,d,λY H3 Q C=>?_⟩
    refine⟨t1,Y,pk v l,pk y l,l.idxOf i,rfl,aP.of<|Q _ _ z,aP.of C,MJ s (g:=(false,l)) ⟨r.lt,d⟩,KD s hn r.lt,by rw[uj];exact E,λH4 s4=>?_⟩
    exact q H4<|j.trans<|G.trans<|Q.trans s4
  ·rw[cv hm];cbv;refine⟨j,λt O x hx=>?_,_,_,_,rfl⟩
   by_cases e:t=k
   ·subst e;rw[hk]at hx
    cases hx
    exact hm
   ·exact f t (by omega) x hx
 ·rintro σ H1 ⟨j,f,U,T,Z,rfl⟩;cbv
  have:=q H1 j
  unfold wA at this;rw[zm f]at this;exact this
def An(B:Bn mg)(D:Def K mg "are_hats" kx):Fn P w K mg base 1 "are_hats" ["counts","hats"] (Nj K):=by
 have zY:DS (aj kx) ["counts","hats"] ["counts","hats"] ["all","len","zip"]:=aM;walk_at"hH";obtain⟨c,hb,j,a,rfl,d,l,p,q⟩:=h;refine⟨_,(ai (aG (oX (gD aD (cj S 1 (aA rfl) B.len mo<|aa<|kv S 1) (cj S 1 (aA rfl) B.len mo<|aa<|kv S 0)<|ao _) (vZ (cj S 0 (cP hc rfl) B.all boot_all (aa (iD S hc hsc (SW false false S 2 B.zip rfl<|ah (kv S 1)<|aa<|kv S 0) (N:=["colour","count"]) (W:=["colour","count"]) (G:=[]) (fv:=[none,none]) Dk0 λr C t s H f=>⟨(kZ rfl (K:=X.K) (n:=2) rfl<|aQ (kg f 0)<|aQ (kg f 1) cQ),bp,(yW kQ fq aq (kv f 0)<|kv f 1)⟩))))))),?_⟩
 cbv;refine aR (.inr l) ?_;refine aR (.inr d) ?_;rw[b5,b5];simp only[uU,vV]
 by_cases e:a.length=j.length
 ·rw[e,ed rfl];cbv;refine PL _ (λk=>.bl<|decide (0<=a.getD k 0)&&decide (a.getD k 0<j.getD k 0)) l d (ey _) (Nat.le_of_eq e) (.inl<|ey _) (aC (by omega)) ?_ ?_
  ·intro k H1 A hk m o;cbv
   have:=o H1<|ag.refl _
   by_cases g:0<=a.getD k 0
   ·rw[ed g,oo]at this;rw[if_pos g];exact this
   ·rw[cv g,qm]at this;rw[if_neg g];exact this
  ·intro i H1 hn m b;refine⟨i,(List.range a.length).map λk=>decide (0<=a.getD k 0)&&decide (a.getD k 0<j.getD k 0),rfl,ay.of (by rw[b,kb];rfl),?_⟩
   have:=q H1 m
   unfold eK at this;rw[ed e,oo]at this;rw[GM,e];exact this
 ·rw[cv (by omega)]
  cbv
  have:=q H<|ag.refl _
  unfold eK at this;rw[cv e,qm]at this;exact this
def mO:DS (aj eU) ["self","counts","web","groups"] ["self","counts","web","groups"] ["group_fault","NoGroups","len"]:=aM
variable{az:Addr}
def Iw(B:Bn mg)(ER:ml K mg Im er)(aV:eQ K mg "Hall" az ["counts","groups","worn"])(D:nJ K az "__init__" "Hall.__init__" eU)(qY:Fn P w K mg base 4 "group_fault" ["counts","web","groups"] (wD K)):nq P w K mg base 5 az "__init__" ["self","counts","web","groups"] (uG K az er):=by
 refine D.ge mO (by walk_at"hB") (by walk_at"hL") ?_
 intro X E S Z e2 O T U hc hsc I hx o hr hu H vs Q h;subst Z e2 O T U;obtain⟨x,a,c,w,g,C,J,Y,L,rfl,r,l,R,M,W,u,h8,s,A,qE,q⟩:=h;refine⟨_,(ae (bT (aL wj (bZ S 0 qY hr<|ah (kv S 1)<|ah (kv S 2)<|aa<|kv S 3) lY<|ao _) (ai (pL S 1 hc hx (ER.gl _ a_) (ER.own _ a_ a_)<|aa aU)) aw)
   (ae (Qu aV (kv S 0)<|kv S 1)
   (ae (Qu aV (kv S 0)<|kv S 3)
   (ai<|Qu aV (kv S 0)<|aN (Ho rfl) (qC<|aa aq)<|cj S 2 (aA rfl) B.len mo<|aa<|kv S 1)))),?_⟩
 cbv;refine⟨c,w,g,C,J,Y,L,rfl,l,R,M,W,u,h8,s,A,λH1 j=>?_⟩
 cases F:Eh C J [] 0 L with
 |some k=>
  show pe (.int (k:Int)) .bA H1 _;cbv;exact⟨a_,qE (by rw[F];exact λz=>nomatch z) H1 j⟩
 |none=>
  show pe .bA .bA H1 _;cbv;have b:=j _ _ r;have m:=j.aO l;refine⟨x,a,[],rfl,b,a_,x,a,Nk c,rfl,af,by show 1<_;decide,a_,λp o=>?_⟩
  rw[Dk,Dl,Jc]at o ⊢;have e:upd H1 x (.ins az a<|zL c g) x=some (.ins az a<|zL c g):=af;have v:Off x H1 (upd H1 x<|.ins az a<|zL c g):=Off.upd;have i:=m.c6 v b;generalize upd H1 x (.ins az a<|zL c g)=H2 at o e v i ⊢;have y:=ag.new o<|.tup [.int 0];refine aR (.inr<|y.aO i) ?_;rw[b5];refine⟨p,C.length,_,rfl,rfl,aP.of af,by omega,λn t N hn=>?_⟩
  have f:=N _ _<|y _ _ e;refine⟨x,a,_,rfl,f,by show 2<_;decide,?_⟩
  rw[Le];have G:Off x t (upd t x<|.ins az a<|yq c g n):=Off.upd;have d:Off x H1 (upd t x<|.ins az a<|yq c g n):=v.trans<|(y.trans N).wu.trans G;refine q F _ (j.wu.trans d) ⟨⟨a,n,af,?_⟩,m.c6 d b,(j.aO M).c6 d b⟩;rw[List.map_replicate];exact hn.c6 G f
def nM:DS (aj fM) ["self","hats"] ["self","hats"] ["are_hats","NoHats"]:=aM
def Ao(B:Bn mg)(ER:ml K mg Im er)(aV:eQ K mg "Hall" az ["counts","groups","worn"])(D:nJ K az "put_all" "Hall.put_all" fM)(AD:Fn P w K mg base 1 "are_hats" ["counts","hats"] (Nj K)):nq P w K mg base 2 az "put_all" ["self","hats"] (xa K az er):=by
 refine D.ge nM (by walk_at"hB") (by walk_at"hL") ?_
 intro X E S x z t u v hc C j hx G F hu H I Q h;subst x z t u v;obtain⟨a,hb,c,g,r,y,s,J,rfl,f,m,i,A,q⟩:=h;obtain⟨e,n,p,hn⟩:=f.ex;refine⟨_,(ae (bT (j7<|jA<|bZ S 0 AD F<|ah (w9 aV<|kv S 0)<|aa<|kv S 1) (ai (pL S 1 hc hx (ER.gl _ a_) (ER.own _ a_ a_)<|aa aU)) aw)
   (ai<|Qu aV (kv S 0)<|kv S 1)),?_⟩
 cbv;refine⟨a,e,_,_,rfl,p,mq,c,hb,r,s,rfl,f.QA,m,i,λH1 b=>?_⟩;cbv
 cases l:eK r s with
 |false=>
  cbv;exact⟨a_,A l H1 b⟩
 |true=>
  cbv;have d:=b _ _ p;refine⟨a,e,_,rfl,d,by show 3<_;decide,?_⟩
  rw[Ht];have o:Off a H1 (upd H1 a<|.ins az e<|yq c g hb):=Off.upd;exact q l _ (b.wu.trans o)<|f.off (b.wu.trans o) ⟨e,af⟩<|(b.aO m).c6 o d
def xF:DS (aj kC) ["self","i","colour"] ["self","i","colour"] ["NoName","len"]:=aM
def LL(B:Bn mg)(ER:ml K mg Im er)(aV:eQ K mg "Hall" az ["counts","groups","worn"])(D:nJ K az "put" "Hall.put" kC)(ql:nq P w K mg base 2 az "put_all" ["self","hats"] (xa K az er)):nq P w K mg base 3 az "put" ["self","i","colour"] (zM K az er):=by
 refine D.ge xF (by walk_at"hB") (by walk_at"hL") ?_
 intro X E S Y e2 L M R hc hsc y hx N hr hu H vs Q h;subst Y e2 L M R;obtain⟨a,c,g,I,b,W,i,d,rfl,s,hl0,x,A,G,q⟩:=h;obtain⟨j,n,m,hn⟩:=s.ex;refine⟨_,(ae (bT (j7<|yX kQ fq aq (kv S 1)<|cj S 1 (aA rfl) B.len mo<|aa<|w9 aV<|kv S 0) (ai (pL S 0 hc hx (ER.gl _ a_) (ER.own _ a_ a_)<|aa aU)) aw)
   (ai<|dw<|IV aV ql N hr (kv S 0)<|aa<|aN (iN rfl) (aN (iN rfl) (jz (jo rfl) (w9 aV<|kv S 0) bg<|aY<|kv S 1)<|qC<|aa<|kv S 2)<|jz (jo rfl) (w9 aV<|kv S 0) (aY<|aN aH (kv S 1) aq) bg)),?_⟩
 cbv;refine bu (λl=>?_) (λl=>⟨a_,A (λz=>l z.1) H<|ag.refl _⟩)
 refine⟨a,j,_,_,rfl,m,mq,?_⟩;refine aR (.inr s.QA) ?_;rw[b5];cbv
 by_cases h1:i<(I.length:Int)
 ·rw[ed h1];cbv;obtain⟨k,rfl⟩:∃k:Nat,i=(k:Int):=⟨i.toNat,by omega⟩
  have hk:k<b.length:=by omega
  rw[ri]at G q;refine⟨a,j,_,rfl,m,jN,a,j,_,_,rfl,m,oy,?_⟩;refine tY k hn rfl (by omega) λt1 p=>?_
  have Z:=ag.new p<|.tup<|(b.take k).map V.int;cbv;refine⟨a_,λt2 u=>?_⟩
  have C:=ag.new u<|.tup [.int d];refine t9 (ns:=b.take k) (ms:=[d]) (aP.of<|C _ _ af) (aP.of af) (cw (by rw[rr];show _+1<=100;omega)) λt3 H3 s3 h3=>?_
  have e:=Z.trans<|C.trans s3;have r:=e _ _ m;refine⟨a,j,_,_,rfl,r,oy,?_⟩;refine tZ k (e.aO hn) (by omega) (by omega) λt4 t=>?_
  have F:=ag.new t<|.tup<|(b.drop<|k+1).map V.int;refine t9 (ns:=b.take k++[d]) (ms:=b.drop<|k+1) (F.aO h3) (aP.of af) (cw (by rw[eR,rr,q5];show _+1+_<=100;omega)) λT H5 U J=>?_
  have f:=e.trans<|F.trans U;have es:b.take k++[d]++b.drop (k+1)=b.set k d:=by
   rw[List.set_eq_take_append_cons_drop,if_pos hk,A4];rfl
  rw[es]at J;exact⟨a,T,c,g,I,b,b.set k d,W,rfl,s.mono f,J,x,λz o s6=>G ⟨l,h1⟩ z o<|f.trans s6,λz o O v=>q ⟨l,h1⟩ z o (f.wu.trans O) v⟩
 ·rw[cv h1];cbv;exact⟨a_,A (λz=>h1 z.2) H<|ag.refl _⟩
def DL(B:Bn mg)(aV:eQ K mg "Hall" az ["counts","groups","worn"])(D:nJ K az "guess" "Hall.guess" ij)(qZ:Fn P w K mg base 3 "group_guess" ["counts","groups","hats","i"] (R4 K)):nq P w K mg base 4 az "guess" ["self","i"] (lA K az):=by
 have zY:DS (aj ij) ["self","i"] ["self","i"] ["group_guess"]:=aM;walk_at"hH";obtain⟨a,c,g,o,r,p,m,L,i,rfl,f,l,e,s,j,hi,q⟩:=h;obtain⟨b,n,d,hn⟩:=f.ex;refine⟨_,(ai<|aG<|bZ S 0 qZ hr<|ah (w9 aV<|kv S 0)<|ah (w9 aV<|kv S 0)<|ah (w9 aV<|kv S 0)<|aa<|kv S 1),?_⟩;cbv;exact⟨a,b,_,_,rfl,d,mq,a,b,_,_,rfl,d,sW,a,b,_,_,rfl,d,oy,c,g,n,o,r,p,m,L,i,rfl,f.QA,f.Tv,l,hn,e,s,j,hi,q⟩
def mP(K:Frag)(C:Addr):Sp:=λb H Q _=>∃(a c g:Addr) (cs hs:e_) (ws:d_) (us:u_) (L:B0L),b=[.ref a]/\cG K C H a c g cs us hs/\GF K H us L/\b9 cs/\HN cs hs cs.length/\CT cs ws L/\∀(l:Addr) (H':Hp),ag H H'->H l=none->H' l=some (.lst<|(aE<|eL cs hs L).map V.int)->Q (.ref l) H'
def DM(B:Bn mg)(aV:eQ K mg "Hall" az ["counts","groups","worn"])(D:nJ K az "right" "Hall.right" ik)(dQ:nq P w K mg base 4 az "guess" ["self","i"] (lA K az)):nq P w K mg base 5 az "right" ["self"] (mP K az):=by
 have zY:DS (aj ik) ["self"] ["self"] ["enumerate"]:=aM;walk_at"hH";obtain⟨a,c,g,r,j,J,F,L,rfl,v,E,f,l,z,q⟩:=h;obtain⟨t,n,y,hn⟩:=v.ex;refine⟨_,(ai (aG (iD S hc hsc (Dv false S 0 B.enumerate rfl<|aa<|w9 aV<|kv S 0) (N:=["i","colour","self"]) (W:=["i","colour"]) (G:=[]) (fv:=[none,none,some 0]) Dk0 λQ C R s H d=>⟨(kZ rfl (K:=X.K) (n:=2) rfl<|aQ (kg d 0)<|aQ (kg d 1) cQ),(fu<|aL aD (IV aV dQ gM hr (kv d 2)<|aa<|kv d 0) (kv d 1)<|ao _),(kv d 0)⟩))),?_⟩
 cbv;refine⟨a,t,_,_,rfl,y,oy,?_⟩;refine S0 (λi=>decide<|wA r L j i=j.getD i 0) (λi=>(i:Int)) hn (by rw[l.1];exact aC (by have:=f.len;omega)) ?_ ?_
 ·intro i H1 A T hi o p M;rw[l.1]at hi;cbv;refine⟨a,t,_,rfl,o _ _ y,jN,a,c,g,r,j,J,F,L,i,rfl,v.mono o,E.mono o,f,l,z,hi,λu x=>?_⟩;cbv
  by_cases e:wA r L j i=j.getD i 0
  ·rw[if_pos e];exact p (ed e) u x
  ·rw[if_neg e];exact M (cv e) u x
 ·intro m H1 I O b;rw[l.1]at b;exact q m H1 O I b
def LM(D:Def K mg "fits" Aj)(gQ:Fn P w K mg base 1 "is_name" ["word"] lj)(kE:Fn P w K mg base 1 "is_count" ["word"] me):Fn P w K mg base 2 "fits" ["part","word"] HP:=by
 have zY:DS (aj Aj) ["part","word"] ["part","word"] ["is_name","is_count"]:=aM;walk_at"hH";obtain⟨p,z,rfl,b,q⟩:=h;unfold eX at q;refine⟨_,(ae (bT (aL aD (kv S 0) aU<|ao _) (ai<|aG<|bZ S 0 gQ hr<|aa<|kv S 1) aw)
   (ai<|aG<|Vb (gD aD (kv S 1) aU<|ao _)<|vZ<|bZ S 1 kE hr<|aa<|kv S 1)),?_⟩
 cbv;refine bu (λc=>?_) λc=>?_
 ·rw[if_pos c]at q;exact⟨z,rfl,b,q⟩
 ·rw[if_neg c]at q;refine bu (λa=>?_) λa=>?_
  ·rw[ed a,Bool.true_or]at q;exact q H<|ag.refl _
  ·rw[cv a,Bool.false_or]at q;exact⟨z,rfl,b,q⟩
variable{aF:Addr}{eF:Nat->Addr}
def Iy(B:Bn mg)(FT:uM P w K mg aF eF)(D:Def K mg "is_ask" pY)(Qj:Fn P w K mg base 2 "fits" ["part","word"] HP):Fn P w K mg base 3 "is_ask" ["words"] (xx K):=by
 have zY:DS (aj pY) ["words","form","behind"] ["words"] ["FORMS","all","len","zip"]:=aM;walk_at"hH";obtain⟨p,j,b,rfl,m,L,I,q⟩:=h;refine⟨_,(ae (bT (SR FT.Qz (bS<|kv S 0) (SO S 0 FT.gl) (by with_unfolding_all rfl)) (ai<|aG yp) aw)
   (ae (bo S 1<|SQ FT.Qz (SO S 0 FT.gl)<|bS<|kv S 0)
   (ae (bo S 2<|jz (cp rfl) (kv S 0) (aY aq) bg)
   (ai (aG (oX (gD aD (cj S 2 (aA rfl) B.len mo<|aa<|kv S 2) (cj S 2 (aA rfl) B.len mo<|aa<|kv S 1)<|ao _) (vZ (cj S 1 (cP hc rfl) B.all boot_all (aa (iD S hc hsc (SW false true S 3 B.zip rfl<|ah (kv S 1)<|aa<|kv S 2) (N:=["part","word"]) (W:=["part","word"]) (G:=["fits"]) (fv:=[none,none]) Dk0 λJ C O s H d=>⟨(kZ rfl (K:=X.K) (n:=2) rfl<|aQ (kg d 0)<|aQ (kg d 1) cQ),bp,(bZ d 0 Qj hr<|ah (kv d 0)<|aa<|kv d 1)⟩)))))))))),?_⟩
 cbv;refine au (i:=((0:Nat):Int)) m (ax rfl) ?_;refine⟨.inr j,trivial,rfl,?_⟩
 rcases Ad FT j b with ⟨l,r⟩|⟨x,f,l,hx,zL,r⟩
 ·rw[l];cbv;rw[r]at q;exact q H<|ag.refl _
 rw[l];cbv;rw[if_neg (by simp)]
 refine au (i:=((0:Nat):Int)) m (ax rfl) ?_;refine⟨.inr j,_,trivial,rfl,l,?_⟩;refine⟨p,_,rfl,m,λa F=>?_⟩;rw[show(some (1:Int))=some ((1:Nat):Int)from rfl,cZ,<-Vu]
 have t:=ag.new F<|.lst<|b.map V.str;refine aR (.inl<|ay.of af) ?_;refine aR (.inr<|hx _) ?_;rw[b5,b5];simp only[uU,vV];have E:(j::b).drop 1=b:=rfl;rw[E];rw[r]at q
 by_cases e:b.length=f.length
 rotate_left
 ·rw[if_neg (by rw[ka];omega)]
  rw[cv e,qm]at q
  try rw[cv (show ¬((b.length:Nat):Int)=((f.length:Nat):Int) by omega)]
  exact q _ t
 rw[ed e,oo]at q;rw[if_pos (ed (by omega))]
 refine SY (λi=>.bl<|eX (f.getD i aX)<|b.getD i aX) (hx _) (ay.of af) (by rw[b5,b5];exact e.symm) (by rw[b5];exact aC (by omega)) ?_ ?_
 ·intro i H1 A hi M v;rw[b5]at hi;have g:i<b.length:=by omega
  rw[show(f.map V.str).getD i .bA=.str (f.getD i aX) by rw[b4,aT hi];rfl,show(b.map V.str).getD i .bA=.str (b.getD i aX) by rw[b4,aT g];rfl]
  cbv;exact⟨_,_,rfl,I _<|getD_memS g,λu z=>v u z⟩
 ·intro o H1 hn y c;rw[b5]at c;refine⟨o,(List.range f.length).map λi=>eX (f.getD i aX)<|b.getD i aX,rfl,ay.of (by rw[c,kb];rfl),?_⟩
  rw[GM];exact q H1<|t.trans y
def u6:DS (aj i4) ["names","name"] ["names","name"] ["NoName"]:=aM
def P9(B:Bn mg)(ER:ml K mg Im er)(D:Def K mg "number_of" i4):TQ P w K mg base 1 "number_of" ["names","name"] (Nr K er):=by
 refine D.ge u6 (by walk_at"hB") (by walk_at"hL") ?_
 intro X E S l f e g i hc n d hx o s hu H r Q h;subst l f e g i;obtain⟨p,c,z,rfl,a,b,j,q⟩:=h;refine⟨_,(ae (bT (aL (et rfl) (kv S 1) (kv S 0) (by with_unfolding_all rfl)) (ai (pL S 0 hc hx (ER.gl _ a_) (ER.own _ a_ a_)<|aa aU)) aw)
   (ai<|aG<|UN PySem.F.plainAttrs_tuple slot_tuple_index PySem.F.type_tuple_index (zS rfl) rfl (kv S 0)<|aa<|kv S 1)),?_⟩
 cbv;refine mf (neg:=true) (.inr a) ?_
 by_cases m:z∈c
 ·rw[if_pos rfl,ed m];cbv;exact⟨⟨p,rfl,b⟩,p,c,z,rfl,rfl,a,m,q m H<|ag.refl _⟩
 ·rw[if_pos rfl,cv m];cbv;exact⟨a_,j m H<|ag.refl _⟩
def DO(B:Bn mg)(D:Def K mg "named" lH):Fn P w K mg base 1 "named" ["names","people"] (xn K):=by
 have zY:DS (aj lH) ["names","people"] ["names","people"] ["len"]:=aM;walk_at"hH";obtain⟨p,f,v,l,rfl,r,L,g,q⟩:=h;refine⟨_,(ae (bT (qD<|My (aL n9 (kv S 1) lY<|ao _)<|v3<|aL aD (cj S 0 (aA rfl) B.len mo<|aa<|kv S 1) aq<|ao _) (ai<|aG<|dc bI) aw)
   (ai (aG (dc (aa (gU ro Do Gc (bC rfl) rfl aU (aa (iD S hc hsc (dW (kv S 1) rfl) (N:=["i","names"]) (W:=["i"]) (G:=[]) (fv:=[none,some 0]) Dk0 λO C Q s H n=>⟨(kg n 0),bp,(j3 (dJ rfl) (kv n 1) (kv n 0) λ_ _=>rfl)⟩)))))))),?_⟩
 rcases L with ⟨rfl,rfl⟩|⟨a,rfl,o⟩
 ·cbv;refine⟨a_,λt d=>?_⟩
  exact q t _ (ag.new d _) d af
 ·cbv;refine aR (.inr o) ?_;rw[b5,ak];cbv;refine bu (λc=>?_) λc=>?_
  ·have e:l=[]:=VC.mp (by omega)
   subst e;refine⟨a_,λt d=>?_⟩
   exact q t _ (ag.new d _) d af
  ·have e:l≠[]:=λz=>c (by rw[z];rfl)
   cbv;refine⟨rfl,a,rfl,⟨_,o⟩,qF (gB o) (λ_=>true) (λi=>.str<|f.getD (l.getD i 0) aX) (by rw[b5,ak];exact aC (by have:=g.eD;omega)) ?_ ?_⟩
   ·intro i H1 A R hi I J _;rw[b5,ak]at hi;rw[dB hi];cbv;refine br (I.aO r) (ax<|aT<|g.lt _<|dC hi) ?_;exact J rfl _<|ag.refl _
   intro m H1 hn y b;rw[bE,b5,ak,cL λj=>V.str<|f.getD j aX,show(l.map λj=>V.str<|f.getD j aX)=(l.map λj=>f.getD j aX).map V.str by rw[kb];rfl]at b
   have u:=namesW g;have M:=g.eD;have h1:=dD 32 12 _ u;have E:=dN 12 _ u;rw[b5]at h1 E;have x:(1000:Nat)<=sizeLine:=by decide
   refine⟨_,m,l.map λj=>f.getD j aX,rfl,rfl,ay.of b,?_,?_,?_⟩
   ·rw[aW];show((l.map λj=>f.getD j aX).map λz=>z.length+1).sum<=_
    omega
   ·rw[aW];omega
   rw[aW];refine⟨a_,λt d=>?_⟩
   refine q t _ (y.trans<|ag.new d _) (y.free d) ?_;rw[af];unfold dZ;rw[if_neg e];rfl
def DP(B:Bn mg)(D:Def K mg "named" lH):Fn P w K mg base 1 "named" ["names","people"] (xo K):=by
 have zY:DS (aj lH) ["names","people"] ["names","people"] ["len"]:=aM;walk_at"hH";obtain⟨p,a,d,l,rfl,r,o,g,q⟩:=h;refine⟨_,(ae (bT (qD<|My (aL n9 (kv S 1) lY<|ao _)<|v3<|aL aD (cj S 0 (aA rfl) B.len mo<|aa<|kv S 1) aq<|ao _) (ai<|aG<|dc bI) aw)
   (ai (aG (dc (aa (gU ro Do Gc (bC rfl) rfl aU (aa (iD S hc hsc (cC (kv S 1) rfl) (N:=["i","names"]) (W:=["i"]) (G:=[]) (fv:=[none,some 0]) Dk0 λL C M s H n=>⟨(kg n 0),bp,(j3 (dJ rfl) (kv n 1) (kv n 0) λ_ _=>rfl)⟩)))))))),?_⟩
 cbv;refine aR (.inl o) ?_;rw[b5,ak];cbv;refine bu (λc=>?_) λc=>?_
 ·have e:l=[]:=VC.mp (by omega)
  subst e;refine⟨a_,λt f=>?_⟩
  exact q t _ (ag.new f _) f af
 ·have e:l≠[]:=λz=>c (by rw[z];rfl)
  cbv;refine⟨rfl,a,rfl,⟨_,o⟩,qF (bV o) (λ_=>true) (λi=>.str<|d.getD (l.getD i 0) aX) (by rw[b5,ak];exact aC (by have:=g.eD;omega)) ?_ ?_⟩
  ·intro i H1 A O hi E I _;rw[b5,ak]at hi;rw[dB hi];cbv;refine br (E.aO r) (ax<|aT<|g.lt _<|dC hi) ?_;exact I rfl _<|ag.refl _
  intro m H1 hn x b;rw[bE,b5,ak,cL λj=>V.str<|d.getD j aX,show(l.map λj=>V.str<|d.getD j aX)=(l.map λj=>d.getD j aX).map V.str by rw[kb];rfl]at b
  have u:=namesW g;have J:=g.eD;have h1:=dD 32 12 _ u;have y:=dN 12 _ u;rw[b5]at h1 y;have v:(1000:Nat)<=sizeLine:=by decide
  refine⟨_,m,l.map λj=>d.getD j aX,rfl,rfl,ay.of b,?_,?_,?_⟩
  ·rw[aW];show((l.map λj=>d.getD j aX).map λz=>z.length+1).sum<=_
   omega
  ·rw[aW];omega
  rw[aW];refine⟨a_,λt f=>?_⟩
  refine q t _ (x.trans<|ag.new f _) (x.free f) ?_;rw[af];unfold dZ;rw[if_neg e];rfl
def LN(D:Def K mg "shown_share" gr)(vg:Fn P w K mg base 2 "share" ["counts"] (uc K)):Fn P w K mg base 3 "shown_share" ["counts"] (HQ K):=by
 have zY:DS (aj gr) ["counts","told","over","under"] ["counts"] ["share"]:=aM;walk_at"hH";obtain⟨p,b,rfl,e,a,q⟩:=h;refine⟨_,(ae (bo S 1<|bZ S 0 vg hr<|aa<|kv S 0)
   (ae (bo S 2<|kK<|kv S 1)
   (ae (bo S 3<|kK<|kv S 1)
   (ai<|aG<|MU<|hJ (K5<|kv S 2)<|hJ aU<|hJ (K5<|kv S 3) Hb)))),?_⟩
 cbv;refine⟨p,b,rfl,e,a,λt H1 j d=>?_⟩;refine br (i:=((0:Nat):Int)) (aP.of d) (ax rfl) ?_;refine br (i:=((1:Nat):Int)) (aP.of d) (ax rfl) ?_;obtain⟨l,f⟩:=dk (zb a) (OX a) a_
 obtain⟨n,g⟩:=dk (show 0<=Qq b by have:=o9 a;omega) (FX a) a_
 have c:(1000:Nat)<=sizeLine:=by decide
 have m:("/":Str).length=1:=by decide +kernel
 have le:∀i,(Str.ofString<|toString i)=fg i:=λ_=>rfl;cbv;refine .inr ⟨_,rfl,f,_,rfl,?_,?_⟩
 ·rw[le,empty_app];omega
 cbv;refine⟨_,rfl,?_,?_⟩
 ·rw[le,empty_app,av];omega
 refine .inr ⟨_,rfl,g,_,rfl,?_,?_⟩
 ·rw[le,le,empty_app,av,av];omega
 cbv;refine⟨?_,?_⟩
 ·rw[le,le,empty_app,av,av];omega
 rw[le,le,empty_app];exact q H1 j
def Qa(B:Bn mg)(D:Def K mg "shown_group" gs):Fn P w K mg base 1 "shown_group" ["names","kind","people"] (Nt K):=by
 have zY:DS (aj gs) ["names","kind","people"] ["names","kind","people"] []:=aM;walk_at"hH";obtain⟨p,a,c,⟨b,l⟩,rfl,v,J,o,q⟩:=h;have u:l.length<=8:=o.eD;refine⟨_,(ai (aG (gU ro Do Gc (bC rfl) rfl aU (aa (aN (bW rfl) (dc<|aa<|kv S 1) (iD S hc hsc (dW (kv S 2) rfl) (N:=["i","names"]) (W:=["i"]) (G:=[]) (fv:=[none,some 0]) Dk0 λX C Y s H n=>⟨(kg n 0),bp,(j3 (dJ rfl) (kv n 1) (kv n 0) λ_ _=>rfl)⟩)))))),?_⟩
 cbv;refine⟨rfl,a_,λt T=>?_⟩
 have f:=ag.new T<|.lst [.str (kd b)];have e:upd H t (.lst [.str (kd b)]) t=some (.lst [.str (kd b)]):=af;generalize upd H t (.lst [.str (kd b)])=H1 at f e ⊢;refine⟨a,rfl,⟨_,f.aO J⟩,qF (gB<|f.aO J) (λ_=>true) (λi=>.str<|c.getD (l.getD i 0) aX) (by rw[b5,ak];exact aC (hU u a_)) ?_ ?_⟩
 ·intro i M A Z hi O Q _;rw[b5,ak]at hi;rw[dB hi];cbv;refine br (O.aO<|f.aO v) (ax<|aT<|o.lt _<|dC hi) ?_;exact Q rfl _<|ag.refl _
 intro g M hn I d;rw[bE,b5,ak,cL λj=>V.str<|c.getD j aX,show(l.map λj=>V.str<|c.getD j aX)=(l.map λj=>c.getD j aX).map V.str by rw[kb];rfl]at d
 have U:[V.str (kd b)]++(l.map λj=>c.getD j aX).map V.str=(kd b::l.map λj=>c.getD j aX).map V.str:=rfl;refine⟨t,g,_,_,rfl,rfl,ay.of<|I _ _ e,ay.of d,by rw[b5,b5];exact cw (by show 1+_<=100;omega),λR r=>?_⟩
 rw[U];have m:=ag.new r<|.lst<|(kd b::l.map λj=>c.getD j aX).map V.str;have y:∀x∈kd b::l.map (λj=>c.getD j aX),x.length<=12:=λx hx=>by
  rcases gz.mp hx with rfl|hx
  ·cases b<;>decide +kernel
  ·exact namesW o x hx
 have h1:=dD 32 12 _ y;have L:=dN 12 _ y;rw[kf,b5]at h1 L;have E:(1000:Nat)<=sizeLine:=by decide
 refine⟨_,R,_,rfl,rfl,ay.of af,?_,?_,?_⟩
 ·rw[aW];show((kd b::l.map λj=>c.getD j aX).map λz=>z.length+1).sum<=_
  omega
 ·rw[aW];omega
 rw[aW];exact q _<|f.trans<|I.trans m
def DR(B:Bn mg)(D:Def K mg "told_of" mL)(ji:Fn P w K mg base 5 "made_sure" ["counts","groups"] (zj K))(rf:Fn P w K mg base 3 "shown_share" ["counts"] (HQ K))(rh:Fn P w K mg base 1 "shown_group" ["names","kind","people"] (Nt K))(oE:Fn P w K mg base 1 "named" ["names","people"] (xn K))(il:Fn P w K mg base 3 "sight_ring" ["web"] (Ab K))(rj:Fn P w K mg base 3 "sight_order" ["web"] (RN K))(vm:Fn P w K mg base 2 "shown_book" ["book"] (xi K))(mS:Fn P w K mg base 1 "rows_of" ["text"] zB):Fn P w K mg base 6 "told_of" ["book","groups","ask"] (B1 K):=by
 have zY:DS (aj mL) ["book","groups","ask","names","counts","web"] ["book","groups","ask"] ["str","made_sure","shown_share","named","sight_ring","sight_order","rows_of","shown_book"]:=aM;walk_at"hH";obtain⟨b,g,j,F,u,us,L,hs,k,rfl,hb,I,hL,D,q⟩:=h;obtain⟨a1,a2,a3,Z,h1,h1t,h2,h3⟩:=id hb;have P:=D.qU;have R:=P.xp;have h8:=P.nm.eD;refine⟨_,(ae (bo S 3<|kK<|kv S 0)
   (ae (bo S 4<|kK<|kv S 0)
   (ae (bo S 5<|kK<|kv S 0)
   (ae (bT (aL aD (kv S 2) aU<|ao _) (ai<|aG<|dc<|aa<|iG S 0 bK B.str boot_str<|aa<|bZ S 1 ji hr<|ah (kv S 4)<|aa<|kv S 1) aw)
   (ae (bT (aL aD (kv S 2) aU<|ao _) (ai<|aG<|dc<|aa<|bZ S 2 rf hr<|aa<|kv S 4) aw)
   (ae (bT (aL aD (kv S 2) aU<|ao _) (ai (aG (iD S hc hsc (dW (kv S 1) rfl) (N:=["kind","people","names"]) (W:=["kind","people"]) (G:=["shown_group"]) (fv:=[none,none,some 3]) Dk0 λcl C fp s H E=>⟨(kZ rfl (K:=X.K) (n:=2) rfl<|aQ (kg E 0)<|aQ (kg E 1) cQ),bp,(bZ E 0 rh hr<|ah (kv E 2)<|ah (kv E 0)<|aa<|kv E 1)⟩))) aw)
   (ae (bT (aL aD (kv S 2) aU<|ao _) (ai<|aG<|bZ S 3 oE hr<|ah (kv S 3)<|aa<|bZ S 4 il hr<|aa<|kv S 5) aw)
   (ae (bT (aL aD (kv S 2) aU<|ao _) (ai<|aG<|bZ S 3 oE hr<|ah (kv S 3)<|aa<|bZ S 5 rj hr<|aa<|kv S 5) aw)
   (ai<|aG<|bZ S 6 mS hr<|aa<|bZ S 7 vm hr<|aa<|kv S 0))))))))),?_⟩
 walk_at"i";refine br (i:=((0:Nat):Int)) Z (ax rfl) ?_;walk_at"i";refine br (i:=((1:Nat):Int)) Z (ax rfl) ?_;walk_at"i";refine br (i:=((2:Nat):Int)) Z (ax rfl) ?_;lia;have bf:∀g∈L,Kw (aE F).length g:=λg I=>⟨(D.best.1.each g I).ok.lt,D.g8 g I⟩;have hfew:=D.eD
 cases k with
 |sure=>
  walk_at"h";rw[if_pos (show iA .sure=("sure":Str)from rfl)]
  refine⟨_,_,_,us,L,rfl,h2,I,hL.gl,R,bf,by omega,λH1 d=>?_⟩
  have hsum:=D.best.1.sum;have U:0<=(L.map<|qt<|aE F).sum:=D.best.1.nn;have e1:(L.map<|sF<|aE F).sum=(L.map<|qt<|aE F).sum:=rfl;rw[e1];lia;obtain⟨c1,c2⟩:=dk U (D.Ls) a_
  refine⟨_,rfl,c2,?_⟩;lia;refine⟨a_,λt O=>?_⟩
  exact q t _ _ (d.trans<|ag.new O _) (d.free O) af rfl
 |share=>
  walk_at"h";rw[if_neg (show ¬iA .share=("sure":Str) by decide)]
  walk_at"h";rw[if_pos (show iA .share=("share":Str)from rfl)]
  refine⟨_,_,rfl,h2,R,λH1 d=>?_⟩;lia;refine⟨a_,λt O=>?_⟩
  exact q t _ _ (d.trans<|ag.new O _) (d.free O) af rfl
 |groups=>
  walk_at"h";rw[if_neg (show ¬iA .groups=("sure":Str) by decide)]
  walk_at"h";rw[if_neg (show ¬iA .groups=("share":Str) by decide)]
  walk_at"h";rw[if_pos (show iA .groups=("groups":Str)from rfl)]
  refine S8 (λg=>.str<|xm j g) I hL.gl (aC (by omega)) ?_ ?_
  ·intro i gg p H1 A hi hS hp hA;lia;exact⟨_,p,j,gg,rfl,hS.aO h1,hp,D.names<|fA hi,λf m=>hA f m⟩
  ·intro Y H1 ab d M;exact q Y (L.map<|xm j) H1 d ab (by rw[M,kb];rfl) rfl
 |ring=>
  walk_at"h";rw[if_neg (show ¬iA .ring=("sure":Str) by decide)]
  walk_at"h";rw[if_neg (show ¬iA .ring=("share":Str) by decide)]
  walk_at"h";rw[if_neg (show ¬iA .ring=("groups":Str) by decide)]
  walk_at"h";rw[if_pos (show iA .ring=("ring":Str)from rfl)]
  refine⟨_,u,rfl,h3,by rw[P.lw];exact h8,P.Nu,λH1 d=>⟨λc=>?_,λc r o y oc od J=>?_⟩⟩
  ·exact⟨_,j,_,[],rfl,d.aO h1,.inl ⟨rfl,rfl⟩,⟨P.Qx,(λ_ z=>nomatch z),zero_le _⟩,λa f m x e=>q a _ f (d.trans m) (d.free x) e<|.inl ⟨c,rfl⟩⟩
  ·exact⟨_,j,_,nB u,rfl,d.aO h1,.inr ⟨r,rfl,.inl<|.inr ⟨o,y⟩⟩,BW P J,λa f m x e=>q a _ f (d.trans m) (d.free x) e<|.inr ⟨c,rfl,J⟩⟩
 |order=>
  walk_at"h";rw[if_neg (show ¬iA .order=("sure":Str) by decide)]
  walk_at"h";rw[if_neg (show ¬iA .order=("share":Str) by decide)]
  walk_at"h";rw[if_neg (show ¬iA .order=("groups":Str) by decide)]
  walk_at"h";rw[if_neg (show ¬iA .order=("ring":Str) by decide)]
  walk_at"h";rw[if_pos (show iA .order=("order":Str)from rfl)]
  refine⟨_,u,rfl,h3,by rw[P.lw];exact h8,λH1 d=>⟨λc=>?_,λc r y=>?_⟩⟩
  ·exact⟨_,j,_,[],rfl,d.aO h1,.inl ⟨rfl,rfl⟩,⟨P.Qx,(λ_ z=>nomatch z),zero_le _⟩,λa f m x e=>q a _ f (d.trans m) (d.free x) e<|.inl ⟨c,rfl⟩⟩
  ·exact⟨_,j,_,laidOut u,rfl,d.aO h1,.inr ⟨r,rfl,aP.of y⟩,pQ P,λa f m x e=>q a _ f (d.trans m) (d.free x) e<|.inr ⟨c,rfl⟩⟩
 |book=>
  walk_at"h";rw[if_neg (show ¬iA .book=("sure":Str) by decide)]
  walk_at"h";rw[if_neg (show ¬iA .book=("share":Str) by decide)]
  walk_at"h";rw[if_neg (show ¬iA .book=("groups":Str) by decide)]
  walk_at"h";rw[if_neg (show ¬iA .book=("ring":Str) by decide)]
  walk_at"h";rw[if_neg (show ¬iA .book=("order":Str) by decide)]
  lia;refine⟨b,j,F,u,rfl,hb,P,λH1 d=>?_⟩;have hM:=cU P;have hML:(bh j u).length<=16:=hU fm (by omega)
  have Q:((bh j u).map<|fk j F).length<=100:=by rw[b5];omega
  have hbl:=fj (hM.lx P) Q;have v:=fF<|hM.lx P;refine⟨_,rfl,by omega,by rw[v,b5];omega,λl f m T hl=>?_⟩
  exact q l _ f (d.trans m) (d.free T) hl rfl
def mQ:DS (aj bQ) ["self","text","counts","web"] ["self","text"] ["read_book","Hall","best_groups"]:=aM
def mR:bindM "__init__" "Desk.__init__" bQ "self" "text":=λT kV a b d c ct u v=>⟨⟨_,by with_unfolding_all rfl,λ_=>by with_unfolding_all rfl⟩,⟨_,by with_unfolding_all rfl,λ_=>by with_unfolding_all rfl⟩⟩
variable{aI:Addr}
def Iz(B:Bn mg)(ER:ml K mg Im er)(aV:eQ K mg "Hall" az ["counts","groups","worn"])(bD:eQ K mg "Desk" aI ["book","hall"])(D:xh K aI "__init__" "Desk.__init__" bQ "")(xP:Fn P w K mg base 4 "read_book" ["text"] (BU K))(rn:Fn P w K mg base 7 "best_groups" ["counts","web"] (SI K))(eV:nq P w K mg base 5 az "__init__" ["self","counts","web","groups"] (uG K az er)):Ll P w K mg base 8 aI "__init__" "self" "text" "" (uP K az aI):=by
 refine D.gq mQ mR (by walk_at"hL") ?_
 walk_at"hI";obtain⟨x,d,M,ns,l,G,rfl,hx,hM,Y,hb,P,q⟩:=h;refine⟨_,(ae (Qu bD (kv S 0)<|bZ S 0 xP hr<|aa<|kv S 1)
   (ae (bo S 2<|kK<|w9 bD<|kv S 0)
   (ae (bo S 3<|kK<|w9 bD<|kv S 0)
   (ai<|Qu bD (kv S 0)<|UW S 1 aV eV gM hr<|ah (kv S 2)<|ah (kv S 3)<|aa<|bZ S 2 rn hr<|ah (kv S 2)<|aa<|kv S 3)))),?_⟩
 walk_at"i";refine⟨M,_,rfl,hM,Y,hb,λt H1 I ht=>?_⟩;have s:=I _ _ hx;lia;refine⟨x,d,[],rfl,s,a_,?_⟩
 rw[Lo];have r:Off x H1 (upd H1 x<|.ins aI d<|xj t):=Off.upd;have a:upd H1 x (.ins aI d<|xj t) x=some (.ins aI d<|xj t):=af;have o:=ht.c6 r s;generalize upd H1 x (.ins aI d<|xj t)=H2 at r a o ⊢;obtain⟨a1,a2,a3,h0,h1,h1t,h2,h3⟩:=id o;walk_at"i";refine lF (a) xk ?_;refine br (i:=((1:Nat):Int)) h0 (ax rfl) ?_;walk_at"i";refine lF (a) xk ?_;refine br (i:=((2:Nat):Int)) h0 (ax rfl) ?_;lia;have v:=P.xp;have p:G.length=(aE l).length:=by rw[P.lw,P.len]
 refine⟨_,_,aE l,G,rfl,h2,h3,v,p,P.Nu,λg U L N J hg hL hB=>?_⟩;intro y m hy Z R;have h8:=P.nm.eD;have D:bx ns l G L (List.replicate l.length 0):=by
  refine⟨P,hB,?_⟩;rw[show(List.replicate l.length (0:Int))=List.replicate (aE l).length 0 by rw[ak]]
  exact HN.PH v.pos
 have A:ag N (upd (upd N m<|.own y) y<|.ins az m []):=(ag.new Z _).trans (ag.new (by rw[aK (Ne.symm R)];exact hy) _)
 have j:upd (upd N m<|.own y) y (.ins az m []) y=some (.ins az m []):=af;generalize upd (upd N m<|.own y) y (.ins az m [])=H4 at A j ⊢;have c:=J.trans A;refine⟨y,m,_,_,g,aE l,G,U,gI L,rfl,j,c.aO h2,c.aO h3,A.aO hg,(hL.mono A).gi,p,by rw[P.len];exact h8,?_,by rw[Hw];have:=D.eD;omega,λz=>absurd (xq hB.1) z,λ_ C F hH=>⟨rfl,?_⟩⟩
 ·intro z hz;unfold gI at hz;obtain⟨g0,hg0,rfl⟩:=kc.mp hz
  have:=D.g8 g0 hg0
  show(aE g0.2).length<=30;rw[ak];omega
 have Q:=c _ _ a;have yx:y≠x:=λe=>by
  have:=J _ _ a
  rw[<-e,hy]at this;cases this
 have f:=F x _ yx.symm Q;refine⟨x,d,_,rfl,f,by show 1<_;decide,?_⟩
 rw[Lp];have E:Off x C (upd C x<|.ins aI d<|Lm t y):=Off.upd;have hbk:=((o.mono c).c6 F j).c6 E f;have ab:=((hL.mono A).c6 F j).c6 E f;have W:Off x H (upd C x<|.ins aI d<|Lm t y):=λb u n e=>by
  have e4:=c _ _<|r b u n<|I _ _ e;have by':b≠y:=λz=>by
   have:=J _ _<|r b u n<|I _ _ e
   rw[z,hy]at this;cases this
  exact E b u n (F b u by' e4)
 have O:cG X.K az C y a2 g (aE l) U (List.replicate l.length 0):=by rw[ak]at hH;exact hH
 have T:H y=none:=by
  cases e:H y with
  |none=>rfl
  |some u=>
   have:=J _ _<|r y u yx<|I _ _ e
   rw[hy]at this;cases this
 exact q _ y L W T ⟨⟨d,t,af,hbk⟩,_,g,U,O.HM E f yx,ab⟩ D
def xG:DS (aj kD) ["self","line","words","names"] ["self","line"] ["is_ask","NoAsk","number_of","int","str","named","told_of"]:=aM
def Qb(B:Bn mg)(ER:ml K mg Im er)(aV:eQ K mg "Hall" az ["counts","groups","worn"])(bD:eQ K mg "Desk" aI ["book","hall"])(FT:uM P w K mg aF eF)(D:nJ K aI "ask" "Desk.ask" kD)(IK:Fn P w K mg base 3 "is_ask" ["words"] (xx K))(nD:TQ P w K mg base 1 "number_of" ["names","name"] (Nr K er))(kH:nq P w K mg base 3 az "put" ["self","i","colour"] (zM K az er))(dQ:nq P w K mg base 4 az "guess" ["self","i"] (lA K az))(ip:nq P w K mg base 5 az "right" ["self"] (mP K az))(oE:Fn P w K mg base 1 "named" ["names","people"] (xo K))(D0:Fn P w K mg base 6 "told_of" ["book","groups","ask"] (B1 K)):nq P w K mg base 7 aI "ask" ["self","line"] (ko K az aI er):=by
 refine D.ge xG (by walk_at"hB") (by walk_at"hL") ?_
 intro X E S e1 e2 e3 e4 e5 hc hsc hown hx hp R hu H vs Q h;subst e1 e2 e3 e4 e5;obtain⟨d,hl,v,cs,ws,L,hs,z,rfl,hzl,hD,D,q⟩:=h;have P:=D.qU;have h8:=P.nm.eD;have N:=P.xp;obtain⟨⟨dx,b,hd,hb⟩,c,g,us,hH,hL⟩:=id hD;obtain⟨a1,a2,a3,h0,h1,M,h2,h3⟩:=id hb;have hbig:(100000:Nat)<=sizeLine:=by decide
 have G:=mr z;have r:∀x∈wz z,x.length<=3000:=λx hx=>hU (ke hx) hzl;have hne:=lg z 32;unfold wz at q r;refine⟨_,(ae (bo S 2<|gU ro KB VB cK rfl (kv S 1)<|aa aU)
   (ae (bT (j7<|jA<|bZ S 0 IK R<|aa<|kv S 2) (ai (pL S 1 hc hx (ER.gl _ a_) (ER.own _ a_ a_)<|aa aU)) aw)
   (ae (bo S 3<|kK<|w9 bD<|kv S 0)
   (ae (bT (aL aD (bS<|kv S 2) aU<|ao _) (ae (dw<|IV aV kH hp R (w9 bD<|kv S 0)<|ah (UQ S 2 nD hp R<|ah (kv S 3)<|aa<|bS<|kv S 2)<|aa<|iG S 3 eZ B.int boot_int<|aa<|bS<|kv S 2)
   (ai<|aG<|dc bI)) aw)
   (ae (bT (aL aD (bS<|kv S 2) aU<|ao _) (ai<|aG<|dc<|aa<|iG S 4 bK B.str boot_str<|aa<|IV aV dQ gM R (w9 bD<|kv S 0)<|aa<|UQ S 2 nD hp R<|ah (kv S 3)<|aa<|bS<|kv S 2) aw)
   (ae (bT (aL aD (bS<|kv S 2) aU<|ao _) (ai<|aG<|bZ S 5 oE R<|ah (kv S 3)<|aa<|Sw aV ip gM R<|w9 bD<|kv S 0) aw)
   (ai<|aG<|bZ S 6 D0 R<|ah (w9 bD<|kv S 0)<|ah (w9 aV<|w9 bD<|kv S 0)<|aa<|bS<|kv S 2))))))),?_⟩
 walk_at"i";rw[aW];refine⟨rfl,_,_,rfl,rfl,a_,by omega,by omega,λp hp0=>?_⟩
 generalize eW:Txt.split z ⟨#[32]⟩=W at q G r hne ⊢;generalize eH:upd H p _=H1;obtain⟨s1,hp1⟩:=jO hp0 eH;clear eH;walk_at"i";obtain⟨w0,wb,I⟩:∃w0 wb,W=w0::wb:=by
  cases W with
  |nil=>exact absurd rfl hne
  |cons x y=>exact⟨x,y,rfl⟩
 have hwl:wb.length<=4000:=by rw[I,kf]at G;omega
 refine⟨p,w0,wb,rfl,ay.of (by rw[hp1,I]),hwl,λy hy=>hU (r y (by rw[I];exact fN _ hy)) a_,λH2 s2=>?_⟩
 rw[<-I];have f:=s1.trans s2;have hD2:=hD.mono f;have s:=f _ _ hd;have j:ay X.K H2 p (W.map V.str):=ay.of<|s2 _ _ hp1;have Z:=hH.mono f;obtain⟨hdx,n,hh,hn⟩:=Z.ex;clear hp1 hwl G hne I r
 rcases q with ⟨a,ew,ha,q⟩|⟨hB,qE⟩|⟨hB,C,hno,qE⟩
 rotate_left
 ·rw[hB];lia;exact⟨a_,qE H2 f⟩
 ·rw[hB];walk_at"i";refine lF (s) uO ?_;refine br (i:=((0:Nat):Int)) (f.aO h0) (ax rfl) ?_;walk_at"i"
  rcases pT hB C with ⟨y,rfl,_⟩|⟨y,y2,rfl,_⟩
  ·refine au (i:=((0:Nat):Int)) j (ax rfl) ?_;lia;rw[if_neg a_]
   walk_at"h";refine au (i:=((0:Nat):Int)) j (ax rfl) ?_;lia;refine lF (s) jv<|iB (hh) jN ?_;refine au (i:=((1:Nat):Int)) j (ax rfl) ?_;exact⟨_,v,_,rfl,f.aO h1,M.mono f,λ_ O A=>qE O<|f.trans A,λz=>absurd z hno⟩
  ·refine au (i:=((0:Nat):Int)) j (ax rfl) ?_;walk_at"i";refine lF (s) jv<|iB (hh) jN ?_;refine au (i:=((1:Nat):Int)) j (ax rfl) ?_;exact⟨_,v,_,rfl,f.aO h1,M.mono f,λ_ O A=>qE O<|f.trans A,λz=>absurd z hno⟩
 rw[ew,Lx P ha];rw[ew]at j;clear ew eW;walk_at"i";refine lF (s) uO ?_;refine br (i:=((0:Nat):Int)) (f.aO h0) (ax rfl) ?_;walk_at"i"
 cases a with
 |told k=>
  obtain⟨n1,n2,n3,_,_⟩:=uQ k;refine au (i:=((0:Nat):Int)) j (ax rfl) ?_;lia;rw[if_neg n1];walk_at"h";refine au (i:=((0:Nat):Int)) j (ax rfl) ?_;lia;rw[if_neg n2];walk_at"h";refine au (i:=((0:Nat):Int)) j (ax rfl) ?_;lia;rw[if_neg n3];lia;refine⟨d,dx,_,_,rfl,s,uO,d,dx,_,_,rfl,s,jv,hl,hdx,_,_,rfl,hh,sW,?_⟩;refine au (i:=((0:Nat):Int)) j (ax rfl) ?_;exact⟨b,g,v,cs,ws,us,L,hs,k,rfl,hb.mono f,Z.Tv,hL.mono f,D,λl rows O A hl0 C J=>q l rows O (f.trans A) (f.free hl0) C J⟩
 |right=>
  refine au (i:=((0:Nat):Int)) j (ax rfl) ?_;lia;rw[if_neg a_]
  walk_at"h";refine au (i:=((0:Nat):Int)) j (ax rfl) ?_;lia;rw[if_neg a_]
  walk_at"h";refine au (i:=((0:Nat):Int)) j (ax rfl) ?_;lia;refine lF (s) jv<|iB (hh) jN ?_;refine⟨hl,_,g,aE cs,hs,ws,us,L,rfl,Z,hL.mono f,N,D.fR,D.zV,λl O A hl0 C=>?_⟩;have m:=f.trans A;exact⟨_,l,v,_,rfl,m.aO h1,ay.of C,mB P,λa H4 s4 ha0 ha1=>q a H4 (m.trans s4) (m.free ha0) ha1⟩
 |dX i=>
  have hi:i<v.length:=ha;have T:i<(aE cs).length:=by rw[P.len];exact hi
  have hm:v.getD i aX∈v:=getD_memS hi;have Y:v.idxOf (v.getD i aX)=i:=by
   rw[b4,cc hi];exact P.nm.nd.idxOf_getElem i hi
  refine au (i:=((0:Nat):Int)) j (ax rfl) ?_;lia;rw[if_neg a_]
  walk_at"h";refine au (i:=((0:Nat):Int)) j (ax rfl) ?_;lia;refine lF (s) jv<|iB (hh) jN ?_;refine au (i:=((1:Nat):Int)) j (ax rfl) ?_;refine⟨_,v,_,rfl,f.aO h1,M.mono f,λz=>absurd hm z,λ_ O A=>?_⟩;rw[Y];have m:=f.trans A;refine⟨hl,_,g,aE cs,hs,ws,us,L,i,rfl,hH.mono m,hL.mono m,N,D.fR,D.zV,T,λH4 s4=>?_⟩;obtain⟨g1,g2⟩:=zX N D.fR D.zV T;refine⟨_,rfl,(dk g1 g2 a_).2,?_⟩
  lia;refine⟨a_,λt J=>?_⟩
  have s14:=m.trans s4;exact q t _ (s14.trans<|ag.new J _) (s14.free J) af
 |put i U=>
  obtain⟨hi,hcol⟩:i<v.length/\U<10 ^ 30:=ha;have T:i<(aE cs).length:=by rw[P.len];exact hi
  have hm:v.getD i aX∈v:=getD_memS hi;have Y:v.idxOf (v.getD i aX)=i:=by
   rw[b4,cc hi];exact P.nm.nd.idxOf_getElem i hi
  obtain⟨_,c2,_,c4⟩:=iW hcol;refine au (i:=((0:Nat):Int)) j (ax rfl) ?_;walk_at"i";refine lF (s) jv<|iB (hh) jN ?_;refine au (i:=((1:Nat):Int)) j (ax rfl) ?_;refine⟨_,v,_,rfl,f.aO h1,M.mono f,λz=>absurd hm z,λ_ O A=>?_⟩;rw[Y];have m:=f.trans A;refine au (i:=((2:Nat):Int)) (A.seq j) (ax rfl) ?_;refine⟨_,_,rfl,c2,by omega,?_⟩
  refine⟨hl,c,g,aE cs,hs,us,(i:Int),(U:Int),rfl,hH.mono m,D.fR.1,by have:=N.len;omega,λz=>absurd ⟨natCast_nonneg i,by omega⟩ z,λ_ z H4 s4=>?_,λ_ z H4 o4 hA4=>?_⟩
  ·rw[ri]at z;exact q.1 z H4<|m.trans s4
  ·rw[ri]at z hA4;lia;refine⟨a_,λt J=>?_⟩
   obtain⟨hx0,n0,hh0,_⟩:=hH.ex;have hh3:=m _ _ hh0;obtain⟨hx4,n4,hh4,_⟩:=hA4.ex;have hdn:=hD.ne;have st:=ag.new J<|.lst [];have o:Off hl H H4:=λb u ne e=>o4 b u ne<|m _ _ e;have htn:H t=none:=by
    cases e:H t with
    |none=>rfl
    |some u=>
     by_cases z:t=hl
     ·rw[z,hh4]at J;cases J
     ·rw[o t u z e]at J;cases J
   have hD4:bY X.K az aI H4 d hl v cs ws L (hs.set i (U:Int)):=⟨⟨dx,b,o d _ hdn hd,(hb.mono m).c6 o4 hh3⟩,c,g,us,hA4,(hL.mono m).c6 o4 hh3⟩;exact q.2 z t _ (λb u ne e=>st _ _<|o b u ne e) htn af<|hD4.mono st
def DT(B:Bn mg)(D:Def K mg "_law_draws" i5):Fn P w K mg base 1 "_law_draws" ["cell","count"] pU:=by
 have zY:DS (aj i5) ["cell","count","number","drawn","k"] ["cell","count"] ["range"]:=aM;walk_at"hH";obtain⟨e,n,rfl,hn,q⟩:=h;refine⟨_,(ae (bo S 2<|bc<|FI<|aN aH (bc<|kv S 0) aq)
   (ae (bo S 3<|dc bI)
   (ae (eY hxe hc (gW S 0 B.range<|aa<|kv S 1) (kg S 4) (ae (bo S 2<|bc<|FI<|kv S 2)
   (ai<|dw<|gU qo oD p4 bH rfl (kv S 3)<|aa<|sr<|bc<|aN dH (kv S 2)<|kv S 2)))
   (ai<|aG<|kv S 3)))),?_⟩
 cbv;refine⟨a_,λl f=>?_⟩
 refine forR n (P2 H e n l) rfl (by omega) ⟨_,[],_,rfl,ag.new f _,af,rfl,(λx hx=>nomatch hx)⟩ ?_ ?_
 ·rintro k σ H1 hk ⟨c,i,y,rfl,g,b,a,d⟩;cbv;have j:=A5 (c*45742) (show(2147483543:Int)≠0 by decide)
  have h1:=B9 (c*45742) (show(0:Int)<2147483543 by decide)
  generalize c*45742%2147483543=nm at j h1 ⊢;refine⟨.inl ⟨rfl,_,ay.of b⟩,nX (by omega) (by omega),?_⟩
  refine⟨l,_,_,rfl,rfl,b,by rw[b5];exact aC (by omega),?_⟩
  refine⟨_,i++[nm*nm%2147483579 / 7],_,rfl,g.set f _,by rw[af,hI];rfl,by rw[eR,a];rfl,λx hx=>?_⟩
  rcases ih.mp hx with z|z
  ·exact d x z
  ·rw[ek.mp z];have m:=A5 (nm*nm) (show(2147483579:Int)≠0 by decide)
   have o:=B9 (nm*nm) (show(0:Int)<2147483579 by decide)
   omega
 ·rintro σ H1 ⟨c,i,y,rfl,g,b,a,d⟩;cbv;exact q l i H1 g f b a d
def IB(B:Bn mg)(D:Def K mg "_law_fresh" i6):Fn P w K mg base 1 "_law_fresh" ["number","size"] lG:=by
 have zY:DS (aj i6) ["number","size","letters","name","k"] ["number","size"] ["range"]:=aM;walk_at"hH";obtain⟨b,n,rfl,hn,q⟩:=h;refine⟨_,(ae (bo S 2 aU)
   (ae (bo S 3 aU)
   (ae (eY hxe hc (gW S 0 B.range<|aa<|kv S 1) (kg S 4) (ae (bo S 0<|bc<|aN aH (FI<|kv S 0) aq)
   (ai<|bo S 3<|aN aJ (kv S 3)<|j3 jY (kv S 2) (bc<|sr<|kv S 0) λ_ _=>rfl)))
   (ai<|aG<|kv S 3)))),?_⟩
 cbv;refine forR n (R9 H n) rfl (by omega) ⟨_,_,_,rfl,rfl,rfl,(λc hc=>nomatch hc)⟩ ?_ ?_
 ·rintro k σ H1 hk ⟨b,z,y,rfl,rfl,e,a⟩;cbv;obtain⟨c,f,d⟩:=zu (i:=(b*48271+11)%2147483647 / 23%26) (by omega) (by omega)
  refine⟨iS,_,c,rfl,rfl,Dk0,f,?_⟩
  refine⟨_,_,rfl,rfl,?_,?_⟩
  ·show z.length+1<=sizeLine
   have:(100:Nat)<=sizeLine:=by decide
   omega
  ·exact⟨_,z++⟨#[c]⟩,_,rfl,rfl,by rw[av,e];rfl,a.append d⟩
 ·rintro σ H1 ⟨b,z,y,rfl,rfl,e,a⟩;cbv;exact q z e a
def Ap{A B:TS}{D:Ends}{σ:L2.St}{H:Hp}(I:L2.St->r_)(h2:∀σ' H',I σ' H'->B D σ' H')(h1:∀R:L2.St->r_,(∀σ' H',I σ' H'->R σ' H')->A {D with nx:=R} σ H):oH A B D σ H:=h1 (B D) h2
def cS{dn:e_}{H:Hp}{dr:Addr}{i:Int}{m:Nat}{Q:VK}(hd:H dr=some (.lst<|dn.map V.int))(hl:dn.length=m)(hnn:∀x∈dn,0<=x)(h0:0<=i)(h1:i<m)(q:∀x:Int,0<=x->Q (.int x) H):nF K (.ref dr) (.int i) H Q:=by
 obtain⟨m,rfl⟩:=hO h0;have hm:m<dn.length:=by omega
 exact au (ay.of hd) (ax (by rw[eG,cc hm];rfl))<|q _<|hnn _<|pS hm
def IC(H0:Hp)(cell:Int)(n:Nat)(sm dr:Addr)(base:Str)(a:Nat)(l:Addr)(dn:e_)(k:Nat)(σ:L2.St)(H:Hp):Prop:=∃(ns:f_) (name:Str) (y3 y4:v_),σ=[some (.int cell),some<|.int n,some<|.str iS,some<|.ref sm,some<|.ref dr,some<|.str base,some<|.int a,some<|.ref l,some<|.int k,some<|.str name,y3,y4]/\ag H0 H/\H l=some (.lst<|ns.map V.str)/\H sm=some (.lst<|ni.map V.str)/\H dr=some (.lst<|dn.map V.int)/\IU ns k/\(1<=k->ns≠[])/\bq name=true
def LO{ns:f_}{k:Nat}{x:Str}(h:IU ns k)(hx:bq x=true)(hn:x∉ns):IU (ns++[x]) (k+1) where
 eD:=by rw[eR];have:=h.eD;simp;omega
 nd:=VH.mpr ⟨h.nd,by simp,λa c b hb=>by rw[ek.mp hb];rintro rfl;exact hn c⟩
 nm:=λy hy=>by
  rcases ih.mp hy with z|z
  ·exact h.nm y z
  ·rw[ek.mp z];exact hx
def qf{ns:f_}{k m:Nat}(h:IU ns k)(hk:k<=m):IU ns m:=⟨hU h.eD hk,h.nd,h.nm⟩
def Ei:Str:="abcdefghijkl"
def ID:gK Ei:=by
 have h:∀c∈cz Ei,GJ c=true:=by decide +kernel
 exact h
def u9:Ei.length=12:=by decide +kernel
def IE(B:Bn mg)(D:Def K mg "_law_names" i7)(bU:Fn P w K mg base 1 "_law_draws" ["cell","count"] lq)(dE:Fn P w K mg base 1 "_law_fresh" ["number","size"] lG):Fn P w K mg base 2 "_law_names" ["cell","size"] BD:=by
 have zY:DS (aj i7) ["cell","size","letters","some","drawn","base","at","names","k","name","sign","width"] ["cell","size"] ["_law_draws","_law_fresh","len","range"]:=aM;walk_at"hH";obtain⟨t,n,rfl,hn1,hn,q⟩:=h;refine⟨_,(ae (bo S 2 aU)
   (ae (bo S 3 (dc (jq (ns:=["hat","sees","put","guess","right","ring","order","book","sure","share","groups"]) Dk0)))
   (ae (bo S 3<|aN (bW rfl) (kv S 3)<|dc<|ah aU<|aa aU)
   (ae (bo S 4<|bZ S 0 bU hr<|ah (kv S 0)<|aa aq)
   (ae (bo S 5<|bZ S 1 dE hr<|ah (bS<|kv S 4)<|aa<|aN aH aq<|bc<|bS<|kv S 4)
   (ae (bo S 6<|aN bO (bS<|kv S 4)<|cj S 2 cI B.len mo<|aa<|kv S 5)
   (ae (bo S 7<|dc bI)
   (ae (eY hxe hc (gW S 3 B.range<|aa<|kv S 1) (kg S 8) (ae (bo S 9<|bZ S 1 dE hr<|ah (dR (kv S 4)<|aN aH aq<|kv S 8)<|aa<|aN aH aq<|bc<|dR (kv S 4)<|aN aH aq<|kv S 8)
   (ae (bT (aL fq (bc<|bS<|kv S 4) aq<|ao _) (ae (bo S 10 (j3 jY (kv S 2) (bc (aN aH (bS<|kv S 4) (aN dH (kv S 8) (dR (dc (nY (ns:=[1,3,5,7,9,11]) Dk0))<|bc<|bS<|kv S 4)))) λ_ _=>rfl))
   (ai<|bo S 9<|aN aJ (aN aJ (jz eB (kv S 5) bg<|aY<|kv S 6)<|kv S 10)<|jz eB (kv S 5) (aY<|aN aH (kv S 6) aq) bg)) aw)
   (ae (bT (aL aD (bc<|bS<|kv S 4) aq<|ao _) (ai<|bo S 9<|dR (kv S 3)<|bc<|aN aH (bS<|kv S 4)<|FJ<|kv S 8) aw)
   (ae (bT (aL aD (bc<|bS<|kv S 4) aq<|ao _) (ae (bo S 11<|aN aH aq<|bc<|aN aH (FJ<|kv S 8)<|bS<|kv S 4)
   (ai<|bo S 9<|dR (dc<|ah (jz eB (aN aJ (kv S 5) aU) bg<|aY<|kv S 11)<|aa<|jz eB (aN aJ aU<|kv S 5) (aY<|OU jV<|kv S 11) bg)<|bc<|bS<|kv S 4)) aw)
   (ai (bT (aL (et rfl) (kv S 9) (kv S 7) (by with_unfolding_all rfl)) (ai<|dw<|gU qo oD p4 bH rfl (kv S 7)<|aa<|kv S 9) aw)))))))
   (ai<|aG<|kv S 7))))))))),?_⟩
 walk_at"i";walk_at"i";refine⟨a_,λs0 hs0=>?_⟩
 have a0:=ag.new hs0<|.lst [V.str "hat",V.str "sees",V.str "put",V.str "guess",V.str "right",V.str "ring",V.str "order",V.str "book",V.str "sure",V.str "share",V.str "groups"];walk_at"i";refine⟨a_,λs1 hs1=>?_⟩
 have a1:=ag.new hs1<|.lst [V.str "circle",V.str "hats"];refine⟨s0,s1,_,_,rfl,rfl,ay.of<|a1 _ _ af,ay.of af,a_,λsm hsm=>?_⟩
 have a2:=ag.new hsm<|.lst<|ni.map V.str;walk_at"i";have b0:=a0.trans<|a1.trans a2;have hsm':upd (upd (upd H s0<|.lst [V.str "hat",V.str "sees",V.str "put",V.str "guess",V.str "right",V.str "ring",V.str "order",V.str "book",V.str "sure",V.str "share",V.str "groups"]) s1<|.lst [V.str "circle",V.str "hats"]) sm (.lst<|ni.map V.str) sm=some (.lst<|ni.map V.str):=af;refine⟨t,40,rfl,a_,λdr dn H1 t1 hdr0 M p j=>?_⟩
 have b1:=b0.trans t1;have Q:=t1 _ _ hsm';walk_at"i";refine cS M p j a_ a_ λx0 hx0=>?_
 refine cS M p j a_ a_ λx1 hx1=>?_
 lia;obtain⟨m,hm⟩:=hO (show 0<=1+x1%12 by omega)
 refine⟨x0,m,by rw[hm],by omega,λbase hbl L=>?_⟩
 walk_at"i";refine cS M p j a_ a_ λx2 hx2=>?_
 lia;refine⟨_,rfl,ll (by omega),?_⟩
 lia;refine⟨by omega,?_⟩
 have T:=A5 x2 (show((base.length:Nat):Int)≠0 by omega)
 have Z:=B9 x2 (show(0:Int)<((base.length:Nat):Int) by omega)
 generalize x2%((base.length:Nat):Int)=am at T Z ⊢;obtain⟨a,rfl⟩:=hO T;walk_at"i";refine⟨a_,λl hl=>?_⟩
 walk_at"i";have sl:=ag.new hl<|.lst [];refine forR n (Sa H t n sm dr base a l dn) rfl (by omega) ⟨[],_,_,_,_,rfl,b1.trans sl,af,sl _ _ Q,sl _ _ M,⟨by simp,by simp,λx hx=>nomatch hx⟩,λz=>absurd z a_⟩ ?_ ?_
 ·rintro k σ H2 hk ⟨ns,y1,y2,y3,y4,rfl,J,f,d,b,g,s⟩;walk_at"i";refine cS b p j (by omega) (by omega) λx3 hx3=>?_
  lia;refine cS b p j (by omega) (by omega) λx4 hx4=>?_
  lia;obtain⟨m4,hm4⟩:=hO (show 0<=1+x4%12 by omega)
  refine⟨x3,m4,by rw[hm4],by omega,λr hbl' X=>?_⟩
  have E:=oi X (by omega) (by omega)
  lia;refine Ap (IC H t n sm dr base a l dn k) ?_ (λR N=>?_)
  rotate_left
  ·lia;refine cS b p j a_ a_ λx5 hx5=>?_
   lia;refine bu (λc=>?_) λc=>N _ _ ⟨ns,r,_,_,rfl,J,f,d,b,g,s,E⟩;walk_at"i";refine cS b p j a_ a_ λx6 hx6=>?_
   lia;refine⟨a_,λo ho=>?_⟩
   have C:=ag.new ho<|.lst [V.int 1,V.int 3,V.int 5,V.int 7,V.int 9,V.int 11];refine cS (C _ _ b) p j a_ a_ λx7 hx7=>?_
   lia;refine cS (dn:=[1,3,5,7,9,11]) (m:=6) af rfl a_ (by omega) (by omega) λx8 hx8=>?_
   lia;refine⟨nX (by omega) (by omega),?_⟩
   obtain⟨c',ec,hlc⟩:=zu (i:=(x6+(k:Int)*x8)%26) (by omega) (by omega)
   refine⟨iS,_,c',rfl,rfl,Dk0,ec,?_⟩
   lia;have h100:(1000:Nat)<=sizeLine:=by decide
   obtain⟨u,y⟩:∃u,StrLaws.sliceText base none (some (a:Int))=u:=⟨_,rfl⟩;obtain⟨v,G⟩:∃v,StrLaws.sliceText base (some ((a+1:Nat):Int)) none=v:=⟨_,rfl⟩;have A:=lp (x:=base) (k:=a) (by omega)
   have I:=kh (x:=base) (k:=a+1) (by omega)
   rw[y]at A;rw[G]at I;have Y:u.length=a:=by rw[aB,A,rr,<-aB];omega
   have hvl:v.length=base.length-(a+1):=by rw[aB,I,q5,<-aB]
   refine⟨base,rfl,by rw[y];omega,?_⟩
   rw[y];lia;refine⟨_,_,rfl,rfl,by rw[Y];show a+1<=_;omega,?_⟩
   refine⟨base,rfl,by rw[show((a:Int)+1)=((a+1:Nat):Int)from rfl,G];omega,?_⟩
   rw[show((a:Int)+1)=((a+1:Nat):Int)from rfl,G]
   have W:(u++(⟨#[c']⟩:Str)).length=a+1:=by rw[av,Y];rfl
   refine⟨_,_,rfl,rfl,by rw[W];omega,?_⟩
   exact N _ _ ⟨ns,_,_,_,rfl,J.trans C,C _ _ f,C _ _ d,C _ _ b,g,s,oi (((wL L A).append hlc).append<|wM L I) (by rw[av,W];omega) (by rw[av,W];omega)⟩
  rintro σ3 H3 ⟨ns,r,y3,y4,rfl,J,f,d,b,g,s,E⟩;refine Ap (IC H t n sm dr base a l dn k) ?_ (λR N=>?_)
  rotate_left
  ·lia;refine cS b p j a_ a_ λx5 hx5=>?_
   lia;refine bu (λc=>?_) λc=>N _ _ ⟨ns,r,_,_,rfl,J,f,d,b,g,s,E⟩;lia;refine cS b p j a_ a_ λx6 hx6=>?_
   lia;obtain⟨m6,hm6⟩:=hO (show 0<=(x6+5*(k:Int))%13 by omega)
   have U:m6<ni.length:=by have:ni.length=13:=rfl;omega
   rw[hm6];refine au (ay.of d) (ax<|aT U) ?_;exact N _ _ ⟨ns,_,_,_,rfl,J,f,d,b,g,s,GP _<|getD_memS U⟩
  rintro σ3 H3 ⟨ns,r,y3,y4,rfl,J,f,d,b,g,s,E⟩;refine Ap (IC H t n sm dr base a l dn k) ?_ (λR N=>?_)
  rotate_left
  ·lia;refine cS b p j a_ a_ λx5 hx5=>?_
   lia;refine bu (λc=>?_) λc=>N _ _ ⟨ns,r,_,_,rfl,J,f,d,b,g,s,E⟩;walk_at"i";refine cS b p j a_ a_ λx6 hx6=>?_
   lia;have h0:0<=(5*(k:Int)+x6)%12:=by omega
   have h1:(5*(k:Int)+x6)%12<12:=by omega
   generalize (5*(k:Int)+x6)%12=wd at h0 h1 ⊢;obtain⟨O,rfl⟩:=hO h0;rw[show(1+(O:Int))=((1+O:Nat):Int)from rfl]
   have h100:(1000:Nat)<=sizeLine:=by decide
   have hb1:(base++Ei).length=base.length+12:=by rw[av,u9]
   have hb2:(Ei++base).length=12+base.length:=by rw[av,u9]
   obtain⟨u,y⟩:∃u,StrLaws.sliceText (base++Ei) none (some ((1+O:Nat):Int))=u:=⟨_,rfl⟩;obtain⟨v,G⟩:∃v,StrLaws.sliceText (Ei++base) (some (-((1+O:Nat):Int))) none=v:=⟨_,rfl⟩;have A:=lp (x:=base++Ei) (k:=1+O) (by omega)
   have I:=zt (x:=Ei++base) (k:=1+O) (by omega) (by omega)
   rw[y]at A;rw[G]at I;have Y:u.length=1+O:=by rw[aB,A,rr,<-aB];omega
   have hvl:v.length=1+O:=by rw[aB,I,q5,<-aB];omega
   refine⟨_,_,rfl,rfl,by rw[show("abcdefghijkl":Str)=Ei from rfl,u9];omega,?_⟩
   refine⟨_,rfl,by rw[show("abcdefghijkl":Str)=Ei from rfl,y];omega,?_⟩
   rw[show("abcdefghijkl":Str)=Ei from rfl,y]
   lia;refine⟨_,_,rfl,rfl,by rw[u9];omega,?_⟩
   lia;refine⟨_,rfl,by rw[G];omega,?_⟩
   rw[G];lia;refine⟨a_,λo ho=>?_⟩
   have C:=ag.new ho<|.lst [V.str u,V.str v];refine cS (C _ _ b) p j a_ a_ λx7 hx7=>?_
   lia;have okU:=oi (wL (L.append ID) A) (by omega) (by omega)
   have okV:=oi (wM (ID.append L) I) (by omega) (by omega)
   rcases(show x7%2=0∨x7%2=1 by omega)with e|e
   ·rw[e];refine au (i:=((0:Nat):Int)) (ay.of af) (ax rfl) ?_;exact N _ _ ⟨ns,_,_,_,rfl,J.trans C,C _ _ f,C _ _ d,C _ _ b,g,s,okU⟩
   ·rw[e];refine au (i:=((1:Nat):Int)) (ay.of af) (ax rfl) ?_;exact N _ _ ⟨ns,_,_,_,rfl,J.trans C,C _ _ f,C _ _ d,C _ _ b,g,s,okV⟩
  rintro σ3 H3 ⟨ns,r,y3,y4,rfl,J,f,d,b,g,s,E⟩;lia;refine mf (.inl<|ay.of f) ?_;lia
  by_cases c:r∈ns
  ·rw[ed c];lia;exact⟨ns,_,_,_,_,rfl,J,f,d,b,qf g (by omega),λ_ z=>by rw[z]at c;exact nomatch c⟩
  ·rw[cv c];lia;refine⟨.inl ⟨rfl,_,ay.of f⟩,?_⟩;refine⟨l,_,_,rfl,rfl,f,by rw[b5];exact cw (by have:=g.eD;omega),?_⟩
   have hl0:H l=none:=b1.free hl;have ne1:sm≠l:=bG Q hl;have ne2:dr≠l:=bG M hl;exact⟨ns++[r],_,_,_,_,rfl,J.set hl0 _,by rw[af,hI];rfl,by rw[aK ne1];exact d,by rw[aK ne2];exact b,LO g E c,λ_=>by simp⟩
 ·rintro σ H2 ⟨ns,y1,y2,y3,y4,rfl,J,f,d,b,g,s⟩;lia;exact q l ns H2 J (b1.free hl) f (s hn1) g
def IF(B:Bn mg)(D:Def K mg "_law_count" i8)(bU:Fn P w K mg base 1 "_law_draws" ["cell","count"] lq):Fn P w K mg base 2 "_law_count" ["cell","k"] wN:=by
 have zY:DS (aj i8) ["cell","k","drawn","kind"] ["cell","k"] ["_law_draws"]:=aM;walk_at"hH";obtain⟨n,k,rfl,q⟩:=h;refine⟨_,(ae (bo S 2<|bZ S 0 bU hr<|ah (aN aH (sr<|kv S 0)<|FJ<|kv S 1)<|aa aq)
   (ae (bo S 3<|bc<|bS<|kv S 2)
   (ae (bT (aL aD (kv S 3) aq<|ao _) (ai<|aG<|aN aH aq<|aN bO (sr<|kv S 0)<|aN cu (aN jU aq aq) aq) aw)
   (ae (bT (aL aD (kv S 3) aq<|ao _) (ai (aG (dR (dc (ah aq (ah (aN cu (aN jU aq aq) aq) (ah (aN jU aq aq) (nY (ns:=[2,9,10,99,100]) Dk0)))))<|bc<|bS<|kv S 2))) aw)
   (ae (bT (aL aD (kv S 3) aq<|ao _) (ai<|aG<|aN aH aq<|aN bO (aN aH (aN aH (aN dH (bS<|kv S 2)<|aN jU aq aq)<|aN dH (bS<|kv S 2)<|aN jU aq aq)<|bS<|kv S 2)<|aN cu (aN jU aq aq) aq) aw)
   (ai<|aG<|aN aH aq<|bc<|bS<|kv S 2)))))),?_⟩
 cbv;refine⟨_,6,rfl,a_,λN O H1 C t d a b=>?_⟩
 cbv;have e:(10:Int) ^ toNat 30=1000000000000000000000000000000:=by decide +kernel
 have j:(10:Int) ^ toNat 29=100000000000000000000000000000:=by decide +kernel
 have E:(10:Nat) ^ 30=1000000000000000000000000000000:=by decide +kernel
 have f:∀(x:Int) (i:Hp),0<x->x<1000000000000000000000000000000->ag H1 i->Q (.int x) i:=λx i M h1 s=>by
  obtain⟨c,rfl⟩:=hO (show 0<=x by omega)
  exact q c i (by omega) (by omega)<|C.trans s
 refine cS d a b a_ a_ λR H=>?_
 cbv;refine bu (λc=>?_) λc=>?_
 ·refine⟨by unfold lP;decide,by rw[e];decide,?_⟩
  rw[e];exact f _ _ (by omega) (by omega)<|ag.refl _
 refine bu (λF=>?_) λF=>?_
 ·refine⟨by unfold lP;decide,by unfold lP;decide,a_,λo L=>?_⟩
  rw[e,j];have r:=ag.new L<|.lst [V.int 1,V.int<|1000000000000000000000000000000-1,V.int 100000000000000000000000000000,V.int 2,V.int 9,V.int 10,V.int 99,V.int 100];refine cS (r _ _ d) a b a_ a_ λA I=>?_
  cbv;obtain⟨m,hm⟩:=hO (show 0<=A%8 by omega)
  rw[hm];have hb:∀x∈[(1:Int),1000000000000000000000000000000-1,100000000000000000000000000000,2,9,10,99,100],0<x/\x<1000000000000000000000000000000:=by decide +kernel
  have g:m < [(1:Int),1000000000000000000000000000000-1,100000000000000000000000000000,2,9,10,99,100].length:=by show m<8;omega
  refine au (ay.of af) (ax (show([(1:Int),1000000000000000000000000000000-1,100000000000000000000000000000,2,9,10,99,100].map V.int)[m]?=_ by rw[eG,cc g];rfl)) ?_
  have:=hb _<|pS g
  exact f _ _ this.1 this.2 r
 refine bu (λu=>?_) λu=>?_
 ·refine cS d a b a_ a_ λp l=>?_
  refine⟨by unfold lP;decide,?_⟩
  cbv;refine⟨oU Dk0 Dk0,?_⟩
  refine cS d a b a_ a_ λG v=>?_
  refine⟨by unfold lP;decide,?_⟩
  cbv;refine⟨oU Dk0 Dk0,?_⟩
  refine cS d a b a_ a_ λJ z=>?_
  cbv;refine⟨by unfold lP;decide,by rw[e];decide,?_⟩
  rw[e];generalize p*10 ^ toNat 18+G*10 ^ toNat 9+J=y;exact f _ _ (by omega) (by omega)<|ag.refl _
 ·refine cS d a b a_ a_ λp l=>?_
  cbv;exact f _ _ (by omega) (by omega)<|ag.refl _
def IG(B:Bn mg)(D:Def K mg "_law_mixed_lines" dP):Fn P w K mg base 1 "_law_mixed_lines" ["book","drawn"] (uy K):=by
 have zY:DS (aj dP) ["book","drawn","names","counts","web","lines","k","order","i","some","at","hats","first"] ["book","drawn"] ["range","len","str","list","max"]:=aM;walk_at"hH";obtain⟨b,dr,ns,f,ws,dn,rfl,⟨a1,a2,a3,hb,h1,h2,h3⟩,P,a0,a7,aV,q⟩:=h;have h8:=P.nm.eD;refine⟨_,(ae (yY (kv S 0)<|KY hc (K:=X.K) (n:=3) rfl<|aQ (kg S 2)<|aQ (kg S 3)<|aQ (kg S 4) cQ)
   (ae (bo S 5<|dc bI)
   (ae (eY hxe hc (gW S 0 B.range<|aa<|cj S 1 (aA rfl) B.len mo<|aa<|kv S 2) (kg S 6)<|ai<|dw<|gU qo oD p4 bH rfl (kv S 5)<|aa<|aN aJ (aN aJ (aN aJ aU<|dR (kv S 2)<|kv S 6) aU)<|iG S 2 bK B.str boot_str<|aa<|dR (kv S 3)<|kv S 6)
   (ae (bo S 7<|iG S 3 (gG hc) B.list boot_list<|aa<|iG S 0 k7 B.range boot_range<|aa<|cj S 1 (aA rfl) B.len mo<|aa<|kv S 2)
   (ae (bT (aL aD (bc<|bS<|kv S 1) aq<|ao _) (ai<|bo S 7<|O9 (kv S 7) (OU jV aq) rfl) aw)
   (ae (eY hxe hc (cC (kv S 7) rfl) (kg S 8) (ae (Ee (i:=9) S hc hsc (gW S 0 B.range<|aa<|cj S 1 (aA rfl) B.len mo<|aa<|kv S 2) (N:=["j","web","i"]) (W:=["j"]) (G:=[]) (fv:=[none,some 4,some 8]) Dk0 (λcl C fp s H r=>⟨(kg r 0),(fu<|aL aD (bc<|aN c7 (j3 (cB rfl) (kv r 1) (kv r 2) λ_ _=>rfl)<|aN cT aq<|kv r 0) aq<|ao _),(kv r 0)⟩) (by rw[hsc];decide +kernel) (by rw[c9,hsc];rfl))
   (ai (bT (aL (lX hu rfl) (kv S 9) (dc bI)<|ao _) (ae (bo S 10<|aN bO (dR (kv S 1)<|aN aH aq<|kv S 8)<|cj S 1 (aA rfl) B.len mo<|aa<|kv S 9)
   (ae (bo S 9<|aN (bW rfl) (jz (cp rfl) (kv S 9) (aY<|kv S 10) bg)<|jz (cp rfl) (kv S 9) bg<|aY<|kv S 10)
   (ae (bT (aL aD (bc<|dR (kv S 1)<|aN aH aq<|kv S 8) aq<|ao _) (ai<|bo S 9<|O9 (kv S 9) (OU jV aq) rfl) aw)
   (ae (Ee (i:=11) S hc hsc (cC (aN (bW rfl) (kv S 9)<|dc<|aa<|kv S 8) rfl) (N:=["j","names","counts"]) (W:=["j"]) (G:=["str"]) (fv:=[none,some 2,some 3]) Dk0 (λcl C fp s H r=>⟨(kg r 0),bp,(aN aJ (aN aJ (aN aJ aU<|j3 (cB rfl) (kv r 1) (kv r 0) λ_ _=>rfl) aU)<|iG r 0 bK B.str boot_str<|aa<|j3 (cB rfl) (kv r 2) (kv r 0) λ_ _=>rfl)⟩) (by rw[hsc];decide +kernel) (by rw[c9,hsc];rfl))
   (ae (bo S 12 (aN aH aq (cj S 4 (zi hc rfl) B.max boot_max (aa (iD S hc hsc (cC (kv S 11) rfl) (N:=["hat","lines"]) (W:=["hat"]) (G:=[]) (fv:=[none,some 5]) Dk0 λcl C fp s H r=>⟨(kg r 0),bp,(gU qo Vp type_list_index (js rfl) rfl (kv r 1)<|aa<|kv r 0)⟩)))))
   (ae (bo S 10<|aN aH (kv S 12)<|aN bO (dR (kv S 1)<|aN aH aq<|kv S 8)<|aN aH (aN cu (cj S 1 (aA rfl) B.len mo<|aa<|kv S 5)<|kv S 12) aq)
   (ai (dw (gU qo PySem.F.slot_list_insert PySem.F.type_list_insert C8 rfl (kv S 5) (ah (kv S 10) (aa (gU ro Do Gc (bC rfl) rfl aU (aa (aN (bW rfl) (dc<|ah aU<|aa<|dR (kv S 2)<|kv S 8) (iD S hc hsc (cC (kv S 9) rfl) (N:=["j","names"]) (W:=["j"]) (G:=[]) (fv:=[none,some 2]) Dk0 λcl C fp s H r=>⟨(kg r 0),bp,(j3 (cB rfl) (kv r 1) (kv r 0) λ_ _=>rfl)⟩))))))))))))))) aw))))
   (ai<|aG<|kv S 5))))))),?_⟩
 walk_at"i";refine⟨b,_,rfl,ay.of hb,rfl,?_⟩;refine⟨_,_,rfl,⟨_,_,rfl,⟨_,_,rfl,⟨rfl,?_⟩⟩⟩⟩;lia;have h1000:(1000:Nat)<=sizeLine:=by decide
 have el:("hat ":Str).length=4:=by decide +kernel
 have a9:(" ":Str).length=1:=by decide +kernel
 have hatF:∀k,k<ns.length->bq (ns.getD k aX)=true/\(ns.getD k aX).length<=12/\(Str.ofString<|toString ((f.getD k 0:Nat):Int)).length<=30/\((f.getD k 0:Nat):Int).natAbs.log2<1920:=λk hk=>by
  have bf:bq (ns.getD k aX)=true/\0<f.getD k 0/\f.getD k 0<10 ^ 30:=pH P hk;refine⟨bf.1,(cF bf.1).2.2,fi (di bf.2.1 bf.2.2).1,?_⟩;rw[Vn];exact(log2_lt (by omega)).mpr (VG bf.2.2 Dk0)
 walk_at"h";refine⟨a_,λl hl=>?_⟩
 have sl:=ag.new hl<|.lst [];walk_at"h";refine aR (.inl<|ay.of<|sl _ _ h1) ?_;rw[b5];refine forR ns.length (Sf H b dr a1 a2 a3 l ns f) rfl (by omega) ⟨_,_,_,_,_,_,_,rfl,sl,af⟩ ?_ ?_
 ·rintro k σ H2 hk ⟨y6,y7,y8,y9,I,J,E,rfl,hS,O⟩;lia;refine⟨.inl ⟨rfl,_,ay.of O⟩,?_⟩;obtain⟨f1,f2,f3,f4⟩:=hatF k hk;refine au (ay.of<|hS _ _ h1) (ax<|aT hk) ?_;refine⟨_,_,rfl,rfl,by rw[el];omega,?_⟩
  refine⟨_,_,rfl,rfl,by rw[av,el,a9];omega,?_⟩
  refine cq (ay.of<|hS _ _ h2) rfl (by rw[ak,P.lc];exact hk) ?_
  rw[aZ];refine⟨_,rfl,f4,?_⟩;refine⟨_,_,rfl,rfl,by rw[av,av,el,a9];omega,?_⟩
  rw[lr];refine⟨l,_,_,rfl,rfl,O,by rw[b5,b5,b5,j6];exact cw (by omega),?_⟩
  refine⟨_,_,_,_,_,_,_,rfl,hS.set hl _,?_⟩;rw[af,GT,hI,hI,hI];rfl
 rintro σ2 H2 ⟨y6,y7,y8,y9,I,J,E,rfl,hS2,O⟩;walk_at"i";refine aR (.inl<|ay.of<|hS2 _ _ h1) ?_;rw[b5];refine⟨ns.length,rfl,by omega,λrg hrg=>?_⟩
 have srg:=ag.new hrg<|.Ja 0 ns.length;refine⟨rg,ns.length,rfl,af,by omega,λo ho=>?_⟩
 have lo3:l≠o:=bG (srg _ _ O) ho;have so:=ag.new ho<|.lst<|((List.range ns.length).map λi=>((i:Nat):Int)).map V.int;have s2o:=srg.trans so;have ho':upd (upd H2 rg<|.Ja 0 ns.length) o (.lst<|((List.range ns.length).map λi=>((i:Nat):Int)).map V.int) o=some (.lst<|(aE<|List.range ns.length).map V.int):=af;have aI:=s2o _ _ O;have az:=hS2.trans s2o;generalize upd (upd H2 rg<|.Ja 0 ns.length) o (.lst<|((List.range ns.length).map λi=>((i:Nat):Int)).map V.int)=H3 at ho' aI az ⊢;lia;refine Ap (Sh H b dr a1 a2 a3 l ns f) ?_ (λR hR=>?_)
 rotate_left
 ·lia;refine cS (az _ _ a0) a7 aV a_ a_ λx0 hx0=>?_
  lia;refine bu (λc=>?_) λc=>hR _ _ ⟨o,_,_,_,_,_,_,_,rfl,az,aI,ho',List.Perm.refl _,lo3⟩;refine⟨trivial,o,_,rfl,ay.of ho',λo2 ho2=>?_⟩;have so2:=ag.new ho2<|.lst ((aE<|List.range ns.length).map V.int).reverse;refine hR _ _ ⟨o2,(List.range ns.length).reverse,_,_,_,_,_,_,rfl,az.trans so2,so2 _ _ aI,?_,reverse_perm _,bG aI ho2⟩;rw[af];unfold aE;rw[<-VD,<-VD]
 rintro σ4 H4 ⟨o,od,y6,y8,y9,I,J,E,rfl,hS4,hl4,ho4,bl,lo⟩;have hodl:od.length=ns.length:=by rw[bl.length_eq,j6]
 have hodn:od.Nodup:=bl.nodup_iff.mpr VN;walk_at"h";have M0:=c8.start (ns:=ns) (ws:=ws);refine forL (Sg H b dr a1 a2 a3 l o ns f ws od) (ay.of ho4) ⟨_,_,_,_,_,_,_,rfl,hS4,ho4,hl4,⟨M0.ok,M0.fR,M0.nd,M0.pm,λi=>by rw[M0.al i,take_zero];exact⟨λz=>z.1.elim,(λz=>nomatch z.1)⟩⟩,by rw[b5,j6];omega⟩ (λk σ H' h=>by obtain⟨M,y6,y8,y9,I,J,E,_,_,h,_⟩:=h;exact ay.of h) ?_ ?_
 ·rintro k σ H5 hk ⟨M,y6,y8,y9,I,J,E,rfl,Y,ho5,hl5,L,hMl⟩;rw[ak]at hk;rw[aZ];have hi:od.getD k 0<ns.length:=by
   have:od.getD k 0∈od:=by rw[b4,cc hk];exact pS _
   exact mv.mp<|bl.mem_iff.mp this
  have hnd:=Ha hodn hk;have htd:=C9 hk;generalize od.getD k 0=i at hi hnd htd ⊢;walk_at"i";refine aR (.inl<|ay.of<|Y _ _ h1) ?_;rw[b5];refine Ry ns.length (λj=>decide<|ws.getD i 0 / 2 ^ j%2=1) (λj=>((j:Nat):Int)) rfl (by omega) ?_ ?_
  ·intro j H6 A B' hj hS6 hA hB;lia;refine cq (ay.of<|hS6 _ _<|Y _ _ h3) rfl (by rw[ak,P.lw];exact hi) ?_
   rw[aZ];lia;have hpj:0<2 ^ j:=Nat.pow_pos a_
   have hj8:2 ^ j<=2 ^ 8:=qc a_ (by omega)
   refine⟨eI (by omega),⟨by omega,?_⟩,?_⟩
   ·rw[Vn];exact(log2_lt (by omega)).mpr (A6 hj8 (On a_ a_))
   refine bu (λc=>?_) λc=>?_
   ·exact hA (by rw[<-q7];exact c) _<|ag.refl _
   ·exact hB (by rw[<-q7];exact Vt.mpr c) _<|ag.refl _
  intro sa H6 hsa0 s6 a5;have a5:H6 sa=some (.lst<|(aE<|iF ns.length<|ws.getD i 0).map V.int):=a5;have hpm:(iF ns.length<|ws.getD i 0).Perm (iF ns.length<|ws.getD i 0):=List.Perm.refl _;have hS6:=Y.trans s6;have ho6:=s6 _ _ ho5;have hl6:=s6 _ _ hl5;lia;refine⟨a_,λz hz=>?_⟩
  have sz:=ag.new hz<|.lst [];refine⟨_,_,.lst (ay.of<|sz _ _ a5)<|dI.ints _,.lst (ay.of af) .nil,kY _,a_,?_⟩
  rw[Bw];have ho7:=sz _ _ ho6;have hl7:=sz _ _ hl6;have U:=hS6.trans sz;have u:=sz _ _ a5;generalize upd H6 z (.lst [])=H7 at ho7 hl7 U u ⊢
  by_cases c0:iF ns.length (ws.getD i 0)=[]
  ·rw[ed (show(aE<|iF ns.length<|ws.getD i 0).map PyData.int=[] by rw[c0];rfl)]
   lia;exact⟨M,_,_,_,_,_,_,rfl,U,ho7,hl7,L.skip c0 htd,by omega⟩
  rw[cv (show ¬(aE<|iF ns.length<|ws.getD i 0).map PyData.int=[]from λz=>c0<|Vz.mp<|Vz.mp z)]
  lia;generalize hbt:iF ns.length (ws.getD i 0)=bt at c0 u ⊢;have hbl:0<bt.length:=FM.mpr c0;have hbl8:bt.length<=ns.length:=by
   rw[<-hbt];unfold iF
   have:=ya (λj=>decide<|ws.getD i 0 / 2 ^ j%2=1)<|List.range ns.length
   rw[j6]at this;exact this
  walk_at"h";refine cS (U _ _ a0) a7 aV (by omega) (by omega) λx1 hx1=>?_
  refine aR (.inl<|ay.of u) ?_;rw[b5,ak];lia;refine⟨by omega,?_⟩
  obtain⟨d,hat1,eat1⟩:∃a:Nat,a<bt.length/\x1%(bt.length:Int)=(a:Int):=by
   have h0:=A5 x1 (show(bt.length:Int)≠0 by omega)
   have h1:=B9 x1 (show(0:Int)<(bt.length:Int) by omega)
   exact⟨(x1%(bt.length:Int)).toNat,by omega,by omega⟩
  rw[eat1];walk_at"h";refine⟨sa,_,rfl,ay.of u,λc1 hc1=>?_⟩;rw[cZ,<-Vu];have sc1:=ag.new hc1<|.lst<|((aE bt).drop d).map V.int;refine⟨sa,_,rfl,ay.of<|sc1 _ _ u,λc2 hc2=>?_⟩;rw[jr,<-map_take];have sc2:=ag.new hc2<|.lst<|((aE bt).take d).map V.int;refine nZ (ns:=(aE bt).drop d) (ms:=(aE bt).take d) (ay.of<|sc2 _ _ af) (ay.of af) (cw (by rw[q5,rr,ak];omega)) λc3 hc3=>?_
  have sc3:=ag.new hc3<|.lst<|((aE bt).drop d++(aE bt).take d).map V.int;have x:=sc1.trans<|sc2.trans sc3;have e3:(aE bt).drop d++(aE bt).take d=aE (bt.drop d++bt.take d):=by unfold aE;rw[hI,Vu,map_take]
  rw[e3];have hp3:(bt.drop d++bt.take d).Perm bt:=by
   have:=List.perm_append_comm (l₁:=bt.drop d) (l₂:=bt.take d)
   rw[Vh]at this;exact this
  lia;refine Ap (Si H7 b dr a1 a2 a3 l o i bt) ?_ (λR hR=>?_)
  rotate_left
  ·lia;rw[e3]at x;refine cS (x _ _<|U _ _ a0) a7 aV (by omega) (by omega) λx2 hx2=>?_
   lia;refine bu (λc=>?_) λc=>hR _ _ ⟨c3,_,_,_,_,_,rfl,x,af,hp3⟩;refine⟨trivial,c3,_,rfl,ay.of af,λc4 hc4=>?_⟩;have sc4:=ag.new hc4<|.lst ((aE<|bt.drop d++bt.take d).map V.int).reverse;refine hR _ _ ⟨c4,(bt.drop d++bt.take d).reverse,_,_,_,_,rfl,x.trans sc4,?_,(reverse_perm _).trans hp3⟩;rw[af];unfold aE;rw[VD,VD]
  rintro σ8 H8 ⟨s,e,y6,I,J,E,rfl,s8,hs8,hsm⟩;have hS8:=U.trans s8;have hl8:=s8 _ _ hl7;have ho8:=s8 _ _ ho7;have hsml:e.length=bt.length:=hsm.length_eq;have hsmm:∀j∈e,j<ns.length:=λj hj=>by
   have:=hsm.mem_iff.mp hj
   rw[<-hbt]at this;exact(jt.mp this).1
  walk_at"h";refine⟨a_,λp hp=>?_⟩
  have sp:=ag.new hp<|.lst [V.int (i:Int)];refine nZ (ns:=aE e) (ms:=[(i:Int)]) (ay.of<|sp _ _ hs8) (ay.of af) (cw (by rw[ak];show _+1<=100;omega)) λp2 hp2=>?_
  have e4:aE e++[(i:Int)]=aE (e++[i]):=by unfold aE;rw[hI];rfl
  rw[e4];have sp2:=ag.new hp2<|.lst<|(aE<|e++[i]).map V.int;have a6:∀j∈e++[i],j<ns.length:=λj hj=>by
   rcases ih.mp hj with z|z
   ·exact hsmm j z
   ·rw[ek.mp z];exact hi
  have hlenh:(e++[i]).length<=9:=by rw[eR];show _+1<=9;omega
  have Z:0<(e++[i]).length:=by rw[eR];show 0<_+1;omega
  have sp12:=sp.trans sp2;refine⟨p2,rfl,⟨_,ay.of af⟩,qF (bV<|ay.of af) (λ_=>true) (λt=>.str<|dY ns f<|.dG<|(e++[i]).getD t 0) (by rw[b5,ak];exact aC (by omega)) ?_ ?_⟩
  ·intro t H9 A B' ht hS9 hA _;rw[b5,ak]at ht;rw[dB ht];have hj:=a6 _<|dC ht;generalize (e++[i]).getD t 0=j at hj hA ⊢;have s9:ag H H9:=hS8.trans<|sp12.trans hS9;lia;obtain⟨f1,f2,f3,f4⟩:=hatF j hj;refine au (ay.of<|s9 _ _ h1) (ax<|aT hj) ?_;refine⟨_,_,rfl,rfl,by rw[el];omega,?_⟩
   refine⟨_,_,rfl,rfl,by rw[av,el,a9];omega,?_⟩
   refine cq (ay.of<|s9 _ _ h2) rfl (by rw[ak,P.lc];exact hj) ?_
   rw[aZ];refine⟨_,rfl,f4,?_⟩;refine⟨_,_,rfl,rfl,by rw[av,av,el,a9];omega,?_⟩
   rw[lr];exact hA rfl _<|ag.refl _
  intro ht H9 hht0 s9 Q;rw[bE,b5,ak,cL λj=>V.str<|dY ns f<|.dG j]at Q;have Q:H9 ht=some (.lst<|((e++[i]).map λj=>dY ns f<|.dG j).map V.str):=by rw[Q,kb];rfl
  have aF:=sp12.trans s9;have hl9:=aF _ _ hl8;have ho9:=aF _ _ ho8;have hS9:=hS8.trans aF;have hs9:=aF _ _ hs8;walk_at"i";refine⟨ht,rfl,⟨_,ay.of Q⟩,qF (bV<|ay.of Q) (λ_=>true) (λt=>.int (((M.map<|dY ns f).idxOf (dY ns f<|.dG<|(e++[i]).getD t 0):Nat):Int)) (by rw[b5,b5];exact aC (by omega)) ?_ ?_⟩
  ·intro t H10 A B' v g hA _;rw[b5,b5]at v;have e5:(((e++[i]).map λj=>dY ns f<|.dG j).map V.str).getD t .bA=.str (dY ns f<|.dG<|(e++[i]).getD t 0):=by
    rw[b4,eG,eG,cc v,b4,cc v];rfl
   rw[e5];lia;refine⟨.inl ⟨rfl,_,ay.of<|g _ _ hl9⟩,?_⟩;exact⟨l,_,_,rfl,rfl,ay.of<|g _ _ hl9,(L.idx P<|a6 _<|dC v).1,hA rfl _<|ag.refl _⟩
  intro ix H10 hix0 a4 hix;rw[bE,b5,b5,cL λj=>V.int (((M.map<|dY ns f).idxOf (dY ns f<|.dG j):Nat):Int)]at hix;have ab:=a4 _ _ hl9;have ho10:=a4 _ _ ho9;have g:=hS9.trans a4;have hs10:=a4 _ _ hs9;refine⟨ix,(e++[i]).map λj=>(((M.map<|dY ns f).idxOf (dY ns f<|.dG j):Nat):Int),rfl,.inl (ay.of (by rw[hix,kb];rfl)),by intro z;have:=Vz.mp z;rw[this]at Z;exact absurd Z a_,λm hm hmax=>?_⟩
  obtain⟨jm,hjm,rfl⟩:=kc.mp hm;have hmlt:=(L.idx P<|a6 jm hjm).2.1;have hmx:∀j∈e++[i],(M.map<|dY ns f).idxOf (dY ns f<|.dG j)<=(M.map<|dY ns f).idxOf (dY ns f<|.dG jm):=λj hj=>by
   have:=hmax _<|kc.mpr ⟨j,hj,rfl⟩
   exact Int.ofNat_le.mp this
  generalize (M.map<|dY ns f).idxOf (dY ns f<|.dG jm)=mm at hmlt hmx ⊢;walk_at"i";refine cS (g _ _ a0) a7 aV (by omega) (by omega) λx3 hx3=>?_
  refine aR (.inl<|ay.of ab) ?_;rw[b5,b5];lia;refine⟨by omega,?_⟩
  lia;refine⟨.inl ⟨rfl,_,ay.of ab⟩,rfl,?_⟩;refine au (ay.of<|g _ _ h1) (ax<|aT hi) ?_;refine⟨a_,λp7 hp7=>?_⟩
  have a8:=ag.new hp7<|.lst [V.str ("sees":Str),V.str<|ns.getD i aX];refine⟨s,rfl,⟨_,ay.of<|a8 _ _ hs10⟩,qF (bV<|ay.of<|a8 _ _ hs10) (λ_=>true) (λt=>.str<|ns.getD (e.getD t 0) aX) (by rw[b5,ak];exact aC (by omega)) ?_ ?_⟩
  ·intro t H11 A B' v hS11 hA _;rw[b5,ak]at v;rw[dB v];lia;have hj:=hsmm _<|dC v;refine au (ay.of<|hS11 _ _<|a8 _ _<|g _ _ h1) (ax<|aT hj) ?_;exact hA rfl _<|ag.refl _
  intro nl H11 hnl0 s11 hnl;rw[bE,b5,ak,cL λj=>V.str<|ns.getD j aX]at hnl;have s711:=a8.trans s11;refine⟨p7,nl,_,_,rfl,rfl,ay.of<|s11 _ _ af,ay.of hnl,by rw[b5];exact cw (by show 2+_<=100;omega),λp8 hp8=>?_⟩
  have sp8:=ag.new hp8<|.lst<|[V.str ("sees":Str),V.str<|ns.getD i aX]++e.map λj=>V.str<|ns.getD j aX;have e8:([V.str ("sees":Str),V.str<|ns.getD i aX]++e.map λj=>V.str<|ns.getD j aX)=(lM<|fk ns f<|.sees i e).map V.str:=by
   show _=[V.str ("sees":Str),V.str<|ns.getD i aX]++(e.map λj=>ns.getD j aX).map V.str;rw[kb];rfl
  have hsne:e≠[]:=λz=>by rw[z]at hsml;exact absurd hsml (by show ¬0=_;omega)
  have hsp:e.Perm (iF ns.length<|ws.getD i 0):=by rw[hbt];exact hsm
  have T:=ou P hi hsp hsne;have hlw:=g9 T;have hlt:=fe T;have hsum:=dN 30 (lM<|fk ns f<|.sees i e) λy hy=>(hlw.1 y hy).2.2;have h41:(lM<|fk ns f<|.sees i e).length*31<=41*31:=sU _ hlw.2.1;have h2000:(2000:Nat)<=sizeLine:=by decide
  refine⟨_,p8,lM<|fk ns f<|.sees i e,rfl,rfl,ay.of (by rw[af,e8]),?_,?_,?_⟩
  ·rw[aW];show((lM<|fk ns f<|.sees i e).map λz=>z.length+1).sum<=_
   omega
  ·rw[aW]
   have:(lu<|fk ns f<|.sees i e).length=(Str.join ⟨#[32]⟩<|lM<|fk ns f<|.sees i e).length:=rfl
   omega
  rw[aW];obtain⟨qq,hq1,hq2,eqq⟩:∃a:Nat,mm<a/\a<=M.length/\1+(mm:Int)+x3%((M.length:Int)-(1+(mm:Int))+1)=(a:Int):=by
   have h0:=A5 x3 (show((M.length:Int)-(1+(mm:Int))+1)≠0 by omega)
   have h1:=B9 x3 (show(0:Int)<((M.length:Int)-(1+(mm:Int))+1) by omega)
   exact⟨(1+(mm:Int)+x3%((M.length:Int)-(1+(mm:Int))+1)).toNat,by omega,by omega,by omega⟩
  rw[eqq];have sA:=s711.trans sp8;refine⟨l,_,qq,_,rfl,rfl,sA _ _ ab,by rw[b5,b5];omega,by rw[b5,b5];exact hq2,?_⟩
  have hln:H l=none:=hl;refine⟨dA M qq<|.sees i e,_,_,_,_,_,_,rfl,(g.trans sA).set hln _,by rw[aK lo.symm];exact sA _ _ ho10,?_,?_,?_⟩
  ·rw[af,BG,BG];rfl
  ·refine L.ins hi hnd hsp hsne (λj hj=>?_) htd;have hj':j∈e++[i]:=by
    rcases gz.mp hj with z|z
    ·exact ih.mpr<|.inr<|ek.mpr z
    ·exact ih.mpr<|.inl z
   exact(L.idx P<|a6 j hj').2.2 qq (A6 (hmx j hj') hq1)
  ·unfold dA;rw[eR,kf,rr,q5]
   omega
 rintro σ5 H5 ⟨M,y6,y8,y9,I,J,E,rfl,Y,ho5,hl5,L,hMl⟩;rw[ak]at L hMl;lia;refine q l M H5 Y hl5 ⟨L.ok,L.fR,L.nd,L.pm,λi=>?_⟩ (by omega)
 rw[L.al i,L1]
 have:i∈od↔i<ns.length:=by rw[bl.mem_iff,mv]
 rw[this]
def DU(B:Bn mg)(D:Def K mg "_law_shown" i9):Fn P w K mg base 1 "_law_shown" ["book"] wZ:=by
 have zY:DS (aj i9) ["book","names","counts","web","lines","i","some"] ["book"] ["range","len"]:=aM;walk_at"hH";obtain⟨b,a,e,d,rfl,⟨a1,a2,a3,hb,h1,h2,h3⟩,P,q⟩:=h;have h8:=P.nm.eD;refine⟨_,(ae (yY (kv S 0)<|KY hc (K:=X.K) (n:=3) rfl<|aQ (kg S 1)<|aQ (kg S 2)<|aQ (kg S 3) cQ)
   (ae (Ee (i:=4) S hc hsc (gW S 0 B.range<|aa<|cj S 1 (aA rfl) B.len mo<|aa<|kv S 1) (N:=["k","names","counts"]) (W:=["k"]) (G:=["str"]) (fv:=[none,some 1,some 2]) Dk0 (λcl C fp s H l=>⟨(kg l 0),bp,(aN aJ (aN aJ (aN aJ aU<|j3 (cB rfl) (kv l 1) (kv l 0) λ_ _=>rfl) aU)<|iG l 0 bK B.str boot_str<|aa<|j3 (cB rfl) (kv l 2) (kv l 0) λ_ _=>rfl)⟩) (by rw[hsc];decide +kernel) (by rw[c9,hsc];rfl))
   (ae (eY hxe hc (gW S 0 B.range<|aa<|cj S 1 (aA rfl) B.len mo<|aa<|kv S 1) (kg S 5) (ae (Ee (i:=6) S hc hsc (gW S 0 B.range<|aa<|cj S 1 (aA rfl) B.len mo<|aa<|kv S 1) (N:=["j","web","i","names"]) (W:=["j"]) (G:=[]) (fv:=[none,some 3,some 5,some 1]) Dk0 (λcl C fp s H l=>⟨(kg l 0),(fu<|aL aD (bc<|aN c7 (j3 (cB rfl) (kv l 1) (kv l 2) λ_ _=>rfl)<|aN cT aq<|kv l 0) aq<|ao _),(j3 (cB rfl) (kv l 3) (kv l 0) λ_ _=>rfl)⟩) (by rw[hsc];decide +kernel) (by rw[c9,hsc];rfl))
   (ai<|bT (aL (lX hu rfl) (kv S 6) (dc bI)<|ao _) (ai<|dw<|gU qo oD p4 bH rfl (kv S 4)<|aa<|gU ro Do Gc (bC rfl) rfl aU<|aa<|aN (bW rfl) (dc<|ah aU<|aa<|dR (kv S 1)<|kv S 5)<|kv S 6) aw)))
   (ai<|aG<|gU ro Do Gc (bC rfl) rfl aU<|aa<|kv S 4)))),?_⟩
 have h1000:(1000:Nat)<=sizeLine:=by decide
 have el:("hat ":Str).length=4:=by decide +kernel
 have aI:(" ":Str).length=1:=by decide +kernel
 have Q:∀k,k<a.length->bq (a.getD k aX)=true/\(a.getD k aX).length<=12/\(Str.ofString<|toString ((e.getD k 0:Nat):Int)).length<=30/\((e.getD k 0:Nat):Int).natAbs.log2<1920:=λk hk=>by
  have Z:bq (a.getD k aX)=true/\0<e.getD k 0/\e.getD k 0<10 ^ 30:=pH P hk;refine⟨Z.1,(cF Z.1).2.2,fi (di Z.2.1 Z.2.2).1,?_⟩;rw[Vn];exact(log2_lt (by omega)).mpr (VG Z.2.2 Dk0)
 walk_at"i";refine⟨b,_,rfl,ay.of hb,rfl,?_⟩;refine⟨_,_,rfl,⟨_,_,rfl,⟨_,_,rfl,⟨rfl,?_⟩⟩⟩⟩;walk_at"i";refine aR (.inl<|ay.of h1) ?_;rw[b5];lia;refine⟨(a.length:Int),rfl,by omega,by omega,?_⟩
 rw[ri];refine qF ft (λ_=>true) (λk=>.str<|dY a e<|.dG k) (aC (by omega)) ?_ ?_
 ·intro k H1 A B' hk hS hA _;obtain⟨f1,f2,f3,f4⟩:=Q k hk;rw[Int.zero_add];lia;refine au (ay.of<|hS _ _ h1) (ax<|aT hk) ?_;refine⟨_,_,rfl,rfl,by rw[el];omega,?_⟩
  refine⟨_,_,rfl,rfl,by rw[av,el,aI];omega,?_⟩
  refine cq (ay.of<|hS _ _ h2) rfl (by rw[ak,P.lc];exact hk) ?_
  rw[aZ];refine⟨_,rfl,f4,?_⟩;refine⟨_,_,rfl,rfl,by rw[av,av,el,aI];omega,?_⟩
  rw[lr];exact hA rfl _<|ag.refl _
 intro r H1 hr0 s1 p;rw[bE]at p;have p:H1 r=some (.lst<|((BJ a d 0).map<|dY a e).map V.str):=by
  rw[p];unfold BJ;rw[range_zero,List.filter_nil,map_nil,Vj,kb,kb];rfl
 have hrn:H r=none:=hr0;walk_at"i";refine aR (.inl<|ay.of<|s1 _ _ h1) ?_;rw[b5];refine forR a.length (Sm H b a1 a2 a3 r a e d) rfl (by omega) ⟨_,_,rfl,s1,p⟩ ?_ ?_
 ·rintro k σ H2 hk ⟨y5,y6,rfl,I,E⟩;have hsl:(BJ a d k).length<=90:=by
   unfold BJ
   have:=ya (λi=>decide<|d.getD i 0≠0)<|List.range k
   rw[j6]at this;rw[eR,b5,b5,j6]
   omega
  walk_at"i";refine aR (.inl<|ay.of<|I _ _ h1) ?_;rw[b5];refine⟨(a.length:Int),rfl,by omega,by omega,?_⟩
  rw[ri];refine qF ft (λj=>decide<|d.getD k 0 / 2 ^ j%2=1) (λj=>.str<|a.getD j aX) (aC (by omega)) ?_ ?_
  ·intro j H6 A B' hj O hA hB;rw[Int.zero_add];lia;refine cq (ay.of<|O _ _<|I _ _ h3) rfl (by rw[ak,P.lw];exact hk) ?_
   rw[aZ];lia;have hpj:0<2 ^ j:=Nat.pow_pos a_
   have aV:2 ^ j<=2 ^ 8:=qc a_ (by omega)
   refine⟨eI (by omega),⟨by omega,?_⟩,?_⟩
   ·rw[Vn];exact(log2_lt (by omega)).mpr (A6 aV (On a_ a_))
   refine bu (λc=>?_) λc=>?_
   ·refine au (ay.of<|O _ _<|I _ _ h1) (ax<|aT hj) ?_;exact hA (by rw[<-q7];exact c) _<|ag.refl _
   ·exact hB (by rw[<-q7];exact Vt.mpr c) _<|ag.refl _
  intro sa H6 hsa0 s6 u;have u:H6 sa=some (.lst<|((iF a.length<|d.getD k 0).map λj=>a.getD j aX).map V.str):=by rw[u,kb];rfl
  have s26:=I.trans s6;have hr6:=s6 _ _ E;have hbm:∀j∈iF a.length (d.getD k 0),j<a.length:=λj hj=>(jt.mp hj).1;have T:∀x∈(iF a.length<|d.getD k 0).map (λj=>a.getD j aX),gK x:=λx hx=>by
   obtain⟨j,hj,rfl⟩:=kc.mp hx;exact(cF<|P.nm.nm _<|getD_memS<|hbm j hj).1
  lia;refine⟨a_,λz hz=>?_⟩
  have sz:=ag.new hz<|.lst [];refine⟨_,_,.lst (ay.of<|sz _ _ u)<|g5 _,.lst (ay.of af) .nil,uC T,a_,?_⟩
  rw[Bw];have o:=sz _ _ hr6;have t:=s26.trans sz;have m:=sz _ _ u;generalize upd H6 z (.lst [])=H7 at o t m ⊢;have g:=wY P hk
  by_cases U:d.getD k 0≠0
  ·have f:=ou P hk (List.Perm.refl _)<|g.mpr U;have Y:=g.mpr U;generalize J:iF a.length (d.getD k 0)=bt at m f Y ⊢;rw[cv (show ¬((bt.map λj=>a.getD j aX).map PyData.str=[])from λz=>Y<|Vz.mp<|Vz.mp z)]
   lia;have hbl8:bt.length<=a.length:=by
    rw[<-J];unfold iF
    have:=ya (λj=>decide<|d.getD k 0 / 2 ^ j%2=1)<|List.range a.length
    rw[j6]at this;exact this
   refine⟨.inl ⟨rfl,_,ay.of o⟩,rfl,?_⟩;refine au (ay.of<|t _ _ h1) (ax<|aT hk) ?_;refine⟨a_,λp7 hp7=>?_⟩
   have aF:=ag.new hp7<|.lst [V.str ("sees":Str),V.str<|a.getD k aX];refine⟨p7,sa,_,_,rfl,rfl,ay.of af,ay.of<|aF _ _ m,by rw[b5,b5];exact cw (by show 2+_<=100;omega),λp8 hp8=>?_⟩
   have sp8:=ag.new hp8<|.lst<|[V.str ("sees":Str),V.str<|a.getD k aX]++(bt.map λj=>a.getD j aX).map V.str;have az:=g9 f;have hlt:=fe f;have v:=dN 30 (lM<|fk a e<|.sees k bt) λy hy=>(az.1 y hy).2.2;have h41:(lM<|fk a e<|.sees k bt).length*31<=41*31:=sU _ az.2.1;have h2000:(2000:Nat)<=sizeLine:=by decide
   refine⟨_,p8,lM<|fk a e<|.sees k bt,rfl,rfl,ay.of (by rw[af];rfl),?_,?_,?_⟩
   ·rw[aW];show((lM<|fk a e<|.sees k bt).map λz=>z.length+1).sum<=_
    omega
   ·rw[aW]
    have:(lu<|fk a e<|.sees k bt).length=(Str.join ⟨#[32]⟩<|lM<|fk a e<|.sees k bt).length:=rfl
    omega
   rw[aW];have sA:=aF.trans sp8;refine⟨r,_,_,rfl,rfl,sA _ _ o,by rw[b5,b5];exact cw (by omega),?_⟩
   refine⟨_,_,rfl,(t.trans sA).set hrn _,?_⟩;rw[af,ly,if_pos U,J,hI,hI];rfl
  ·have R:iF a.length (d.getD k 0)=[]:=vr λz=>U<|g.mp z;rw[R,ed<|show(([]:d_).map λj=>a.getD j aX).map PyData.str=[]from rfl]
   lia;refine⟨_,_,rfl,t,?_⟩;rw[ly,if_neg U];exact o
 rintro σ2 H2 ⟨y5,y6,rfl,I,E⟩;lia;have hM:=cU P;have hML:(bh a d).length<=16:=hU fm (by omega)
 have en:("\n":Str)=⟨#[10]⟩:=by decide +kernel
 have L:=hM.lx P;have emm:(bh a d).map (dY a e)=((bh a d).map<|fk a e).map lu:=by rw[kb];rfl
 have ab:((bh a d).map<|fk a e).length<=100:=by rw[b5];omega
 have hbl:=fj L ab;have v:=dN 1271 ((bh a d).map<|dY a e) λy hy=>by
  obtain⟨x,hx,rfl⟩:=kc.mp hy;exact fe<|hM.pI P x hx
 rw[b5]at v;have h16:(bh a d).length*1272<=16*1272:=sU _ hML;have hbig:(1000000:Nat)<=sizeLine:=by decide
 have M:Str.join ⟨#[10]⟩ ((bh a d).map<|dY a e)=dO ((bh a d).map<|fk a e):=by rw[emm];rfl
 refine⟨rfl,_,r,(bh a d).map<|dY a e,rfl,rfl,ay.of E,?_,?_,?_⟩
 ·rw[en];show(((bh a d).map<|dY a e).map λz=>z.length+1).sum<=_
  omega
 ·rw[en,M];omega
 rw[en,M];exact q H2 I
def Tq{a b:Prop}[Decidable a][Decidable b]{x t:Prop}(hx:a->b->x)(ht:t):if a then(if b then x else t)else t:=by
 split
 ·split
  ·exact hx ‹_› ‹_›
  ·exact ht
 ·exact ht
def IH(k:Nat):(1:Int)*2 ^ ((k:Nat):Int).toNat=((2 ^ k:Nat):Int):=by
 rw[Int.one_mul,ri];exact(natCast_pow 2 k).symm
def xH{x i n:Nat}(h:i<n):x&&& (2 ^ i-1)<2 ^ n/\(x&&& (2 ^ i-1)).testBit i=false:=by
 rw[Nat.and_two_pow_sub_one_eq_mod];have h1:=mod_lt x<|Re i;exact⟨VG h1 (On a_ h),Nat.testBit_lt_two_pow h1⟩
def Aq(B:Bn mg)(D:Def K mg "_law_sight" ja):Fn P w K mg base 1 "_law_sight" ["drawn","many","kind","i"] BX:=by
 have zY:DS (aj ja) ["drawn","many","kind","i","every","half","few"] ["drawn","many","kind","i"] []:=aM;walk_at"hH";obtain⟨a,y,b,r,i,rfl,f,e,d,h1,v,hi,q⟩:=h;refine⟨_,(ae (bo S 4<|aN cu (aN cu (aN cT aq<|kv S 1) aq)<|aN cT aq<|kv S 3)
   (ae (bo S 5<|sr<|kv S 1)
   (ae (bT (aL aD (kv S 2) aq<|ao _) (ai<|aG<|kv S 4) aw)
   (ae (bT (aL aD (kv S 2) aq<|ao _) (ae (bo S 6<|aN ee (aN ee (dR (kv S 0)<|kv S 3)<|dR (kv S 0)<|aN aH aq<|kv S 3)<|dR (kv S 0)<|aN aH aq<|kv S 3)
   (ai<|aG<|aN ee (aN AZ (aN cT aq<|aN bO (aN aH (kv S 3) aq)<|kv S 1)<|kv S 6)<|kv S 4)) aw)
   (ae (bT (aL aD (kv S 2) aq<|ao _) (ai<|aG<|aN ee (dR (kv S 0)<|kv S 3)<|aN cu (aN cT aq<|kv S 3) aq) aw)
   (ae (bT (qD<|j4 (aL aD (kv S 2) aq<|ao _)<|gE<|aL fq (kv S 3) (kv S 5)<|ao _) (ai<|aG<|aN cu (aN cu (aN cT aq<|kv S 5) aq)<|aN cT aq<|kv S 3) aw)
   (ae (bT (aL aD (kv S 2) aq<|ao _) (ai<|aG<|aN ee (aN cT aq<|aN aH (kv S 5)<|aN bO (aN aH (aN cu (kv S 3)<|kv S 5) aq)<|aN cu (kv S 1)<|kv S 5)<|kv S 4) aw)
   (ae (bT (aL aD (kv S 2) aq<|ao _) (ai<|aG<|aN ee (aN ee (dR (kv S 0)<|kv S 3)<|dR (kv S 0)<|aN aH aq<|kv S 3)<|kv S 4) aw)
   (ai<|aG<|aN ee (aN AZ (dR (kv S 0)<|kv S 3)<|dR (kv S 0)<|aN aH aq<|kv S 3)<|kv S 4))))))))),?_⟩
 walk_at"i";refine⟨eI (by omega),eI (by omega),?_⟩
 rw[BY hi];obtain⟨m,l⟩:=zZ hi;have j:∀x:Nat,Q (.int ((x&&& (2 ^ b-1-2 ^ i):Nat):Int)) H:=λx=>q _ (BZ m l).1 (BZ m l).2;have p:=q _ m l;generalize 2 ^ b-1-2 ^ i=ev at p j ⊢;clear m l;walk_at"h";walk_at"h";refine bu (λ_=>p) λ_=>?_;walk_at"h";refine bu (λ_=>?_) λ_=>?_
 ·walk_at"h";refine cV f e d (by omega) (by omega) λo=>?_
  refine cV f e d (by omega) (by omega) λs=>?_
  lia;refine cV f e d (by omega) (by omega) λz=>?_
  lia;rw[show((i:Int)+1)%(b:Int)=(((i+1)%b:Nat):Int) by rw[natCast_emod];rfl,IH]
  have hm:(i+1)%b<b:=mod_lt _ h1;refine⟨by omega,eI (by omega),?_⟩
  rw[Ul,Kj];exact j _
 walk_at"h";refine bu (λ_=>?_) λ_=>?_
 ·refine cV f e d (by omega) (by omega) λo=>?_
  refine⟨eI (by omega),?_⟩
  rw[show((2 ^ i:Nat):Int)-1=((2 ^ i-1:Nat):Int) by have:=Re i;omega]
  lia;exact q _ (xH hi).1 (xH hi).2
 walk_at"h";have t:(b:Int) / 2=((b / 2:Nat):Int):=rfl;rw[t]at *;refine Tq (λ_ c=>?_) ?_
 ·have c:i<b / 2:=by omega
  refine⟨eI (by omega),eI (by omega),?_⟩
  rw[IH,BY c];have u:2 ^ (b / 2)<=2 ^ b:=qc a_<|Nat.div_le_self _ _
  exact q _ (j5 (zZ c).1 u) (zZ c).2
 walk_at"h";refine bu (λ_=>?_) λ_=>?_
 ·have g:(0:Int)<(b:Int)-((b / 2:Nat):Int):=by omega
  have A:=A5 ((i:Int)-((b / 2:Nat):Int)+1) (show(b:Int)-((b / 2:Nat):Int)≠0 by omega)
  have C:=B9 ((i:Int)-((b / 2:Nat):Int)+1) g;obtain⟨n,hn⟩:=hO (show 0<=((b / 2:Nat):Int)+((i:Int)-((b / 2:Nat):Int)+1)%((b:Int)-((b / 2:Nat):Int)) by omega)
  refine⟨g,?_⟩;rw[hn,IH,Kj];exact⟨eI (by omega),j _⟩
 walk_at"h";refine bu (λ_=>?_) λ_=>?_
 ·refine cV f e d (by omega) (by omega) λo=>?_
  refine cV f e d (by omega) (by omega) λs=>?_
  lia;exact j _
 lia;refine cV f e d (by omega) (by omega) λo=>?_
 refine cV f e d (by omega) (by omega) λs=>?_
 lia;exact j _
def LP(B:Bn mg)(D:Def K mg "_law_hat_count" eS)(xQ:Fn P w K mg base 2 "_law_count" ["cell","k"] wN):Fn P w K mg base 3 "_law_hat_count" ["drawn","kind","i"] HS:=by
 have zY:DS (aj eS) ["drawn","kind","i"] ["drawn","kind","i"] ["_law_count"]:=aM;walk_at"hH";obtain⟨a,r,j,i,rfl,g,f,b,hi,q⟩:=h;have d:(10:Nat) ^ 30=1000000000000000000000000000000:=by decide +kernel
 rw[d]at q;refine⟨_,(ae (bT (aL aD (kv S 1) aq<|ao _) (ai<|aG aq) aw)
   (ae (bT (aL aD (kv S 1) aq<|ao _) (ai<|aG<|aN aH aq<|bc<|dR (kv S 0)<|kv S 2) aw)
   (ae (bT (aL aD (kv S 1) aq<|ao _) (ai (aG (dR (dc (nY (ns:=[2,2,3,2,4,1]) Dk0))<|bc<|dR (kv S 0)<|kv S 2))) aw)
   (ai<|aG<|bZ S 0 xQ hr<|ah (dR (kv S 0)<|kv S 2)<|aa<|kv S 2)))),?_⟩
 cbv;refine bu (λ_=>q 2 H (ag.refl _) a_ a_) λ_=>?_
 refine bu (λ_=>?_) λ_=>?_
 ·refine cV g f b (by omega) (by omega) λx=>?_
  cbv;exact q (1+x%6) H (ag.refl _) (by omega) (by omega)
 refine bu (λ_=>?_) λ_=>?_
 ·refine⟨a_,λp m=>?_⟩
  have l:=ag.new m<|.lst [V.int 2,V.int 2,V.int 3,V.int 2,V.int 4,V.int 1];refine cV (l _ _ g) f b (by omega) (by omega) λx=>?_
  cbv;have hm:x%6 < [2,2,3,2,4,1].length:=by show x%6<6;omega
  have hb:∀x∈[2,2,3,2,4,1],0<x/\x<1000000000000000000000000000000:=by decide +kernel
  refine au (i:=((x%6:Nat):Int)) (ay.of af) (ax (show((aE [2,2,3,2,4,1]).map V.int)[x%6]?=some (.int (([2,2,3,2,4,1][x%6]'hm:Nat):Int)) by unfold aE;rw[eG,eG,cc hm];rfl)) ?_
  exact q _ _ l (hb _<|pS hm).1 (hb _<|pS hm).2
 ·refine cV g f b (by omega) (by omega) λx=>?_
  exact⟨_,_,rfl,λc o n e s=>q c o s n (by rw[<-d];exact e)⟩
def Tr(H0:Hp)(a:Addr)(most kinds:Nat)(dr nm:Addr)(ns:f_)(ht:Addr)(x35:Nat)(ca sg wa tu o se:Addr)(k:Nat)(σ:L2.St)(H:Hp):Prop:=∃(ws:d_) (y14 y15 y16:v_),σ=[some (.ref a),some<|.int (most:Int),some<|.int (kinds:Int),some<|.ref dr,some<|.ref nm,some<|.int (ns.length:Int),some<|.ref ht,some<|.int<|(x35:Int)%6,some<|.ref ca,some<|.ref sg,some<|.ref wa,some<|.ref tu,some<|.ref o,some<|.ref se,y14,y15,y16]/\ag H0 H/\H se=some (.lst<|(aE ws).map V.int)/\ws.length=k/\∀j,j<k->ws.getD j 0<2 ^ ns.length/\(ws.getD j 0).testBit j=false
def Ar(B:Bn mg)(D:Def K mg "_law_house" jb)(bU:Fn P w K mg base 1 "_law_draws" ["cell","count"] lq)(xR:Fn P w K mg base 2 "_law_names" ["cell","size"] BD)(nN:Fn P w K mg base 3 "_law_hat_count" ["drawn","kind","i"] HS)(xS:Fn P w K mg base 1 "_law_sight" ["drawn","many","kind","i"] BX):Fn P w K mg base 4 "_law_house" ["cells","most","kinds"] (sZ K):=by
 have zY:DS (aj jb) ["cells","most","kinds","drawn","names","many","hats","kind","counts","sights","web","turned","order","seen","i","mask","some"] ["cells","most","kinds"] ["_law_draws","_law_names","len","range","max","list","sum"]:=aM;walk_at"hH";obtain⟨a,xs,f,t,rfl,ha,hx3,m1,m8,k1,k6,q⟩:=h;obtain⟨c0,c1,c2,rfl⟩:∃c0 c1 c2,xs=[c0,c1,c2]:=by
  match xs,hx3 with
  | [c0,c1,c2],_=>exact⟨c0,c1,c2,rfl⟩
 refine⟨_,(ae (bo S 3<|bZ S 0 bU hr<|ah (bS<|kv S 0)<|aa aq)
   (ae (bo S 4<|dc bI)
   (ae (bT (aL ir (bc<|bS<|kv S 3) aq<|ao _) (ai<|bo S 4<|bZ S 1 xR hr<|ah (sr<|bS<|kv S 0)<|aa<|aN aH aq<|aN bO (bS<|kv S 3)<|kv S 1) aw)
   (ae (bo S 5<|cj S 2 (aA rfl) B.len mo<|aa<|kv S 4)
   (ae (bo S 6<|bZ S 0 bU hr<|ah (bS<|kv S 0)<|aa aq)
   (ae (bo S 7<|aN bO (bS<|kv S 3)<|kv S 2)
   (ae (Ee (i:=8) S hc hsc (gW S 3 B.range<|aa<|kv S 5) (N:=["i","hats","kind"]) (W:=["i"]) (G:=["_law_hat_count"]) (fv:=[none,some 6,some 7]) Dk0 (λcl C fp s H g=>⟨(kg g 0),bp,(bZ g 0 nN hr<|ah (kv g 1)<|ah (kv g 2)<|aa<|kv g 0)⟩) (by rw[hsc];decide +kernel) (by rw[c9,hsc];rfl))
   (ae (bo S 9<|bZ S 0 bU hr<|ah (bS<|kv S 0)<|aa aq)
   (ae (bo S 7<|bc<|bS<|kv S 3)
   (ae (Ee (i:=10) S hc hsc (gW S 3 B.range<|aa<|kv S 5) (N:=["i","sights","many","kind"]) (W:=["i"]) (G:=["_law_sight"]) (fv:=[none,some 9,some 5,some 7]) Dk0 (λcl C fp s H g=>⟨(kg g 0),bp,(bZ g 0 xS hr<|ah (kv g 1)<|ah (kv g 2)<|ah (kv g 3)<|aa<|kv g 0)⟩) (by rw[hsc];decide +kernel) (by rw[c9,hsc];rfl))
   (ae (bo S 11<|dc<|ah (aN bO (bS<|kv S 3)<|cj S 4 (CC hc) B.max boot_max<|ah aq<|aa<|kv S 5)<|aa<|bc<|bS<|kv S 3)
   (ae (bo S 12<|iG S 5 (gG hc) B.list boot_list<|aa<|iG S 3 k7 B.range boot_range<|aa<|kv S 5)
   (ae (bo S 12<|aN (bW rfl) (jz (cp rfl) (kv S 12) (aY<|bS<|kv S 11) bg)<|jz (cp rfl) (kv S 12) bg<|aY<|bS<|kv S 11)
   (ae (bT (aL aD (bS<|kv S 11) aq<|ao _) (ai<|bo S 12<|O9 (kv S 12) (OU jV aq) rfl) aw)
   (ae (bo S 13<|dc bI)
   (ae (eY hxe hc (gW S 3 B.range<|aa<|kv S 5) (kg S 14) (ae (bo S 15<|dR (kv S 10)<|dR (kv S 12)<|kv S 14)
   (ae (Ee (i:=16) S hc hsc (gW S 3 B.range<|aa<|kv S 5) (N:=["j","mask","order"]) (W:=["j"]) (G:=[]) (fv:=[none,some 15,some 12]) Dk0 (λcl C fp s H g=>⟨(kg g 0),(fu<|aL aD (bc<|aN c7 (kv g 1)<|aN cT aq<|j3 (cB rfl) (kv g 2) (kv g 0) λ_ _=>rfl) aq<|ao _),(kv g 0)⟩) (by rw[hsc];decide +kernel) (by rw[c9,hsc];rfl))
   (ai (dw (gU qo oD p4 bH rfl (kv S 13) (aa (cj S 6 (dq hc rfl) B.sum boot_sum (aa (iD S hc hsc (cC (kv S 16) rfl) (N:=["j"]) (W:=["j"]) (G:=[]) (fv:=[none]) Dk0 λcl C fp s H g=>⟨(kg g 0),bp,(aN cT aq<|kv g 0)⟩))))))))))
   (ai<|aG<|dc<|ah (kv S 4)<|ah (kv S 8)<|aa<|kv S 13))))))))))))))))),?_⟩
 walk_at"i";refine au (i:=((0:Nat):Int)) ha (ax rfl) ?_;refine⟨_,40,rfl,a_,λdr dn H1 s1 hdr0 hdr I J=>?_⟩
 walk_at"i";refine⟨a_,λe0 he0=>?_⟩
 have s2:=s1.trans<|ag.new he0<|.lst [];have p:=ag.new he0 (.lst []) _ _ hdr;have he2:upd H1 e0 (.lst []) e0=some (.lst []):=af;generalize upd H1 e0 (.lst [])=H2 at s2 p he2 ⊢;lia;refine Ap (λσ' H'=>∃(nm:Addr) (d:f_),σ'=[some (.ref a),some<|.int (f:Int),some<|.int (t:Int),some<|.ref dr,some<|.ref nm,none,none,none,none,none,none,none,none,none,none,none,none]/\ag H2 H'/\H' nm=some (.lst<|d.map V.str)/\IU d f) ?_ ?_
 rotate_left
 ·intro R hR;lia;refine cV p I J a_ a_ λx=>?_
  lia;refine bu (λ_=>?_) λ_=>hR _ _ ⟨e0,[],rfl,ag.refl _,he2,⟨zero_le _,.nil,(λ_ z=>nomatch z)⟩⟩;refine au (i:=((0:Nat):Int)) (s2.seq ha) (ax rfl) ?_;lia;refine cV p I J a_ a_ λy=>?_
  lia;have hy:y%f<f:=mod_lt _ m1;refine⟨by omega,_,1+y%f,by rw[natCast_add,natCast_emod];rfl,by omega,by omega,λl d H3 s3 hl0 hl1 hne hN=>hR _ _ ⟨l,d,rfl,s3,hl1,qf hN (by omega)⟩⟩
 rintro σ3 H3 ⟨nm,d,rfl,s3,hnm,hN⟩;have hn8:=hN.eD;have s13:=s2.trans s3;have E:=s3 _ _ p;clear p he2 he0 s2 s3 hdr0 hdr s1;walk_at"i";refine aR (.inl<|ay.of hnm) ?_;rw[b5];walk_at"i";refine au (i:=((1:Nat):Int)) (s13.seq ha) (ax rfl) ?_;refine⟨_,8,rfl,a_,λht hn H4 s4 _ hht hhl hhn=>?_⟩
 have s14:=s13.trans s4;walk_at"i";refine cV (s4 _ _ E) I J a_ a_ λx34=>?_
 refine⟨_,_,rfl,rfl,by omega,?_⟩
 walk_at"i";refine TR 0 (λc:Nat=>.int (c:Int)) d.length rfl (by omega) (λ_ c=>0<c/\c<10 ^ 30) ?_ ?_
 ·intro i H5 A hi hS hA;lia;exact⟨ht,hn,_,i,rfl,hS _ _ hht,hhl,hhn,by omega,λc H' s' h0 h1=>hA c H' s' ⟨h0,h1⟩⟩
 intro ca cs H5 hca0 s5 hca hcl Q;have hca:H5 ca=some (.lst<|(aE cs).map V.int):=by rw[hca];unfold aE;rw[kb];rfl
 have Q:∀x∈cs,0<x/\x<10 ^ 30:=λx hx=>by
  obtain⟨i,hi,rfl⟩:=List.mem_iff_getElem.mp hx
  have:=Q i (by omega)
  rwa [b4,cc hi]at this
 have s15:=s14.trans s5;walk_at"i";refine au (i:=((2:Nat):Int)) (s15.seq ha) (ax rfl) ?_;refine⟨_,24,rfl,a_,λsg sn H6 s6 _ hsg hsl hsn=>?_⟩
 have s16:=s15.trans s6;have s36:=(s4.trans s5).trans s6;walk_at"i";refine cV (s36 _ _ E) I J a_ a_ λx35=>?_
 lia;walk_at"i";refine TR 0 V.int d.length rfl (by omega) (λi x=>∃m:Nat,x=(m:Int)/\m<2 ^ d.length/\m.testBit i=false) ?_ ?_
 ·intro i H7 A hi hS hA;lia;exact⟨sg,sn,d.length,_,i,rfl,hS _ _ hsg,hsl,hsn,by omega,by omega,hi,λm h0 h1=>hA _ _ (ag.refl _) ⟨m,rfl,h0,h1⟩⟩
 intro wa row H7 hwa0 s7 hwa hrl hrow;have s17:=s16.trans s7;have s37:=s36.trans s7;walk_at"i";refine cV (s37 _ _ E) I J a_ a_ λx36=>?_
 have hmx:(0:Int)<(if(d.length:Int)>1 then(d.length:Int)else 1):=by split<;>omega
 refine⟨_,_,rfl,rfl,hmx,?_⟩;obtain⟨U,hr0⟩:=hO<|A5 (x36:Int)<|Int.ne_of_gt hmx;refine cV (s37 _ _ E) I J a_ a_ λx37=>?_
 lia;rw[hr0];refine⟨a_,λtu htu0=>?_⟩
 generalize r:upd H7 tu _=H8;obtain⟨st,htu⟩:=jO htu0 r;clear r htu0;walk_at"i";refine⟨d.length,rfl,by omega,λrg hrg=>?_⟩
 generalize r:upd H8 rg _=H9;obtain⟨srg,hrg9⟩:=jO hrg r;refine⟨rg,d.length,rfl,hrg9,by omega,λo ho=>?_⟩
 clear r;generalize r:upd H9 o _=H10;obtain⟨so,O⟩:=jO ho r;clear r;have O:H10 o=some (.lst<|(aE<|List.range d.length).map V.int):=O;have s8o:=srg.trans so;have s79:=st.trans s8o;have v:=s8o _ _ htu;walk_at"i";refine au (i:=((0:Nat):Int)) (ay.of v) (ax rfl) ?_;lia;refine uR U (ay.of O) λo1 H11 t1 _ ho1=>?_;refine au (i:=((0:Nat):Int)) (ay.of<|t1 _ _ v) (ax rfl) ?_;lia;refine Lv U (ay.of<|t1 _ _ O) λo2 H12 t2 _ ho2=>?_;have hol:((aE<|List.range d.length).map V.int).length=d.length:=by rw[b5,ak,j6]
 refine⟨o1,o2,_,_,rfl,rfl,ay.of<|t2 _ _ ho1,ay.of ho2,?_,λo3 ho3=>?_⟩
 ·rw[q5,rr,hol];exact cw (by omega)
 generalize r:upd H12 o3 _=H13;obtain⟨t3,n⟩:=jO ho3 r;clear r;have n:H13 o3=some (.lst<|(aE<|(List.range d.length).drop U++(List.range d.length).take U).map V.int):=by
  rw[n];unfold aE;rw[<-Vu,<-Vu,<-map_take,<-map_take,<-hI,<-hI]
 have t13:=(t1.trans t2).trans t3;have s7e:=s79.trans t13;have Z:((List.range d.length).drop U++(List.range d.length).take U).Perm (List.range d.length):=by
  have:=List.perm_append_comm (l₁:=(List.range d.length).drop U) (l₂:=(List.range d.length).take U)
  rwa [Vh]at this
 have L:=t13 _ _ v;generalize (List.range d.length).drop U++(List.range d.length).take U=od0 at n Z;clear hol ho1 ho2 ho3 O v t1 t2 t3 t13 s79;lia;refine Ap (λσ' H'=>∃(o:Addr) (u:d_),σ'=[some (.ref a),some<|.int (f:Int),some<|.int (t:Int),some<|.ref dr,some<|.ref nm,some<|.int (d.length:Int),some<|.ref ht,some<|.int<|(x35:Int)%6,some<|.ref ca,some<|.ref sg,some<|.ref wa,some<|.ref tu,some<|.ref o,none,none,none,none]/\ag H7 H'/\H' o=some (.lst<|(aE u).map V.int)/\u.Perm (List.range d.length)) ?_ ?_
 rotate_left
 ·intro R hR;lia;refine au (i:=((1:Nat):Int)) (ay.of L) (ax rfl) ?_;lia;refine bu (λc=>?_) λc=>hR _ _ ⟨o3,od0,rfl,s7e,n,Z⟩;refine⟨trivial,o3,_,rfl,ay.of n,λo4 ho4=>?_⟩;have so4:=ag.new ho4<|.lst ((aE od0).map V.int).reverse;refine hR _ _ ⟨o4,od0.reverse,rfl,s7e.trans so4,?_,(reverse_perm _).trans Z⟩;rw[af];unfold aE;rw[<-VD,<-VD]
 clear L n Z s7e;rintro σ4 H14 ⟨o,u,rfl,s8,ho,hod⟩;have hodl:u.length=d.length:=by rw[hod.length_eq,j6]
 have hodn:u.Nodup:=hod.nodup_iff.mpr VN;have hodi:∀k,k<d.length->u.getD k 0<d.length:=λk hk=>mv.mp (hod.mem_iff.mp (qI (by omega)))
 walk_at"i";refine⟨a_,λse T=>?_⟩
 generalize r:upd H14 se _=H15;obtain⟨t5,hse⟩:=jO T r;clear r;have s9:=s8.trans t5;have hseN:=s8.free T;walk_at"i";refine forR d.length (Tr H14 a f t dr nm d ht x35 ca sg wa tu o se) rfl (by omega) ⟨[],_,_,_,rfl,t5,hse,rfl,λ_ z=>absurd z<|VE _⟩ ?_ ?_
 ·rintro k σ H16 hk ⟨ws,y14,y15,y16,rfl,u0,M,ab,az⟩;walk_at"i";have hoA:=u0 _ _ ho;have hwA:=u0 _ _<|s8 _ _ hwa;have bf:=hodi k hk;refine cq (ay.of hoA) rfl (by rw[ak];omega) ?_
  rw[aZ];refine cq (ay.of hwA) rfl (by omega) ?_
  obtain⟨m,hm,hm2,hmb⟩:=hrow _ bf;rw[hm];walk_at"i";refine Ry d.length (λj=>m.testBit<|u.getD j 0) (λj=>((j:Nat):Int)) rfl (by omega) ?_ ?_
  ·intro j H17 A B' hj hS hA hB;lia;refine cq (ay.of<|hS _ _ hoA) rfl (by rw[ak];omega) ?_
   rw[aZ];have hjo:=hodi j hj;generalize u.getD j 0=oj at hA hB hjo ⊢;lia;have hpj:0<2 ^ oj:=Re oj;have hj8:2 ^ oj<=2 ^ 8:=qc a_ (by omega)
   refine⟨eI (by omega),⟨by omega,?_⟩,?_⟩
   ·rw[Vn];exact(log2_lt (by omega)).mpr (A6 hj8 (On a_ a_))
   refine bu (λc=>hA c _<|ag.refl _) (λc=>hB (by simpa using c) _<|ag.refl _)
  intro sm H17 hsm0 u1 Y;have hnd:((List.range d.length).filter λj=>m.testBit<|u.getD j 0).Nodup:=VN.sublist filter_sublist;have X:∀j∈(List.range d.length).filter (λj=>m.testBit<|u.getD j 0),j<d.length/\m.testBit (u.getD j 0)=true:=λj hj=>⟨mv.mp (rz.mp hj).1,(rz.mp hj).2⟩;have hsml:((List.range d.length).filter λj=>m.testBit<|u.getD j 0).length<=8:=by
   refine hU (ya _ _) ?_;rw[j6];omega
  have Y:H17 sm=some (.lst<|(aE<|(List.range d.length).filter λj=>m.testBit<|u.getD j 0).map V.int):=Y;generalize (List.range d.length).filter (λj=>m.testBit<|u.getD j 0)=l at Y hnd X hsml;lia;have hse2:=u1 _ _ M;refine⟨.inl ⟨rfl,_,ay.of hse2⟩,?_⟩;refine Uh (λ_=>true) (λi=>((2 ^ l.getD i 0:Nat):Int)) (ay.of Y) (by rw[ak];exact aC (by omega)) ?_ ?_
  ·intro i H18 A B' hi hS hA _;rw[ak]at hi;rw[aZ]
   have:=(X _<|qI hi).1
   lia;exact⟨eI (by omega),hA rfl _<|ag.refl _⟩
  intro ac H18 hac0 u2 hac;rw[bE,ak]at hac;have u02:=u0.trans<|u1.trans u2;have esum:((List.range l.length).map λi=>((2 ^ l.getD i 0:Nat):Int)).sum=((mask l:Nat):Int):=by
   have:=Bv l
   rwa [ak]at this
  refine o8 (ay.of hac) ?_;rw[esum];refine⟨se,_,_,rfl,rfl,u2 _ _ hse2,by rw[b5,ak];exact cw (by omega),?_⟩
  rw[pE];refine⟨_,_,_,_,rfl,u02.set T _,af,by rw[eR,ab];rfl,λj hj=>?_⟩
  by_cases e:j<k
  ·rw[b4,u5 (by omega),<-b4]
   exact az j e
  ·obtain rfl:j=k:=by omega
   rw[b4,tz (by omega),ab,Nat.sub_self]
   refine⟨Kt hnd λi hi=>(X i hi).1,?_⟩;show(mask l).testBit j=false;rw[gJ hnd];exact cv λz=>by
    have:=(X j z).2
    rw[hmb]at this;cases this
 rintro σ H16 ⟨ws,y14,y15,y16,rfl,u0,M,ab,az⟩;lia;have s1e:=s17.trans<|s8.trans u0;have s3e:=s37.trans<|s8.trans u0;have s5e:=(s6.trans s7).trans<|s8.trans u0;refine⟨a_,λb hb=>?_⟩
 generalize r:upd H16 b _=H17;obtain⟨t6,hb'⟩:=jO hb r;refine q b d cs ws _ (s1e.trans t6) ⟨nm,ca,se,hb',t6 _ _<|s3e _ _ hnm,t6 _ _<|s5e _ _ hca,t6 _ _ M⟩ ⟨qf hN m8,hcl,ab,Q,λj hj=>(az j (by omega)).1,λj hj=>?_⟩ hn8
 have:=(az j (by omega)).2
 rw[q7]at this
 have:=of_decide_eq_false this
 omega
def LQ(B:Bn mg)(D:Def K mg "_law_groups" ig):Fn P w K mg base 1 "_law_groups" ["rows","names"] (HU K):=by
 have zY:DS (aj ig) ["rows","names","found","row","words"] ["rows","names"] ["len","tuple"]:=aM;walk_at"hH";obtain⟨r,nm,d,L,rfl,hr0,hnm,G,q⟩:=h;refine⟨_,(ae (bo S 2<|dc bI)
   (ae (eY hxe hc (cC (kv S 0) rfl) (kg S 3) (ae (bo S 4<|gU ro KB VB cK rfl (kv S 3)<|aa aU)
   (ae (bT (qD (My (aL (et rfl) (bS<|kv S 4) (qC<|ah aU<|aa aU) (by with_unfolding_all rfl))<|v3<|aL fq (cj S 0 (aA rfl) B.len mo<|aa<|kv S 4) aq<|ao _)) (ai<|aG lY) aw)
   (ae (bT (aL (lX hu rfl) (iD S hc hsc (cC (jz (cp rfl) (kv S 4) (aY aq) bg) rfl) (N:=["word","names"]) (W:=["word"]) (G:=[]) (fv:=[none,some 1]) Dk0 (λcl C fp s H Q=>⟨(kg Q 0),(fu (aL (et rfl) (kv Q 0) (kv Q 1) (by with_unfolding_all rfl))),(kv Q 0)⟩)) (dc bI)<|ao _) (ai<|aG lY) aw)
   (ai (dw (gU qo oD p4 bH rfl (kv S 2) (aa (qC (ah (bS<|kv S 4) (aa (iG S 1 (g4 rfl) B.tuple SC (aa (iD S hc hsc (cC (jz (cp rfl) (kv S 4) (aY aq) bg) rfl) (N:=["word","names"]) (W:=["word"]) (G:=[]) (fv:=[none,some 1]) Dk0 λcl C fp s H Q=>⟨(kg Q 0),bp,(gU qo Vp type_list_index (js rfl) rfl (kv Q 1)<|aa<|kv Q 0)⟩))))))))))))))
   (ai<|aG<|iG S 1 (g4 rfl) B.tuple SC<|aa<|kv S 2))),?_⟩
 walk_at"i";refine⟨a_,λf hf0=>?_⟩
 generalize c:upd H f _=H1;obtain⟨s1,hf⟩:=jO hf0 c;clear c;walk_at"i";refine RT (S1 X.K H r nm f L) (ay.of<|s1 _ _ hr0) ⟨[],_,_,rfl,s1,hf,trivial⟩ (λk σ H' h=>by obtain⟨us,y3,y4,_,s,_⟩:=h;exact ay.of<|s _ _ hr0) ?_ ?_
 ·rintro k v σ H2 hv ⟨us,y3,y4,rfl,s2,zL,y⟩;obtain⟨g,hg,rfl⟩:∃g,L[k]?=some g/\v=.str (xm d g):=by
   rw[eG,eG]at hv
   cases e:L[k]? with
   |none=>rw[e]at hv;cases hv
   |some x=>rw[e]at hv;cases hv;exact⟨x,rfl,rfl⟩
  obtain⟨T,gne⟩:=G.each g<|fA hg;have h8:=T.eD;have E:=s2 _ _ hnm;obtain⟨b,l⟩:=g;have I:∀x∈kd b::l.map (λi=>d.getD i aX),32∉cz x/\x.length<=12:=λx hx=>by
   rcases gz.mp hx with rfl|hx
   ·cases b<;>decide +kernel
   ·obtain⟨i,hi,rfl⟩:=kc.mp hx
    have:=G.nm.nm _<|getD_memS<|T.lt i hi
    exact⟨(fE this).1,(cF this).2.2⟩
  have hsp:=fD 32 (List.cons_ne_nil _ _) λx hx=>(I x hx).1;have hjl:=dD 32 12 _ λx hx=>(I x hx).2;rw[kf,b5]at hjl;have hl8:l.length<=8:=h8;have hbig:(1000:Nat)<=sizeLine:=by decide
  walk_at"i";rw[aW];refine⟨rfl,_,_,rfl,rfl,a_,?_,?_,λw hw0=>?_⟩
  ·show(Str.join ⟨#[32]⟩ (kd b::l.map λi=>d.getD i aX)).length+2<=_
   omega
  ·show(Txt.split (Str.join ⟨#[32]⟩ (kd b::l.map λi=>d.getD i aX)) ⟨#[32]⟩).length<=_;rw[hsp,kf,b5];omega
  generalize c:upd H2 w _=H3;obtain⟨s3,hw⟩:=jO hw0 c;clear c;have hw:H3 w=some (.lst<|(kd b::l.map λi=>d.getD i aX).map V.str):=by rw[hw];show some (HO.lst<|(Txt.split (Str.join ⟨#[32]⟩ (kd b::l.map λi=>d.getD i aX)) ⟨#[32]⟩).map V.str)=_;rw[hsp]
  walk_at"i";refine au (i:=((0:Nat):Int)) (ay.of hw) (ax rfl) ?_;lia;refine⟨a_,λp hp0=>?_⟩
  generalize c:upd H3 p _=H4;obtain⟨s4,hp⟩:=jO hp0 c;clear c;refine mf (neg:=true) (a:=["circle","ring"]) (.inr<|aP.of hp) ?_;have hk:decide (kd b∈(["circle","ring"]:f_))=true:=by cases b<;>decide +kernel
  rw[if_pos rfl,hk];lia;have hw4:=s4 _ _ hw;refine aR (.inl<|ay.of hw4) ?_;rw[b5,kf,b5];lia;have hl1:1<=l.length:=FM.mpr gne;rw[if_neg (by omega)]
  walk_at"i";refine uR 1 (ay.of hw4) λv5 H5 s5 _ M=>?_;have M:H5 v5=some (.lst<|(l.map λi=>d.getD i aX).map V.str):=M;have s25:=(s3.trans s4).trans s5;have U:∀i,i<l.length->(l.map λi=>d.getD i aX).getD i aX=d.getD (l.getD i 0) aX/\l.getD i 0<d.length:=λi hi=>by
   refine⟨?_,T.lt _<|qI hi⟩;rw[b4,eG,cc hi,b4 (l:=l),cc hi];rfl
  have itm:∀i,i<l.length->((l.map λi=>d.getD i aX).map V.str).getD i .bA=.str (d.getD (l.getD i 0) aX):=λi hi=>by
   rw[b4,aT (by rw[b5];exact hi),(U i hi).1];rfl
  refine⟨v5,rfl,⟨_,ay.of M⟩,Sj (bV<|ay.of M) (by rw[b5,b5];exact aC (by omega)) ?_ ?_⟩
  ·intro i H6 B' A hi hS hB;rw[b5,b5]at hi;rw[itm i hi];lia;refine mf (neg:=true) (.inl<|ay.of<|hS _ _<|s25 _ _ E) ?_;rw[if_pos rfl,ed<|getD_memS (U i hi).2];lia;exact hB
  intro n6 H6 s6 hn6;refine⟨a_,λn7 hn70=>?_⟩
  generalize c:upd H6 n7 _=H7;obtain⟨s7,hn7⟩:=jO hn70 c;clear c;refine uT (l:=[]) (m:=[]) (ay.of<|s7 _ _ hn6) (ay.of hn7) (λ_ z=>nomatch z) (λ_ z=>nomatch z) ?_;lia;have s27:=s25.trans<|s6.trans s7;have hf7:=s27 _ _ zL;refine⟨.inl ⟨rfl,_,ay.of hf7⟩,?_⟩;have hw7:=((s4.trans s5).trans<|s6.trans s7) _ _ hw;refine au (i:=((0:Nat):Int)) (ay.of hw7) (ax rfl) ?_;refine uR 1 (ay.of hw7) λv8 H8 s8 _ J=>?_;have J:H8 v8=some (.lst<|(l.map λi=>d.getD i aX).map V.str):=J;have Y:=s27.trans s8;refine⟨v8,rfl,⟨_,ay.of J⟩,qF (bV<|ay.of J) (λ_=>true) (λi=>.int ((l.getD i 0:Nat):Int)) (by rw[b5,b5];exact aC (by omega)) ?_ ?_⟩
  ·intro i H9 A B' hi hS hA _;rw[b5,b5]at hi;rw[itm i hi];obtain⟨_,R⟩:=U i hi;lia;refine⟨.inl ⟨rfl,_,ay.of<|hS _ _<|Y _ _ E⟩,nm,d,_,rfl,rfl,ay.of<|hS _ _<|Y _ _ E,getD_memS R,?_⟩;have hix:d.idxOf (d.getD (l.getD i 0) aX)=l.getD i 0:=by
    rw[b4,cc R];exact G.nm.nd.idxOf_getElem _ R
   rw[hix];exact hA rfl _<|ag.refl _
  intro ac H9 hac0 s9 hac;rw[bE,b5,b5,cL λj=>V.int ((j:Nat):Int),show(l.map λj=>V.int ((j:Nat):Int))=(aE l).map V.int by unfold aE;rw[kb];rfl]at hac
  refine⟨ac,_,rfl,ay.of hac,λt o ht oc od=>?_⟩;generalize c:upd H9 t _=H10;obtain⟨s10,ht'⟩:=jO ht c;clear c;refine⟨a_,λu hu0=>?_⟩
  generalize c:upd H10 u _=H11;obtain⟨Z,hu'⟩:=jO hu0 c;clear c;have n:=Y.trans<|s9.trans<|s10.trans Z;have O:=n _ _ zL;refine⟨f,us,_,rfl,rfl,O,?_,?_⟩
  ·rw[y.length,rr];have:=G.eD;exact cw (by omega)
  refine⟨us++[.ref u],_,_,rfl,(s2.trans n).set hf0 _,af,?_⟩
  have:L.take (k+1)=L.take k++[(b,l)]:=by rw[take_succ,hg];rfl
  rw[this];refine GF.gF O<|GF.append (y.mono n) ⟨⟨u,t,rfl,aP.of hu',.inl<|.inr ⟨o,Z _ _ ht'⟩,.inr ⟨o,_,Z _ _ ht',oc,od⟩⟩,trivial⟩
 rintro σ H2 ⟨us,y3,y4,rfl,s2,zL,y⟩;rw[b5,b5,L1]at y;lia;refine⟨f,_,rfl,ay.of zL,λt o ht oc od=>?_⟩;have st:=ag.new ht<|.iE o<|.tup us;exact q t us _ (s2.trans st) (.inl<|.inr ⟨o,af⟩)<|y.mono st
def LR(B:Bn mg)(D:Def K mg "_law_near" kA):Fn P w K mg base 1 "_law_near" ["word","drawn"] Ig:=by
 have zY:DS (aj kA) ["word","drawn","letters","at","sign"] ["word","drawn"] ["len"]:=aM;walk_at"hH";obtain⟨z,F,E,rfl,d,G,l,q⟩:=h;have g:(1000:Nat)<=sizeLine:=by decide
 refine⟨_,(ae (bo S 2 aU)
   (ae (bo S 3<|aN bO (bS<|kv S 1)<|cj S 0 cI B.len mo<|aa<|kv S 0)
   (ae (bo S 4<|j3 jY (kv S 2) (bc<|bS<|kv S 1) λ_ _=>rfl)
   (ai<|aG<|dR (dc<|ah (jz eB (kv S 0) bg<|aY<|OU jV aq)<|ah (aN aJ (kv S 0)<|kv S 4)<|ah (aN aJ (aN aJ (jz eB (kv S 0) bg<|aY<|kv S 3)<|kv S 4)<|jz eB (kv S 0) (aY<|aN aH (kv S 3) aq) bg)<|aa<|kv S 0)<|bc<|bS<|kv S 1)))),?_⟩
 walk_at"i";walk_at"h";refine bj d a_ a_ λC v _=>?_
 refine⟨z,rfl,by omega,?_⟩
 lia;refine⟨by omega,?_⟩
 obtain⟨a,s⟩:=hO (show 0<=C%(z.length:Int)from A5 _ (by omega))
 rw[s];walk_at"h";refine bj d a_ a_ λA o _=>?_
 lia;obtain⟨c,r,_⟩:=zu (i:=A%26) (by omega) (by omega)
 refine⟨iS,_,c,rfl,rfl,Dk0,r,?_⟩
 have t:(⟨#[c]⟩:Str).length=1:=rfl;generalize (⟨#[c]⟩:Str)=w at t ⊢;lia;have hb:=Ae (x:=z);have u:=hV (x:=z) a;refine⟨z,rfl,by omega,?_⟩
 lia;refine⟨_,_,rfl,rfl,by omega,?_⟩
 refine⟨z,rfl,by omega,?_⟩
 lia;refine⟨_,_,rfl,rfl,by omega,?_⟩
 rw[show((a:Int)+1)=((a+1:Nat):Int) by omega]
 have j:=pM (x:=z)<|a+1;refine⟨z,rfl,by omega,?_⟩
 lia;refine⟨_,_,rfl,rfl,by rw[av];omega,?_⟩
 refine⟨a_,λp m=>?_⟩
 generalize e:upd H p _=H2;obtain⟨f,b⟩:=nw m e;clear e;generalize StrLaws.sliceText z none (some (-1))=y1 at hb b;generalize StrLaws.sliceText z none (some (a:Int))=y2 at u b;generalize StrLaws.sliceText z (some ((a+1:Nat):Int)) none=y3 at j b;have b:H2 p=some (.lst<|[y1,z++w,y2++w++y3,z].map V.str):=b;refine bj (d.mono f) a_ a_ λI n _=>?_
 lia;refine eM (ay.of b) (by omega) (by show _<(4:Int);omega) λy hy=>q y H2 ?_ f
 simp only[mem_cons,not_mem_nil,or_false]at hy
 rcases hy with rfl|rfl|rfl|rfl
 ·omega
 ·rw[av];omega
 ·rw[av,av];omega
 ·omega
def LS(B:Bn mg)(D:Def K mg "_law_figures" gu):Fn P w K mg base 1 "_law_figures" ["drawn","k","counts"] Af:=by
 have zY:DS (aj gu) ["drawn","k","counts","count","colours","colour","some"] ["drawn","k","counts"] ["len","str"]:=aM;walk_at"hH";obtain⟨dr,ct,k,dn,g,rfl,m,hk,t,hcl,G,q⟩:=h;have Y:(1000:Nat)<=sizeLine:=by decide
 refine⟨_,(ae (bo S 3<|dR (aN (bW rfl) (kv S 2)<|dc<|aa aq)<|aN bO (dR (kv S 0)<|aN aH aq<|kv S 1)<|aN aH (cj S 0 (aA rfl) B.len mo<|aa<|kv S 2) aq)
   (ae (bo S 4<|dc<|ah (aN bO (dR (kv S 0)<|aN aH aq<|kv S 1)<|kv S 3)<|ah (kv S 3)<|ah (aN cu (kv S 3) aq)<|ah (aN aH (kv S 3) aq)<|aa<|aN aH (aN dH (dR (kv S 0)<|aN aH aq<|kv S 1)<|SA (v:=100000000000000000000) Ly Lz) aq)
   (ae (bo S 5<|dR (kv S 4)<|bc<|dR (kv S 0)<|aN aH aq<|kv S 1)
   (ae (bo S 6 (dc (ah (aN aJ aU<|iG S 1 bK B.str boot_str<|aa<|kv S 5) (ah (aN aJ aU<|iG S 1 bK B.str boot_str<|aa<|kv S 5) (ah aU (ah (aN zN aU aq) (jq (ns:=["","1_0","00","x"]) Dk0)))))))
   (ae (bT (aL aD (bc<|dR (kv S 0)<|aN aH aq<|kv S 1) aq<|ao _) (ai<|aG<|dR (kv S 6)<|bc<|bS<|kv S 0) aw)
   (ai<|aG<|iG S 1 bK B.str boot_str<|aa<|kv S 5)))))),?_⟩
 walk_at"i";refine⟨a_,λp hp=>?_⟩
 generalize O:upd H p _=H1;obtain⟨Q,m1⟩:=nw hp O;clear O;refine Kv (q':=[7]) (ay.of<|Q _ _ t) (ay.of m1) (by show _+1<=_;omega) λp2 I=>?_
 generalize Z:upd H1 p2 _=H2;obtain⟨s2,m2⟩:=nw I Z;clear Z;have b:=Q.trans s2;refine bj (m.mono b) (by omega) (by omega) λU hx0 _=>?_
 refine aR (.inl<|ay.of<|b _ _ t) ?_;rw[b5,ak];lia;refine⟨by omega,?_⟩
 obtain⟨i,hi⟩:=hO (show 0<=U%((g.length:Int)+1)from A5 _ (by omega))
 have n:i<(g++[7]).length:=by rw[eR];show i<g.length+1;have:=B9 U (show 0<(g.length:Int)+1 by omega);omega
 rw[hi];refine cq (ay.of m2) rfl (by rw[ak];exact n) ?_
 rw[aZ];have hc:0<(g++[7]).getD i 0/\(g++[7]).getD i 0<10 ^ 30:=by
  rcases ih.mp (qI n)with z|z
  ·exact G _ z
  ·rw[ek.mp z];decide
 generalize (g++[7]).getD i 0=c at hc;obtain⟨c0,c30⟩:=hc;walk_at"i";refine bj (m.mono b) (by omega) (by omega) λl hx1 ab=>?_
 lia;refine⟨by omega,?_⟩
 refine bj (m.mono b) (by omega) (by omega) λu hx2 M=>?_
 lia;refine⟨nX (by omega) (by omega),a_,λR C=>?_⟩
 generalize J:upd H2 R _=H3;obtain⟨s3,o⟩:=nw C J;clear J;have s:=b.trans s3;walk_at"h";refine bj (m.mono s) (by omega) (by omega) λx3 hx3 _=>?_
 lia;have a:∀v∈[l%(c:Int),(c:Int),(c:Int)-1,(c:Int)+1,u*100000000000000000000+7],0<=v/\v<2 ^ 100:=λv f=>by
  have g1:=A5 l (show(c:Int)≠0 by omega)
  have g2:=B9 l (show(0:Int)<c by omega)
  simp only[mem_cons,not_mem_nil,or_false]at f
  rcases f with rfl|rfl|rfl|rfl|rfl<;>omega
 obtain⟨j,hj⟩:=hO (show 0<=x3%5 by omega)
 rw[hj];have o:H3 R=some (.lst<|[l%(c:Int),(c:Int),(c:Int)-1,(c:Int)+1,u*100000000000000000000+7].map V.int):=o;have T:[l%(c:Int),(c:Int),(c:Int)-1,(c:Int)+1,u*100000000000000000000+7].length=5:=rfl;generalize [l%(c:Int),(c:Int),(c:Int)-1,(c:Int)+1,u*100000000000000000000+7]=lv at o a T;have e:j<lv.length:=by omega
 refine cq (i:=(j:Int)) (k:=j) (ay.of o) rfl e ?_;have f:=a (lv.getD j 0) (by rw[b4,cc e];exact pS e)
 generalize lv.getD j 0=col at f;obtain⟨t1,A⟩:=dk f.1 (Bt.le f.1 f.2) a_
 clear o e T a f hj;have en:∀c:Nat,(⟨#[c]⟩:Str).length=1:=λ_=>rfl;have W:("0":Str).length=1:=by decide +kernel
 have N:("-":Str).length=1:=by decide +kernel
 have le:Str.ofString (toString col)=fg col:=rfl;walk_at"i";refine⟨_,rfl,A,?_⟩;rw[le];refine⟨_,_,rfl,rfl,by rw[W];omega,?_⟩
 refine⟨_,rfl,A,?_⟩;rw[le];refine⟨_,_,rfl,rfl,by rw[N];omega,?_⟩
 refine⟨("1":Str),31,rfl,rfl,a_,a_,Dk0,Dk0,λr F _=>⟨a_,λX x=>?_⟩⟩
 generalize L:upd H3 X _=H4;obtain⟨s4,E⟩:=nw x L;clear L;have E:H4 X=some (.lst<|[("0":Str)++fg col,("-":Str)++fg col,("+1":Str),r,("":Str),("1_0":Str),("00":Str),("x":Str)].map V.str):=E;have d:=s.trans s4;walk_at"h";refine bj (m.mono d) (by omega) (by omega) λx4 hx4 _=>?_
 lia;refine bu (λ_=>?_) λ_=>?_
 ·refine bj (m.mono d) (by omega) (by omega) λx5 hx5 _=>?_
  lia;refine eM (ay.of E) (by omega) (by show _<(8:Int);omega) λy hy=>q y H4 ?_ d
  simp only[mem_cons,not_mem_nil,or_false]at hy
  rcases hy with rfl|rfl|rfl|rfl|rfl|rfl|rfl|rfl
  ·rw[av,W];omega
  ·rw[av,N];omega
  ·decide +kernel
  ·rw[F];decide +kernel
  ·decide +kernel
  ·decide +kernel
  ·decide +kernel
  ·decide +kernel
 lia;exact⟨_,rfl,A,q _ H4 (by rw[le];omega) d⟩
def LU(B:Bn mg)(D:Def K mg "_law_word" kB)(AE:Fn P w K mg base 1 "_law_near" ["word","drawn"] Ig)(dE:Fn P w K mg base 1 "_law_fresh" ["number","size"] lG)(gA:Fn P w K mg base 1 "_law_figures" ["drawn","k","counts"] Af):Fn P w K mg base 2 "_law_word" ["drawn","k","names","counts"] Ih:=by
 have zY:DS (aj kB) ["drawn","k","names","counts","kind"] ["drawn","k","names","counts"] ["len","_law_near","_law_fresh","_law_figures"]:=aM;walk_at"hH";obtain⟨f,g,ct,k,v,t,F,rfl,e,hk,a,d,s,o,r,q⟩:=h;refine⟨_,(ae (bo S 4<|bc<|dR (kv S 0)<|aN aH aq<|kv S 1)
   (ae (bT (qD<|j4 (aL fq (kv S 4) aq<|ao _)<|gE<|aL ir (cj S 0 (aA rfl) B.len mo<|aa<|kv S 2) aq<|ao _) (ai<|aG<|dR (kv S 2)<|aN bO (dR (kv S 0)<|aN aH aq<|kv S 1)<|cj S 0 (aA rfl) B.len mo<|aa<|kv S 2) aw)
   (ae (bT (qD<|j4 (aL aD (kv S 4) aq<|ao _)<|gE<|aL ir (cj S 0 (aA rfl) B.len mo<|aa<|kv S 2) aq<|ao _) (ai<|aG<|bZ S 1 AE hr<|ah (dR (kv S 2)<|aN bO (dR (kv S 0)<|aN aH aq<|kv S 1)<|cj S 0 (aA rfl) B.len mo<|aa<|kv S 2)<|aa<|kv S 0) aw)
   (ae (bT (aL aD (kv S 4) aq<|ao _) (ai<|aG<|bZ S 2 dE hr<|ah (bS<|kv S 0)<|aa<|aN aH aq<|bc<|bS<|kv S 0) aw)
   (ai<|aG<|bZ S 3 gA hr<|ah (kv S 0)<|ah (kv S 1)<|aa<|kv S 3))))),?_⟩
 walk_at"i";refine bj e (by omega) (by omega) λz I _=>?_
 have b:∀l:VK,0<t.length->(∀y∈t,l (.str y) H)->nF X.K (.ref f) (.int<|4+(k:Int)) H λx J=>OR X.K [.ref g] J λn C=>rI (λ_ j=>0<j) (λi j=>.int<|i%j) x n C λm E=>nF X.K (.ref g) m E l:=λl L h=>by
  refine bj e (by omega) (by omega) λu p _=>?_
  refine aR (.inl<|ay.of a) ?_;rw[b5];refine⟨_,_,rfl,rfl,by omega,?_⟩
  exact eM (ay.of a) (A5 _ (by omega)) (B9 _ (by omega)) h
 walk_at"i"
 suffices rest:zR [some (.ref f),some<|.int (k:Int),some<|.ref g,some<|.ref ct,some<|.int<|z%8] H by
  refine bu (λ_=>?_) λ_=>rest;refine aR (.inl<|ay.of a) ?_;rw[b5];lia;refine bu (λc=>?_) λ_=>rest;exact b Q (by omega) λy hy=>q y H (hU (cF<|d y hy).2.2 a_)<|ag.refl _
 walk_at"i"
 suffices rest:zR [some (.ref f),some<|.int (k:Int),some<|.ref g,some<|.ref ct,some<|.int<|z%8] H by
  refine bu (λ_=>?_) λ_=>rest;refine aR (.inl<|ay.of a) ?_;rw[b5];lia;refine bu (λc=>?_) λ_=>rest;refine b _ (by omega) λy hy=>?_
  exact⟨y,f,v,rfl,e,(cF<|d y hy).2.1,(cF<|d y hy).2.2,q⟩
 walk_at"i";refine bu (λ_=>?_) λ_=>?_
 ·refine bj e (by omega) (by omega) λu p _=>?_
  refine bj e (by omega) (by omega) λG A _=>?_
  lia;obtain⟨n,hn⟩:=hO (show 0<=1+G%13 by omega)
  rw[hn];exact⟨u,n,rfl,by omega,λy hy _=>q y H (by omega)<|ag.refl _⟩
 lia;exact⟨f,ct,k,v,F,rfl,e,hk,s,o,r,q⟩
def xI{ns:f_}{cs ws:d_}(P:iy ns cs ws):ns.length<=(Txt.split (dO<|(bh ns ws).map<|fk ns cs) ⟨#[10]⟩).length/\(Txt.split (dO<|(bh ns ws).map<|fk ns cs) ⟨#[10]⟩).length<=100/\Ag 1271 (Txt.split (dO<|(bh ns ws).map<|fk ns cs) ⟨#[10]⟩):=by
 have a:=(cU P).lx P;have b:=fF a;have f:=fm (ns:=ns) (ws:=ws);have g:=P.nm.eD;have d:ns.length<=(bh ns ws).length:=by unfold bh;rw[eR,b5,j6];omega
 unfold iU at b
 split at b
 ·rename_i e
  rw[e,show Txt.split ("":Str) ⟨#[10]⟩=[("":Str)] by decide +kernel]
  have c:=SL List.length b;rw[b5,b5]at c;have c:0=(bh ns ws).length:=c;exact⟨by show _<=1;omega,a_,λx hx=>by rw[ek.mp hx];decide +kernel⟩
 ·rw[b,b5,b5];exact⟨d,by omega,λx hx=>by obtain⟨y,hy,rfl⟩:=kc.mp hx;exact fe<|a y hy⟩
def II(B:Bn mg)(D:Def K mg "_law_asked" jc)(AF:Fn P w K mg base 2 "_law_word" ["drawn","k","names","counts"] Ih)(gA:Fn P w K mg base 1 "_law_figures" ["drawn","k","counts"] Af)(xT:Fn P w K mg base 1 "_law_shown" ["book"] wZ)(dE:Fn P w K mg base 1 "_law_fresh" ["number","size"] lG):Fn P w K mg base 3 "_law_asked" ["drawn","book"] B4:=by
 have zY:DS (aj jc) ["drawn","book","names","counts","web","heads","head","at","sign","some","size","words","line","new","fresh"] ["drawn","book"] ["len","range","_law_figures","_law_shown","_law_fresh","str"]:=aM;walk_at"hH";obtain⟨dr,b,dn,ns,cs,ws,rfl,l,hb,P,q⟩:=h;obtain⟨n1,n2,n3,hb0,o,hn2,hn3⟩:=id hb;have hbig:(10000:Nat)<=sizeLine:=by decide
 have h8:=P.nm.eD;have hnl:Ag 12 ns:=λx hx=>(cF<|P.nm.nm x hx).2.2;refine⟨_,(ae (yY (kv S 1)<|KY hc (K:=X.K) (n:=3) rfl<|aQ (kg S 2)<|aQ (kg S 3)<|aQ (kg S 4) cQ)
   (ae (bo S 5 (dc (jq (ns:=["put","guess","put","guess","sure","share","groups","ring","order","right","book","put"]) Dk0)))
   (ae (bo S 6<|dR (kv S 5)<|bc<|bS<|kv S 0)
   (ae (bT (aL aD (bc<|bS<|kv S 0) aq<|ao _) (ae (bo S 7<|aN bO (bS<|kv S 0)<|aN aH (cj S 0 cI B.len mo<|aa<|kv S 6) aq)
   (ae (bo S 8<|j3 jY aU (bc<|bS<|kv S 0) λ_ _=>rfl)
   (ae (bo S 9<|dc<|ah (aN aJ (aN aJ (jz eB (kv S 6) bg<|aY<|kv S 7)<|kv S 8)<|jz eB (kv S 6) (aY<|aN aH (kv S 7) aq) bg)<|ah (aN aJ (jz eB (kv S 6) bg<|aY<|kv S 7)<|jz eB (kv S 6) (aY<|aN aH (kv S 7) aq) bg)<|aa<|aN aJ (kv S 6)<|kv S 8)
   (ai<|bo S 6<|dR (aN (bW rfl) (kv S 9)<|kv S 2)<|aN bO (bS<|kv S 0)<|aN aH aq<|cj S 0 (aA rfl) B.len mo<|aa<|kv S 2)))) aw)
   (ae (bo S 10 (dR (dc (nY (ns:=[2,1,2,1,0,0,0,0,0,0,0,2]) Dk0))<|bc<|bS<|kv S 0))
   (ae (bT (aL aD (bc<|bS<|kv S 0) aq<|ao _) (ai<|bo S 10<|bc<|bS<|kv S 0) aw)
   (ae (bo S 11 (aN (bW rfl) (dc<|aa<|kv S 6) (iD S hc hsc (gW S 1 B.range<|aa<|kv S 10) (N:=["k","drawn","names","counts"]) (W:=["k"]) (G:=["_law_word"]) (fv:=[none,some 0,some 2,some 3]) Dk0 λcl C fp s H S2=>⟨(kg S2 0),bp,(bZ S2 0 AF hr<|ah (kv S2 1)<|ah (kv S2 0)<|ah (kv S2 2)<|aa<|kv S2 3)⟩)))
   (ae (bT (qD<|j4 (aL ir (cj S 0 (aA rfl) B.len mo<|aa<|kv S 11) aq<|ao _)<|gE<|aL ir (bc<|bS<|kv S 0) aq<|ao _) (ai<|yY (bZ S 2 gA hr<|ah (kv S 0)<|ah aq<|aa<|kv S 3)<|OV (kv S 11) aq set_list) aw)
   (ae (bT (qD<|j4 (aL ir (cj S 0 (aA rfl) B.len mo<|aa<|kv S 11) aq<|ao _)<|j4 (aL ir (bc<|bS<|kv S 0) aq<|ao _)<|gE<|aL ir (cj S 0 (aA rfl) B.len mo<|aa<|kv S 2) aq<|ao _) (ai<|yY (dR (kv S 2)<|aN bO (bS<|kv S 0)<|cj S 0 (aA rfl) B.len mo<|aa<|kv S 2)<|OV (kv S 11) aq set_list) aw)
   (ae (bo S 12<|gU ro Do Gc (bC rfl) rfl aU<|aa<|kv S 11)
   (ae (bT (aL aD (bc<|bS<|kv S 0) aq<|ao _) (ae (bo S 9<|aN (bW rfl) (gU ro KB VB cK rfl (bZ S 3 xT hr<|aa<|kv S 1)<|aa aU)<|dc<|aa<|kv S 12)
   (ai<|bo S 12<|dR (kv S 9)<|aN bO (bS<|kv S 0)<|aN aH (cj S 0 (aA rfl) B.len mo<|aa<|kv S 2) aq)) aw)
   (ae (bT (aL aD (bc<|bS<|kv S 0) aq<|ao _) (ae (bo S 7<|aN bO (bS<|kv S 0)<|aN aH (cj S 0 cI B.len mo<|aa<|kv S 12) aq)
   (ae (bo S 13<|j3 jY aU (bc<|bS<|kv S 0) λ_ _=>rfl)
   (ai<|bo S 12<|aN aJ (aN aJ (jz eB (kv S 12) bg<|aY<|kv S 7)<|kv S 13)<|jz eB (kv S 12) (aY<|aN aH (kv S 7)<|bc<|bS<|kv S 0) bg))) aw)
   (ae (bT (aL aD (bc<|bS<|kv S 0) aq<|ao _) (ae (bo S 14<|bZ S 4 dE hr<|ah (bS<|kv S 0)<|aa<|aN aH aq<|bc<|bS<|kv S 0)
   (ae (bo S 12<|aN aJ (aN aJ (aN aJ aU<|kv S 14) aU)<|iG S 5 bK B.str boot_str<|aa<|aN aH aq<|bc<|bS<|kv S 0)
   (ai<|bT (qD<|j4 (aL aD (bc<|bS<|kv S 0) aq<|ao _)<|gE<|aL ir (cj S 0 (aA rfl) B.len mo<|aa<|kv S 2) aq<|ao _) (ai<|bo S 12<|gU ro Do Gc (bC rfl) rfl aU<|aa<|aN (bW rfl) (dc<|aa aU)<|jz (cp rfl) (aN (bW rfl) (jz (cp rfl) (kv S 2) (aY<|aN bO (bS<|kv S 0)<|cj S 0 (aA rfl) B.len mo<|aa<|kv S 2) bg)<|kv S 2) bg<|aY aq) aw))) aw)
   (ae (bT (aL aD (bc<|bS<|kv S 0) aq<|ao _) (ai (aG (dR (dc (jq (ns:=[""," ","\n","  "]) Dk0))<|bc<|bS<|kv S 0))) aw)
   (ai<|aG<|kv S 12))))))))))))))),?_⟩
 walk_at"i";refine⟨b,_,rfl,ay.of hb0,rfl,?_⟩;refine⟨_,_,rfl,⟨_,_,rfl,⟨_,_,rfl,⟨rfl,?_⟩⟩⟩⟩;walk_at"i";refine⟨a_,λhd f=>?_⟩
 generalize e1:upd H hd _=H1;obtain⟨s1,m1⟩:=nw f e1;clear e1;have m1:H1 hd=some (.lst<|U1.map V.str):=m1;walk_at"i";refine bj (l.mono s1) a_ a_ λx0 hx0 _=>?_
 lia;refine eM (ay.of m1) (by omega) (by show _<(12:Int);omega) λf hhd=>?_
 have hh:=LA _ hhd;clear hhd m1;lia;refine nK (λσ J=>∃(d:Str) (y7 y8 y9:v_),σ=[some (.ref dr),some<|.ref b,some<|.ref n1,some<|.ref n2,some<|.ref n3,some<|.ref hd,some<|.str d,y7,y8,y9,none,none,none,none,none]/\ag H J/\d.length<=20) ?_ (λR r=>?_)
 rotate_left
 ·lia;refine bj (l.mono s1) a_ a_ λx1 hx1 _=>?_
  lia;refine bu (λ_=>?_) (λ_=>r _ _ ⟨f,_,_,_,rfl,s1,by omega⟩)
  walk_at"h";refine bj (l.mono s1) a_ a_ λx2 O _=>?_
  refine⟨f,rfl,by omega,?_⟩
  lia;refine⟨by omega,?_⟩
  obtain⟨M,ha⟩:=hO (show 0<=x2%((f.length:Int)+1)from A5 _ (by omega))
  rw[ha];walk_at"h";refine bj (l.mono s1) a_ a_ λx3 Z _=>?_
  lia;refine Ii Dk0 (by omega) (by rw[show("abcdefghijklmnopqrstuvwxyzP!":Str).length=28 by decide +kernel];omega) λw hw=>?_
  walk_at"i";rw[show((M:Int)+1)=((M+1:Nat):Int) by omega]
  have ht:=hV (x:=f) M;have hf:=pM (x:=f)<|M+1;refine⟨f,rfl,by omega,_,_,rfl,rfl,by omega,f,rfl,by omega,_,_,rfl,rfl,by rw[av];omega,f,rfl,by omega,f,rfl,by omega,_,_,rfl,rfl,by omega,_,_,rfl,rfl,by omega,a_,λp hp=>?_⟩
  generalize e2:upd H1 p _=H2;obtain⟨s2,m2⟩:=nw hp e2;clear e2;generalize StrLaws.sliceText f none (some (M:Int))=y1 at ht m2;generalize StrLaws.sliceText f (some ((M+1:Nat):Int)) none=y2 at hf m2;have m2:H2 p=some (.lst<|[y1++w++y2,y1++y2,f++w].map V.str):=m2;have j:=s1.trans s2;lia;refine lB (ay.of m2) (ay.of<|j _ _ o) (by rw[b5,b5];show 3+_<=_;omega) λp3 H3 s3 _ m3=>?_
  rw[<-hI]at m3;refine bj (l.mono<|j.trans s3) a_ a_ λx4 hx4 _=>?_
  refine aR (.inl<|ay.of<|(j.trans s3) _ _ o) ?_;rw[b5];lia;refine⟨by omega,?_⟩
  refine eM (ay.of m3) (A5 _ (by omega)) (by rw[eR];have:=B9 x4 (show(0:Int)<3+(ns.length:Int) by omega);show _<((3+ns.length:Nat):Int);omega) λy hy=>?_
  refine r _ _ ⟨y,_,_,_,rfl,j.trans s3,?_⟩
  rcases ih.mp hy with hy|hy
  ·simp only[mem_cons,not_mem_nil,or_false]at hy
   rcases hy with rfl|rfl|rfl
   ·rw[av,av];omega
   ·rw[av];omega
   ·rw[av];omega
  ·exact hU (hnl y hy) a_
 clear s1;rintro σ1 H1 ⟨d,y7,y8,y9,rfl,s1,hh⟩;walk_at"i";refine⟨a_,λp hp=>?_⟩
 generalize e2:upd H1 p _=H2;obtain⟨s2,m2⟩:=nw hp e2;clear e2;have m2:H2 p=some (.lst<|([2,1,2,1,0,0,0,0,0,0,0,2]:e_).map V.int):=m2;have j:=s1.trans s2;refine bj (l.mono j) a_ a_ λx1 hx1 _=>?_
 lia;obtain⟨i1,hi1⟩:=hO (show 0<=x1%12 by omega)
 have hi12:i1<12:=by omega
 rw[hi1];refine cq (k:=i1) (ay.of m2) rfl hi12 ?_;obtain⟨m,em,hm3⟩:∃m:Nat,([2,1,2,1,0,0,0,0,0,0,0,2]:e_).getD i1 0=(m:Int)/\m<=3:=by
  have:∀k,k<12->∃m:Nat,m<=3/\([2,1,2,1,0,0,0,0,0,0,0,2]:e_).getD k 0=(m:Int):=λk hk=>⟨(([2,1,2,1,0,0,0,0,0,0,0,2]:e_).getD k 0).toNat,by revert k;decide,by revert k;decide⟩
  obtain⟨m,h1,h2⟩:=this i1 hi12;exact⟨m,h2,h1⟩
 rw[em];clear m2 em hi1 hi12;lia;refine nK (λσ J=>∃m:Nat,σ=[some (.ref dr),some<|.ref b,some<|.ref n1,some<|.ref n2,some<|.ref n3,some<|.ref hd,some<|.str d,y7,y8,y9,some<|.int (m:Int),none,none,none,none]/\J=H2/\m<=3) ?_ (λR r=>?_)
 rotate_left
 ·lia;refine bj (l.mono j) a_ a_ λx2 O _=>?_
  lia;refine bu (λ_=>?_) λ_=>r _ _ ⟨m,rfl,rfl,hm3⟩;refine bj (l.mono j) a_ a_ λx3 Z _=>?_
  lia;obtain⟨m',hm'⟩:=hO (show 0<=x3%4 by omega)
  rw[hm'];exact r _ _ ⟨m',rfl,rfl,by omega⟩
 clear hm3;rintro σ2 J ⟨m,rfl,rfl,hm3⟩;walk_at"i";refine⟨a_,λp3 hp3=>?_⟩
 generalize e3:upd J p3 _=H3;obtain⟨s3,m3⟩:=nw hp3 e3;clear e3;have m3:H3 p3=some (.lst<|[d].map V.str):=m3;have Y:=j.trans s3;refine TR aX V.str m rfl (by omega) (λ_ z=>z.length<=302) ?_ ?_
 ·intro i H4 A hi hS hA;lia;have s14:=Y.trans hS;exact⟨dr,n1,n2,i,dn,ns,cs,rfl,l.mono s14,by omega,s14 _ _ o,P.nm.nm,s14 _ _ hn2,by rw[P.lc];exact h8,P.TU,λy H' hy s'=>hA _ H' s' hy⟩
 intro B_ W0 H4 _ s4 hacc hlen hrow;have hW:Ag 302 W0:=λx hx=>by
  obtain⟨i,hi,rfl⟩:=List.mem_iff_getElem.mp hx
  have:=hrow i (by omega)
  rwa [b4,cc hi]at this
 refine lB (ay.of<|s4 _ _ m3) (ay.of hacc) (by rw[b5,b5];show 1+_<=_;omega) λwl H5 s5 hwl0 m5=>?_
 rw[<-hI]at m5;have hwN:=(Y.trans s4).free hwl0;have e:=(Y.trans s4).trans s5;have L:Ag 302 ([d]++W0):=λx hx=>by
  rcases ih.mp hx with z|z
  ·rw[ek.mp z];omega
  ·exact hW x z
 have I:([d]++W0).length<=4:=by rw[eR];show 1+_<=4;omega
 generalize [d]++W0=W at m5 L I;clear hW hacc hlen hrow m3 j s1 s2 s3 s4 s5 hwl0 Y;lia;refine nK (λσ J=>∃W:f_,σ=[some (.ref dr),some<|.ref b,some<|.ref n1,some<|.ref n2,some<|.ref n3,some<|.ref hd,some<|.str d,y7,y8,y9,some<|.int (m:Int),some<|.ref wl,none,none,none]/\ag H J/\J wl=some (.lst<|W.map V.str)/\W.length<=4/\Ag 302 W) ?_ (λR r=>?_)
 rotate_left
 ·have g:=r _ _ ⟨W,rfl,e,m5,I,L⟩;lia;refine aR (.inl<|ay.of m5) ?_;rw[b5];lia;refine bu (λc=>?_) λ_=>g;refine bj (l.mono e) a_ a_ λx2 O _=>?_
  lia;refine bu (λ_=>?_) λ_=>g;refine⟨dr,n2,1,dn,cs,rfl,l.mono e,a_,e _ _ hn2,by rw[P.lc];exact h8,P.TU,λy J hy sJ=>?_⟩
  lia;refine⟨wl,_,((2:Nat):Int),2,rfl,rfl,sJ _ _ m5,ud (by rw[b5];omega),?_⟩
  rw[<-List.map_set];exact r _ _ ⟨W.set 2 y,rfl,(e.trans sJ).set hwN _,af,by rw[length_set];exact I,L.set hy⟩
 clear m5 L I e;rintro σ5 J5 ⟨W,rfl,e,m5,I,L⟩;refine nK (λσ J=>∃W:f_,σ=[some (.ref dr),some<|.ref b,some<|.ref n1,some<|.ref n2,some<|.ref n3,some<|.ref hd,some<|.str d,y7,y8,y9,some<|.int (m:Int),some<|.ref wl,none,none,none]/\ag H J/\J wl=some (.lst<|W.map V.str)/\W.length<=4/\Ag 302 W) ?_ (λR r=>?_)
 rotate_left
 ·have g:=r _ _ ⟨W,rfl,e,m5,I,L⟩;lia;refine aR (.inl<|ay.of m5) ?_;rw[b5];lia;refine bu (λc=>?_) λ_=>g;refine bj (l.mono e) a_ a_ λx2 O _=>?_
  lia;refine bu (λ_=>?_) λ_=>g;refine aR (.inl<|ay.of<|e _ _ o) ?_;rw[b5];lia;refine bu (λc2=>?_) λ_=>g;refine bj (l.mono e) a_ a_ λx3 Z _=>?_
  refine aR (.inl<|ay.of<|e _ _ o) ?_;rw[b5];lia;refine⟨by omega,?_⟩
  refine eM (ay.of<|e _ _ o) (A5 _ (by omega)) (B9 _ (by omega)) λy hy=>?_
  lia;refine⟨wl,_,((1:Nat):Int),1,rfl,rfl,m5,ud (by rw[b5];omega),?_⟩
  rw[<-List.map_set];exact r _ _ ⟨W.set 1 y,rfl,e.set hwN _,af,by rw[length_set];exact I,L.set (hU (hnl y hy) a_)⟩
 clear m5 L I e;rintro σ6 J6 ⟨W,rfl,s16,m6,hl6,hW6⟩;walk_at"i";have hwm:W.length*(302+1)<=4*303:=sU _ hl6;refine⟨rfl,xy (ay.of m6) hW6 (by omega) λa b6=>?_⟩
 have b6:a.length<=1300:=by omega
 clear hwm m6 hl6 hW6;have b6:a.length<=1300:=b6;lia;refine nK (λσ J=>∃(a:Str) (y9:v_),σ=[some (.ref dr),some<|.ref b,some<|.ref n1,some<|.ref n2,some<|.ref n3,some<|.ref hd,some<|.str d,y7,y8,y9,some<|.int (m:Int),some<|.ref wl,some<|.str a,none,none]/\ag H J/\a.length<=1300) ?_ (λR r=>?_)
 rotate_left
 ·lia;refine bj (l.mono s16) a_ a_ λx2 O _=>?_
  lia;refine bu (λ_=>?_) λ_=>r _ _ ⟨a,_,rfl,s16,b6⟩;walk_at"h";refine⟨b,ns,cs,ws,rfl,hb.mono s16,P,λJ7 s7=>?_⟩;obtain⟨k1,k2,k3⟩:=xI P;have hbl:=fj ((cU P).lx P) (by rw[b5];have:=fm (ns:=ns) (ws:=ws);omega)
  lia;have en:("\n":Str)=⟨#[10]⟩:=by decide +kernel
  rw[en];generalize dO ((bh ns ws).map<|fk ns cs)=T at k1 k2 k3 hbl ⊢;have hbb:(130000:Nat)<=sizeLine:=by decide
  refine⟨rfl,T,_,rfl,rfl,a_,by omega,by omega,λp8 hp8=>⟨a_,?_⟩⟩
  generalize e8:upd J7 p8 _=J8;obtain⟨s8,m8⟩:=nw hp8 e8;clear e8;intro p9 hp9;generalize e9:upd J8 p9 _=J9;obtain⟨s9,m9⟩:=nw hp9 e9;clear e9;have m9:J9 p9=some (.lst<|[a].map V.str):=m9;generalize Txt.split T ⟨#[10]⟩=R0 at k1 k2 k3 m8;refine lB (ay.of<|s9 _ _ m8) (ay.of m9) (by rw[b5,b5];show _+1<=_;omega) λp10 J10 U _ E=>?_
  rw[<-hI]at E;have u:=s16.trans<|s7.trans<|s8.trans<|s9.trans U;lia;refine bj (l.mono u) a_ a_ λx3 Z _=>?_
  refine aR (.inl<|ay.of<|u _ _ o) ?_;rw[b5];lia;refine⟨by omega,?_⟩
  refine eM (ay.of E) (A5 _ (by omega)) (by rw[eR];have:=B9 x3 (show(0:Int)<(ns.length:Int)+1 by omega);show _<((R0.length+1:Nat):Int);omega) λy hy=>r _ _ ⟨y,_,rfl,u,?_⟩
  rcases ih.mp hy with hy|hy
  ·exact hU (k3 y hy) a_
  ·rw[ek.mp hy];exact b6
 clear b6 s16;rintro σ7 J7 ⟨a,y9',rfl,Q,b6⟩;refine nK (λσ J=>∃(a:Str) (y7 y13:v_),σ=[some (.ref dr),some<|.ref b,some<|.ref n1,some<|.ref n2,some<|.ref n3,some<|.ref hd,some<|.str d,y7,y8,y9',some<|.int (m:Int),some<|.ref wl,some<|.str a,y13,none]/\ag H J/\a.length<=1301) ?_ (λR r=>?_)
 rotate_left
 ·lia;refine bj (l.mono Q) a_ a_ λx2 O _=>?_
  lia;refine bu (λ_=>?_) (λ_=>r _ _ ⟨a,_,_,rfl,Q,by omega⟩)
  walk_at"h";refine bj (l.mono Q) a_ a_ λx3 Z _=>?_
  refine⟨a,rfl,by omega,?_⟩
  lia;refine⟨by omega,?_⟩
  obtain⟨M,ha⟩:=hO (show 0<=x3%((a.length:Int)+1)from A5 _ (by omega))
  rw[ha];walk_at"h";refine bj (l.mono Q) a_ a_ λx4 hx4 _=>?_
  lia;refine Ii Dk0 (by omega) (by rw[show("ABZ019 -_'.,;!\n\n x":Str).length=18 by decide +kernel];omega) λw hw=>?_
  lia;have e1:(StrLaws.sliceText a none<|some (M:Int)).length<=M:=by rw[aB,sY,rr];omega
  have e2:(StrLaws.sliceText a none<|some (M:Int)).length<=a.length:=hV M;refine⟨a,rfl,by omega,?_⟩
  generalize StrLaws.sliceText a none (some (M:Int))=y1 at e1 e2 ⊢;lia;refine⟨_,_,rfl,rfl,by omega,?_⟩
  lia;refine bj (l.mono Q) a_ a_ λx5 hx5 _=>?_
  lia;obtain⟨c,hc5⟩:=hO (show 0<=x5%2 by omega)
  rw[hc5,<-natCast_add];have e3:(StrLaws.sliceText a (some ((M+c:Nat):Int)) none).length=a.length-(M+c):=by rw[aB,nr,q5,<-aB]
  refine⟨a,rfl,by omega,?_⟩
  generalize StrLaws.sliceText a (some ((M+c:Nat):Int)) none=y2 at e3 ⊢;lia;refine⟨_,_,rfl,rfl,by rw[av];omega,?_⟩
  exact r _ _ ⟨_,_,_,rfl,Q,by rw[av,av];omega⟩
 clear b6 Q;rintro σ8 J8 ⟨a,y7',y13,rfl,t,b6⟩;refine nK (λσ J=>∃(a:Str) (y14:v_),σ=[some (.ref dr),some<|.ref b,some<|.ref n1,some<|.ref n2,some<|.ref n3,some<|.ref hd,some<|.str d,y7',y8,y9',some<|.int (m:Int),some<|.ref wl,some<|.str a,y13,y14]/\ag H J/\a.length<=1301) ?_ (λR r=>?_)
 rotate_left
 ·lia;refine bj (l.mono t) a_ a_ λx2 O _=>?_
  lia;refine bu (λ_=>?_) λ_=>r _ _ ⟨a,_,rfl,t,b6⟩;walk_at"h";refine bj (l.mono t) a_ a_ λx3 Z _=>?_
  refine bj (l.mono t) a_ a_ λx4 hx4 _=>?_
  lia;obtain⟨n,hn⟩:=hO (show 0<=1+x4%12 by omega)
  rw[hn];refine⟨x3,n,rfl,by omega,λfr hfr _=>?_⟩
  have el:("hat ":Str).length=4:=by decide +kernel
  have el1:(" ":Str).length=1:=by decide +kernel
  walk_at"h";refine⟨_,_,rfl,rfl,by rw[el];omega,?_⟩
  refine⟨_,_,rfl,rfl,by rw[av,el,el1];omega,?_⟩
  refine bj (l.mono t) a_ a_ λx5 hx5 _=>?_
  lia;have hv:0<=1+x5%9/\1+x5%9<2 ^ 10:=by omega
  obtain⟨t1,t2⟩:=dk hv.1 (Bt.le hv.1 hv.2) a_
  have le:Str.ofString (toString<|1+x5%9)=fg (1+x5%9):=rfl;refine⟨_,rfl,t2,?_⟩;rw[le];generalize fg (1+x5%9)=y5 at t1 ⊢;refine⟨_,_,rfl,rfl,by rw[av,av,el,el1];omega,?_⟩
  have h5:(("hat ":Str)++fr++(" ":Str)++y5).length<=1301:=by rw[av,av,av,el,el1];omega
  generalize ("hat ":Str)++fr++(" ":Str)++y5=ln5 at h5 ⊢;lia;have g:=r _ _ ⟨ln5,some<|.str fr,rfl,t,h5⟩;refine bj (l.mono t) a_ a_ λx6 hx6 _=>?_
  lia;refine bu (λ_=>?_) λ_=>g;refine aR (.inl<|ay.of<|t _ _ o) ?_;rw[b5];lia;refine bu (λc2=>?_) λ_=>g;refine⟨rfl,a_,λp9 hp9=>?_⟩
  generalize e9:upd J8 p9 _=J9;obtain⟨s9,m9⟩:=nw hp9 e9;clear e9;have m9:J9 p9=some (.lst<|[("sees":Str)].map V.str):=m9;have v:=t.trans s9;refine bj (l.mono v) a_ a_ λx7 hx7 _=>?_
  refine aR (.inl<|ay.of<|v _ _ o) ?_;rw[b5];lia;refine⟨by omega,?_⟩
  obtain⟨a7,ha7⟩:=hO (show 0<=x7%(ns.length:Int)from A5 _ (by omega))
  rw[ha7];refine PJ a7 (ay.of<|v _ _ o) λp10 J10 U _ E=>?_;rw[<-Vu]at E;refine lB (ay.of E) (ay.of<|(v.trans U) _ _ o) (by rw[b5,b5,q5];omega) λp11 J11 s11 _ m11=>?_
  rw[<-hI]at m11;refine PK 2 (ay.of m11) λp12 J12 j _ m12=>?_;rw[<-map_take]at m12;refine lB (ay.of<|(U.trans<|s11.trans j) _ _ m9) (ay.of m12) (by rw[b5,b5,rr];show 1+_<=_;omega) λp13 J13 Y _ m13=>?_
  rw[<-hI]at m13;have hw12:Ag 12 ([("sees":Str)]++(ns.drop a7++ns).take 2):=λx hx=>by
   rcases ih.mp hx with z|z
   ·rw[ek.mp z];decide +kernel
   ·rcases ih.mp (mem_of_mem_take z)with z|z
    ·exact hnl x<|mem_of_mem_drop z
    ·exact hnl x z
  have hl3:([("sees":Str)]++(ns.drop a7++ns).take 2).length<=3:=by rw[eR,rr];show 1+_<=3;omega
  have hm3':=sU (12+1) hl3;exact xy (ay.of m13) hw12 (by omega) λz hz=>r _ _ ⟨z,_,rfl,v.trans<|U.trans<|s11.trans<|j.trans Y,by omega⟩
 clear b6 t;rintro σ9 J9 ⟨a,y14,rfl,v,b6⟩;walk_at"i";refine bj (l.mono v) a_ a_ λx2 O _=>?_
 lia;refine bu (λ_=>?_) λ_=>?_
 ·refine⟨a_,λp9 hp9=>?_⟩
  generalize e10:upd J9 p9 _=J10;obtain⟨U,E⟩:=nw hp9 e10;clear e10;have E:J10 p9=some (.lst<|([""," ","\n","  "]:f_).map V.str):=E;have u:=v.trans U;refine bj (l.mono u) a_ a_ λx3 Z _=>?_
  lia;refine eM (ay.of E) (by omega) (by show _<(4:Int);omega) λy hy=>q y _ ?_ u
  have:Ag 2 ([""," ","\n","  "]:f_):=by unfold Ag;decide +kernel
  exact hU (this y hy) a_
 lia;exact q a J9 (by omega) v
def DV(B:Bn mg)(D:Def K mg "_law_made_of" gw):Fn P w K mg base 1 "_law_made_of" ["word","signs","most"] xf:=by
 have zY:DS (aj gw) ["word","signs","most","sign"] ["word","signs","most"] ["len"]:=aM;walk_at"hH";obtain⟨z,y,m,rfl,f,q⟩:=h;refine⟨_,(ae (eY hxe hc (Gx (kv S 0) rfl) (kg S 3) (ai (bT (aL tO (kv S 3) (kv S 1) (by with_unfolding_all rfl)) (ai<|aG yp) aw)))
   (ai<|aG<|yW kQ kQ aq (cj S 0 cI B.len mo<|aa<|kv S 0)<|kv S 2)),?_⟩
 walk_at"i";refine Uv (Sz H z y m) ⟨⟨_,rfl⟩,rfl,rfl⟩ ?_ ?_
 ·rintro i σ H1 hi ⟨⟨d,rfl⟩,rfl,b⟩;lia;refine⟨_,_,rfl,rfl,?_⟩;rw[StrLaws.found_one];lia;have a:(cz z)[i]?=some ((cz z).getD i 0):=by rw[b4,cc hi];rfl
  by_cases c:(cz z).getD i 0∈cz y
  ·rw[ed c];lia;refine⟨⟨_,rfl⟩,rfl,?_⟩;rw[take_succ,List.all_append,b,oo,a];show([(cz z).getD i 0].all λc=>decide<|c∈cz y)=true;rw[VL,ed c];rfl
  ·rw[cv c];lia
   have:nu z y=false:=by
    refine Vt.mpr λe=>c ?_;exact qN<|j9.mp e _<|fA a
   rw[this,qm]at q;exact q
 ·rintro σ H1 ⟨⟨d,rfl⟩,rfl,b⟩;rw[L1]at b;lia;refine⟨z,rfl,ll f,?_⟩;rw[show nu z y=true from b,oo]at q
  refine bu (λc=>?_) λc=>?_
  ·rw[show decide (1<=z.length/\z.length<=m)=decide ((z.length:Int)<=(m:Int))from decide_eq_decide.mpr ⟨λh=>by omega,λh=>by omega⟩]at q
   exact q
  ·rw[cv (by omega)]at q
   exact q
def xJ{z:Str}:(nu z iS&&decide (1<=z.length/\z.length<=12))=bq z:=by unfold bq;rw[Bool.and_comm];rfl
def Qc{z:Str}(h:eX "colour" z=true):∃c,c<10 ^ 30/\z=gL c:=by
 unfold eX at h;rw[if_neg a_,P3,ka]at h
 rcases h with rfl|h
 ·exact⟨0,a_,Dk0⟩
 ·obtain⟨c,_,h1,a⟩:=xu h;exact⟨c,h1,a⟩
def vc{z:Str}:eX "colour" z=((nu z zq&&decide (1<=z.length/\z.length<=30))&&!((decide<|(cz z).getD 0 0=48)&&!decide (z="0"))):=by
 unfold eX;rw[if_neg a_]
 by_cases e:z="0"
 ·subst e;decide +kernel
 ·rw[cv e,Bool.false_or];unfold cR
  by_cases a:(cz z).getD 0 0=48
  ·have h:decide ((cz z).getD 0 0≠48)=false:=cv λh=>h a;rw[h,ed a];simp
  ·have h:decide ((cz z).getD 0 0≠48)=true:=ed a;rw[h,cv a,oo,qm,Bool.not_false,Bool.and_true,Bool.and_comm];rfl
variable{w0:Str}
def DW{ns:f_}(h:w0∈plainS):(∃a,[w0]=jE ns a/\pP ns a/\∀i c,a≠.put i c)/\w0≠"guess"/\w0≠"put":=by
 simp only[plainS,mem_cons,not_mem_nil,or_false]at h
 rcases h with rfl|rfl|rfl|rfl|rfl|rfl|rfl
 ·exact⟨⟨.told .sure,rfl,trivial,λ_ _ z=>nomatch z⟩,a_⟩
 ·exact⟨⟨.told .share,rfl,trivial,λ_ _ z=>nomatch z⟩,a_⟩
 ·exact⟨⟨.told .groups,rfl,trivial,λ_ _ z=>nomatch z⟩,a_⟩
 ·exact⟨⟨.told .ring,rfl,trivial,λ_ _ z=>nomatch z⟩,a_⟩
 ·exact⟨⟨.told .order,rfl,trivial,λ_ _ z=>nomatch z⟩,a_⟩
 ·exact⟨⟨.right,rfl,trivial,λ_ _ z=>nomatch z⟩,a_⟩
 ·exact⟨⟨.told .book,rfl,trivial,λ_ _ z=>nomatch z⟩,a_⟩
def B8{wb:f_}(h0:wb=[]->w0∉plainS)(h1:wb.length=1->w0≠"guess")(h2:wb.length=2->w0≠"put"):gP (w0::wb)=false:=by
 match wb,h0,h1,h2 with
 | [],h0,_,_=>exact cv<|h0 rfl
 | [a],_,h1,_=>rw[nC,cv<|h1 rfl];rfl
 | [a,c],_,_,h2=>rw[jP,cv<|h2 rfl];rfl
 |_::_::_::_,_,_,_=>rfl
noncomputable def As:s_:=[(.inr "put",.int 3),(.inr "guess",.int 2)]
def Ts(w0:Str):∃n:Int,(cJ (fV [] As)<|.inr w0).getD (.int 0)=.int n/\((w0="put"/\n=3)∨(w0="guess"/\n=2)∨(w0≠"put"/\w0≠"guess"/\n=0)):=by
 have e:fV [] As=As:=rfl;rw[e]
 by_cases h1:w0="put"
 ·subst h1;exact⟨3,rfl,.inl ⟨rfl,rfl⟩⟩
 by_cases a:w0="guess"
 ·subst a;exact⟨2,rfl,.inr<|.inl ⟨rfl,rfl⟩⟩
 refine⟨0,?_,.inr<|.inr ⟨h1,a,rfl⟩⟩;unfold cJ As;have d:∀x:Str,w0≠x->decide ((Sum.inr x:Key)=.inr w0)=false:=λx h=>cv λz=>by injection z with z;exact h z.symm
 rw[find?_cons,d _ h1,find?_cons,d _ a];rfl
def Qd(B:Bn mg)(D:Def K mg "_law_due" mM)(jS:Fn P w K mg base 1 "_law_made_of" ["word","signs","most"] xf):Fn P w K mg base 2 "_law_due" ["line","book"] B5:=by
 have zY:DS (aj mM) ["line","book","words"] ["line","book"] ["int","len","_law_made_of"]:=aM;walk_at"hH";obtain⟨z,b,ns,cs,ws,rfl,hzl,⟨n1,n2,n3,O,Z,hn2,hn3⟩,P,q⟩:=h;have hbig:(10000:Nat)<=sizeLine:=by decide
 have hcnt:=mr z;have g:∀x∈wz z,x.length<=3000:=λx hx=>hU (ke hx) hzl;have hne:=lg z 32;unfold wz at q g;refine⟨_,(ae (bo S 2<|gU ro KB VB cK rfl (kv S 0)<|aa aU)
   (ae (bT (aL (yU rfl) (bS<|kv S 2) (qC (jq (ns:=["sure","share","groups","ring","order","right","book"]) Dk0)) (by with_unfolding_all rfl)) (ai<|aG<|dR (dc<|ah (aN cu aq aq)<|aa aq)<|iG S 0 rR B.int boot_int<|aa<|gD ir (cj S 1 (aA rfl) B.len mo<|aa<|kv S 2) aq<|ao _) aw)
   (ae (bT (aL kn (cj S 1 (aA rfl) B.len mo<|aa<|kv S 2) (UG (u1 hu) (P0 aU aq aU aq) (bS<|kv S 2) aq)<|ao _) (ai<|aG aq) aw)
   (ae (bT (j7<|jA<|bZ S 2 jS hr<|ah (bS<|kv S 2)<|ah aU<|aa aq) (ai<|aG aq) aw)
   (ae (bT (qD<|j4 (aL aD (bS<|kv S 2) aU<|ao _)<|gE<|j7<|jA<|bZ S 2 jS hr<|ah (bS<|kv S 2)<|ah aU<|aa aq) (ai<|aG aq) aw)
   (ae (bT (qD<|j4 (aL aD (bS<|kv S 2) aU<|ao _)<|j4 (aL aD (j3 jY (bS<|kv S 2) aq λ_ _=>rfl) aU<|ao _)<|gE<|aL kn (bS<|kv S 2) aU<|ao _) (ai<|aG aq) aw)
   (ae (bT (aL (et rfl) (bS<|kv S 2) (bS<|kv S 1) (by with_unfolding_all rfl)) (ai<|aG aq) aw)
   (ae (bT (qD<|j4 (aL aD (bS<|kv S 2) aU<|ao _)<|gE<|aL Ey (iG S 0 eZ B.int boot_int<|aa<|bS<|kv S 2) (dR (bS<|kv S 1)<|gU qo Vp type_list_index (js rfl) rfl (bS<|kv S 1)<|aa<|bS<|kv S 2)<|ao _) (ai<|aG aq) aw)
   (ai<|aG<|aN cu aq aq))))))))),?_⟩
 walk_at"i";rw[aW];refine⟨rfl,_,_,rfl,rfl,a_,by omega,by omega,λp hp0=>?_⟩
 generalize Txt.split z ⟨#[32]⟩=W at q hcnt g hne ⊢;generalize C:upd H p _=H1;obtain⟨s1,l⟩:=nw hp0 C;clear C;obtain⟨s,Y,rfl⟩:∃s Y,W=s::Y:=by
  cases W with
  |nil=>exact absurd rfl hne
  |cons x y=>exact⟨x,y,rfl⟩
 walk_at"i";refine au (i:=((0:Nat):Int)) (ay.of l) (ax rfl) ?_;refine⟨a_,λt ht=>?_⟩
 generalize C:upd H1 t _=H2;obtain⟨s2,m2⟩:=nw ht C;clear C;have T:=s1.trans s2;have l:=s2 _ _ l;have m2:H2 t=some (.tup<|plainS.map V.str):=m2;refine mf (.inr<|aP.of m2) ?_;rw[if_neg a_]
 by_cases hp:s∈plainS
 ·rw[ed hp];lia;refine⟨a_,λU E=>?_⟩
  generalize C:upd H2 U _=H3;obtain⟨L,X⟩:=nw E C;clear C;have X:H3 U=some (.lst<|([0-1,0]:e_).map V.int):=X;have f:=T.trans L;obtain⟨⟨a,ea,oa,na⟩,g1,g2⟩:=DW (ns:=ns) hp;refine aR (.inl<|ay.of<|L _ _ l) ?_;rw[b5,kf];lia;refine .inr ⟨_,rfl,?_⟩
  by_cases hb:Y=[]
  ·subst hb;rw[if_neg (by simp)]
   refine cq (k:=0) (ay.of X) rfl a_ ?_
   exact q _ _ f<|.inr<|.inr ⟨a,ea,oa,.inr ⟨rfl,λi c z=>absurd z<|na i c⟩⟩
  ·have hbl:=FM.mpr hb;rw[if_pos (by rw[ka];omega)]
   refine cq (k:=1) (ay.of X) rfl a_ ?_
   exact q _ _ f<|.inl ⟨rfl,B8 (λz=>absurd z hb) (λ_=>g1) λ_=>g2⟩
 rw[cv hp];walk_at"i";refine aR (.inl<|ay.of l) ?_;rw[b5,kf];lia;intro U E;refine⟨af,As,rfl,a_,U,rfl,.inl ⟨_,.inl af⟩,?_⟩
 have L:=(ag.new E<|.dK []).set E<|.dK<|fV [] As;generalize C:upd (upd H2 U _) U _=H3 at L ⊢;have X:H3 U=some (.dK<|fV [] As):=by rw[<-C];exact af
 clear C;refine au (i:=((0:Nat):Int)) (ay.of<|L _ _ l) (ax rfl) ?_;refine⟨_,gT.k (k:=.inr s) X,?_⟩;obtain⟨n,en,hn⟩:=Ts s;rw[en];have f:=T.trans L;have l:=L _ _ l;clear X en T s1 s2 L;lia;refine bu (λc=>?_) λc=>?_
 ·have c:¬((Y.length+1:Nat):Int)=n:=by simpa using c
  refine q _ _ f<|.inl ⟨rfl,B8 (λ_=>hp) (λh e=>?_) λh e=>?_⟩
  ·rcases hn with ⟨x,y⟩|⟨x,y⟩|⟨_,x,_⟩
   ·rw[x]at e;exact absurd e a_
   ·omega
   ·exact x e
  ·rcases hn with ⟨x,y⟩|⟨x,y⟩|⟨x,_,_⟩
   ·omega
   ·rw[x]at e;exact absurd e a_
   ·exact x e
 have c:((Y.length+1:Nat):Int)=n:=by simpa using c
 obtain⟨a,r,rfl⟩:∃a r,Y=a::r:=by
  cases Y with
  |nil=>rcases hn with ⟨_,y⟩|⟨_,y⟩|⟨_,_,y⟩<;>(rw[y]at c;exact absurd c a_)
  |cons x y=>exact⟨x,y,rfl⟩
 have hn:(s="put"/\r.length=1)∨(s="guess"/\r.length=0):=by
  rw[kf]at c
  rcases hn with ⟨x,y⟩|⟨x,y⟩|⟨_,_,y⟩
  ·exact .inl ⟨x,by omega⟩
  ·exact .inr ⟨x,by omega⟩
  ·omega
 clear c;have ha3:a.length<=3000:=g a (by simp)
 have v:gP (s::a::r)=true->bq a=true:=λh=>by
  rcases pT h (by simp)with ⟨y,e,hy⟩|⟨y,d,e,hy,_⟩
  ·injection e with _ e;injection e with e;rw[e];exact hy
  ·injection e with _ e;injection e with e;rw[e];exact hy
 walk_at"i";refine au (i:=((1:Nat):Int)) (ay.of l) (ax rfl) ?_;refine⟨a,iS,12,rfl,by omega,?_⟩
 rw[xJ]
 by_cases m:bq a=true
 rotate_left
 ·have m:bq a=false:=Vt.mpr m;rw[m];lia;exact q _ _ f (.inl ⟨rfl,Vt.mpr λh=>by rw[v h]at m;cases m⟩)
 rw[m];clear v;lia;have j:∀y,r=[y]->s="put"->eX "colour" y=false->gP (s::a::r)=false:=λy e1 e2 h=>by rw[e1,jP,h,M8,M8]
 refine nK (λσ J=>σ=[some (.str z),some<|.ref b,some<|.ref p]/\J=H3/\(s="put"->(nu (r.getD 0 aX) zq&&decide (1<=(r.getD 0 aX).length/\(r.getD 0 aX).length<=30))=true)) ?_ (λR hR=>?_)
 rotate_left
 ·lia;refine au (i:=((0:Nat):Int)) (ay.of l) (ax rfl) ?_;lia
  rcases hn with ⟨rfl,A⟩|⟨rfl,G⟩
  rotate_left
  ·rw[if_neg a_]
   exact hR _ _ ⟨rfl,rfl,λz=>absurd z a_⟩
  obtain⟨y,rfl⟩:=S4.mp A;have hy3:y.length<=3000:=g y (by simp)
  rw[if_pos rfl];refine au (i:=((2:Nat):Int)) (ay.of l) (ax rfl) ?_;refine⟨y,zq,30,rfl,by omega,?_⟩
  cases N:(nu y zq&&decide (1<=y.length/\y.length<=30))with
  |false=>
   lia;exact q _ _ f (.inl ⟨rfl,j y rfl rfl (by rw[vc,N];rfl)⟩)
  |true=>
   lia;exact hR _ _ ⟨rfl,rfl,λ_=>N⟩
 rintro σ4 J4 ⟨rfl,rfl,I⟩;refine nK (λσ J=>σ=[some (.str z),some<|.ref b,some<|.ref p]/\J=J4/\gP (s::a::r)=true) ?_ (λR hR=>?_)
 rotate_left
 ·lia;refine au (i:=((0:Nat):Int)) (ay.of l) (ax rfl) ?_;lia
  rcases hn with ⟨rfl,A⟩|⟨rfl,G⟩
  rotate_left
  ·rw[if_neg a_]
   obtain rfl:=VC.mp G;exact hR _ _ ⟨rfl,rfl,by rw[nC,ed rfl,m];rfl⟩
  obtain⟨y,rfl⟩:=S4.mp A;have hy3:y.length<=3000:=g y (by simp)
  have N:(nu y zq&&decide (1<=y.length/\y.length<=30))=true:=I rfl;have hy1:1<=y.length:=by rw[fz,ka]at N;exact N.2.1
  have yes:¬((cz y).getD 0 0=48/\y≠"0")->gP [("put":Str),a,y]=true:=λh=>by
   rw[jP,ed rfl,m,oo,oo,vc,N,oo]
   by_cases e1:(cz y).getD 0 0=48
   ·by_cases e2:y="0"
    ·rw[ed e2];simp
    ·exact absurd ⟨e1,e2⟩ h
   ·rw[cv e1];rfl
  rw[if_pos rfl];refine au (i:=((2:Nat):Int)) (ay.of l) (ax rfl) ?_;refine⟨y,((0:Nat):Int),(cz y).getD 0 0,rfl,rfl,by omega,fB rfl 0 (by rw[<-aB];omega),?_⟩
  have e48:((⟨#[(cz y).getD 0 0]⟩:Str)=("0":Str))↔(cz y).getD 0 0=48:=by
   rw[show("0":Str)=⟨#[48]⟩ by decide +kernel]
   constructor
   ·intro h;injection h with h;injection h with h;injection h
   ·intro h;rw[h]
  lia;refine bu (λc1=>?_) λc1=>hR _ _ ⟨rfl,rfl,yes λh=>c1<|e48.mpr h.1⟩;refine au (i:=((2:Nat):Int)) (ay.of l) (ax rfl) ?_;lia;refine bu (λc2=>?_) (λc2=>hR _ _ ⟨rfl,rfl,yes λh=>c2 (by rw[cv h.2];rfl)⟩)
  have c2:¬y=("0":Str):=by simpa using c2
  exact q _ _ f (.inl ⟨rfl,j y rfl rfl (by rw[vc,N,ed<|e48.mp c1,cv c2];rfl)⟩)
 clear I j;rintro σ5 J5 ⟨rfl,rfl,hA⟩;walk_at"i";refine au (i:=((1:Nat):Int)) (ay.of l) (ax rfl) ?_;refine au (i:=((0:Nat):Int)) (ay.of<|f _ _ O) (ax rfl) ?_;refine mf (neg:=true) (.inl<|ay.of<|f _ _ Z) ?_;rw[if_pos rfl]
 by_cases u:a∈ns
 rotate_left
 ·rw[cv u];lia;exact q _ _ f (.inr (.inl ⟨rfl,hA,by simp,u⟩))
 rw[ed u];have o:ns.idxOf a<ns.length:=I1 u;have M:ns.getD (ns.idxOf a) aX=a:=by
  rw[b4,cc o,Vy o];rfl
 walk_at"i";refine au (i:=((0:Nat):Int)) (ay.of l) (ax rfl) ?_;lia
 rcases hn with ⟨rfl,A⟩|⟨rfl,G⟩
 rotate_left
 ·rw[if_neg a_]
  obtain rfl:=VC.mp G;lia;refine q _ _ f<|.inr<|.inr ⟨.dX<|ns.idxOf a,?_,o,.inr ⟨rfl,λ_ _ z=>nomatch z⟩⟩;show _=[("guess":Str),ns.getD (ns.idxOf a) aX];rw[M]
 obtain⟨y,rfl⟩:=S4.mp A;obtain⟨co,Q,rfl⟩:∃c,c<10 ^ 30/\y=gL c:=by
  rw[jP,fz,fz]at hA;exact Qc hA.2.2
 obtain⟨_,cf2,_,cf4⟩:=iW Q;rw[if_pos rfl];refine au (i:=((2:Nat):Int)) (ay.of l) (ax rfl) ?_;refine⟨_,_,rfl,cf2,by omega,?_⟩
 refine au (i:=((1:Nat):Int)) (ay.of<|f _ _ O) (ax rfl) ?_;refine au (i:=((0:Nat):Int)) (ay.of<|f _ _ O) (ax rfl) ?_;refine⟨.inl ⟨rfl,_,ay.of<|f _ _ Z⟩,?_⟩;refine au (i:=((1:Nat):Int)) (ay.of l) (ax rfl) ?_;refine⟨n1,ns,_,rfl,rfl,ay.of<|f _ _ Z,u,?_⟩;refine cq (ay.of<|f _ _ hn2) rfl (by rw[ak,P.lc];exact o) ?_
 rw[aZ];have ew:[("put":Str),a,gL co]=jE ns (.put (ns.idxOf a) co):=by
  show _=[("put":Str),ns.getD (ns.idxOf a) aX,gL co];rw[M]
 lia;refine bu (λd=>?_) λd=>?_
 ·exact q _ _ f (.inr (.inr ⟨.put (ns.idxOf a) co,ew,⟨o,Q⟩,.inl ⟨rfl,_,_,rfl,by omega⟩⟩))
 ·lia;exact q _ _ f (.inr (.inr ⟨.put (ns.idxOf a) co,ew,⟨o,Q⟩,.inr ⟨rfl,λi e z=>by cases z;omega⟩⟩))
def vd:DS (aj jd) ["desk","line","due","kinds","others","found","e"] ["desk","line","due"] ["HatError","isinstance","NoAsk","NoName","NoHats","LineError","NoGroups","NoPlan","ValueError","list","range"]:=aM
def Au(B:Bn mg)(ER:ml K mg Im er)(aV:eQ K mg "Hall" az ["counts","groups","worn"])(bD:eQ K mg "Desk" aI ["book","hall"])(D:Def K mg "_law_right" jd)(cY:nq P w K mg base 7 aI "ask" ["self","line"] (ko K az aI er)):Fn P w K mg base 8 "_law_right" ["desk","line","due"] (tj K az aI):=by
 refine D.gy vd (by walk_at"hB") (by walk_at"hL") ?_
 intro X S e1 e2 e3 e4 e5 hc hsc hown hxe hr hu H vs Q E h;subst e1 e2 e3 e4 e5;obtain⟨d,hl,ns,cs,ws,L,hs,z,r,rfl,hzl,hD,D,Y,q⟩:=h;have P:=D.qU;refine⟨_,(ae (bo S 3<|dc bI)
   (ae (bo S 4<|dc bI)
   (ae (bo S 5 lY)
   (ae (Uu (names:=Im) (er:=er) S 0 6 hxe hc hown ER a_ (PD<|Ut S 5<|Vc hxe bD cY hr (kv S 0)<|aa<|kv S 1)
   (λa o x d hx hxy ho c=>(ae (bo c 3 (dc (ah (cj c 1 (fo (y:="NoAsk") ER ho hx a_) B.isinstance KF (ah (kv c 6) (aa (Qt c 2 ER a_)))) (ah (cj c 1 (fo (y:="NoName") ER ho hx a_) B.isinstance KF (ah (kv c 6) (aa (Qt c 3 ER a_)))) (aa (cj c 1 (fo (y:="NoHats") ER ho hx a_) B.isinstance KF (ah (kv c 6) (aa (Qt c 4 ER a_)))))))))
   (ae (bo c 4 (dc (ah (cj c 1 (fo (y:="LineError") ER ho hx a_) B.isinstance KF (ah (kv c 6) (aa (Qt c 5 ER a_)))) (ah (cj c 1 (fo (y:="NoGroups") ER ho hx a_) B.isinstance KF (ah (kv c 6) (aa (Qt c 6 ER a_)))) (aa (cj c 1 (fo (y:="NoPlan") ER ho hx a_) B.isinstance KF (ah (kv c 6) (aa (Qt c 7 ER a_)))))))))
   (ai<|dw<|gU qo oD p4 bH rfl (kv c 4)<|aa<|Uc<|cj c 1 (Di ER ho hx) B.isinstance KF<|ah (kv c 6)<|aa<|Ue c 8 B.ValueError nI)))) (by rw[hsc];decide +kernel))
   (ae (bT (aL fq (kv S 2) aq<|ao _) (ae (bT (qD<|My (aL (lX hu rfl) (kv S 3) (dc bI)<|ao _)<|v3<|j7<|jA<|cj S 1 sk B.isinstance KF<|ah (kv S 5)<|aa<|Ue S 9 B.list boot_list) (ai<|aG yp) aw)
   (ai (aG (gD (lW hu rfl) (iD S hc hsc (cC (kv S 5) rfl) (N:=["row"]) (W:=["row"]) (G:=["isinstance","str"]) (fv:=[none]) Dk0 λcl C fp s H O=>⟨(kg O 0),(fu<|j7<|jA<|cj O 0 sk B.isinstance KF<|ah (kv O 0)<|aa<|Ue O 1 B.str boot_str),(kv O 0)⟩) (dc bI)<|ao _)))) aw)
   (ai (aG (oX (gD (lW hu rfl) (kv S 3) (iD S hc hsc (gW S 10 B.range<|aa aq) (N:=["k","due"]) (W:=["k"]) (G:=[]) (fv:=[none,some 2]) Dk0 λcl C fp s H O=>⟨(kg O 0),bp,(gD aD (kv O 0) (kv O 1)<|ao _)⟩)<|ao _)<|vZ<|gD (lW hu rfl) (kv S 4) (aN OC (dc<|aa yp) aq)<|ao _)))))))),?_⟩
 walk_at"i";refine⟨a_,λkl hk0=>?_⟩
 generalize f:upd H kl _=H1;obtain⟨s1,T⟩:=jO hk0 f;clear f;walk_at"i";refine⟨a_,λol ho0=>?_⟩
 generalize f:upd H1 ol _=H2;obtain⟨s2,hol⟩:=jO ho0 f;clear f;have T:=s2 _ _ T;have t:=s1.trans s2;walk_at"i";obtain⟨⟨ddx,bk,hd,_⟩,_⟩:=id hD;obtain⟨_,_,_,_,hHl,_⟩:=id hD;obtain⟨_,_,hhl,_⟩:=hHl.ex;refine nK (S9 X.K az aI H d hl kl ol ns cs ws L hs z r) ?_ (λR hR=>?_)
 rotate_left
 ·lia;refine iB (t _ _ hd) xl ?_;refine LB hzl (hD.mono t) D Y (λl j J hs' hr1 hrl o Z aF D' hN=>?_) λx hx hr0 hk J sJ=>?_
  ·have hkJ:=o _ _ (iq T (t _ _ hhl) λz=>nomatch z) T;exact hR _ _<|.inl ⟨l,j,hs',rfl,hr1,Z,hrl,hkJ,(λb u n e=>o b u n<|t _ _ e),aF,D',hN⟩
  obtain⟨f1,f2,f4,f5,f6⟩:x∈Im/\kj x "HatError"=true/\kj x "LineError"=false/\kj x "NoGroups"=false/\kj x "NoPlan"=false:=by
   simp only[mem_cons,not_mem_nil,or_false]at hx
   rcases hx with rfl|rfl|rfl<;>decide
  refine⟨x,f1,rfl,f2,λa=>?_⟩;walk_at"i";refine⟨trivial,trivial,trivial,a_,λk2 hk20=>?_⟩
  generalize f:upd J k2 _=J1;obtain⟨sJ1,g⟩:=jO hk20 f;clear f;have g:J1 k2=some (.lst<|(Il r).map V.bl):=by rw[g,hk];rfl
  walk_at"h";refine⟨trivial,trivial,trivial,a_,λo2 I=>?_⟩
  rw[f4,f5,f6];generalize f:upd J1 o2 _=J2;obtain⟨sJ2,M⟩:=jO I f;clear f;lia;refine⟨.inl ⟨rfl,_,ay.of M⟩,trivial,o2,_,_,rfl,rfl,M,a_,?_⟩
  have hne:k2≠o2:=λe=>by rw[e,I]at g;cases g
  refine hR _ _ (.inr ⟨k2,o2,rfl,hr0,by rw[aK hne];exact sJ2 _ _ g,by rw[af];rfl,?_⟩)
  exact((t.trans<|sJ.trans sJ1).trans sJ2).set ((t.trans<|sJ.trans sJ1).free I) _
 rintro σ4 J (⟨l,j,hs',rfl,rfl,Z,hrl,hkl4,o,aF,D',hN⟩|⟨k2,o2,rfl,hr0,g,M,sJ⟩)
 ·walk_at"h";rw[if_pos a_]
  walk_at"h";refine⟨a_,λn5 hn50=>?_⟩
  generalize f:upd J n5 _=J5;obtain⟨s5,hn5⟩:=jO hn50 f;clear f;have nil:∀x∈([]:f_),fh x:=λ_ z=>nomatch z;refine uT (l:=[]) (m:=[]) (ay.of<|s5 _ _ hkl4) (ay.of hn5) nil nil ?_;lia;have ab:=s5 _ _ Z;refine FR (OW ab) rfl ?_;lia;refine⟨l,rfl,⟨_,ay.of ab⟩,Sj (bV<|ay.of ab) (by rw[b5];exact aC (by omega)) ?_ ?_⟩
  ·intro i J6 B' A hi hS hB;rw[b5]at hi;rw[show(j.map V.str).getD i .bA=.str (j.getD i aX) by rw[b4,aT hi];rfl]
   lia;refine FR rfl rfl ?_;lia;exact hB
  intro n6 J6 s6 hn6;refine⟨a_,λn7 v=>?_⟩
  generalize f:upd J6 n7 _=J7;obtain⟨s7,a0⟩:=jO v f;clear f;refine oA (l:=[]) (m:=[]) (ay.of<|s7 _ _ hn6) (ay.of a0) nil nil ?_;rw[ed rfl];have s57:=s5.trans<|s6.trans s7;exact q J7 hs' (λb u n e=>s57 _ _<|o b u n e) (aF.mono s57) D' hN
 walk_at"h";rw[if_neg (by omega)]
 lia;have hin:r=0∨r=1∨r=2:=by
  rcases Y with ⟨h,_⟩|⟨h,_⟩|⟨_,_,_,⟨h,_⟩|⟨h,_⟩⟩<;>omega
 refine⟨_,rfl,a_,a_,qF (n:=3) ft (λ_=>true) (λi=>.bl<|decide<|(i:Int)=r) a_ ?_ ?_⟩
 ·intro i J6 A B' hi hS hA _;lia;rw[Int.zero_add];exact hA rfl _<|ag.refl _
 intro ac J6 _ s6 U;rw[bE]at U;have U:J6 ac=some (.lst<|(Il r).map V.bl):=by
  rw[U];unfold Il
  rcases hin with rfl|rfl|rfl<;>rfl
 have eqB:∀ {H:Hp} {p p2:Addr} {l:List Bool} {Q:VK},shaped (.list<|l.map PyData.bool)=true/\PyData.eqv (.list<|l.map PyData.bool) (.list<|l.map PyData.bool)=true->H p=some (.lst<|l.map V.bl)->H p2=some (.lst<|l.map V.bl)->Q (.bl true) H->OS X.K (.ref p) (.ref p2) H Q:=λ{H p p2 l Q} hb h1 h2 q=>⟨_,_,.lst (ay.of h1)<|zG _,.lst (ay.of h2)<|zG _,hb.1,hb.1,by rw[hb.2];exact q⟩
 refine eqB (by rcases hin with rfl|rfl|rfl<;>decide) (s6 _ _ g) U ?_
 lia;refine⟨a_,λn7 v=>?_⟩
 generalize f:upd J6 n7 _=J7;obtain⟨s7,a0⟩:=jO v f;clear f;refine⟨n7,4,_,rfl,rfl,a0,a_,a_,a_,λn8 hn80=>?_⟩
 generalize f:upd J7 n8 _=J8;obtain⟨s8,hn8⟩:=jO hn80 f;clear f;have s18:=sJ.trans<|s6.trans<|s7.trans s8;refine eqB (l:=[false,false,false,false]) a_ ((s6.trans<|s7.trans s8) _ _ M) hn8 ?_
 exact q J8 hs (Off.km s18) (hD.mono s18) D (.inr ⟨λz=>by omega,rfl⟩)
def Av(B:Bn mg)(aV:eQ K mg "Hall" az ["counts","groups","worn"])(bD:eQ K mg "Desk" aI ["book","hall"])(D:Def K mg "_law_looks" je)(cY:nq P w K mg base 7 aI "ask" ["self","line"] (ko K az aI er)):Fn P w K mg base 8 "_law_looks" ["desk"] (mF K az aI):=by
 have zY:DS (aj je) ["desk"] ["desk"] []:=aM;walk_at"hH";obtain⟨d,hl,ns,u,n,L,hs,rfl,T,D,q⟩:=h;refine⟨_,(ai (aG (iD S hc hsc (cC (dc (jq (ns:=["sure","share","groups","ring","order","book"]) Dk0)) rfl) (N:=["word","desk"]) (W:=["word"]) (G:=[]) (fv:=[none,some 0]) Dk0 λcl C fp s H M=>⟨(kg M 0),bp,(IV bD cY gM hr (kv M 1)<|aa<|kv M 0)⟩))),?_⟩
 lia;refine⟨a_,λw Q=>?_⟩
 generalize X:upd H w _=H1;obtain⟨U,m⟩:=jO Q X;clear X;have m:H1 w=some (.lst<|(NA.map iA).map V.str):=m;refine⟨w,rfl,⟨_,ay.of m⟩,UH (bV<|ay.of m) a_ (λi v J=>∃p,v=.ref p/\J p=some (.lst<|(jQ ns u n L i).map V.str)/\∀x∈jQ ns u n L i,fh x) (λi v J J' s ⟨p,e,y,c⟩=>⟨p,e,s _ _ y,c⟩) (λi v b ys o J _ I ⟨p,e,y,c⟩=>⟨p,e,by rw[aK λz=>I (by rw[e,z])];exact y,c⟩) ?_ ?_⟩
 ·intro i R A hi Y hA;have hi:i<6:=hi;have hk:((NA.map iA).map V.str).getD i .bA=.str (iA<|NA.getD i .book):=by
   have:∀i,i<6->((NA.map iA).map V.str).getD i .bA=.str (iA<|NA.getD i .book):=λi hi=>by
    rcases(show i=0∨i=1∨i=2∨i=3∨i=4∨i=5 by omega)with rfl|rfl|rfl|rfl|rfl|rfl<;>rfl
   exact this i hi
  rw[hk];have t:=U.trans Y;lia;obtain⟨⟨dx,bk,hd,_⟩,_⟩:=id<|T.mono t;refine iB hd xl ?_;refine oB (.told<|NA.getD i .book) (B7 _).1 (B7 _).2 (T.mono t) D trivial (λl a H3 ho F o E Z h1 _=>?_) λz=>nomatch z;have er:a=jQ ns u n L i:=by
   have e2:outF ns u n L [] (.told<|NA.getD i .book)=some a:=ho;unfold jQ;rw[e2];rfl
  subst er;exact hA _ H3 (E trivial) (λr e=>by cases e;exact Z) ⟨l,rfl,h1,F⟩
 intro b O R _ t f g j;exact q b O R (U.trans t) f ⟨g,j⟩
def IJ(B:Bn mg)(aV:eQ K mg "Hall" az ["counts","groups","worn"])(bD:eQ K mg "Desk" aI ["book","hall"])(D:Def K mg "_law_alike" jf)(jj:Fn P w K mg base 8 "_law_looks" ["desk"] (mF K az aI))(cY:nq P w K mg base 7 aI "ask" ["self","line"] (ko K az aI er))(dQ:nq P w K mg base 4 az "guess" ["self","i"] (lA K az))(ip:nq P w K mg base 5 az "right" ["self"] (mP K az)):Fn P w K mg base 9 "_law_alike" ["desk","hall","names","looks"] (B6 K az aI):=by
 have zY:DS (aj jf) ["desk","hall","names","looks","i","due"] ["desk","hall","names","looks"] ["_law_looks","range","len","str","int"]:=aM;walk_at"hH";obtain⟨d,hl,h2,c,g,J,lk,us,ul,r,v,ws,L,M,rfl,hP,D,ab,hlk,hul,q⟩:=h;have P:=D.qU;have aF:=P.xp;have h8:=P.nm.eD;have hbig:(10000:Nat)<=sizeLine:=by decide
 refine⟨_,(ae (bT (aL (lX hu rfl) (bZ S 0 jj hr<|aa<|kv S 0) (kv S 3)<|ao _) (ai<|aG yp) aw)
   (ae (eY hxe hc (gW S 1 B.range<|aa<|cj S 2 (aA rfl) B.len mo<|aa<|kv S 2) (kg S 4)<|ai<|bT (aL (lX hu rfl) (IV bD cY gM hr (kv S 0)<|aa<|aN aJ aU<|dR (kv S 2)<|kv S 4) (dc<|aa<|iG S 3 bK B.str boot_str<|aa<|IV aV dQ gM hr (kv S 1)<|aa<|kv S 4)<|ao _) (ai<|aG yp) aw)
   (ae (bo S 5 (dc (aa (gU ro Do Gc (bC rfl) rfl aU (aa (iD S hc hsc (cC (Sw aV ip gM hr<|kv S 1) rfl) (N:=["i","names"]) (W:=["i"]) (G:=[]) (fv:=[none,some 2]) Dk0 λcl C fp s H S2=>⟨(kg S2 0),bp,(j3 (cB rfl) (kv S2 1) (kv S2 0) λ_ _=>rfl)⟩))))))
   (ai<|aG<|gD (lW hu rfl) (IV bD cY gM hr (kv S 0)<|aa aU) (dR (dc<|ah (kv S 5)<|aa<|dc bI)<|iG S 4 rR B.int boot_int<|aa<|gD (lW hu rfl) (kv S 5) (dc<|aa aU)<|ao _)<|ao _)))),?_⟩
 walk_at"i";refine⟨d,hl,r,v,ws,L,M,rfl,hP.qR,D,λl2 u2 H1 s1 hl2 hu2=>?_⟩;refine LC hl2 (s1 _ _ hlk) hu2 (hul.mono s1) ?_;walk_at"i";refine aR (.inl<|ay.of<|s1 _ _ ab) ?_;rw[b5];lia;refine forR r.length (Ta H1 d h2 J lk) rfl (by omega) ⟨_,rfl,ag.refl _⟩ ?_ ?_
 ·rintro i σ H2 hi ⟨y,rfl,u⟩;have a3:i<(aE v).length:=by rw[P.len];exact hi
  have s2:=s1.trans u;have e:=hP.mono s2;obtain⟨⟨dx,bk,hd,_⟩,_⟩:=id e.qR;have eg:("guess ":Str).length=6:=by decide +kernel
  have nl:=(cF<|P.nm.nm _<|getD_memS hi).2.2;have hw:=P5 P (a:=.dX i) hi;lia;refine iB hd xl ?_;refine au (ay.of<|s2 _ _ ab) (ax<|aT hi) ?_;refine⟨_,_,rfl,rfl,by rw[eg];omega,?_⟩
  rw[Aa];refine oB (.dX i) hw.1 hw.2 e.qR D hi (λl t H3 I Q o U h0 h1 _=>?_) λz=>nomatch z;have s3:=U trivial;have I:t=[fg (wA (aE v) L M i)]:=(qa I).symm;subst I;have R:=e.mono s3;obtain⟨hx,wn,hh2,_⟩:=R.cO.ex;refine iB (hh2) jN ?_;refine⟨h2,c,g,aE v,M,ws,us,L,i,rfl,R.cO,R.gf,aF,D.fR,D.zV,a3,λH4 s4=>?_⟩;obtain⟨g1,g2⟩:=zX aF D.fR D.zV a3;obtain⟨t1,t2⟩:=dk g1 g2 a_
  refine⟨_,rfl,t2,?_⟩;lia;refine⟨a_,λdu hdu0=>?_⟩
  generalize f:upd H4 du _=H5;obtain⟨s5,T⟩:=jO hdu0 f;clear f;have T:H5 du=some (.lst<|[fg (wA (aE v) L M i)].map V.str):=T;refine uT (ay.of<|(s4.trans s5) _ _ h1) (ay.of T) Q Q ?_;rw[ed rfl];lia;exact⟨_,rfl,u.trans<|s3.trans<|s4.trans s5⟩
 rintro σ H2 ⟨y,rfl,u⟩;have s2:=s1.trans u;have e:=hP.mono s2;walk_at"i";obtain⟨hx3,wn3,hh3,_⟩:=e.cO.ex;refine⟨rfl,h2,hx3,_,rfl,hh3,jN,?_⟩;refine⟨h2,c,g,aE v,M,ws,us,L,rfl,e.cO,e.gf,aF,D.fR,D.zV,λrl H5 s5 _ Z=>?_⟩;have p:df r (eL (aE v) M L):=mB P;generalize el:eL (aE v) M L=l at Z p;have hl8:=p.eD;have s15:=s2.trans s5;refine⟨rl,rfl,⟨_,ay.of Z⟩,qF (bV<|ay.of Z) (λ_=>true) (λi=>.str<|r.getD (l.getD i 0) aX) (by rw[b5,ak];exact aC (by omega)) ?_ ?_⟩
 ·intro i H6 A B' hi hS hA _;rw[b5,ak]at hi;rw[dB hi];lia;refine au (ay.of<|hS _ _<|s15 _ _ ab) (ax<|aT<|p.lt _<|dC hi) ?_;exact hA rfl _<|ag.refl _
 intro ac H6 _ s6 hac;rw[bE,b5,ak,cL λj=>V.str<|r.getD j aX,show(l.map λj=>V.str<|r.getD j aX)=(l.map λj=>r.getD j aX).map V.str by rw[kb];rfl]at hac
 have hw:=namesW p;have j1:=dD 32 12 _ hw;have j2:=dN 12 _ hw;rw[b5]at j1 j2;refine⟨_,ac,l.map λj=>r.getD j aX,rfl,rfl,ay.of hac,?_,?_,?_⟩
 ·rw[aW];show((l.map λj=>r.getD j aX).map λz=>z.length+1).sum<=_
  omega
 ·rw[aW];omega
 rw[aW];refine⟨a_,λd7 hd70=>?_⟩
 generalize f:upd H6 d7 _=H7;obtain⟨s7,X⟩:=jO hd70 f;clear f;have X:H7 d7=some (.lst<|[iV r l].map V.str):=X;have s17:=s15.trans<|s6.trans s7;have hP7:=hP.mono s17;obtain⟨⟨dx7,bk7,hdk7,_⟩,_⟩:=id hP7.qR;lia;refine iB hdk7 xl ?_;refine oB .right (by show wz ("right":Str)=[("right":Str)];decide +kernel) Dk0 hP7.qR D trivial (λl8 t H8 I Q o U h0 h1 _=>?_) λz=>nomatch z
 have s8:=U trivial;have I:t=dZ r (eL (aE v) M L):=(qa I).symm;rw[el]at I;subst I;refine⟨a_,λe9 he0=>⟨a_,?_⟩⟩
 generalize f:upd H8 e9 _=H9;obtain⟨s9,he9⟩:=jO he0 f;clear f;intro p10 Y;refine⟨a_,?_⟩
 generalize f:upd H9 p10 _=H10;obtain⟨s10,n⟩:=jO Y f;clear f;intro p11 Y;generalize f:upd H10 p11 _=H11;obtain⟨a0,hp11⟩:=jO Y f;clear f;have b:=s9.trans<|s10.trans a0;have E:=(s8.trans b) _ _ X;have he11:=(s10.trans a0) _ _ he9;have n:=a0 _ _ n;have h1:=b _ _ h1;have sA:=s17.trans<|s8.trans b;have ce:∀x∈[("":Str)],fh x:=λx hx=>by rw[ek.mp hx];exact λc hc=>nomatch hc
 have cn:∀x∈[iV r l],fh x:=λx hx=>by
  rw[ek.mp hx];refine fh.join a_ λy hy=>?_
  obtain⟨i,hi,rfl⟩:=kc.mp hy;exact fh.low (cF<|P.nm.nm _<|getD_memS<|p.lt i hi).1
 refine oA (m:=[("":Str)]) (ay.of E) (ay.of hp11) cn ce ?_;refine .inr ⟨_,rfl,?_⟩
 by_cases z:l=[]
 ·rw[ed (by rw[z];show[Str.join ⟨#[32]⟩ []]=_;decide +kernel)]
  refine au (i:=((1:Nat):Int)) (ay.of n) (ax rfl) ?_;have O:H11 l8=some (.lst<|([]:f_).map V.str):=by rw[h1,z];rfl
  refine oA (l:=[]) (m:=[]) (ay.of O) (ay.of he11) (λ_ z=>nomatch z) (λ_ z=>nomatch z) ?_;rw[ed rfl];exact q _ sA
 ·rw[cv (λy=>Dz P.nm.nm p z (UF y).1)];refine au (i:=((0:Nat):Int)) (ay.of n) (ax rfl) ?_;have O:H11 l8=some (.lst<|[iV r l].map V.str):=by rw[h1];unfold dZ;rw[if_neg z]
  refine oA (ay.of O) (ay.of E) cn cn ?_;rw[ed rfl];exact q _ sA
def tm{H H':Hp}{x dx:Addr}{o:HO}(hx:H x=none)(hd:H dx=none)(hne:dx≠x)(s:Off x (L2.upd (L2.upd H dx<|.own x) x o) H'):ag H H':=λb u e=>by
 have h1:b≠x:=λz=>by rw[z,hx]at e;cases e
 have a:b≠dx:=λz=>by rw[z,hd]at e;cases e
 exact s b u h1 (by rw[aK h1,aK a];exact e)
def LV{cH cD b dr:Addr}{H:Hp}{R:Addr->r_}{E E':XK}{ns:f_}{cs ws:d_}{dn:e_}(P:iy ns cs ws)(hb:jM H b ns cs ws)(hdr:H dr=some (.lst<|dn.map V.int))(hdn:dn.length=26)(hnn:∀x∈dn,0<=x)
  (q:∀x l L H',ag H H'->bY K cH cD H' x l ns cs ws L (List.replicate cs.length 0)->bx ns cs ws L (List.replicate cs.length 0)->R x H'):
  uy K [.ref b,.ref dr] H (λv H1=>rJoin K (.str<|("\n":Str)) [v] H1 λz H2=>∀x dx,H2 x=none->H2 dx=none->dx≠x->uP K cH cD [.ref x,z] (L2.upd (L2.upd H2 dx<|.own x) x<|.ins cD dx []) (λu H3=>u=.bA/\R x H3) E') E:=by
 refine⟨b,dr,ns,cs,ws,dn,rfl,hb,P,hdr,hdn,hnn,λl M I D n h o=>?_⟩;have g:("\n":Str)=⟨#[10]⟩:=by decide +kernel
 have c:=h.lx P;have j:M.map (dY ns cs)=(M.map<|fk ns cs).map lu:=by rw[kb];rfl
 have a:(M.map<|fk ns cs).length<=100:=by rw[b5];omega
 have C:=fj c a;have d:=dN 1271 (M.map<|dY ns cs) λy hy=>by
  obtain⟨x,hx,rfl⟩:=kc.mp hy;exact fe<|h.pI P x hx
 rw[b5]at d;have t:M.length*1272<=16*1272:=sU _ o;have s:(1000000:Nat)<=sizeLine:=by decide
 have e:Str.join ⟨#[10]⟩ (M.map<|dY ns cs)=dO (M.map<|fk ns cs):=by rw[j];rfl
 refine⟨_,l,M.map<|dY ns cs,rfl,rfl,ay.of n,?_,?_,?_⟩
 ·rw[g];show((M.map<|dY ns cs).map λz=>z.length+1).sum<=_
  omega
 ·rw[g,e];omega
 rw[g,e];intro x dx p f m;exact⟨x,dx,M.map<|fk ns cs,ns,cs,ws,rfl,af,c,a,h.book P λi hi=>hi,P,λw B L A r G F=>⟨rfl,q x B L w (D.trans<|tm p f m A) G F⟩⟩
def Qe:DS (aj lI) ["script","book","names","counts","web","desk","groups","hall","looks","cell","drawn","line","due","words"] ["script"] ["_law_house","sum","range","Desk","_law_mixed_lines","_law_draws","_law_groups","Hall","tuple","_law_looks","_law_asked","_law_due","_law_right","int","_law_alike"]:=aM
def Qf(B:Bn mg)(ER:ml K mg Im er)(aV:eQ K mg "Hall" az ["counts","groups","worn"])(bD:eQ K mg "Desk" aI ["book","hall"]){f:Addr}{fd:FuncData}(FL:IS K "law" "law" lI f fd)(xU:Fn P w K mg base 4 "_law_house" ["cells","most","kinds"] (sZ K))(bU:Fn P w K mg base 1 "_law_draws" ["cell","count"] pU)(lK:Fn P w K mg base 1 "_law_mixed_lines" ["book","drawn"] (uy K))(nO:Ll P w K mg base 8 aI "__init__" "self" "text" "" (uP K az aI))(cY:nq P w K mg base 7 aI "ask" ["self","line"] (ko K az aI er))(vn:Fn P w K mg base 1 "_law_groups" ["rows","names"] (HU K))(eV:nq P w K mg base 5 az "__init__" ["self","counts","web","groups"] (uG K az er))(kH:nq P w K mg base 3 az "put" ["self","i","colour"] (zM K az er))(jj:Fn P w K mg base 8 "_law_looks" ["desk"] (mF K az aI))(xV:Fn P w K mg base 3 "_law_asked" ["drawn","book"] B4)(D1:Fn P w K mg base 2 "_law_due" ["line","book"] B5)(xW:Fn P w K mg base 8 "_law_right" ["desk","line","due"] (tj K az aI))(nE:Fn P w K mg base 9 "_law_alike" ["desk","hall","names","looks"] (B6 K az aI)):eh P w K mg base Cy 10 f fd ["script"] (Bo K):=by
 refine FL.gq Qe (λvs H Q E h=>?_) ?_
 ·obtain⟨a,I,rfl,_⟩:=h;rfl
 walk_at"hI";obtain⟨a,xs,rfl,ha,hl,q⟩:=h;refine⟨_,(ae (bo S 1 (bZ S 0 xU hr (ah (iD S hc hsc (gW S 2 B.range<|aa aq) (N:=["k","script"]) (W:=["k"]) (G:=["sum"]) (fv:=[none,some 0]) Dk0 λcl C fp s H S2=>⟨(kg S2 0),bp,(cj S2 0 (dq rfl rfl) B.sum boot_sum<|aa<|MZ (kv S2 1) (kv S2 0) aq rfl)⟩)<|ah aq<|aa aq)))
   (ae (yY (kv S 1)<|KY hc (K:=X.K) (n:=3) rfl<|aQ (kg S 2)<|aQ (kg S 3)<|aQ (kg S 4) cQ)
   (ae (bo S 5<|Uz S 3 bD nO gM hr<|aa<|gU ro Do Gc (bC rfl) rfl aU<|aa<|bZ S 4 lK hr<|ah (kv S 1)<|aa<|bZ S 5 bU hr<|ah (cj S 1 (dq hc rfl) B.sum boot_sum<|aa<|MZ (kv S 0) aq aq rfl)<|aa aq)
   (ae (bo S 6<|bZ S 6 vn hr<|ah (IV bD cY gM hr (kv S 5)<|aa aU)<|aa<|kv S 2)
   (ae (bT (aL n9 (kv S 6) lY<|ao _) (ai<|aG yp) aw)
   (ae (bo S 7<|UW S 7 aV eV gM hr<|ah (iG S 8 (dv rfl) B.tuple SC<|aa<|kv S 3)<|ah (iG S 8 (dv rfl) B.tuple SC<|aa<|kv S 4)<|aa<|kv S 6)
   (ae (Ee (i:=8) S hc hsc (cC (bZ S 9 jj hr<|aa<|kv S 5) rfl) (N:=["found"]) (W:=["found"]) (G:=["list"]) (fv:=[none]) Dk0 (λcl C fp s H S2=>⟨(kg S2 0),bp,(iG S2 0 (yV rfl) B.list boot_list<|aa<|kv S2 0)⟩) (by rw[hsc];decide +kernel) (by rw[c9,hsc];rfl))
   (ae (eY hxe hc (cC (jz (cp rfl) (kv S 0) (aY aq)<|aY aq) rfl) (kg S 9) (ae (bo S 10<|bZ S 5 bU hr<|ah (kv S 9)<|aa aq)
   (ae (bo S 11<|bZ S 10 xV hr<|ah (kv S 10)<|aa<|kv S 1)
   (ae (bo S 12<|bZ S 11 D1 hr<|ah (kv S 11)<|aa<|kv S 1)
   (ae (bT (j7<|jA<|bZ S 12 xW hr<|ah (kv S 5)<|ah (kv S 11)<|aa<|kv S 12) (ai<|aG yp) aw)
   (ae (bo S 13<|gU ro KB VB cK rfl (kv S 11)<|aa aU)
   (ae (bT (qD<|j4 (aL fq (kv S 12) aq<|ao _)<|gE<|aL aD (bS<|kv S 13) aU<|ao _) (ai<|dw<|IV aV kH gM hr (kv S 7)<|ah (gU qo Vp type_list_index (js rfl) rfl (kv S 2)<|aa<|bS<|kv S 13)<|aa<|iG S 13 eZ B.int boot_int<|aa<|bS<|kv S 13) aw)
   (ai<|bT (qD<|j4 (aL aD (bc<|bS<|kv S 10) aq<|ao _)<|gE<|j7<|jA<|bZ S 14 nE hr<|ah (kv S 5)<|ah (kv S 7)<|ah (kv S 2)<|aa<|kv S 8) (ai<|aG yp) aw))))))))
   (ai<|aG<|bZ S 14 nE hr<|ah (kv S 5)<|ah (kv S 7)<|ah (kv S 2)<|aa<|kv S 8))))))))),?_⟩
 walk_at"i";refine TR 0 V.int 3 rfl a_ (λ_ _=>True) ?_ ?_
 ·intro i H1 A hi hS hA;lia;refine⟨_,rfl,_,rfl,a,_,rfl,hS.seq ha,a_,λR p hp hfit=>?_⟩
  rw[sS];exact⟨p,_,rfl,ay.of af,hA _ _ (ag.new hp _) trivial⟩
 intro cl row H1 hcl0 s1 hcl hrow _;lia;refine⟨cl,row,8,4,rfl,ay.of hcl,hrow,a_,a_,a_,a_,λb I M Y H2 s2 hb P _=>?_⟩
 have h8:=P.nm.eD;have s12:=s1.trans s2;clear s1 s2 hcl hcl0 hrow;obtain⟨b1,b2,b3,g0,g1,g2,g3⟩:=id hb;walk_at"i";refine⟨b,_,rfl,ay.of g0,rfl,?_⟩;refine⟨_,_,rfl,⟨_,_,rfl,⟨_,_,rfl,⟨rfl,?_⟩⟩⟩⟩;walk_at"i";refine⟨rfl,_,rfl,_,rfl,a,_,rfl,s12.seq ha,a_,λR p hp hfit=>?_⟩
 rw[sS];generalize eH:upd H2 p _=H3;obtain⟨s3,hp3⟩:=jO hp eH;clear eH;refine⟨p,_,rfl,ay.of hp3,?_⟩;refine⟨_,26,rfl,a_,λdr dn H4 s4 _ hdr hdn hnn=>?_⟩
 have s24:=s3.trans s4;refine LV P (hb.mono s24) hdr hdn (λx hx=>(hnn x hx).1) λd m L H6 s6 hD DK=>?_;have s26:=s24.trans s6;clear s24 s3 s4 s6 hp3 hp hdr;walk_at"i";obtain⟨⟨ddx,bk,hd,_⟩,_⟩:=id hD;have hcs:=P.xp;have hwl:Y.length=(aE M).length:=by rw[P.lw,P.len]
 refine iB (hd) xl ?_;refine oB (.told .groups) (B7 .groups).1 (B7 .groups).2 hD DK trivial (λr rows H8 ho _ _ hst _ hr8 _=>?_) λz=>nomatch z;have s8:=hst trivial;have ho:rows=L.map (xm I):=(qa ho).symm;subst ho;have GO:Nv I L:=⟨P.nm,λg hg=>⟨DK.names hg,(DK.best.1.each g hg).ne⟩,DK.eD⟩;have s28:=s26.trans s8;refine⟨r,b1,I,L,rfl,hr8,s28 _ _ g1,GO,λt us H9 s9 ht hL=>?_⟩;have s29:=s28.trans s9;have s69:=s8.trans s9;walk_at"i";walk_at"h";refine HV (ay.of<|s29 _ _ g2) λc1 hc1=>?_;generalize eH:upd H9 c1 _=H12;obtain⟨s12',hc1'⟩:=jO hc1 eH;clear eH;refine HV (ay.of<|s12' _ _<|s29 _ _ g3) λw1 hw1=>?_;generalize eH:upd H12 w1 _=H13;obtain⟨s13,hw1'⟩:=jO hw1 eH;clear eH;have U:=s12'.trans s13;intro O dh hh0 hdh0 hne2;have sn:ag H13 (L2.upd (L2.upd H13 dh<|.own O) O<|.ins az dh []):=(ag.new hdh0 _).trans (ag.new (by rw[aK (Ne.symm hne2)];exact hh0) _)
 have s9n:=U.trans sn;refine⟨O,dh,c1,w1,t,aE M,Y,us,gI L,rfl,af,aP.of<|sn _ _<|s13 _ _ hc1',aP.of<|sn _ _ hw1',s9n.aO ht,(hL.mono s9n).gi,hwl,hcs.len,DK.UC,by rw[Hw];have:=DK.eD;omega,λz=>absurd (xq DK.best.1) z,λ_ H14 o14 hA=>⟨rfl,?_⟩⟩
 have s1314:=tm hh0 hdh0 hne2 o14;have s914:=U.trans s1314;have s614:=s69.trans s914;have s214:=s29.trans s914;have hA:cG X.K az H14 O c1 t (aE M) us (List.replicate M.length 0):=by rw[ak]at hA;exact hA
 have T:Pair X.K az aI H14 d m O c1 t us I M Y L (List.replicate M.length 0):=by
  obtain⟨_,_,_,_,hHl,_⟩:=id hD;obtain⟨_,_,hhl,_⟩:=hHl.ex;refine⟨hD.mono s614,hA,hL.mono s914,λe=>?_,λe=>?_⟩
  ·have:=(s69.trans U) _ _ hhl
   rw[<-e,hh0]at this;cases this
  ·have:=(s69.trans U) _ _ hd
   rw[e,hh0]at this;cases this
 clear hA o14 s9n sn hne2 hdh0 hh0 hc1 hw1 hc1' hw1' s12' s13 U s1314 s914 s69 s614 s29 s28 s26 ht hL hr8 s8 s9 hD hd;walk_at"i";refine⟨d,m,I,M,Y,L,_,rfl,T.qR,DK,λl0 u0 H15 s15 hl0 hu0=>?_⟩;refine⟨l0,rfl,⟨_,ay.of hl0⟩,UH (bV<|ay.of hl0) (by rw[hu0.len];decide) (λi v J=>∃p,v=.ref p/\J p=some (.lst<|(jQ I M Y L i).map V.str)/\∀x∈jQ I M Y L i,fh x) (λi v J J' s ⟨p,e,hp,c⟩=>⟨p,e,s _ _ hp,c⟩) (λi v B_ ys o J _ hne ⟨p,e,hp,c⟩=>⟨p,e,by rw[aK λz=>hne (by rw[e,z])];exact hp,c⟩) ?_ ?_⟩
 ·intro i J A hi hS hA;rw[hu0.len]at hi;obtain⟨p,e,hp,hch⟩:=hu0.at_ i hi;rw[e];lia;exact⟨p,_,rfl,.inl<|ay.of<|hS _ _ hp,λp2 hp2=>hA _ _ (ag.new hp2 _) (λr z=>by cases z;exact hp2) ⟨p2,rfl,af,hch⟩⟩
 intro lk ul H16 _ s16 hlk hul6 hulk;have hul:pV H16 ul (jQ I M Y L):=⟨by rw[hul6,hu0.len],λi hi=>hulk i (by rw[hu0.len];exact hi)⟩
 have T:=T.mono<|s15.trans s16;have s216:=s214.trans<|s15.trans s16;clear hulk hul6 hu0 hl0 s15 s16 s214;walk_at"i";refine⟨a,_,rfl,(s12.trans s216).seq ha,λsl hsl0=>?_⟩;generalize eH:upd H16 sl _=H17;obtain⟨s17,hsl⟩:=jO hsl0 eH;clear eH;obtain⟨ys,hys⟩:∃ys:e_,jy (xs.map V.int) (some 6) (some 46)=ys.map V.int:=⟨_,by unfold jy;rw[<-Vu,<-map_take]⟩
 rw[hys]at hsl;have T:=T.mono s17;have hb:=hb.mono<|s216.trans s17;have hn1:=(s216.trans s17) _ _ g1;have hlk:=s17 _ _ hlk;have hul:=hul.mono s17;clear s17 s216 hsl0 hys g0 g1 g2 g3 s12 ha;obtain⟨hx16,wn16,l,_⟩:=T.cO.ex;obtain⟨_,_,_,hHl16,_⟩:=T.qR.cO;obtain⟨hlx16,hln16,j,_⟩:=hHl16.ex;have keepB:∀ {J:Hp},mD m O H17 J->jM J b I M Y:=λo=>by
  obtain⟨b1,b2,b3,g0,g1,g2,g3⟩:=id hb;exact⟨b1,b2,b3,o.lst j l g0,o.lst j l g1,o.lst j l g2,o.lst j l g3⟩
 have keepL:∀ {J:Hp},mD m O H17 J->pV J ul (jQ I M Y L):=λo=>⟨hul.len,λi hi=>by
  obtain⟨p,e,hp,c⟩:=hul.at_ i hi;exact⟨p,e,o.lst j l hp,c⟩⟩
 refine forL (Tb X.K az aI H17 [some (.ref a),some<|.ref b,some<|.ref b1,some<|.ref b2,some<|.ref b3,some<|.ref d,some<|.ref t,some<|.ref O,some<|.ref lk] d m O c1 t us I M Y L) (ay.of hsl) ⟨_,_,_,_,_,_,rfl,mD.refl,T,DK⟩ (λk σ H' h=>by obtain⟨_,_,_,_,_,_,_,o,_⟩:=h;exact ay.of<|o.lst j l hsl) ?_ ?_
 ·rintro k σ J hk ⟨hs,y9,y10,y11,y12,y13,rfl,o,hP,D⟩;walk_at"i";refine⟨_,44,rfl,a_,λdr dn J2 s2 _ hdr hdl2 hnn=>?_⟩
  have hDn:Ic J2 dr dn 44:=⟨hdr,hdl2,hnn⟩;have o2:mD m O H17 J2:=λx u Z n2 e=>s2 _ _<|o x u Z n2 e;walk_at"i";refine⟨dr,b,dn,I,M,Y,rfl,hDn,keepB o2,P,λz J3 hz s3=>?_⟩;have o3:mD m O H17 J3:=λx u Z n2 e=>s3 _ _<|o2 x u Z n2 e;walk_at"i";refine⟨z,b,I,M,Y,rfl,hz,keepB o3,P,λr J4 s4 hdue=>?_⟩;have s14:=s2.trans<|s3.trans s4;have hP4:=hP.mono s14;have hDn4:=hDn.mono<|s3.trans s4;walk_at"i";refine⟨d,m,I,M,Y,L,hs,z,r,rfl,hz,hP4.qR,D,hdue,λJ5 hs' o5 hD5 D5 hN=>?_⟩;obtain⟨hx4,wn4,hh4,_⟩:=hP4.cO.ex;obtain⟨_,_,_,hHl4,_⟩:=hP4.qR.cO;obtain⟨hlx4,hln4,hhl4,_⟩:=hHl4.ex;have hA5:=hP4.cO.HM o5 hhl4 hP.n1;have hG5:=hP4.gf.c6 o5 hhl4;have hdr5:Ic J5 dr dn 44:=⟨o5 _ _ (iq hDn4.at_ hhl4 λz=>nomatch z) hDn4.at_,hdl2,hnn⟩;have ow5:mD m O H17 J5:=λx u Z n2 e=>o5 x u Z<|s4 _ _<|o3 x u Z n2 e;have hcnt:=mr z;have hbig:(10000:Nat)<=sizeLine:=by decide
  have hne:=lg z 32;unfold wz at hN;clear s2 s3 s4 o2 o3 hDn hdr hh4 hhl4 hP4 s14;walk_at"i";rw[aW];refine⟨rfl,_,_,rfl,rfl,a_,by omega,by omega,λwl hwl0=>?_⟩
  generalize Txt.split z ⟨#[32]⟩=W at hN hcnt hne;generalize eH:upd J5 wl _=J6;obtain⟨s6,hwl6⟩:=jO hwl0 eH;clear eH;have hr1:r=-1∨0<=r:=by rcases hdue with ⟨h,_⟩|⟨h,_⟩|⟨_,_,_,⟨h,_⟩|⟨h,_⟩⟩<;>omega
  clear hdue;have ow6:mD m O H17 J6:=λx u Z n2 e=>s6 _ _<|ow5 x u Z n2 e;have hdr6:=hdr5.mono s6;lia;refine nK (λσ J=>σ=[some (.ref a),some<|.ref b,some<|.ref b1,some<|.ref b2,some<|.ref b3,some<|.ref d,some<|.ref t,some<|.ref O,some<|.ref lk,some<|.int<|ys.getD k 0,some<|.ref dr,some<|.str z,some<|.int r,some<|.ref wl]/\mD m O H17 J/\Pair X.K az aI J d m O c1 t us I M Y L hs'/\Ic J dr dn 44) ?_ (λR hR=>?_)
  rotate_left
  ·have keep:hs'=hs->R [some (.ref a),some<|.ref b,some<|.ref b1,some<|.ref b2,some<|.ref b3,some<|.ref d,some<|.ref t,some<|.ref O,some<|.ref lk,some<|.int<|ys.getD k 0,some<|.ref dr,some<|.str z,some<|.int r,some<|.ref wl] J6:=λe=>hR _ _ ⟨rfl,ow6,⟨hD5.mono s6,by rw[e];exact hA5.mono s6,hG5.mono s6,hP.n1,hP.n2⟩,hdr6⟩
   lia;refine bu (λc=>?_) (λc=>keep ?_)
   rotate_left
   ·rcases hN with ⟨_,_,h,_⟩|⟨_,h⟩
    ·omega
    ·exact h
   obtain⟨w0,wb,rfl⟩:∃w0 wb,W=w0::wb:=by
    cases W with
    |nil=>exact absurd rfl hne
    |cons x y=>exact⟨x,y,rfl⟩
   refine au (i:=((0:Nat):Int)) (ay.of hwl6) (ax rfl) ?_;lia;refine bu (λc2=>?_) (λc2=>keep ?_)
   rotate_left
   ·rcases hN with ⟨i,co,_,h,_⟩|⟨_,h⟩
    ·exact absurd (UF h).1 c2
    ·exact h
   rcases hN with ⟨i,co,_,h,hi,hco,hco30,ehs⟩|⟨h,_⟩
   rotate_left
   ·exact absurd c2 (h (by omega))
   obtain⟨_,cf2,_,cf4⟩:=iW hco30;rw[h]at hwl6;have hm:I.getD i aX∈I:=getD_memS hi;have hix:I.idxOf (I.getD i aX)=i:=by
    rw[b4,cc hi];exact P.nm.nd.idxOf_getElem i hi
   have hn6:=ow6.lst j l hn1;have hA6:=hA5.mono s6;obtain⟨hx6,wn6,hh6,_⟩:=hA6.ex;obtain⟨_,hB⟩:=D.set hi hco;refine iB (hh6) jN ?_;refine⟨.inl ⟨rfl,_,ay.of hn6⟩,?_⟩;refine au (i:=((1:Nat):Int)) (ay.of hwl6) (ax rfl) ?_;refine⟨b1,I,_,rfl,rfl,ay.of hn6,hm,?_⟩;rw[hix];refine au (i:=((2:Nat):Int)) (ay.of hwl6) (ax rfl) ?_;refine⟨_,_,rfl,cf2,by omega,?_⟩
   refine⟨O,c1,t,aE M,hs,us,(i:Int),(co:Int),rfl,hA6,D.fR.1,by have:=hcs.len;omega,λz=>absurd ⟨natCast_nonneg i,by rw[P.len];omega⟩ z,λ_ z=>?_,λ_ _ J7 o7 hA7=>?_⟩
   ·rw[ri,hB]at z;cases z
   rw[ri]at hA7;rw[<-ehs]at hA7;lia;refine hR _ _ ⟨rfl,λx u Z n2 e=>o7 x u n2<|ow6 x u Z n2 e,⟨(hD5.mono s6).HM o7 hh6 hP.n2 hP.n1.symm,hA7,(hG5.mono s6).c6 o7 hh6,hP.n1,hP.n2⟩,⟨o7 _ _ (iq hdr6.at_ hh6 λz=>nomatch z) hdr6.at_,hdl2,hnn⟩⟩
  rintro σ7 J7 ⟨rfl,o7,hP7,hdr7⟩;lia;refine bj hdr7 a_ a_ λx7 _ _=>?_
  lia;refine bu (λ_=>?_) λ_=>⟨hs',_,_,_,_,_,rfl,o7,hP7,D5⟩;refine⟨d,m,O,c1,t,b1,lk,us,ul,I,M,Y,L,hs',rfl,hP7,D5,o7.lst j l hn1,o7.lst j l hlk,keepL o7,λJ8 s8=>?_⟩;lia;exact⟨hs',_,_,_,_,_,rfl,λx u Z n2 e=>s8 _ _<|o7 x u Z n2 e,hP7.mono s8,D5⟩
 rintro σ J ⟨hs,y9,y10,y11,y12,y13,rfl,o,hP,D⟩;lia;exact⟨d,m,O,c1,t,b1,lk,us,ul,I,M,Y,L,hs,rfl,hP,D,o.lst j l hn1,o.lst j l hlk,keepL o,λJ8 _=>q J8⟩
def all_mk{l:PySem.W.OpenLaw}{h:Heap}{fa f33 f65:Addr}(X:K.In h)(G:h.Ns mainGlobals mg)(hfa:mg "law"=some (.ref fa))
  {od33 an33 od65 an65:h_} {sl33 sl65:Array (g_)} {oc33 kV33 dc33 pm33 cd33 ct33 oc65 kV65 dc65 pm65 cd65 ct65:Value}
  (d0:DQ K "greatest_divisor" dm)
  (d1:DQ K "share" uV)
  (d2:DQ K "sure" Ah)
  (d3:DQ K "product" mG)
  (d4:DQ K "circle_guess" fJ)
  (d5:DQ K "ring_guess" hZ)
  (d6:DQ K "places" pW)
  (d7:DQ K "sees" Ai)
  (d8:DQ K "is_circle" iX)
  (d9:DQ K "is_ring" mH)
  (d10:DQ K "first_ready" f7)
  (d11:DQ K "laid_out" kq)
  (d12:DQ K "sight_order" f9)
  (d13:DQ K "first_seen" h7)
  (d14:DQ K "sight_ring" ia)
  (d15:DQ K "rises" uW)
  (d16:DQ K "is_group" kr)
  (d17:DQ K "group_fault" gh)
  (d18:DQ K "picked" pX)
  (d19:DQ K "group_sure" ib)
  (d20:DQ K "made_sure" iY)
  (d21:DQ K "group_guess" gj)
  (d22:DQ K "sights_from" gk)
  (d23:DQ K "lone_group" ic)
  (d24:DQ K "lone_choices" fK)
  (d25:DQ K "parts_of" ku)
  (d26:DQ K "best_choice" gm)
  (d27:DQ K "best_groups" gn)
  (d28:DQ K "are_hats" kx)
  (d29:DQ K "is_name" mI)
  (d30:DQ K "is_count" ky)
  (d31:DQ K "is_hat_line" gp)
  (d32:DQ K "is_sees_line" fL)
  {T33:Addr} {t33:Tok} {o33:Obj} {m33:Nat} (a33:nsIn K mainGlobals "read_line"=some (some<|.ref f33)) (l33:K.lookup f33=some ⟨oc33,od33,.func<|fnOf "read_line" "read_line" (bw cW) (aS cW) (aj cW) (.ref T33) kV33 dc33 pm33 an33 cd33 ct33,sl33⟩) (c33:codeIn K cd33 "read_line"=true) (k33:keepIn K (.ref f33)=true) (lt33:K.lookup T33=some o33) (ld33:o33.data=.seq #[.int 0 t33] m33)
  (d34:DQ K "add_hat" mJ)
  (d35:DQ K "add_sight" iZ)
  (d36:DQ K "rows_of" mK)
  (d37:DQ K "read_book" i3)
  (d38:DQ K "shown_book" ie)
  (d39:DQ K "fits" Aj)
  (d40:DQ K "is_ask" pY)
  (d41:DQ K "number_of" i4)
  (d42:DQ K "named" lH)
  (d43:DQ K "shown_share" gr)
  (d44:DQ K "shown_group" gs)
  (d45:DQ K "told_of" mL)
  (d46:DQ K "_law_draws" i5)
  (d47:DQ K "_law_fresh" i6)
  (d48:DQ K "_law_names" i7)
  (d49:DQ K "_law_count" i8)
  (d50:DQ K "_law_mixed_lines" dP)
  (d51:DQ K "_law_shown" i9)
  (d52:DQ K "_law_sight" ja)
  (d53:DQ K "_law_hat_count" eS)
  (d54:DQ K "_law_house" jb)
  (d55:DQ K "_law_groups" ig)
  (d56:DQ K "_law_near" kA)
  (d57:DQ K "_law_figures" gu)
  (d58:DQ K "_law_word" kB)
  (d59:DQ K "_law_asked" jc)
  (d60:DQ K "_law_made_of" gw)
  (d61:DQ K "_law_due" mM)
  (d62:DQ K "_law_right" jd)
  (d63:DQ K "_law_looks" je)
  (d64:DQ K "_law_alike" jf)
  (a65:nsIn K mainGlobals "law"=some (some<|.ref f65)) (l65:K.lookup f65=some ⟨oc65,od65,.func<|fnOf "law" "law" (bw lI) (aS lI) (aj lI) .none kV65 dc65 pm65 an65 cd65 ct65,sl65⟩) (c65:codeIn K cd65 "law"=true) (k65:keepIn K (.ref f65)=true)
  (z0:nsIn K mainGlobals "range"=some none)
  (z1:nsIn K mainGlobals "len"=some none)
  (z2:nsIn K mainGlobals "sum"=some none)
  (z3:nsIn K mainGlobals "max"=some none)
  (z4:nsIn K mainGlobals "isinstance"=some none)
  (z5:nsIn K mainGlobals "int"=some none)
  (z6:nsIn K mainGlobals "bool"=some none)
  (z7:nsIn K mainGlobals "str"=some none)
  (z8:nsIn K mainGlobals "tuple"=some none)
  (z9:nsIn K mainGlobals "list"=some none)
  (z10:nsIn K mainGlobals "sorted"=some none)
  (z11:nsIn K mainGlobals "set"=some none)
  (z12:nsIn K mainGlobals "all"=some none)
  (z13:nsIn K mainGlobals "any"=some none)
  (z14:nsIn K mainGlobals "zip"=some none)
  (z15:nsIn K mainGlobals "enumerate"=some none)
  (z16:nsIn K mainGlobals "ValueError"=some none)
  {u0:Tok} (q0:nsIn K mainGlobals "LETTERS"=some (some<|.str "abcdefghijklmnopqrstuvwxyz" u0))
  {u1:Tok} (q1:nsIn K mainGlobals "FIGURES"=some (some<|.str "0123456789" u1))
  {u2:Tok} (q2:nsIn K mainGlobals "LONGEST_NAME"=some (some<|.int 12 u2))
  {u3:Tok} (q3:nsIn K mainGlobals "LONGEST_COUNT"=some (some<|.int 30 u3))
  {u4:Tok} (q4:nsIn K mainGlobals "MOST_PEOPLE"=some (some<|.int 8 u4))
  {fe0 fe1 fe2 fe3 fe4 fe5 fe6 fe7 fe8:Addr} {ft0 ft1 ft2 ft3 ft4 ft5 ft6 ft7 ft8 fu0 fu1 fu2:Tok} {fep fn0 fn1 fn2 fn3 fn4 fn5 fn6 fn7 fn8:Nat} {fd0 fd1 fd2 fd3 fd4 fd5 fd6 fd7 fd8:h_} {fs0 fs1 fs2 fs3 fs4 fs5 fs6 fs7 fs8:Array (g_)} (fa0:nsIn K mainGlobals "FORMS"=some (some<|.ref aF)) (fhs:(aF==sysModules)=false)
  (fa1:K.lookup aF=some ⟨.type "dict",none,.dict #[⟨PyData.keyHash w.params "sure",.str "sure" ft0,.ref fe0⟩,⟨PyData.keyHash w.params "share",.str "share" ft1,.ref fe1⟩,⟨PyData.keyHash w.params "groups",.str "groups" ft2,.ref fe2⟩,⟨PyData.keyHash w.params "ring",.str "ring" ft3,.ref fe3⟩,⟨PyData.keyHash w.params "order",.str "order" ft4,.ref fe4⟩,⟨PyData.keyHash w.params "put",.str "put" ft5,.ref fe5⟩,⟨PyData.keyHash w.params "guess",.str "guess" ft6,.ref fe6⟩,⟨PyData.keyHash w.params "right",.str "right" ft7,.ref fe7⟩,⟨PyData.keyHash w.params "book",.str "book" ft8,.ref fe8⟩] fep,#[]⟩)
  (fl0:K.lookup fe0=some ⟨.type "tuple",fd0,.seq #[] fn0,fs0⟩) (fl1:K.lookup fe1=some ⟨.type "tuple",fd1,.seq #[] fn1,fs1⟩) (fl2:K.lookup fe2=some ⟨.type "tuple",fd2,.seq #[] fn2,fs2⟩) (fl3:K.lookup fe3=some ⟨.type "tuple",fd3,.seq #[] fn3,fs3⟩) (fl4:K.lookup fe4=some ⟨.type "tuple",fd4,.seq #[] fn4,fs4⟩) (fl5:K.lookup fe5=some ⟨.type "tuple",fd5,.seq #[.str "name" fu0,.str "colour" fu1] fn5,fs5⟩) (fl6:K.lookup fe6=some ⟨.type "tuple",fd6,.seq #[.str "name" fu2] fn6,fs6⟩) (fl7:K.lookup fe7=some ⟨.type "tuple",fd7,.seq #[] fn7,fs7⟩) (fl8:K.lookup fe8=some ⟨.type "tuple",fd8,.seq #[] fn8,fs8⟩)
  (caHall:nsIn K mainGlobals "Hall"=some (some<|.ref az)) (cokHall:BO K "Hall" az ["counts","groups","worn"]=true)
  (caDesk:nsIn K mainGlobals "Desk"=some (some<|.ref aI)) (cokDesk:BO K "Desk" aI ["book","hall"]=true)
  (md0:MQ K az "__init__" "Hall.__init__" eU)
  (md1:MQ K az "put_all" "Hall.put_all" fM)
  (md2:MQ K az "put" "Hall.put" kC)
  (md3:MQ K az "guess" "Hall.guess" ij)
  (md4:MQ K az "right" "Hall.right" ik)
  {mT5:Addr} {mu5:Tok} {mO5:Obj} {mN5:Nat} {mf5:Addr} {md5 mn5:h_} {ms5:Array (g_)} {mo5 mk5 me5 mp5 mc5 mt5:Value} (ma5:findIn K (.ref aI) "__init__"=some (some<|.ref mf5)) (ml5:K.lookup mf5=some ⟨mo5,md5,.func<|fnOf "__init__" "Desk.__init__" (bw bQ) (aS bQ) (aj bQ) (.ref mT5) mk5 me5 mp5 mn5 mc5 mt5,ms5⟩) (mq5:codeIn K mc5 "Desk.__init__"=true) (mw5:keepIn K (.ref mf5)=true) (mi5:isFn K (.ref mf5)=true) (mlt5:K.lookup mT5=some mO5) (mld5:mO5.data=.seq #[.str "" mu5] mN5)
  (md6:MQ K aI "ask" "Desk.ask" kD)
  {er0:Addr} (ea0:nsIn K mainGlobals "HatError"=some (some<|.ref er0))
  {er1:Addr} (ea1:nsIn K mainGlobals "LineError"=some (some<|.ref er1))
  {er2:Addr} (ea2:nsIn K mainGlobals "NoAsk"=some (some<|.ref er2))
  {er3:Addr} (ea3:nsIn K mainGlobals "NoName"=some (some<|.ref er3))
  {er4:Addr} (ea4:nsIn K mainGlobals "NoHats"=some (some<|.ref er4))
  {er5:Addr} (ea5:nsIn K mainGlobals "NoGroups"=some (some<|.ref er5))
  {er6:Addr} (ea6:nsIn K mainGlobals "NoPlan"=some (some<|.ref er6))
  (eok:Nb K Im (λx=>if x=("HatError":Str)then er0 else if x=("LineError":Str)then er1 else if x=("NoAsk":Str)then er2 else if x=("NoName":Str)then er3 else if x=("NoHats":Str)then er4 else if x=("NoGroups":Str)then er5 else if x=("NoPlan":Str)then er6 else 0)=true)
  : ∃fd:FuncData,(∀(s:Shared) (v:Value),BindsTo s fd ⟨[v],[]⟩ [("script",v)])/\∀base:Heap,K.In base->base.Ns mainGlobals mg->eh l.prog w K mg base Cy 10 fa fd ["script"] (Bo K):=by
 have e:=hfa.symm.trans<|mg_of X G a65
 cases e
 have kJ:=d0.def X G;have Ma:=d1.def X G;have Qk:=d2.def X G;have D3:=d3.def X G;have Y:=d4.def X G;have vo:=d5.def X G;have IL:=d6.def X G;have Ql:=d7.def X G;have xX:=d8.def X G;have D4:=d9.def X G;have rp:=d10.def X G;have AG:=d11.def X G;have rq:=d12.def X G;have vp:=d13.def X G;have vq:=d14.def X G;have Mb:=d15.def X G;have AH:=d16.def X G;have rA:=d17.def X G;have IM:=d18.def X G;have vt:=d19.def X G;have xY:=d20.def X G;have rC:=d21.def X G;have rD:=d22.def X G;have vw:=d23.def X G;have Z:=d24.def X G;have AI:=d25.def X G;have rE:=d26.def X G;have rF:=d27.def X G;have AJ:=d28.def X G;have D6:=d29.def X G;have AL:=d30.def X G;have rG:=d31.def X G;have qp:=d32.def X G;have xZ:GA K mg "read_line" cW 0:=KN X G a33 l33 c33 k33 lt33 ld33;have D7:=d34.def X G;have x9:=d35.def X G;have D8:=d36.def X G;have U:=d37.def X G;have vx:=d38.def X G;have Qm:=d39.def X G;have IP:=d40.def X G;have yb:=d41.def X G;have A:=d42.def X G;have rH:=d43.def X G;have T:=d44.def X G;have D9:=d45.def X G;have yc:=d46.def X G;have yd:=d47.def X G;have ye:=d48.def X G;have yf:=d49.def X G;have lL:=d50.def X G;have yg:=d51.def X G;have yh:=d52.def X G;have nP:=d53.def X G;have yi:=d54.def X G;have vy:=d55.def X G;have AM:=d56.def X G;have rK:=d57.def X G;have AN:=d58.def X G;have yj:=d59.def X G;have rL:=d60.def X G;have Ea:=d61.def X G;have yk:=d62.def X G;have yl:=d63.def X G;have ym:=d64.def X G;have B:Bn mg:=⟨FS X G z0,FS X G z1,FS X G z2,FS X G z3,FS X G z4,FS X G z5,FS X G z6,FS X G z7,FS X G z8,FS X G z9,FS X G z10,FS X G z11,FS X G z12,FS X G z13,FS X G z14,FS X G z15,FS X G z16⟩;have a:=BP X G cokHall;have d:=BP X G cokDesk;have nQ:=md0.def;have qr:=md1.def;have AO:=md2.def;have vz:=md3.def;have vA:=md4.def;have nR:xh K aI "__init__" "Desk.__init__" bQ "":=HF ma5 ml5 mq5 mw5 mi5 mlt5 mld5;have AQ:=md6.def;have c:=K8 X G eok;have L:=HE (P:=l.prog) (w:=w) X G fa0 fhs fa1 fl0 fl1 fl2 fl3 fl4 fl5 fl6 fl7 fl8;have r:Cs mg:=⟨⟨_,mg_of X G q0⟩,⟨_,mg_of X G q1⟩,⟨_,mg_of X G q2⟩,⟨_,mg_of X G q3⟩,⟨_,mg_of X G q4⟩⟩;refine⟨fnOf "law" "law" (bw lI) (aS lI) (aj lI) .none kV65 dc65 pm65 an65 cd65 ct65,λs v=>.of_eq rfl,λbase _ _=>?_⟩;have FL:=yL (st:=lI) l65 c65 k65;have u:=DC (P:=l.prog) (w:=w) (base:=base) B r D6;have C:=Ak (P:=l.prog) (w:=w) (base:=base) B r AL;have F3:=Io B rG u C;have F4:=DD B qp u;have F5:=LD B xZ F3 F4;have F6:=DE (P:=l.prog) (w:=w) (base:=base) B r D7;have F7:=xC (P:=l.prog) (w:=w) (base:=base) B x9;have M:=LF (P:=l.prog) (w:=w) (base:=base) B D8;have F9:=LG B U M F5 F6 F7;have W1:=DF (P:=l.prog) (w:=w) (base:=base) B IL;have Q:=ow (P:=l.prog) (w:=w) (base:=base) Ql;have I:=uZ (P:=l.prog) (w:=w) (base:=base) B xX;have y:=Al B D4 Q;have SB:=Ip B vx W1;have C1:=Tc (P:=l.prog) (w:=w) (base:=base) kJ;have O:=Iq Ma C1;have C3:=LH Qk O;have H:=DG (P:=l.prog) (w:=w) (base:=base) B IM;have C5:=Ir vt H C3;have D:=LJ B xY C5;have W4:=pZ (P:=l.prog) (w:=w) (base:=base) B rp;have z:=xD AG W4;have W6:=qO B vp Q;have S:=p0 B vq z W6;have q:=S.imp P1;have n:=p5 B rq z;have W8:=DH (P:=l.prog) (w:=w) (base:=base) B rD;have W9:=qP B vw W1 I q W8;have f:=nL B Z W9 D;have g:=xE B AI W1;have p:=p6 B rE g;have t:=qd B rF f p;have G1:=Iv (P:=l.prog) (w:=w) (base:=base) B Mb;have G2:=P7 B AH G1 I y;have G3:=DJ B rA G2;have G4:=Tn (P:=l.prog) (w:=w) (base:=base) vo;have G5:=Am (P:=l.prog) (w:=w) (base:=base) D3;have G6:=To B Y G5;have G7:=Tp B rC G4 H G6;have A1:=An (P:=l.prog) (w:=w) (base:=base) B AJ;have J:=Iw B c a nQ G3;have A3:=Ao B c a qr A1;have E:=LL B c a AO A3;have j:=DL B a vz G7;have F:=DM B a vA j;have E1:=LM Qm u C;have E2:=Iy B L IP E1;have E3:=P9 (P:=l.prog) (w:=w) (base:=base) B c yb;have E4:=DO (P:=l.prog) (w:=w) (base:=base) B A;have E5:=DP (P:=l.prog) (w:=w) (base:=base) B A;have E6:=LN rH O;have E7:=Qa (P:=l.prog) (w:=w) (base:=base) B T;have E8:=DR B D9 D E6 E7 E4 S n SB M;have E9:=Iz B c a d nR F9 t J;have b:=Qb B c a d L AQ E2 E3 E j F E5 E8;have R:=DT (P:=l.prog) (w:=w) (base:=base) B yc;have o:=R.imp Ie;have m:=IB (P:=l.prog) (w:=w) (base:=base) B yd;have L3:=IE B ye o m;have L4:=IF B yf o;have L5:=IG (P:=l.prog) (w:=w) (base:=base) B lL;have L7:=Aq (P:=l.prog) (w:=w) (base:=base) B yh;have L8:=LP B nP L4;have L9:=Ar B yi o L3 L8 L7;have L6:=DU (P:=l.prog) (w:=w) (base:=base) B yg;have i:=LQ (P:=l.prog) (w:=w) (base:=base) B vy;have M1:=LR (P:=l.prog) (w:=w) (base:=base) B AM;have M2:=LS (P:=l.prog) (w:=w) (base:=base) B rK;have M3:=LU B AN M1 m M2;have M4:=II B yj M3 M2 L6 m;have M5:=DV (P:=l.prog) (w:=w) (base:=base) B rL;have M6:=Qd B Ea M5;have M7:=Au B c a d yk b;have N:=Av B a d yl b;have M9:=IJ B a d ym N b j F;exact Qf B c a d FL L9 R L5 E9 b i J E N M4 M6 M7 M9
def walk{l:PySem.W.OpenLaw}{q:Program}{loose:f_}{XP:(b_)->Heap->Prop}{YP:World->Heap->Prop}{d:DefRec}{K:Params->Frag}(hn:l.most=some 63)(hdf:d.params.defaults=[])
  (hY:∀(w:World) (h:Heap),YP w h->(K w.params).In h)
  (F:∀(w:World) (mg:b_) (fa:Addr) (h:Heap),(K w.params).In h->h.Ns mainGlobals mg->mg d.name=some (.ref fa)->
   ∃fd:FuncData,(∀(s:Shared) (u:Value),BindsTo s fd ⟨[u],[]⟩ [("script",u)])/\∀base:Heap,(K w.params).In base->base.Ns mainGlobals mg->eh l.prog w (K w.params) mg base Cy 10 fa fd ["script"] (Bo<|K w.params)):
  PySem.W.WalkO q loose XP YP l.row.toRowW d [] (λf vs=>PySem.call f vs):=
 L2.JK (n:=63) (k:=10) (x:="script") (CX:=λ_=>Cy) (sp:=λw=>Bo<|K w.params) hn a_ hdf ⟨rfl,a_,a_⟩ hY F (λ_ _ a e b _ c=>⟨a,e,rfl,c,b,λ_=>rfl⟩) λ_ _ _ _ _ z=>z
end K76
local macro_rules | `(tactic| walk_at"q") => `(tactic| exact ⟨_, _, _, _, _, _, _, _, _, _, by k_is, by k_is, by k_is, by k_is⟩)
def D_{p:Prop}(h:p:=by walk_at"q"):p:=h
local macro_rules | `(tactic| walk_at"m") => `(tactic| exact ⟨_, _, _, _, _, _, _, _, _, _, by k_is, by k_is, by k_is, by k_is, by k_is⟩)
namespace PySem.W.Fast
open PySem PySem.W PyProof.Rows
abbrev J:=True
def tw12219811558810546733:=J
def tw11194143885839345747:=J
def tw7555596879245972832:=J
def tw16188372077607893990:=J
def tw11418340467506999849:=J
def tw16634347887132815814:=J
def tw8922307717263228334:=J
def tw11779842939751670593:=J
def tw17087208106478898917:=J
def tw1790978110740102334:=J
def tw17612751302958220735:=J
def tw16093850428679549339:=J
def tw3559265969005360418:=J
def tw5950316146792564778:=J
def tw1792827619576004680:=J
def tw16936539740131014158:=J
def tw5377049806326197139:=J
def tw4915479573486951529:=J
def tw4509849267287890394:=J
def tw5626986036341807910:=J
def tw11511066645360198149:=J
def tw11547959109996865517:=J
def tw6244989701872982643:=J
def tw17328320502344211856:=J
def tw4410770878358995914:=J
def tw6603326317511494195:=J
def tw17619019671144294290:=J
def tw10956986801511362556:=J
def tw4311395105511987893:=J
def tw10185513472433872235:=J
def tw14934879845630782193:=J
def tw13573822191433792848:=J
def tw7672941366056203668:=J
def tw10183954140855235437:=J
def tw5657768917400099113:=J
def tw5529758169341485708:=J
def tw13455590986783947436:=J
def tw5722123040707464859:=J
def tw17516497668047043602:=J
def tw15594246955677290578:=J
def tw4124712022817291855:=J
def tw1540900857502260651:=J
def tw16289698713149697357:=J
def tw6412948570216621750:=J
def tw5700071047767612712:=J
def tw1275788946945108330:=J
def tw692124481076806759:=J
def tw6875149717894237584:=J
def tw565648465496729362:=J
def tw17310799864259601833:=J
def tw13325068294001487650:=J
def tw15591947465107657671:=J
def tw8421188063099482230:=J
def tw16244212221925476660:=J
def tw6062827045102400097:=J
def tw14250740140698370313:=J
def tw4212782852951962855:=J
def tw11439433459316969154:=J
def tw7973202306554743818:=J
def tw2586509298796269753:=J
def tw9591940364257633310:=J
def tw11408574032750546657:=J
def tw3198461130470423007:=J
def tw339790338333717758:=J
def tw575298913583399860:=J
def tw4322940478215043776:=J
def tw14424076837680645087:=J
def tw10804735718840923195:=J
def tw15333406884326109268:=J
def tw10343333970121832513:=J
def tw6375069604120801029:=J
def tw11987959551283273701:=J
def tw3686952113316730914:=J
def tw7115009532505793682:=J
def tw13471839359886576718:=J
def tw11083296483786320188:=J
def tw8206342690569020913:=J
def tw2042427792500910083:=J
def tw13598241559092231135:=J
def tw2155478032006776943:=J
def tw4262180467287433310:=J
def tw12247722284817571791:=J
def tw15516427926130135395:=J
def tw3989557022808906338:=J
def tw17003849913067804227:=J
def tw10892595081200453789:=J
def tw12665589714969160000:=J
def tw2443360432237569366:=J
def tw4115112223997519800:=J
def tw8009403931739472371:=J
def tw11833870765767754087:=J
def tw303407750984436187:=J
def tw8097976361566352767:=J
def tw5669377750933965121:=J
def tw5429379560718629034:=J
def tw13189281380128170865:=J
def tw18282037751465594962:=J
def tw2299856040065990339:=J
def tw11575048579236159662:=J
def tw6417286991855747477:=J
def tw12428547058202824990:=J
def tw8944226024658283559:=J
def tw4222383492866185355:=J
def tw3680882202863362875:=J
def tw18366519765102823937:=J
def tw250677894136200845:=J
def tw16997758287642295014:=J
def tw12370415344451676614:=J
def tw4611060345846116102:=J
def tw15355634366124603344:=J
def tw13358277220967802930:=J
def tw7257912663743504780:=J
def tw4965448103465048438:=J
def tw4195834157173528279:=J
def tw6408662087921985790:=J
def tw13398556955131046637:=J
def tw7099303579718835505:=J
def tw5341181406439100304:=J
def tw15518526913860056948:=J
def tw18234158819941500094:=J
def tw15060892613975011612:=J
def tw11514107263031319896:=J
def tw5064280154954587855:=J
def tw725083384183051605:=J
def tw1458749153742093482:=J
def tw4783376630676453966:=J
def tw4751208739652452713:=J
def tw17158054222143412318:=J
def tw9039439591852293423:=J
def tw7012807277279780934:=J
def tw15374908922899398394:=J
def tw4625955220015691040:=J
def tw5708949614070764140:=J
def tw579008962918575769:=J
def tw14899205756575705947:=J
def tw12452306806077500586:=J
def tw2567900436591938351:=J
def tw10322618104769852823:=J
def tw7482554200796550343:=J
def tw12686075928889813692:=J
def tw9407347562102173952:=J
def tw6460409101985665086:=J
def tw11642024272838316366:=J
def tw2444994792966892135:=J
def tw541230806510875186:=J
def tw6949611865296342857:=J
def tw17723956539787226535:=J
def tw3397474975582938277:=J
def tw1181434626470793210:=J
def tw13775931143753671739:=J
def tw13546793218958512316:=J
def tw11851706751288600837:=J
def tw1454739189899888105:=J
def tw7398901122452601196:=J
def tw14530229259522052304:=J
def tw1614206475976647772:=J
def tw4996554575867444518:=J
def tw2113871373062737088:=J
def tw1678674472611738143:=J
def tw10059632713607915298:=J
def tw12705711858814393779:=J
def tw9137338654188908337:=J
def tw7794019818183808522:=J
def tw8815548892390326565:=J
def tw7159298654077538421:=J
def tw1708691211108169516:=J
def tw1155735111059338289:=J
def tw11730630288024183102:=J
def tw10265115788112497715:=J
def tw1831684606016785277:=J
def tw11823668005676529706:=J
def tw3351104955902216938:=J
def tw2697528044361222050:=J
def tw13993212428963260465:=J
def tw2848028333529787339:=J
def tw15749853828229374270:=J
def tw9744513689345371359:=J
def tw17452090726653098766:=J
def tw17824042809879609908:=J
def tw10773385884415380721:=J
def tw8272654543788328331:=J
def tw5065659989499191353:=J
def tw13408818558999502278:=J
def tw7080984693148330597:=J
def tw1179378007070224662:=J
def tw11553760604701535419:=J
def tw13873975929791622586:=J
def tw12107334490268340270:=J
def tw3153341919350540195:=J
def tw14029117701281682218:=J
def tw2720644509298822043:=J
def tw9014987905001734740:=J
def tw17343910433299812542:=J
def tw11279236406676828447:=J
def tw16685530980701658345:=J
def tw8361033389095928310:=J
def tw330784247997486132:=J
def tw13721991466285080645:=J
def tw11767111847442729101:=J
def tw3441020751507146592:=J
def tw2536927888053896300:=J
def tw3072379011435930517:=J
def tw3720076427261050907:=J
def tw8540642146617665535:=J
def tw15318798326804114643:=J
def tw9644591543912922375:=J
def tw6603687541543057421:=J
def tw5017627968174700815:=J
def tw9950486100036970430:=J
def tw14593311207836894865:=J
def tw8913588501380987789:=J
def tw7128673161951714460:=J
def tw1597437455721160502:=J
def tw9647533935696716387:=J
def tw16043757014654186682:=J
def tw16075119680816436157:=J
def tw13157049618336666490:=J
def tw14913057042609605575:=J
def tw1261822304020414195:=J
def tw16999882305465521103:=J
def tw17225749873261728330:=J
def tw11272328053195953506:=J
def tw4965486767563491989:=J
def tw13752170114797987047:=J
def tw12767945519723807643:=J
def tw8092462460432986391:=J
def tw11251827435822031061:=J
def tw17104889051250196121:=J
def tw16599041739548896757:=J
def tw13041629122972591541:=J
def tw17636744605211625247:=J
def tw12933283234005140714:=J
def tw9072825925807447387:=J
def tw9824541249382724291:=J
def tw17528110642614288273:=J
def tw9276594093824326156:=J
def tw15610640032990978208:=J
def tw13679150840753926070:=J
def tw14627190796307197745:=J
def tw17293750310270324031:=J
def tw16069392770268906388:=J
def tw11279341127487610545:=J
def tw18018822365502142894:=J
def tw8288135064752642910:=J
def tw4023372983903796776:=J
def tw16438000321422881438:=J
def tw10400653322872496957:=J
def tw13730083916379971935:=J
def tw16702787849786227652:=J
def tw13464036493395414570:=J
def tw17360939003646864663:=J
def tw13038994014735363075:=J
def tw14611450858032875502:=J
def tw5159372636843740640:=J
def tw15978730878455333662:=J
def tw12641446041601506672:=J
def tw13881253128332346051:=J
def tw16267215014457042029:=J
def tw17992367783398948661:=J
def tw17522106320623031628:=J
def tw5465116633693516544:=J
def tw14803775688163070417:=J
def tw6654154661879367574:=J
def tw7845622688037129133:=J
def tw8063222916486353472:=J
def tw7057920899929401707:=J
def tw6638837127031622565:=J
def tw2049667221773147255:=J
def tw5124461716026983111:=J
def tw7327711658845492232:=J
def tw9731336438197288190:=J
def tw9481639115108826540:=J
def tw10877306634349370446:=J
def tw4668025600139575424:=J
def tw6410261695657573428:=J
def tw6978485324974726149:=J
def tw6709016169000082803:=J
def tw17985106904345509605:=J
def tw8604445804133010075:=J
def tw14546499158524916254:=J
def tw7989954570553401706:=J
def tw14584026471658418765:=J
def tw12426816095433218527:=J
def tw8458908569726071504:=J
def tw5355544341602953756:=J
def tw12409535267279624906:=J
def tw11072048335962115851:=J
def tw2889189826473340942:=J
def tw14039342980001240951:=J
def tw18026882673801550919:=J
def tw121256364790452521:=J
def tw14282240986772336023:=J
def tw15357430842481500601:=J
def tw9437923996510534020:=J
def tw8875812730710127986:=J
def tw10828849980907173265:=J
def tw559577531067874989:=J
def tw15333825033288223457:=J
def tw8601593048563986962:=J
def tw10900400406187815390:=J
def tw12515676373108811639:=J
def tw245465235505776555:=J
def tw2802745751495010835:=J
def tw13462848459669871728:=J
def tw5679626027948356603:=J
def tw966099674520634069:=J
def tw10032083323634018022:=J
def tw8523938624605320208:=J
def tw13857092687603872145:=J
def tw14812589695165270700:=J
def tw13218749390349060919:=J
def tw1669949480127401750:=J
def tw18135625742628260358:=J
def tw10743056692875786111:=J
def tw17063827127869072121:=J
def tw9643103353557539197:=J
def tw15828247158398922369:=J
def tw6376837354512805199:=J
def tw9236876382525637314:=J
def tw12123589623172400280:=J
def tw4055004065918250564:=J
def tw17795391969028115751:=J
def tw15048463702688269622:=J
def tw8192282888766564596:=J
def tw17211720481430581613:=J
def tw5866426840267606323:=J
def tw14036306570414383360:=J
def tw3706001744525328781:=J
def tw5412241993922336568:=J
def tw1604349583329608961:=J
def tw3392530855484453648:=J
def tw12808298328674969142:=J
def tw1136101330135192552:=J
def tw18095435398729542781:=J
def tw17414622846303550353:=J
def tw1539698548846061350:=J
def tw5714843525621758751:=J
def tw3271077132099086794:=J
def tw1333916204152537579:=J
def tw12960120645267206632:=J
def tw203247952314776013:=J
def tw16009428266180100131:=J
def tw7064261336463203870:=J
def tw8832907112070696672:=J
def tw9977096375008558228:=J
def tw9973143559435347769:=J
def tw2647787296444249768:=J
def tw15730374545512231641:=J
def tw7013856561637140587:=J
def tw5751591045677862114:=J
def tw5702897711414560682:=J
def tw3718767565761385629:=J
def tw7100045442930523031:=J
def tw14874429365905245984:=J
def tw12376827447393075117:=J
def tw8507346442587361969:=J
def tw5922290734726700578:=J
def tw14716592720921039294:=J
def tw4056795794575445264:=J
def tw18091323573972148917:=J
def tw10347024915447099415:=J
def tw16869327100373950026:=J
def tw1819492082528791759:=J
def tw15459028065356183148:=J
def tw1317686490323376682:=J
def tw5483348605781708460:=J
def tw13693083591523888620:=J
def tw6716513523811646541:=J
def tw4533759979145874598:=J
def tw2734316606164676252:=J
def tw13074244325163098949:=J
def tw9942472049722608385:=J
def tw691253219292381325:=J
def tw9903167725639862563:=J
def tw10845375389648900623:=J
def tw7210957558720143429:=J
def tw7740212196245166597:=J
def tw2436288824513202115:=J
def tw1950765824035433843:=J
def tw2416566839022769986:=J
def tw9477522253422362120:=J
def tw3411554459904774290:=J
def tw4836057225900383171:=J
def tw12554619268865879043:=J
def tw3780943672197144819:=J
def tw14346589447980894724:=J
def tw18015720942647849841:=J
def tw2356100042147445638:=J
def tw3416770705756127674:=J
def tw414232850488555503:=J
def tw6618538385376446718:=J
def tw4585641810695777064:=J
def tw17782024676926032953:=J
def tw15813734664353077279:=J
def tw14926665898861692044:=J
end PySem.W.Fast
set_option maxRecDepth 100000 in
set_option maxHeartbeats 0 in
open PySem PySem.W PyProof.Rows
theorem PySem.Challenge.cw_hatsight_k76_refused_holds : PySem.Challenge.rw_hatsight_k76_refused.Holds := by
 w_on;o_law;k_head;(case hw=>w_witness2)
 k_fill
 refine K76.walk (l:=PySem.Challenge.rw_hatsight_k76_refused) rfl rfl (fun w h Y=>kIn_of Y) ?F
 case F=>
  intro w mg fa h KX G hmg;refine' K76.all_mk KX G hmg D_ D_ D_ D_ D_ D_ D_ D_ D_ D_ D_ D_ D_ D_ D_ D_ D_ D_ D_ D_ D_ D_ D_ D_ D_ D_ D_ D_ D_ D_ D_ D_ D_ ?a33 ?l33 ?c33 ?k33 ?lt33 ?ld33 D_ D_ D_ D_ D_ D_ D_ D_ D_ D_ D_ D_ D_ D_ D_ D_ D_ D_ D_ D_ D_ D_ D_ D_ D_ D_ D_ D_ D_ D_ D_ ?a65 ?l65 ?c65 ?k65 ?z0 ?z1 ?z2 ?z3 ?z4 ?z5 ?z6 ?z7 ?z8 ?z9 ?z10 ?z11 ?z12 ?z13 ?z14 ?z15 ?z16 ?q0 ?q1 ?q2 ?q3 ?q4 ?fa0 ?fhs ?fa1 ?fl0 ?fl1 ?fl2 ?fl3 ?fl4 ?fl5 ?fl6 ?fl7 ?fl8 ?caHall ?cokHall ?caDesk ?cokDesk ?md0 ?md1 ?md2 ?md3 ?md4 ?ma5 ?ml5 ?mq5 ?mw5 ?mi5 ?mlt5 ?mld5 ?md6 ?ea0 ?ea1 ?ea2 ?ea3 ?ea4 ?ea5 ?ea6 ?eok
  (case a33=>k_is);(case l33=>k_is);(case c33=>k_is);(case k33=>k_is)
  (case lt33=>k_is);(case ld33=>rfl)
  (case a65=>k_is);(case l65=>k_is);(case c65=>k_is);(case k65=>k_is)
  (case q0=>k_is)
  (case q1=>k_is)
  (case q2=>k_is)
  (case q3=>k_is)
  (case q4=>k_is)
  (case fa0=>k_is);(case fhs=>rfl);(case fa1=>k_is);(case fl0=>k_is);(case fl1=>k_is);(case fl2=>k_is);(case fl3=>k_is);(case fl4=>k_is);(case fl5=>k_is);(case fl6=>k_is);(case fl7=>k_is);(case fl8=>k_is)
  (case caHall=>k_is)
  (case caDesk=>k_is)
  (case md0=>walk_at"m")
  (case md1=>walk_at"m")
  (case md2=>walk_at"m")
  (case md3=>walk_at"m")
  (case md4=>walk_at"m")
  (case ma5=>k_is);(case ml5=>k_is);(case mq5=>k_is);(case mw5=>k_is);(case mi5=>k_is);(case mlt5=>k_is);(case mld5=>rfl)
  (case md6=>walk_at"m")
  (case cokHall=>kernel_rfl)
  (case cokDesk=>kernel_rfl)
  (case ea0=>k_is)
  (case ea1=>k_is)
  (case ea2=>k_is)
  (case ea3=>k_is)
  (case ea4=>k_is)
  (case ea5=>k_is)
  (case ea6=>k_is)
  (case eok=>kernel_rfl)
  (case z0=>k_is)
  (case z1=>k_is)
  (case z2=>k_is)
  (case z3=>k_is)
  (case z4=>k_is)
  (case z5=>k_is)
  (case z6=>k_is)
  (case z7=>k_is)
  (case z8=>k_is)
  (case z9=>k_is)
  (case z10=>k_is)
  (case z11=>k_is)
  (case z12=>k_is)
  (case z13=>k_is)
  (case z14=>k_is)
  (case z15=>k_is)
  (case z16=>k_is)
