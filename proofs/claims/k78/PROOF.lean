import PyProof.Rows.All
import Wide.All
import OpenK.AllK
import Wide.FinOn
import Lean
import PyProof.EqAt
import PyProof.EqKinds
import PyProof.TupleCall
import PySem.Challenge.RW_hatsight_k78_whole_from_text
set_option Elab.async false
set_option linter.all false
set_option maxRecDepth 100000
set_option compiler.extract_closed false
local macro_rules | `(tactic| lia) => `(tactic| walk_at "s")
local macro_rules | `(tactic| cbv) => `(tactic| walk_at "d")
def a_{p:Prop}[Decidable p](h:decide p=true:=by exact rfl):p:=of_decide_eq_true h
def Dk0{p:Prop}[Decidable p](h:decide p=true:=by decide +kernel):p:=of_decide_eq_true h
abbrev aO0:=List (PySem.Addr × PySem.Obj)
abbrev B0L:=List (Bool × List Nat)
abbrev b_:=PySem.Str->Option PySem.Value
abbrev c_:=PySem.Value->PySem.Shared->Prop
abbrev d_:=List Nat
abbrev e_:=List Int
abbrev f_:=List PySem.Str
abbrev f':=List PySem.Value
abbrev g_:=Option PySem.Value
abbrev h_:=Option PySem.Addr
abbrev i_:=List PySem.Expr
abbrev j_:=Option Int
abbrev k_:=Array PySem.Value
abbrev l_:=List PySem.Addr
abbrev n_:=List PySem.Stmt
open List (all_cons any_cons append_nil cons_append drop_sublist drop_zero ext_getElem filterMap_cons filter_sublist find?_cons flatMap_cons flatten_cons foldl_cons forIn_cons getD_eq_getElem?_getD getElem?_drop getElem_idxOf getElem_inj getElem_take idxOf_cons length_append length_cons length_drop length_erase length_filter_le length_map length_nil length_pos_of_mem length_range length_replicate length_set length_take lookup_cons map_cons map_drop map_nil map_take mem_cons mem_cons_of_mem mem_cons_self mem_of_mem_drop nil_append nodup_append nodup_iff_pairwise_ne nodup_nil nodup_range not_mem_nil pairwise_map reverse_perm set_cons_succ set_cons_zero sum_cons take_append_drop take_length take_of_length_le take_sublist take_succ take_zero)
open Nat (Coprime eq_of_testBit_eq le_succ log2_le_self log2_lt lt_log2_self lt_succ_of_lt lt_succ_self mod_eq_of_lt mod_eq_sub_mod mod_lt mod_self not_lt_zero sub_le succ_mul succ_pos testBit_and testBit_eq_decide_div_mod_eq testBit_or testBit_two_pow toDigits zero_le zero_testBit)
open PySem.Heap (ExtBut SameBut get?_push_of_some get?_push_size lt_size)
open Option (getD_none isSome_map isSome_none isSome_some map_some)
open Array (getElem?_toList)
open Int (ediv_le_self ediv_nonneg emod_eq_of_lt emod_lt_of_pos emod_nonneg eq_ofNat_of_zero_le mul_ediv_add_emod natAbs_natCast natCast_add natCast_ediv natCast_emod natCast_mul natCast_pow ofNat sub_emod toNat toNat_natCast)
open PySem.F (args_tuple_add_2 entry_tuple_add plainAttrs_list plainAttrs_str slot_dict_get slot_list_index slot_str_join slot_str_split slot_tuple_add slot_tuple_index type_list_index type_str_join type_str_split)
open PySem.W (binds_K callWith_K cellsFrom_some codeIn emptyDict findIn fnOf handedIn hasDictIn instObj isFn kIn_of keepIn lookIn makesIn methodCall_KW methodObj mg_none_of mg_of nsIn nsOkIn plainGet plainGet_of plainOver tailIn takerIn typeIn)
open PySem.SeqAt (EqAt list_indexAt shaped)
set_option maxHeartbeats 4000000
open PySem.W (Frag)
namespace L2
open PySem PySem.Spec PyProof.Rows
def b3:type_of% @List.getD_eq_getElem?_getD:=@List.getD_eq_getElem?_getD
def b4:type_of% @List.getElem?_eq_getElem:=@List.getElem?_eq_getElem
def b5:type_of% @List.length_map:=@List.length_map
def cc:type_of% @decide_eq_true:=@decide_eq_true
def cv:type_of% @PySem.wpAny_bind:=@PySem.wpAny_bind
def dt:type_of% @decide_eq_false:=@decide_eq_false
def dy:type_of% @Nat.le_refl:=@Nat.le_refl
def ed:type_of% @List.getElem?_map:=@List.getElem?_map
def ef:type_of% @PySem.Heap.get?_push_of_some:=@PySem.Heap.get?_push_of_some
def ek:type_of% @PySem.wpAny_pure:=@PySem.wpAny_pure
def eG:type_of% @List.mem_singleton:=@List.mem_singleton
def eR:type_of% @List.length_append:=@List.length_append
def fz:type_of% @List.mem_cons_of_mem:=@List.mem_cons_of_mem
def fA:type_of% @List.mem_cons_self:=@List.mem_cons_self
def fO:type_of% @List.mem_range:=@List.mem_range
def gc:type_of% @Bool.and_eq_true:=@Bool.and_eq_true
def gg:type_of% @List.mem_cons:=@List.mem_cons
def gh:type_of% @List.mem_map:=@List.mem_map
def gp:type_of% @Bool.false_ne_true:=@Bool.false_ne_true
def gr:type_of% @Nat.le_trans:=@Nat.le_trans
def gz:type_of% @PySem.Heap.get?_push_size:=@PySem.Heap.get?_push_size
def g4:type_of% @Nat.lt_of_lt_of_le:=@Nat.lt_of_lt_of_le
def hO:type_of% @List.size_toArray:=@List.size_toArray
def hU:type_of% @List.map_append:=@List.map_append
def h7:type_of% @List.length_range:=@List.length_range
def h9:type_of% @List.getElem?_eq_none:=@List.getElem?_eq_none
def ih:type_of% @List.mem_of_getElem?:=@List.mem_of_getElem?
def j5:type_of% @List.mem_filter:=@List.mem_filter
def j6:type_of% @List.mem_append:=@List.mem_append
def j9:type_of% @Nat.ne_of_lt:=@Nat.ne_of_lt
def ka:type_of% @List.all_eq_true:=@List.all_eq_true
def kb:type_of% @PySem.boot_len:=@PySem.boot_len
def kc:type_of% @decide_eq_true_eq:=@decide_eq_true_eq
def kf:type_of% @List.getElem_mem:=@List.getElem_mem
def k4:type_of% @Int.toNat_natCast:=@Int.toNat_natCast
def k6:type_of% @List.map_map:=@List.map_map
def ls:type_of% @List.getElem?_eq_some_iff:=@List.getElem?_eq_some_iff
def mo:type_of% @List.length_cons:=@List.length_cons
def mv:type_of% @List.getElem?_range:=@List.getElem?_range
def m2:type_of% @Nat.lt_of_le_of_lt:=@Nat.lt_of_le_of_lt
def m3:type_of% @List.nodup_cons:=@List.nodup_cons
def m5:type_of% @List.map_cons:=@List.map_cons
def nc:type_of% @Classical.byContradiction:=@Classical.byContradiction
def nq:type_of% @Bool.true_and:=@Bool.true_and
def nt:type_of% @List.length_drop:=@List.length_drop
def oi:type_of% @Nat.testBit_eq_decide_div_mod_eq:=@Nat.testBit_eq_decide_div_mod_eq
def oq:type_of% @PySem.F.slot_list_append:=@PySem.F.slot_list_append
def ot:type_of% @of_decide_eq_true:=@of_decide_eq_true
def oD:type_of% @Nat.pow_le_pow_right:=@Nat.pow_le_pow_right
def o5:type_of% @Int.mul_le_mul_of_nonneg_right:=@Int.mul_le_mul_of_nonneg_right
def o6:type_of% @Option.some.inj:=@Option.some.inj
def pS:type_of% @PySem.F.type_list_append:=@PySem.F.type_list_append
def qs:type_of% @Bool.false_and:=@Bool.false_and
def qz:type_of% @List.getElem?_append_right:=@List.getElem?_append_right
def qE:type_of% @List.append_assoc:=@List.append_assoc
def qN:type_of% @List.getElem_of_mem:=@List.getElem_of_mem
def q5:type_of% @List.map_eq_nil_iff:=@List.map_eq_nil_iff
def q7:type_of% @List.mem_append_right:=@List.mem_append_right
def ri:type_of% @List.length_take:=@List.length_take
def ro:type_of% @List.pairwise_cons:=@List.pairwise_cons
def rr:type_of% @PySem.F.plainAttrs_list:=@PySem.F.plainAttrs_list
def rV:type_of% @Int.eq_ofNat_of_zero_le:=@Int.eq_ofNat_of_zero_le
def r3:type_of% @List.idxOf_lt_length_of_mem:=@List.idxOf_lt_length_of_mem
def r4:type_of% @Nat.two_pow_pos:=@Nat.two_pow_pos
def sC:type_of% @List.take_length:=@List.take_length
def sU:type_of% @Nat.not_lt_zero:=@Nat.not_lt_zero
def tz:type_of% @beq_eq_false_iff_ne:=@beq_eq_false_iff_ne
def u5:type_of% @List.range_succ:=@List.range_succ
def vr:type_of% @List.take_of_length_le:=@List.take_of_length_le
def v8:type_of% @Nat.mod_eq_of_lt:=@Nat.mod_eq_of_lt
def wh:type_of% @Int.emod_lt_of_pos:=@Int.emod_lt_of_pos
def x6:type_of% @List.length_filter_le:=@List.length_filter_le
def yP:type_of% @PySem.F.plainAttrs_str:=@PySem.F.plainAttrs_str
def y0:type_of% @PySem.wpAny_truthy_bool:=@PySem.wpAny_truthy_bool
def AC:type_of% @Nat.mul_le_mul_right:=@Nat.mul_le_mul_right
def A5:type_of% @List.getElem?_append_left:=@List.getElem?_append_left
def Bz:type_of% @PySem.wpAny_mono:=@PySem.wpAny_mono
def BA:type_of% @congrArg:=@congrArg
def BB:type_of% @List.idxOf_lt_length_iff:=@List.idxOf_lt_length_iff
def C2:type_of% @List.ext_getElem?:=@List.ext_getElem?
def C4:type_of% @PySem.Heap.size_push:=@PySem.Heap.size_push
def C6:type_of% @List.sum_cons:=@List.sum_cons
def Da:type_of% @Int.natAbs_natCast:=@Int.natAbs_natCast
def Df:type_of% @Nat.lt_irrefl:=@Nat.lt_irrefl
def Do:type_of% @List.nodup_iff_pairwise_ne:=@List.nodup_iff_pairwise_ne
def DK:type_of% @Nat.eq_of_testBit_eq:=@Nat.eq_of_testBit_eq
def D2:type_of% @PySem.wpAny_call_entry:=@PySem.wpAny_call_entry
def E3:type_of% @PySem.mem_of_lookup:=@PySem.mem_of_lookup
def E4:type_of% @List.replicate_succ:=@List.replicate_succ
def Fh:type_of% @List.length_pos_iff:=@List.length_pos_iff
def Fk:type_of% @PySem.W.mg_none_of:=@PySem.W.mg_none_of
def Fo:type_of% @Int.emod_nonneg:=@Int.emod_nonneg
def FB:type_of% @List.filterMap_cons:=@List.filterMap_cons
def FM:type_of% @Nat.testBit_two_pow:=@Nat.testBit_two_pow
def FS:type_of% @List.length_eq_zero_iff:=@List.length_eq_zero_iff
def F1:type_of% @PyProof.Rows.callWith_type1:=@PyProof.Rows.callWith_type1
def F2:type_of% @PySem.wpAny_seqItems:=@PySem.wpAny_seqItems
def F8:type_of% @List.all_map:=@List.all_map
def Gc:type_of% @Bool.eq_false_iff:=@Bool.eq_false_iff
def GE:type_of% @Bool.or_eq_true:=@Bool.or_eq_true
def GM:type_of% @PySem.call_meets:=@PySem.call_meets
def GT:type_of% @PySem.wpAny_holding:=@PySem.wpAny_holding
def IR:type_of% @Int.mul_ediv_cancel_left:=@Int.mul_ediv_cancel_left
def KB:type_of% @List.lookup_cons:=@List.lookup_cons
def KE:type_of% @Bool.and_false:=@Bool.and_false
def KF:type_of% @PySem.F.slot_str_split:=@PySem.F.slot_str_split
def KM:type_of% @Nat.pow_lt_pow_right:=@Nat.pow_lt_pow_right
def L1:type_of% @PySem.wpAny_pyIter_list:=@PySem.wpAny_pyIter_list
def L9:type_of% @PySem.wpAny_callSpecial?_slot:=@PySem.wpAny_callSpecial?_slot
def On:type_of% @Bool.eq_iff_iff:=@Bool.eq_iff_iff
def Os:type_of% @List.map_congr_left:=@List.map_congr_left
def Pi:type_of% @Option.map_eq_some_iff:=@Option.map_eq_some_iff
def P3:type_of% @Int.add_mul:=@Int.add_mul
def Re:type_of% @List.getElem_idxOf:=@List.getElem_idxOf
def SC:type_of% @PySem.F.slot_str_join:=@PySem.F.slot_str_join
def SL:type_of% @List.take_append_drop:=@List.take_append_drop
def SZ:type_of% @PySem.wpAny_pyIter_tuple:=@PySem.wpAny_pyIter_tuple
def UF:type_of% @Int.add_mul_emod_self_left:=@Int.add_mul_emod_self_left
def UV:type_of% @List.filter_append:=@List.filter_append
def Wa:type_of% @Nat.mod_two_eq_zero_or_one:=@Nat.mod_two_eq_zero_or_one
def Wb:type_of% @PySem.wpAny_passesOwn:=@PySem.wpAny_passesOwn
def Wc:type_of% @List.mem_append_left:=@List.mem_append_left
def Wd:type_of% @Nat.lt_succ_self:=@Nat.lt_succ_self
def We:type_of% @List.nodup_append:=@List.nodup_append
def Wf:type_of% @Nat.lt_succ_of_lt:=@Nat.lt_succ_of_lt
def Wg:type_of% @Int.emod_eq_of_lt:=@Int.emod_eq_of_lt
def Wh:type_of% @PySem.F.type_str_join:=@PySem.F.type_str_join
def Wi:type_of% @Int.ofNat.inj:=@Int.ofNat.inj
def Wj:type_of% @List.nodup_range:=@List.nodup_range
def Wl:type_of% @beq_self_eq_true:=@beq_self_eq_true
def Wm:type_of% @List.filter_sublist:=@List.filter_sublist
def Wn:type_of% @List.map_reverse:=@List.map_reverse
def Wo:type_of% @List.map_drop:=@List.map_drop
def Wp:type_of% @PySem.wpAny_field:=@PySem.wpAny_field
def Wq:type_of% @Int.le_refl:=@Int.le_refl
def Wr:type_of% @Nat.sub_self:=@Nat.sub_self
def Wt:type_of% @PySem.F.called_set:=@PySem.F.called_set
def Wu:type_of% @Nat.zero_testBit:=@Nat.zero_testBit
def Wv:type_of% @List.cons.inj:=@List.cons.inj
def Ww:type_of% @List.filter_congr:=@List.filter_congr
def Wx:type_of% @Nat.ne_of_gt:=@Nat.ne_of_gt
def Wy:type_of% @List.map_take:=@List.map_take
def Wz:type_of% @List.any_eq_true:=@List.any_eq_true
def WA:type_of% @decide_eq_decide:=@decide_eq_decide
def WB:type_of% @List.all_cons:=@List.all_cons
def WC:type_of% @Int.one_mul:=@Int.one_mul
abbrev Key:=Sum Int Str
noncomputable def nz:Key->Value->Bool
 |.inl k,v=>Value.isInt k v
 |.inr x,v=>Value.isStrOf x v
noncomputable def UX(w:World):Key->Int
 |.inl k=>hashInt k
 |.inr x=>hashStr w x
def bL:∀ {k:Key} {v:Value},nz k v=true->(∃i t,k=Sum.inl i/\v=Value.int i t)∨(∃x t,k=Sum.inr x/\v=Value.str x t)
 |.inl i,v,h=>by
  obtain⟨t,e⟩:=Value.isInt_shape (k:=i) (v:=v) h;exact .inl ⟨i,t,rfl,e⟩
 |.inr x,v,h=>by
  obtain⟨t,e⟩:=Value.isStrOf_shape (x:=x) (v:=v) h;exact .inr ⟨x,t,rfl,e⟩
def Dg(i:Int)(t:Tok):nz (.inl i) (.int i t)=true:=by simp[nz,Value.isInt]
def Dh(x:Str)(t:Tok):nz (.inr x) (.str x t)=true:=by simp[nz,Value.isStrOf]
def OQ(a b:Int):decide ((Sum.inl a:Key)=Sum.inl b)=(a==b):=by
 by_cases e:a=b
 ·subst e;simp
 ·have h:¬(Sum.inl a:Key)=Sum.inl b:=λq=>e<|Sum.inl.inj q;rw[dt h];exact(tz.mpr e).symm
def OR(a b:Str):decide ((Sum.inr a:Key)=Sum.inr b)=decide (a=b):=by
 by_cases e:a=b
 ·subst e;simp
 ·have h:¬(Sum.inr a:Key)=Sum.inr b:=λq=>e<|Sum.inr.inj q;rw[dt h,dt e]
def OS(a:Int)(b:Str):decide ((Sum.inl a:Key)=Sum.inr b)=false:=dt λq=>nomatch q
def OT(a:Str)(b:Int):decide ((Sum.inr a:Key)=Sum.inl b)=false:=dt λq=>nomatch q
noncomputable def bV(prog:Program)(w:World):PySem.KeyKind prog w Key where
 is:=nz
 hash:=UX w
 inj:=λv a b f hb=>by
  rcases bL f with ⟨i,t,rfl,rfl⟩|⟨x,t,rfl,rfl⟩
  ·rcases bL hb with ⟨j,u,rfl,e⟩|⟨y,u,rfl,e⟩
   ·injection e with c _;rw[c]
   ·exact nomatch e
  ·rcases bL hb with ⟨j,u,rfl,e⟩|⟨y,u,rfl,e⟩
   ·exact nomatch e
   ·injection e with c _;rw[c]
 byValue:=λk v h=>by
  rcases bL h with ⟨i,t,rfl,rfl⟩|⟨x,t,rfl,rfl⟩<;>rfl
 pyHash:=λd h=>by
  rcases bL d with ⟨i,t,rfl,rfl⟩|⟨x,t,rfl,rfl⟩
  ·exact wpAny_pyHash_int h
  ·exact wpAny_pyHash_str h
 eqBool:=λhu d h=>by
  rcases bL hu with ⟨i,t,rfl,rfl⟩|⟨x,t,rfl,rfl⟩
  ·rcases bL d with ⟨j,u,rfl,rfl⟩|⟨y,u,rfl,rfl⟩
   ·rw[OQ]at h;exact wpAny_eqBool_int h
   ·rw[OS]at h;exact SeqAt.EqAt.int_str i t y u _ _ _ _ h
  ·rcases bL d with ⟨j,u,rfl,rfl⟩|⟨y,u,rfl,rfl⟩
   ·rw[OT]at h;exact SeqAt.EqAt.str_int x t j u _ _ _ _ h
   ·rw[OR]at h;exact wpAny_eqBool_str h
 «strs»:=λk x t v h=>by
  rcases bL h with ⟨i,u,rfl,e⟩|⟨y,u,rfl,e⟩
  ·exact nomatch e
  ·injection e with c _
   subst c
   cases v<;>rfl
def wy(prog:Program)(w:World)(i:Int)(t:Tok):(bV prog w).is (.inl i) (.int i t)=true:=Dg i t
def bM(prog:Program)(w:World)(x:Str)(t:Tok):(bV prog w).is (.inr x) (.str x t)=true:=Dh x t
inductive V where
 |bE|bl (b:Bool)|int (i:Int)|str (x:Str)|FE (b:Array UInt8)|UU (b:UInt64)|ref (a:Addr)|ty (n:String)
 deriving DecidableEq
def RelV:V->Value->Prop
 |.bE,u=>u=Value.none
 |.bl b,u=>u=Value.bool b
 |.int i,u=>∃t,u=Value.int i t
 |.str x,u=>∃t,u=Value.str x t
 |.FE b,u=>∃t,u=Value.bytes b t
 |.UU b,u=>∃t,u=Value.float b t
 |.ref a,u=>u=Value.ref a
 |.ty n,u=>u=Value.type n
abbrev Vals:List V->List Value->Prop:=Paired RelV
theorem Vals.length{xs:List V}{us:f'}(r:Vals xs us):xs.length=us.length:=Paired.length r
theorem Vals.get:∀ {xs:List V} {us:f'} {i:Nat} {x:V},Vals xs us->xs[i]?=some x->∃u,us[i]?=some u/\RelV x u
 |_,_,_,_,.nil,e=>by simp at e
 |_,_,0,_,.cons r _,e=>by simp at e;subst e;exact⟨_,rfl,r⟩
 |_,_,i+1,x,.cons _ t,e=>by
  obtain⟨u,h1,a⟩:=Vals.get (i:=i) (x:=x) t (by simpa using e)
  exact⟨u,by simpa using h1,a⟩
theorem Vals.set{x:V}{u:Value}(r:RelV x u):∀ {xs:List V} {us:f'} (i:Nat),Vals xs us->Vals (xs.set i x) (us.set i u)
 |_,_,_,.nil=>.nil
 |_,_,0,.cons _ t=>.cons r t
 |_,_,i+1,.cons q t=>.cons q<|Vals.set r i t
theorem Vals.append:∀ {xs ys:List V} {us ws:f'},Vals xs us->Vals ys ws->Vals (xs++ys) (us++ws)
 |_,_,_,_,.nil,s=>s
 |_,_,_,_,.cons r t,s=>.cons r<|Vals.append t s
theorem Vals.take:∀ {xs:List V} {us:f'} (n:Nat),Vals xs us->Vals (xs.take n) (us.take n)
 |_,_,0,_=>.nil
 |_,_,_+1,.nil=>.nil
 |_,_,n+1,.cons r t=>.cons r<|Vals.take n t
theorem Vals.drop:∀ {xs:List V} {us:f'} (n:Nat),Vals xs us->Vals (xs.drop n) (us.drop n)
 |_,_,0,r=>r
 |_,_,_+1,.nil=>.nil
 |_,_,n+1,.cons _ t=>Vals.drop n t
def iV:Option V->g_->Prop
 |some v,some u=>RelV v u
 |none,none=>True
 |_,_=>False
variable{κ:Type}
def KV:List (κ × V)->List (κ × Value)->Prop:=Paired λ(p:κ × V) (q:κ × Value)=>p.1=q.1/\RelV p.2 q.2
noncomputable def kV:Key->V
 |.inl i=>.int i
 |.inr x=>.str x
inductive HO where
 |lst (xs:List V)
 |tup (xs:List V)
 |dK (C_:List (Key × V))|dT (C_:List (List Key × V))
 |set (S:Int->Bool) (n:Nat)
 |ins (C dx:Addr) (fs:List (Str × V))
 |own (x:Addr)
 |xd (fs:List (Str × V))
 |met (f x:Addr)
 |Ny (lo hi:Int)
 |kZ (o:Obj) (u:HO)
 |Rr (ps:k_)
 |ext (φ:Heap->Prop)
abbrev Hp:=Addr->Option HO
noncomputable def upd(H:Hp)(a:Addr)(o:HO):Hp:=λb=>if b=a then some o else H b
variable{H:Hp}{a:Addr}{o:HO}
def af:upd H a o a=some o:=by unfold upd;rw[if_pos rfl]
variable{b:Addr}
def aC(h:b≠a):upd H a o b=H b:=by unfold upd;rw[if_neg h]
variable{u:HO}
def Kz:upd (upd H a o) a u=upd H a u:=by
 funext b;unfold upd;split<;>rfl
def dj(h:H a=some o)(h':H b=some u)(d:o≠u):a≠b:=by
 intro e;subst e;rw[h]at h';exact d<|o6 h'
def aO(h:H a=some o)(h':H b=none):a≠b:=by
 intro e;subst e;rw[h]at h';cases h'
section
variable(P:Program)(w:World)
def bG(H:Hp)(h:Heap)(a:Addr):HO->Prop
 |.lst c=>c.length<=sizeLine/\∃(its:f') (n:Nat),Vals c its/\h.get? a=some {cls:=.type "list",data:=.seq its.toArray n}
 |.tup c=>c.length<=sizeLine/\∃its:f',Vals c its/\IsTup h a its.toArray
 |.dK b=>b.length<=sizeLine/\(a==sysModules)=false/\∃vs,KV b vs/\h.DictOf (bV P w) a vs
 |.dT b=>b.length<=sizeLine/\(a==sysModules)=false/\∃c:List (List Key × Addr × Value),
   Paired (λ(p:List Key × V) (q:List Key × Addr × Value)=>p.1=q.1/\H q.2.1=some (.tup<|p.1.map kV)/\RelV p.2 q.2.2) b c/\
   ∃o es ep,h.get? a=some o/\o.ExactDict/\o.data=.dict es ep/\es.toList=c.map (entryOfKey<|tupleKind<|bV P w)/\(c.map (·.1)).Nodup
 |.set S n=>h.SetOf (intKind P w) a S n
 |.ins C d fs=>H d=some (.own a)/\fs.length<=1000/\d≠a/\h.get? a=some (instObj C d)/\
   ∃mA,h.Ns1 d mA/\(∀f,iV (fs.lookup f)<|mA f)/\PySem.Within mA (fs.map (·.1))
 |.own _=>∃o,h.get? a=some o
 |.xd fs=>∃mA,h.Ns1 a mA/\∀f,iV (fs.lookup f)<|mA f
 |.Ny g hi=>∃t u v,h.get? a=some {cls:=.type "range",data:=.fields #[.int g t,.int hi u,.int 1 v]}
 |.kZ o u=>h.get? a=some o/\bG H h a u
 |.Rr e=>h.get? a=some {cls:=.none,data:=.fields e}
 |.met f x=>h.get? a=some (methodObj (.ref f)<|.ref x)
 |.ext φ=>φ h/\(∃o,h.get? a=some o)/\∀h1 h2:Heap,φ h1->(∀o,h1.get? a=some o->h2.get? a=some o)->φ h2
def jS(H:Hp)(h:Heap):Prop:=∀a o,H a=some o->bG P w H h a o
end
variable{P:Program}{w:World}{h:Heap}
theorem bG.lt(x:bG P w H h a o):a<h.objs.size:=by
 cases o with
 |lst c=>obtain⟨_,_,_,_,e⟩:=x;exact lt_size e
 |tup c=>obtain⟨_,_,_,p⟩:=x;exact p.lt
 |dK b=>obtain⟨_,_,_,_,o,_,_,e,_⟩:=x;exact lt_size e
 |dT b=>obtain⟨_,_,_,_,o,_,_,e,_⟩:=x;exact lt_size e
 |set S n=>obtain⟨o,_,_,_,e,_⟩:=x;exact lt_size e
 |ins C i fs=>obtain⟨_,_,_,e,_⟩:=x;exact lt_size e
 |own y=>obtain⟨_,e⟩:=x;exact lt_size e
 |xd fs=>obtain⟨_,⟨_,_,_,e,_⟩,_⟩:=x;exact lt_size e
 |Ny d hi=>obtain⟨_,_,_,e⟩:=x;exact lt_size e
 |kZ ob u=>obtain⟨e,_⟩:=x;exact lt_size e
 |Rr g=>exact lt_size<|show h.get? a=some _ from x
 |met f y=>exact lt_size<|show h.get? a=some _ from x
 |ext φ=>obtain⟨_,⟨_,e⟩,_⟩:=x;exact lt_size e
theorem Paired.OU{α β:Type}{F G:α->β->Prop}:∀ {l₁:List α} {l₂:List β},Paired F l₁ l₂->(∀a b,F a b->G a b)->Paired G l₁ l₂
 |_,_,.nil,_=>.nil
 |_,_,.cons r t,f=>.cons (f _ _ r)<|Paired.OU t f
variable{H':Hp}{h':Heap}
def bG.yV(x:bG P w H h a o)(k:∀b u,(b=a∨H b=some (.own a))->h.get? b=some u->h'.get? b=some u)
  (ho:∀b,H b=some (.own a)->H' b=some (.own a)) (ht:∀b xs,H b=some (.tup xs)->H' b=some (.tup xs)):bG P w H' h' a o:=by
 induction o with
 |lst xs=>obtain⟨z,j,n,r,e⟩:=x;exact⟨z,j,n,r,k _ _ (.inl rfl) e⟩
 |tup xs=>obtain⟨z,j,r,ob,e,c⟩:=x;exact⟨z,j,r,ob,k _ _ (.inl rfl) e,c⟩
 |dK m=>obtain⟨z,y,E,r,ob,g,i,e,c⟩:=x;exact⟨z,y,E,r,ob,g,i,k _ _ (.inl rfl) e,c⟩
 |dT m=>
  obtain⟨z,y,xs,r,ob,g,i,e,c⟩:=x;exact⟨z,y,xs,Paired.OU r λp q z=>⟨z.1,ht _ _ z.2.1,z.2.2⟩,ob,g,i,k _ _ (.inl rfl) e,c⟩
 |set S n=>obtain⟨ob,g,i,t,e,c⟩:=x;exact⟨ob,g,i,t,k _ _ (.inl rfl) e,c⟩
 |ins C G fs=>
  obtain⟨d,z,ne,e,l,⟨s,g,i,e2,c⟩,r⟩:=x;exact⟨ho _ d,z,ne,k _ _ (.inl rfl) e,l,⟨s,g,i,k _ _ (.inr d) e2,c⟩,r⟩
 |own y=>obtain⟨ob,e⟩:=x;exact⟨ob,k _ _ (.inl rfl) e⟩
 |xd fs=>obtain⟨l,⟨s,g,i,e,c⟩,r⟩:=x;exact⟨l,⟨s,g,i,k _ _ (.inl rfl) e,c⟩,r⟩
 |Ny F hi=>obtain⟨t,u,v,e⟩:=x;exact⟨t,u,v,k _ _ (.inl rfl) e⟩
 |kZ ob u D=>obtain⟨e,q⟩:=x;exact⟨k _ _ (.inl rfl) e,D q⟩
 |Rr B=>
  have e:h.get? a=some {cls:=.none,data:=.fields B}:=x;show h'.get? a=some {cls:=.none,data:=.fields B};exact k a _ (.inl rfl) e
 |met f y=>
  have e:h.get? a=some (methodObj (.ref f)<|.ref y):=x;show h'.get? a=some (methodObj (.ref f)<|.ref y);exact k a _ (.inl rfl) e
 |ext φ=>obtain⟨p,⟨o,e⟩,A⟩:=x;exact⟨A _ _ p λo q=>k _ _ (.inl rfl) q,⟨o,k _ _ (.inl rfl) e⟩,A⟩
theorem jS.lt(x:jS P w H h)(e:H a=some o):a<h.objs.size:=(x a o e).lt
def jS.fresh(x:jS P w H h)(e:h.objs.size<=a):H a=none:=by
 cases q:H a with
 |none=>rfl
 |some u=>exact absurd (g4 (x.lt q) e)<|Df _
def jS.kept(x:jS P w H h)(k:∀b u,h.get? b=some u->h'.get? b=some u):jS P w H h':=λa o e=>
 (x a o e).yV (λb u _ q=>k b u q) (λ_ q=>q) λ_ _ q=>q
def jS.laid(x:jS P w H h)(k:∀b u,h.get? b=some u->h'.get? b=some u)(hp:h.objs.size<=a)(new:bG P w (upd H a o) h' a o):jS P w (upd H a o) h':=λb u e=>by
 have hn:=x.fresh hp
 by_cases hb:b=a
 ·subst hb;rw[af]at e;cases e;exact new
 ·rw[aC hb]at e;exact(x b u e).yV (λc v _ q=>k c v q) (λc q=>by rw[aC (aO q hn)];exact q) λc d q=>by rw[aC (aO q hn)];exact q
def Rd(H:Hp)(a:Addr)(u:HO):Prop:=H a=some u∨∃o,H a=some (.kZ o u)
def Rd.ok(r:Rd H a u)(x:jS P w H h):bG P w H h a u:=by
 rcases r with r|⟨o,r⟩
 ·exact x a u r
 ·obtain⟨_,q⟩:=x a _ r;exact q
def RO:Option HO->Prop
 |some (.lst _)=>True
 |some (.dK _)=>True
 |some (.dT _)=>True
 |some (.set _ _)=>True
 |some (.ins _ _ _)=>True
 |some (.ext _)=>True
 |_=>False
variable{x e:Addr}{o':HO}
def jS.write(ok:jS P w H h)(mu:RO (H x))(he:e=x∨H e=some (.own x))(k:∀b u,b≠e->h.get? b=some u->h'.get? b=some u)(heo:∃u,h'.get? e=some u)
  (new:bG P w (upd H x o') h' x o'):jS P w (upd H x o') h':=λb u q=>by
 have d:∀c y,H c=some (.own y)->c≠x:=λc y r z=>by subst z;rw[r]at mu;exact mu
 have f:∀c g,H c=some (.tup g)->c≠x:=λc g r z=>by subst z;rw[r]at mu;exact mu
 by_cases hb:b=x
 ·subst hb;rw[af]at q;cases q;exact new
 ·rw[aC hb]at q
  by_cases a:b=e
  ·have i:H b=some (.own x):=by
    rcases he with z|z
    ·exact absurd (a.trans z) hb
    ·rw[a];exact z
   rw[q]at i;cases i
   obtain⟨v,j⟩:=heo;exact⟨v,by rw[a];exact j⟩
  ·refine(ok b u q).yV (λc v hc r=>k c v ?_ r) (λc r=>by rw[aC (d c b r)];exact r) λc g r=>by rw[aC (f c g r)];exact r
   rcases hc with rfl|hc
   ·exact a
   ·rintro rfl
    rcases he with z|z
    ·exact d c b hc z
    ·rw[hc]at z;cases z;exact hb rfl
structure Un(fs ex:l_)(H H':Hp)(h h':Heap):Prop where
 keep:∀b o,h.get? b=some o->H b=none->b∉fs->b∉ex->h'.get? b=some o
 slot:∀b o,h.get? b=some o->H b=none->b∈fs->b∉ex->∃sl,h'.get? b=some {o with slots:=sl}
 free:∀b o,h.get? b=some o->H b=none->b∉ex->H' b=none
 there:∀b o,h.get? b=some o->b∉ex->∃o',h'.get? b=some o'
 yt:∀b xs,H b=some (.tup xs)->H' b=some (.tup xs)
 vT:∀b o u,H b=some (.kZ o u)->H' b=some (.kZ o u)
 yu:∀b ps,H b=some (.Rr ps)->∃more,H' b=some (.Rr<|ps++more)
variable{fs ex:l_}{H1:Hp}{h1:Heap}
def Un.any(u:Un fs ex H H1 h h1){ob:Obj}(q:h.get? b=some ob)(n:H b=none)(hx:b∉ex):∃sl,h1.get? b=some {ob with slots:=sl}:=by
 by_cases hb:b∈fs
 ·exact u.slot b ob q n hb hx
 ·exact⟨ob.slots,u.keep b ob q n hb hx⟩
def Un.kept(k:∀b u,h.get? b=some u->h'.get? b=some u):Un fs ex H H h h':=
 ⟨λb ob q _ _ _=>k b ob q,λb ob q _ _ _=>⟨ob.slots,k b ob q⟩,λ_ _ _ n _=>n,λb ob q _=>⟨ob,k b ob q⟩,λ_ _ q=>q,λ_ _ _ q=>q,λ_ a q=>⟨#[],by rw[q];simp⟩⟩
def Un.refl:Un fs ex H H h h:=Un.kept λ_ _ q=>q
theorem Un.laid(k:∀b u,h.get? b=some u->h'.get? b=some u)(hp:h.objs.size<=a)(hn:H a=none):Un fs ex H (upd H a o) h h' where
 keep:=λb u q _ _ _=>k b u q
 slot:=λb u q _ _ _=>⟨u.slots,k b u q⟩
 free:=λb u q n _=>by rw[aC (j9<|g4 (lt_size q) hp)];exact n
 there:=λb u q _=>⟨u,k b u q⟩
 yt:=λb c q=>by rw[aC (aO q hn)];exact q
 vT:=λb u c q=>by rw[aC (aO q hn)];exact q
 yu:=λb d q=>⟨#[],by rw[aC (aO q hn),q];simp⟩
def Un.write(mu:RO (H x))(he:e=x∨H e=some (.own x))(k:∀b u,b≠e->h.get? b=some u->h'.get? b=some u)(heo:∃u,h'.get? e=some u):Un fs ex H (upd H x o) h h':=by
 have hx:∀b,H b=none->b≠x:=λb n z=>by subst z;rw[n]at mu;exact mu
 have hb:∀b,H b=none->b≠e:=λb n z=>by
  subst z
  rcases he with r|r
  ·exact hx b n r
  ·rw[n]at r;cases r
 have hm:∀b u,H b=some u->¬RO (some u)->b≠x:=λb u q d z=>by subst z;rw[q]at mu;exact d mu
 refine⟨λb u q n _ _=>k b u (hb b n) q,λb u q n _ _=>⟨u.slots,k b u (hb b n) q⟩,λb u q n _=>by rw[aC (hx b n)];exact n,λb u q _=>?_,
  λb c q=>by rw[aC (hm b _ q λz=>z)];exact q,λb u c q=>by rw[aC (hm b _ q λz=>z)];exact q,λb f q=>⟨#[],by rw[aC (hm b _ q λz=>z),q];simp⟩⟩
 by_cases a:b=e
 ·subst a;exact heo
 ·exact⟨u,k b u a q⟩
noncomputable def UG(h:Heap)(H:Hp):l_:=(List.range h.objs.size).filter λa=>(H a).isSome
noncomputable def t9(h:Heap)(H:Hp):Heap:=PySem.W.hideAll h<|UG h H
def Di(h:Heap)(H:Hp):(t9 h H).objs.size=h.objs.size:=PySem.W.hideAll_size _ _
variable{o:Obj}
def FF(e:h.get? b=some o)(n:H b=none):(t9 h H).get? b=some o:=
 PySem.W.hideAll_get _ e λhm=>by
  have q:(H b).isSome=true:=(j5.mp hm).2;rw[n]at q;simp at q
def KA(e:(t9 h H).get? b=some o):h.get? b=some o/\H b=none:=by
 have a:h.get? b=some o:=PySem.W.of_hideAll (UG h H) e;refine⟨a,?_⟩
 cases q:H b with
 |none=>rfl
 |some x=>
  have hm:b∈UG h H:=j5.mpr ⟨fO.mpr<|lt_size a,by simp[q]⟩
  have z:(t9 h H).get? b=none:=PySem.W.hideAll_none (UG h H) hm;rw[z]at e;cases e
noncomputable def KD(g h:Heap)(L:Addr):aO0:=(List.range h.objs.size).filterMap λa=>if a=L∨(g.get? a).isSome=true then none else(h.get? a).map λo=>(a,o)
noncomputable def rest(g h:Heap)(L d:Addr):aO0:=(KD g h L).filter λp=>decide<|p.1≠d
structure Mod(K:Frag)(mg:b_)(base:Heap):Prop where
 RM:K.In base
 glob:base.Ns mainGlobals mg
 blt:∃mb,base.Ns builtinsNs mb/\∀x:Str,x≠"__name__"->mb x=bootBuiltins x
 nolimit:base.NoLimit
structure Cx where
 prog:Program
 w:World
 K:Frag
 mg:Str->Option Value
 base:Heap
 A:Around
 N:List Str
 s₀:Shared
 H₀:Hp
 env:Env
 outer:List Env
 stack:List Env
 ex:List Addr
 fn:Str->Bool
 calm:Bool
 pn:List (Addr × Obj)
 xe:Value->Shared->Prop
noncomputable def Fs(l:List Env):l_:=l.filterMap (·.frame)
end L2
namespace L2
open PySem PySem.Spec PyProof.Rows
noncomputable abbrev Cx.fs(X:Cx):List Addr:=Fs X.outer
def UH(sc:Scope)(x:Str):Prop:=sc.names.lookup x=some .local∨sc.names.lookup x=some .cell∨sc.names.lookup x=some .free
def Loc(sc:Scope)(x:Str):Prop:=sc.names.lookup x=some .local∨sc.names.lookup x=some .cell
def Look(env:Env)(h:Heap)(m:b_)(x:Str)(u:Value):Prop:=
 (env.kindOf x=some .local/\m x=some u)∨((env.kindOf x=some .cell∨env.kindOf x=some .free)/\∃c,env.cells.lookup x=some c/\h.IsCell c (some u))
structure Cx.Ok(X:Cx):Prop where
 mod:Mod X.K X.mg X.base
 kind:X.env.scope.kind=.function
 glob:X.env.globals=mainGlobals
 blt:X.env.builtins=builtinsNs
 above:X.s₀.heap.objs.size<=X.env.locals
 inj:∀x y c,X.env.cells.lookup x=some c->X.env.cells.lookup y=some c->x=y
 has:∀x,(X.env.kindOf x=some .cell∨X.env.kindOf x=some .free)->∃c,X.env.cells.lookup x=some c
 UD:∀x c,X.fn x=true->X.env.cells.lookup x=some c->X.s₀.heap.objs.size<=c
 hd:X.calm=true->X.A.handled=none
 frames:X.A.frames=some X.stack
 UT:X.stack=X.outer∨(X.stack=X.env::X.outer/\X.env.frame=some X.env.locals)
 US:∀b∈X.ex,b≠X.env.locals/\∀x c,X.env.cells.lookup x=some c->c≠b
 bs:∀b o,X.base.get? b=some o->X.s₀.heap.get? b=some o/\X.H₀ b=none
 Nx:X.base.objs.size<=X.s₀.heap.objs.size
 Fc:∀b o,X.base.get? b=some o->b∉X.ex
 Ko:∀b∈X.ex,b∉X.fs
 nR:X.s₀.heap.FunFrames X.base X.outer
 Rt:∀b∈X.fs,X.H₀ b=none
structure Inv(X:Cx)(w_:aO0)(σ:List (Option V))(H:Hp)(s:Shared):Prop where
 ok:X.Ok
 os:s.os=X.s₀.os
 bare:AllBare s.gens
 base:Un X.fs X.ex X.H₀ H X.s₀.heap s.heap
 loc:∃m,s.heap.Ns X.env.locals m/\∀(i:Nat) (x:Str) (v:V),X.N[i]?=some x->σ[i]?=some (some v)->UH X.env.scope x->∃u,RelV v u/\Look X.env s.heap m x u
 cell:∀x c,X.env.cells.lookup x=some c->∃v,s.heap.IsCell c v
 free:H X.env.locals=none
 km:∀x c,X.env.cells.lookup x=some c->H c=none
 pin:∀p∈X.pn++w_,s.heap.get? p.1=some p.2/\H p.1=none/\p.1≠X.env.locals/\p.1∉X.fs/\∀v,p.2.data≠.cell v
 bq:jS X.prog X.w H s.heap
 len:σ.length=X.N.length
variable{X:Cx}
def Cx.Ok.UY(ok:X.Ok){b:Addr}{o:Obj}(e:X.base.get? b=some o):b∉X.fs:=λhb=>by
 have:=(ok.nR.mem hb).1
 rw[e]at this;cases this
variable{w_:aO0}{σ:List (Option V)}{H:Hp}{s:Shared}
theorem Inv.bs(I:Inv X w_ σ H s):∀b o,X.base.get? b=some o->s.heap.get? b=some o/\H b=none:=λb o e=>
 ⟨I.base.keep b o (I.ok.bs b o e).1 (I.ok.bs b o e).2 (I.ok.UY e)<|I.ok.Fc b o e,I.base.free b o (I.ok.bs b o e).1 (I.ok.bs b o e).2<|I.ok.Fc b o e⟩
def Inv.bk(I:Inv X w_ σ H s):∀b o,X.base.get? b=some o->s.heap.get? b=some o:=λb o e=>(I.bs b o e).1
theorem Inv.mod(I:Inv X w_ σ H s):Mod X.K X.mg X.base:=I.ok.mod
def Inv.wz(I:Inv X w_ σ H s):X.K.In s.heap:=I.ok.mod.RM.keeps I.bk
theorem Inv.lt(I:Inv X w_ σ H s):X.env.locals<s.heap.objs.size:=let ⟨_,hn,_⟩:=I.loc;hn.lt
def Inv.sz(I:Inv X w_ σ H s):X.s₀.heap.objs.size<=s.heap.objs.size:=gr I.ok.above<|Nat.le_of_lt I.lt
def Inv.UZ(I:Inv X w_ σ H s){a:Addr}(h:s.heap.objs.size<=a):a∉X.fs:=λhb=>by
 obtain⟨_,o,b,_⟩:=I.ok.nR.mem hb;exact absurd (g4 (lt_size b)<|gr I.sz h)<|Df _
def Inv.OV(I:Inv X w_ σ H s):∀x c,X.env.cells.lookup x=some c->c≠X.env.locals:=λx c e z=>by
 obtain⟨v,o,f,d⟩:=I.cell x c e;obtain⟨m,⟨h,i,g,a,b,_⟩,_⟩:=I.loc;rw[z,a]at f;cases f;rw[b]at d;cases d
theorem Inv.nR(I:Inv X w_ σ H s):s.heap.FunFrames X.base X.outer:=by
 have all:∀(l:List Env),(∀b∈Fs l,b∈X.fs)->X.s₀.heap.FunFrames X.base l->s.heap.FunFrames X.base l:=by
  intro l
  induction l with
  |nil=>intro _ _;trivial
  |cons f r j=>
   intro d m;obtain⟨hk,⟨L,o,a,hn,i,h⟩,g⟩:=m;have c:L∈X.fs:=d L (by unfold Fs;rw[FB,a];exact fA)
   obtain⟨n,e⟩:=I.base.slot L o i (I.ok.Rt L c) c λz=>I.ok.Ko L z c;exact⟨hk,⟨L,_,a,hn,e,h⟩,j (λb hb=>d b (by unfold Fs;rw[FB,a];exact fz _ hb)) g⟩
 exact all X.outer (λ_ hb=>hb) I.ok.nR
theorem Inv.stack(I:Inv X w_ σ H s):s.heap.FunFrames X.base X.stack:=by
 rcases I.ok.UT with e|⟨e,a⟩
 ·rw[e];exact I.nR
 ·rw[e];obtain⟨m,hn,_⟩:=I.loc;refine .cons (by rw[I.ok.kind];decide) a hn ?_ I.nR
  exact Heap.get?_none_of_le<|gr I.ok.Nx I.ok.above
def Inv.yW(I:Inv X w_ σ H s):∀b∈Fs X.stack,b∈X.env.locals::X.fs:=λb hb=>by
 rcases I.ok.UT with e|⟨e,a⟩
 ·rw[e]at hb;exact fz _ hb
 ·rw[e]at hb;unfold Fs at hb;rw[FB,a]at hb;exact hb
def Inv.BH(I:Inv X w_ σ H s):∀b∈Fs X.stack,H b=none:=λb hb=>by
 rcases gg.mp (I.yW b hb)with e|hb
 ·rw[e];exact I.free
 ·obtain⟨_,o,a,_⟩:=I.ok.nR.mem hb;exact I.base.free b o a (I.ok.Rt b hb) λz=>I.ok.Ko b z hb
variable{H':Hp}{h':Heap}{g':Array GenState}{t':Nat}{d':Drawn}{ch:l_}
def Inv.step(I:Inv X w_ σ H s)
  (hch:∀b∈ch,(b∈X.ex∨X.s₀.heap.objs.size<=b)/\b≠X.env.locals/\(∀x c,X.env.cells.lookup x=some c->c≠b)/\∀p∈X.pn++w_,p.1≠b)
  (keep:∀b o,b≠X.env.locals->b∉X.fs->b∉ch->s.heap.get? b=some o->H b=none->h'.get? b=some o)
  (slot:∀b o,b≠X.env.locals->b∈X.fs->b∉ch->s.heap.get? b=some o->H b=none->∃sl,h'.get? b=some {o with slots:=sl}) (free:∀b o,b∉ch->s.heap.get? b=some o->H b=none->H' b=none)
  (there:∀b o,b∉ch->s.heap.get? b=some o->∃o',h'.get? b=some o')
  (yt:∀b xs,H b=some (.tup xs)->H' b=some (.tup xs)) (vT:∀b o u,H b=some (.kZ o u)->H' b=some (.kZ o u)) (yu:∀b ps,H b=some (.Rr ps)->∃more,H' b=some (.Rr<|ps++more))
  (ns:∀m,s.heap.Ns X.env.locals m->h'.Ns X.env.locals m) (bq:jS X.prog X.w H' h') (hg:AllBare g'):
  Inv X w_ σ H' {s with heap:=h',gens:=g',drawn:=d',toks:=t'}:=by
 have t:∀b o,X.s₀.heap.get? b=some o->b≠X.env.locals:=λb o e=>j9<|g4 (lt_size e) I.ok.above;have g:∀b o,X.s₀.heap.get? b=some o->b∉X.ex->b∉ch:=λb o e hx hb=>by
  rcases(hch b hb).1 with z|z
  ·exact hx z
  ·exact absurd (g4 (lt_size e) z)<|Df _
 have a:∀x c,X.env.cells.lookup x=some c->∀v,s.heap.IsCell c v->h'.IsCell c v:=λx c e v ⟨o,j,y⟩=>by
  have f:c∉ch:=λz=>(hch c z).2.2.1 x c e rfl
  by_cases hc:c∈X.fs
  ·obtain⟨sl,q⟩:=slot c o (I.OV x c e) hc f j<|I.km x c e;exact⟨_,q,y⟩
  ·exact⟨o,keep c o (I.OV x c e) hc f j<|I.km x c e,y⟩
 refine⟨I.ok,I.os,hg,⟨λb o e n hb hx=>?_,λb o e n hb hx=>?_,λb o e n hx=>?_,λb o e hx=>?_,λb xs e=>yt b xs<|I.base.yt b xs e,λb o xs e=>vT b o xs<|I.base.vT b o xs e,λb ps e=>?_⟩,?_,λx c e=>?_,?_,λx c e=>?_,λp B=>?_,bq,I.len⟩
 ·exact keep b o (t b o e) hb (g b o e hx) (I.base.keep b o e n hb hx)<|I.base.free b o e n hx
 ·obtain⟨sl,h⟩:=I.base.slot b o e n hb hx;obtain⟨A,e2⟩:=slot b _ (t b o e) hb (g b o e hx) h<|I.base.free b o e n hx;exact⟨A,e2⟩
 ·obtain⟨o',h⟩:=I.base.there b o e hx;exact free b o' (g b o e hx) h<|I.base.free b o e n hx
 ·obtain⟨o',h⟩:=I.base.there b o e hx;exact there b o' (g b o e hx) h
 ·obtain⟨G,h⟩:=I.base.yu b ps e;obtain⟨E,e2⟩:=yu b _ h;exact⟨G++E,by rw[e2,Array.append_assoc]⟩
 ·obtain⟨m,hn,F⟩:=I.loc;refine⟨m,ns m hn,λi x v h e2 D=>?_⟩;obtain⟨u,r,l⟩:=F i x v h e2 D;refine⟨u,r,?_⟩
  rcases l with l|⟨k,c,e,z⟩
  ·exact .inl l
  ·exact .inr ⟨k,c,e,a x c e _ z⟩
 ·obtain⟨v,z⟩:=I.cell x c e;exact⟨v,a x c e v z⟩
 ·obtain⟨m,⟨o,_,_,j,_⟩,_⟩:=I.loc;exact free _ o (λz=>(hch _ z).2.1 rfl) j I.free
 ·obtain⟨v,o,j,y⟩:=I.cell x c e;exact free c o (λz=>(hch c z).2.2.1 x c e rfl) j<|I.km x c e
 ·obtain⟨e,n,ne,C,d⟩:=I.pin p B;have f:p.1∉ch:=λz=>(hch p.1 z).2.2.2 p B rfl;exact⟨keep p.1 p.2 ne C f e n,free p.1 p.2 f e n,ne,C,d⟩
def Inv.un(I:Inv X w_ σ H s)(u:Un X.fs [] H H' s.heap h')(bq:jS X.prog X.w H' h'):Inv X w_ σ H' {s with heap:=h',toks:=t'}:=by
 obtain⟨m,⟨o,j,i,f,r⟩,_⟩:=id I.loc;obtain⟨p,h⟩:=u.any f I.free (by simp)
 exact I.step (g':=s.gens) (d':=s.drawn) (ch:=[]) (λ_ z=>nomatch z) (λb o _ hb _ e n=>u.keep b o e n hb (by simp)) (λb o _ hb _ e n=>u.slot b o e n hb (by simp)) (λb o _ e n=>u.free b o e n (by simp)) (λb o _ e=>u.there b o e (by simp)) u.yt u.vT u.yu (λq hm=>by
  obtain⟨l,c,d,a,g⟩:=hm;rw[f]at a;cases a
  exact⟨_,c,d,h,g⟩) bq I.bare
def Inv.call(I:Inv X w_ σ H s)(u:Un (Fs X.stack) ch H H' s.heap h')(bq:jS X.prog X.w H' h')(hg:AllBare g')
  (hch:∀b∈ch,(b∈X.ex∨X.s₀.heap.objs.size<=b)/\b≠X.env.locals/\(∀x c,X.env.cells.lookup x=some c->c≠b)/\∀p∈X.pn++w_,p.1≠b):
  Inv X w_ σ H' {s with heap:=h',gens:=g',drawn:=d',toks:=t'}:=by
 obtain⟨m,⟨o,l,j,h,r⟩,_⟩:=id I.loc;obtain⟨t,g⟩:=u.any h I.free λz=>(hch _ z).2.1 rfl;exact I.step (ch:=ch) hch (λb o g hb hc e n=>u.keep b o e n (λz=>(gg.mp<|I.yW b z).elim g hb) hc) (λb o _ _ hc e n=>u.any e n hc) (λb o hc e n=>u.free b o e n hc) (λb o hc e=>u.there b o e hc) u.yt u.vT u.yu (λv hm=>by
  obtain⟨q,d,f,a,i⟩:=hm;rw[h]at a;cases a
  exact⟨_,d,f,g,i⟩) bq hg
variable{it:Addr}
def Inv.turned(I:Inv X w_ σ H s)(k:∀b o,b≠it->s.heap.get? b=some o->h'.get? b=some o)(hn:H it=none)(hL:it≠X.env.locals)
  (h1:it∈X.ex∨X.s₀.heap.objs.size<=it) (h2:∀x c,X.env.cells.lookup x=some c->c≠it) (h3:∀p∈X.pn++w_,p.1≠it):Inv X w_ σ H {s with heap:=h',toks:=t'}:=by
 have a:∀b u,H b=some u->b≠it:=λb u e z=>by rw[z,hn]at e;cases e
 refine I.step (g':=s.gens) (d':=s.drawn) (ch:=[it]) (λb hb=>?_) (λb o _ _ hc e _=>k b o (λz=>hc (by simp[z])) e) (λb o _ _ hc e _=>⟨o.slots,k b o (λz=>hc (by simp[z])) e⟩) (λ_ _ _ _ n=>n)
  (λb o hc e=>⟨o,k b o (λz=>hc (by simp[z])) e⟩) (λ_ _ e=>e) (λ_ _ _ e=>e) (λb h e=>⟨#[],by rw[e];simp⟩) (λm hm=>?_) (λb u e=>?_) I.bare
 ·have e:b=it:=by simpa using hb
  subst e;exact⟨h1,hL,h2,h3⟩
 ·obtain⟨o,f,d,g,r⟩:=hm;exact⟨o,f,d,k _ o (Ne.symm hL) g,r⟩
 ·refine(I.bq b u e).yV (λc v hc q=>k c v ?_ q) (λ_ q=>q) λ_ _ q=>q
  rcases hc with z|z
  ·rw[z];exact a b u e
  ·exact a c _ z
def Inv.tok(I:Inv X w_ σ H s)(t:Nat):Inv X w_ σ H {s with toks:=t}:=I.un (h':=s.heap) (t':=t) Un.refl I.bq
theorem Inv.kept{t':Nat}(I:Inv X w_ σ H s)(k:∀b u,s.heap.get? b=some u->h'.get? b=some u):Inv X w_ σ H {s with heap:=h',toks:=t'}:=I.un (Un.kept k)<|I.bq.kept k
theorem Inv.laid{a:Addr}{o:HO}{t':Nat}(I:Inv X w_ σ H s)(k:∀b u,s.heap.get? b=some u->h'.get? b=some u)(hp:s.heap.objs.size<=a)(new:bG X.prog X.w (upd H a o) h' a o):
  Inv X w_ σ (upd H a o) {s with heap:=h',toks:=t'}:=I.un (Un.laid k hp<|I.bq.fresh hp)<|I.bq.laid k hp new
theorem Inv.write{x e:Addr}{o:HO}{t':Nat}(I:Inv X w_ σ H s)(mu:RO (H x))(he:e=x∨H e=some (.own x))(k:∀b u,b≠e->s.heap.get? b=some u->h'.get? b=some u)(heo:∃u,h'.get? e=some u)
  (new:bG X.prog X.w (upd H x o) h' x o):Inv X w_ σ (upd H x o) {s with heap:=h',toks:=t'}:=I.un (Un.write mu he k heo)<|I.bq.write mu he k heo new
def Inv.BI{pins':aO0}(I:Inv X w_ σ H s)(h:∀p∈pins',s.heap.get? p.1=some p.2/\H p.1=none/\p.1≠X.env.locals/\p.1∉X.fs/\∀v,p.2.data≠.cell v):Inv X pins' σ H s:=
 ⟨I.ok,I.os,I.bare,I.base,I.loc,I.cell,I.free,I.km,λp a=>(j6.mp a).elim (λz=>I.pin p<|Wc _ z)<|h p,I.bq,I.len⟩
variable{x:Str}{N:f_}{i:Nat}
def wA(hN:N.Nodup){j:Nat}(a:N[i]?=some x)(b:N[j]?=some x):i=j:=by
 obtain⟨h1,c⟩:=ls.mp a;obtain⟨d,e2⟩:=ls.mp b;exact(getElem_inj hN).mp (c.trans e2.symm)
variable{u:Value}{M:Model}{A:Around}{E:c_}{v:V}{Q:Unit->Shared->Prop}
def rY(I:Inv X w_ σ H s)(hN:X.N.Nodup)(hi:X.N[i]?=some x)(hx:Loc X.env.scope x)(r:RelV v u)
  (h:∀s',Inv X w_ (σ.set i<|some v) H s'->(∃a,SameBut a s.heap s'.heap/\(a=X.env.locals∨X.env.cells.lookup x=some a))->Q () s') (hf:X.fn x=true∨X.env.scope.names.lookup x=some .local:=by first|exact .inl rfl|exact .inr rfl|assumption):wpAny M A (storeName X.env x u) Q E s:=by
 obtain⟨m,hn,hl⟩:=id I.loc;have J:(X.env.scope.kind==.class||(X.env.scope.kind==.module&&X.env.locals != X.env.globals))=false:=by rw[I.ok.kind];rfl
 have D:i<σ.length:=by rw[I.len];exact(ls.mp hi).1
 have OV:=I.OV;have g:∀ {a:Addr} {C:Heap},(∃o,s.heap.get? a=some o/\H a=none)->SameBut a s.heap C->jS X.prog X.w H C:=λ{a C} ha f b ob e=>by
  obtain⟨_,_,t⟩:=ha;refine(I.bq b ob e).yV (λc P hc q=>(f.2 c ?_).trans q) (λ_ q=>q) λ_ _ q=>q;rintro rfl
  rcases hc with rfl|hc
  ·rw[t]at e;cases e
  ·rw[t]at hc;cases hc
 rcases hx with hk|hk
 ·refine wpAny_storeName_local hk hn (λC Z f=>?_) J;obtain⟨oL,_,_,U,_⟩:=id hn;refine h _ ⟨I.ok,I.os,I.bare,⟨λb o e n hb hx=>?_,λb o e n hb hx=>?_,I.base.free,λb o e hx=>?_,I.base.yt,I.base.vT,I.base.yu⟩,⟨_,Z,λj y T l e2 e3=>?_⟩,λy c e=>?_,I.free,I.km,λp S=>?_,g ⟨oL,U,I.free⟩ f,by simpa using I.len⟩ ⟨_,f,.inl rfl⟩
  ·exact(f.2 b<|j9<|g4 (lt_size e) I.ok.above).trans (I.base.keep b o e n hb hx)
  ·obtain⟨Y,l⟩:=I.base.slot b o e n hb hx;exact⟨Y,(f.2 b<|j9<|g4 (lt_size e) I.ok.above).trans l⟩
  ·obtain⟨W,l⟩:=I.base.there b o e hx;exact⟨W,(f.2 b<|j9<|g4 (lt_size e) I.ok.above).trans l⟩
  ·by_cases hj:j=i
   ·subst hj;rw[hi]at l;cases l
    rw[List.getElem?_set_self D]at e2
    cases e2
    exact⟨u,r,.inl ⟨hk,by simp⟩⟩
   ·rw[List.getElem?_set_ne (Ne.symm hj)]at e2;obtain⟨u',R,q⟩:=hl j y T l e2 e3;refine⟨u',R,?_⟩
    rcases q with ⟨k,e⟩|⟨k,c,e,z⟩
    ·refine .inl ⟨k,?_⟩
     have:y≠x:=λe=>hj<|wA hN l<|e ▸ hi
     simp[this,e]
    ·exact .inr ⟨k,c,e,z.sameBut f<|OV y c e⟩
  ·obtain⟨P,z⟩:=I.cell y c e;exact⟨P,z.sameBut f<|OV y c e⟩
  ·obtain⟨e,n,ne,nf,d⟩:=I.pin p S;exact⟨(f.2 p.1 ne).trans e,n,ne,nf,d⟩
 ·have B:X.fn x=true:=by
   rcases hf with z|z
   ·exact z
   ·rw[z]at hk;cases hk
  obtain⟨c,hc⟩:=I.ok.has x<|.inl hk;obtain⟨P,z⟩:=I.cell x c hc;refine wpAny_storeName_cell I.ok.kind hk hc z λC L f=>?_;obtain⟨oc,F,G⟩:=id z;refine h {s with heap:=C} ⟨I.ok,I.os,I.bare,⟨λb o e n hb hx=>?_,λb o e n hb hx=>?_,I.base.free,λb o e hx=>?_,I.base.yt,I.base.vT,I.base.yu⟩,⟨m,hn.sameBut f<|Ne.symm<|OV x c hc,λj y T l e2 e3=>?_⟩,λy O e=>?_,I.free,I.km,λp S=>?_,g ⟨oc,F,I.km x c hc⟩ f,by simpa using I.len⟩ ⟨c,f,.inr hc⟩
  ·exact(f.2 b<|j9<|g4 (lt_size e)<|I.ok.UD x c B hc).trans (I.base.keep b o e n hb hx)
  ·obtain⟨Y,l⟩:=I.base.slot b o e n hb hx;exact⟨Y,(f.2 b<|j9<|g4 (lt_size e)<|I.ok.UD x c B hc).trans l⟩
  ·obtain⟨W,l⟩:=I.base.there b o e hx;exact⟨W,(f.2 b<|j9<|g4 (lt_size e)<|I.ok.UD x c B hc).trans l⟩
  ·by_cases hj:j=i
   ·subst hj;rw[hi]at l;cases l
    rw[List.getElem?_set_self D]at e2
    cases e2
    exact⟨u,r,.inr ⟨.inl hk,c,hc,L⟩⟩
   ·rw[List.getElem?_set_ne (Ne.symm hj)]at e2;obtain⟨u',R,q⟩:=hl j y T l e2 e3;refine⟨u',R,?_⟩
    rcases q with q|⟨k,O,e,z'⟩
    ·exact .inl q
    ·refine .inr ⟨k,O,e,z'.sameBut f ?_⟩;rintro rfl;exact hj<|wA hN l<|I.ok.inj _ _ _ e hc ▸ hi
  ·by_cases K:O=c
   ·subst K;exact⟨_,L⟩
   ·obtain⟨w2,z2⟩:=I.cell y O e;exact⟨w2,z2.sameBut f K⟩
  ·obtain⟨e,n,ne,nf,d⟩:=I.pin p S;refine⟨(f.2 p.1 ?_).trans e,n,ne,nf,d⟩;intro q;rw[q,F]at e;have q':oc=p.2:=o6 e;exact d P (by rw[<-q'];exact G)
def wB(I:Inv X w_ σ H s)(hN:X.N.Nodup)(hi:X.N[i]?=some x)(hx:Loc X.env.scope x)(r:RelV v u)
  (h:∀s',Inv X w_ (σ.set i<|some v) H s'->Q () s') (hf:X.fn x=true∨X.env.scope.names.lookup x=some .local:=by first|exact .inl rfl|exact .inr rfl|assumption):wpAny M A (storeName X.env x u) Q E s:=
 rY I hN hi hx r (λs' a _=>h s' a) hf
variable{s':Shared}
def Inv.RP(I:Inv X w_ σ H s)(ho:s'.os=s.os)(u:Un (Fs X.stack) ch H H' s.heap s'.heap)(bq:jS X.prog X.w H' s'.heap)(hg:AllBare s'.gens)
  (hch:∀b∈ch,(b∈X.ex∨X.s₀.heap.objs.size<=b)/\b≠X.env.locals/\(∀x c,X.env.cells.lookup x=some c->c≠b)/\∀p∈X.pn++w_,p.1≠b):Inv X w_ σ H' s':=by
 obtain⟨d,g',d',t',a⟩:=s';have e:a=s.os:=ho;subst e;exact I.call (g':=g') (t':=t') (d':=d') u bq hg hch
abbrev XK:=Value->Option Addr->Hp->Prop
abbrev St:=List<|Option V
abbrev o_:=Nat->St->Hp->Prop
abbrev p_:=St->Hp->Prop
abbrev q_:=V->Hp->Prop
abbrev r_:=Hp->Prop
abbrev s_:=List (Key × V)
abbrev t_:=List (Str × V)
abbrev u_:=List V
abbrev v_:=Option V
abbrev VK:=V->Hp->Prop
abbrev TE:=St->Hp->VK->Prop
abbrev TT:=St->Hp->(Bool->Hp->Prop)->Prop
abbrev TA:=St->Hp->(List V->Hp->Prop)->Prop
structure Ends where
 nx:St->Hp->Prop
 rt:VK
 bk:p_:=λ_ _=>False
 ct:p_:=λ_ _=>False
abbrev TS:=Ends->St->Hp->Prop
def EP(X:Cx)(w_:aO0)(σ:St)(Q:VK)(u:Value)(s':Shared):Prop:=∃v H',Inv X w_ σ H' s'/\RelV v u/\Q v H'
def TP(X:Cx)(w_:aO0)(σ:St)(Q:Bool->r_)(b:Bool)(s':Shared):Prop:=∃H',Inv X w_ σ H' s'/\Q b H'
def AP(X:Cx)(w_:aO0)(σ:St)(Q:u_->r_)(us:f')(s':Shared):Prop:=∃vs H',Inv X w_ σ H' s'/\Vals vs us/\Q vs H'
def SP(X:Cx)(w_:aO0)(D:Ends)(f:Flow)(s':Shared):Prop:=
 match f with
 |.next=>∃σ' H',Inv X w_ σ' H' s'/\D.nx σ' H'
 |.brk=>∃σ' H',Inv X w_ σ' H' s'/\D.bk σ' H'
 |.cont=>∃σ' H',Inv X w_ σ' H' s'/\D.ct σ' H'
 |.ret u=>∃v σ' H',Inv X w_ σ' H' s'/\RelV v u/\D.rt v H'
def PE(X:Cx)(e:Expr)(t:TE):Prop:=
 ∀(w_:aO0) (s:Shared) (σ:St) (H:Hp) (Q:VK),Inv X w_ σ H s->t σ H Q->wpAny (model X.prog X.w) X.A (eval e X.env) (EP X w_ σ Q) X.xe s
def PT(X:Cx)(e:Expr)(t:TT):Prop:=
 ∀(w_:aO0) (s:Shared) (σ:St) (H:Hp) (Q:Bool->r_),Inv X w_ σ H s->t σ H Q->wpAny (model X.prog X.w) X.A (isTrue e X.env<|eval e X.env) (TP X w_ σ Q) X.xe s
def PW(X:Cx)(e:Expr)(t:TT):Prop:=
 ∀(whole:Sem Value) (w_:aO0) (s:Shared) (σ:St) (H:Hp) (Q:Bool->r_),Inv X w_ σ H s->t σ H Q->wpAny (model X.prog X.w) X.A (isTrue e X.env whole) (TP X w_ σ Q) X.xe s
variable{e:Expr}
def PW.pt{t:TT}(h:PW X e t):PT X e t:=h _
def PA(X:Cx)(es:i_)(t:TA):Prop:=
 ∀(pos:Pos) (w_:aO0) (s:Shared) (σ:St) (H:Hp) (Q:u_->r_),Inv X w_ σ H s->t σ H Q->wpAny (model X.prog X.w) X.A (spliced<|backTo pos<|starEach es X.env) (AP X w_ σ Q) X.xe s
def PS(X:Cx)(st:Stmt)(t:TS):Prop:=
 ∀(w_:aO0) (s:Shared) (σ:St) (H:Hp) (D:Ends),Inv X w_ σ H s->t D σ H->wpAny (model X.prog X.w) X.A (exec st X.env) (SP X w_ D) X.xe s
def yQ(X:Cx)(st:n_)(t:TS):Prop:=
 ∀(w_:aO0) (s:Shared) (σ:St) (H:Hp) (D:Ends),Inv X w_ σ H s->t D σ H->wpAny (model X.prog X.w) X.A (execs st X.env) (SP X w_ D) X.xe s
variable{α:Type}
def bP{t:Sem α}{Q Q':α->Shared->Prop}(h:wpAny M A t Q E s)(hQ:∀a s,Q a s->Q' a s):wpAny M A t Q' E s:=Bz h hQ λ_ _ x=>x
def oR(i:Nat):TE:=λσ H Q=>∃v,σ[i]?=some (some v)/\Q v H
def tC(v:V):TE:=λ_ H Q=>Q v H
def OW{pos:Pos}(hN:X.N[i]?=some x)(hv:UH X.env.scope x)(hd:(x==("__debug__":Str))=false:=by decide)(hcd:(x==("__classdict__":Str))=false:=by decide):PE X (.Name x pos) (oR i):=by
 intro d s σ H Q I h;obtain⟨v,e,h⟩:=h;obtain⟨m,hn,f⟩:=I.loc;obtain⟨u,r,l⟩:=f i x v hN e hv;have b:EP X d σ Q u s:=⟨v,H,I,r,h⟩
 rcases l with ⟨hk,hm⟩|⟨hk,c,hc,a⟩
 ·exact wpAny_Name (wpAny_loadName_local I.ok.kind hk hn hm b) hd
 ·rcases hk with hk|hk
  ·exact wpAny_Name (wpAny_loadName_cell I.ok.kind hk hc a b) hd
  ·exact wpAny_Name (wpAny_loadName_free I.ok.kind hk hc a b hcd) hd
def lX{i j pos}:PE X (.Constant (.int i) j pos) (tC<|.int i):=λ_ _ _ H _ I h=>wpAny_Constant_int ⟨.int i,H,I.tok _,⟨_,rfl⟩,h⟩
def RQ{b j pos}:PE X (.Constant (.bool b) j pos) (tC<|.bl b):=λ_ _ _ H _ I h=>Constant_bool ⟨.bl b,H,I,rfl,h⟩
def OX{j pos}:PE X (.Constant .none j pos) (tC .bE):=λ_ _ _ H _ I h=>Constant_none ⟨.bE,H,I,rfl,h⟩
def FG{x j pos}:PE X (.Constant (.str x) j pos) (tC<|.str x):=λ_ _ _ H _ I h=>Calls.Constant_str ⟨.str x,H,I.tok _,⟨_,rfl⟩,h⟩
def Gl(X:Cx)(x:Str):Prop:=X.env.kindOf x=some .globalImplicit
variable{Q:c_}
def uc{σ:St}{pos:Pos}(I:Inv X w_ σ H s)(hg:Gl X x)(hm:X.mg x=some u)(h:Q u s)
  (hd:(x==("__debug__":Str))=false:=by decide):wpAny (model X.prog X.w) X.A (eval (.Name x pos) X.env) Q E s:=
 Calls.Name_function_global I.ok.kind hg (Calls.loadGlobal_global (by rw[I.ok.glob];exact I.mod.glob.keeps I.bk) hm h) hd
def lY{σ:St}{pos:Pos}(I:Inv X w_ σ H s)(hg:Gl X x)(hm:X.mg x=none)(hv:bootBuiltins x=some u)(h:Q u s)
  (hn:x≠"__name__":=by decide) (hd:(x==("__debug__":Str))=false:=by decide):wpAny (model X.prog X.w) X.A (eval (.Name x pos) X.env) Q E s:=by
 obtain⟨mb,h1,a⟩:=I.mod.blt;exact Calls.Name_function_global I.ok.kind hg (Calls.loadGlobal_builtin (by rw[I.ok.glob];exact I.mod.glob.keeps I.bk) hm (by rw[I.ok.blt];exact h1.keeps I.bk) ((a x hn).trans hv) h) hd
def ud{pos:Pos}(hg:Gl X x)(hm:X.mg x=some u)(r:RelV v u)(hd:(x==("__debug__":Str))=false:=by decide):PE X (.Name x pos) (tC v):=
 λ_ _ _ H _ I h=>uc I hg hm ⟨v,H,I,r,h⟩ hd
def PC(X:Cx)(op:CmpOp)(a b:Expr)(t:TE):Prop:=
 ∀(w_:aO0) (s:Shared) (σ:St) (H:Hp) (Q:VK),Inv X w_ σ H s->t σ H Q->
  wpAny (model X.prog X.w) X.A (eval a X.env) (λv c=>wpAny (model X.prog X.w) X.A (eval b X.env) (λu d=>wpAny (model X.prog X.w) X.A (compareOp op v u) (EP X w_ σ Q) X.xe d) X.xe c) X.xe s
def tB(t:TE):TT:=λσ H Q=>t σ H λx H1=>∃c,x=.bl c/\Q c H1
variable{a b:Expr}{pos:Pos}{t:TE}{op:CmpOp}
def OY(h:PC X op a b t)(h1:behindInMarks op b=false:=by first|exact nobehind _ a_ a_|rfl):PE X (.Compare a [op] [b] pos) t:=λc s σ H Q I d=>wpAny_Compare1 (h c s σ H Q I d) h1
def FH(h:PC X op a b t)(h1:behindInMarks op b=false:=by first|exact nobehind _ a_ a_|rfl):PT X (.Compare a [op] [b] pos) (tB t):=by
 intro e s σ H Q I j;refine wpAny_isTrue_Compare1 (bP (h e s σ H _ I j) λv o h1=>bP h1 λu n f=>bP f λc m ⟨x,H1,l,g,i⟩=>?_) h1;obtain⟨d,rfl,q⟩:=i
 cases g
 exact y0 ⟨H1,l,q⟩
def OZ(h:PE X e t)(he:∀whole,isTrue e X.env whole=(do let v<-whole;standAt e.pos;holding [v] (truthy v)):=by intro _;rfl):PT X e (tB t):=by
 intro a s σ H Q I b;refine isTrue_plain (bP (h a s σ H _ I b) λv i ⟨x,H1,g,c,f⟩=>?_)<|he _;obtain⟨d,rfl,q⟩:=f
 cases c
 exact y0 ⟨H1,g,q⟩
def O0(t u:TT):TT:=λσ H Q=>t σ H λc H1=>if c=true then u σ H1 Q else Q false H1
def U0(t u:TT):TT:=λσ H Q=>t σ H λc H1=>if c=true then Q true H1 else u σ H1 Q
def O1(t:TT):TT:=λσ H Q=>t σ H λc H1=>Q (!c) H1
variable{tA:TT}
def KG(ha:PT X a tA):PW X (.BoolOp .And [a] pos) tA:=by
 intro d b s σ H Q I h;refine isTrue_and<|bP (ha b s σ H Q I h) λc f e=>?_
 cases c with
 |true=>exact isTrue_and_nil e
 |false=>exact e
def O2(ha:PT X a tA):PW X (.BoolOp .Or [a] pos) tA:=by
 intro d b s σ H Q I h;refine isTrue_or<|bP (ha b s σ H Q I h) λc f e=>?_
 cases c with
 |false=>exact isTrue_or_nil e
 |true=>exact e
variable{tB':TT}{rest:i_}
def O3(ha:PT X a tA)(hb:PW X (.BoolOp .And (b::rest) pos) tB'):PW X (.BoolOp .And (a::b::rest) pos) (O0 tA tB'):=by
 intro g d s σ H Q I h;refine isTrue_and<|bP (ha d s σ H _ I h) λc i ⟨H1,f,e⟩=>?_
 cases c with
 |true=>exact hb g d i σ H1 Q f e
 |false=>exact⟨H1,f,e⟩
def RR(ha:PT X a tA)(hb:PW X (.BoolOp .Or (b::rest) pos) tB'):PW X (.BoolOp .Or (a::b::rest) pos) (U0 tA tB'):=by
 intro g d s σ H Q I h;refine isTrue_or<|bP (ha d s σ H _ I h) λc i ⟨H1,f,e⟩=>?_
 cases c with
 |true=>exact⟨H1,f,e⟩
 |false=>exact hb g d i σ H1 Q f e
def O4(ha:PT X a tA):PT X (.UnaryOp .Not a pos) (O1 tA):=by
 intro b s σ H Q I h;exact isTrue_not<|ha b s σ H (λc H1=>Q (!c) H1) I h
def FI(ta tb:TE):TE:=λσ H Q=>ta σ H λx H1=>∃c,x=.bl c/\if c=true then tb σ H1 Q else Q (.bl false) H1
def O5(ta tb:TE):TE:=λσ H Q=>ta σ H λx H1=>∃c,x=.bl c/\if c=true then Q (.bl true) H1 else tb σ H1 Q
def O6{op}(h:PE X a t):PE X (.BoolOp op [a] pos) t:=λb s σ H Q I c=>BoolOp_one<|h b s σ H Q I c
variable{ta tb:TE}
def O7(ha:PE X a ta)(hb:PE X (.BoolOp .And (b::rest) pos) tb):PE X (.BoolOp .And (a::b::rest) pos) (FI ta tb):=by
 intro d s σ H Q I h;refine BoolOp_and<|bP (ha d s σ H _ I h) λv i ⟨x,H1,f,g,e⟩=>?_;obtain⟨c,rfl,e⟩:=e
 cases g
 refine y0 ?_
 cases c with
 |true=>exact hb d i σ H1 Q f e
 |false=>exact⟨.bl false,H1,f,rfl,e⟩
def RS(ha:PE X a ta)(hb:PE X (.BoolOp .Or (b::rest) pos) tb):PE X (.BoolOp .Or (a::b::rest) pos) (O5 ta tb):=by
 intro d s σ H Q I h;refine BoolOp_or<|bP (ha d s σ H _ I h) λv i ⟨x,H1,f,g,e⟩=>?_;obtain⟨c,rfl,e⟩:=e
 cases g
 refine y0 ?_
 cases c with
 |false=>exact hb d i σ H1 Q f e
 |true=>exact⟨.bl true,H1,f,rfl,e⟩
def U1(t:TT)(ta tb:TE):TE:=λσ H Q=>t σ H λc H1=>if c=true then ta σ H1 Q else tb σ H1 Q
variable{c:Expr}
def FJ(hc:PT X c tA)(ha:PE X a ta)(hb:PE X b tb):PE X (.IfExp c a b pos) (U1 tA ta tb):=by
 intro e s σ H Q I h;refine wpAny_IfExp<|bP (hc e s σ H _ I h) λd i ⟨H1,g,f⟩=>?_
 cases d with
 |true=>exact ha e i σ H1 Q g f
 |false=>exact hb e i σ H1 Q g f
def aw(K:Frag)(H:Hp)(a:Addr)(xs:u_):Prop:=
 Rd H a (.lst xs)∨
  ∃(o:Obj) (its:k_) (n:Nat),K.lookup a=some o/\o.cls=.type "list"/\o.dict=none/\o.data=.seq its n/\its.size<=sizeLine/\Vals xs its.toList
def aL(K:Frag)(H:Hp)(a:Addr)(xs:u_):Prop:=
 Rd H a (.tup xs)∨
  ∃(o:Obj) (its:k_) (n:Nat),K.lookup a=some o/\o.cls=.type "tuple"/\o.data=.seq its n/\its.size<=sizeLine/\Vals xs its.toList
noncomputable def U2:Value->Option V
 |.none=>some .bE
 |.bool b=>some<|.bl b
 |.int i _=>some<|.int i
 |.str x _=>some<|.str x
 |.bytes b _=>some<|.FE b
 |.float b _=>some<|.UU b
 |.ref a=>some<|.ref a
 |.type n=>some<|.ty n
 |_=>none
def RelV.abs{x:V}(r:RelV x u):U2 u=some x:=by
 cases x with
 |bE=>cases r;rfl
 |bl _=>cases r;rfl
 |int _=>obtain⟨t,rfl⟩:=r;rfl
 |str _=>obtain⟨t,rfl⟩:=r;rfl
 |FE _=>obtain⟨t,rfl⟩:=r;rfl
 |UU _=>obtain⟨t,rfl⟩:=r;rfl
 |ref _=>cases r;rfl
 |ty _=>cases r;rfl
def RelV.inj{x y:V}{u:Value}(r:RelV x u)(q:RelV y u):x=y:=o6<|r.abs.symm.trans q.abs
theorem Vals.inj:∀ {xs ys:u_} {us:f'},Vals xs us->Vals ys us->xs=ys
 |_,_,_,.nil,.nil=>rfl
 |_,_,_,.cons r t,.cons a b=>by rw[r.inj a,Vals.inj t b]
variable{a:Addr}{xs:u_}{K:Frag}
def aw.of(h:H a=some (.lst xs)):aw K H a xs:=.inl<|.inl h
def aL.of(h:H a=some (.tup xs)):aL K H a xs:=.inl<|.inl h
variable{σ:St}
def Inv.list(I:Inv X w_ σ H s)(h:aw X.K H a xs):∃its:f',Vals xs its/\PlainL s.heap a its.toArray/\xs.length<=sizeLine:=by
 rcases h with h|⟨o,its,n,hk,hc,b,c,hz,r⟩
 ·obtain⟨z,its,n,r,e⟩:=h.ok I.bq;exact⟨its,r,⟨_,n,e,rfl,rfl,rfl⟩,z⟩
 ·refine⟨its.toList,r,⟨o,n,I.wz a o hk,hc,b,by simpa using c⟩,?_⟩
  have e:=r.length;simp only[Array.length_toList]at e
  omega
def Inv.tuple(I:Inv X w_ σ H s)(h:aL X.K H a xs):∃its:f',Vals xs its/\IsTup s.heap a its.toArray/\xs.length<=sizeLine:=by
 rcases h with h|⟨o,its,n,hk,hc,b,hz,r⟩
 ·obtain⟨z,its,r,p⟩:=h.ok I.bq;exact⟨its,r,p,z⟩
 ·refine⟨its.toList,r,⟨o,I.wz a o hk,hc,n,by simpa using b⟩,?_⟩
  have e:=r.length;simp only[Array.length_toList]at e
  omega
variable{ys:u_}
def Inv.wC(I:Inv X w_ σ H s)(h:aw X.K H a xs)(h':aw X.K H a ys):xs=ys:=by
 obtain⟨c,r,⟨o,n,e,_,_,d⟩,_⟩:=I.list h;obtain⟨b,i,⟨m,l,g,_,_,f⟩,_⟩:=I.list h';rw[e]at g;cases g
 rw[d]at f
 injection f with j _
 have:c=b:=by simpa using BA Array.toList j
 subst this;exact r.inj i
def Inv.rZ(I:Inv X w_ σ H s)(h:aL X.K H a xs)(h':aL X.K H a ys):xs=ys:=by
 obtain⟨c,r,⟨o,e,_,n,d⟩,_⟩:=I.tuple h;obtain⟨b,i,⟨m,g,_,l,f⟩,_⟩:=I.tuple h';rw[e]at g;cases g
 rw[d]at f
 injection f with j _
 have:c=b:=by simpa using BA Array.toList j
 subst this;exact r.inj i
noncomputable abbrev Cx.qG(X:Cx)(E:Value->Shared->Prop):Cx:={X with xe:=E}
noncomputable abbrev Cx.ND(X:Cx):Cx:=X.qG λ_ _=>False
theorem Cx.Ok.qG{X:Cx}(ok:X.Ok)(E:c_):(X.qG E).Ok:=
 ⟨ok.mod,ok.kind,ok.glob,ok.blt,ok.above,ok.inj,ok.has,ok.UD,ok.hd,ok.frames,ok.UT,ok.US,ok.bs,ok.Nx,ok.Fc,ok.Ko,ok.nR,ok.Rt⟩
def Cx.Ok.iW(ok:(X.qG E).Ok):X.Ok:=
 ⟨ok.mod,ok.kind,ok.glob,ok.blt,ok.above,ok.inj,ok.has,ok.UD,ok.hd,ok.frames,ok.UT,ok.US,ok.bs,ok.Nx,ok.Fc,ok.Ko,ok.nR,ok.Rt⟩
theorem Inv.qG(I:Inv X w_ σ H s)(E:c_):Inv (X.qG E) w_ σ H s:=⟨I.ok.qG E,I.os,I.bare,I.base,I.loc,I.cell,I.free,I.km,I.pin,I.bq,I.len⟩
theorem Inv.iW(I:Inv (X.qG E) w_ σ H s):Inv X w_ σ H s:=⟨I.ok.iW,I.os,I.bare,I.base,I.loc,I.cell,I.free,I.km,I.pin,I.bq,I.len⟩
theorem SP.iW{D:Ends}{f:Flow}{s':Shared}(h:SP (X.qG E) w_ D f s'):SP X w_ D f s':=by
 cases f with
 |next=>obtain⟨a,b,I,q⟩:=h;exact⟨a,b,I.iW,q⟩
 |brk=>obtain⟨a,b,I,q⟩:=h;exact⟨a,b,I.iW,q⟩
 |cont=>obtain⟨a,b,I,q⟩:=h;exact⟨a,b,I.iW,q⟩
 |ret u=>obtain⟨v,a,b,I,r,q⟩:=h;exact⟨v,a,b,I.iW,r,q⟩
theorem yQ.ND{st:n_}{t:TS}(h:yQ X.ND st t):yQ X st t:=λa s σ H D I b=>
 Bz (h a s σ H D (I.qG _) b) (λ_ _ q=>q.iW) λ_ _ z=>False.elim z
def wD:TS:=λD σ H=>D.nx σ H
def oS(t u:TS):TS:=λD σ H=>t {D with nx:=u D} σ H
def KH:yQ X [] wD:=λ_ _ σ H _ I h=>wpAny_execs_nil ⟨σ,H,I,h⟩
variable{st:Stmt}{rest:n_}{t u:TS}
def FK(h1:PS X st t)(h2:yQ X rest u):yQ X (st::rest) (oS t u):=by
 intro a s σ H D I h;refine wpAny_execs_cons<|bP (h1 a s σ H {D with nx:=u D} I h) λf e q=>?_
 cases f with
 |next=>
  obtain⟨b,d,c,q⟩:=q;exact h2 a e b d D c q
 |ret v=>exact q
 |brk=>exact q
 |cont=>exact q
def KI(h1:PS X st t):yQ X [st] t:=by
 intro a s σ H D I h;refine wpAny_execs_cons<|bP (h1 a s σ H D I h) λf b q=>?_
 cases f with
 |next=>exact wpAny_execs_nil q
 |ret v=>exact q
 |brk=>exact q
 |cont=>exact q
def Inv.quiet{σ:St}(I:Inv X w_ σ H s):interactive X.env=false:=by simp[interactive,I.ok.kind]
def FN(te:TE):TS:=λD σ H=>te σ H λ_ H1=>D.nx σ H1
variable{te:TE}
def KJ(he:PE X e te)(hs:swapsWith e none pos.line X.env=pure false:=by rfl):PS X (.Expr e pos) (FN te):=by
 intro a s σ H D I h;exact wpAny_Expr_any (bP (he a s σ H _ I h) λv f ⟨x,H1,c,d,b⟩=>⟨σ,H1,c,b⟩) I.quiet hs
def O8(te:TE):TS:=λD σ H=>te σ H D.rt
def O9(he:PE X e te):PS X (.Return (some e) pos) (O8 te):=by
 intro a s σ H D I h;exact wpAny_Return_some<|bP (he a s σ H _ I h) λv f ⟨x,H1,d,b,c⟩=>⟨x,σ,H1,d,b,c⟩
def Pa(c:TT)(t u:TS):TS:=λD σ H=>c σ H λb H1=>if b=true then t D σ H1 else u D σ H1
variable{tc:TT}
def RT{a b:n_}(hc:PT X c tc)(ha:yQ X a t)(hb:yQ X b u):PS X (.If c a b pos) (Pa tc t u):=by
 intro e s σ H D I h;refine wpAny_If<|bP (hc e s σ H _ I h) λd i ⟨H1,g,f⟩=>?_
 cases d with
 |true=>exact ha e i σ H1 D g f
 |false=>exact hb e i σ H1 D g f
abbrev TG:=V->St->Hp->(St->Hp->Prop)->Prop
abbrev BJ:=List V->St->Hp->(St->Hp->Prop)->Prop
def PG(X:Cx)(x_:Expr)(t:TG):Prop:=
 ∀(w_:aO0) (s:Shared) (σ:St) (H:Hp) (v:V) (u:Value) (Q:p_),Inv X w_ σ H s->RelV v u->t v σ H Q->
  wpAny (model X.prog X.w) X.A (assign x_ X.env u) (λ_ a=>∃σ' H',Inv X w_ σ' H' a/\Q σ' H') X.xe s
def RA(X:Cx)(ts:i_)(t:BJ):Prop:=
 ∀(w_:aO0) (s:Shared) (σ:St) (H:Hp) (vs:u_) (us:f') (Q:p_),Inv X w_ σ H s->Vals vs us->t vs σ H Q->
  wpAny (model X.prog X.w) X.A (assignInOrder ((assignEach ts X.env).map (·.2)) us) (λ_ a=>∃σ' H',Inv X w_ σ' H' a/\Q σ' H') X.xe s
abbrev FO:=V->V->V->Hp->(Hp->Prop)->Prop
def Pb(X:Cx)(t:FO):Prop:=
 ∀(w_:aO0) (s:Shared) (σ:St) (H:Hp) (o i v:V) (ov iv u:Value) (Q:r_),Inv X w_ σ H s->RelV o ov->RelV i iv->RelV v u->t o i v H Q->
  wpAny (model X.prog X.w) X.A (setItem ov iv u) (λ_ a=>∃H',Inv X w_ σ H' a/\Q H') X.xe s
def bF(i:Nat):TG:=λv σ H Q=>Q (σ.set i<|some v) H
def KL(hN:X.N.Nodup)(hi:X.N[i]?=some x)(hx:Loc X.env.scope x)(hf:X.fn x=true∨X.env.scope.names.lookup x=some .local:=by first|exact .inl rfl|exact .inr rfl|assumption):PG X (.Name x pos) (bF i):=by
 intro a s σ H v u Q I r h;exact wpAny_assign_Name<|wB I hN hi hx r (λc b=>⟨_,H,b,h⟩) hf
def qH:BJ:=λa σ H Q=>a=[]/\Q σ H
def dX(t:TG)(u:BJ):BJ:=λc σ H Q=>∃v r,c=v::r/\t v σ H λa b=>u r a b Q
def KN:RA X [] qH:=by
 intro a s σ H c b Q I r h;obtain⟨e,h⟩:=h;subst e
 cases r
 exact assignInOrder_nil ⟨σ,H,I,h⟩
variable{es:i_}
def FP{t:TG}{u:BJ}(h1:PG X e t)(h2:RA X es u)
  (hs:(assignEach (e::es) X.env).map (·.2)=assign e X.env::(assignEach es X.env).map (·.2):=by rfl):RA X (e::es) (dX t u):=by
 intro a s σ H l j Q I r h;obtain⟨v,m,f,h⟩:=h;subst f
 cases r with
 |cons r c=>
  rw[hs];refine assignInOrder_cons<|bP (h1 a s σ H _ _ _ I r h) λ_ i ⟨g,H1,d,b⟩=>?_;exact h2 a i g H1 _ _ Q d c b
def qI(K:Frag)(n:Nat)(t:BJ):TG:=λv σ H Q=>∃a xs,v=.ref a/\aL K H a xs/\xs.length=n/\t xs σ H Q
def Pc{k:Nat}{t:BJ}{n:Nat}(hc:X.calm=true)(h:RA X es t)
  (hn:(assignEach es X.env).length=n:=by rfl) (hst:(assignEach es X.env).findIdx? (·.1)=none:=by rfl):PG X (.Tuple es k pos) (qI X.K n t):=by
 intro c s σ H v u Q I r d;obtain⟨a,g,j,hq,p,d⟩:=d;subst j
 cases r
 obtain⟨l,f,m,hz⟩:=I.tuple hq;refine assign_Tuple_tuple (I.ok.hd hc) m (by simp[hn,<-p,f.length]) hst λi hx=>?_
 have q:Inv X c σ H {s with heap:=i}:=I.kept (t':=s.toks) λb o e=>hx b o (j9<|lt_size e) e;exact h c _ σ H g _ Q q (by simpa using f) d
def Pd(to ti:TE)(t:FO):TG:=λv σ H Q=>to σ H λo H1=>ti σ H1 λi a=>t o i v a λb=>Q σ b
variable{ti:TE}
def Pe{o i:Expr}{to:TE}{t:FO}(ho:PE X o to)(hi:PE X i ti)(hs:Pb X t)
  (ha:∀v,assign (.Subscript o i pos) X.env v=(do
   let ov<-holding [v] (eval o X.env)
   let iv<-holding [v,ov] (eval i X.env)
   standAt pos
   holding [v,ov,iv] (setItem ov iv v)
   release [v,ov,iv] []):=by intro _;rfl):PG X (.Subscript o i pos) (Pd to ti t):=by
 intro a s σ H v u Q I r h;rw[ha];refine cv<|GT<|bP (ho a s σ H _ I h) λov q ⟨x,H1,l,d,e⟩=>?_;refine cv<|GT<|bP (hi a q σ H1 _ l e) λiv p ⟨y,f,j,g,b⟩=>?_;refine cv<|wpAny_standAt<|cv<|GT<|bP (hs a p σ f x y v ov iv u _ j d g r b) λ_ w ⟨m,n,c⟩=>?_;exact wpAny_release ⟨σ,m,n,c⟩
def qJ(te:TE)(g:TG):TS:=λD σ H=>te σ H λx H1=>g x σ H1 D.nx
variable{tg:Expr}{g:TG}
def Pf(he:PE X e te)(hg:PG X tg g)(hs:swapsWithSole [tg] e pos.line X.env=pure false:=by rfl)(hw:swappedStores [tg] e X.env=pure none:=by rfl)
  (h1:(assignEach [tg] X.env).map (·.2)=[assign tg X.env]:=by rfl):PS X (.Assign [tg] e pos) (qJ te g):=by
 intro a s σ H D I h;refine wpAny_Assign_stores (bP (he a s σ H _ I h) λv f ⟨x,H1,d,b,c⟩=>?_) hs hw;rw[h1];exact bP (hg a f σ H1 x v _ d b c) λ_ i q=>q
variable{pos':Pos}
def Pg(hN:X.N.Nodup)(hi:X.N[i]?=some x)(hx:Loc X.env.scope x)(he:PE X e te)(hs:swapsWith e (some<|.Name x pos') pos.line X.env=pure false:=by rfl)(hf:X.fn x=true∨X.env.scope.names.lookup x=some .local:=by first|exact .inl rfl|exact .inr rfl|assumption):
  PS X (.Assign [.Name x pos'] e pos) (qJ te<|bF i):=by
 intro a s σ H D I h;refine wpAny_Assign_Name (bP (he a s σ H _ I h) λv j ⟨y,H1,f,c,d⟩=>?_) hs;exact wB f hN hi hx c (λg b=>⟨_,H1,b,d⟩) hf
def ue(c:TT)(tb:TS):TS:=λD σ H=>∃W:o_,(∃m,W m σ H)/\∀m σ H,W m σ H->
 c σ H λb H1=>if b=true then ∃N:p_,(∀σ' H',N σ' H'->∃m',m' < m/\W m' σ' H')/\tb {D with nx:=N,ct:=N,bk:=D.nx} σ H1 else D.nx σ H1
variable{tb:TS}{body:n_}
def FQ(hp:PassesOwn (model X.prog X.w) X.A X.env X.xe)(hc:PT X c tc)(hb:yQ X body tb):PS X (.While c body [] pos) (ue tc tb):=by
 intro a s σ H D I h;obtain⟨W,⟨x,y⟩,e⟩:=h;refine wpAny_While<|codeAny_whileLoop (λn z=>∃σ' H',Inv X a σ' H' z/\W n σ' H') ?_ x ⟨σ,H,I,y⟩;rintro n B ⟨j,H1,E,C⟩;refine Wb hp<|bP (hc a B j H1 _ E<|e n j H1 C) λb F ⟨r,t,i⟩=>?_
 cases b with
 |true=>
  obtain⟨N,u,i⟩:=i;rw[if_pos rfl];refine Wb hp<|bP (hb a F j r _ t i) λf G l=>?_
  cases f with
  |next=>
   obtain⟨d,g,o,p⟩:=l;obtain⟨m,hm,q⟩:=u d g p;exact⟨m,hm,d,g,o,q⟩
  |cont=>
   obtain⟨d,g,o,p⟩:=l;obtain⟨m,hm,q⟩:=u d g p;exact⟨m,hm,d,g,o,q⟩
  |brk=>exact l
  |ret v=>exact l
 |false=>
  rw[if_neg gp];exact wpAny_execs_nil ⟨j,r,t,i⟩
structure It where
 go:Nat->Hp->Prop
 Dd:Nat->Hp->V->Hp->Prop
 stop:Nat->Hp->Prop
def k7(X:Cx)(w_:aO0)(H:Hp)(b:Addr):Prop:=
 H b=none/\b≠X.env.locals/\b∉X.fs/\(b∈X.ex∨X.s₀.heap.objs.size<=b)/\(∀x c,X.env.cells.lookup x=some c->c≠b)/\∀p∈X.pn++w_,p.1≠b
def Inv.yX{σ:St}{b:Addr}(I:Inv X w_ σ H s)(hb:s.heap.objs.size<=b)(hn:H' b=none):k7 X w_ H' b:=by
 refine⟨hn,Wx<|g4 I.lt hb,I.UZ hb,.inr<|gr I.sz hb,λx c e z=>?_,λp a z=>?_⟩
 ·obtain⟨v,q⟩:=I.cell x c e;exact absurd (g4 q.lt (by rw[z];exact hb))<|Df _
 ·exact absurd (g4 (lt_size (I.pin p a).1) (by rw[z];exact hb))<|Df _
structure Turn(P:Program)(w:World)(K:Frag)(tg:Expr)(J:It)(fp:l_)(it:Addr)(tn:Nat->Heap->Prop):Prop where
 mem:it∈fp
 obj:∀i h,tn i h->∀b∈fp,∃o,h.get? b=some o/\∀v,o.data≠.cell v
 keep:∀i h h',tn i h->(∀b∈fp,∀o,h.get? b=some o->h'.get? b=some o)->tn i h'
 item:∀(X:Cx),X.prog=P->X.w=w->X.K=K->X.calm=true->∀(i:Nat) (w_:aO0) (s:Shared) (σ:St) (H:Hp) (E:c_),Inv X w_ σ H s->(∀b∈fp,k7 X w_ H b)->tn i s.heap->J.go i H->
  wpAny (model P w) X.A (pyNext<|.ref it) (λr s1=>∃u,r=some u/\
   wpAny (model P w) X.A (letOwnedTupleGo tg (.ref it) u) (λ_ s2=>∃x H',Inv X w_ σ H' s2/\RelV x u/\J.Dd i H x H'/\tn (i+1) s2.heap/\∀b∈fp,H' b=none) E s1) E s
 done:∀(X:Cx),X.prog=P->X.w=w->X.K=K->X.calm=true->∀(i:Nat) (w_:aO0) (s:Shared) (σ:St) (H:Hp) (E:c_),Inv X w_ σ H s->(∀b∈fp,k7 X w_ H b)->tn i s.heap->J.stop i H->
  wpAny (model P w) X.A (pyNext<|.ref it) (λr s1=>r=none/\Inv X w_ σ H s1) E s
 self:∀(A:Around) (i:Nat) (s:Shared) (Q:c_) (E:c_),tn i s.heap->Q (.ref it) s->wpAny (model P w) A (pyIter<|.ref it) Q E s
abbrev TI:=St->Hp->(It->Hp->Prop)->Prop
def U3(X:Cx)(w_:aO0)(σ:St)(tg:Expr)(R:It->r_)(itv:Value)(s2:Shared):Prop:=
 ∃(it:Addr) (fp:l_) (tn:Nat->Heap->Prop) (J:It) (H':Hp),itv=.ref it/\Inv X w_ σ H' s2/\Turn X.prog X.w X.K tg J fp it tn/\tn 0 s2.heap/\(∀b∈fp,k7 X w_ H' b)/\R J H'
def PI(X:Cx)(tg y_:Expr)(wi:TI):Prop:=
 ∀(w_:aO0) (s:Shared) (σ:St) (H:Hp) (R:It->r_),Inv X w_ σ H s->wi σ H R->
  wpAny (model X.prog X.w) X.A (eval y_ X.env) (λv a=>wpAny (model X.prog X.w) X.A (pyIter v) (U3 X w_ σ tg R) X.xe a) X.xe s
def FR{u:Value}{o:Obj}{n:String}{vs:k_}{Q:Unit->Shared->Prop}(ho:s.heap.get? it=some o)(hc:o.cls=.type n)(hd:o.data=.fields vs)
  (hn:["enumerate","zip","dict_itemiterator","dict_reverseitemiterator","odict_iterator","itertools.zip_longest","itertools.pairwise"].contains n=false) (hQ:Q () s):wpAny M A (letOwnedTupleGo tg (.ref it) u) Q E s:=by
 unfold letOwnedTupleGo
 cases tg<;>first
  |exact ek hQ
  |(cases u<;>first
    |exact ek hQ
    |(refine cv<|wpAny_load ho ?_;rw[hc,hd];show wpAny M A (if(["enumerate","zip","dict_itemiterator","dict_reverseitemiterator","odict_iterator","itertools.zip_longest","itertools.pairwise"].contains n&&vs[0]? == some (rawInt _))=true then _ else _) Q E s;rw[if_neg (by intro h;rw[hn,qs]at h;cases h)];exact ek hQ))
noncomputable def Ft(K:Frag)(a:Addr):It:=
 ⟨λi H=>∃xs x,aw K H a xs/\xs[i]?=some x,λi H x b=>b=H/\∀xs,aw K H a xs->xs[i]?=some x,λi H=>∃xs,aw K H a xs/\xs.length<=i⟩
noncomputable def Fu(K:Frag)(a:Addr):It:=
 ⟨λi H=>∃xs x,aL K H a xs/\xs[i]?=some x,λi H x b=>b=H/\∀xs,aL K H a xs->xs[i]?=some x,λi H=>∃xs,aL K H a xs/\xs.length<=i⟩
noncomputable def wF(lo:Int)(n:Nat):It:=⟨λi _=>i<n,λi H x a=>a=H/\x=.int (lo+i),λi _=>n<=i⟩
theorem Dj{P:Program}{w:World}(a it:Addr):Turn P w K tg (Ft K a) [it] it (λi h=>h.IsListIter it a i) where
 mem:=by simp
 obj:=λi h f b hb=>by
  have e:b=it:=by simpa using hb
  subst e;obtain⟨o,e,c,d⟩:=f;exact⟨o,e,λv z=>by rw[d]at z;cases z⟩
 keep:=λi h m f k=>f.at λo e=>k it (by simp) o e
 item:=by
  intro X t B F hc i g s σ H E I l f y;subst t B F;obtain⟨M,x,hq,hx⟩:=y;obtain⟨D,n,p,hz⟩:=I.list hq;obtain⟨u,hu,N⟩:=n.get hx;obtain⟨A,C,O,r,q,G⟩:=l it (by simp)
  refine wpAny_pyNext_list_item f p.isList (x:=u) (by simpa using hu) λm j J=>?_
  have Q:Inv X g σ H {s with heap:=m}:=I.turned (t':=s.toks) (λb o hb e=>(J.2 b hb).trans e) A C r q G;obtain⟨o,e,c,d⟩:=id j;exact⟨u,rfl,FR (s:={s with heap:=m}) e c d a_ ⟨x,H,Q,N,⟨rfl,λR hy=>by rw[I.wC hy hq];exact hx⟩,j,λb hb=>(l b hb).1⟩⟩
 done:=by
  intro X t B F hc i g s σ H E I l f y;subst t B F;obtain⟨M,hq,hx⟩:=y;obtain⟨D,n,p,hz⟩:=I.list hq;obtain⟨A,C,O,r,q,G⟩:=l it (by simp)
  have S:=n.length;exact wpAny_pyNext_list_end (I.ok.hd hc) f p.isList (by simp;omega) λm L=>⟨rfl,I.turned (t':=s.toks) (λb o hb e=>L b o hb e) A C r q G⟩
 self:=λ_ _ _ _ _ f h=>wpAny_pyIter_listiter f h
theorem yY{P:Program}{w:World}(a it:Addr):Turn P w K tg (Fu K a) [it] it (λi h=>h.IsTupleIter it a i) where
 mem:=by simp
 obj:=λi h f b hb=>by
  have e:b=it:=by simpa using hb
  subst e;obtain⟨o,e,c,d⟩:=f;exact⟨o,e,λv z=>by rw[d]at z;cases z⟩
 keep:=λi h n f k=>f.at λo e=>k it (by simp) o e
 item:=by
  intro X y C F hc i g s σ H E I m f A;subst y C F;obtain⟨M,x,hq,hx⟩:=A;obtain⟨j,q,p,hz⟩:=I.tuple hq;obtain⟨u,hu,N⟩:=q.get hx;obtain⟨B,D,O,t,r,G⟩:=m it (by simp)
  refine wpAny_pyNext_tuple_item f (show s.heap.IsTuple a j.toArray from p) (x:=u) (by simpa using hu) λn l J=>?_
  have Q:Inv X g σ H {s with heap:=n}:=I.turned (t':=s.toks) (λb o hb e=>(J.2 b hb).trans e) B D t r G;obtain⟨o,e,c,d⟩:=id l;exact⟨u,rfl,FR (s:={s with heap:=n}) e c d a_ ⟨x,H,Q,N,⟨rfl,λR hy=>by rw[I.rZ hy hq];exact hx⟩,l,λb hb=>(m b hb).1⟩⟩
 done:=by
  intro X y C F hc i g s σ H E I m f A;subst y C F;obtain⟨M,hq,hx⟩:=A;obtain⟨j,q,p,hz⟩:=I.tuple hq;obtain⟨B,D,O,t,r,G⟩:=m it (by simp)
  have S:=q.length;exact wpAny_pyNext_tuple_end (I.ok.hd hc) f (show s.heap.IsTuple a j.toArray from p) (by simp;omega) λn L=>⟨rfl,I.turned (t':=s.toks) (λb o hb e=>L b o hb e) B D t r G⟩
 self:=λ_ _ _ _ _ f h=>wpAny_pyIter_tupleiter f h
theorem yZ{P:Program}{w:World}(it:Addr)(lo:Int)(n:Nat):Turn P w K tg (wF lo n) [it] it (λi h=>IsRangeIter h it (lo+(i:Nat)*1) ((n:Int)-(i:Nat)) 1) where
 mem:=by simp
 obj:=λi h a b hb=>by
  have e:b=it:=by simpa using hb
  subst e;exact⟨_,a,λv z=>by
   have G:Data.fields _=Data.cell v:=z
   cases G⟩
 keep:=λi h g a k=>k it (by simp) _ a
 item:=by
  intro X m r x hc i c s σ H E I f a p;subst m r x;obtain⟨q,u,F,l,j,y⟩:=f it (by simp)
  have W:=Walks.range (prog:=X.prog) (w:=X.w) (I.ok.hd hc) it lo 1 n;refine W.item i s _ _ p a λv g A C d B=>?_;obtain⟨t,rfl⟩:=C;have J:Inv X c σ H {s with heap:=g,toks:=A}:=I.turned (λb o hb e=>B b o (by simpa using hb) e) q u l j y
  refine⟨_,rfl,FR (s:={s with heap:=g,toks:=A}) (n:="range_iterator") d rfl rfl a_ ⟨.int<|lo+i,H,J,⟨t,?_⟩,⟨rfl,rfl⟩,d,λb hb=>(f b hb).1⟩⟩
  rw[Int.mul_one]
 done:=by
  intro X m r x hc i c s σ H E I f a p;subst m r x;obtain⟨q,u,F,l,j,y⟩:=f it (by simp)
  exact wpAny_pyNext_range_end (I.ok.hd hc) a (by have:n<=i:=p;omega) λg D=>⟨rfl,I.turned (t':=s.toks) (λb o hb e=>D b o hb e) q u l j y⟩
 self:=λ_ _ _ _ _ a h=>wpAny_pyIter_rangeiter a h
def BK(K:Frag)(tl:TE):TI:=λσ H R=>tl σ H λx H1=>∃a,x=.ref a/\(∃xs,aw K H1 a xs)/\R (Ft K a) H1
def KO(K:Frag)(tl:TE):TI:=λσ H R=>tl σ H λx H1=>∃a,x=.ref a/\(∃xs,aL K H1 a xs)/\R (Fu K a) H1
variable{l:Expr}{tl:TE}
def KP(hl:PE X l tl):PI X tg l (BK X.K tl):=by
 intro c s σ H R I h;refine bP (hl c s σ H _ I h) λv d ⟨x,H1,f,g,i⟩=>?_;obtain⟨a,e,⟨n,hq⟩,q⟩:=i;subst e
 cases g
 obtain⟨j,m,p,hz⟩:=f.list hq;refine L1 p.isList ?_;refine⟨d.heap.objs.size,[d.heap.objs.size],_,_,H1,rfl,f.kept (t':=d.toks) λb o e=>ef _ e,Dj a _,⟨_,gz _ rfl,rfl,rfl⟩,λb hb=>?_,q⟩;have e:b=d.heap.objs.size:=by simpa using hb
 subst e;exact f.yX (dy _)<|f.bq.fresh<|dy _
def Ph(hl:PE X l tl):PI X tg l (KO X.K tl):=by
 intro d s σ H R I h;refine bP (hl d s σ H _ I h) λv c ⟨x,H1,f,i,j⟩=>?_;obtain⟨a,e,⟨n,hq⟩,q⟩:=j;subst e
 cases i
 obtain⟨g,m,p,hz⟩:=f.tuple hq;refine SZ (show c.heap.IsTuple a g.toArray from p) ?_
 refine⟨c.heap.objs.size,[c.heap.objs.size],_,_,H1,rfl,f.kept (t':=c.toks) λb o e=>ef _ e,yY a _,⟨_,gz _ rfl,rfl,rfl⟩,λb hb=>?_,q⟩;have e:b=c.heap.objs.size:=by simpa using hb
 subst e;exact f.yX (dy _)<|f.bq.fresh<|dy _
variable{lo:Int}
def wG{σ:St}{R:It->r_}{hi:Int}{t u v:Tok}{tk:Nat}(I:Inv X w_ σ H s)(h1:-(2 ^ 62)<=lo)(h2:lo<2 ^ 62)(h3:-(2 ^ 62)<=hi)(h4:hi<2 ^ 62)
  (q:R (wF lo (hi-lo).toNat) H):wpAny (model X.prog X.w) X.A (pyIter<|.ref s.heap.objs.size) (U3 X w_ σ tg R) E {s with heap:=s.heap.push {cls:=.type "range",data:=.fields #[.int lo t,.int hi u,.int 1 v]},toks:=tk}:=by
 refine wpAny_pyIter_range (IsRange.new ..) (small_one h1 h2 h3 h4) ?_;have a:Inv X w_ σ H {s with heap:=s.heap.push {cls:=.type "range",data:=.fields #[.int lo t,.int hi u,.int 1 v]},toks:=tk}:=I.kept λb o e=>ef _ e;refine⟨(s.heap.push {cls:=.type "range",data:=.fields #[.int lo t,.int hi u,.int 1 v]}).objs.size,[(s.heap.push {cls:=.type "range",data:=.fields #[.int lo t,.int hi u,.int 1 v]}).objs.size],_,_,H,rfl,
  a.kept (t':=tk) λb o e=>ef _ e,yZ _ lo (hi-lo).toNat,?_,λb hb=>?_,q⟩
 ·have c:lo+((0:Nat):Int)*1=lo:=by simp
  have e2:(((hi-lo).toNat:Nat):Int)-((0:Nat):Int)=Builtin.Range.rangeSize lo hi 1:=by rw[rangeSize_one];split<;>omega
  show IsRangeIter _ _ (lo+((0:Nat):Int)*1) ((((hi-lo).toNat:Nat):Int)-((0:Nat):Int)) 1;rw[c,e2];exact gz _ rfl
 ·have e:b=(s.heap.push {cls:=.type "range",data:=.fields #[.int lo t,.int hi u,.int 1 v]}).objs.size:=by simpa using hb
  subst e;exact a.yX (dy _)<|a.bq.fresh<|dy _
def BL(ta:TA):TI:=λσ H R=>ta σ H λa H1=>∃j:Int,a=[.int j]/\-(2 ^ 62)<=j/\j<2 ^ 62/\R (wF 0 j.toNat) H1
def BM(ta:TA):TI:=λσ H R=>ta σ H λa H1=>∃i j:Int,a=[.int i,.int j]/\(-(2 ^ 62)<=i/\i<2 ^ 62/\-(2 ^ 62)<=j/\j<2 ^ 62)/\R (wF i (j-i).toNat) H1
variable{a:Expr}{ta:TA}{p:Pos}
def Dl{pos:Pos}(hg:Gl X "range")(hm:X.mg "range"=none)(ha:PA X [a] ta)(hs:starEach [a] X.env=[(false,eval a X.env)]:=by rfl):PI X tg (.Call (.Name "range" p) [a] [] pos) (BL ta):=by
 intro b s σ H R I h;refine Call_<|lY I hg hm boot_range<|F1 (bP (ha pos b s σ H _ I h) λl n ⟨m,H1,i,f,c⟩=>?_) hs rfl;obtain⟨j,e,c,d,q⟩:=c;subst e
 cases f with
 |cons r g=>
  cases g
  obtain⟨t,rfl⟩:=r;exact call_range_1 (wG i (by omega) (by omega) c d (by simpa using q))
def Dm{pos:Pos}(hg:Gl X "range")(hm:X.mg "range"=none)(ha:PA X [a,b] ta)(hs:starEach [a,b] X.env=[(false,eval a X.env),(false,eval b X.env)]:=by rfl)(hs2:starEach [b] X.env=[(false,eval b X.env)]:=by rfl):
  PI X tg (.Call (.Name "range" p) [a,b] [] pos) (BM ta):=by
 intro c s σ H R I h;refine Call_ (lY I hg hm boot_range (F1 (bP (ha pos c s σ H _ I h) λw y ⟨x,H1,u,n,d⟩=>?_) (by rw[hs,hs2]) (by rw[hs2];rfl)))
 obtain⟨i,j,e,⟨d,l,m,o⟩,q⟩:=d;subst e
 cases n with
 |cons r f=>
  cases f with
  |cons g f=>
   cases f
   obtain⟨t,rfl⟩:=r;obtain⟨v,rfl⟩:=g;exact call_range_2<|wG u d l m o q
def Pj(wi:TI)(g:TG)(tb:TS):TS:=λD σ H=>wi σ H λJ H1=>∃W:Nat->o_,(∃m,W 0 m σ H1)/\∀i m σ H,W i m σ H->
 (J.stop i H/\D.nx σ H)∨(J.go i H/\∃N:p_,(∀σ' H',N σ' H'->∃m',m' < m/\W (i+1) m' σ' H')/\∀x H',J.Dd i H x H'->g x σ H' λb a=>tb {D with nx:=N,ct:=N,bk:=D.nx} b a)
noncomputable def oU(fp:l_)(h:Heap):aO0:=fp.filterMap λb=>(h.get? b).map λo=>(b,o)
variable{fp:l_}
def ia{h:Heap}{b:Addr}{o:Obj}(hb:b∈fp)(e:h.get? b=some o):(b,o)∈oU fp h:=List.mem_filterMap.mpr ⟨b,hb,by rw[e];rfl⟩
def Dn{h:Heap}{p:Addr × Obj}(hp:p∈oU fp h):p.1∈fp/\h.get? p.1=some p.2:=by
 obtain⟨b,hb,e⟩:=List.mem_filterMap.mp hp
 cases q:h.get? b with
 |none=>rw[q]at e;cases e
 |some o=>
  rw[q]at e;have a:(b,o)=p:=o6 e;subst a;exact⟨hb,q⟩
def Inv.pinned{σ:St}(I:Inv X w_ σ H s)(hf:∀b∈fp,k7 X w_ H b)(ho:∀b∈fp,∃o,s.heap.get? b=some o/\∀v,o.data≠.cell v):Inv X (w_++oU fp s.heap) σ H s:=
 I.BI λp c=>(j6.mp c).elim (λz=>I.pin p<|q7 _ z) λz=>by
  obtain⟨hb,e⟩:=Dn z;obtain⟨h,g,f,_⟩:=hf p.1 hb;obtain⟨o,a,d⟩:=ho p.1 hb;rw[e]at a;cases a
  exact⟨e,h,g,f,d⟩
def Inv.k8{pl:aO0}{σ:St}(I:Inv X (w_++pl) σ H s):Inv X w_ σ H s:=I.BI λp a=>I.pin p<|q7 _<|Wc _ a
variable{y_:Expr}
def Pk{wi:TI}{pos:Pos}(hp:PassesOwn (model X.prog X.w) X.A X.env X.xe)(hc:X.calm=true)(hi:PI X tg y_ wi)(hg:PG X tg g)(hb:yQ X body tb)
  (hs:∀x,foldedSetIterable y_ X.env x=pure x:=by intro _;rfl):PS X (.For tg y_ body [] pos) (Pj wi g tb):=by
 intro a s σ H D I h;refine wpAny_For (bP (hi a s σ H _ I h) λv s1 h1=>bP h1 λitv s2 h2=>?_) hs;obtain⟨it,B,U,J,H2,e,I2,T,P,f2,W,⟨m0,w0⟩,E⟩:=h2;subst e;have p:∀ {H':Hp},(∀b∈B,H' b=none)->∀b∈B,k7 X a H' b:=λhn b hb=>⟨hn b hb,(f2 b hb).2⟩;refine codeAny_forLoop_any (λn Y=>∃i σ' H',Inv X a σ' H' Y/\U i Y.heap/\(∀b∈B,H' b=none)/\W i n σ' H') ?_ m0 ⟨0,σ,H2,I2,P,λb hb=>(f2 b hb).1,w0⟩;rintro n s3 ⟨i,C,L,I3,z,F,w3⟩
 rcases E i n C L w3 with ⟨K,qn⟩|⟨go,N,hN,step⟩
 ·refine Wb hp<|bP (T.done X rfl rfl rfl hc i a s3 C L X.xe I3 (p F) z K) λr s4 ⟨R,I4⟩=>?_;subst R;exact wpAny_execs_nil ⟨C,L,I4,qn⟩
 ·refine Wb hp<|bP (T.item X rfl rfl rfl hc i a s3 C L X.xe I3 (p F) z go) λr s4 ⟨u,R,h4⟩=>?_;subst R;refine Wb hp<|bP h4 λ_ Z ⟨x,S,I5,r5,y5,y,Q⟩=>?_;have O:=I5.pinned (p Q)<|T.obj _ _ y;refine Wb hp<|bP (hg _ Z C S x u _ O r5<|step x S y5) λ_ s6 ⟨σ6,H6,I6,q6⟩=>?_;refine Wb hp<|bP (hb _ s6 σ6 H6 _ I6 q6) λf M t=>?_;have c:∀ {j:St} {l:Hp},Inv X (a++oU B Z.heap) j l M->N j l->∃m,m<n/\∃i σ' H',Inv X a σ' H' M/\U i M.heap/\(∀b∈B,H' b=none)/\W i m σ' H':=λ{j l} q G=>by
   obtain⟨m',hm,w7⟩:=hN j l G;refine⟨m',hm,i+1,j,l,q.k8,T.keep _ _ _ y λb hb o e=>(q.pin (b,o)<|q7 _<|q7 _<|ia hb e).1,λb hb=>?_,w7⟩;obtain⟨o,e,d⟩:=T.obj _ _ y b hb;exact(q.pin (b,o)<|q7 _<|q7 _<|ia hb e).2.1
  cases f with
  |next=>obtain⟨j,l,q,G⟩:=t;exact c q G
  |cont=>obtain⟨j,l,q,G⟩:=t;exact c q G
  |brk=>obtain⟨j,l,q,t⟩:=t;exact⟨j,l,q.k8,t⟩
  |ret v=>obtain⟨x7,j,l,q,r7,t⟩:=t;exact⟨x7,j,l,q.k8,r7,t⟩
variable{a:Addr}{D:Ends}
def oX{σ:St}(Pv:o_)(h0:Pv 0 σ H)(hl:∀i σ H,i<=xs.length->Pv i σ H->aw K H a xs)
  (hs:∀i x σ H,xs[i]?=some x->Pv i σ H->g x σ H λσ2 H2=>tb {D with nx:=Pv<|i+1,ct:=Pv<|i+1,bk:=D.nx} σ2 H2) (hd:∀σ H,Pv xs.length σ H->D.nx σ H):
  ∃W:Nat->o_,(∃m,W 0 m σ H)/\∀i m σ H,W i m σ H->
   ((Ft K a).stop i H/\D.nx σ H)∨((Ft K a).go i H/\∃N:p_,(∀σ' H',N σ' H'->∃m',m' < m/\W (i+1) m' σ' H')/\∀x H',(Ft K a).Dd i H x H'->g x σ H' λσ2 H2=>tb {D with nx:=N,ct:=N,bk:=D.nx} σ2 H2):=by
 refine⟨λi m σ H=>m=xs.length-i/\i<=xs.length/\Pv i σ H,⟨xs.length,by simp,zero_le _,h0⟩,?_⟩
 rintro i m σ H ⟨rfl,hi,p⟩;have q:=hl i σ H hi p
 by_cases b:i<xs.length
 ·refine .inr ⟨⟨xs,xs[i],q,by simp[b]⟩,Pv<|i+1,λσ' H' c=>⟨xs.length-(i+1),by omega,rfl,b,c⟩,λx H' y=>?_⟩
  obtain⟨e,y⟩:=y;subst e;exact hs i x σ _ (y xs q) p
 ·have e:i=xs.length:=by omega
  subst e;exact .inl ⟨⟨xs,q,dy _⟩,hd σ H p⟩
def BN{σ:St}(Pv:o_)(h0:Pv 0 σ H)(hl:∀i σ H,i<=xs.length->Pv i σ H->aL K H a xs)
  (hs:∀i x σ H,xs[i]?=some x->Pv i σ H->g x σ H λσ2 H2=>tb {D with nx:=Pv<|i+1,ct:=Pv<|i+1,bk:=D.nx} σ2 H2) (hd:∀σ H,Pv xs.length σ H->D.nx σ H):
  ∃W:Nat->o_,(∃m,W 0 m σ H)/\∀i m σ H,W i m σ H->
   ((Fu K a).stop i H/\D.nx σ H)∨((Fu K a).go i H/\∃N:p_,(∀σ' H',N σ' H'->∃m',m' < m/\W (i+1) m' σ' H')/\∀x H',(Fu K a).Dd i H x H'->g x σ H' λσ2 H2=>tb {D with nx:=N,ct:=N,bk:=D.nx} σ2 H2):=by
 refine⟨λi m σ H=>m=xs.length-i/\i<=xs.length/\Pv i σ H,⟨xs.length,by simp,zero_le _,h0⟩,?_⟩
 rintro i m σ H ⟨rfl,hi,p⟩;have q:=hl i σ H hi p
 by_cases b:i<xs.length
 ·refine .inr ⟨⟨xs,xs[i],q,by simp[b]⟩,Pv<|i+1,λσ' H' c=>⟨xs.length-(i+1),by omega,rfl,b,c⟩,λx H' y=>?_⟩
  obtain⟨e,y⟩:=y;subst e;exact hs i x σ _ (y xs q) p
 ·have e:i=xs.length:=by omega
  subst e;exact .inl ⟨⟨xs,q,dy _⟩,hd σ H p⟩
variable{n:Nat}
def r6{σ:St}(Pv:o_)(h0:Pv 0 σ H)
  (hs:∀i σ H,i<n->Pv i σ H->g (.int<|lo+i) σ H λσ2 H2=>tb {D with nx:=Pv<|i+1,ct:=Pv<|i+1,bk:=D.nx} σ2 H2) (hd:∀σ H,Pv n σ H->D.nx σ H):
  ∃W:Nat->o_,(∃m,W 0 m σ H)/\∀i m σ H,W i m σ H->
   ((wF lo n).stop i H/\D.nx σ H)∨((wF lo n).go i H/\∃N:p_,(∀σ' H',N σ' H'->∃m',m' < m/\W (i+1) m' σ' H')/\∀x H',(wF lo n).Dd i H x H'->g x σ H' λσ2 H2=>tb {D with nx:=N,ct:=N,bk:=D.nx} σ2 H2):=by
 refine⟨λi m σ H=>m=n-i/\i<=n/\Pv i σ H,⟨n,by simp,zero_le _,h0⟩,?_⟩
 rintro i m σ H ⟨rfl,hi,p⟩
 by_cases a:i<n
 ·refine .inr ⟨a,Pv<|i+1,λσ' H' b=>⟨n-(i+1),by omega,rfl,a,b⟩,λx H' y=>?_⟩
  obtain⟨e,y⟩:=y;subst e y;exact hs i σ _ a p
 ·have e:i=n:=by omega
  subst e;exact .inl ⟨dy _,hd σ H p⟩
abbrev R2:=V->V->Hp->VK->Prop
def eS(X:Cx)(f:Value->Value->Sem Value)(r:R2):Prop:=
 ∀(w_:aO0) (s:Shared) (σ:St) (H:Hp) (x y:V) (v u:Value) (Q:VK),Inv X w_ σ H s->RelV x v->RelV y u->r x y H Q->
  wpAny (model X.prog X.w) X.A (f v u) (EP X w_ σ Q) X.xe s
def UI(X:Cx)(f:Value->Sem Value)(r:V->Hp->VK->Prop):Prop:=
 ∀(w_:aO0) (s:Shared) (σ:St) (H:Hp) (x:V) (v:Value) (Q:VK),Inv X w_ σ H s->RelV x v->r x H Q->
  wpAny (model X.prog X.w) X.A (f v) (EP X w_ σ Q) X.xe s
def b6(X:Cx)(f:Value)(r:u_->Hp->VK->Prop):Prop:=
 ∀(w_:aO0) (s:Shared) (σ:St) (H:Hp) (xs:u_) (us:f') (Q:VK),Inv X w_ σ H s->Vals xs us->r xs H Q->
  wpAny (model X.prog X.w) X.A (call f us) (EP X w_ σ Q) X.xe s
def uf(r:R2)(ta tb:TE):TE:=λσ H Q=>ta σ H λx H1=>tb σ H1 λy a=>r x y a Q
def U4(r:V->Hp->VK->Prop)(ta:TE):TE:=λσ H Q=>ta σ H λx H1=>r x H1 Q
def rI(C:Int->Int->Prop)(g:Int->Int->V):R2:=λx y H Q=>∃i j,x=.int i/\y=.int j/\C i j/\Q (g i j) H
def Fv(g:Int->Int->V):R2:=λx y H Q=>∃i j,x=.int i/\y=.int j/\Q (g i j) H
def rU(g:Int->V):V->Hp->VK->Prop:=λx H Q=>∃i,x=.int i/\Q (g i) H
variable{a:Expr}{ta tb:TE}{f:Value->Value->Sem Value}
def Pl(ha:PE X a ta)(hb:PE X b tb){σ:St}{R:V->q_}(I:Inv X w_ σ H s)
  (h:ta σ H λx H1=>tb σ H1 λy H2=>R x y H2) 
  (hf:∀v u s2 x y H2,Inv X w_ σ H2 s2->RelV x v->RelV y u->R x y H2->wpAny (model X.prog X.w) X.A (f v u) Q X.xe s2):
  wpAny (model X.prog X.w) X.A (eval a X.env) (λv s₁=>wpAny (model X.prog X.w) X.A (eval b X.env) (λu s₂=>wpAny (model X.prog X.w) X.A (f v u) Q X.xe s₂) X.xe s₁) X.xe s:=by
 refine bP (ha w_ s σ H _ I h) λv l ⟨x,H1,i,e,g⟩=>?_;refine bP (hb w_ l σ H1 _ i g) λu s2 ⟨y,H2,d,j,c⟩=>?_;exact hf v u s2 x y H2 d e j c
def wH{op:Operator}{r:R2}(ho:eS X (binaryOp op) r)(ha:PE X a ta)(hb:PE X b tb):PE X (.BinOp a op b pos) (uf r ta tb):=by
 intro c s σ H Q I h;exact wpAny_BinOp<|Pl ha hb I h λv u g x y f e i d q=>ho c g σ f x y v u Q e i d q
def RU{op:UnaryOp}{r:V->Hp->VK->Prop}(ho:UI X (unaryOp op) r)(ha:PE X a ta):PE X (.UnaryOp op a pos) (U4 r ta):=by
 intro b s σ H Q I h;exact UnaryOp_<|bP (ha b s σ H _ I h) λv f ⟨x,H1,e,c,d⟩=>ho b f σ H1 x v Q e c d
variable{g:Int->Int->Int}
def RB{C:Int->Int->Prop} 
  (rule:∀(i j:Int) (t u:Tok) (s:Shared) (Q:c_) (E:c_),C i j->Q (.int (g i j) s.toks) {s with toks:=s.toks+1}->wpAny (model X.prog X.w) X.A (f (.int i t)<|.int j u) Q E s):
  eS X f (rI C λi j=>.int<|g i j):=by
 intro a s σ H x y v u Q I d c h;obtain⟨i,j,rfl,rfl,hc,q⟩:=h;obtain⟨t,rfl⟩:=d;obtain⟨b,rfl⟩:=c;exact rule i j t b s _ _ hc ⟨.int<|g i j,H,I.tok _,⟨_,rfl⟩,q⟩
def KQ 
  (rule:∀(i j:Int) (t u:Tok) (s:Shared) (Q:c_) (E:c_),Q (.int (g i j) s.toks) {s with toks:=s.toks+1}->wpAny (model X.prog X.w) X.A (f (.int i t)<|.int j u) Q E s):
  eS X f (Fv λi j=>.int<|g i j):=by
 intro a s σ H x y v u Q I d c h;obtain⟨i,j,rfl,rfl,q⟩:=h;obtain⟨t,rfl⟩:=d;obtain⟨b,rfl⟩:=c;exact rule i j t b s _ _ ⟨.int<|g i j,H,I.tok _,⟨_,rfl⟩,q⟩
def KR{g:Int->Int->Bool}
  (rule:∀(i j:Int) (t u:Tok) (s:Shared) (Q:c_) (E:c_),Q (.bool<|g i j) s->wpAny (model X.prog X.w) X.A (f (.int i t)<|.int j u) Q E s):
  eS X f (Fv λi j=>.bl<|g i j):=by
 intro a s σ H x y v u Q I d c h;obtain⟨i,j,rfl,rfl,q⟩:=h;obtain⟨t,rfl⟩:=d;obtain⟨b,rfl⟩:=c;exact rule i j t b s _ _ ⟨.bl<|g i j,H,I,rfl,q⟩
def Pm(i j:Int):Prop:=0<j/\j<1073741824
def Pn(i j:Int):Prop:=0<=j/\j<=1000000/\i.natAbs<2 ^ 64
def zc(k:Nat):(0:Int)<=2 ^ k:=by
 rw[two_pow_cast];exact Int.natCast_nonneg _
def aW:eS X (binaryOp .Add) (Fv λi j=>.int<|i+j):=KQ λ_ _ _ _ _ _ _ q=>add_int q
def cK:eS X (binaryOp .Sub) (Fv λi j=>.int<|i-j):=KQ λ_ _ _ _ _ _ _ q=>sub_int q
def KS:eS X (binaryOp .FloorDiv) (rI Pm λi j=>.int<|i / j):=RB λi j _ _ _ _ _ hc q=>by
 have h1:(0:Int)<j:=hc.1;have a:j<1073741824:=hc.2;exact floordiv_int (by omega) (by rw[Int.fdiv_eq_ediv_of_nonneg i (by omega)];exact q) (.inl (PyProof.noPylong_small (by omega)))
def dk:eS X (binaryOp .Mod) (rI (λ_ j=>0<j) λi j=>.int<|i%j):=RB λi j _ _ _ _ _ hc q=>by
 have h1:(0:Int)<j:=hc;exact mod_int' (by omega) (by rw[Int.fmod_eq_emod_of_nonneg i (by omega)];exact q)
def bW:eS X (binaryOp .LShift) (rI Pn λi j=>.int<|i*2 ^ j.toNat):=RB λ_ _ _ _ _ _ _ hc q=>lshift_int_small hc.1 hc.2.1 hc.2.2 q
def ug:eS X (binaryOp .RShift) (rI (λ_ j=>0<=j) λi j=>.int<|i / 2 ^ j.toNat):=RB λi j _ _ _ _ _ hc q=>
 rshift_int hc (by rw[Int.fdiv_eq_ediv_of_nonneg i (zc _)];exact q)
def eA:eS X (binaryOp .BitAnd) (Fv λi j=>.int<|Builtin.bitAnd i j):=KQ λ_ _ _ _ _ _ _ q=>and_int q
def BO:eS X (binaryOp .BitOr) (Fv λi j=>.int<|Builtin.bitOr i j):=KQ λ_ _ _ _ _ _ _ q=>or_int q
def VW{f:Value->Sem Value}{g:Int->Int}
  (rule:∀(i:Int) (t:Tok) (s:Shared) (Q:c_) (E:c_),Q (.int (g i) s.toks) {s with toks:=s.toks+1}->wpAny (model X.prog X.w) X.A (f<|.int i t) Q E s):
  UI X f (rU λi=>.int<|g i):=by
 intro a s σ H x v Q I b h;obtain⟨i,rfl,q⟩:=h;obtain⟨t,rfl⟩:=b;exact rule i t s _ _ ⟨.int<|g i,H,I.tok _,⟨_,rfl⟩,q⟩
def iX:UI X (unaryOp .USub) (rU λi=>.int (-i)):=VW λ_ _ _ _ _ q=>neg_int q
noncomputable def zd:V->V->Bool
 |.bE,.bE=>true|.bE,.int _=>true|.int _,.bE=>true|.bE,.bl _=>true|.bl _,.bE=>true|.bE,.str _=>true|.str _,.bE=>true
 |.int _,.int _=>true|.bl _,.bl _=>true|.str _,.str _=>true|.FE _,.FE _=>true
 |.int _,.str _=>true|.str _,.int _=>true|.bl _,.str _=>true|.str _,.bl _=>true
 |_,_=>false
def Po:R2:=λx y H Q=>zd x y=true/\Q (.bl<|decide<|x=y) H
def RV:R2:=λx y H Q=>zd x y=true/\Q (.bl<|!decide (x=y)) H
def BP{i j:Int}:decide (V.int i=V.int j)=(i==j):=by
 rw[On]
 simp
def FU{i j:Bool}:decide (V.bl i=V.bl j)=(i==j):=by
 rw[On]
 simp
def BQ{i j:Str}:decide (V.str i=V.str j)=(i==j):=by
 rw[On]
 simp
def BR{i j:Array UInt8}:decide (V.FE i=V.FE j)=(i.toList==j.toList):=by
 rw[On]
 cases i
 cases j
 simp
def bj{σ:St}{Q:VK}{k k':Bool}(I:Inv X w_ σ H s)(q:Q (.bl k) H)(e:k=k'):EP X w_ σ Q (.bool k') s:=by
 subst e;exact⟨.bl k,H,I,rfl,q⟩
def aR:eS X (compareOp .Eq) Po:=by
 intro e s σ H x y v u Q I d a h;obtain⟨c,q⟩:=h
 cases x with
 |bE=>
  cases d
  cases y with
  |bE=>cases a;exact PySem.EqNone.eq_none_none (bj I q (by simp))
  |bl j=>cases a;exact PySem.EqNone.eq_none_bool (bj I q (by simp))
  |int j=>obtain⟨b,rfl⟩:=a;exact PySem.EqNone.eq_none_int (bj I q (by simp))
  |str j=>obtain⟨b,rfl⟩:=a;exact PySem.EqNone.eq_none_str (bj I q (by simp))
  |_=>exact absurd (show false=true from c) gp
 |bl i=>
  cases d
  cases y with
  |bE=>cases a;exact PySem.EqNone.eq_bool_none (bj I q (by simp))
  |bl j=>cases a;exact eq_bool<|bj I q FU
  |str j=>obtain⟨b,rfl⟩:=a;exact PySem.EqMixed.eq_bool_str (bj I q (by simp))
  |_=>exact absurd (show false=true from c) gp
 |int i=>
  obtain⟨t,rfl⟩:=d
  cases y with
  |bE=>cases a;exact PySem.EqNone.eq_int_none (bj I q (by simp))
  |int j=>obtain⟨b,rfl⟩:=a;exact eq_int<|bj I q BP
  |str j=>obtain⟨b,rfl⟩:=a;exact PySem.EqMixed.eq_int_str (bj I q (by simp))
  |_=>exact absurd (show false=true from c) gp
 |str i=>
  obtain⟨t,rfl⟩:=d
  cases y with
  |bE=>cases a;exact PySem.EqNone.eq_str_none (bj I q (by simp))
  |bl j=>cases a;exact PySem.EqMixed.eq_str_bool (bj I q (by simp))
  |int j=>obtain⟨b,rfl⟩:=a;exact PySem.EqMixed.eq_str_int (bj I q (by simp))
  |str j=>obtain⟨b,rfl⟩:=a;exact eq_str<|bj I q BQ
  |_=>exact absurd (show false=true from c) gp
 |FE i=>
  obtain⟨t,rfl⟩:=d
  cases y with
  |FE j=>obtain⟨b,rfl⟩:=a;exact PySem.W.eq_bytes<|bj I q BR
  |_=>exact absurd (show false=true from c) gp
 |_=>cases y<;>exact absurd (show false=true from c) gp
def iY:eS X (compareOp .NotEq) RV:=by
 intro e s σ H x y v u Q I d a h;obtain⟨c,q⟩:=h
 cases x with
 |bE=>
  cases d
  cases y with
  |bE=>cases a;exact PySem.EqNone.ne_none_none (bj I q (by simp))
  |bl j=>cases a;exact PySem.EqNone.ne_none_bool (bj I q (by simp))
  |int j=>obtain⟨b,rfl⟩:=a;exact PySem.EqNone.ne_none_int (bj I q (by simp))
  |str j=>obtain⟨b,rfl⟩:=a;exact PySem.EqNone.ne_none_str (bj I q (by simp))
  |_=>exact absurd (show false=true from c) gp
 |bl i=>
  cases d
  cases y with
  |bE=>cases a;exact PySem.EqNone.ne_bool_none (bj I q (by simp))
  |bl j=>cases a;exact ne_bool<|bj I q<|BA not FU
  |str j=>obtain⟨b,rfl⟩:=a;exact PySem.EqMixed.ne_bool_str (bj I q (by simp))
  |_=>exact absurd (show false=true from c) gp
 |int i=>
  obtain⟨t,rfl⟩:=d
  cases y with
  |bE=>cases a;exact PySem.EqNone.ne_int_none (bj I q (by simp))
  |int j=>obtain⟨b,rfl⟩:=a;exact ne_int<|bj I q<|BA not BP
  |str j=>obtain⟨b,rfl⟩:=a;exact PySem.EqMixed.ne_int_str (bj I q (by simp))
  |_=>exact absurd (show false=true from c) gp
 |str i=>
  obtain⟨t,rfl⟩:=d
  cases y with
  |bE=>cases a;exact PySem.EqNone.ne_str_none (bj I q (by simp))
  |bl j=>cases a;exact PySem.EqMixed.ne_str_bool (bj I q (by simp))
  |int j=>obtain⟨b,rfl⟩:=a;exact PySem.EqMixed.ne_str_int (bj I q (by simp))
  |str j=>obtain⟨b,rfl⟩:=a;exact ne_str<|bj I q<|BA not BQ
  |_=>exact absurd (show false=true from c) gp
 |FE i=>
  obtain⟨t,rfl⟩:=d
  cases y with
  |FE j=>obtain⟨b,rfl⟩:=a;exact PySem.W.ne_bytes<|bj I q<|BA not BR
  |_=>exact absurd (show false=true from c) gp
 |_=>cases y<;>exact absurd (show false=true from c) gp
def iZ:eS X (compareOp .Lt) (Fv λi j=>.bl<|decide<|i<j):=KR λ_ _ _ _ _ _ _ q=>lt_int q
def k9:eS X (compareOp .LtE) (Fv λi j=>.bl<|decide<|i<=j):=KR λ_ _ _ _ _ _ _ q=>le_int q
def r8:eS X (compareOp .Gt) (Fv λi j=>.bl<|decide<|j<i):=KR λ_ _ _ _ _ _ _ q=>gt_int q
def NF:eS X (compareOp .GtE) (Fv λi j=>.bl<|decide<|j<=i):=KR λ_ _ _ _ _ _ _ q=>ge_int q
def r9:eS X (compareOp .In) (λx y H Q=>∃i j,x=.str i/\y=.str j/\Q (.bl<|!(Builtin.Str.occurrences j i 0 j.length 1).isEmpty) H):=by
 intro a s σ H x y v u Q I c b h;obtain⟨i,j,rfl,rfl,q⟩:=h;obtain⟨t,rfl⟩:=c;obtain⟨d,rfl⟩:=b;exact in_str<|bj I q rfl
def Pp:eS X (compareOp .Is) (λx y H Q=>y=.bE/\Q (.bl<|decide<|x=.bE) H):=by
 intro a s σ H x y v u Q I b c h;obtain⟨rfl,q⟩:=h
 cases c
 refine is_none_gen<|bj I q ?_
 cases x<;>first
  |(cases b;rfl)
  |(obtain⟨t,rfl⟩:=b;rfl)
def KU:eS X (compareOp .IsNot) (λx y H Q=>y=.bE/\Q (.bl<|!decide (x=.bE)) H):=by
 intro a s σ H x y v u Q I b c h;obtain⟨rfl,q⟩:=h
 cases c
 refine isnot_none_gen<|bj I q ?_
 cases x<;>first
  |(cases b;rfl)
  |(obtain⟨t,rfl⟩:=b;rfl)
def ao(b:Expr)(h:op≠.In:=by decide)(h2:op≠.NotIn:=by decide):behindInMarks op b=false:=by
 have a:(op==CmpOp.In)=false:=by cases op<;>first|rfl|exact absurd rfl h
 have e2:(op==CmpOp.NotIn)=false:=by cases op<;>first|rfl|exact absurd rfl h2
 cases b<;>simp[behindInMarks,a,e2]
variable{r:R2}
def KW(ho:eS X (compareOp op) r)(ha:PE X a ta)(hb:PE X b tb)(hm:behindInMarks op b=false):PE X (.Compare a [op] [b] pos) (uf r ta tb):=by
 intro c s σ H Q I h;exact wpAny_Compare1 (Pl ha hb I h λv u g x y f e i d q=>ho c g σ f x y v u Q e i d q) hm
def wI(t:TE):TT:=λσ H Q=>t σ H λx a=>∃k,x=.bl k/\Q k a
def KY(ho:eS X (compareOp op) r)(ha:PE X a ta)(hb:PE X b tb)(hm:behindInMarks op b=false):PT X (.Compare a [op] [b] pos) (wI<|uf r ta tb):=by
 intro d s σ H Q I h;refine wpAny_isTrue_Compare1 (bP (ha d s σ H _ I h) λv A ⟨x,H1,o,i,j⟩=>bP (hb d A σ H1 _ o j) λu w ⟨y,l,n,m,f⟩=>
  bP (ho d w σ l x y v u _ n i m f) λc B ⟨z,p,q,t,k,e,g⟩=>?_) hm
 subst e
 cases t
 exact y0 ⟨p,q,g⟩
def oY(r r':R2)(ta tb tc:TE):TE:=λσ H Q=>ta σ H λx H1=>tb σ H1 λy c=>r x y c λz a=>∃k,z=.bl k/\
 (if k=true then tc σ a λd b=>r' y d b Q else Q (.bl false) a)
variable{tc:TE}{op':CmpOp}{r':R2}
def FV(ho:eS X (compareOp op) r)(ho':eS X (compareOp op') r')(ha:PE X a ta)(hb:PE X b tb)(hc:PE X c tc)
  (hm:lastMarks [op,op'] [b,c]=false:=by with_unfolding_all rfl):PE X (.Compare a [op,op'] [b,c] pos) (oY r r' ta tb tc):=by
 intro f s σ H Q I h;refine Compare_chain (bP (ha f s σ H _ I h) λv B ⟨x,H1,J,o,p⟩=>chain_link (bP (hb f B σ H1 _ J p) λu L ⟨y,C,F,g,m⟩=>
  bP (ho f L σ C x y v u _ F o g m) λd K ⟨z,l,i,A,k,e,j⟩=>?_)) hm
 subst e
 cases A
 refine y0 ?_
 cases k with
 |false=>exact ite_ff ⟨.bl false,l,i,rfl,j⟩
 |true=>exact ite_tt<|chain_last<|bP (hc f K σ l _ i j) λD t ⟨G,w,n,q,E⟩=>ho' f t σ w y G u D Q n g q E
def FW(ho:eS X (compareOp op) r)(ho':eS X (compareOp op') r')(ha:PE X a ta)(hb:PE X b tb)(hc:PE X c tc)
  (hm:lastMarks [op,op'] [b,c]=false:=by with_unfolding_all rfl):PT X (.Compare a [op,op'] [b,c] pos) (wI<|oY r r' ta tb tc):=by
 intro f s σ H Q I h;refine isTrue_chain (bP (ha f s σ H _ I h) λv E ⟨x,H1,O,p,q⟩=>test_link (bP (hb f E σ H1 _ O q) λu R ⟨y,G,M,g,m⟩=>
  bP (ho f R σ G x y v u _ M p g m) λd P ⟨z,l,i,C,k,e,j⟩=>?_)) hm
 subst e
 cases C
 refine y0 ?_
 cases k with
 |false=>
  obtain⟨U,t,S⟩:=j
  cases t
  exact ite_ff ⟨l,i,S⟩
 |true=>
  refine ite_tt<|test_last<|bP (hc f P σ l _ i j) λJ A ⟨N,B,o,w,L⟩=>bP (ho' f A σ B y N u J _ o g w L) λT Z ⟨W,n,K,F,Y,e2,D⟩=>?_;subst e2
  cases F
  exact y0 ⟨n,K,D⟩
def lZ:(sizeLine:Nat)<2 ^ 63:=by rw[sizeLine_eq];decide
def bu:eS X (binaryOp .Add) (λx y H Q=>∃i j,x=.str i/\y=.str j/\i.length+j.length<=sizeLine/\Q (.str<|i++j) H):=by
 intro a s σ H x y v u Q I d c h;obtain⟨i,j,rfl,rfl,hz,q⟩:=h;obtain⟨t,rfl⟩:=d;obtain⟨b,rfl⟩:=c;exact add_str (λb e=>⟨.str<|i++j,H,I.tok _,⟨_,rfl⟩,q⟩) hz
variable{x:V}{us:f'}
def vals1(r:Vals [x] us):∃u,us=[u]/\RelV x u:=by
 cases r with
 |cons b a=>cases a;exact⟨_,rfl,b⟩
variable{y:V}
def vals2(r:Vals [x,y] us):∃u w',us=[u,w']/\RelV x u/\RelV y w':=by
 cases r with
 |cons d b=>
  cases b with
  |cons c a=>cases a;exact⟨_,_,rfl,d,c⟩
def Dp(hc:X.calm=true):b6 X (.builtin "max") (λxs H Q=>∃i j,xs=[.int i,.int j]/\Q (.int<|if j>i then j else i) H):=by
 intro a s σ H xs e Q I r h;obtain⟨i,j,rfl,q⟩:=h;obtain⟨u,d,rfl,⟨t,rfl⟩,⟨b,rfl⟩⟩:=vals2 r;refine max_two_ints (I.ok.hd hc) λf c k=>⟨_,H,I.kept k,?_,q⟩
 by_cases hj:j>i
 ·rw[if_pos hj,if_pos hj];exact⟨_,rfl⟩
 ·rw[if_neg hj,if_neg hj];exact⟨_,rfl⟩
def Dq(hc:X.calm=true):b6 X (.builtin "min") (λxs H Q=>∃i j,xs=[.int i,.int j]/\Q (.int<|if j<i then j else i) H):=by
 intro a s σ H xs e Q I r h;obtain⟨i,j,rfl,q⟩:=h;obtain⟨u,d,rfl,⟨t,rfl⟩,⟨b,rfl⟩⟩:=vals2 r;refine min_two_ints (I.ok.hd hc) λf c k=>⟨_,H,I.kept k,?_,q⟩
 by_cases hj:j<i
 ·rw[if_pos hj,if_pos hj];exact⟨_,rfl⟩
 ·rw[if_neg hj,if_neg hj];exact⟨_,rfl⟩
def Dr:b6 X (.type "int") (λxs H Q=>(∃i,xs=[.int i]/\Q (.int i) H)∨∃k,xs=[.bl k]/\Q (.int<|if k then 1 else 0) H):=by
 intro a s σ H xs c Q I r h
 rcases h with ⟨i,rfl,q⟩|⟨k,rfl,q⟩
 ·obtain⟨u,rfl,t,rfl⟩:=vals1 r;exact call_int_int ⟨.int i,H,I,⟨_,rfl⟩,q⟩
 ·obtain⟨u,rfl,b⟩:=vals1 r
  cases b
  exact call_int_bool ⟨.int<|if k then 1 else 0,H,I.tok _,⟨_,rfl⟩,q⟩
def bX:b6 X (.type "str") (λxs H Q=>∃i,xs=[.int i]/\i.natAbs.log2<1920/\Q (.str<|toString i) H):=by
 intro a s σ H xs b Q I r h;obtain⟨i,rfl,hz,q⟩:=h;obtain⟨u,rfl,t,rfl⟩:=vals1 r;exact PySem.P.str_of_int hz ⟨.str _,H,I.tok _,⟨_,rfl⟩,q⟩
structure ze(h:Heap)(x dx C:Addr)(mA:b_):Prop where
 obj:h.get? x=some (instObj C dx)
 ns:h.Ns1 dx mA
 ne:dx≠x
variable{dx:Addr}{mA:b_}
def Ds{h:Heap}(n:h.Ns1 dx mA):∃od,h.get? dx=some od/\∀name,lookIn name od=some (mA name):=by
 obtain⟨o,c,i,g,d,hk,_,hm⟩:=n;refine⟨o,g,λname=>?_⟩;have e:=hm name;unfold nsFind findBy at e;rw[<-Array.find?_toList]at e;unfold lookIn;rw[d]
 dsimp only
 split
 ·rename_i y q
  rw[q]at e;exact BA some e
 ·rename_i q
  rw[q]at e;have a:c.toList.any (·.refKey)=false:=by
   rw[List.any_eq_false];intro y hy;obtain⟨z,t,b⟩:=hk y<|Array.mem_toList_iff.mp hy
   simp[DictEntry.refKey,b]
  have f:¬c.toList.any (·.refKey)=true:=by rw[a];exact gp
  rw[if_neg f];exact BA some e
variable{x C:Addr}
def ze.look{h:Heap}(I:ze h x dx C mA):∃od,PySem.W.InstAt h x (instObj C dx) C (some od)/\∀name,lookIn name od=some (mA name):=
 let ⟨od,ho,hl⟩:=Ds I.ns
 ⟨od,⟨I.obj,rfl,rfl,ho⟩,hl⟩
variable{prog:Program}{w:World}{name:Str}{v:Value}
def get_map{expr:Bool}(X:K.In s.heap)(I:ze s.heap x dx C mA)(hg:plainGet K C name=true)(hh:hasDictIn K C=true)
  (ha:findIn K (.ref C) name=some none) (hv:mA name=some v) (hv':handedIn v=true) (h:Q v {s with toks:=s.toks+1}):
  wpAny (model prog w) A (getAttr (.ref x) name expr) Q E s:=by
 obtain⟨b,J,a⟩:=I.look;exact PySem.W.get_value X J (plainGet_of hg).1 (PySem.W.findObj_own hh ha rfl (by rw[a,hv])) hv' h
variable{f:Addr}{pl:Sem Bool}
def FX{Q:Value × List Value->Shared->Prop}(X:K.In s.heap)(I:ze s.heap x dx C mA)(hg:plainGet K C name=true)
  (hf:findIn K (.ref C) name=some (some<|.ref f)) (ht:isFn K (.ref f)=true) (hv:mA name=none) (h:Q (.ref f,[.ref x]) s):
  wpAny (model prog w) A (getMethod (.ref x) name pl) Q E s:=by
 obtain⟨b,J,a⟩:=I.look;exact PySem.W.method_fn X J (plainGet_of hg).1 (plainGet_of hg).2 hf (beq_iff_eq.mp ht) (by show(lookIn name b).map (·.isSome)=some false;rw[a,hv];rfl) h
def KZ{ns:f_}{Q:Unit->Shared->Prop}(X:K.In s.heap)(I:ze s.heap x dx C mA)
  (hs:findIn K (.ref C) "__setattr__"=some (some<|.builtin "object.__setattr__")) (hp:plainOver K C=true) (ht:takerIn K C name=some none) (hh:hasDictIn K C=true)
  (hw:PySem.Within mA ns) (hsz:ns.length<=sizeLine)
  (h:∀h',ze h' x dx C (λy=>if y=name then some v else mA y)->SameBut dx s.heap h'->Q () {s with heap:=h',toks:=s.toks+2}):
  wpAny (model prog w) A (setAttr (.ref x) name v) Q E s:=by
 obtain⟨n,J,o⟩:=I.look;refine PySem.W.set_plain X J hs (PySem.W.osa_open (s:={s with toks:=s.toks+1}) (r:=none) X J hp ht λb=>?_);obtain⟨m,hc,i⟩:=PySem.W.any_some hh;have hx:s.heap.get? x=some ⟨.ref C,some dx,.plain,#[]⟩:=I.obj;refine cv (ek (cv (cv (wpAny_loadPart hx (cv (PySem.W.Looks.here (s:={s with toks:=s.toks+1}) (PySem.W.looks_clsIn X hc) ?_))))));rw[i];refine ek (a:=some dx) (cv (ek (cv ?_)));refine wpAny_nsSet1 (s:={s with toks:=s.toks+1}) I.ns λh' c d=>?_;obtain⟨p,l,j,f,e,g⟩:=c.count (PySem.Within.cons name v hw);refine cv (wpAny_lookBehind f (by rw[e];exact pastItsLine_dict (gr g (by rw[mo];omega))) ?_)
 exact ek<|h _ ⟨(d.2 _<|Ne.symm I.ne).trans I.obj,c,I.ne⟩ d
variable{R:Result->Shared->Prop}{kw:List (Str × Value)}
def FY{vs:f'}(X:K.In s.heap)(hm:makesIn K C=true)
  (hi:findIn K (.ref C) "__init__"=some (some<|.ref f)) (hf:typeIn K (.ref f)=some (.type "function"))
  (h:codeAny (model prog w) (A.under<|.builtin "type.__call__" ⟨.ref C::vs,kw⟩) (.call (.ref f) ⟨.ref (s.heap.objs.size+1)::vs,kw⟩) (PySem.W.InitBack (s.heap.objs.size+1) R)
   {s with heap:=(s.heap.push emptyDict).push (instObj C s.heap.objs.size)}):
  codeAny (model prog w) A (.call (.ref C) ⟨vs,kw⟩) R s:=by
 obtain⟨hh,g,d,t,b⟩:=s;exact PySem.W.make_core (PySem.W.makes_of X hm) (PySem.W.looks_findIn X hi) (λa=>PySem.W.bind_fn X a hf) (.inl rfl) h
noncomputable def dJ(f:Str)(v:V):t_->List (Str × V)
 | []=>[(f,v)]
 |(g,x)::r=>if g=f then(g,v)::r else(g,x)::dJ f v r
theorem nA(f g:Str)(v:V):∀fs:t_,(dJ f v fs).lookup g=if g=f then some v else fs.lookup g
 | []=>by
  show List.lookup g [(f,v)]=_
  by_cases h:g=f
  ·have hb:(g==f)=true:=beq_iff_eq.mpr h;simp only[List.lookup,hb,if_pos h]
  ·have hb:(g==f)=false:=tz.mpr h;simp only[List.lookup,hb,if_neg h]
 |(k,x)::r=>by
  have a:=nA f g v r;rw[show dJ f v ((k,x)::r)=(if k=f then(k,v)::r else(k,x)::dJ f v r)from rfl]
  by_cases hk:k=f
  ·rw[if_pos hk]
   by_cases h:g=k
   ·have hb:(g==k)=true:=beq_iff_eq.mpr h;simp only[List.lookup,hb,if_pos<|h.trans hk]
   ·have hb:(g==k)=false:=tz.mpr h;simp only[List.lookup,hb,if_neg λe:g=f=>h<|e.trans hk.symm]
  ·rw[if_neg hk]
   by_cases h:g=k
   ·have hb:(g==k)=true:=beq_iff_eq.mpr h;simp only[List.lookup,hb,if_neg λe:g=f=>hk<|h.symm.trans e]
   ·have hb:(g==k)=false:=tz.mpr h;simp only[List.lookup,hb];exact a
theorem l9(f:Str)(v:V):∀fs:t_,f∈(dJ f v fs).map (·.1)/\∀g,g∈fs.map (·.1)->g∈(dJ f v fs).map (·.1)
 | []=>⟨by simp[dJ],λg h=>by simp at h⟩
 |(k,x)::r=>by
  obtain⟨a,b⟩:=l9 f v r;rw[show dJ f v ((k,x)::r)=(if k=f then(k,v)::r else(k,x)::dJ f v r)from rfl]
  by_cases hk:k=f
  ·rw[if_pos hk];subst hk;exact⟨by simp,λg h=>by simpa using h⟩
  ·rw[if_neg hk];refine⟨?_,λg h=>?_⟩
   ·rw[m5];exact fz _ a
   ·rw[m5]at h ⊢
    rcases gg.mp h with e|e
    ·exact gg.mpr<|.inl e
    ·exact fz _<|b g e
theorem nB(f:Str)(v:V):∀fs:t_,(dJ f v fs).length<=fs.length+1
 | []=>by simp[dJ]
 |(k,x)::r=>by
  have a:=nB f v r;rw[show dJ f v ((k,x)::r)=(if k=f then(k,v)::r else(k,x)::dJ f v r)from rfl]
  by_cases hk:k=f
  ·rw[if_pos hk,mo,mo];omega
  ·rw[if_neg hk,mo,mo];omega
variable{o:g_}{v:V}
def iV.some_of(r:iV (some v) o):∃u,o=some u/\RelV v u:=by
 cases o with
 |none=>exact(show False from r).elim
 |some u=>exact⟨u,rfl,r⟩
def iV.none_of(r:iV none o):o=none:=by
 cases o with
 |none=>rfl
 |some u=>exact(show False from r).elim
variable{u:Value}
def Du(r:RelV v u):handedIn u=true:=by
 cases v with
 |bE=>cases(show u=Value.none from r);rfl
 |bl b=>cases(show u=Value.bool b from r);rfl
 |int i=>obtain⟨t,e⟩:=(show ∃t,u=Value.int i t from r);cases e;rfl
 |str x=>obtain⟨t,e⟩:=(show ∃t,u=Value.str x t from r);cases e;rfl
 |FE b=>obtain⟨t,e⟩:=(show ∃t,u=Value.bytes b t from r);cases e;rfl
 |UU b=>obtain⟨t,e⟩:=(show ∃t,u=Value.float b t from r);cases e;rfl
 |ref a=>cases(show u=Value.ref a from r);rfl
 |ty n=>cases(show u=Value.type n from r);rfl
variable{P:Program}{h:Heap}{a:Addr}{fs:t_}
def uh(bq:jS P w H h)(e:H a=some (.ins C dx fs)):∃mA,ze h a dx C mA/\(∀f,iV (fs.lookup f)<|mA f)/\PySem.Within mA (fs.map (·.1))/\fs.length<=1000/\H dx=some (.own a):=by
 obtain⟨d,z,ne,ob,mA,n,r,q⟩:=(show bG P w H h a (.ins C dx fs)from bq a _ e)
 exact⟨mA,⟨ob,n,ne⟩,r,q,z,d⟩
structure NG(K:Frag)(C:Addr):Prop where
 pg:plainGet K C Str.empty=true
 hd:hasDictIn K C=true
 po:plainOver K C=true
 sa:findIn K (.ref C) "__setattr__"=some (some<|.builtin "object.__setattr__")
def NG.get(c:NG K C)(f:Str):plainGet K C f=true:=c.pg
def oZ(K:Frag)(C:Addr)(f:Str):Prop:=findIn K (.ref C) f=some none
variable{f:Str}
def oZ.RW(n:oZ K C f):takerIn K C f=some none:=by
 unfold takerIn;rw[show findIn K (.ref C) f=some none from n]
 rfl
structure Meth(K:Frag)(C:Addr)(m:Str)(f:Addr):Prop where
 at_:findIn K (.ref C) m=some (some<|.ref f)
 fn:isFn K (.ref f)=true
 kp:keepIn K (.ref f)=true
def zf{b:Bool}(I:Inv X w_ σ H s)(e:H a=some (.ins C dx fs))(c:NG X.K C)(n:oZ X.K C f)(l:fs.lookup f=some v)
  (h:∀u s',Inv X w_ σ H s'->RelV v u->Q u s'):wpAny (model X.prog X.w) A (getAttr (.ref a) f b) Q E s:=by
 obtain⟨g,O,r,_,_,_⟩:=uh I.bq e;obtain⟨u,hu,d⟩:=iV.some_of (v:=v) (o:=g f) (by rw[<-l];exact r f)
 exact get_map I.wz O (c.get f) c.hd n hu (Du d)<|h u _ (I.tok _) d
variable{m:Str}
def o7{g:Addr}{Q:Value × List Value->Shared->Prop}(I:Inv X w_ σ H s)(e:H a=some (.ins C dx fs))(c:NG X.K C)(k:Meth X.K C m g)(l:fs.lookup m=none)
  (h:Q (.ref g,[.ref a]) s):wpAny (model X.prog X.w) A (getMethod (.ref a) m pl) Q E s:=by
 obtain⟨b,O,r,_,_,_⟩:=uh I.bq e;have hn:b m=none:=iV.none_of (by rw[<-l];exact r m)
 exact FX I.wz O (c.get m) k.at_ k.fn hn h
def zg{Q:Unit->Shared->Prop}(I:Inv X w_ σ H s)(e:H a=some (.ins C dx fs))(c:NG X.K C)(n:oZ X.K C f)(hl:fs.length<1000)(ry:RelV y u)
  (h:∀s',Inv X w_ σ (upd H a<|.ins C dx<|dJ f y fs) s'->Q () s'):wpAny (model X.prog X.w) A (setAttr (.ref a) f u) Q E s:=by
 obtain⟨i,O,r,l,_,m⟩:=uh I.bq e;have hz:(fs.map (·.1)).length<=sizeLine:=by rw[b5,sizeLine_eq];omega
 refine KZ I.wz O c.sa c.po n.RW c.hd l hz λt d p=>h _ ?_;have j:∃o,t.get? dx=some o:=let ⟨o,_,_,e',_⟩:=d.ns;⟨o,e'⟩;refine I.write (x:=a) (e:=dx) (by rw[e];exact True.intro) (.inr m) (λb q hb z=>(p.2 b hb).trans z) j ?_
 refine⟨by rw[aC O.ne];exact m,?_,O.ne,d.obj,_,d.ns,λg=>?_,λg v=>?_⟩
 ·have:=nB f y fs;omega
 ·show iV ((dJ f y fs).lookup g) (if g=f then some u else i g)
  rw[nA]
  by_cases q:g=f
  ·rw[if_pos q,if_pos q];exact ry
  ·rw[if_neg q,if_neg q];exact r g
 ·by_cases q:g=f
  ·rw[q];exact(l9 f y fs).1
  ·refine(l9 f y fs).2 g (l g λz=>v ?_);show(if g=f then some u else i g)=none
   rw[if_neg q];exact z
def Inv.made(I:Inv X w_ σ H s):Inv X w_ σ (upd (upd H s.heap.objs.size<|.own<|s.heap.objs.size+1) (s.heap.objs.size+1)<|.ins C s.heap.objs.size [])
  {s with heap:=(s.heap.push emptyDict).push (instObj C s.heap.objs.size)}:=by
 have c:(s.heap.push emptyDict).get? s.heap.objs.size=some emptyDict:=gz s.heap rfl;have e2:((s.heap.push emptyDict).push<|instObj C s.heap.objs.size).get? (s.heap.objs.size+1)=some (instObj C s.heap.objs.size):=by
  have:=gz (s.heap.push emptyDict) (o:=instObj C s.heap.objs.size) rfl
  rwa [C4]at this
 have f:(s.heap.push emptyDict).Ns s.heap.objs.size (λ_=>none):=⟨emptyDict,#[],_,c,rfl,(λe he=>absurd he (by simp)),λ_=>rfl⟩
 have d:=I.laid (a:=s.heap.objs.size) (o:=.own<|s.heap.objs.size+1) (h':=s.heap.push emptyDict) (t':=s.toks) (λb u q=>ef _ q) (dy _) ⟨_,c⟩;refine d.laid (a:=s.heap.objs.size+1) (o:=.ins C s.heap.objs.size []) (t':=s.toks) (λb u q=>ef _ q) (Nat.le_of_eq<|C4 _ _) ?_;have ne:s.heap.objs.size≠s.heap.objs.size+1:=j9<|Wd _;refine⟨by rw[aC ne,af],zero_le _,ne,e2,λ_=>none,(Heap.Ns1.of_empty f).at λo q=>ef _ q,λ_=>True.intro,λy hy=>absurd rfl hy⟩
variable{env:Env}
def K0{pos:Pos}(hb:attributeBase e f env (eval e env)=eval e env)
  (h:wpAny (model prog w) A (eval e env) (λo s₁=>wpAny (model prog w) A (getAttr o f true) Q E s₁) E s):wpAny (model prog w) A (eval (.Attribute e f pos) env) Q E s:=
 Attribute_any_ h (by rw[arm_eval_Attribute,hb])
structure cL(k:Nat)(A:Around):Prop where
 hd:A.handled=none
 dp:A.depth+3*k+5<recursionLimit
 un:A.units+16*k+200<cLine
variable{j:Nat}
def cL.mono{k:Nat}(r:cL k A)(h:j<=k):cL j A:=⟨r.hd,by have:=r.dp;omega,by have:=r.un;omega⟩
theorem cL.deeper{k:Nat}{A:Around}(r:cL (k+1) A)(env:Env):cL k (A.deeper env):=
 ⟨r.hd,by have:=r.dp;show A.depth+1+3*k+5<_;omega,by have:=r.un;show A.units+3+16*k+200<_;omega⟩
def zh:(A.under<|.builtin "type.__call__" ⟨.ref C::us,kw⟩).depth=A.depth+1:=by
 first|rfl|simp[Around.under,Code.weight,Code.isCreation,Code.isGuard,Code.isCaller,Code.frames,Code.isFrame,guardIds]
def zi:(A.under<|.builtin "type.__call__" ⟨.ref C::us,kw⟩).units=A.units+1:=by
 first|rfl|simp[Around.under,Code.cUnits,Code.frames,Code.isFrame]
def cL.make{k:Nat}(r:cL (k+1) A)(C:Addr)(us:f')(kw:List (Str × Value)):cL k (A.under<|.builtin "type.__call__" ⟨.ref C::us,kw⟩):=
 ⟨r.hd,by have:=r.dp;rw[zh];omega,by have:=r.un;rw[zi];omega⟩
theorem cL.depth{k:Nat}{A:Around}(r:cL k A):A.depth<recursionLimit:=by have:=r.dp;omega
theorem cL.units{k:Nat}{A:Around}(r:cL k A):A.units+64<cLine:=by have:=r.un;omega
def ui:TA:=λ_ H Q=>Q [] H
def sf(ta:TE)(tr:TA):TA:=λσ H Q=>ta σ H λx H1=>tr σ H1 λb a=>Q (x::b) a
def Pq:PA X [] ui:=λ_ _ _ _ H Q I h=>Calls.spliced_nil ⟨[],H,I,.nil,h⟩
variable{t:TA}
def K1(ha:PE X e te)(hr:PA X es t)(hs:starEach (e::es) X.env=(false,eval e X.env)::starEach es X.env:=by rfl):PA X (e::es) (sf te t):=by
 intro pos a s σ H Q I h;rw[hs];show wpAny _ _ (spliced ((false,eval e X.env)::backTo pos (starEach es X.env))) _ _ s;refine Calls.spliced_cons<|bP (ha a s σ H _ I h) λu m ⟨x,H1,l,c,d⟩=>?_;exact bP (hr pos a m σ H1 _ l d) λn o ⟨j,f,i,g,b⟩=>⟨x::j,f,i,.cons c g,b⟩
def K2(t:TA):TE:=λσ H Q=>t σ H λa H1=>a.length<=sizeLine/\∀p,H1 p=none->Q (.ref p) (upd H1 p<|.tup a)
def K3(t:TA):TE:=λσ H Q=>t σ H λa H1=>a.length<=sizeLine/\∀p,H1 p=none->Q (.ref p) (upd H1 p<|.lst a)
def Pr{x1}(h:PA X es t):PE X (.Tuple es x1 pos) (K2 t):=by
 intro a s σ H Q I hq;refine wpAny_Tuple_spliced (bP (h pos a s σ H _ I hq) λg c ⟨i,H1,d,r,z,q⟩=>⟨by rw[<-r.length];exact z,?_⟩)
 have f:H1 c.heap.objs.size=none:=d.bq.fresh<|dy _;refine⟨.ref c.heap.objs.size,upd H1 c.heap.objs.size<|.tup i,d.laid (t':=c.toks) (λb u e=>ef _ e) (dy _) ?_,rfl,q _ f⟩;exact⟨z,g,r,⟨_,gz _ rfl,rfl,_,rfl⟩⟩
def Pt(h:PA X es t):PE X (.List es pos) (K3 t):=by
 intro a s σ H Q I hq;refine wpAny_List_spliced (bP (h pos a s σ H _ I hq) λg c ⟨i,H1,d,r,z,q⟩=>⟨by rw[<-r.length];exact z,?_⟩)
 have f:H1 c.heap.objs.size=none:=d.bq.fresh<|dy _;refine⟨.ref c.heap.objs.size,upd H1 c.heap.objs.size<|.lst i,d.laid (t':=c.toks) (λb u e=>ef _ e) (dy _) ?_,rfl,q _ f⟩;exact⟨z,g,0,r,gz _ rfl⟩
abbrev Sp:=List V->Hp->VK->XK->Prop
abbrev Fw:=List Env->Hp->Shared->XK->Value->Shared->Prop
structure zj(P:Program)(w:World)(K:Frag)(mg:b_)(base:Heap)(A:Around)(outer:List Env)(s:Shared)(H:Hp):Prop where
 frames:A.frames=some outer
 mod:Mod K mg base
 bs:∀b o,base.get? b=some o->s.heap.get? b=some o/\H b=none
 Nx:base.objs.size<=s.heap.objs.size
 nR:s.heap.FunFrames base outer
 Rt:∀b∈Fs outer,H b=none
 bq:jS P w H s.heap
 bare:AllBare s.gens
def CE(outer:List Env)(P:Program)(w:World)(H:Hp)(s:Shared)(Q:VK)(u:Value)(s':Shared):Prop:=
 ∃v H',s'.os=s.os/\AllBare s'.gens/\Un (Fs outer) [] H H' s.heap s'.heap/\jS P w H' s'.heap/\RelV v u/\Q v H'
def CR(CX:Fw)(outer:List Env)(P:Program)(w:World)(H:Hp)(s:Shared)(Q:VK)(E:XK)(r:Result)(s':Shared):Prop:=
 match r with
 |.ok (.ret u)=>CE outer P w H s Q u s'
 |.ok _=>False
 |.error e=>CX outer H s E e s'
structure fM(P:Program)(w:World)(K:Frag)(mg:b_)(base:Heap)(CX:Fw)(k:Nat)(f:Addr)(fd:FuncData)(ps:f_)(sp:Sp):Prop where
 len:∀vs H Q E,sp vs H Q E->vs.length=ps.length
 run:∀(A:Around) (outer:List Env) (s:Shared) (H:Hp) (args:Args) (us:f') (vs:u_) (Q:VK) (E:XK),cL k A->zj P w K mg base A outer s H->BindsTo s fd args (ps.zip us)->Vals vs us->sp vs H Q E->
  codeAny (model P w) A (.call (.ref f) args) (CR CX outer P w H s Q E) s
variable{mg:b_}{base:Heap}{outer:List Env}
def zj.make(e:zj P w K mg base A outer s H)(C:Addr)(us:f')(kw:List (Str × Value)):
  zj P w K mg base (A.under<|.builtin "type.__call__" ⟨.ref C::us,kw⟩) outer s H:=⟨by first|exact e.frames|(simpa[Around.under,Code.envs,Code.isFrame,pushEnvs]using e.frames),e.mod,e.bs,e.Nx,e.nR,e.Rt,e.bq,e.bare⟩
def Inv.RX(I:Inv X w_ σ H s):zj X.prog X.w X.K X.mg X.base X.A X.stack s H:=
 ⟨I.ok.frames,I.ok.mod,I.bs,gr I.ok.Nx I.sz,I.stack,I.BH,I.bq,I.bare⟩
variable{Q:VK}
def Inv.after(I:Inv X w_ σ H s)(h:CE X.stack X.prog X.w H s Q u s'):EP X w_ σ Q u s':=by
 obtain⟨v,i,e,a,un,f,r,q⟩:=h;obtain⟨hh,g,d,t,c⟩:=s';obtain rfl:c=s.os:=e;exact⟨v,i,I.call (h':=hh) (g':=g) (d':=d) (t':=t) (ch:=[]) un f a (λb z=>absurd z (by simp)),r,q⟩
def sh(sp:Sp)(oP:u_)(E:XK)(t:TA):TE:=λσ H Q=>t σ H λa H1=>sp (a++oP) H1 Q E
def sj(C:Addr)(m:Str)(sp:Sp)(oP:u_)(E:XK)(ta:TE)(t:TA):TE:=λσ H Q=>ta σ H λx H1=>∃a dx fs,x=.ref a/\H1 a=some (.ins C dx fs)/\fs.lookup m=none/\
 t σ H1 λc b=>sp (x::(c++oP)) b Q E
def sk(C:Addr)(sp:Sp)(oP:u_)(E:XK)(t:TA):TE:=λσ H Q=>t σ H λb H1=>∀x dx,H1 x=none->H1 dx=none->dx≠x->
 sp (.ref x::(b++oP)) (upd (upd H1 dx<|.own x) x<|.ins C dx []) (λv a=>v=.bE/\Q (.ref x) a) E
def Binds(K:Frag)(fd:FuncData)(ps:f_)(ds:f'):Prop:=
 ∀(s:Shared) (us:f'),K.In s.heap->(us++ds).length=ps.length->BindsTo s fd ⟨us,[]⟩ (ps.zip<|us++ds)
variable{fd:FuncData}{ps:f_}
def Binds.all(h:∀us:f',us.length=ps.length->bindArgs fd ⟨us,[]⟩=pure (ps.zip us)):Binds K fd ps []:=λs us _ a=>by
 rw[append_nil]at a ⊢;exact .of_eq<|h us a
def Passes(CX:Fw)(X:Cx)(E:XK):Prop:=∀(w_:aO0) (σ:St) (H:Hp) (s:Shared) (e:Value) (s':Shared),Inv X w_ σ H s->CX X.stack H s E e s'->X.xe e s'
variable{CX:Fw}{k:Nat}{f:Addr}{sp:Sp}{oP vs:u_}{ds:f'}{E:XK}
def zk{σ:St}(F:fM X.prog X.w X.K X.mg X.base CX k f fd ps sp)(hr:cL k X.A)(hb:Binds X.K fd ps ds)(hd:Vals oP ds)(hx:Passes CX X E)
  (I:Inv X w_ σ H s) (r:Vals vs us) (h:sp (vs++oP) H Q E):wpAny (model X.prog X.w) X.A (call (.ref f) us) (EP X w_ σ Q) X.xe s:=by
 have a:Vals (vs++oP) (us++ds):=r.append hd;have c:(us++ds).length=ps.length:=by rw[<-a.length];exact F.len _ _ _ _ h
 refine wpAny_call<|codeAny_mono (F.run X.A X.stack s H ⟨us,[]⟩ (us++ds) (vs++oP) Q E hr I.RX (hb s us I.wz c) a h) λr d hq=>?_
 cases r with
 |error e=>exact hx w_ σ H s e d I hq
 |ok b=>
  cases b with
  |ret u=>exact I.after hq
  |next=>exact False.elim hq
  |brk=>exact False.elim hq
  |cont=>exact False.elim hq
variable{x:Str}
def BS(F:fM X.prog X.w X.K X.mg X.base CX k f fd ps sp)(hr:cL k X.A)(hg:Gl X x)(hm:X.mg x=some (.ref f))(hk:keepIn X.K (.ref f)=true)(hb:Binds X.K fd ps ds)(hd:Vals oP ds)(hx:Passes CX X E)
  (ha:PA X (e::es) t) (hdb:(x==("__debug__":Str))=false:=by decide) (he:starEach (e::es) X.env=(false,eval e X.env)::starEach es X.env:=by rfl) (hpl:(backTo pos<|starEach es X.env).any (·.1)=false:=by rfl):
  PE X (.Call (.Name x p) (e::es) [] pos) (sh sp oP E t):=by
 intro a s σ H Q I h;refine wpAny_Call_Name_kw<|uc I hg hm ?_ hdb;refine callWith_K (h₀:=X.base) I.ok.mod.RM hk (bP (ha pos a s σ H _ I h) λc g ⟨d,H1,b,r,q⟩=>⟨b.wz,?_⟩) he hpl;exact zk F hr hb hd hx b r q
variable{A':Pos}{o:Expr}
def K4(he:PE X o ta)(c:NG X.K C)(hm:Meth X.K C m f)(F:fM X.prog X.w X.K X.mg X.base CX k f fd ps sp)(hr:cL k X.A)(hb:Binds X.K fd ps ds)(hd:Vals oP ds)(hx:Passes CX X E)(ha:PA X (e::es) t)
  (hst:starEach (e::es) X.env=(false,eval e X.env)::starEach es X.env:=by rfl) (hpl:(backTo pos<|starEach es X.env).any (·.1)=false:=by rfl)
  (ht:eval (.Call (.Attribute o m A') (e::es) [] pos) X.env=(do
   let ov<-eval o X.env
   standAt A'.atName
   let (f,first)<-holding [ov] (getMethod ov m pl)
   callWith pos f first (backTo pos<|starEach (e::es) X.env) (backToKw pos<|keywordEach [] X.env)):=by rfl):
  PE X (.Call (.Attribute o m A') (e::es) [] pos) (sj C m sp oP E ta t):=by
 intro b s σ H Q I h;refine methodCall_KW (pl:=pl) (bP (he b s σ H _ I h) λu n ⟨x,H1,g,p,a,B,fs,j,v,l,q⟩=>?_) ht;subst j;obtain rfl:u=Value.ref a:=p;refine o7 g v c hm l ?_;refine callWith_K (first:=[.ref a]) (h₀:=X.base) I.ok.mod.RM hm.kp (bP (ha pos b n σ H1 _ g q) λus z ⟨vs,y,d,r,i⟩=>⟨d.wz,?_⟩) hst hpl
 exact zk (us:=.ref a::us) (vs:=.ref a::vs) F hr hb hd hx d (.cons rfl r) i
def FZ(he:PE X o ta)(c:NG X.K C)(hm:Meth X.K C m f)(F:fM X.prog X.w X.K X.mg X.base CX k f fd ps sp)(hr:cL k X.A)(hb:Binds X.K fd ps ds)(hd:Vals oP ds)(hx:Passes CX X E)
  (ht:eval (.Call (.Attribute o m A') [] [] pos) X.env=(do
   let ov<-eval o X.env
   standAt A'.atName
   let (f,first)<-holding [ov] (getMethod ov m pl)
   callWith pos f first (backTo pos<|starEach [] X.env) (backToKw pos<|keywordEach [] X.env)):=by rfl):
  PE X (.Call (.Attribute o m A') [] [] pos) (sj C m sp oP E ta ui):=by
 intro b s σ H Q I h;refine methodCall_KW (pl:=pl) (bP (he b s σ H _ I h) λu j ⟨x,H1,d,g,a,n,fs,e,i,l,q⟩=>?_) ht;subst e;obtain rfl:u=Value.ref a:=g;refine o7 d i c hm l ?_;exact PySem.W.callWith_K0 (first:=[.ref a]) d.wz hm.kp<|zk (us:=[.ref a]) (vs:=[.ref a]) F hr hb hd hx d (.cons rfl .nil) q
structure Mk(K:Frag)(C f:Addr):Prop where
 makes:makesIn K C=true
 init:findIn K (.ref C) "__init__"=some (some<|.ref f)
 fn:isFn K (.ref f)=true
 kp:keepIn K (.ref C)=true
def F0{σ:St}(M:Mk X.K C f)(F:fM X.prog X.w X.K X.mg X.base CX k f fd ps sp)(hr:cL (k+1) X.A)(hb:Binds X.K fd ps ds)(hd:Vals oP ds)
  (hx:Passes CX X E) (I:Inv X w_ σ H s) (r:Vals vs us)
  (h:∀x dx,H x=none->H dx=none->dx≠x->sp (.ref x::(vs++oP)) (upd (upd H dx<|.own x) x<|.ins C dx []) (λv H2=>v=.bE/\Q (.ref x) H2) E):
  wpAny (model X.prog X.w) X.A (call (.ref C) us) (EP X w_ σ Q) X.xe s:=by
 have hq:=h (s.heap.objs.size+1) s.heap.objs.size (I.bq.fresh<|le_succ _) (I.bq.fresh<|dy _)<|j9<|Wd _;have b:=Inv.made (C:=C) I;have c:Vals (V.ref (s.heap.objs.size+1)::(vs++oP)) (Value.ref (s.heap.objs.size+1)::(us++ds)):=.cons rfl<|r.append hd;have n:(Value.ref (s.heap.objs.size+1)::us++ds).length=ps.length:=by
  have e:=c.length;rw[F.len _ _ _ _ hq]at e;exact e.symm
 refine wpAny_call (FY (f:=f) I.wz M.makes M.init (beq_iff_eq.mp M.fn) (codeAny_mono (F.run _ X.stack _ _ ⟨Value.ref (s.heap.objs.size+1)::us,[]⟩ (Value.ref (s.heap.objs.size+1)::(us++ds)) _ _ E (hr.make C us [])
  (b.RX.make C us []) (hb _ (Value.ref (s.heap.objs.size+1)::us) b.wz n) c hq) λr o a=>?_))
 cases r with
 |error e=>exact hx w_ σ _ _ e o b a
 |ok i=>
  cases i with
  |ret u=>
   obtain⟨v,m,l,d,j,g⟩:=b.after a;subst j;exact⟨d,⟨V.ref<|s.heap.objs.size+1,m,l,rfl,g⟩⟩
  |next=>exact False.elim a
  |brk=>exact False.elim a
  |cont=>exact False.elim a
def BU(M:Mk X.K C f)(F:fM X.prog X.w X.K X.mg X.base CX k f fd ps sp)(hr:cL (k+1) X.A)(hg:Gl X x)(hm:X.mg x=some (.ref C))(hb:Binds X.K fd ps ds)(hd:Vals oP ds)(hx:Passes CX X E)
  (ha:PA X (e::es) t) (hdb:(x==("__debug__":Str))=false:=by decide) (he:starEach (e::es) X.env=(false,eval e X.env)::starEach es X.env:=by rfl) (hpl:(backTo pos<|starEach es X.env).any (·.1)=false:=by rfl):
  PE X (.Call (.Name x p) (e::es) [] pos) (sk C sp oP E t):=by
 intro a s σ H Q I h;refine wpAny_Call_Name_kw<|uc I hg hm ?_ hdb;refine callWith_K (h₀:=X.base) I.ok.mod.RM M.kp (bP (ha pos a s σ H _ I h) λc g ⟨d,H1,b,r,q⟩=>⟨b.wz,?_⟩) he hpl;exact F0 M F hr hb hd hx b r q
variable{ks:f_}
structure Pu(K:Frag)(fd:FuncData)(ps ks:f_)(g:f'->f'->f')(gV:u_->u_->u_):Prop where
 to:∀(s:Shared) (us ws:f'),K.In s.heap->(g us ws).length=ps.length->BindsTo s fd ⟨us,ks.zip ws⟩ (ps.zip<|g us ws)
 rel:∀ {vs:u_} {us:f'} {zs:u_} {ws:f'},Vals vs us->Vals zs ws->Vals (gV vs zs) (g us ws)
structure lg(N P:f_)(sc:Scope):Prop where
 kind:sc.kind=.function
 co:sc.isCoroutine=false
 gen:sc.isGenerator=false
 nd:N.Nodup
 pre:N.take P.length=P
 par:∀x∈P,sc.names.lookup x=some .local∨sc.names.lookup x=some .cell
 Ru:∀y∈sc.names,y.2≠.free
theorem sr{kindOf:Str->Option NameKind}{x:Str}:∀ {binds:List (Str × Value)} {m:b_},(∀v,(x,v)∉binds)->bindL kindOf binds m x=m x
 | [],_,_=>rfl
 |(n,v)::r,m,h=>by
  unfold bindL;rw[sr λw a=>h w<|fz _ a]
  split
  ·have:x≠n:=by rintro rfl;exact h v fA
   simp[this]
  ·rfl
theorem sx{kindOf:Str->Option NameKind}{x:Str}:∀ {binds:List (Str × Value)} {m:b_},(∀v,(x,v)∉binds)->bindC kindOf binds m x=m x
 | [],_,_=>rfl
 |(n,v)::r,m,h=>by
  unfold bindC;rw[sx λw a=>h w<|fz _ a]
  split
  ·rfl
  ·have:x≠n:=by rintro rfl;exact h v fA
   simp[this]
theorem sy{kindOf:Str->Option NameKind}{x:Str}{v:Value}:∀ {P:f_} {vs:f'} {i:Nat} {m:b_},P.Nodup->P[i]?=some x->vs[i]?=some v->kindOf x=some .local->
  bindL kindOf (P.zip vs) m x=some v
 | [],_,_,_,_,h,_,_=>by simp at h
 |_::_,[],_,_,_,_,h,_=>by simp at h
 |p::P,w::vs,0,m,b,h1,a,hk=>by
  simp at h1 a;subst h1;subst a
  show bindL kindOf ((p,w)::P.zip vs) m p=_;unfold bindL;rw[sr λv c=>(m3.mp b).1 (List.of_mem_zip c).1,if_pos hk]
  simp
 |p::P,w::vs,i+1,m,b,h1,a,hk=>by
  show bindL kindOf ((p,w)::P.zip vs) m x=_;unfold bindL;exact sy (i:=i) (m3.mp b).2 (by simpa using h1) (by simpa using a) hk
theorem sD{kindOf:Str->Option NameKind}{x:Str}{v:Value}:∀ {P:f_} {vs:f'} {i:Nat} {m:b_},P.Nodup->P[i]?=some x->vs[i]?=some v->kindOf x≠some .local->
  bindC kindOf (P.zip vs) m x=some v
 | [],_,_,_,_,h,_,_=>by simp at h
 |_::_,[],_,_,_,_,h,_=>by simp at h
 |p::P,w::vs,0,m,b,h1,a,hk=>by
  simp at h1 a;subst h1;subst a
  show bindC kindOf ((p,w)::P.zip vs) m p=_;unfold bindC;rw[sx λv c=>(m3.mp b).1 (List.of_mem_zip c).1,if_neg hk]
  simp
 |p::P,w::vs,i+1,m,b,h1,a,hk=>by
  show bindC kindOf ((p,w)::P.zip vs) m x=_;unfold bindC;exact sD (i:=i) (m3.mp b).2 (by simpa using h1) (by simpa using a) hk
noncomputable def start(N:f_)(vs:u_):St:=vs.map some++List.replicate (N.length-vs.length) none
noncomputable def wJ(CX:Fw)(P:Program)(w:World)(K:Frag)(mg:b_)(base:Heap)(N:f_)(qual:Str)(scope:Scope)(f:Addr)(cd:Value)(A:Around)(outer:List Env)(s:Shared)(H:Hp)(E:XK):Cx where
 prog:=P
 w:=w
 K:=K
 mg:=mg
 base:=base
 A:=A.deeper (envOfC qual scope s.heap.objs.size f cd)
 N:=N
 s₀:=s
 H₀:=H
 env:=envOfC qual scope s.heap.objs.size f cd
 outer:=outer
 stack:=envOfC qual scope s.heap.objs.size f cd::outer
 ex:=[]
 calm:=true
 fn:=λ_=>true
 pn:=[]
 xe:=λe c=>wpAny (model P w) (A.deeper<|envOfC qual scope s.heap.objs.size f cd) (leaving (envOfC qual scope s.heap.objs.size f cd) e) (λ_ a=>CX outer H s E e a) (λb a=>CX outer H s E b a) c
variable{sc:Scope}
def wK(h:sc.names.lookup x=some .cell):∃c,(cellsFrom n sc.names []).lookup x=some c:=by
 have q:=cellsFrom_some sc.names n []<|.inl h;exact Option.isSome_iff_exists.mp q
variable{qual:Str}{scope:Scope}
def Dv{cd:Value}{s1:Shared} 
  (S:lg N ps scope) (hd:A.handled=none) (e0:zj P w K mg base A outer s H) (hl:vs.length=ps.length) (r:Vals vs us)
  (x:InCallC s s.heap.objs.size (bindL (envOfC qual scope s.heap.objs.size f cd).kindOf (ps.zip us) λ_=>none) (cellsFrom (s.heap.objs.size+1) scope.names []) (bindC (envOfC qual scope s.heap.objs.size f cd).kindOf (ps.zip us) λ_=>none) s1):
  Inv (wJ CX P w K mg base N qual scope f cd A outer s H E) [] (start N vs) H s1:=by
 have o:ps.length<=N.length:=by have:=BA List.length S.pre;rw[ri]at this;omega
 obtain⟨h1,B,rfl,hk⟩:=x.done;have g:∀b:Addr,b∉(wJ CX P w K mg base N qual scope f cd A outer s H E).ex:=λb z=>absurd (show b∈([]:l_)from z) (by simp)
 refine⟨⟨e0.mod,S.kind,rfl,rfl,dy _,λy z c h1 d=>?_,λy hy=>?_,λy c _ h=>?_,λ_=>hd,Around.frames_deeper e0.frames,.inr ⟨rfl,rfl⟩,λb z=>absurd z<|g b,e0.bs,e0.Nx,λb _ _=>g b,λb z=>absurd z<|g b,e0.nR,e0.Rt⟩,
  rfl,e0.bare,Un.kept hk,⟨_,x.toInCall.ns,λi y v h1 d C=>?_⟩,λy c h=>⟨_,x.cell y c h⟩,e0.bq.fresh<|dy _,λy c h=>?_,λp j=>absurd (show p∈([]:aO0)from j) (by simp),e0.bq.kept hk,?_⟩
 ·exact name_of_addr x.apart (E3 h1)<|E3 d
 ·have hy:scope.names.lookup y=some .cell∨scope.names.lookup y=some .free:=hy
  rcases hy with hy|hy
  ·exact wK hy
  ·exact absurd rfl<|S.Ru _<|E3 hy
 ·exact Nat.le_of_lt<|x.above y c<|E3 h
 ·have hi:i<vs.length:=by
   unfold start at d
   by_cases hi:i<vs.length
   ·exact hi
   ·rw[qz (by simpa using hi)]at d
    rw[List.getElem?_replicate]at d
    split at d<;>cases d
  have t:vs[i]?=some v:=by
   unfold start at d;rw[A5 (by simpa using hi),ed]at d
   cases e:vs[i]? with
   |none=>rw[e]at d;cases d
   |some a=>rw[e]at d;cases d;rfl
  obtain⟨u,hu,m⟩:=r.get t;have j:ps[i]?=some y:=by
   rw[<-S.pre,List.getElem?_take_of_lt (by omega)];exact h1
  have l:ps.Nodup:=by rw[<-S.pre];exact S.nd.sublist<|take_sublist _ _
  refine⟨u,m,?_⟩
  rcases S.par y (ih j)with k|k
  ·exact .inl ⟨k,sy l j hu k⟩
  ·obtain⟨c,e⟩:=wK (n:=s.heap.objs.size+1) k;refine .inr ⟨.inl k,c,e,?_⟩;have q:=x.cell y c e;rw[sD l j hu (by show scope.names.lookup y≠_;rw[k];decide)]at q
   exact q
 ·exact e0.bq.fresh<|Nat.le_of_lt<|x.above y c<|E3 h
 ·unfold start;show _=N.length;rw[eR,b5,length_replicate]
  omega
variable{doc pm cY oc:Value}{an od:h_}{osl:Array (g_)}
def Ga{k:Nat}{params:Arguments}{dV kV ct:Value} 
  (lk:K.lookup f=some ⟨oc,od,.func<|fnOf name qual params body scope dV kV doc pm an cY ct,osl⟩) (hcd:codeIn K cY qual=true) (S:lg N ps scope)
  (len:∀vs H Q E,sp vs H Q E->vs.length=ps.length)
  (fe:∀(A:Around) (outer:List Env) (s:Shared) (H:Hp) (vs:u_) (Q:VK) (E:XK),cL k (A.deeper<|envOfC qual scope s.heap.objs.size f cY)->sp vs H Q E->
   ∃t,yQ (wJ CX P w K mg base N qual scope f cY A outer s H E) body t/\t {nx:=λ_ H'=>Q .bE H',rt:=Q} (start N vs) H):
  fM P w K mg base CX (k+1) f (fnOf name qual params body scope dV kV doc pm an cY ct) ps sp:=by
 refine⟨len,λA outer s H z F vs Q E m d hb r h=>?_⟩;have L:=len _ _ _ _ h;have C:K.In s.heap:=d.mod.RM.keeps λb o e=>(d.bs b o e).1;have p:s.heap.NoLimit:=d.mod.nolimit.keeps λb o e=>(d.bs b o e).1;have a:∀y∈ps.zip F,scope.names.lookup y.1=some .local∨(scope.names.lookup y.1=some .cell/\((cellsFrom (s.heap.objs.size+1) scope.names []).lookup y.1).isSome=true):=λ⟨n,v⟩ hy=>by
  rcases S.par n (List.of_mem_zip hy).1 with q|q
  ·exact .inl q
  ·exact .inr ⟨q,cellsFrom_some _ _ _<|.inl q⟩
 refine codeAny_call_function m.depth (C _ _ lk) rfl S.co S.gen rfl (PySem.W.codeRec_of C hcd)<|hb _ _ _ _ ?_;refine wpAny_newFunctionEnv_cells S.kind a λD he B x=>?_;subst he;refine⟨p.keeps x.toInCall.keep,codeAny_func ?_⟩;obtain⟨t,G,hq⟩:=fe A outer s H vs Q E (m.deeper _) h;have I:Inv (wJ CX P w K mg base N qual scope f cY A outer s H E) [] (start N vs) H B:=Dv S m.hd d L r x;refine Bz (G [] B (start N vs) H _ I hq) (λM l c=>?_) λe l c=>c;have g:∀ {i:St} {H':Hp} {v:V} {u:Value},Inv (wJ CX P w K mg base N qual scope f cY A outer s H E) [] i H' l->RelV v u->Q v H'->CE outer P w H s Q u l:=
  λ{i H' v u} J j q=>⟨v,H',J.os,J.bare,J.base,J.bq,j,q⟩
 cases M with
 |ret u=>
  obtain⟨v,i,H',J,j,q⟩:=c;exact g J j q
 |next=>
  obtain⟨i,H',J,q⟩:=c;exact g (v:=V.bE) (u:=Value.none) J rfl q
 |brk=>
  obtain⟨_,_,_,q⟩:=c;exact False.elim q
 |cont=>
  obtain⟨_,_,_,q⟩:=c;exact False.elim q
def Pw(r:u_->Hp->VK->Prop)(t:TA):TE:=λσ H Q=>t σ H λa H1=>r a H1 Q
variable{id:String}{r:u_->Hp->VK->Prop}
def Gb(hc:b6 X (.builtin id) r)(hg:Gl X x)(hm:X.mg x=none)(hv:bootBuiltins x=some (.builtin id))(ha:PA X (e::es) t)(hn:x≠"__name__":=by decide)(hdb:(x==("__debug__":Str))=false:=by decide)
  (he:starEach (e::es) X.env=(false,eval e X.env)::starEach es X.env:=by rfl) (hpl:(backTo pos<|starEach es X.env).any (·.1)=false:=by rfl):PE X (.Call (.Name x p) (e::es) [] pos) (Pw r t):=by
 intro a s σ H Q I h;refine wpAny_Call_Name_kw<|lY I hg hm hv ?_ hn hdb;exact PyProof.Rows.callWith_builtin1 (bP (ha pos a s σ H _ I h) λf i ⟨g,H1,d,b,c⟩=>hc a i σ H1 g f Q d b c) he hpl
variable{T:String}
def Dw(hc:b6 X (.type T) r)(hg:Gl X x)(hm:X.mg x=none)(hv:bootBuiltins x=some (.type T))(ha:PA X (e::es) t)(hn:x≠"__name__":=by decide)(hdb:(x==("__debug__":Str))=false:=by decide)
  (he:starEach (e::es) X.env=(false,eval e X.env)::starEach es X.env:=by rfl) (hpl:(backTo pos<|starEach es X.env).any (·.1)=false:=by rfl):PE X (.Call (.Name x p) (e::es) [] pos) (Pw r t):=by
 intro a s σ H Q I h;refine wpAny_Call_Name_kw<|lY I hg hm hv ?_ hn hdb;exact F1 (bP (ha pos a s σ H _ I h) λf i ⟨g,H1,d,b,c⟩=>hc a i σ H1 g f Q d b c) he hpl
end L2
namespace HT
open PySem PyProof.Rows PySem.SeqAt
open PySem.AutoSeq1 (wpAny_loadPart')
variable{prog:Program}{w:World}{A:Around}{E:c_}{s:Shared}{t:Addr}{vs:f'}
def K5{b:Addr}{ws:f'}{Q:c_}(ht:IsTup s.heap t vs.toArray)(hb:IsTup s.heap b ws.toArray)(hv:vs≠[])
  (h1:ws=[]->Q (.ref t) s) (h2:ws≠[]->Q (.ref s.heap.objs.size) {s with heap:=s.heap.push {cls:=.type "tuple",data:=.seq (vs++ws).toArray}})
  (hsz:vs.length+ws.length<=sizeLine):wpAny (model prog w) A (binaryOp .Add (.ref t)<|.ref b) Q E s:=by
 obtain⟨⟨cls,q,data,l⟩,i,hc,n,m⟩:=id ht;obtain⟨⟨p,g,j,c⟩,a,d,o,f⟩:=id hb
 simp only at hc m d f
 subst hc m d f;have e:vs.toArray++ws.toArray=(vs++ws).toArray:=by simp
 by_cases h:ws=[]
 ·exact concat_meets ⟨_,i,rfl⟩ ⟨_,a,rfl⟩ noFill_tuple_add seq_tuple_add slot_tuple_add entry_tuple_add (args_tuple_add_2 _ _)
   (tuple_addW1 t b vs.toArray ws.toArray n o q g l c (by simpa using hv) (by simp[h])) ⟨i,a,h1 h⟩
 ·refine concat_meets ⟨_,i,rfl⟩ ⟨_,a,rfl⟩ noFill_tuple_add seq_tuple_add slot_tuple_add entry_tuple_add (args_tuple_add_2 _ _)
   (tuple_addW2 t b vs.toArray ws.toArray n o q g l c (by simpa using hv) (by simpa using h) (by rw[List.size_toArray,List.size_toArray];exact hsz)) ⟨i,a,?_⟩
  rw[e];exact h2 h
noncomputable def dW(n d:Nat):j_->Nat
 |none=>d
 |some v=>if v<0 then(v+(n:Int)).toNat else min v.toNat n
def lh(n d:Nat):dW n d none=d:=rfl
def jH(n d k:Nat):dW n d (some (k:Int))=min k n:=by
 show(if(k:Int)<0 then((k:Int)+(n:Int)).toNat else min (k:Int).toNat n)=min k n
 rw[if_neg (by omega),toNat_natCast]
def Px(n d:Nat)(hd:d<=n)(o:j_):dW n d o<=n:=by
 cases o with
 |none=>exact hd
 |some v=>
  show(if v<0 then(v+(n:Int)).toNat else min v.toNat n)<=n
  by_cases a:v<0
  ·rw[if_pos a];omega
  ·rw[if_neg a];exact Nat.min_le_right _ _
def BV(v:Int)(n d:Nat):(if v<0 then max (v+(n:Int)) 0 else min v (n:Int))=((dW n d (some v):Nat):Int):=by
 show(if v<0 then max (v+(n:Int)) 0 else min v (n:Int))=(((if v<0 then(v+(n:Int)).toNat else min v.toNat n):Nat):Int)
 by_cases a:v<0
 ·simp only[if_pos a];omega
 ·simp only[if_neg a];omega
def zl(lo hi:j_)(n:Nat):Builtin.Slice.sliceAdjust lo hi 1 (n:Int)=(((dW n 0 lo:Nat):Int),((dW n n hi:Nat):Int)):=by
 have h1:¬((1:Int)<0):=by omega
 unfold Builtin.Slice.sliceAdjust;simp only[h1,if_false];refine Prod.ext ?_ ?_
 ·cases lo with
  |none=>rfl
  |some v=>exact BV v n 0
 ·cases hi with
  |none=>rfl
  |some v=>exact BV v n n
def zm(i j:Nat):Builtin.Slice.slicePlaces (i:Int) (j:Int) 1=j-i:=by
 unfold Builtin.Slice.slicePlaces;have h1:(1:Int)>0:=by omega
 simp only[h1,if_true,Int.ediv_one]
 split<;>omega
variable{v:Value}
def o8{o:j_}{Q:j_->Shared->Prop}(p:IsPart v o)(h:Q o s):wpAny (model prog w) A (Builtin.Slice.slicePartIndex v) Q E s:=by
 cases p with
 |none=>exact slicePart_none h
 |int i t=>exact slicePart_int h
variable{lo:j_}{sl:Addr}{vl vu:Value}
def ma{hi:j_}{n:Nat}{Q:Int × Int × Nat->Shared->Prop}(hs:s.heap.IsSliceOf sl vl vu .none)(pl:IsPart vl lo)(pu:IsPart vu hi)
  (h:Q (((dW n 0 lo:Nat):Int),1,dW n n hi-dW n 0 lo) s):wpAny (model prog w) A (Builtin.Slice.sliceApplied (.ref sl)<|pure (n:Int)) Q E s:=by
 obtain⟨d,b,c,a⟩:=id hs;unfold Builtin.Slice.sliceApplied Builtin.Slice.sliceFields;refine wpAny_bind<|wpAny_bind<|wpAny_field b a (x:=vl) rfl<|wpAny_bind<|wpAny_field b a (x:=vu) rfl<|wpAny_bind<|wpAny_field b a (x:=.none) rfl<|wpAny_pure ?_;refine wpAny_bind<|slicePart_none ?_;show wpAny _ _ (if((1:Int)==0)=true then _ else _) _ _ s
 rw[if_neg a_]
 refine wpAny_bind<|o8 pl<|wpAny_bind<|o8 pu<|wpAny_bind<|wpAny_pure ?_;show wpAny _ _ (match Builtin.Slice.sliceAdjust lo hi 1 (n:Int)with|(lo,hi)=>pure (lo,(1:Int),Builtin.Slice.slicePlaces lo hi 1)) _ _ s
 rw[zl lo hi n];show wpAny _ _ (pure (((dW n 0 lo:Nat):Int),(1:Int),Builtin.Slice.slicePlaces ((dW n 0 lo:Nat):Int) ((dW n n hi:Nat):Int) 1)) _ _ s;rw[zm];exact wpAny_pure h
def Gd(xs:k_)(i k:Nat):((List.range k).filterMap λ(m:Nat)=>xs[((i:Int)+(m:Int)*1).toNat]?).toArray=((xs.toList.drop i).take k).toArray:=by
 have e:(λ(m:Nat)=>xs[((i:Int)+(m:Int)*1).toNat]?)=λm=>xs[i+m]?:=by
  funext m
  have:((i:Int)+(m:Int)*1).toNat=i+m:=by omega
  rw[this]
 rw[e]
 have:=pick_run xs i k
 rw[List.filterMap_map]at this;have e2:((λx=>xs[x]?) ∘ λx=>i+x)=λm=>xs[i+m]?:=rfl;rw[e2]at this;rw[this]
variable{Q:c_}{items:k_}
def lj{hi:j_}(ht:IsTup s.heap t items)(hs:s.heap.IsSliceOf sl vl vu .none)(pl:IsPart vl lo)(pu:IsPart vu hi)
  (hw:¬(dW items.size 0 lo=0/\dW items.size items.size hi=items.size))
  (h:Q (.ref s.heap.objs.size) {s with heap:=s.heap.push {cls:=.type "tuple",data:=.seq ((items.toList.drop<|dW items.size 0 lo).take<|dW items.size items.size hi-dW items.size 0 lo).toArray}})
  (hsz:items.size<=sizeLine):wpAny (model prog w) A (getItem (.ref t)<|.ref sl) Q E s:=by
 have a:sizeOk (.seq ((items.toList.drop<|dW items.size 0 lo).take<|dW items.size items.size hi-dW items.size 0 lo).toArray):=by
  show((items.toList.drop<|dW items.size 0 lo).take<|dW items.size items.size hi-dW items.size 0 lo).toArray.size<=sizeLine;rw[List.size_toArray,length_take,length_drop,Array.length_toList]
  omega
 have hj:dW items.size items.size hi<=items.size:=Px _ _ (Nat.le_refl _) hi;obtain⟨f,b,e,g⟩:=id hs;have c:s.TypeIs (.ref sl) "slice":=⟨f,b,e⟩;unfold getItem
 try with_reducible refine wpAny_holding ?_
 first|refine wpAny_bind (wpAny_pure ?_)|skip
 refine wpAny_bind (wpAny_sequenceKey ht.typeIs a_ ?_)
 refine wpAny_bind (wpAny_callSpecial?_slot (name:=("__getitem__":Str)) ht.typeIs PyProof.Rows.slot_tuple_getitem
  (wpAny_call_entry PyProof.Rows.slot_tuple_getitem ht.typeIs entry_tuple_getitem ?_ (args_tuple_getitem _ _)))
 show wpAny _ _ (Builtin.Tuple.tupleItemsOf (.ref t) >>= _) _ _ s;refine wpAny_bind<|tupleItemsOf_ ht ?_;refine wpAny_bind<|wpAny_typeOf c ?_;rw[if_pos a_]
 refine wpAny_bind<|ma hs pl pu ?_;have d:¬((((dW items.size 0 lo:Nat):Int)==0&&(1:Int)==1&&(dW items.size items.size hi-dW items.size 0 lo)==items.size)=true):=by
  intro q;rw[Bool.and_eq_true,Bool.and_eq_true]at q;have j:((dW items.size 0 lo:Nat):Int)=0:=eq_of_beq q.1.1;have i:dW items.size items.size hi-dW items.size 0 lo=items.size:=eq_of_beq q.2;exact hw ⟨by omega,by omega⟩
 show wpAny _ _ (if(((dW items.size 0 lo:Nat):Int)==0&&(1:Int)==1&&(dW items.size items.size hi-dW items.size 0 lo)==items.size)=true then _ else _) _ _ s
 rw[if_neg d,Gd]
 first
  |exact wpAny_bind (m:=Builtin.Tuple.tupleExact _)<|wpAny_newObj_type (wpAny_pure ⟨_,rfl,wpAny_pure h⟩) a
  |exact wpAny_bind (m:=Builtin.Tuple.tupleExact _)<|wpAny_newObj_type (wpAny_bind<|wpAny_pure<|wpAny_pure ⟨_,rfl,wpAny_pure h⟩) a
  |exact wpAny_bind<|wpAny_bind (m:=Builtin.Tuple.tupleExact _)<|wpAny_newObj_type (wpAny_pure<|wpAny_pure ⟨_,rfl,wpAny_pure h⟩) a
  |exact wpAny_bind<|wpAny_bind (m:=Builtin.Tuple.tupleExact _)<|wpAny_newObj_type (wpAny_pure ⟨_,rfl,wpAny_pure h⟩) a
end HT
namespace L2
open PySem PySem.Spec PyProof.Rows
abbrev TO:=St->Hp->(Option Int->Hp->Prop)->Prop
def PO(X:Cx)(e:Option Expr)(t:TO):Prop:=
 ∀(w_:aO0) (s:Shared) (σ:St) (H:Hp) (Q:j_->r_),Inv X w_ σ H s->t σ H Q->
  wpAny (model X.prog X.w) X.A (evalPart e X.env) (λu a=>∃o H',Inv X w_ σ H' a/\IsPart u o/\Q o H') X.xe s
def uj:TO:=λ_ H Q=>Q none H
def Ge(t:TE):TO:=λσ H Q=>t σ H λx H1=>∃i,x=.int i/\Q (some i) H1
variable{ns:e_}
def intsAre_of:∀ {us:f'},Vals (ns.map V.int) us->IntsAre us ns:=by
 induction ns with
 |nil=>intro us r;rw[map_nil]at r;cases r;exact .nil
 |cons n ns c=>
  intro us r;rw[m5]at r
  cases r with
  |cons a b=>
   obtain⟨t,e⟩:=a;subst e;exact .cons n t<|c b
variable{X:Cx}
def K6:PO X none uj:=by
 intro a s σ H Q I h;rw[evalPart_none];exact ek ⟨none,H,I,.none,h⟩
variable{e:Expr}{te:TE}
def K7(h:PE X e te):PO X (some e) (Ge te):=by
 intro a s σ H Q I d;rw[evalPart_some];refine bP (h a s σ H _ I d) λu g ⟨x,H1,f,b,c⟩=>?_;obtain⟨i,rfl,q⟩:=c;obtain⟨t,rfl⟩:=b;exact⟨some i,H1,f,.int i t,q⟩
variable{lo hi:Option Expr}
def Py(X:Cx)(r:V->j_->j_->Hp->VK->Prop):Prop:=
 ∀(w_:aO0) (s:Shared) (σ:St) (H:Hp) (x:V) (v vl vu:Value) (lo hi:j_) (sl:Addr) (Q:VK),Inv X w_ σ H s->RelV x v->s.heap.IsSliceOf sl vl vu .none->IsPart vl lo->IsPart vu hi->r x lo hi H Q->
  ∃T id,typeLookup (.type T) "__getitem__"=pure (some<|.builtin id)/\s.TypeIs v T/\wpAny (model X.prog X.w) X.A (getItem v<|.ref sl) (EP X w_ σ Q) X.xe s
def U5(r:V->j_->j_->Hp->VK->Prop)(te:TE)(tl th:TO):TE:=λσ H Q=>te σ H λx H1=>tl σ H1 λl a=>th σ a λu b=>r x l u b Q
variable{pos p2:Pos}{tl:TO}{th:TO}
def Gf{r:V->j_->j_->Hp->VK->Prop}(hr:Py X r)(he:PE X e te)(hl:PO X lo tl)(hu:PO X hi th):PE X (.Subscript e (.Slice lo hi none p2) pos) (U5 r te tl th):=by
 intro a s σ H Q I h;refine Subscript_<|bP (he a s σ H _ I h) λv J ⟨x,H1,D,m,o⟩=>?_;refine wpAny_Slice<|bP (hl a J σ H1 _ D o) λd G ⟨l,p,y,C,i⟩=>bP (hu a G σ p _ y i) λf c ⟨u,g,E,t,j⟩=>?_;rw[evalPart_none];refine ek ?_;have n:Inv X a σ g {c with heap:=c.heap.push {cls:=.type "slice",data:=.fields #[d,f,.none]}}:=E.kept (t':=c.toks) λb ob q=>ef _ q;obtain⟨T,id,z,F,B⟩:=hr a {c with heap:=c.heap.push {cls:=.type "slice",data:=.fields #[d,f,.none]}} σ g x v d f l u c.heap.objs.size Q n m (Heap.IsSliceOf.new ..) C t j;show wpAny (model X.prog X.w) X.A (subscriptTail e (.Slice lo hi none p2) v<|.ref c.heap.objs.size) (EP X a σ Q) X.xe {c with heap:=c.heap.push {cls:=.type "slice",data:=.fields #[d,f,.none]}};exact tail_any (ops:=[.ref c.heap.objs.size,v]) F z B (by with_unfolding_all rfl)
noncomputable def jT(xs:u_)(lo hi:j_):u_:=(xs.drop<|HT.dW xs.length 0 lo).take<|HT.dW xs.length xs.length hi-HT.dW xs.length 0 lo
def nC(xs:u_)(lo hi:j_):(jT xs lo hi).length<=xs.length:=by
 unfold jT;rw[ri,nt]
 omega
def K8(K:Frag):V->j_->j_->Hp->VK->Prop:=λx b hi H Q=>∃a xs,x=.ref a/\aL K H a xs/\
 ¬(HT.dW xs.length 0 b=0/\HT.dW xs.length xs.length hi=xs.length)/\∀p,H p=none->Q (.ref p) (upd H p<|.tup<|jT xs b hi)
def Pz:Py X (K8 X.K):=by
 intro i s σ H x v t u e hi w Q I p n m j h;obtain⟨a,d,rfl,hx,l,q⟩:=h
 cases p
 obtain⟨f,r,g,hz⟩:=I.tuple hx;have c:f.toArray.size=d.length:=by rw[hO];exact r.length.symm
 refine⟨"tuple",_,PyProof.Rows.slot_tuple_getitem.lookup,g.typeIs,?_⟩;refine HT.lj g n m j (by rw[c];exact l) ?_ (by rw[c];exact hz)
 rw[c];refine⟨.ref s.heap.objs.size,_,I.laid (t':=s.toks) (o:=.tup<|jT d e hi) (λb ob q=>ef _ q) (dy _) ?_,rfl,q _<|I.bq.fresh<|dy _⟩;exact⟨gr (nC d e hi) hz,_,(r.drop<|HT.dW d.length 0 e).take<|HT.dW d.length d.length hi-HT.dW d.length 0 e,IsTup.new _ _⟩
def RY(K:Frag):R2:=λx y H Q=>∃a b xs ys,x=.ref a/\y=.ref b/\aL K H a xs/\aL K H b ys/\xs≠[]/\xs.length+ys.length<=sizeLine/\
 (ys=[]->Q (.ref a) H)/\(ys≠[]->∀p,H p=none->Q (.ref p) (upd H p<|.tup<|xs++ys))
def Vals.uk{xs:u_}{us:f'}(r:Vals xs us):us=[]↔xs=[]:=by
 cases r with
 |nil=>simp
 |cons _ _=>simp
def K9:eS X (binaryOp .Add) (RY X.K):=by
 intro f s σ H x y v u Q I A t h;obtain⟨a,b,j,n,rfl,rfl,r,hb,hx,hz,i,g⟩:=h
 cases A
 cases t
 obtain⟨p,d,m,_⟩:=I.tuple r;obtain⟨e,c,l,_⟩:=I.tuple hb;refine HT.K5 m l (λz=>hx<|d.uk.mp z) (λz=>⟨.ref a,H,I,rfl,i<|c.uk.mp z⟩) (λz=>?_) (by rw[<-d.length,<-c.length];exact hz)
 refine⟨.ref s.heap.objs.size,_,I.laid (t':=s.toks) (o:=.tup<|j++n) (λb ob q=>ef _ q) (dy _) ?_,rfl,g (λw=>z<|c.uk.mpr w) _<|I.bq.fresh<|dy _⟩;exact⟨by rw[eR];exact hz,_,d.append c,IsTup.new _ _⟩
noncomputable def Dx(n:Nat)(i:Int):Option Nat:=if 0<=i then(if i<n then some i.toNat else none)else if -(n:Int)<=i then some (i+n).toNat else none
noncomputable def wq{α:Type}(xs:List α)(i:Int):Option α:=(Dx xs.length i).bind λj=>xs[j]?
variable{i:Int}
def BW{n:Nat}{j:Nat}(h:Dx n i=some j):seqIndex? i n=some j/\j<n/\-(n:Int)<=i/\i<n:=by
 unfold Dx at h
 by_cases a:0<=i
 ·rw[if_pos a]at h
  by_cases h1:i<n
  ·rw[if_pos h1]at h;have e:i.toNat=j:=o6 h;exact⟨by rw[seqIndex_of a h1,e],by omega,by omega,h1⟩
  ·rw[if_neg h1]at h;cases h
 ·rw[if_neg a]at h
  by_cases h1:-(n:Int)<=i
  ·rw[if_pos h1]at h;have e:(i+n).toNat=j:=o6 h;exact⟨by rw[seqIndex_neg (by omega) h1,e],by omega,h1,by omega⟩
  ·rw[if_neg h1]at h;cases h
def um{α:Type}{xs:List α}{v:α}(h:wq xs i=some v):∃j,seqIndex? i xs.length=some j/\xs[j]?=some v/\j<xs.length/\-(xs.length:Int)<=i/\i<xs.length:=by
 unfold wq at h
 cases e:Dx xs.length i with
 |none=>rw[e]at h;cases h
 |some j=>
  rw[e]at h;obtain⟨h1,c,b,a⟩:=BW e;exact⟨j,h1,h,c,b,a⟩
def jI{α:Type}{xs:List α}{j:Nat}{v:α}(h:xs[j]?=some v):wq xs (j:Int)=some v:=by
 have hj:j<xs.length:=(ls.mp h).1;have e:Dx xs.length (j:Int)=some j:=by
  unfold Dx;rw[if_pos (by omega),if_pos (by omega)];simp
 unfold wq;rw[e];exact h
def Gg{α:Type}(xs:List α)(v:α):wq (xs++[v]) (-1)=some v:=by
 have a:(xs++[v]).length=xs.length+1:=by simp
 have e:Dx (xs++[v]).length (-1)=some xs.length:=by
  unfold Dx;rw[a,if_neg a_,if_pos (by omega)]
  congr 1
  omega
 unfold wq;rw[e];show(xs++[v])[xs.length]?=some v
 simp
def om(b:Expr):Prop:=∀o i,subscripted b false o i=operate [o,i] (getItem o i)
def PD(X:Cx)(r:R2):Prop:=
 ∀(value slice:Expr) (w_:aO0) (s:Shared) (σ:St) (H:Hp) (x y:V) (v u:Value) (Q:VK),Inv X w_ σ H s->RelV x v->RelV y u->r x y H Q->
  subscripted slice false v u=operate [v,u] (getItem v u)->wpAny (model X.prog X.w) X.A (subscriptTail value slice v u) (EP X w_ σ Q) X.xe s
def yR(X:Cx)(id:String)(r:V->u_->Hp->VK->Prop):Prop:=
 ∀(w_:aO0) (s:Shared) (σ:St) (H:Hp) (x:V) (xs:u_) (v:Value) (us:f') (Q:VK),Inv X w_ σ H s->RelV x v->Vals xs us->r x xs H Q->
  wpAny (model X.prog X.w) X.A (call (.builtin id) (v::us)) (EP X w_ σ Q) X.xe s
variable{a b:Expr}{ta tb:TE}
def RZ{r:R2}(hr:PD X r)(ha:PE X a ta)(hb:PE X b tb)(hs:om b):PE X (.Subscript a b pos) (uf r ta tb):=by
 intro c s σ H Q I h;exact Subscript_<|Pl ha hb I h λv u g x y f e i d q=>hr a b c g σ f x y v u Q e i d q<|hs _ _
def wL(K:Frag):R2:=λx y H Q=>∃p xs i v,x=.ref p/\y=.int i/\aw K H p xs/\wq xs i=some v/\Q v H
def Dy(K:Frag):R2:=λx y H Q=>∃p xs i v,x=.ref p/\y=.int i/\aL K H p xs/\wq xs i=some v/\Q v H
def U6:R2:=λx y H Q=>∃z i c,x=.str z/\y=.int i/\z.length<=sizeLine/\wq z.cps.toList i=some c/\Q (.str ⟨#[c]⟩) H
def La:PD X (wL X.K):=by
 intro c d a s σ H x y v u Q I C E h n;obtain⟨p,J,i,z,rfl,rfl,hq,he,q⟩:=h
 cases C
 obtain⟨t,rfl⟩:=E;obtain⟨f,r,e,hz⟩:=I.list hq;obtain⟨j,h1,D,G,A,o⟩:=um he;obtain⟨w,m,g⟩:=r.get D;have F:=r.length;have hn:=lZ;have b:EP X a σ Q w s:=⟨z,H,I,g,q⟩
 by_cases l:0<=i
 ·have hj:i.toNat=j:=by
   rw[seqIndex_of l o]at h1;exact o6 h1
  exact item_listR e.isList l (by omega) (by rw[hj];simpa using m) b n
 ·have hj:(i+(f.toArray.size:Int)).toNat=j:=by
   rw[seqIndex_neg (by omega) A]at h1
   rw[hO,<-F];exact o6 h1
  exact subscriptTail_builtinR (x:=w) e.isList.typeIs slot_list_getitem.lookup
   (wpAny_getItem_list_neg (Q:=λr B=>r=w/\EP X a σ Q r B) e.isList (by omega) (by rw[hO]<;>omega) (by omega) (by rw[hj];simpa using m) ⟨rfl,b⟩) n
def PF:PD X (Dy X.K):=by
 intro c d a s σ H x y v u Q I l B h o;obtain⟨p,G,i,z,rfl,rfl,hq,he,q⟩:=h
 cases l
 obtain⟨t,rfl⟩:=B;obtain⟨A,r,f,hz⟩:=I.tuple hq;obtain⟨j,h1,m,F,E,D⟩:=um he;obtain⟨w,n,e⟩:=r.get m;have C:=r.length;have hn:=lZ;have b:EP X a σ Q w s:=⟨z,H,I,e,q⟩;exact subscriptTail_builtinR (x:=w) f.typeIs slot_tuple_getitem.lookup
  (getItem_tuple (j:=j) (Q:=λr g=>r=w/\EP X a σ Q r g) f (by omega) (by omega) (by rw[hO,<-C];exact h1) (by simpa using n) ⟨rfl,b⟩) o
def zo:PD X U6:=by
 intro b a d s σ H x y v u Q I p f h n;obtain⟨z,i,c,rfl,rfl,hz,he,q⟩:=h;obtain⟨t,rfl⟩:=p;obtain⟨r,rfl⟩:=f;obtain⟨j,h1,g,w,l,e⟩:=um he;have o:z.cps.toList.length=z.length:=by simp[Str.length]
 rw[o]at h1 l e;have hn:=lZ;exact tail_any (typeIs_str s z t) slot_str_getitem.lookup (getItem_str (c:=c) (by
  have m:decide (i < -(2 ^ 63:Int))=false:=dt (by omega)
  have e2:decide (i ≥ 2 ^ 63)=false:=dt (by omega)
  rw[m,e2,Bool.or_false]) (by rw[h1];simpa using g) ⟨.str ⟨#[c]⟩,H,I.tok _,⟨_,rfl⟩,q⟩) n
def zp(its:f')(n j:Nat)(u:Value):Obj.mapSeq (·.setIfInBounds j u) {cls:=.type "list",data:=.seq its.toArray n}={cls:=.type "list",data:=.seq (its.set j u).toArray n}:=by
 simp[Obj.mapSeq]
theorem Inv.lst{w_:aO0}{σ:St}{H:Hp}{s:Shared}{p:Addr}{xs:u_}(I:Inv X w_ σ H s)(h:H p=some (.lst xs)):
  ∃(its:f') (n:Nat),Vals xs its/\s.heap.get? p=some {cls:=.type "list",data:=.seq its.toArray n}/\xs.length<=sizeLine:=by
 obtain⟨z,its,n,r,e⟩:=I.bq p _ h;exact⟨its,n,r,e,z⟩
variable{its its':f'}
def Inv.PH{w_:aO0}{σ:St}{H:Hp}{s:Shared}{p:Addr}{xs ys:u_}{n n':Nat}{f:Obj->Obj}(I:Inv X w_ σ H s)(h:H p=some (.lst xs))
  (ho:s.heap.get? p=some {cls:=.type "list",data:=.seq its.toArray n}) (hf:f {cls:=.type "list",data:=.seq its.toArray n}={cls:=.type "list",data:=.seq its'.toArray n'}) (r:Vals ys its') (hz:ys.length<=sizeLine) (t:Nat):
  Inv X w_ σ (upd H p<|.lst ys) {s with heap:=s.heap.update p f,toks:=t}:=by
 have e:(s.heap.update p f).get? p=some {cls:=.type "list",data:=.seq its'.toArray n'}:=by
  rw[Heap.get?_update_self f ho (by rw[hf]<;>rfl),hf]
 refine I.write (x:=p) (e:=p) (by rw[h];trivial) (.inl rfl) (λb u hb q=>(Heap.get?_update_other _ _<|Ne.symm hb).trans q) ⟨_,e⟩ ?_
 exact⟨hz,its',n',r,e⟩
def R0:V->V->V->Hp->(r_)->Prop:=λo i v H Q=>∃p xs k j,o=.ref p/\i=.int k/\H p=some (.lst xs)/\Dx xs.length k=some j/\Q (upd H p<|.lst<|xs.set j v)
def set_list:Pb X R0:=by
 intro b s σ H o i v C A u Q I x y w h;obtain⟨p,z,k,j,rfl,rfl,e,hj,q⟩:=h
 cases x
 obtain⟨t,rfl⟩:=y;obtain⟨a,n,r,c,hz⟩:=I.lst e;obtain⟨h1,B,l,g⟩:=BW hj;have d:=r.length;have hn:=lZ;have m:Inv X b σ (upd H p<|.lst<|z.set j v) {s with heap:=s.heap.update p (Obj.mapSeq (·.setIfInBounds j u))}:=
  I.PH e c (zp a n j u) (r.set w j) (by rw[length_set];exact hz) s.toks
 by_cases f:0<=k
 ·have hk:k.toNat=j:=by
   rw[seqIndex_of f g]at h1;exact o6 h1
  exact PySem.W.ki_setAt c f (by omega) (by rw[hO,<-d];exact g) (by rw[hk];exact⟨_,m,q⟩)
 ·have hk:(k+(a.toArray.size:Int)).toNat=j:=by
   rw[seqIndex_neg (by omega) l]at h1
   rw[hO,<-d];exact o6 h1
  exact PySem.W.ki_setBack c (by omega) (by rw[hO,<-d];exact l) (by omega) (by rw[hk];exact⟨_,m,q⟩)
def uo(lo hi:j_)(n:Nat):(sliceBounds lo hi none n).1=((HT.dW n 0 lo:Nat):Int)/\(sliceBounds lo hi none n).2.1=((HT.dW n n hi:Nat):Int)/\(sliceBounds lo hi none n).2.2=1:=by
 refine⟨?_,?_,rfl⟩
 ·cases lo with
  |none=>simp[sliceBounds,HT.dW]
  |some i=>
   simp only[sliceBounds,HT.dW,getD_none,show(1:Int)>0 by decide,if_true]
   by_cases h:i<0
   ·simp only[h,if_true]<;>omega
   ·simp only[h,if_false]<;>omega
 ·cases hi with
  |none=>simp[sliceBounds,HT.dW]
  |some i=>
   simp only[sliceBounds,HT.dW,getD_none,show(1:Int)>0 by decide,if_true]
   by_cases h:i<0
   ·simp only[h,if_true]<;>omega
   ·simp only[h,if_false]<;>omega
def qK(its:f')(lo hi:j_):slicePick its.toArray lo hi none=((its.drop<|HT.dW its.length 0 lo).take<|HT.dW its.length its.length hi-HT.dW its.length 0 lo).toArray:=by
 obtain⟨h1,b,a⟩:=uo lo hi its.toArray.size;unfold slicePick;rw[h1,b,a];simp only[sliceRange_one,pick_run,List.size_toArray]<;>rfl
def Dz(K:Frag):V->j_->j_->Hp->VK->Prop:=λx b hi H Q=>∃a xs,x=.ref a/\aw K H a xs/\∀p,H p=none->Q (.ref p) (upd H p<|.lst<|jT xs b hi)
def Lb:Py X (Dz X.K):=by
 intro g s σ H x v p t e hi u Q I n m j i h;obtain⟨a,c,rfl,hx,q⟩:=h
 cases n
 obtain⟨l,r,f,hz⟩:=I.list hx;have d:=r.length;refine⟨"list",_,slot_list_getitem.lookup,f.isList.typeIs,?_⟩;refine wpAny_getItem_list_slice f.isList m j i .none (by simp) ?_ (by rw[hO]<;>omega)
 rw[qK,<-d];refine⟨.ref s.heap.objs.size,_,I.laid (t':=s.toks) (o:=.lst<|jT c e hi) (λb ob q=>ef _ q) (dy _) ?_,rfl,q _<|I.bq.fresh<|dy _⟩;exact⟨gr (nC c e hi) hz,_,0,(r.drop<|HT.dW c.length 0 e).take<|HT.dW c.length c.length hi-HT.dW c.length 0 e,gz _ rfl⟩
noncomputable def nD:V->Bool
 |.bE=>true
 |.bl _=>true
 |.int _=>true
 |.str _=>true
 |_=>false
noncomputable def Fx:V->V->Bool
 |.bE,.bE=>true
 |.bl a,.bl b=>a==b
 |.bl a,.int b=>(if a then 1 else 0)==b
 |.int a,.bl b=>a==(if b then 1 else 0)
 |.int a,.int b=>a==b
 |.str a,.str b=>a==b
 |_,_=>false
variable{x:V}
def PJ{A:Around}{s:Shared}{y:V}{u v:Value}(ry:RelV y u)(rx:RelV x v)(fy:nD y=true)(fx:nD x=true):EqAt A s u v (Fx y x):=by
 cases y with
 |bE=>
  cases ry
  cases x with
  |bE=>cases rx;exact SeqAt.EqAt.same _
  |bl b=>cases rx;exact SeqAt.EqAt.none_bool b
  |int b=>obtain⟨t,rfl⟩:=rx;exact SeqAt.EqAt.none_int b t
  |str b=>obtain⟨t,rfl⟩:=rx;exact SeqAt.EqAt.none_str b t
  |_=>exact absurd (show false=true from fx) gp
 |bl a=>
  cases ry
  cases x with
  |bE=>cases rx;exact SeqAt.EqAt.bool_none a
  |bl b=>cases rx;exact SeqAt.EqAt.bool_bool a b
  |int b=>obtain⟨t,rfl⟩:=rx;exact SeqAt.EqAt.bool_int a b t
  |str b=>obtain⟨t,rfl⟩:=rx;exact SeqAt.EqAt.bool_str a b t
  |_=>exact absurd (show false=true from fx) gp
 |int a=>
  obtain⟨c,rfl⟩:=ry
  cases x with
  |bE=>cases rx;exact SeqAt.EqAt.int_none a c
  |bl b=>cases rx;exact SeqAt.EqAt.int_bool a c b
  |int b=>obtain⟨t,rfl⟩:=rx;exact SeqAt.EqAt.int_int a c b t
  |str b=>obtain⟨t,rfl⟩:=rx;exact SeqAt.EqAt.int_str a c b t
  |_=>exact absurd (show false=true from fx) gp
 |str a=>
  obtain⟨c,rfl⟩:=ry
  cases x with
  |bE=>cases rx;exact SeqAt.EqAt.str_none a c
  |bl b=>cases rx;exact SeqAt.EqAt.str_bool a c b
  |int b=>obtain⟨t,rfl⟩:=rx;exact SeqAt.EqAt.str_int a c b t
  |str b=>obtain⟨t,rfl⟩:=rx;exact SeqAt.EqAt.str_str a c b t
  |_=>exact absurd (show false=true from fx) gp
 |_=>exact absurd (show false=true from fy) gp
noncomputable def zq(x:V)(u:Value):Bool:=match u with
 |.none=>Fx .bE x
 |.bool b=>Fx (.bl b) x
 |.int i _=>Fx (.int i) x
 |.str z _=>Fx (.str z) x
 |_=>false
def Gh{y:V}{u:Value}(r:RelV y u)(f:nD y=true):zq x u=Fx y x:=by
 cases y with
 |bE=>cases r;rfl
 |bl b=>cases r;rfl
 |int i=>obtain⟨t,rfl⟩:=r;rfl
 |str z=>obtain⟨t,rfl⟩:=r;rfl
 |_=>exact absurd (show false=true from f) gp
theorem ll{x:V}:∀ {xs:u_} {us:f'},Vals xs us->xs.all nD=true->us.any (zq x)=xs.any λy=>Fx y x
 |_,_,.nil,_=>rfl
 |y::xs,u::us,.cons r t,f=>by
  rw[WB,gc]at f;rw[any_cons,any_cons,Gh r f.1,ll t f.2]
theorem i3{A:Around}{s:Shared}{x:V}{v:Value}(rx:RelV x v)(fx:nD x=true):∀ {xs:u_} {us:f'},Vals xs us->xs.all nD=true->∀u∈us,EqAt A s u v<|zq x u
 |_,_,.nil,_=>λu hu=>by cases hu
 |y::xs,u::us,.cons r t,f=>λa hu=>by
  rw[WB,gc]at f
  rcases gg.mp hu with rfl|hu
  ·rw[Gh r f.1];exact PJ r rx f.1 fx
  ·exact i3 rx fx t f.2 a hu
noncomputable def NH(x:V)(xs:u_):Bool:=xs.any λy=>Fx y x
def RC(K:Frag)(neg:Bool):R2:=λx y H Q=>∃p xs,y=.ref p/\(aw K H p xs∨aL K H p xs)/\nD x=true/\xs.all nD=true/\Q (.bl<|if neg then !NH x xs else NH x xs) H
def DA:eS X (compareOp .In) (RC X.K false):=by
 intro e s σ H x y v u Q I f g h;obtain⟨p,i,rfl,hq,d,fs,q⟩:=h
 cases g
 rcases hq with hq|hq
 ·obtain⟨a,r,c,hz⟩:=I.list hq;refine SeqAt.in_listAt (zq x) c.isList (λw b=>i3 f d r fs w (by simpa using b)) ⟨.bl _,H,I,rfl,?_⟩
  rw[show a.toArray.any (zq x)=a.any (zq x) by simp,ll r fs]
  exact q
 ·obtain⟨a,r,c,hz⟩:=I.tuple hq;refine SeqAt.in_tupleAt (zq x) c (λw b=>i3 f d r fs w (by simpa using b)) ⟨.bl _,H,I,rfl,?_⟩
  rw[show a.toArray.any (zq x)=a.any (zq x) by simp,ll r fs]
  exact q
def uq:eS X (compareOp .NotIn) (RC X.K true):=by
 intro e s σ H x y v u Q I f g h;obtain⟨p,i,rfl,hq,d,fs,q⟩:=h
 cases g
 rcases hq with hq|hq
 ·obtain⟨a,r,c,hz⟩:=I.list hq;refine SeqAt.notIn_listAt (zq x) c.isList (λw b=>i3 f d r fs w (by simpa using b)) ⟨.bl _,H,I,rfl,?_⟩
  rw[show a.toArray.any (zq x)=a.any (zq x) by simp,ll r fs]
  exact q
 ·obtain⟨a,r,c,hz⟩:=I.tuple hq;refine SeqAt.notIn_tupleAt (zq x) c (λw b=>i3 f d r fs w (by simpa using b)) ⟨.bl _,H,I,rfl,?_⟩
  rw[show a.toArray.any (zq x)=a.any (zq x) by simp,ll r fs]
  exact q
def ur:b6 X (.builtin "len") (λxs H Q=>∃p ys,xs=[.ref p]/\(aw X.K H p ys∨aL X.K H p ys)/\Q (.int ys.length) H):=by
 intro e s σ H xs g Q I r h;obtain⟨p,ys,rfl,hq,q⟩:=h;obtain⟨u,rfl,f⟩:=vals1 r
 cases f
 have hn:=lZ
 rcases hq with hq|hq
 ·obtain⟨d,b,c,hz⟩:=I.list hq;have a:=b.length;exact Calls.call_len_list c.isList (by simp only[List.size_toArray]<;>omega) ⟨.int ys.length,H,I.tok _,⟨s.toks+1,by rw[hO,a]⟩,q⟩
 ·obtain⟨d,b,c,hz⟩:=I.tuple hq;have a:=b.length;exact len_tuple c (by simp only[List.size_toArray]<;>omega) ⟨.int ys.length,H,I.tok _,⟨s.toks+1,by rw[hO,a]⟩,q⟩
def ib:b6 X (.builtin "len") (λxs H Q=>∃z,xs=[.str z]/\z.length<=sizeLine/\Q (.int z.length) H):=by
 intro a s σ H xs b Q I r h;obtain⟨z,rfl,hz,q⟩:=h;obtain⟨u,rfl,t,rfl⟩:=vals1 r;have hn:=lZ;exact len_str (by omega) ⟨.int z.length,H,I.tok _,⟨_,rfl⟩,q⟩
def qL:b6 X (.type "tuple") (λxs H Q=>∃p ys,xs=[.ref p]/\((aw X.K H p ys/\∀l,H l=none->Q (.ref l) (upd H l<|.tup ys))∨(aL X.K H p ys/\Q (.ref p) H))):=by
 intro a s σ H xs t Q I r h;obtain⟨p,ys,rfl,h⟩:=h;obtain⟨u,rfl,m⟩:=vals1 r
 cases m
 rcases h with ⟨hq,q⟩|⟨hq,q⟩
 ·obtain⟨c,f,g,hz⟩:=I.list hq;have i:=f.length;refine call_tuple_list g.isList (λd kp=>?_) (by simp only[List.size_toArray]<;>omega)
  have j:Inv X a σ H {s with heap:=d}:=I.kept (t':=s.toks) kp;have n:Inv X a σ (upd H d.objs.size<|.tup ys) {s with heap:=d.push {cls:=.type "tuple",data:=.seq c.toArray}}:=
   j.laid (t':=s.toks) (λb o e=>ef _ e) (dy _) (show bG X.prog X.w _ _ _ (.tup ys)from⟨hz,c,f,IsTup.new _ _⟩)
  exact⟨.ref d.objs.size,_,n,rfl,q _<|j.bq.fresh<|dy _⟩
 ·obtain⟨c,f,g,hz⟩:=I.tuple hq;exact call_tuple_same g ⟨.ref p,H,I,rfl,q⟩
def R3(K:Frag)(T:String)(x:V)(H:Hp):Prop:=match x with
 |.str _=>T="str"
 |.int _=>T="int"
 |.ref p=>(T="list"/\∃xs,aw K H p xs)∨(T="tuple"/\∃o,K.lookup p=some o/\o.cls=.type "tuple"/\o.dict=none)∨
   (T="dict"/\((∃C_,H p=some (.dK C_))∨∃C_,H p=some (.dT C_)))∨(T="set"/\∃S n,H p=some (.set S n))
 |_=>False
def Gi{w_:aO0}{σ:St}{H:Hp}{s:Shared}{T:String}{v:Value}(I:Inv X w_ σ H s)(r:RelV x v)(ty:R3 X.K T x H):
  s.TypeIs v T/\∀a,v=.ref a->∃ob,s.heap.get? a=some ob/\ob.dict=none:=by
 cases x with
 |str z=>
  obtain⟨t,rfl⟩:=r
  cases(show T="str" from ty)
  exact⟨typeIs_str s z t,λ_ e=>nomatch e⟩
 |int i=>
  obtain⟨t,rfl⟩:=r
  cases(show T="int" from ty)
  exact⟨typeIs_int s i t,λ_ e=>nomatch e⟩
 |ref p=>
  cases r
  rcases ty with ⟨rfl,j,hq⟩|⟨rfl,o,hk,hc,f⟩|⟨rfl,hk⟩|⟨rfl,S,n,hk⟩
  ·obtain⟨h,_,g,_⟩:=I.list hq;refine⟨g.isList.typeIs,λa e=>?_⟩
   cases e
   obtain⟨o,n,e,c,f,_⟩:=g;exact⟨o,e,f⟩
  ·refine⟨⟨o,I.wz p o hk,hc⟩,λa e=>?_⟩
   cases e
   exact⟨o,I.wz _ o hk,f⟩
  ·have z:∃o,s.heap.get? p=some o/\o.ExactDict:=by
    rcases hk with ⟨d,hk⟩|⟨d,hk⟩
    ·obtain⟨_,_,_,_,o,_,_,e,b,_⟩:=I.bq p _ hk;exact⟨o,e,b⟩
    ·obtain⟨_,_,_,_,o,_,_,e,b,_⟩:=I.bq p _ hk;exact⟨o,e,b⟩
   obtain⟨o,e,b⟩:=z;refine⟨⟨o,e,b.1⟩,λa e2=>?_⟩
   cases e2
   exact⟨o,e,b.2.1⟩
  ·obtain⟨o,_,_,_,e,b,_⟩:=I.bq p _ hk;refine⟨⟨o,e,b.1⟩,λa e2=>?_⟩
   cases e2
   exact⟨o,e,b.2.1⟩
 |_=>exact False.elim ty
def Lc(K:Frag)(T:String)(r:V->u_->Hp->VK->Prop)(to:TE):TE:=λσ H Q=>to σ H λx H1=>R3 K T x H1/\r x [] H1 Q
def RD(K:Frag)(T:String)(r:V->u_->Hp->VK->Prop)(to:TE)(t:TA):TE:=λσ H Q=>to σ H λx H1=>R3 K T x H1/\t σ H1 λb a=>r x b a Q
variable{o:Expr}{to:TE}{name:Str}{A' bN:Pos}{T id:String}{r:V->u_->Hp->VK->Prop}
def PK(pa:PlainAttrs T)(slot:Slot T name id)(hty:typeOf (.builtin id)=pure (.type "method_descriptor"))(hm:yR X id r)(ho:PE X o to)
  (fg:attributeBase o name X.env (eval o X.env)=eval o X.env:=by rfl) (fh:(A'.endLine==bN.line)=true:=by rfl):PE X (.Call (.Attribute o name A') [] [] bN) (Lc X.K T r to):=by
 intro a s σ H Q I h;refine wpAny_Call_method0_late fg fh<|bP (ho a s σ H _ I h) λv f ⟨x,H1,c,b,ty,e⟩=>?_;obtain⟨h1,d⟩:=Gi c b ty;exact⟨T,id,pa,slot,hty,h1,d,Calls.callWith_builtin rfl<|PySem.evalArgs_none<|hm a f σ H1 x [] v [] Q c b .nil e⟩
variable{es:i_}{t:TA}
def R4(pa:PlainAttrs T)(slot:Slot T name id)(hty:typeOf (.builtin id)=pure (.type "method_descriptor"))(hm:yR X id r)(ho:PE X o to)(ha:PA X (e::es) t)
  (fg:attributeBase o name X.env (eval o X.env)=eval o X.env:=by rfl)
  (hfew:((backTo bN<|starEach (e::es) X.env).all (λx=>!x.1)&&(backToKw bN<|keywordEach [] X.env).all (λx=>x.1.isSome)
   &&decide ((e::es).length+([]:List Keyword).length+(if([]:List Keyword).isEmpty then 0 else 1)<30))=true:=by rfl)
  (fh:(A'.endLine==bN.line)=true:=by rfl) (hs:starEach (e::es) X.env=(false,eval e X.env)::starEach es X.env:=by rfl) (hplain:(backTo bN<|starEach es X.env).any (·.1)=false:=by rfl):
  PE X (.Call (.Attribute o name A') (e::es) [] bN) (RD X.K T r to t):=by
 intro a s σ H Q I h;refine wpAny_Call_method_late fg hfew fh rfl<|bP (ho a s σ H _ I h) λv u ⟨x,H1,c,b,ty,i⟩=>?_;obtain⟨h1,g⟩:=Gi c b ty;refine⟨T,id,pa,slot,hty,h1,g,?_⟩;have d:=ha bN a u σ H1 _ c i;rw[hs]at d ⊢;refine Calls.callWith_builtin (by show(false||(backTo bN<|starEach es X.env).any (·.1))=false;rw[hplain]<;>rfl)<|Calls.evalArgs_plain ?_
 exact bP d λm q ⟨n,j,p,l,f⟩=>hm a q σ j x n v m Q p b l f
def VE(X:Cx)(id:String)(r:V->u_->Hp->VK->Prop):Prop:=
 ∀(w_:aO0) (s:Shared) (σ:St) (H:Hp) (x:V) (xs:u_) (v:Value) (us:f') (Q:VK),Inv X w_ σ H s->RelV x v->Vals xs us->r x xs H Q->
  wpAny (model X.prog X.w) X.A (call (.builtin id) (v::us)) (EP X w_ σ Q) X.xe s
def Vals.one:∀ {x:V} {us:f'},Vals [x] us->∃u,us=[u]/\RelV x u
 |_,_,.cons r .nil=>⟨_,rfl,r⟩
def Vals.two{y:V}{us:f'}(h:Vals [x,y] us):∃u v,us=[u,v]/\RelV x u/\RelV y v:=by
 cases h with
 |cons r h=>
  obtain⟨v,rfl,q⟩:=Vals.one h;exact⟨_,_,rfl,r,q⟩
theorem Vals.rep{xs:u_}{us:f'}(h:Vals xs us):∀k:Nat,Vals (List.replicate k xs).flatten (List.replicate k us).flatten
 |0=>.nil
 |k+1=>by
  rw[E4,E4,flatten_cons,flatten_cons];exact Vals.append h<|Vals.rep h k
theorem foldl_rep(its:f'):∀(k:Nat) (B_:f'),
  List.foldl (λx1 x2=>x1++x2) B_.toArray (List.replicate k its.toArray)=(B_++(List.replicate k its).flatten).toArray
 |0,B_=>by simp
 |k+1,B_=>by
  have e:B_.toArray++its.toArray=(B_++its).toArray:=by simp
  have e2:(B_++its)++(List.replicate k its).flatten=B_++(List.replicate (k+1) its).flatten:=by
   rw[E4,flatten_cons,qE]
  rw[<-e2,<-foldl_rep its k (B_++its),<-e,E4,foldl_cons]
variable{w_:aO0}{H:Hp}{s:Shared}{l:Addr}{xs ys:u_}{σ:St}
def Inv.R5{n:Nat}{f:k_->k_}{t':Nat}(I:Inv X w_ σ H s)(hH:H l=some (.lst xs))
  (e:s.heap.get? l=some {cls:=.type "list",data:=.seq its.toArray n}) (hf:f its.toArray=its'.toArray) (hv:Vals ys its') (hz:ys.length<=sizeLine):
  Inv X w_ σ (upd H l<|.lst ys) {s with heap:=s.heap.update l<|Obj.mapSeq f,toks:=t'}:=by
 have q:=PySem.IsL.update e f;rw[hf]at q;refine I.write (x:=l) (e:=l) (by rw[hH];exact trivial) (.inl rfl) (λa u hb hu=>(Heap.get?_update_other s.heap (Obj.mapSeq f)<|Ne.symm hb).trans hu) ⟨_,q⟩ ?_
 exact⟨hz,its',_,hv,q⟩
def Inv.PL{t':Nat}(I:Inv X w_ σ H s)(hv:Vals ys its)(hz:ys.length<=sizeLine):
  Inv X w_ σ (upd H s.heap.objs.size<|.lst ys) {s with heap:=s.heap.push {cls:=.type "list",data:=.seq its.toArray},toks:=t'}:=
 I.laid (λ_ _ q=>ef _ q) (dy _) ⟨hz,its,0,hv,gz _ rfl⟩
theorem Inv.fresh(I:Inv X w_ σ H s):H s.heap.objs.size=none:=I.bq.fresh<|dy _
def Inv.PM(I:Inv X w_ σ H s)(hH:H l=some (.lst xs)):xs.length<=sizeLine/\∃(its:f') (n:Nat),Vals xs its/\xs.length=its.length/\s.heap.get? l=some {cls:=.type "list",data:=.seq its.toArray n}:=by
 obtain⟨z,its,n,r,e⟩:=I.bq l _ hH;exact⟨z,its,n,r,r.length,e⟩
def Gj{n:Nat}(h:n<=sizeLine):Builtin.List.listTooLong n=false:=by
 unfold Builtin.List.listTooLong;exact dt (by omega)
def BX:V->u_->Hp->VK->Prop:=λx a H Q=>∃l xs y,x=.ref l/\a=[y]/\H l=some (.lst xs)/\xs.length<sizeLine/\Q .bE (upd H l<|.lst<|xs++[y])
def cu:VE X "list.append" BX:=by
 intro c s σ H x j v i Q I g d h;obtain⟨l,m,y,rfl,rfl,b,hz,q⟩:=h
 cases g
 obtain⟨u,rfl,f⟩:=d.one;obtain⟨z,a,n,r,o,e⟩:=I.PM b;refine GM oq ⟨_,e,rfl⟩ F.entry_list_append (F.args_list_append_2 _ _) (PySem.list_append l a.toArray n u (by rw[hO];omega)) ⟨e,?_⟩
 refine⟨.bE,_,I.R5 (its':=a++[u]) b e (by simp) (r.append<|.cons f .nil) ?_,rfl,q⟩
 rw[eR,List.length_singleton]
 omega
def U7:R2:=λx y H Q=>∃l k xs,x=.ref l/\y=.int k/\H l=some (.lst xs)/\-(2 ^ 63)<=k/\k<2 ^ 63/\xs.length*k.toNat<=sizeLine/\
 ∀p,H p=none->Q (.ref p) (upd H p<|.lst (List.replicate k.toNat xs).flatten)
def len_rep{α:Type}(xs:List α)(k:Nat):(List.replicate k xs).flatten.length=k*xs.length:=by
 induction k with
 |zero=>simp
 |succ k a=>rw[E4,flatten_cons,eR,a,succ_mul,Nat.add_comm]
def zr:eS X (binaryOp .Mult) U7:=by
 intro p s σ H x y v u Q I A D h;obtain⟨l,k,K,rfl,rfl,G,h1,C,hz,q⟩:=h
 cases A
 obtain⟨t,rfl⟩:=D;obtain⟨z,b,n,r,E,e⟩:=I.PM G;have g:b.toArray.size*k.toNat<=sizeLine:=by rw[hO,<-E];exact hz
 have i:¬b.toArray.size*k.toNat>(2 ^ 63-1) / 8:=by
  have:(sizeLine:Nat)<=(2 ^ 63-1) / 8:=by decide
  omega
 have f:¬(!Builtin.List.listFitsIndex k)=true:=by
  rw[fitsIndex_both h1 C];exact gp
 have c:¬Builtin.List.listTooLong (b.toArray.size*k.toNat)=true:=by
  rw[Gj g];exact gp
 have d:List.foldl (λj o=>j++o) #[] (List.replicate (if b.toArray.isEmpty=true then 0 else k.toNat) b.toArray)=(List.replicate k.toNat b).flatten.toArray:=by
  have B:∀m:Nat,List.foldl (λj o=>j++o) #[] (List.replicate m b.toArray)=(List.replicate m b).flatten.toArray:=λm=>by
   have:=foldl_rep b m []
   rw[nil_append]at this;exact this
  rw[B]
  cases b with
  |nil=>simp
  |cons a J=>rw[if_neg (by simp)]
 refine wpAny_binaryOp_repeat_ref (T:="list") (U:="int") a_ ⟨_,e,rfl⟩ (λw=>typeIs_int w k t) noFill_list_mul F.fills_int_mul F.slot_int_rmul repeat_list F.slot_int_index.lookup
  (GM F.slot_int_rmul (typeIs_int s k t) F.entry_int_rmul (F.args_int_rmul_2 _ _) (int___rmul___int_list k t l b.toArray n)
   ⟨e,rfl,⟨_,e,rfl⟩,GM F.slot_list_mul ⟨_,e,rfl⟩ F.entry_list_mul (F.args_list_mul_2 _ _) (AutoListH.list___mul___list_int_3 l b.toArray n k t f i c) ⟨e,?_⟩⟩)
 rw[d];exact⟨.ref _,_,I.PL (t':=s.toks) (r.rep k.toNat) (by rw[len_rep,Nat.mul_comm];exact hz),rfl,q _ I.fresh⟩
end L2
namespace Att
open PySem PySem.W PySem.Calls PyProof.Rows
variable{P:Params}
def nS{h:Heap}:∀(ns:e_) (vs:f'),WellAll P h vs (ns.map WData.int)->IntsAre vs ns:=by
 intro ns
 induction ns with
 |nil=>
  intro vs w;rw[map_nil]at w
  cases w
  exact .nil
 |cons n ns c=>
  intro vs w;rw[map_cons]at w
  cases w with
  |cons a b=>
   cases a
   exact .cons _ _<|c _ b
variable{l:OpenLaw}
def DB{n:Nat}(hn:l.most=some n){h:Heap}{args:List WData}{vals:f'}
  (hpre:l.row.toRowW.claim.pre args=true) (hwl:WellAll P h vals args):
  ∃a vs ns,vals=[Value.ref a]/\args=[WData.list (ns.map WData.int)]/\h.get? a=some {cls:=.type "list",data:=.seq vs.toArray}/\IntsAre vs ns/\ns.length<=n:=by
 have f:WShape.hasAll [] args [.list .int]=true:=(pre_splitW hpre).1;have hc:l.pre.holds [] {args:=args}=true:=(pre_splitW hpre).2;obtain⟨d,r,rfl,h1,i⟩:=hasAllW_cons f;obtain rfl:=hasAllW_nil i;obtain⟨t,rfl,o⟩:=hasW_list h1;obtain⟨ns,rfl⟩:=items_int o;have b:ns.length<=n:=by
  unfold OpenLaw.pre at hc;have e:(WTm.not<|.lt (.lit<|.int (n:Int))<|.len<|.arg 0).holds [] {args:=[.list (ns.map .int)]}=true:=by
   have e:=(holds_andW hc).1;rw[hn]at e;exact e
  have c:=condW_of e<|w_not<|w_lt w_lit<|w_len_list<|w_arg rfl;rw[length_map]at c;refine Nat.le_of_not_lt λq=>?_;have s:(n:Int)<((ns.length:Nat):Int):=by omega
  first
   |(rw[decide_eq_true s]at c;exact absurd c a_)
   |(simp at c;omega)
 cases hwl with
 |cons j g=>
  cases g
  cases j with
  |list p m=>exact⟨_,_,ns,rfl,rfl,p,nS ns _ m,b⟩
def DC(l:OpenLaw)(args:List WData):l.row.toRowW.claim.post args (.bool true) args=true:=
 postW_of (r:=l.row.toRowW) (X:=(true==true))
  (show WShape.has [] (.bool true) .bool=true by first|rfl|decide|simp[WShape.has,WShape.arms,WShape.armsAll])
  (show(WTm.eq .res<|.lit<|.bool true).value [] {args:=args,res:=some<|.bool true,after:=args}=some (.bool<|true==true)from w_eq_bool (w_res rfl) w_lit) rfl
variable{q:Program}{loose:f_}{XP:(b_)->Heap->Prop}{YP:World->Heap->Prop}{d:DefRec}
def wM{n:Nat} 
  (hn:l.most=some n) (hdf:d.params.defaults=[])
  (call:∀(w:World) (s₀ s₁:Shared) (mg mb:b_) (fa:Addr) (o:Obj) (pm cd doc:Value) (a:Addr) (vs:f') (ns:e_),
   Ground q loose [] XP w s₀ mg mb s₁.heap->YP w s₁.heap->
   s₁.heap.get? fa=some o->o.data=.func (docDef d.name d.params d.body d.scope pm cd doc)->s₁.heap.CodeRec cd d.name->mg d.name=some (.ref fa)->
   s₁.heap.get? a=some {cls:=.type "list",data:=.seq vs.toArray}->IntsAre vs ns->ns.length<=n->s₁.gens=#[]->
   codeAny (model l.prog w) callerA (.call (.ref fa) ⟨[.ref a],[]⟩) (λr s'=>r=.ok (.ret<|.bool true)/\OldK s₁.heap s'.heap/\s'.os=s₁.os/\AllBare s'.gens) s₁):
  WalkO q loose XP YP l.row.toRowW d [] (λf vs=>PySem.call f vs):=by
 intro w s₀ s₁ mg mb G Y fa o pm cd doc y kV D x i t h z p s E c m C j u;obtain rfl:y=.none:=Dflts.none t hdf;obtain rfl:kV=.none:=Dflts.noKw t;obtain⟨a,vs,ns,rfl,rfl,e,b,g⟩:=DB hn c j;refine enter_call<|codeAny_mono (call w s₀ s₁ mg mb fa o pm cd doc a vs ns G Y D (fd_plain x) i h e b g z) λr s' hq=>?_;obtain⟨rfl,A,B,v⟩:=hq;exact⟨.inl ⟨.bool true,.bool true,[],rfl,λ_=>rfl,.bool true,DC l _,λ_=>⟨List.Pairwise.nil,λ_ hm=>(nomatch hm)⟩⟩,A,B,v⟩
end Att
namespace L2
open PySem PySem.Spec PyProof.Rows
theorem md:∀ {vs:f'} {ns:e_},IntsAre vs ns->Vals (ns.map V.int) vs
 |_,_,.nil=>.nil
 |_,_,.cons n t h=>.cons ⟨t,rfl⟩<|md h
def PN(H:Hp):Prop:=∀b,H b=none∨∃o xs,H b=some (.kZ o<|.lst xs)
variable{a fa:Addr}{P:Program}{x:Str}
def Gk{w:World}{K:Frag}{mg mb:b_}{CX:Fw}{k:Nat}{fd:FuncData}{sp:Sp}{s₁:Shared}{vs:f'}{ns:e_}
  (KX:K.In s₁.heap) (hns:s₁.heap.Ns mainGlobals mg) (hb:s₁.heap.Ns builtinsNs mb) (hbb:∀x:Str,x≠"__name__"->mb x=bootBuiltins x) (hlim:s₁.heap.NoLimit) (hg:s₁.gens=#[])
  (ha:s₁.heap.get? a=some {cls:=.type "list",data:=.seq vs.toArray}) (hi:IntsAre vs ns) (hl:ns.length<=sizeLine) (hr:cL k callerA)
  (F:∀base:Heap,K.In base->base.Ns mainGlobals mg->fM P w K mg base CX k fa fd [x] sp) (hbind:∀(s:Shared) (u:Value),BindsTo s fd ⟨[u],[]⟩ [(x,u)])
  (hsp:∀H:Hp,PN H->aw K H a (ns.map V.int)->sp [.ref a] H (λv _=>v=.bl true) λ_ _ _=>False)
  (hCX:∀H e s',CX [] H s₁ (λ_ _ _=>False) e s'->False):
  codeAny (model P w) callerA (.call (.ref fa) ⟨[.ref a],[]⟩) (λr s'=>r=.ok (.ret<|.bool true)/\OldK s₁.heap s'.heap/\s'.os=s₁.os/\AllBare s'.gens) s₁:=by
 have D:=md hi;have l:=hi.length;have g:∀H:Hp,PN H->aw K H a (ns.map V.int)->jS P w H s₁.heap->(∀b,H b≠none->b=a)->(H a≠none->K.lookup a=none)->
   codeAny (model P w) callerA (.call (.ref fa) ⟨[.ref a],[]⟩) (λr s'=>r=.ok (.ret<|.bool true)/\OldK s₁.heap s'.heap/\s'.os=s₁.os/\AllBare s'.gens) s₁:=by
  intro H I L J G T;have c:∀ {b:Addr} {o:Obj},s₁.heap.get? b=some o->H b=none->(t9 s₁.heap H).get? b=some o:=λe n=>FF e n;have C:∀ {b:Addr} {o:Obj} {i:Array DictEntry} {t:Nat},s₁.heap.get? b=some o->o.data=.dict i t->H b=none:=λ{b o i t} e d=>by
   cases q:H b with
   |none=>rfl
   |some u=>
    have B:b=a:=G b (by rw[q];simp)
    subst B;rw[ha]at e;cases e
    have N:Data.seq vs.toArray _=Data.dict i t:=d
    cases N
  have f:∀ {b:Addr} {m:b_},s₁.heap.Ns b m->(t9 s₁.heap H).Ns b m:=λ{b m} ⟨o,i,t,e,d,r⟩=>⟨o,i,t,c e<|C e d,d,r⟩;have p:K.In (t9 s₁.heap H):=λb o e=>c (KX b o e) (by
   cases q:H b with
   |none=>rfl
   |some u=>
    have B:b=a:=G b (by rw[q];simp)
    subst B;rw[T (by rw[q];simp)]at e;cases e)
  have S:Mod K mg (t9 s₁.heap H):=⟨p,f hns,⟨mb,f hb,hbb⟩,let ⟨mc,h1,h2⟩:=hlim;⟨mc,f h1,h2⟩⟩;have O:zj P w K mg (t9 s₁.heap H) callerA [] s₁ H:=⟨rfl,S,λb o e=>KA e,Nat.le_of_eq<|Di _ _,trivial,λb hb=>absurd (show b∈([]:l_)from hb) (by simp),J,.of_eq hg⟩
  refine codeAny_mono ((F _ p<|f hns).run callerA [] s₁ H ⟨[.ref a],[]⟩ [.ref a] [.ref a] _ _ hr O (hbind s₁<|.ref a) (.cons rfl .nil)<|hsp H I L) λr s' h=>?_
  cases r with
  |error e=>exact(hCX H e s' h).elim
  |ok Q=>
   cases Q with
   |next=>exact False.elim h
   |brk=>exact False.elim h
   |cont=>exact False.elim h
   |ret u=>
    obtain⟨v,X,os,j,un,y,M,q⟩:=h;have U:v=.bl true:=q;subst U;obtain rfl:u=Value.bool true:=M;refine⟨rfl,OldK.of_keep λb o e=>?_,os,j⟩
    cases q:H b with
    |none=>exact un.keep b o e q (by intro z;exact absurd (show b∈([]:l_)from z) (by simp)) (by simp)
    |some u=>
     rcases I b with z|⟨ob,W,z⟩
     ·rw[q]at z;cases z
     ·have R:=un.vT b ob _ z;obtain⟨E,_⟩:=J b _ z;obtain⟨e2,_⟩:=y b _ R;rw[e]at E;cases E
      exact e2
 cases hk:K.lookup a with
 |some o=>
  have e:=KX a o hk;rw[ha]at e
  cases e
  refine g (λ_=>none) (λ_=>.inl rfl) (.inr ⟨_,vs.toArray,_,hk,rfl,rfl,rfl,by rw[hO,l];exact hl,by simpa using D⟩) (λb u z=>by have A:(none:Option HO)=some u:=z;cases A) (λb z=>absurd rfl z) λz=>absurd rfl z
 |none=>
  refine g (λb=>if b=a then some (.kZ {cls:=.type "list",data:=.seq vs.toArray}<|.lst<|ns.map V.int)else none) (λb=>?_) (.inl<|.inr ⟨{cls:=.type "list",data:=.seq vs.toArray},if_pos rfl⟩) (λb u z=>?_) (λb z=>?_) λ_=>hk
  ·by_cases hb:b=a
   ·exact .inr ⟨_,_,if_pos hb⟩
   ·exact .inl<|if_neg hb
  ·by_cases hb:b=a
   ·have A:=(if_pos hb).symm.trans z
    cases A
    subst hb;exact⟨ha,by rw[b5];exact hl,vs,_,D,ha⟩
   ·have A:=(if_neg hb).symm.trans z
    cases A
  ·by_cases hb:b=a
   ·exact hb
   ·exact absurd (if_neg hb) z
def Ld{l:PySem.W.OpenLaw}{n k:Nat}{q:Program}{loose:f_}{XP:(b_)->Heap->Prop}{YP:World->Heap->Prop}{d:DefRec}{K:Params->Frag}{CX:World->Fw}{sp:World->Sp} 
  (hn:l.most=some n) (hn2:n<=sizeLine) (hdf:d.params.defaults=[]) (hr:cL k callerA)
  (hY:∀(w:World) (h:Heap),YP w h->(K w.params).In h)
  (F:∀(w:World) (mg:b_) (fa:Addr) (h:Heap),(K w.params).In h->h.Ns mainGlobals mg->mg d.name=some (.ref fa)->
   ∃fd:FuncData,(∀(s:Shared) (u:Value),BindsTo s fd ⟨[u],[]⟩ [(x,u)])/\
    ∀base:Heap,(K w.params).In base->base.Ns mainGlobals mg->fM l.prog w (K w.params) mg base (CX w) k fa fd [x] (sp w))
  (hsp:∀(w:World) (H:Hp) (a:Addr) (ns:e_),ns.length<=n->PN H->aw (K w.params) H a (ns.map V.int)->sp w [.ref a] H (λv _=>v=.bl true) λ_ _ _=>False)
  (hCX:∀(w:World) (H:Hp) (s:Shared) (e:Value) (s':Shared),CX w [] H s (λ_ _ _=>False) e s'->False):
  PySem.W.WalkO q loose XP YP l.row.toRowW d [] (λf vs=>PySem.call f vs):=by
 refine Att.wM hn hdf λw D y mg mb fa o J E z a vs ns G Y L I B m j i c C=>?_;have p:=hY w _ Y;obtain⟨fd,hb,A⟩:=F w mg fa _ p G.T.g m;exact Gk p G.T.g G.T.b G.T.builtins G.T.nolimit C j i (gr c hn2) hr A hb (λH t r=>hsp w H a ns c t r) λH e s'=>hCX w H y e s'
noncomputable def bx(s:Stmt):Arguments:=match s with
 |.FunctionDef _ a _ _ _ _ _ _ _ _=>a
 |_=>{posonlyargs:=[],args:=[],vararg:=none,kwonlyargs:=[],kw_defaults:=[],kwarg:=none,defaults:=[]}
noncomputable def aU(s:Stmt):n_:=match s with
 |.FunctionDef _ _ b _ _ _ _ _ _ _=>b
 |_=>[]
noncomputable def aj(s:Stmt):Scope:=match s with
 |.FunctionDef _ _ _ _ _ _ sc _ _ _=>sc
 |_=>{kind:=.function,names:=[],isGenerator:=false,isCoroutine:=false}
abbrev DD:Fw:=λ_ _ _ _ _ _=>False
abbrev E0:XK:=λ_ _ _=>False
def NI{X:Cx}:Passes DD X E0:=λ_ _ _ _ _ _ _ h=>h.elim
structure Kt(K:Frag)(x qual:Str)(st:Stmt)(f:Addr)(fd:FuncData):Prop where
 ex:∃(oc:Value) (od:h_) (kV doc pm:Value) (an:h_) (cY ct:Value) (osl:Array (g_)),
  fd=fnOf x qual (bx st) (aU st) (aj st) .none kV doc pm an cY ct/\K.lookup f=some ⟨oc,od,.func fd,osl⟩/\codeIn K cY qual=true
 kp:keepIn K (.ref f)=true
variable{w:World}{K:Frag}{mg:b_}{base:Heap}
def Kt.ok{qual:Str}{st:Stmt}{f:Addr}{fd:FuncData}{N ps:f_}{k:Nat}{sp:Sp}(F:Kt K x qual st f fd)(S:lg N ps (aj st))(len:∀vs H Q E,sp vs H Q E->vs.length=ps.length)
  (fe:∀(cY:Value) (A:Around) (outer:List Env) (s:Shared) (H:Hp) (vs:u_) (Q:VK) (E:XK),cL k (A.deeper<|envOfC qual (aj st) s.heap.objs.size f cY)->sp vs H Q E->
   ∃t,yQ (wJ DD P w K mg base N qual (aj st) f cY A outer s H E).ND (aU st) t/\t {nx:=λ_ H'=>Q .bE H',rt:=Q} (start N vs) H):fM P w K mg base DD (k+1) f fd ps sp:=by
 obtain⟨j,m,kV,c,l,i,cY,ct,g,rfl,d,a⟩:=F.ex;refine Ga d a S len λA outer s H vs Q E e b=>?_;obtain⟨t,h,q⟩:=fe cY A outer s H vs Q E e b;exact⟨t,h.ND,q⟩
def Kt.binds{qual:Str}{st:Stmt}{f:Addr}{fd:FuncData}{ps:f_}(F:Kt K x qual st f fd)
  (h:∀(kV doc pm:Value) (an:h_) (cY ct:Value) (us:f'),us.length=ps.length->bindArgs (fnOf x qual (bx st) (aU st) (aj st) .none kV doc pm an cY ct) ⟨us,[]⟩=pure (ps.zip us)):Binds K fd ps []:=by
 obtain⟨c,d,kV,doc,pm,an,cY,ct,a,rfl,e,b⟩:=F.ex;exact .all<|h kV doc pm an cY ct
def zt{qual:Str}{st:Stmt}{f:Addr}{oc:Value}{od an:h_}{osl:Array (g_)}{kV doc pm cY ct:Value}(l:K.lookup f=some ⟨oc,od,.func<|fnOf x qual (bx st) (aU st) (aj st) .none kV doc pm an cY ct,osl⟩)
  (c:codeIn K cY qual=true) (k:keepIn K (.ref f)=true):Kt K x qual st f (fnOf x qual (bx st) (aU st) (aj st) .none kV doc pm an cY ct):=⟨⟨oc,od,kV,doc,pm,an,cY,ct,osl,rfl,l,c⟩,k⟩
def aB{n:Nat}(h:n<=1000):n<sizeLine:=m2 h a_
variable{B:Prop}
def bT{c A:Prop}[Decidable c](h1:c->A)(h2:¬c->B):if c then A else B:=by
 by_cases h:c
 ·rw[if_pos h];exact h1 h
 ·rw[if_neg h];exact h2 h
def ag(H H':Hp):Prop:=∀b o,H b=some o->H' b=some o
def ag.refl(H:Hp):ag H H:=λ_ _ h=>h
variable{H2:Hp}
def ag.trans{H H1:Hp}(a:ag H H1)(b:ag H1 H2):ag H H2:=λc o h=>b c o<|a c o h
def ag.free{H H':Hp}(e:ag H H'){l:Addr}(h:H' l=Option.none):H l=Option.none:=by
 cases q:H l with
 |none=>rfl
 |some o=>
  rw[e l o q]at h
  cases h
def ag.seq{H H':Hp}{xs:u_}(e:ag H H')(h:aw K H a xs):aw K H' a xs:=by
 rcases h with (h|⟨o,h⟩)|h
 ·exact .inl<|.inl<|e _ _ h
 ·exact .inl<|.inr ⟨o,e _ _ h⟩
 ·exact .inr h
variable{κ:Type}[DecidableEq κ]
noncomputable def cZ(C_:List (κ × V))(k:κ):v_:=(C_.find? λkv=>decide<|kv.1=k).map (·.2)
noncomputable def putK(C_:List (κ × V))(k:κ)(v:V):List (κ × V):=
 if(C_.any λkv=>decide<|kv.1=k)=true then C_.map (λkv=>if kv.1=k then(kv.1,v)else kv)else C_++[(k,v)]
def Gm{k:κ}:cZ ([]:List (κ × V)) k=none:=rfl
def cP{p:κ × V}{r:List (κ × V)}{k:κ}(e:p.1=k):cZ (p::r) k=some p.2:=by simp[cZ,find?_cons,e]
def cQ{p:κ × V}{r:List (κ × V)}{k:κ}(e:¬p.1=k):cZ (p::r) k=cZ r k:=by simp[cZ,find?_cons,e]
theorem i4(k:κ):∀C_:List (κ × V),(C_.any λkv=>decide<|kv.1=k)=(cZ C_ k).isSome
 | []=>rfl
 |p::r=>by
  rw[any_cons]
  by_cases e:p.1=k
  ·simp only[cP e,decide_eq_true e,Bool.true_or,isSome_some]
  ·rw[cQ e,dt e,Bool.false_or];exact i4 k r
theorem wN(k j:κ)(y:V):∀C_:List (κ × V),cZ (C_.map λkv=>if kv.1=k then(kv.1,y)else kv) j=(cZ C_ j).map λx=>if j=k then y else x
 | []=>rfl
 |p::r=>by
  have a:=wN k j y r;rw[m5]
  by_cases h:p.1=k
  ·rw[if_pos h]
   by_cases e:p.1=j
   ·rw[cP (p:=(p.1,y)) e,cP e,map_some,if_pos<|e.symm.trans h]
   ·rw[cQ (p:=(p.1,y)) e,cQ e,a]
  ·rw[if_neg h]
   by_cases e:p.1=j
   ·rw[cP (p:=p) e,cP e,map_some,if_neg λz=>h<|e.trans z]
   ·rw[cQ (p:=p) e,cQ e,a]
theorem sI(k j:κ)(y:V):∀C_:List (κ × V),cZ C_ k=none->cZ (C_++[(k,y)]) j=if j=k then some y else cZ C_ j
 | [],_=>by
  by_cases e:k=j
  ·rw[if_pos e.symm];exact cP (p:=(k,y)) e
  ·rw[if_neg (λz=>e z.symm)];exact cQ (p:=(k,y)) e
 |p::r,hn=>by
  rw[cons_append];have hk:¬p.1=k:=λz=>by rw[cP z]at hn;cases hn
  rw[cQ hk]at hn;have a:=sI k j y r hn
  by_cases e:p.1=j
  ·rw[cP e,cP e,if_neg λz=>hk<|e.trans z]
  ·rw[cQ e,cQ e,a]
def Gn(C_:List (κ × V))(k j:κ)(y:V):cZ (putK C_ k y) j=if j=k then some y else cZ C_ j:=by
 unfold putK
 by_cases a:(C_.any λkv=>decide<|kv.1=k)=true
 ·rw[if_pos a,wN];rw[i4]at a
  by_cases e:j=k
  ·obtain⟨x,hx⟩:=Option.isSome_iff_exists.mp a;rw[if_pos e,e,hx,map_some,if_pos rfl]
  ·rw[if_neg e]
   cases cZ C_ j with
   |none=>rfl
   |some x=>rw[map_some,if_neg e]
 ·rw[if_neg a];refine sI k j y C_ ?_;rw[i4]at a
  cases q:cZ C_ k with
  |none=>rfl
  |some x=>rw[q]at a;exact(a rfl).elim
def nE(C_:List (κ × V))(k:κ)(v:V):(putK C_ k v).length<=C_.length+1:=by
 unfold putK
 split
 ·rw[b5];omega
 ·rw[eR,mo,length_nil];omega
def Gp{C_:List (κ × V)}{k:κ}(v:V)(h:cZ C_ k=none):putK C_ k v=C_++[(k,v)]:=by
 unfold putK;rw[i4,h];exact if_neg a_
variable{o:v_}
def iV.jJ{u:g_}(r:iV o u):o.isSome=u.isSome:=by
 cases o with
 |none=>cases u with
  |none=>rfl
  |some _=>exact(show False from r).elim
 |some _=>cases u with
  |none=>exact(show False from r).elim
  |some _=>rfl
def KV.val{C_:List (κ × V)}{vs:List (κ × Value)}(r:KV C_ vs)(k:κ):iV (cZ C_ k) (valueAt vs k):=by
 unfold KV at r
 induction r with
 |nil=>exact True.intro
 | @cons p q g a h t f=>
  obtain⟨h1,d⟩:=h
  by_cases e:p.1=k
  ·have c:q.1=k:=h1.symm.trans e;have b:valueAt (q::a) k=some q.2:=by simp[valueAt,find?_cons,c]
   rw[cP e,b];exact d
  ·have c:¬q.1=k:=λz=>e<|h1.trans z;have b:valueAt (q::a) k=valueAt a k:=by simp[valueAt,find?_cons,c]
   rw[cQ e,b];exact f
theorem KV.any{C_:List (κ × V)}{vs:List (κ × Value)}(r:KV C_ vs)(k:κ):(C_.any λkv=>decide<|kv.1=k)=vs.any λkv=>decide (kv.1=k):=by
 unfold KV at r
 induction r with
 |nil=>rfl
 |cons h t a=>rw[any_cons,any_cons,a,h.1]
def KV.PQ{C_:List (κ × V)}{vs:List (κ × Value)}(r:KV C_ vs)(k:κ){y:V}{u:Value}(ry:RelV y u):
  KV (C_.map λkv=>if kv.1=k then(kv.1,y)else kv) (vs.map λkv=>if kv.1=k then(kv.1,u)else kv):=by
 unfold KV at r ⊢
 induction r with
 |nil=>exact .nil
 | @cons p q d c h t b=>
  rw[m5,m5];refine .cons ?_ b;obtain⟨h1,a⟩:=h
  by_cases e:p.1=k
  ·rw[if_pos e,if_pos<|h1.symm.trans e];exact⟨h1,ry⟩
  ·rw[if_neg e,if_neg λz=>e<|h1.trans z];exact⟨h1,a⟩
def KV.put{C_:List (κ × V)}{vs:List (κ × Value)}(r:KV C_ vs)(k:κ){y:V}{u:Value}(ry:RelV y u):KV (putK C_ k y) (stored vs k u):=by
 unfold putK stored;rw[r.any k]
 by_cases e:(vs.any λkv=>decide<|kv.1=k)=true
 ·rw[if_pos e,if_pos e];exact r.PQ k ry
 ·rw[if_neg e,if_neg e];exact Paired.snoc r ⟨rfl,ry⟩
def KV.keys{C_:List (κ × V)}{vs:List (κ × Value)}(r:KV C_ vs):C_.map (·.1)=vs.map (·.1):=by
 unfold KV at r
 induction r with
 |nil=>rfl
 |cons h t a=>rw[m5,m5,a,h.1]
theorem KV.length{C_:List (κ × V)}{vs:List (κ × Value)}(r:KV C_ vs):C_.length=vs.length:=Paired.length r
def sL{k:Key}{u:Value}(r:RelV (kV k) u):(bV P w).is k u=true:=by
 cases k with
 |inl i=>obtain⟨t,e⟩:=(show ∃t,u=Value.int i t from r);subst e;exact wy P w i t
 |inr x=>obtain⟨t,e⟩:=(show ∃t,u=Value.str x t from r);subst e;exact bM P w x t
theorem sM{P:Program}{w:World}:∀ {ks:List Key} {us:f'},Vals (ks.map kV) us->ItemsAre (bV P w) ks us
 | [],_,r=>by rw[map_nil]at r;cases r;exact .nil
 |k::ks,_,r=>by
  rw[m5]at r
  cases r with
  |cons h t=>exact .cons (sL h)<|sM t
abbrev KT(H:Hp):List (List Key × V)->List (List Key × Addr × Value)->Prop:=Paired λp q=>p.1=q.1/\H q.2.1=some (.tup<|p.1.map kV)/\RelV p.2 q.2.2
variable{xs:List (List Key × Addr × Value)}{C_:List (List Key × V)}
def KT.val{H:Hp}(r:KT H C_ xs)(k:List Key):iV (cZ C_ k) ((atKey xs k).map (·.2)):=by
 induction r with
 |nil=>exact True.intro
 | @cons p q g a h t f=>
  obtain⟨h1,_,d⟩:=h
  by_cases e:p.1=k
  ·have c:q.1=k:=h1.symm.trans e;have b:atKey (q::a) k=some q.2:=by simp[atKey,find?_cons,c]
   rw[cP e,b];exact d
  ·have c:¬q.1=k:=λz=>e<|h1.trans z;have b:atKey (q::a) k=atKey a k:=by simp[atKey,find?_cons,c]
   rw[cQ e,b];exact f
def KT.PQ{H:Hp}(r:KT H C_ xs)(k:List Key){y:V}{u:Value}(ry:RelV y u):
  KT H (C_.map λkv=>if kv.1=k then(kv.1,y)else kv) (xs.map<|putAt k u):=by
 induction r with
 |nil=>exact .nil
 | @cons p q f d h t b=>
  rw[m5,m5];refine .cons ?_ b;obtain⟨h1,a,c⟩:=h;unfold putAt
  by_cases e:p.1=k
  ·rw[if_pos e,if_pos<|h1.symm.trans e];exact⟨h1,a,ry⟩
  ·rw[if_neg e,if_neg λz=>e<|h1.trans z];exact⟨h1,a,c⟩
def KT.put{H:Hp}(r:KT H C_ xs)(k:List Key){b:Addr}{y:V}{u:Value}(hb:H b=some (.tup<|k.map kV))(ry:RelV y u):
  KT H (putK C_ k y) (storedH xs k b u):=by
 have e:(C_.any λkv=>decide<|kv.1=k)=(atKey xs k).isSome:=by
  rw[i4,(r.val k).jJ,isSome_map]
 unfold putK storedH;rw[e]
 by_cases q:(atKey xs k).isSome=true
 ·rw[if_pos q,if_pos q];exact r.PQ k ry
 ·rw[if_neg q,if_neg q];exact Paired.snoc r ⟨rfl,hb,ry⟩
def KT.keeps{H H':Hp}(r:KT H C_ xs)(ht:∀b ys,H b=some (.tup ys)->H' b=some (.tup ys)):KT H' C_ xs:=
 Paired.OU r λ_ _ z=>⟨z.1,ht _ _ z.2.1,z.2.2⟩
variable{H:Hp}{h:Heap}
def NJ{u:HO}(ok:jS P w H h)(e:Rd H a u):bG P w H h a u:=e.ok ok
variable{C_:s_}
def wO(ok:jS P w H h)(e:Rd H a (.dK C_)):C_.length<=sizeLine/\(a==sysModules)=false/\∃vs,KV C_ vs/\h.DictOf (bV P w) a vs:=
 show bG P w H h a (.dK C_)from NJ ok e
def NK(ok:jS P w H h)(e:H a=some (.dK C_)):C_.length<=sizeLine/\(a==sysModules)=false/\∃vs,KV C_ vs/\h.DictOf (bV P w) a vs:=wO ok<|.inl e
def uu{ks:List Key}(ok:jS P w H h)(e:H a=some (.tup<|ks.map kV)):(tupleKind<|bV P w).is h ks a:=by
 obtain⟨_,b,r,o,h1,c,n,d⟩:=(show bG P w H h a (.tup<|ks.map kV)from ok a _ e)
 exact⟨o,b.toArray,n,h1,c,d,by simpa using sM r⟩
variable{C_:List (List Key × V)}
def BY(ok:jS P w H h)(e:Rd H a (.dT C_)):C_.length<=sizeLine/\(a==sysModules)=false/\
  ∃xs,KT H C_ xs/\h.DictOfH (tupleKind<|bV P w) a xs:=by
 obtain⟨z,y,xs,r,o,f,b,h1,d,g,i,c⟩:=(show bG P w H h a (.dT C_)from NJ ok e)
 refine⟨z,y,xs,r,o,f,b,h1,d,g,i,λx hx=>?_,c⟩;have all:∀ {l:List (List Key × V)} {m:List (List Key × Addr × Value)},KT H l m->∀x∈m,(tupleKind<|bV P w).is h x.1 x.2.1:=by
  intro l m q
  induction q with
  |nil=>intro x hx;exact nomatch hx
  | @cons p q s n hq t j=>
   intro x hx
   rcases gg.mp hx with e|hx
   ·subst e;exact uu ok (by rw[<-hq.1];exact hq.2.1)
   ·exact j x hx
 exact all r x hx
def R6(ok:jS P w H h)(e:H a=some (.dT C_)):C_.length<=sizeLine/\(a==sysModules)=false/\
  ∃xs,KT H C_ xs/\h.DictOfH (tupleKind<|bV P w) a xs:=BY ok<|.inl e
def kq(H:Hp)(a:Addr)(y:V)(r:v_):Prop:=
 (∃C_ k,Rd H a (.dK C_)/\y=kV k/\r=cZ C_ k)∨∃C_ k b,Rd H a (.dT C_)/\y=.ref b/\H b=some (.tup<|k.map kV)/\r=cZ C_ k
def uw(H:Hp)(a:Addr)(y v:V)(H':Hp):Prop:=
 (∃C_ k,H a=some (.dK C_)/\y=kV k/\C_.length<sizeLine/\H'=upd H a (.dK<|putK C_ k v))∨
 ∃C_ k b,H a=some (.dT C_)/\y=.ref b/\H b=some (.tup<|k.map kV)/\C_.length<sizeLine/\H'=upd H a (.dT<|putK C_ k v)
theorem kq.k{H:Hp}{a:Addr}{C_:s_}{k:Key}(e:H a=some (.dK C_)):kq H a (kV k) (cZ C_ k):=.inl ⟨C_,k,.inl e,rfl,rfl⟩
theorem uw.k{H:Hp}{a:Addr}{C_:s_}{k:Key}{v:V}(e:H a=some (.dK C_))(hl:C_.length<sizeLine):uw H a (kV k) v (upd H a<|.dK<|putK C_ k v):=.inl ⟨C_,k,e,rfl,hl,rfl⟩
variable{X:Cx}{w_:aO0}{s:Shared}{σ:St}
def Inv.big(I:Inv X w_ σ H s):sysModules<s.heap.objs.size:=by
 have h:mainGlobals<s.heap.objs.size:=(I.mod.glob.keeps I.bk).lt;exact Nat.lt_trans a_ h
variable{y v:V}{u:Value}{A:Around}{E:c_}
def DE{Q:c_}(hu:A.units+1<cLine)(I:Inv X w_ σ H s)(g:kq H a y (some v))(ry:RelV y u)(h:∀w' s',Inv X w_ σ H s'->RelV v w'->Q w' s'):
  wpAny (model X.prog X.w) A (getItem (.ref a) u) Q E s:=by
 rcases g with ⟨f,k,e,m,l⟩|⟨f,k,b,e,m,x,l⟩
 ·subst m;obtain⟨z,t,r,c,j⟩:=wO I.bq e;obtain⟨w',n,d⟩:=iV.some_of (v:=v) (o:=valueAt r k) (by rw[l];exact c.val k)
  exact wpAny_getItem_of (sL ry) j.mapOf n<|h w' _ (I.tok _) d
 ·subst m
  cases(show u=Value.ref b from ry)
  obtain⟨z,t,B,c,j⟩:=BY I.bq e;obtain⟨w',n,d⟩:=iV.some_of (v:=v) (o:=(atKey B k).map (·.2)) (by rw[l];exact c.val k)
  obtain⟨p,q,i⟩:=Pi.mp n;refine wpAny_getItem_heap (tupleKind_room_in1 hu) (uu I.bq x) j q ?_;rw[i];exact h w' _ (I.tok _) d
def U8{Q:c_}(hu:A.units+1<cLine)(I:Inv X w_ σ H s)(g:kq H a y o)(ry:RelV y u)(h:∀s',Inv X w_ σ H s'->Q (.bool o.isSome) s'):
  wpAny (model X.prog X.w) A (compareOp .In u<|.ref a) Q E s:=by
 rcases g with ⟨i,k,e,d,l⟩|⟨i,k,b,e,d,m,l⟩
 ·subst d;obtain⟨z,f,p,c,j⟩:=wO I.bq e;refine wpAny_in_of (sL ry) f j.mapOf ?_;rw[<-(c.val k).jJ,<-l];exact h _<|I.tok _
 ·subst d
  cases(show u=Value.ref b from ry)
  obtain⟨z,f,n,c,j⟩:=BY I.bq e;refine wpAny_in_heap (tupleKind_room_in1 hu) (uu I.bq m) f j ?_;have q:=(c.val k).jJ;rw[isSome_map]at q;rw[<-q,<-l];exact h _<|I.tok _
def ux{h':Heap}{t':Nat}{ob:HO}(I:Inv X w_ σ H s)(mu:RO (H a))(hs:SameBut a s.heap h')(he:∃q,h'.get? a=some q)(new:bG X.prog X.w (upd H a ob) h' a ob):
  Inv X w_ σ (upd H a ob) {s with heap:=h',toks:=t'}:=
 I.write (x:=a) (e:=a) mu (.inl rfl) (λb q hb z=>(hs.2 b hb).trans z) he new
variable{C_:s_}
def PR{H':Hp}{h':Heap}{vs:List (Key × Value)}(z:C_.length<=sizeLine)(hd:(a==sysModules)=false)(rel:KV C_ vs)(dd:h'.DictOf (bV P w) a vs):
  bG P w H' h' a (.dK C_):=⟨z,hd,vs,rel,dd⟩
variable{r:Value}
def DF{H':Hp}{Q:Unit->Shared->Prop}(hu:A.units+1<cLine)(I:Inv X w_ σ H s)(g:uw H a y v H')(ry:RelV y u)(rv:RelV v r)(h:∀s',Inv X w_ σ H' s'->Q () s'):
  wpAny (model X.prog X.w) A (setItem (.ref a) u r) Q E s:=by
 rcases g with ⟨d,k,e,m,l,o⟩|⟨d,k,b,e,m,x,l,o⟩
 ·subst m o;obtain⟨z,n,K,f,j⟩:=NK I.bq e;have hz:K.length<=sizeLine:=by rw[<-f.length];exact z
  have t:(putK d k v).length<=sizeLine:=by have:=nE d k v;omega
  refine wpAny_setItem_pairs (hsz:=hz) (sL ry) j λC i p=>h _ ?_;have he:∃q,C.get? a=some q:=let ⟨q,_,_,hq,_⟩:=i;⟨q,hq⟩;exact ux I (by rw[e];exact True.intro) p he<|PR t n (f.put k rv) i
 ·subst m o
  cases(show u=Value.ref b from ry)
  obtain⟨z,n,N,f,j⟩:=R6 I.bq e;have hz:N.length<=sizeLine:=by rw[<-Paired.length f];exact z
  have t:(putK d k v).length<=sizeLine:=by have:=nE d k v;omega
  refine wpAny_setItem_heap (hsz:=hz) (tupleKind_room_in1 hu) (uu I.bq x) j λC i p=>h _ ?_;obtain⟨q,J,F,hq,G,L,M,_,D⟩:=i;refine ux I (by rw[e];exact True.intro) p ⟨q,hq⟩ ⟨t,n,_,(f.put k x rv).keeps λc O B=>?_,q,J,F,hq,G,L,M,D⟩
  rw[aC (dj B e λz=>nomatch z)];exact B
def R7{Q:c_}(I:Inv X w_ σ H s)(e:Rd H a (.dK C_))(h:∀t s',Inv X w_ σ H s'->Q (.int C_.length t) s'):wpAny (model X.prog X.w) A (call (.builtin "len") [.ref a]) Q E s:=by
 obtain⟨z,c,f,b,d⟩:=wO I.bq e;refine call_len_dict c d (by rw[<-b.length];rw[sizeLine_eq]at z;omega) ?_
 rw[<-b.length];exact h _ _<|I.tok _
def Le(i:Expr):Prop:=∀ov iv,subscripted i false ov iv=operate [ov,iv] (getItem ov iv)
variable{value:Expr}
def BZ{prog:Program}{env:Env}{slice:Expr}{pos:Pos}{T id:String}{Q:c_}
  (hl:typeLookup (.type T) "__getitem__"=pure (some<|.builtin id)) (hs:Le slice)
  (h:wpAny (model prog w) A (eval value env) (λo s₁=>wpAny (model prog w) A (eval slice env) (λi s₂=>s₂.TypeIs o T/\wpAny (model prog w) A (getItem o i) Q E s₂) E s₁) E s):
  wpAny (model prog w) A (eval (.Subscript value slice pos) env) Q E s:=by
 refine Subscript_<|Bz h (λo s₁ e=>Bz e (λi s₂ b=>?_) λ_ _ x=>x) λ_ _ x=>x;obtain⟨c,b⟩:=b;unfold subscriptTail;refine cv ?_;rw[getitemInPython_of_ne c.not_modules];refine cv<|wpAny_specialOf c hl ?_;have a:wpAny (model prog w) A (subscripted slice false o i) (λr d=>wpAny (model prog w) A (letTemporaryGo value o r >>= λ_=>pure r) Q E d) E s₂:=by
  rw[hs o i];exact wpAny_operating (Bz b (λr d f=>cv<|wpAny_letTemporaryGo<|ek f) λ_ _ x=>x)
 first
  |exact ek<|cv a
  |exact cv<|ek<|cv a
  |exact cv a
def wQ{σ:St}(I:Inv X w_ σ H s)(g:kq H a y o):s.TypeIs (.ref a) "dict":=by
 rcases g with ⟨c,k,e,_,_⟩|⟨c,k,b,e,_,_,_⟩
 ·obtain⟨_,_,h,_,d⟩:=wO I.bq e;exact d.typeIs
 ·obtain⟨_,_,f,_,d⟩:=BY I.bq e;exact d.typeIs
def Gq(td ty:TE):TE:=λσ H Q=>td σ H λx H1=>ty σ H1 λy b=>∃a v,x=.ref a/\kq b a y (some v)/\Q v b
def Lf(ty td:TE):TE:=λσ H Q=>ty σ H λy H1=>td σ H1 λx b=>∃a o,x=.ref a/\kq b a y o/\Q (.bl o.isSome) b
def Gr(td ty tv:TE):TS:=λD σ H=>tv σ H λv H1=>td σ H1 λx b=>ty σ b λy c=>∃a H4,x=.ref a/\uw c a y v H4/\D.nx σ H4
variable{o i:Expr}{pos:Pos}{td ty:TE}
def Lg(hu:X.A.units+1<cLine)(ho:PE X o td)(hi:PE X i ty)(hs:Le i):PE X (.Subscript o i pos) (Gq td ty):=by
 intro b s σ H Q I h;refine BZ PySem.F.slot_dict_getitem.lookup hs<|bP (ho b s σ H _ I h) λu r ⟨x,H1,m,q,f⟩=>bP (hi b r σ H1 _ m f) λz w ⟨y,j,d,p,a,v,l,g,e⟩=>?_;subst l;obtain rfl:u=Value.ref a:=q;exact⟨wQ d g,DE hu d g p λt B n c=>⟨v,j,n,c,e⟩⟩
def Gs(hu:X.A.units+1<cLine)(hi:PE X i ty)(ho:PE X o td):PC X .In i o (Lf ty td):=by
 intro b s σ H Q I h;refine bP (hi b s σ H _ I h) λv r ⟨y,H1,m,p,d⟩=>bP (ho b r σ H1 _ m d) λu t ⟨x,e,j,q,a,f,l,g,c⟩=>?_;subst l;obtain rfl:u=Value.ref a:=q;exact U8 hu j g p λw n=>⟨.bl f.isSome,e,n,rfl,c⟩
variable{pos':Pos}{tv:TE}
def Lh(hu:X.A.units+1<cLine)(ho:PE X o td)(hi:PE X i ty)(hv:PE X value tv)(hs:swapsWith value (some<|.Subscript o i pos') pos.line X.env=pure false):
  PS X (.Assign [.Subscript o i pos'] value pos) (Gr td ty tv):=by
 intro b s σ H D I h;refine wpAny_Assign_Subscript (bP (hv b s σ H _ I h) λr C ⟨v,H1,t,c,l⟩=>bP (ho b C σ H1 _ t l) λu z ⟨x,m,n,B,d⟩=>bP (hi b z σ m _ n d) λG J ⟨y,F,w,e,a,q,p,g,f⟩=>?_) hs;subst p;obtain rfl:u=Value.ref a:=B;exact DF hu w g e c λE j=>⟨σ,q,j,f⟩
def Gu(h:Heap)(hb:sysModules<h.objs.size):bG P w H (h.push {cls:=.type "dict",data:=.dict #[]}) h.objs.size (.dK []):=
 ⟨zero_le _,tz.mpr<|Ne.symm<|j9 hb,[],.nil,Heap.DictOf.new h⟩
def zu:TE:=λ_ H Q=>∀p,H p=none->Q (.ref p) (upd H p<|.dK [])
def Gv:PE X (.Dict [] [] pos) zu:=λb s σ H Q I h=>
 wpAny_Dict_empty ⟨.ref s.heap.objs.size,_,I.laid (a:=s.heap.objs.size) (o:=.dK []) (t':=s.toks) (λ_ _ q=>ef _ q) (dy _)<|Gu s.heap I.big,rfl,h _<|I.bq.fresh<|dy _⟩
structure M2(X:Cx)(o:Expr)(m:Str)(A':Pos)(e f:Expr)(bN:Pos):Prop where
 base:attributeBase o m X.env (eval o X.env)=eval o X.env
 fJ:((backTo bN<|starEach [e,f] X.env).all (λx=>!x.1)&&(backToKw bN<|keywordEach [] X.env).all (λx=>x.1.isSome)
  &&decide (([e,f]:i_).length+([]:List Keyword).length+(if([]:List Keyword).isEmpty then 0 else 1)<30))=true
 line:(A'.endLine==bN.line)=true
 trees:backTo bN (starEach [e,f] X.env)=[(false,eval e X.env),(false,eval f X.env)]
def rl(scope osc:Scope):Scope:=
 {scope with names:=scope.names.map λ(n,k)=>if(k==.free&&osc.kind==.function&&osc.names.lookup n==some .cell)then(n,.cell)else(n,k)}
noncomputable def f6(env:Env):List (Str × NameKind)->List (Str × Addr)->List (Str × Addr)
 | [],a=>a
 |(n,k)::r,a=>if(k==NameKind.free)=true then f6 env r ((n,(env.cells.lookup n).getD 0)::a)else f6 env r a
theorem j3{env:Env}:∀(names:List (Str × NameKind)) (cs:List (Str × Addr)),(∀x∈names,x.2=.free->∃c,env.cells.lookup x.1=some c)->
  (forIn names cs λ(x:Str × NameKind) (r:List (Str × Addr))=>if(x.2==NameKind.free)=true then(do let y<-cellOf env x.1;pure (ForInStep.yield ((x.1,y)::r)))else(pure (ForInStep.yield r):Sem _))=(pure (f6 env names cs):Sem _)
 | [],cs,_=>rfl
 |(n,k)::r,cs,h=>by
  have d:=λb=>j3 (env:=env) r b λx hx=>h x<|fz _ hx;rw[forIn_cons]
  by_cases hk:(k==NameKind.free)=true
  ·obtain⟨c,hc⟩:=h (n,k) fA (by simpa using hk)
   have a:env.cells.lookup n=some c:=hc;have e:cellOf env n=(pure c:Sem Addr):=by unfold cellOf;rw[a]
   simp only[hk,if_true,e,pure_bind];rw[d];have e2:f6 env ((n,k)::r) cs=f6 env r ((n,c)::cs):=by
    show(if(k==NameKind.free)=true then f6 env r ((n,(env.cells.lookup n).getD 0)::cs)else f6 env r cs)=_
    rw[if_pos hk,a]<;>rfl
   rw[e2]
  ·simp only[hk,if_false,pure_bind];show(forIn r cs _:Sem _)=_;rw[d];have e2:f6 env ((n,k)::r) cs=f6 env r cs:=by
    show(if(k==NameKind.free)=true then f6 env r ((n,(env.cells.lookup n).getD 0)::cs)else f6 env r cs)=_
    rw[if_neg hk]
   rw[e2]
def qM{scope:Scope}{env:Env}(h:∀x∈scope.names,x.2=.free->∃c,env.cells.lookup x.1=some c):closureFor scope env=pure (f6 env scope.names []):=by
 have q:=j3 scope.names [] h;show((forIn scope.names ([]:List (Str × Addr)) λ(x:Str × NameKind) (r:List (Str × Addr))=>if(x.2==NameKind.free)=true then(do let y<-cellOf env x.1;pure (ForInStep.yield ((x.1,y)::r)))else(pure (ForInStep.yield r):Sem _)) >>= λa=>pure a)=_
 rw[q,pure_bind]
theorem o9{env:Env}:∀(names:List (Str × NameKind)) (cs:List (Str × Addr)),(∀x∈names,x.2=.free->∃c,env.cells.lookup x.1=some c)->(∀x c,cs.lookup x=some c->env.cells.lookup x=some c)->
  ∀x c,(f6 env names cs).lookup x=some c->env.cells.lookup x=some c
 | [],_,_,h,x,c,e=>h x c e
 |(n,k)::r,cs,b,h,x,c,e=>by
  have f:∀x∈r,x.2=.free->∃c,env.cells.lookup x.1=some c:=λx hx=>b x<|fz _ hx;unfold f6 at e
  by_cases hk:(k==NameKind.free)=true
  ·rw[if_pos hk]at e;obtain⟨g,hc⟩:=b (n,k) fA (by simpa using hk)
   have a:env.cells.lookup n=some g:=hc;refine o9 r _ f (λy d q=>?_) x c e;rw[KB]at q
   cases hy:y==n with
   |true=>
    rw[hy]at q
    have:y=n:=by simpa using hy
    subst this;rw[a]at q
    cases q
    exact a
   |false=>rw[hy]at q;exact h y d q
  ·rw[if_neg hk]at e;exact o9 r cs f h x c e
theorem me{env:Env}:∀(names:List (Str × NameKind)) (cs:List (Str × Addr)) (x:Str),(∃c,cs.lookup x=some c)->∃c,(f6 env names cs).lookup x=some c
 | [],_,_,h=>h
 |(n,k)::r,cs,x,h=>by
  unfold f6
  split
  ·refine me r _ x ?_;rw[KB]
   cases hy:x==n with
   |true=>exact⟨_,rfl⟩
   |false=>exact h
  ·exact me r cs x h
theorem lp{env:Env}:∀(names:List (Str × NameKind)) (cs:List (Str × Addr)) (x:Str),(x,NameKind.free)∈names->∃c,(f6 env names cs).lookup x=some c
 | [],_,_,h=>(nomatch h)
 |(n,k)::r,cs,x,h=>by
  unfold f6
  rcases gg.mp h with e|h
  ·cases e
   rw[if_pos (by rfl)]
   exact me r _ _ ⟨_,by rw[KB,Wl]⟩
  ·split
   ·exact lp r _ x h
   ·exact lp r cs x h
structure RE(osc:Scope)(oN N:f_)(scope:Scope)(fv:List (Option Nat)):Prop where
 kind:scope.kind=.function
 VV:osc.kind=.function
 Bs:∀y∈scope.names,y.2≠.cell
 loc:∀y∈scope.names,y.2=.local->scope.names.lookup y.1=some .local
 VU:∀y∈scope.names,y.2=.free->osc.names.lookup y.1=some .cell
 own:∀y∈(rl scope osc).names,y.2≠.free
 len:fv.length=N.length
 up:∀(i j:Nat),i<20->fv[i]?=some (some j)->oN[j]?=N[i]?/\∀x,N[i]?=some x->(rl scope osc).names.lookup x=some .cell/\osc.names.lookup x=some .cell
 fJ:N.length<20
noncomputable def zw(fv:List (Option Nat))(σ:St):St:=fv.map λo=>match o with
 |none=>none
 |some j=>(σ[j]?).join
noncomputable def lq(X:Cx)(N:f_)(scope:Scope)(cl:List (Str × Addr))(C:Addr)(fp:l_)(s:Shared)(H:Hp):Cx where
 prog:=X.prog
 w:=X.w
 K:=X.K
 mg:=X.mg
 base:=X.base
 A:=X.A
 N:=N
 s₀:=s
 H₀:=H
 env:=compEnvC scope cl C X.env
 outer:=X.stack
 stack:=X.stack
 ex:=fp
 fn:=λ_=>false
 calm:=true
 pn:=[]
 xe:=λ_ _=>False
def NL(Y:Cx)(A_:i_)(t:TT):Prop:=
 ∀(w_:aO0) (s:Shared) (σ:St) (H:Hp) (Q:Bool->r_),Inv Y w_ σ H s->t σ H Q->
  wpAny (model Y.prog Y.w) Y.A (forIn A_ true λc r=>if r=true then do let ok<-isTrue c Y.env (eval c Y.env);pure (ForInStep.yield ok)else pure (ForInStep.yield r)) (TP Y w_ σ Q) Y.xe s
def gZ:TT:=λ_ H Q=>Q true H
variable{Y:Cx}
def Li:NL Y [] gZ:=λ_ _ _ H _ I h=>wpAny_tests_nil ⟨H,I,h⟩
def Lj{c:Expr}{t:TT}(h:PT Y c t):NL Y [c] t:=λa s σ H Q I b=>wpAny_tests_one<|h a s σ H Q I b
def sN(g:TG)(tc:TT)(te:TE)(τ0:St)(Q:VK):It->r_:=λJ H1=>∀B_,H1 B_=none->
 ∃W:Nat->o_,(∃m,W 0 m τ0<|upd H1 B_<|.lst [])/\∀i m τ H,W i m τ H->
  (J.stop i H/\Q (.ref B_) H)∨(J.go i H/\∃N:p_,(∀τ' H',N τ' H'->∃m',m' < m/\W (i+1) m' τ' H')/\
   ∀x H',J.Dd i H x H'->g x τ H' λa e=>tc a e λb d=>if b=true then te a d λv c=>∃ys,c B_=some (.lst ys)/\ys.length<sizeLine/\N a (upd c B_<|.lst<|ys++[v])else N a d)
variable{prog:Program}{R:Result->Shared->Prop}{z_ x_:Expr}{A_:i_}
def i5{y_:Expr}{scope:Scope}{pos:Pos}{it B_:Value}{env:Env}(I:Nat->Shared->Prop)
  (turn:∀n s,I n s->wpAny (model prog w) A (pyNext it) (λr s₁=>match r with
   |none=>R (.ok .next) s₁
   |some v=>wpAny (model prog w) A (letOwnedTupleGo x_ it v) (λ_ s₁'=>wpAny (model prog w) A (assign x_ env v) (λ_ s₂=>
     wpAny (model prog w) A (forIn A_ true λc r=>if r=true then do let ok<-isTrue c env (eval c env);pure (ForInStep.yield ok)else pure (ForInStep.yield r)) (λok s₃=>
      if ok=true then wpAny (model prog w) A (eval z_ env) (λx s₄=>
       wpAny (model prog w) A (call (.builtin "list.append") [B_,x]) (λ_ s₅=>∃m,m<n/\I m s₅) (λ_ _=>False) s₄) (λ_ _=>False) s₃
      else ∃m,m<n/\I m s₃) (λ_ _=>False) s₂) (λ_ _=>False) s₁') (λ_ _=>False) s₁) (λ_ _=>False) s)
  (n:Nat) (h:I n s):
  codeAny (model prog w) A (.compLoop (.ListComp z_ [⟨x_,y_,A_,0⟩] scope pos) 0 it B_ env) R s:=by
 refine codeAny_loop rfl I (λn s f=>?_) n h;show wpAny _ A ((compTurn (.ListComp z_ [⟨x_,y_,A_,0⟩] scope pos) 0 it B_ env).onRaise (λx=>do noteFrame x env;theTreesLotGoes x)) _ _ s
 refine wpAny_noted ?_;rw[compTurn_list];refine cv<|wpAny_standAt<|cv<|Bz (turn n s f) (λr s₁ d=>?_) λ_ _ a=>a.elim
 cases r with
 |none=>exact ek d
 |some v=>
  refine cv<|Bz d (λ_ s₁' b=>?_) λ_ _ a=>a.elim;refine cv<|Bz b (λ_ s₂ i=>cv<|Bz i (λok s₃ e=>?_) λ_ _ a=>a.elim) λ_ _ a=>a.elim
  cases ok with
  |false=>exact ek ⟨rfl,e⟩
  |true=>
   exact cv<|cv<|Bz e (λx s₄ g=>cv<|Bz g (λ_ s₅ j=>ek<|ek ⟨rfl,j⟩) λ_ _ a=>a.elim) λ_ _ a=>a.elim
def wR{σ:St}{j:Nat}(h:(σ[j]?).join=some v):σ[j]?=some (some v):=by
 cases e:σ[j]? with
 |none=>rw[e]at h;cases h
 |some o=>rw[e]at h;exact BA some h
variable{scope:Scope}{N:f_}{fv:List (Option Nat)}
def Lk{σ:St}{s4:Shared}{fp:l_}{C:Addr}{m:b_}(hc:X.calm=true)(S:RE X.env.scope X.N N scope fv)(I:Inv X w_ σ H s)(hC:s.heap.objs.size<=C)
  (hf:∀b∈fp,b<s.heap.objs.size/\k7 X w_ H b) (hk:∀b o,s.heap.get? b=some o->s4.heap.get? b=some o) (hn:s4.heap.Ns C m) (hos:s4.os=s.os) (hg:s4.gens=s.gens):
  Inv (lq X N scope (f6 X.env scope.names []) C fp s H) [] (zw fv σ) H s4:=by
 have w:∀x∈scope.names,x.2=.free->∃c,X.env.cells.lookup x.1=some c:=λx hx e=>I.ok.has x.1<|.inl<|S.VU x hx e;have g:=o9 scope.names [] w λ_ _ e=>nomatch e;have O:=I.sz;have fresh:∀a,s.heap.objs.size<=a->H a=none:=λa ha=>I.bq.fresh ha;refine⟨⟨I.ok.mod,S.kind,I.ok.glob,I.ok.blt,hC,λx y c L e2=>I.ok.inj x y c (g x c L)<|g y c e2,λx hx=>?_,λx c z _=>(nomatch z),λ_=>I.ok.hd hc,I.ok.frames,.inl rfl,λb hb=>⟨?_,λx c e=>(hf b hb).2.2.2.2.2.1 x c<|g x c e⟩,
   I.bs,gr I.ok.Nx O,λb o e hb=>?_,λb hb z=>?_,I.stack,I.BH⟩,
  hos,?_,Un.kept hk,⟨m,hn,λi x v L e2 e3=>?_⟩,λx c e=>?_,fresh C hC,λx c e=>I.km x c<|g x c e,λp W=>absurd (show p∈([]:aO0)from W) (by simp),I.bq.kept hk,?_⟩
 ·have P:(rl scope X.env.scope).names.lookup x=some .cell∨(rl scope X.env.scope).names.lookup x=some .free:=hx
  rcases P with e|e
  ·have hm:=E3 e;obtain⟨⟨n,k⟩,h,M⟩:=gh.mp hm;have f:(if(k==NameKind.free&&X.env.scope.kind==.function&&X.env.scope.names.lookup n==some .cell)=true then(n,NameKind.cell)else(n,k))=(x,NameKind.cell):=M
   by_cases d:(k==NameKind.free&&X.env.scope.kind==.function&&X.env.scope.names.lookup n==some .cell)=true
   ·rw[if_pos d]at f;have R:n=x:=BA Prod.fst f;have A:k=NameKind.free:=by
     rw[gc,gc]at d
     simpa using d.1.1
    subst R A;exact lp scope.names [] n h
   ·rw[if_neg d]at f;have A:k=NameKind.cell:=BA Prod.snd f;exact absurd A<|S.Bs _ h
  ·exact absurd rfl<|S.own _<|E3 e
 ·exact j9<|g4 (hf b hb).1 hC
 ·rcases(hf b hb).2.2.2.2.1 with z|z
  ·exact I.ok.Fc b o e z
  ·exact absurd (g4 (lt_size e)<|gr I.ok.Nx z)<|Df _
 ·rcases gg.mp (I.yW b z)with q|q
  ·exact(hf b hb).2.2.1 q
  ·exact(hf b hb).2.2.2.1 q
 ·show AllBare s4.gens;rw[hg];exact I.bare
 ·have hil:i<fv.length:=by
   have:=(ls.mp e2).1
   unfold zw at this
   rwa [b5]at this
  have J:i<20:=by have:=S.fJ;have:=S.len;omega
  unfold zw at e2;rw[ed]at e2
  cases Q:fv[i]? with
  |none=>rw[Q]at e2;cases e2
  |some o=>
   rw[Q]at e2
   cases o with
   |none=>cases e2
   |some j=>
    have U:(σ[j]?).join=some v:=o6 e2;have hσ:=wR U;obtain⟨R,hx⟩:=S.up i j J Q;obtain⟨D,E⟩:=hx x L;obtain⟨mX,Y,hl⟩:=I.loc;obtain⟨u,r,l⟩:=hl j x v (R.trans L) hσ<|.inr<|.inl E;refine⟨u,r,?_⟩
    rcases l with ⟨k,_⟩|⟨k,c,ec,Z⟩
    ·have t:X.env.scope.names.lookup x=some .local:=k;rw[E]at t
     cases t
    ·obtain⟨G,B,K⟩:=Z;have hm:(x,NameKind.free)∈scope.names:=by
      have hm:=E3 D;obtain⟨⟨n,t⟩,h,M⟩:=gh.mp hm;have f:(if(t==NameKind.free&&X.env.scope.kind==.function&&X.env.scope.names.lookup n==some .cell)=true then(n,NameKind.cell)else(n,t))=(x,NameKind.cell):=M
      by_cases d:(t==NameKind.free&&X.env.scope.kind==.function&&X.env.scope.names.lookup n==some .cell)=true
      ·rw[if_pos d]at f;have T:n=x:=BA Prod.fst f;have A:t=NameKind.free:=by
        rw[gc,gc]at d
        simpa using d.1.1
       subst T A;exact h
      ·rw[if_neg d]at f;have A:t=NameKind.cell:=BA Prod.snd f;exact absurd A<|S.Bs _ h
     obtain⟨c',F⟩:=lp (env:=X.env) scope.names [] x hm
     have:=g x c' F
     rw[ec]at this
     cases this
     exact .inr ⟨.inl D,c,F,G,hk c G B,K⟩
 ·obtain⟨v,G,B,K⟩:=I.cell x c<|g x c e;exact⟨v,G,hk c G B,K⟩
 ·show(zw fv σ).length=N.length;unfold zw;rw[b5];exact S.len
variable{y_:Expr}{g:TG}{tc:TT}{te:TE}{Q:VK}{wi:TI}
def sO(hc:X.calm=true)(hi:PI X x_ y_ wi)(S:RE X.env.scope X.N N scope fv)
  (hB:∀cl C fp s H,PG (lq X N scope cl C fp s H) x_ g/\NL (lq X N scope cl C fp s H) A_ tc/\PE (lq X N scope cl C fp s H) z_ te)
  {σ:St} (I:Inv X w_ σ H s) {use:Option (Value->Sem Unit)} {Post:c_} {p2:Pos}
  (h:wi σ H (sN g tc te (zw fv σ) Q))
  (hPost:∀(B_ C:Addr) (s':Shared) (H':Hp) (m:b_),Inv X w_ σ H' s'->s'.heap.Ns C m->k7 X w_ H' C->Q (.ref B_) H'->compPost (model X.prog X.w) X.A X.xe use Post (.ref B_) C (.ok .next) s')
  (hs:∀x,foldedSetIterable y_ X.env x=pure x):
  wpAny (model X.prog X.w) X.A (comprehension (.ListComp z_ [⟨x_,y_,A_,0⟩] scope pos) scope X.env p2 (newList []) false (eval y_ X.env) use) Post X.xe s:=by
 have F:∀x∈scope.names,x.2=.free->∃c,X.env.cells.lookup x.1=some c:=λx hx e=>I.ok.has x.1<|.inl<|S.VU x hx e;refine wpAny_comprehension_free (use:=use) rfl hs (qM F) S.kind S.loc<|bP (hi w_ s σ H _ I h) λxv s1 h1=>bP h1 λitv a h2=>?_;obtain⟨it,fp,tn,J,L,e,I2,T,E,f2,rd⟩:=h2;subst e;have R:L a.heap.objs.size=none:=I2.fresh;obtain⟨W,⟨m0,w0⟩,ab⟩:=rd a.heap.objs.size R;refine wpAny_newObj_type (wpAny_newFunctionEnv S.Bs (by intro y hy;simp at hy) (λh₁ l j=>?_) S.kind)
 dsimp only at l j ⊢
 have IA:Inv X w_ σ (upd L a.heap.objs.size<|.lst []) {a with heap:=a.heap.push {cls:=.type "list",data:=.seq ([]:f').toArray}}:=I2.PL (t':=a.toks) .nil<|zero_le _;generalize U:a.heap.push {cls:=.type "list",dict:=none,data:=.seq ([]:f').toArray}=hA at l j IA ⊢;have P:hA.objs.size=a.heap.objs.size+1:=by rw[<-U,C4]
 have Z:∀b o,a.heap.get? b=some o->hA.get? b=some o:=λb o e=>by rw[<-U];exact ef _ e
 have G:∀b o,hA.get? b=some o->h₁.get? b=some o:=λb o e=>j.extBut b o (j9<|lt_size e)<|ef _ e;have O:∀b∈fp,b<a.heap.objs.size:=λb hb=>by
  obtain⟨o,e,_⟩:=T.obj 0 _ E b hb;exact lt_size e
 have K:∀b∈fp,b<hA.objs.size/\k7 X w_ (upd L a.heap.objs.size<|.lst []) b:=λb hb=>⟨by rw[P];exact Wf<|O b hb,by rw[aC (j9<|O b hb)];exact(f2 b hb).1,(f2 b hb).2⟩
 let sA:Shared:={a with heap:=hA}
 let Y:Cx:=lq X N scope (f6 X.env scope.names []) hA.objs.size fp sA<|upd L a.heap.objs.size<|.lst []
 obtain⟨hG,hIf,hE⟩:=hB (f6 X.env scope.names []) hA.objs.size fp sA<|upd L a.heap.objs.size<|.lst [];have B:∀s4:Shared,s4={a with heap:=h₁,toks:=a.toks+([]:List (Str × Value)).length}->
   codeAny (model X.prog X.w) X.A (.compLoop (.ListComp z_ [⟨x_,y_,A_,0⟩] scope pos) 0 (.ref it) (.ref a.heap.objs.size)<|compEnvC scope (f6 X.env scope.names []) hA.objs.size X.env)
    (compPost (model X.prog X.w) X.A X.xe use Post (.ref a.heap.objs.size) hA.objs.size) s4:=by
  rintro s4 rfl;have IY:Inv Y [] (zw fv σ) (upd L a.heap.objs.size<|.lst []) {a with heap:=h₁,toks:=a.toks+([]:List (Str × Value)).length}:=
   Lk hc S IA (dy _) K G l rfl rfl
  have t:∀ {H':Hp},(∀b∈fp,H' b=none)->∀b∈fp,k7 Y [] H' b:=λhn b hb=>
   ⟨hn b hb,(IY.ok.US b hb).1,IY.ok.Ko b hb,.inl hb,(IY.ok.US b hb).2,λp hp=>absurd (show p∈([]:aO0)from hp) (by simp)⟩
  refine i5 (λn s'=>∃i τ H',Inv Y [] τ H' s'/\tn i s'.heap/\(∀b∈fp,H' b=none)/\W i n τ H') ?_ m0
   ⟨0,zw fv σ,_,IY,T.keep _ _ _ E λb hb o e=>G b o<|Z b o e,λb hb=>(K b hb).2.1,w0⟩
  rintro n s5 ⟨i,τ,H5,I5,st5,ay,w5⟩
  rcases ab i n τ H5 w5 with ⟨stop,q⟩|⟨go,NN,hN,step⟩
  ·refine Bz (T.done Y rfl rfl rfl rfl i [] s5 τ H5 (λ_ _=>False) I5 (t ay) st5 stop) (λr s6 ⟨hr,M⟩=>?_) λ_ _ z=>z;subst hr;obtain⟨m6,hn6,_⟩:=id M.loc;have IX:Inv X w_ σ H5 s6:=IA.RP M.os M.base M.bq M.bare λb hb=>⟨(K b hb).2.2.2.2.1,(K b hb).2.2.1,(K b hb).2.2.2.2.2.1,(K b hb).2.2.2.2.2.2⟩;exact hPost _ _ _ _ m6 IX hn6 (IA.yX (dy _) M.free) q
  ·refine Bz (T.item Y rfl rfl rfl rfl i [] s5 τ H5 (λ_ _=>False) I5 (t ay) st5 go) (λr s6 ⟨u,hr,h6⟩=>?_) λ_ _ z=>z;subst hr;refine Bz h6 (λ_ s7 ⟨x,H7,I7,r7,y7,D,fr7⟩=>?_) λ_ _ z=>z;have I7':=I7.pinned (t fr7)<|T.obj _ _ D;refine Bz (hG _ s7 τ H7 x u _ I7' r7<|step x H7 y7) (λ_ s8 ⟨τ8,H8,I8,q8⟩=>?_) λ_ _ z=>z;refine Bz (hIf _ s8 τ8 H8 _ I8 q8) (λb s9 ⟨H9,I9,q9⟩=>?_) λ_ _ z=>z;have f:∀ {τ':St} {H':Hp} {s':Shared},Inv Y ([]++oU fp s7.heap) τ' H' s'->NN τ' H'->∃m,m<n/\∃i τ H',Inv Y [] τ H' s'/\tn i s'.heap/\(∀b∈fp,H' b=none)/\W i m τ H':=λ{τ' H' s'} I' n'=>by
    obtain⟨m',hm,w'⟩:=hN τ' H' n';refine⟨m',hm,i+1,τ',H',I'.k8,T.keep _ _ _ D λb hb o e=>(I'.pin (b,o)<|q7 _<|q7 _<|ia hb e).1,λb hb=>?_,w'⟩;obtain⟨o,e,d⟩:=T.obj _ _ D b hb;exact(I'.pin (b,o)<|q7 _<|q7 _<|ia hb e).2.1
   cases b with
   |false=>exact f I9 q9
   |true=>
    show wpAny _ _ _ _ _ _;refine Bz (hE _ s9 τ8 H9 _ I9 q9) (λv s10 ⟨y,H10,I10,r10,ys,hy,hz,q10⟩=>?_) λ_ _ z=>z;refine Bz (cu (X:=Y) _ s10 τ8 H10 (.ref a.heap.objs.size) [y] (.ref a.heap.objs.size) [v] (λ_ H'=>NN τ8 H') I10 rfl (.cons r10 .nil) ⟨_,ys,y,rfl,rfl,hy,hz,q10⟩) (λ_ s11 ⟨_,H11,I11,_,q11⟩=>?_) λ_ _ z=>z;exact f I11 q11
 have st1:tn 0 h₁:=T.keep _ _ _ E λb hb o e=>G b o<|Z b o e;exact codeAny_compStart_list (B _ rfl)<|T.self _ 0 _ _ _ st1<|B _ rfl
def PU(wi:TI)(g:TG)(tc:TT)(te:TE)(fv:List (Option Nat)):TE:=λσ H Q=>wi σ H<|sN g tc te (zw fv σ) Q
def R8(hc:X.calm=true)(hi:PI X x_ y_ wi)(S:RE X.env.scope X.N N scope fv)
  (hB:∀cl C fp s H,PG (lq X N scope cl C fp s H) x_ g/\NL (lq X N scope cl C fp s H) A_ tc/\PE (lq X N scope cl C fp s H) z_ te)
  (hs:∀x,foldedSetIterable y_ X.env x=pure x:=by intro _;rfl):PE X (.ListComp z_ [⟨x_,y_,A_,0⟩] scope pos) (PU wi g tc te fv):=by
 intro c s σ H Q I h;rw[eval_ListComp];refine sO hc hi S hB I (use:=none) h (λa C u r m l hn d q=>⟨m,hn,λv i=>?_⟩) hs;obtain⟨p,n,w,j,f,t⟩:=d;exact⟨.ref a,r,l.turned (t':=u.toks) (λb o hb e=>i.extBut b o hb e) p n j f t,rfl,q⟩
variable{px spos:Pos}
def R9{i:Nat}(hN:X.N.Nodup)(hi':X.N[i]?=some x)(hx:X.env.scope.names.lookup x=some .local)(hc:X.calm=true)(hi:PI X x_ y_ wi)(S:RE X.env.scope X.N N scope fv)
  (hB:∀cl C fp s H,PG (lq X N scope cl C fp s H) x_ g/\NL (lq X N scope cl C fp s H) A_ tc/\PE (lq X N scope cl C fp s H) z_ te)
  (hsw:swapsWith (.ListComp z_ [⟨x_,y_,A_,0⟩] scope pos) (some<|.Name x px) spos.line X.env=pure true)
  (hs:∀x,foldedSetIterable y_ X.env x=pure x:=by intro _;rfl):PS X (.Assign [.Name x px] (.ListComp z_ [⟨x_,y_,A_,0⟩] scope pos) spos) (qJ (PU wi g tc te fv)<|bF i):=by
 intro c s σ H D I h;rw[exec_Assign_Name_used _ _ _ _ hsw];refine cv<|wpAny_standAt<|cv ?_;show wpAny _ _ (do let _<-comprehension (.ListComp z_ [⟨x_,y_,A_,0⟩] scope pos) scope X.env _ (newList []) false (eval y_ X.env) (some<|assign (.Name x px) X.env)) _ _ s
 refine cv<|Bz (sO hc hi S hB I (use:=some<|assign (.Name x px) X.env) (Post:=λ_ f=>SP X c D .next f) h (λd C f B m w hn r q=>?_) hs) (λ_ f hq=>ek<|ek hq) λ_ _ e=>e;show wpAny _ _ (assign (.Name x px) X.env<|.ref d) _ _ _;refine wpAny_assign_Name<|rY w hN hi' (.inl hx) (show RelV (.ref d) _ from rfl) (λF v ⟨a,l,y⟩=>?_)<|.inr hx
 obtain⟨A,p,J,u,n,E⟩:=r;have j:C≠a:=by
  rcases y with z|z
  ·rw[z];exact p
  ·exact λe=>n x a z e.symm
 refine⟨m,hn.sameBut l j,λG t=>?_⟩;exact⟨_,B,v.turned (t':=F.toks) (λb o hb e=>t.extBut b o hb e) A p u n E,q⟩
def Bt(k:Nat)(i:Int):Prop:=i.natAbs<2 ^ k
variable{i:Int}{m:Nat}
def Bt.mono{k:Nat}(h:Bt k i)(hk:k<=m):Bt m i:=g4 h (oD a_ hk)
variable{a b:Nat}{j:Int}
def Bt.mul(h:Bt a i)(h':Bt b j):Bt (a+b) (i*j):=by
 unfold Bt at *;rw[Int.natAbs_mul,Nat.pow_add];exact Nat.mul_lt_mul'' h h'
def Bt.of_le(h:Bt a i)(h0:0<=j)(h1:j<=i):Bt a j:=by
 unfold Bt at *
 omega
def Bt.ok(h:Bt a i)(h':Bt b j)(hs:a+b<=100000):IntMulOk i j:=
 PySem.IntMulOk.of_le (PySem.intBits_le_iff.mpr h) (PySem.intBits_le_iff.mpr h') (by omega)
def Bt.log(h:Bt a i)(h0:0<i)(ha:a<=9000):i.natAbs.log2<9000:=
 g4 ((log2_lt (by omega)).mpr h) ha
def uy(h1:-(2 ^ 64)<i)(h2:i<2 ^ 64):IntMulOk i j:=.of_left<|intBits_le_64 h1 h2
def Gw(h1:-(2 ^ 64)<j)(h2:j<2 ^ 64):IntMulOk i j:=.of_right<|intBits_le_64 h1 h2
def dv:eS X (binaryOp .Mult) (rI IntMulOk λi j=>.int<|i*j):=RB λ_ _ _ _ _ _ _ hc q=>mul_int q hc
def ba:eS X (binaryOp .FloorDiv) (rI (λ_ j=>0<j/\j.natAbs.log2<9000) λi j=>.int<|i / j):=RB λi j _ _ _ _ _ hc q=>by
 have h1:(0:Int)<j:=hc.1;exact floordiv_int (by omega) (by rw[Int.fdiv_eq_ediv_of_nonneg i (by omega)];exact q)<|.inl<|PyProof.noPylong_of_log2 hc.2
def tI(f:Int->V)(ta:TE):TE:=λσ H Q=>ta σ H λx H1=>∃i,x=.int i/\Q (f i) H1
variable{a e:Expr}{ta:TE}{k:Nat}{n:Int}
def Ll(ha:PE X a ta)(h:0<n/\n<1073741824:=by decide):PE X (.BinOp a .FloorDiv (.Constant (.int n) k pos') pos) (tI (λi=>.int<|i / n) ta):=by
 intro b s σ H Q I hq;refine wH KS ha lX b s σ H Q I ?_;refine(show ∀t:TE,PE X a t->_ from λ_ _=>?_) ta ha
 exact(show uf (rI Pm λi j=>.int<|i / j) ta (tC<|.int n) σ H Q from by
  unfold uf tC rI;unfold tI at hq
  have:(λx H1=>∃i,x=V.int i/\Q (.int<|i / n) H1)=(λx H1=>∃i j,x=V.int i/\V.int n=V.int j/\Pm i j/\Q (.int<|i / j) H1):=by
   funext x H1
   apply propext
   constructor
   ·rintro⟨i,e,q⟩;exact⟨i,n,e,rfl,h,q⟩
   ·rintro⟨i,j,e,c,_,q⟩;cases c;exact⟨i,e,q⟩
  rw[this]at hq;exact hq)
def Lm(ha:PE X a ta)(h:0<n:=by decide):PE X (.BinOp a .Mod (.Constant (.int n) k pos') pos) (tI (λi=>.int<|i%n) ta):=by
 intro b s σ H Q I hq;refine wH dk ha lX b s σ H Q I ?_;unfold uf tC rI;unfold tI at hq
 have:(λx H1=>∃i,x=V.int i/\Q (.int<|i%n) H1)=(λx H1=>∃i j,x=V.int i/\V.int n=V.int j/\0<j/\Q (.int<|i%j) H1):=by
  funext x H1
  apply propext
  constructor
  ·rintro⟨i,e,q⟩;exact⟨i,n,e,rfl,h,q⟩
  ·rintro⟨i,j,e,c,_,q⟩;cases c;exact⟨i,e,q⟩
 rw[this]at hq;exact hq
def Lo(ha:PE X a ta)(h:-(2 ^ 64)<n/\n<2 ^ 64:=by decide):PE X (.BinOp a .Mult (.Constant (.int n) k pos') pos) (tI (λi=>.int<|i*n) ta):=by
 intro b s σ H Q I hq;refine wH dv ha lX b s σ H Q I ?_;unfold uf tC rI;unfold tI at hq
 have:(λx H1=>∃i,x=V.int i/\Q (.int<|i*n) H1)=(λx H1=>∃i j,x=V.int i/\V.int n=V.int j/\IntMulOk i j/\Q (.int<|i*j) H1):=by
  funext x H1
  apply propext
  constructor
  ·rintro⟨i,e,q⟩;exact⟨i,n,e,rfl,Gw h.1 h.2,q⟩
  ·rintro⟨i,j,e,c,_,q⟩;cases c;exact⟨i,e,q⟩
 rw[this]at hq;exact hq
def Lp(ha:PE X a ta)(h:-(2 ^ 64)<n/\n<2 ^ 64:=by decide):PE X (.BinOp (.Constant (.int n) k pos') .Mult a pos) (tI (λi=>.int<|n*i) ta):=by
 intro b s σ H Q I hq;refine wH dv lX ha b s σ H Q I ?_;unfold uf tC rI;unfold tI at hq
 have:(λx H1=>∃i,x=V.int i/\Q (.int<|n*i) H1)=(λx H1=>∃i j,V.int n=V.int i/\x=V.int j/\IntMulOk i j/\Q (.int<|i*j) H1):=by
  funext x H1
  apply propext
  constructor
  ·rintro⟨i,e,q⟩;exact⟨n,i,rfl,e,uy h.1 h.2,q⟩
  ·rintro⟨i,j,c,e,_,q⟩;cases c;exact⟨j,e,q⟩
 rw[this]at hq;exact hq
def Gx(hc:X.calm=true):b6 X (.builtin "sum") (λxs H Q=>∃(p:Addr) (ns:e_),xs=[.ref p]/\aw X.K H p (ns.map V.int)/\Q (.int ns.sum) H):=by
 intro d s σ H xs l Q I r h;obtain⟨p,ns,rfl,hq,q⟩:=h;obtain⟨u,rfl,i⟩:=vals1 r
 cases i
 obtain⟨a,e,g,hz⟩:=I.list hq;have hi:=intsAre_of e;obtain⟨m,hn,_⟩:=I.loc;have b:s.heap.IsList p a.toArray:=g.isList;obtain⟨xs,c⟩:=hi.allInts.items;rw[c]at b;refine PySem.sum_intListG (I.ok.hd hc) b λn j f hk=>⟨.int ns.sum,H,I.kept hk,⟨f,?_⟩,q⟩;have e2:(numsOf a.toArray.toList)=ns:=by rw[show a.toArray.toList=a from rfl,hi.numsOf]
 rw[c,nums_intItems]at e2;rw[preSum_eq,vr (by simp),<-e2]
end L2
namespace L2
open PySem PySem.Spec PyProof.Rows
mutual
inductive Dt(K:Frag)(H:Hp):V->PyData->Prop where
 |bE:Dt K H .bE .none
 |bl (b):Dt K H (.bl b) (.bool b)
 |int (i):Dt K H (.int i) (.int i)
 |str (x):Dt K H (.str x) (.str x)
 |lst {a xs ds}:aw K H a xs->cG K H xs ds->Dt K H (.ref a) (.list ds)
 |tup {a xs ds}:aL K H a xs->cG K H xs ds->Dt K H (.ref a) (.tuple ds)
inductive cG(K:Frag)(H:Hp):u_->List PyData->Prop where
 |nil:cG K H [] []
 |cons {x xs d ds}:Dt K H x d->cG K H xs ds->cG K H (x::xs) (d::ds)
end
variable{X:Cx}
mutual
theorem Dt.reads{w_:aO0}{σ:St}{H:Hp}{s:Shared}(I:Inv X w_ σ H s):∀ {x:V} {d:PyData} {u:Value},Dt X.K H x d->RelV x u->∃as,Reads s.heap u d as
 |_,_,_,.bE,r=>by cases r;exact⟨_,.none⟩
 |_,_,_,.bl b,r=>by cases r;exact⟨_,.bool b⟩
 |_,_,_,.int i,r=>by obtain⟨t,rfl⟩:=r;exact⟨_,.int i t⟩
 |_,_,_,.str x,r=>by obtain⟨t,rfl⟩:=r;exact⟨_,.str x t⟩
 |_,_,_,.lst h j,r=>by
  cases r
  obtain⟨g,a,⟨o,n,e,f,l,c⟩,_⟩:=I.list h;obtain⟨as,q⟩:=cG.reads I j a;exact⟨_,.list e f c (by simpa using q)⟩
 |_,_,_,.tup h j,r=>by
  cases r
  obtain⟨g,a,⟨o,e,f,n,c⟩,_⟩:=I.tuple h;obtain⟨as,q⟩:=cG.reads I j a;exact⟨_,.tuple e f c (by simpa using q)⟩
theorem cG.reads{w_:aO0}{σ:St}{H:Hp}{s:Shared}(I:Inv X w_ σ H s):∀ {xs:u_} {ds:List PyData} {us:f'},cG X.K H xs ds->Vals xs us->∃as,ReadsAll s.heap us ds as
 |_,_,_,.nil,r=>by cases r;exact⟨_,.nil⟩
 |_,_,_,.cons h b,r=>by
  cases r with
  |cons r a=>
   obtain⟨as,q⟩:=Dt.reads I h r;obtain⟨bs,c⟩:=cG.reads I b a;exact⟨_,.cons q c⟩
end
def PV(hu:X.A.units+64<cLine):eS X (compareOp .Eq) (λx y H Q=>∃d d',Dt X.K H x d/\Dt X.K H y d'/\shaped d=true/\shaped d'=true/\Q (.bl<|PyData.eqv d d') H):=by
 intro a s σ H x y v u Q I j i h;obtain⟨d,d',h1,b,g,f,q⟩:=h;obtain⟨l,c⟩:=h1.reads I j;obtain⟨bs,e⟩:=b.reads I i;exact eq_dataH c e g f hu ⟨.bl _,H,I,rfl,q⟩
def PX(hu:X.A.units+64<cLine):eS X (compareOp .NotEq) (λx y H Q=>∃d d',Dt X.K H x d/\Dt X.K H y d'/\shaped d=true/\shaped d'=true/\Q (.bl<|!PyData.eqv d d') H):=by
 intro a s σ H x y v u Q I j i h;obtain⟨d,d',h1,b,g,f,q⟩:=h;obtain⟨l,c⟩:=h1.reads I j;obtain⟨bs,e⟩:=b.reads I i;exact ne_dataH c e g f hu ⟨.bl _,H,I,rfl,q⟩
theorem cG.ints{K:Frag}{H:Hp}:∀ns:e_,cG K H (ns.map V.int)<|ns.map PyData.int
 | []=>.nil
 |n::r=>.cons (.int n)<|cG.ints r
theorem nF:∀ns ms:e_,PyData.eqvAll (ns.map PyData.int) (ms.map PyData.int)=decide (ns=ms)
 | [],[]=>by simp[PyData.eqvAll]
 | [],_::_=>by simp[PyData.eqvAll]
 |_::_,[]=>by simp[PyData.eqvAll]
 |n::r,m::q=>by
  simp only[map_cons,PyData.eqvAll,PyData.eqv,nF r q]
  by_cases h:n=m<;>simp[h]
def bg(ns:e_):shaped (.list<|ns.map .int)=true:=PySem.W.shaped_ints ns
def Lq:eS X (binaryOp .Add) (λx y H Q=>∃l b xs zs,x=.ref l/\y=.ref b/\aw X.K H l xs/\aw X.K H b zs/\xs.length+zs.length<=sizeLine/\∀p,H p=none->Q (.ref p) (upd H p<|.lst<|xs++zs)):=by
 intro B s σ H x y v u Q I E L h;obtain⟨l,b,xs,zs,rfl,rfl,O,N,hz,q⟩:=h
 cases E
 cases L
 obtain⟨c,r,⟨⟨D,P,A,C⟩,n,e,z,t,o⟩,_⟩:=I.list O;obtain⟨a,m,⟨⟨w,G,i,j⟩,J,e2,g,d,f⟩,_⟩:=I.list N
 simp only at z t o g d f
 subst z t o g d f;refine concat_meets ⟨_,e,rfl⟩ ⟨_,e2,rfl⟩ noFill_list_add seq_list_add PySem.F.slot_list_add PySem.F.entry_list_add (PySem.F.args_list_add_2 _ _) (list_addW l b c.toArray a.toArray n J none none C j (by rw[hO,hO,<-r.length,<-m.length];exact hz)) ⟨e,e2,?_⟩
 have M:c.toArray++a.toArray=(c++a).toArray:=by simp
 rw[M];exact⟨.ref _,_,I.PL (t':=s.toks) (r.append m) (by rw[eR];exact hz),rfl,q _ I.fresh⟩
structure Def(K:Frag)(mg:b_)(x:Str)(st:Stmt):Prop where
 ex:∃f fd,Kt K x x st f fd/\mg x=some (.ref f)
structure Fn(P:Program)(w:World)(K:Frag)(mg:b_)(base:Heap)(k:Nat)(x:Str)(ps:f_)(sp:Sp):Prop where
 ex:∃f fd,fM P w K mg base DD k f fd ps sp/\mg x=some (.ref f)/\keepIn K (.ref f)=true/\Binds K fd ps []
variable{P:Program}{w:World}{K:Frag}{mg:b_}{base:Heap}{k:Nat}{x:Str}{N ps:f_}{sp:Sp}{st:Stmt}
def Def.fn(D:Def K mg x st)(S:lg N ps (aj st))
  (hb:∀(kV doc pm:Value) (an:h_) (cY ct:Value) (us:f'),us.length=ps.length->bindArgs (fnOf x x (bx st) (aU st) (aj st) .none kV doc pm an cY ct) ⟨us,[]⟩=pure (ps.zip us))
  (len:∀vs H Q E,sp vs H Q E->vs.length=ps.length)
  (fe:∀(f:Addr) (cY:Value) (A:Around) (outer:List Env) (s:Shared) (H:Hp) (vs:u_) (Q:VK) (E:XK),cL k (A.deeper<|envOfC x (aj st) s.heap.objs.size f cY)->sp vs H Q E->
   ∃t,yQ (wJ DD P w K mg base N x (aj st) f cY A outer s H E).ND (aU st) t/\t {nx:=λ_ H'=>Q .bE H',rt:=Q} (start N vs) H):Fn P w K mg base (k+1) x ps sp:=by
 obtain⟨f,a,F,m⟩:=D.ex;exact⟨f,a,F.ok S len λcY A outer s H vs Q E=>fe f cY A outer s H vs Q E,m,F.kp,F.binds hb⟩
variable{m:Nat}{p pos:Pos}{e:Expr}{es:i_}{t:TA}
def Sa(F:Fn X.prog X.w X.K X.mg X.base k x ps sp)(hr:cL m X.A)(hg:Gl X x)(ha:PA X (e::es) t)(hk:k<=m:=by decide)
  (hdb:(x==("__debug__":Str))=false:=by decide) (he:starEach (e::es) X.env=(false,eval e X.env)::starEach es X.env:=by rfl) (hpl:(backTo pos<|starEach es X.env).any (·.1)=false:=by rfl):
  PE X (.Call (.Name x p) (e::es) [] pos) (sh sp [] E0 t):=by
 obtain⟨f,b,F,hm,a,hb⟩:=F.ex;exact BS F (hr.mono hk) hg hm a hb .nil NI ha hdb he hpl
def PY{h:Heap}{f:Addr}{oc:Value}{od an:h_}{osl:Array (g_)}{kV doc pm cY ct:Value}(X:K.In h)(G:h.Ns mainGlobals mg)
  (a:nsIn K mainGlobals x=some (some<|.ref f)) (l:K.lookup f=some ⟨oc,od,.func<|fnOf x x (bx st) (aU st) (aj st) .none kV doc pm an cY ct,osl⟩)
  (c:codeIn K cY x=true) (k:keepIn K (.ref f)=true):Def K mg x st:=⟨f,_,zt l c k,mg_of X G a⟩
variable{H:Hp}{Q:VK}{σ:St}
def Sb{i:Nat}{v:V}(h:σ[i]?=some (some v)):oR i σ H Q=Q v H:=by
 unfold oR;rw[h];simp
def U9{v:V}:tC v σ H Q=Q v H:=rfl
def PZ{r:R2}{ta tb:TE}:uf r ta tb σ H Q=ta σ H λx H1=>tb σ H1 λy H2=>r x y H2 Q:=rfl
def Sd{r:V->Hp->VK->Prop}{ta:TE}:U4 r ta σ H Q=ta σ H λx H1=>r x H1 Q:=rfl
variable{g:Int->Int->V}
def NM{i j:Int}:Fv g (.int i) (.int j) H Q=Q (g i j) H:=by unfold Fv;simp
def Se{C:Int->Int->Prop}{i j:Int}:rI C g (.int i) (.int j) H Q=(C i j/\Q (g i j) H):=by unfold rI;simp
def Sf{g:Int->V}{i:Int}:rU g (.int i) H Q=Q (g i) H:=by unfold rU;simp
def rT(f:Int->V):V->Hp->VK->Prop:=λx H Q=>∃i,x=.int i/\Q (f i) H
variable{f:Int->V}
def Sg{ta:TE}:tI f ta σ H Q=ta σ H λx H1=>rT f x H1 Q:=rfl
def Sh{i:Int}:rT f (.int i) H Q=Q (f i) H:=by unfold rT;simp
def B0{i j:Int}:Po (.int i) (.int j) H Q=Q (.bl<|decide<|i=j) H:=by unfold Po;simp[zd]
def NO{i j:Int}:RV (.int i) (.int j) H Q=Q (.bl<|!decide (i=j)) H:=by unfold RV;simp[zd]
variable{i j:Str}
def sP:Po (.str i) (.str j) H Q=Q (.bl<|decide<|i=j) H:=by unfold Po;simp[zd]
def NP:RV (.str i) (.str j) H Q=Q (.bl<|!decide (i=j)) H:=by unfold RV;simp[zd]
def rB(x:V)(H:Hp)(Q:Bool->r_):Prop:=∃k,x=.bl k/\Q k H
variable{Q:Bool->r_}
def wU{b:Bool} :rB (.bl b) H Q=Q b H:=by unfold rB;simp
variable{t:TE}
def Gy:wI t σ H Q=t σ H λx H'=>rB x H' Q:=rfl
def Si:tB t σ H Q=t σ H λx H'=>rB x H' Q:=rfl
variable{t:TT}
def Gz:O1 t σ H Q=t σ H λc H1=>Q (!c) H1:=rfl
variable{u:TT}
def GA:O0 t u σ H Q=t σ H λc H1=>if c=true then u σ H1 Q else Q false H1:=rfl
def NQ:U0 t u σ H Q=t σ H λc H1=>if c=true then Q true H1 else u σ H1 Q:=rfl
variable{Q:VK}{u t:TE}
def GB:FI t u σ H Q=t σ H λx H1=>rB x H1 λc H2=>if c=true then u σ H2 Q else Q (.bl false) H2:=rfl
def NR:O5 t u σ H Q=t σ H λx H1=>rB x H1 λc H2=>if c=true then Q (.bl true) H2 else u σ H2 Q:=rfl
def B1{r r':R2}{ta tb tc:TE}:oY r r' ta tb tc σ H Q=ta σ H λx H1=>tb σ H1 λy H2=>r x y H2 λz H3=>rB z H3 λk H4=>if k=true then tc σ H4 λw' H5=>r' y w' H5 Q else Q (.bl false) H4:=rfl
def NS{t:TT}{ta tb:TE}:U1 t ta tb σ H Q=t σ H λc H1=>if c=true then ta σ H1 Q else tb σ H1 Q:=rfl
variable{Q:u_->r_}
def GC:ui σ H Q=Q [] H:=rfl
def zx{ta:TE}{tr:TA} :sf ta tr σ H Q=ta σ H λx H1=>tr σ H1 λxs H2=>Q (x::xs) H2:=rfl
variable{Q:VK}{E:XK}{t:TA}
def GD{oP:u_} :sh sp oP E t σ H Q=t σ H λvs H1=>sp (vs++oP) H1 Q E:=rfl
def Sj{r:u_->Hp->VK->Prop} :Pw r t σ H Q=t σ H λvs H1=>r vs H1 Q:=rfl
def NT:K2 t σ H Q=t σ H λxs H1=>xs.length<=sizeLine/\∀p,H1 p=none->Q (.ref p) (upd H1 p<|.tup xs):=rfl
def NU:K3 t σ H Q=t σ H λxs H1=>xs.length<=sizeLine/\∀p,H1 p=none->Q (.ref p) (upd H1 p<|.lst xs):=rfl
variable{r:V->u_->Hp->VK->Prop}
def P0{T:String}{to:TE} :RD K T r to t σ H Q=to σ H λx H1=>R3 K T x H1/\t σ H1 λvs H2=>r x vs H2 Q:=rfl
def NV{T:String}{to:TE}:Lc K T r to σ H Q=to σ H λx H1=>R3 K T x H1/\r x [] H1 Q:=rfl
def Sk{r:V->j_->j_->Hp->VK->Prop}{te:TE}{tl th:TO}:U5 r te tl th σ H Q=te σ H λx H1=>tl σ H1 λl H2=>th σ H2 λh H3=>r x l h H3 Q:=rfl
variable{Q:j_->r_}
def wV:uj σ H Q=Q none H:=rfl
def rP(x:V)(H:Hp)(Q:j_->r_):Prop:=∃i,x=.int i/\Q (some i) H
def GH{t:TE} :Ge t σ H Q=t σ H λx H1=>rP x H1 Q:=rfl
def Sl{i:Int} :rP (.int i) H Q=Q (some i) H:=by unfold rP;simp
variable{Q:VK}{g:TG}
def Sm{wi:TI}{tc:TT}{te:TE}{fv:List (Option Nat)}:PU wi g tc te fv σ H Q=wi σ H (sN g tc te (zw fv σ) Q):=rfl
def gA{Q:Bool->r_}:gZ σ H Q=Q true H:=rfl
variable{D:Ends}
def GJ:wD D σ H=D.nx σ H:=rfl
variable{u t:TS}
def Sn:oS t u D σ H=t {D with nx:=u D} σ H:=rfl
def GK{te:TE}:FN te D σ H=te σ H λ_ H1=>D.nx σ H1:=rfl
def NW{te:TE}:O8 te D σ H=te σ H D.rt:=rfl
variable{c:TT}
def NX:Pa c t u D σ H=c σ H λb H1=>if b=true then t D σ H1 else u D σ H1:=rfl
def NY{te:TE} :qJ te g D σ H=te σ H λx H1=>g x σ H1 D.nx:=rfl
variable{i:Nat}
def pb{v:V}{σ:St}{Q:p_}:bF i v σ H Q=Q (σ.set i<|some v) H:=rfl
def NZ{to ti:TE}{t:FO}{v:V}{σ:St}{Q:p_}:Pd to ti t v σ H Q=to σ H λo H1=>ti σ H1 λi H2=>t o i v H2 λH3=>Q σ H3:=rfl
variable{tl:TE}{R:It->r_}
def B2{σ:St} :BK K tl σ H R=tl σ H λx H1=>∃a,x=.ref a/\(∃xs,aw K H1 a xs)/\R (Ft K a) H1:=rfl
def GN{σ:St} :KO K tl σ H R=tl σ H λx H1=>∃a,x=.ref a/\(∃xs,aL K H1 a xs)/\R (Fu K a) H1:=rfl
def B3{ta:TA}{σ:St} :BL ta σ H R=ta σ H λvs H1=>∃j:Int,vs=[.int j]/\-(2 ^ 62)<=j/\j<2 ^ 62/\R (wF 0 j.toNat) H1:=rfl
def qO(g:TG)(tb:TS)(D:Ends)(σ:St):It->r_:=λJ H1=>∃W:Nat->o_,(∃m,W 0 m σ H1)/\∀i m σ H,W i m σ H->
 (J.stop i H/\D.nx σ H)∨(J.go i H/\∃N:p_,(∀σ' H',N σ' H'->∃m',m' < m/\W (i+1) m' σ' H')/\∀x H',J.Dd i H x H'->g x σ H' λa b=>tb {D with nx:=N,ct:=N,bk:=D.nx} a b)
variable{tb:TS}
def N0{wi:TI}{σ:St} :Pj wi g tb D σ H=wi σ H (qO g tb D σ):=rfl
variable{p:Addr}
def ag.new(h:H p=none)(o:HO):ag H (upd H p o):=λb u q=>by rw[aC (aO q h)];exact q
variable{a:Addr}{xs:u_}
def ag.aP{H':Hp}(e:ag H H')(h:aL K H a xs):aL K H' a xs:=by
 rcases h with (h|⟨o,h⟩)|h
 ·exact .inl<|.inl<|e _ _ h
 ·exact .inl<|.inr ⟨o,e _ _ h⟩
 ·exact .inr h
def ag.set{H':Hp}(e:ag H H')(h:H p=none)(o:HO):ag H (upd H' p o):=λb u q=>by rw[aC (aO q h)];exact e b u q
structure DG(J:It)(H1:Hp)(n:Nat)(item:Nat->V):Prop where
 go:∀i H,ag H1 H->i<n->J.go i H
 stop:∀i H,ag H1 H->n<=i->J.stop i H
 Dd:∀i H x H',ag H1 H->i<n->J.Dd i H x H'->H'=H/\x=item i
theorem i6{H1:Hp}(h:aL K H1 a xs):DG (Fu K a) H1 xs.length λi=>xs.getD i .bE where
 go:=λi H e hi=>⟨xs,xs[i],e.aP h,by simp[hi]⟩
 stop:=λi H e hi=>⟨xs,e.aP h,hi⟩
 Dd:=λi H x c e hi y=>by
  obtain⟨b,y⟩:=y
  have:=y xs<|e.aP h
  refine⟨b,?_⟩;show x=xs.getD i .bE;rw[b3,this];rfl
theorem df{H1:Hp}(h:aw K H1 a xs):DG (Ft K a) H1 xs.length λi=>xs.getD i .bE where
 go:=λi H e hi=>⟨xs,xs[i],e.seq h,by simp[hi]⟩
 stop:=λi H e hi=>⟨xs,e.seq h,hi⟩
 Dd:=λi H x c e hi y=>by
  obtain⟨b,y⟩:=y
  have:=y xs<|e.seq h
  refine⟨b,?_⟩;show x=xs.getD i .bE;rw[b3,this];rfl
variable{n:Nat}
theorem kr{H1:Hp}{lo:Int} :DG (wF lo n) H1 n λi=>.int (lo+i) where
 go:=λi H e hi=>hi
 stop:=λi H e hi=>hi
 Dd:=λi H x a e hi y=>y
def UJ(T:Nat->St->Prop)(F:Nat->u_)(H1:Hp)(B_:Addr)(i:Nat):p_:=λb a=>T (i+1) b/\ag H1 a/\a B_=some (.lst<|F<|i+1)
variable{B_:Addr}
def P2{T:Nat->St->Prop}{F:Nat->u_}{H1 H4:Hp}{τ:St}{v:V}(hn:H1 B_=none)(h:H4 B_=some (.lst<|F i))(hs:ag H1 H4)(hz:(F i).length<sizeLine)(hF:F (i+1)=F i++[v])(hT:T (i+1) τ):
  ∃ys,H4 B_=some (.lst ys)/\ys.length<sizeLine/\UJ T F H1 B_ i τ (upd H4 B_<|.lst<|ys++[v]):=
 ⟨F i,h,hz,hT,hs.set hn _,by rw[af,hF]⟩
variable{J:It}{item:Nat->V}
def P4{tc:TT}{te:TE}{τ0:St}{H1:Hp}(ok:DG J H1 n item)(F:Nat->u_)(T:Nat->St->Prop)
  (h0:F 0=[]) (hT:T 0 τ0)
  (step:∀i τ H B_,i<n->T i τ->H1 B_=none->ag H1 H->H B_=some (.lst<|F i)->g (item i) τ H λτ2 H2=>tc τ2 H2 λb H3=>
   if b=true then te τ2 H3 λv H4=>∃ys,H4 B_=some (.lst ys)/\ys.length<sizeLine/\UJ T F H1 B_ i τ2 (upd H4 B_<|.lst<|ys++[v])else UJ T F H1 B_ i τ2 H3)
  (fin:∀B_ H,H1 B_=none->ag H1 H->H B_=some (.lst<|F n)->Q (.ref B_) H):sN g tc te τ0 Q J H1:=by
 intro B_ d;refine⟨λi m τ H=>m=n-i/\i<=n/\T i τ/\ag H1 H/\H B_=some (.lst<|F i),⟨n,by simp,zero_le _,hT,ag.new d _,by rw[af,h0]⟩,?_⟩
 rintro i m τ H ⟨rfl,hi,j,h,o⟩
 by_cases f:i<n
 ·refine .inr ⟨ok.go i H h f,UJ T F H1 B_ i,λp l ⟨a,b,c⟩=>⟨n-(i+1),by omega,rfl,f,a,b,c⟩,λx l y=>?_⟩
  obtain⟨rfl,rfl⟩:=ok.Dd i H x l h f y;exact step i τ l B_ f j d h o
 ·have e:i=n:=by omega
  subst e;exact .inl ⟨ok.stop i H h<|dy _,fin B_ H d h o⟩
def Lr{σ:St}(Pv:p_)(μ:St->Nat)(h0:Pv σ H)
  (hs:∀σ H,Pv σ H->c σ H λb H1=>if b=true then ∃N:p_,(∀σ' H',N σ' H'->∃m',m' < μ σ/\m'=μ σ'/\Pv σ' H')/\tb {D with nx:=N,ct:=N,bk:=D.nx} σ H1 else D.nx σ H1):ue c tb D σ H:=
 ⟨λm σ H=>m=μ σ/\Pv σ H,⟨_,rfl,h0⟩,λm σ H ⟨e,p⟩=>by subst e;exact hs σ H p⟩
def Ls{Pv:p_}{μ:St->Nat}{σ:St}{R:(p_)->Prop}(h:R λσ' H'=>Pv σ' H'/\μ σ' < μ σ):
  ∃N:p_,(∀σ' H',N σ' H'->∃m',m' < μ σ/\m'=μ σ'/\Pv σ' H')/\R N:=⟨_,λ_ _ ⟨p,l⟩=>⟨_,l,rfl,p⟩,h⟩
def uz{v:V}{σ:St} :oR 0 (some v::σ) H Q=Q v H:=Sb rfl
def zy{o:v_}{σ:St} :oR (i+1) (o::σ) H Q=oR i σ H Q:=rfl
def P5(osc:Scope)(oN N:f_)(scope:Scope)(fv:List (Option Nat)):Bool:=
 decide (scope.kind=.function)&&decide (osc.kind=.function)&&scope.names.all (λy=>decide<|y.2≠.cell)&&scope.names.all (λy=>decide<|y.2=.local->scope.names.lookup y.1=some .local)&&
 scope.names.all (λy=>decide<|y.2=.free->osc.names.lookup y.1=some .cell)&&(rl scope osc).names.all (λy=>decide<|y.2≠.free)&&decide (fv.length=N.length)&&decide (N.length<20)&&
 (List.range N.length).all (λi=>match fv[i]? with
  |some (some j)=>decide (oN[j]?=N[i]?)&&(match N[i]? with|some x=>decide ((rl scope osc).names.lookup x=some .cell)&&decide (osc.names.lookup x=some .cell)|none=>false)
  |_=>true)
variable{osc:Scope}{oN:f_}
def P6{scope:Scope}{fv:List (Option Nat)}(h1:X.env.scope=osc)(h2:X.N=oN)(h:P5 osc oN N scope fv=true):RE X.env.scope X.N N scope fv:=by
 rw[h1,h2];unfold P5 at h;simp only[Bool.and_eq_true,List.all_eq_true,decide_eq_true_eq]at h;obtain⟨⟨⟨⟨⟨⟨⟨⟨n,f⟩,d⟩,o⟩,g⟩,m⟩,b⟩,c⟩,l⟩:=h;refine⟨n,f,d,o,g,m,b,λi j _ e=>?_,c⟩;have hi:i<N.length:=by rw[<-b];exact(ls.mp e).1
 have q:=l i<|fO.mpr hi;rw[e]at q;simp only[Bool.and_eq_true,decide_eq_true_eq]at q;refine⟨q.1,λx hx=>?_⟩;have a:=q.2;rw[hx]at a
 simpa using a
def GO(e:Expr):Bool:=match e with
 |.Starred _ _=>false
 |_=>true
def bf{env:Env}(h:GO e=true):starEach (e::es) env=(false,eval e env)::starEach es env:=by
 cases e<;>first|rfl|cases h
theorem dm{pos:Pos}{env:Env}:∀ {es:i_},es.all GO=true->(backTo pos<|starEach es env).any (·.1)=false
 | [],_=>rfl
 |e::es,h=>by
  rw[WB,gc]at h;rw[bf h.1];show(false||(backTo pos<|starEach es env).any (·.1))=false;rw[dm h.2];rfl
theorem mf{pos:Pos}{env:Env}:∀ {es:i_},es.all GO=true->(backTo pos<|starEach es env).all (λx=>!x.1)=true
 | [],_=>rfl
 |e::es,h=>by
  rw[WB,gc]at h;rw[bf h.1];show(true&&(backTo pos<|starEach es env).all (λx=>!x.1))=true;rw[mf h.2];rfl
structure PB(X:Cx)(es:i_)(t:TA):Prop where
 pa:PA X es t
 ns:es.all GO=true
def zA:PB X [] ui:=⟨Pq,rfl⟩
variable{te:TE}{t:TA}
def uA(ha:PE X e te)(hr:PB X es t)(hn:GO e=true:=by rfl):PB X (e::es) (sf te t):=
 ⟨K1 ha hr.pa<|bf hn,by rw[WB,hn,hr.ns];rfl⟩
def PB.he(h:PB X (e::es) t):GO e=true:=by have:=h.ns;rw[WB,gc]at this;exact this.1
def PB.GP(h:PB X (e::es) t):es.all GO=true:=by have:=h.ns;rw[WB,gc]at this;exact this.2
def So{x1}(h:PB X es t):PE X (.Tuple es x1 pos) (K2 t):=Pr h.pa
def Sr(h:PB X es t):PE X (.List es pos) (K3 t):=Pt h.pa
structure Sc(X:Cx)(N W G:f_):Prop where
 eN:X.N=N
 nd:N.Nodup
 VD:∀x∈N,UH X.env.scope x/\(x==("__debug__":Str))=false/\(x==("__classdict__":Str))=false
 VT:∀x∈W,Loc X.env.scope x/\(X.fn x=true∨X.env.scope.names.lookup x=some .local)
 gl:∀x∈G,Gl X x/\(x==("__debug__":Str))=false/\x≠"__name__"
def GQ(sc:Scope)(x:Str):Bool:=(sc.names.lookup x==some .local||sc.names.lookup x==some .cell||sc.names.lookup x==some .free)&&!(x==("__debug__":Str))&&!(x==("__classdict__":Str))
def B4{sc:Scope}(h:GQ sc x=true):UH sc x/\(x==("__debug__":Str))=false/\(x==("__classdict__":Str))=false:=by
 unfold GQ at h;simp only[Bool.and_eq_true,Bool.or_eq_true,beq_iff_eq,Bool.not_eq_true']at h;obtain⟨⟨h1,b⟩,a⟩:=h;refine⟨?_,b,a⟩
 rcases h1 with (h1|h1)|h1
 ·exact .inl h1
 ·exact .inr<|.inl h1
 ·exact .inr<|.inr h1
def Ss(sc:Scope)(x:Str):Bool:=sc.names.lookup x==some .globalImplicit&&!(x==("__debug__":Str))&&!(x==("__name__":Str))
def GR{sc:Scope}(h:Ss sc x=true):sc.names.lookup x=some .globalImplicit/\(x==("__debug__":Str))=false/\x≠"__name__":=by
 unfold Ss at h;simp only[Bool.and_eq_true,beq_iff_eq,Bool.not_eq_true',beq_eq_false_iff_ne]at h;exact⟨h.1.1,by simpa using h.1.2,h.2⟩
def VF(sc:Scope)(N ps G:f_):Bool:=
 decide (sc.kind=.function)&&!sc.isCoroutine&&!sc.isGenerator&&decide N.Nodup&&decide (N.take ps.length=ps)&&ps.all (λx=>sc.names.lookup x==some .local||sc.names.lookup x==some .cell)&&
 sc.names.all (λy=>decide<|y.2≠.free)&&N.all (GQ sc)&&N.all (λx=>sc.names.lookup x==some .local||sc.names.lookup x==some .cell)&&G.all (Ss sc)
structure DS(sc:Scope)(N ps G:f_):Prop where
 fs:lg N ps sc
 VD:∀x∈N,GQ sc x=true
 loc:∀x∈N,Loc sc x
 gl:∀x∈G,Ss sc x=true
variable{G:f_}
def aK{sc:Scope}(h:VF sc N ps G=true:=by decide +kernel):DS sc N ps G:=by
 unfold VF at h;simp only[Bool.and_eq_true,Bool.not_eq_true',List.all_eq_true,decide_eq_true_eq,Bool.or_eq_true,beq_iff_eq]at h;obtain⟨⟨⟨⟨⟨⟨⟨⟨⟨j,d⟩,c⟩,l⟩,e⟩,i⟩,g⟩,b⟩,f⟩,a⟩:=h;exact⟨⟨j,d,c,l,e,i,g⟩,b,f,a⟩
variable{f:Addr}
def DS.cx{sc:Scope}{q:Str}{cY:Value}{A:Around}{outer:List Env}{s:Shared}(D:DS sc N ps G):Sc (wJ DD P w K mg base N q sc f cY A outer s H E).ND N N G:=
 ⟨rfl,D.fs.nd,λx hx=>B4<|D.VD x hx,λx hx=>⟨D.loc x hx,.inl rfl⟩,λx hx=>GR<|D.gl x hx⟩
def Def.go(D:Def K mg x st)(S:DS (aj st) N ps G)
  (hb:∀(kV doc pm:Value) (an:h_) (cY ct:Value) (us:f'),us.length=ps.length->bindArgs (fnOf x x (bx st) (aU st) (aj st) .none kV doc pm an cY ct) ⟨us,[]⟩=pure (ps.zip us))
  (len:∀vs H Q E,sp vs H Q E->vs.length=ps.length)
  (fe:∀(X:Cx),Sc X N N G->X.prog=P->X.w=w->X.K=K->X.mg=mg->X.base=base->X.calm=true->X.env.scope=aj st->X.xe=(λ_ _=>False)->cL k X.A->X.A.units+64<cLine->
   ∀(H:Hp) (vs:u_) (Q:VK) (E:XK),sp vs H Q E->∃t,yQ X (aU st) t/\t {nx:=λ_ H'=>Q .bE H',rt:=Q} (L2.start N vs) H):Fn P w K mg base (k+1) x ps sp:=by
 refine D.fn S.fs hb len λf cY A a s H vs Q E b h=>?_;exact fe _ S.cx rfl rfl rfl rfl rfl rfl rfl rfl b b.units H vs Q E h
variable{W:f_}
def vv(S:Sc X N W G)(i:Nat){pos:Pos}(h:N[i]?=some x:=by rfl):PE X (.Name x pos) (oR i):=
 have q:=S.VD x (ih h)
 OW (by rw[S.eN];exact h) q.1 q.2.1 q.2.2
def sv(S:Sc X N W G)(i:Nat){pos pos':Pos}(he:PE X e te)(h:N[i]?=some x:=by rfl)(hw:W[i]?=some x:=by rfl)(hs:swapsWith e (some<|.Name x pos') pos.line X.env=pure false:=by rfl):
  PS X (.Assign [.Name x pos'] e pos) (qJ te<|bF i):=
 have q:=S.VT x (ih hw)
 Pg (by rw[S.eN];exact S.nd) (by rw[S.eN];exact h) q.1 he hs q.2
def gv(S:Sc X N W G)(i:Nat){pos:Pos}(h:N[i]?=some x:=by rfl)(hw:W[i]?=some x:=by rfl):PG X (.Name x pos) (bF i):=
 have q:=S.VT x (ih hw)
 KL (by rw[S.eN];exact S.nd) (by rw[S.eN];exact h) q.1 q.2
variable{p:Pos}
def ff(S:Sc X N W G)(g:Nat)(F:Fn X.prog X.w X.K X.mg X.base k x ps sp)(hr:cL m X.A)(ha:PB X (e::es) t)(hk:k<=m:=by decide)(hg:G[g]?=some x:=by rfl):PE X (.Call (.Name x p) (e::es) [] pos) (sh sp [] E0 t):=
 have q:=S.gl x (ih hg)
 Sa F hr q.1 ha.pa hk q.2.1 (bf ha.he) (dm ha.GP)
variable{id:String}{r:u_->Hp->VK->Prop}
def cb(S:Sc X N W G)(g:Nat)(hc:b6 X (.builtin id) r)(hm:X.mg x=none)(hv:bootBuiltins x=some (.builtin id))(ha:PB X (e::es) t)(hg:G[g]?=some x:=by rfl):PE X (.Call (.Name x p) (e::es) [] pos) (Pw r t):=
 have q:=S.gl x (ih hg)
 Gb hc q.1 hm hv ha.pa q.2.2 q.2.1 (bf ha.he) (dm ha.GP)
variable{T:String}
def ct(S:Sc X N W G)(g:Nat)(hc:b6 X (.type T) r)(hm:X.mg x=none)(hv:bootBuiltins x=some (.type T))(ha:PB X (e::es) t)(hg:G[g]?=some x:=by rfl):PE X (.Call (.Name x p) (e::es) [] pos) (Pw r t):=
 have q:=S.gl x (ih hg)
 Dw hc q.1 hm hv ha.pa q.2.2 q.2.1 (bf ha.he) (dm ha.GP)
def VX(S:Sc X N W G)(g:Nat){tg:Expr}(hm:X.mg "range"=none)(ha:PB X [e] t)(hg:G[g]?=some "range":=by rfl):PI X tg (.Call (.Name "range" p) [e] [] pos) (BL t):=
 Dl (S.gl _<|ih hg).1 hm ha.pa (bf ha.he)
variable{a:Expr}
def VY(S:Sc X N W G)(g:Nat){tg:Expr}(hm:X.mg "range"=none)(ha:PB X [e,a] t)(hg:G[g]?=some "range":=by rfl):PI X tg (.Call (.Name "range" p) [e,a] [] pos) (BM t):=
 have b:GO a=true:=by have:=ha.GP;rw[WB,gc]at this;exact this.1
 Dm (S.gl _<|ih hg).1 hm ha.pa (by rw[bf ha.he,bf b];rfl) (bf b)
variable{o:Expr}{to:TE}{name:Str}{A' bN:Pos}{rm:V->u_->Hp->VK->Prop}
def mb(pa:PlainAttrs T)(slot:Slot T name id)(hty:typeOf (.builtin id)=pure (.type "method_descriptor"))(hm:yR X id rm)(ho:PE X o to)(ha:PB X (e::es) t)
  (fg:attributeBase o name X.env (eval o X.env)=eval o X.env:=by rfl) (hlen:decide ((e::es).length<30)=true:=by rfl)
  (fh:(A'.endLine==bN.line)=true:=by rfl):PE X (.Call (.Attribute o name A') (e::es) [] bN) (RD X.K T rm to t):=
 R4 pa slot hty hm ho ha.pa fg (by rw[mf ha.ns];exact hlen) fh (bf ha.he) (dm ha.GP)
def N5(osc:Scope)(oN N W G:f_)(scope:Scope)(fv:List (Option Nat)):Bool:=
 P5 osc oN N scope fv&&decide N.Nodup&&N.all (GQ<|rl scope osc)&&W.all (λx=>(rl scope osc).names.lookup x==some .local)&&G.all (Ss<|rl scope osc)
variable{scope:Scope}{fv:List (Option Nat)}
def B5{cl:List (Str × Addr)}{C:Addr}{fp:l_}{s:Shared}(h1:X.env.scope=osc)(h:N5 osc oN N W G scope fv=true):Sc (lq X N scope cl C fp s H) N W G:=by
 unfold N5 at h;simp only[Bool.and_eq_true,List.all_eq_true,decide_eq_true_eq,beq_iff_eq]at h;obtain⟨⟨⟨⟨_,c⟩,b⟩,a⟩,d⟩:=h;have e:(lq X N scope cl C fp s H).env.scope=rl scope osc:=by rw[<-h1];rfl
 exact⟨rfl,c,λx hx=>by rw[e];exact B4<|b x hx,λx hx=>by rw[e];exact⟨.inl<|a x hx,.inr<|a x hx⟩,λx hx=>by unfold Gl Env.kindOf;rw[e];exact GR<|d x hx⟩
variable{oW oG:f_}
def B6(S:Sc X oN oW oG)(h1:X.env.scope=osc)(h:N5 osc oN N W G scope fv=true):RE X.env.scope X.N N scope fv:=by
 unfold N5 at h;simp only[Bool.and_eq_true]at h;exact P6 h1 S.eN h.1.1.1.1
variable{z_ x_ y_:Expr}{A_:i_}{tc:TT}{wi:TI}
def VZ(S:Sc X oN oW oG)(hc:X.calm=true)(h1:X.env.scope=osc)(hi:PI X x_ y_ wi)(h:N5 osc oN N W G scope fv=true)
  (hB:∀cl C fp s H,Sc (lq X N scope cl C fp s H) N W G->PG (lq X N scope cl C fp s H) x_ g/\NL (lq X N scope cl C fp s H) A_ tc/\PE (lq X N scope cl C fp s H) z_ te)
  (hs:∀x,foldedSetIterable y_ X.env x=pure x:=by intro _;rfl):PE X (.ListComp z_ [⟨x_,y_,A_,0⟩] scope pos) (PU wi g tc te fv):=
 R8 hc hi (B6 S h1 h) (λcl C fp s H=>hB cl C fp s H<|B5 h1 h) hs
def V0{px spos:Pos}(S:Sc X oN oW oG)(hc:X.calm=true)(h1:X.env.scope=osc)(hi:PI X x_ y_ wi)(h:N5 osc oN N W G scope fv=true)
  (hB:∀cl C fp s H,Sc (lq X N scope cl C fp s H) N W G->PG (lq X N scope cl C fp s H) x_ g/\NL (lq X N scope cl C fp s H) A_ tc/\PE (lq X N scope cl C fp s H) z_ te)
  (hx:X.env.scope.names.lookup x=some .local)
  (hsw:swapsWith (.ListComp z_ [⟨x_,y_,A_,0⟩] scope pos) (some<|.Name x px) spos.line X.env=pure true) (hi':oN[i]?=some x:=by rfl)
  (hs:∀x,foldedSetIterable y_ X.env x=pure x:=by intro _;rfl):PS X (.Assign [.Name x px] (.ListComp z_ [⟨x_,y_,A_,0⟩] scope pos) spos) (qJ (PU wi g tc te fv)<|bF i):=
 R9 (by rw[S.eN];exact S.nd) (by rw[S.eN];exact hi') hx hc hi (B6 S h1 h) (λcl C fp s H=>hB cl C fp s H<|B5 h1 h) hsw hs
def GS(h:X.xe=λ_ _=>False):PassesOwn (model X.prog X.w) X.A X.env X.xe:=by rw[h];exact PassesOwn.never
def bh(h:X.K=K):PD X (wL K):=by subst h;exact La
def fE(h:X.K=K):PD X (Dy K):=by subst h;exact PF
def c5(h:X.K=K):Py X (Dz K):=by subst h;exact Lb
def jK(h:X.K=K):Py X (K8 K):=by subst h;exact Pz
def zB(h:X.K=K):eS X (compareOp .In) (RC K false):=by subst h;exact DA
def dD(h:X.K=K):eS X (compareOp .NotIn) (RC K true):=by subst h;exact uq
def Su(K:Frag):u_->Hp->VK->Prop:=λa H Q=>∃p ys,a=[.ref p]/\(aw K H p ys∨aL K H p ys)/\Q (.int ys.length) H
def av(h:X.K=K):b6 X (.builtin "len") (Su K):=by subst h;exact ur
def Sv(K:Frag):u_->Hp->VK->Prop:=λa H Q=>∃(p:Addr) (ns:e_),a=[.ref p]/\aw K H p (ns.map V.int)/\Q (.int ns.sum) H
def cw(hc:X.calm=true)(h:X.K=K):b6 X (.builtin "sum") (Sv K):=by subst h;exact Gx hc
variable{l:Expr}
def GU(K:Frag):u_->Hp->VK->Prop:=λa H Q=>∃p ys,a=[.ref p]/\((aw K H p ys/\∀l,H l=none->Q (.ref l) (upd H l<|.tup ys))∨(aL K H p ys/\Q (.ref p) H))
def eB(h:X.K=K):b6 X (.type "tuple") (GU K):=by subst h;exact qL
def P7(K:Frag):R2:=λx y H Q=>∃d d',Dt K H x d/\Dt K H y d'/\shaped d=true/\shaped d'=true/\Q (.bl<|PyData.eqv d d') H
def Sw(K:Frag):R2:=λx y H Q=>∃d d',Dt K H x d/\Dt K H y d'/\shaped d=true/\shaped d'=true/\Q (.bl<|!PyData.eqv d d') H
def dz(hu:X.A.units+64<cLine)(h:X.K=K):eS X (compareOp .Eq) (P7 K):=by subst h;exact PV hu
def mh(hu:X.A.units+64<cLine)(h:X.K=K):eS X (compareOp .NotEq) (Sw K):=by subst h;exact PX hu
def GV(K:Frag):R2:=λx y H Q=>∃l b xs zs,x=.ref l/\y=.ref b/\aw K H l xs/\aw K H b zs/\xs.length+zs.length<=sizeLine/\∀p,H p=none->Q (.ref p) (upd H p<|.lst<|xs++zs)
def cR(h:X.K=K):eS X (binaryOp .Add) (GV K):=by subst h;exact Lq
def Sx:u_->Hp->VK->Prop:=λa H Q=>∃i j,a=[.int i,.int j]/\Q (.int<|if j>i then j else i) H
def mi(hc:X.calm=true):b6 X (.builtin "max") Sx:=Dp hc
variable{i:Int}
def N6{j:Int} :Sx [.int i,.int j] H Q=Q (.int<|if j>i then j else i) H:=propext ⟨λ⟨a,b,e,q⟩=>by cases e;exact q,λq=>⟨i,j,rfl,q⟩⟩
variable{tg:Expr}
def GW(hl:PE X l tl)(h:X.K=K):PI X tg l (BK K tl):=by subst h;exact KP hl
def Lu(hl:PE X l tl)(h:X.K=K):PI X tg l (KO K tl):=by subst h;exact Ph hl
def V1(pa:PlainAttrs T)(slot:Slot T name id)(hty:typeOf (.builtin id)=pure (.type "method_descriptor"))(hm:yR X id rm)(h:X.K=K)(ho:PE X o to)(ha:PB X (e::es) t)
  (fg:attributeBase o name X.env (eval o X.env)=eval o X.env:=by rfl) (hlen:decide ((e::es).length<30)=true:=by rfl)
  (fh:(A'.endLine==bN.line)=true:=by rfl):PE X (.Call (.Attribute o name A') (e::es) [] bN) (RD K T rm to t):=by subst h;exact mb pa slot hty hm ho ha fg hlen fh
def Va(pa:PlainAttrs T)(slot:Slot T name id)(hty:typeOf (.builtin id)=pure (.type "method_descriptor"))(hm:yR X id rm)(h:X.K=K)(ho:PE X o to)
  (fg:attributeBase o name X.env (eval o X.env)=eval o X.env:=by rfl)
  (fh:(A'.endLine==bN.line)=true:=by rfl):PE X (.Call (.Attribute o name A') [] [] bN) (Lc K T rm to):=by subst h;exact PK pa slot hty hm ho fg fh
def GX(K:Frag):R2:=λx y H Q=>∃a b xs ys,x=.ref a/\y=.ref b/\aL K H a xs/\aL K H b ys/\xs.length+ys.length<=sizeLine/\∀p H',ag H H'->aL K H' p (xs++ys)->Q (.ref p) H'
def i7(h:X.K=K):eS X (binaryOp .Add) (GX K):=by
 subst h;intro f s σ H x y v u Q I r B h;obtain⟨a,b,w,L,rfl,rfl,m,hb,hz,q⟩:=h
 by_cases hx:w=[]
 ·subst hx
  cases r
  cases B
  obtain⟨N,D,⟨⟨J,E,A,G⟩,e,z,n,o⟩,_⟩:=I.tuple m;obtain⟨c,O,⟨⟨t,i,j,l⟩,e2,g,M,d⟩,_⟩:=I.tuple hb
  simp only at z o g d
  subst z o g d
  cases D
  refine concat_meets ⟨_,e,rfl⟩ ⟨_,e2,rfl⟩ noFill_tuple_add seq_tuple_add slot_tuple_add entry_tuple_add (args_tuple_add_2 _ _) (tuple_addW0 a b _ c.toArray n M E i G l rfl) ⟨e,e2,?_⟩;exact⟨.ref b,H,I,rfl,q b H (ag.refl _) hb⟩
 ·exact K9 f s σ H _ _ v u Q I r B ⟨a,b,w,L,rfl,rfl,m,hb,hx,hz,λe=>q a H (ag.refl _) (by rw[e,append_nil];exact m),λ_ p C=>q p _ (ag.new C _)<|aL.of af⟩
def Sy(sc:Scope):Env:={scope:=sc,locals:=0,globals:=0,cells:=[],qual:="",func:=none,code:=.none,frame:=none,builtins:=0}
def dw(v:Expr)(t:Option Expr)(l:Nat)(env:Env):swapsWith v t l env=swapsWith v t l (Sy env.scope):=rfl
def B7:i_->Option (e_)
 | []=>some []
 |.Constant (.int i) _ _::r=>(B7 r).map (i::·)
 |_=>none
def GY(ns:e_):TA:=λ_ H Q=>Q (ns.map V.int) H
theorem B8{X:Cx}:∀ {es:i_} {ns:e_},B7 es=some ns->PB X es (GY ns)
 | [],ns,h=>by cases h;exact zA
 |e::es,ns,h=>by
  unfold B7 at h
  split at h
  ·rename_i h1;cases h1
  ·rename_i i k p r h1
   cases h1
   obtain⟨b,a,rfl⟩:=Pi.mp h;exact uA lX<|B8 a
  ·cases h
def B9:i_->Option (f_)
 | []=>some []
 |.Constant (.str i) _ _::r=>(B9 r).map (i::·)
 |_=>none
def GZ(ns:f_):TA:=λ_ H Q=>Q (ns.map V.str) H
theorem Ca{X:Cx}:∀ {es:i_} {ns:f_},B9 es=some ns->PB X es (GZ ns)
 | [],ns,h=>by cases h;exact zA
 |e::es,ns,h=>by
  unfold B9 at h
  split at h
  ·rename_i h1;cases h1
  ·rename_i i k p r h1
   cases h1
   obtain⟨b,a,rfl⟩:=Pi.mp h;exact uA FG<|Ca a
  ·cases h
variable{Q:u_->r_}
def G0{ns:e_}{σ:St} :GY ns σ H Q=Q (ns.map V.int) H:=rfl
def G8{ns:f_}{σ:St} :GZ ns σ H Q=Q (ns.map V.str) H:=rfl
structure QE(X:Cx)(e:Expr)(t:TE):Prop where
 h:PE X e t
structure QT(X:Cx)(e:Expr)(t:TT):Prop where
 h:PT X e t
structure QW(X:Cx)(e:Expr)(t:TT):Prop where
 h:PW X e t
structure QB(X:Cx)(es:i_)(t:TA):Prop where
 h:PB X es t
structure QS(X:Cx)(st:Stmt)(t:TS):Prop where
 h:PS X st t
structure DH(X:Cx)(st:n_)(t:TS):Prop where
 h:yQ X st t
structure QG(X:Cx)(e:Expr)(t:TG):Prop where
 h:PG X e t
structure Sz(X:Cx)(e:i_)(t:BJ):Prop where
 h:RA X e t
structure QI(X:Cx)(tg y_:Expr)(wi:TI):Prop where
 h:PI X tg y_ wi
structure UK(X:Cx)(A_:i_)(t:TT):Prop where
 h:NL X A_ t
structure QO(X:Cx)(e:Option Expr)(t:TO):Prop where
 h:PO X e t
def kv(S:Sc X N W G)(i:Nat)(h:N[i]?=some x:=by rfl):QE X (.Name x pos) (oR i):=⟨vv S i h⟩
variable{j:Nat}
def ax:QE X (.Constant (.int i) j pos) (tC<|.int i):=⟨lX⟩
def wW{i:Bool} :QE X (.Constant (.bool i) j pos) (tC<|.bl i):=⟨RQ⟩
def pd:QE X (.Constant .none j pos) (tC .bE):=⟨OX⟩
def br{i:Str} :QE X (.Constant (.str i) j pos) (tC<|.str i):=⟨FG⟩
variable{b:Expr}{ta tb:TE}
def aQ{op:Operator}{r:R2}(ho:eS X (binaryOp op) r)(ha:QE X a ta)(hb:QE X b tb):QE X (.BinOp a op b pos) (uf r ta tb):=⟨wH ho ha.h hb.h⟩
variable{pos':Pos}{n:Int}
def Cb(ha:QE X a ta)(h:0<n/\n<1073741824:=by decide):QE X (.BinOp a .FloorDiv (.Constant (.int n) k pos') pos) (tI (λi=>.int<|i / n) ta):=⟨Ll ha.h h⟩
def b9(ha:QE X a ta)(h:0<n:=by decide):QE X (.BinOp a .Mod (.Constant (.int n) k pos') pos) (tI (λi=>.int<|i%n) ta):=⟨Lm ha.h h⟩
def Cc(ha:QE X a ta)(h:-(2 ^ 64)<n/\n<2 ^ 64:=by decide):QE X (.BinOp a .Mult (.Constant (.int n) k pos') pos) (tI (λi=>.int<|i*n) ta):=⟨Lo ha.h h⟩
def N7(ha:QE X a ta)(h:-(2 ^ 64)<n/\n<2 ^ 64:=by decide):QE X (.BinOp (.Constant (.int n) k pos') .Mult a pos) (tI (λi=>.int<|n*i) ta):=⟨Lp ha.h h⟩
def N8{op:UnaryOp}{r:V->Hp->VK->Prop}(ho:UI X (unaryOp op) r)(ha:QE X a ta):QE X (.UnaryOp op a pos) (U4 r ta):=⟨RU ho ha.h⟩
variable{r:R2}
def fi{op:CmpOp}(ho:eS X (compareOp op) r)(ha:QE X a ta)(hb:QE X b tb)(hm:behindInMarks op b=false):QE X (.Compare a [op] [b] pos) (uf r ta tb):=⟨KW ho ha.h hb.h hm⟩
variable{c:Expr}{tc:TE}
def zC{op op':CmpOp}{r':R2}(ho:eS X (compareOp op) r)(ho':eS X (compareOp op') r')(ha:QE X a ta)(hb:QE X b tb)(hc:QE X c tc)
  (hm:lastMarks [op,op'] [b,c]=false:=by with_unfolding_all rfl):QE X (.Compare a [op,op'] [b,c] pos) (oY r r' ta tb tc):=⟨FV ho ho' ha.h hb.h hc.h hm⟩
def pe{op}(h:QE X a ta):QE X (.BoolOp op [a] pos) ta:=⟨O6 h.h⟩
variable{rest:i_}
def ku(ha:QE X a ta)(hb:QE X (.BoolOp .And (b::rest) pos) tb):QE X (.BoolOp .And (a::b::rest) pos) (FI ta tb):=⟨O7 ha.h hb.h⟩
def V2(ha:QE X a ta)(hb:QE X (.BoolOp .Or (b::rest) pos) tb):QE X (.BoolOp .Or (a::b::rest) pos) (O5 ta tb):=⟨RS ha.h hb.h⟩
variable{tA:TT}
def Vb(hc:QT X c tA)(ha:QE X a ta)(hb:QE X b tb):QE X (.IfExp c a b pos) (U1 tA ta tb):=⟨FJ hc.h ha.h hb.h⟩
def bw:QB X [] ui:=⟨zA⟩
def ak(ha:QE X e te)(hr:QB X es t)(hn:GO e=true:=by rfl):QB X (e::es) (sf te t):=⟨uA ha.h hr.h hn⟩
def Cd{ns:e_}(h:B7 es=some ns):QB X es (GY ns):=⟨B8 h⟩
def Lv{ns:f_}(h:B9 es=some ns):QB X es (GZ ns):=⟨Ca h⟩
def uB{x1}(h:QB X es t):QE X (.Tuple es x1 pos) (K2 t):=⟨So h.h⟩
def dM(h:QB X es t):QE X (.List es pos) (K3 t):=⟨Sr h.h⟩
def jL(hr:PD X r)(ha:QE X a ta)(hb:QE X b tb)(hs:om b):QE X (.Subscript a b pos) (uf r ta tb):=⟨RZ hr ha.h hb.h hs⟩
def bJ:QO X none uj:=⟨K6⟩
def bK(h:QE X e te):QO X (some e) (Ge te):=⟨K7 h.h⟩
def qP{lo hi:Option Expr}{tl th:TO}{p2:Pos}{r:V->j_->j_->Hp->VK->Prop}(hr:Py X r)(he:QE X e te)(hl:QO X lo tl)(hu:QO X hi th):QE X (.Subscript e (.Slice lo hi none p2) pos) (U5 r te tl th):=⟨Gf hr he.h hl.h hu.h⟩
def cE(S:Sc X N W G)(g:Nat)(F:Fn X.prog X.w X.K X.mg X.base k x ps sp)(hr:cL m X.A)(ha:QB X (e::es) t)(hk:k<=m:=by decide)(hg:G[g]?=some x:=by rfl):QE X (.Call (.Name x p) (e::es) [] pos) (sh sp [] E0 t):=⟨ff S g F hr ha.h hk hg⟩
variable{r:u_->Hp->VK->Prop}
def cq(S:Sc X N W G)(g:Nat)(hc:b6 X (.builtin id) r)(hm:X.mg x=none)(hv:bootBuiltins x=some (.builtin id))(ha:QB X (e::es) t)(hg:G[g]?=some x:=by rfl):QE X (.Call (.Name x p) (e::es) [] pos) (Pw r t):=⟨cb S g hc hm hv ha.h hg⟩
def jM(S:Sc X N W G)(g:Nat)(hc:b6 X (.type T) r)(hm:X.mg x=none)(hv:bootBuiltins x=some (.type T))(ha:QB X (e::es) t)(hg:G[g]?=some x:=by rfl):QE X (.Call (.Name x p) (e::es) [] pos) (Pw r t):=⟨ct S g hc hm hv ha.h hg⟩
def kY(pa:PlainAttrs T)(slot:Slot T name id)(hty:typeOf (.builtin id)=pure (.type "method_descriptor"))(hm:yR X id rm)(h:X.K=K)(ho:QE X o to)(ha:QB X (e::es) t)
  (fg:attributeBase o name X.env (eval o X.env)=eval o X.env:=by rfl) (hlen:decide ((e::es).length<30)=true:=by rfl)
  (fh:(A'.endLine==bN.line)=true:=by rfl):QE X (.Call (.Attribute o name A') (e::es) [] bN) (RD K T rm to t):=⟨V1 pa slot hty hm h ho.h ha.h fg hlen fh⟩
def Vc(pa:PlainAttrs T)(slot:Slot T name id)(hty:typeOf (.builtin id)=pure (.type "method_descriptor"))(hm:yR X id rm)(h:X.K=K)(ho:QE X o to)
  (fg:attributeBase o name X.env (eval o X.env)=eval o X.env:=by rfl)
  (fh:(A'.endLine==bN.line)=true:=by rfl):QE X (.Call (.Attribute o name A') [] [] bN) (Lc K T rm to):=⟨Va pa slot hty hm h ho.h fg fh⟩
variable{r:R2}
def aM{op:CmpOp}(ho:eS X (compareOp op) r)(ha:QE X a ta)(hb:QE X b tb)(hm:behindInMarks op b=false):QT X (.Compare a [op] [b] pos) (wI<|uf r ta tb):=⟨KY ho ha.h hb.h hm⟩
def zD{op op':CmpOp}{r':R2}(ho:eS X (compareOp op) r)(ho':eS X (compareOp op') r')(ha:QE X a ta)(hb:QE X b tb)(hc:QE X c tc)
  (hm:lastMarks [op,op'] [b,c]=false:=by with_unfolding_all rfl):QT X (.Compare a [op,op'] [b,c] pos) (wI<|oY r r' ta tb tc):=⟨FW ho ho' ha.h hb.h hc.h hm⟩
def lr(ha:QT X a tA):QW X (.BoolOp .And [a] pos) tA:=⟨KG ha.h⟩
def uC(ha:QT X a tA):QW X (.BoolOp .Or [a] pos) tA:=⟨O2 ha.h⟩
variable{tB':TT}
def qQ(ha:QT X a tA)(hb:QW X (.BoolOp .And (b::rest) pos) tB'):QW X (.BoolOp .And (a::b::rest) pos) (O0 tA tB'):=⟨O3 ha.h hb.h⟩
def Lw(ha:QT X a tA)(hb:QW X (.BoolOp .Or (b::rest) pos) tB'):QW X (.BoolOp .Or (a::b::rest) pos) (U0 tA tB'):=⟨RR ha.h hb.h⟩
def wt(h:QW X a tA):QT X a tA:=⟨h.h.pt⟩
def qR(ha:QT X a tA):QT X (.UnaryOp .Not a pos) (O1 tA):=⟨O4 ha.h⟩
variable{v:TS}
def mj(h:QE X e te)(he:∀whole,isTrue e X.env whole=(do let v<-whole;standAt e.pos;holding [v] (truthy v)):=by intro _;rfl):QT X e (tB te):=⟨OZ h.h he⟩
def kg(S:Sc X N W G)(i:Nat)(h:N[i]?=some x:=by rfl)(hw:W[i]?=some x:=by rfl):QG X (.Name x pos) (bF i):=⟨gv S i h hw⟩
def dN:Sz X [] qH:=⟨KN⟩
variable{tgs:BJ}
def aV(h1:QG X e g)(h2:Sz X es tgs)(hs:(assignEach (e::es) X.env).map (·.2)=assign e X.env::(assignEach es X.env).map (·.2):=by rfl):Sz X (e::es) (dX g tgs):=⟨FP h1.h h2.h hs⟩
variable{n kk:Nat}
def pf(hc:X.calm=true)(hK:X.K=K)(h:Sz X es tgs)(hn:(assignEach es X.env).length=n:=by rfl)(hst:(assignEach es X.env).findIdx? (·.1)=none:=by rfl):QG X (.Tuple es kk pos) (qI K n tgs):=⟨by subst hK;exact Pc hc h.h hn hst⟩
def P8{ti:TE}{i:Expr}{tS:FO}(ho:QE X o to)(hi:QE X i ti)(hs:Pb X tS)
  (ha:∀v,assign (.Subscript o i pos) X.env v=(do
   let ov<-holding [v] (eval o X.env)
   let iv<-holding [v,ov] (eval i X.env)
   standAt pos
   holding [v,ov,iv] (setItem ov iv v)
   release [v,ov,iv] []):=by intro _;rfl):QG X (.Subscript o i pos) (Pd to ti tS):=⟨Pe ho.h hi.h hs ha⟩
def fj(S:Sc X N W G)(g:Nat)(hm:X.mg "range"=none)(ha:QB X [e] t)(hg:G[g]?=some "range":=by rfl):QI X tg (.Call (.Name "range" p) [e] [] pos) (BL t):=⟨VX S g hm ha.h hg⟩
def Lx(S:Sc X N W G)(g:Nat)(hm:X.mg "range"=none)(ha:QB X [e,a] t)(hg:G[g]?=some "range":=by rfl):QI X tg (.Call (.Name "range" p) [e,a] [] pos) (BM t):=⟨VY S g hm ha.h hg⟩
def bA(hl:QE X e te)(h:X.K=K):QI X tg e (BK K te):=⟨GW hl.h h⟩
def fB(hl:QE X e te)(h:X.K=K):QI X tg e (KO K te):=⟨Lu hl.h h⟩
def aY:UK X [] gZ:=⟨Li⟩
def c7(h:QT X e tA):UK X [e] tA:=⟨Lj h.h⟩
def aZ(S:Sc X N W G)(i:Nat)(he:QE X e te)(h:N[i]?=some x:=by rfl)(hw:W[i]?=some x:=by rfl)(hs:swapsWith e (some<|.Name x pos') pos.line X.env=pure false:=by rfl):
  QS X (.Assign [.Name x pos'] e pos) (qJ te<|bF i):=⟨sv S i he.h h hw hs⟩
def DI(he:QE X e te)(hg:QG X tg g)(hs:swapsWithSole [tg] e pos.line X.env=pure false:=by rfl)(hw:swappedStores [tg] e X.env=pure none:=by rfl)
  (h1:(assignEach [tg] X.env).map (·.2)=[assign tg X.env]:=by rfl):QS X (.Assign [tg] e pos) (qJ te g):=⟨Pf he.h hg.h hs hw h1⟩
def aH(he:QE X e te):QS X (.Return (some e) pos) (O8 te):=⟨O9 he.h⟩
def fC(he:QE X e te)(hs:swapsWith e none pos.line X.env=pure false:=by rfl):QS X (.Expr e pos) (FN te):=⟨KJ he.h hs⟩
def cM{l l':n_}(hc:QT X c tA)(ha:DH X l u)(hb:DH X l' v):QS X (.If c l l' pos) (Pa tA u v):=⟨RT hc.h ha.h hb.h⟩
variable{sts:n_}
def uD(hxe:X.xe=λ_ _=>False)(hc:QT X c tA)(hb:DH X sts u):QS X (.While c sts [] pos) (ue tA u):=⟨FQ (GS hxe) hc.h hb.h⟩
def dq(hxe:X.xe=λ_ _=>False)(hc:X.calm=true)(hi:QI X tg y_ wi)(hg:QG X tg g)(hb:DH X sts u)(hs:∀x,foldedSetIterable y_ X.env x=pure x:=by intro _;rfl):QS X (.For tg y_ sts [] pos) (Pj wi g u):=⟨Pk (GS hxe) hc hi.h hg.h hb.h hs⟩
def az:DH X [] wD:=⟨KH⟩
def ae(h1:QS X st u)(h2:DH X sts v):DH X (st::sts) (oS u v):=⟨FK h1.h h2.h⟩
def ai(h1:QS X st u):DH X [st] u:=⟨KI h1.h⟩
def f9(S:Sc X oN oW oG)(hc:X.calm=true)(h1:X.env.scope=osc)(hi:QI X x_ y_ wi)(h:N5 osc oN N W G scope fv=true)
  (hB:∀cl C fp s H,Sc (lq X N scope cl C fp s H) N W G->QG (lq X N scope cl C fp s H) x_ g/\UK (lq X N scope cl C fp s H) A_ tA/\QE (lq X N scope cl C fp s H) z_ te)
  (hs:∀x,foldedSetIterable y_ X.env x=pure x:=by intro _;rfl):QE X (.ListComp z_ [⟨x_,y_,A_,0⟩] scope pos) (PU wi g tA te fv):=
 ⟨VZ S hc h1 hi.h h (λcl C fp s H a=>⟨(hB cl C fp s H a).1.h,(hB cl C fp s H a).2.1.h,(hB cl C fp s H a).2.2.h⟩) hs⟩
variable{i:Nat}
def Ku{px spos:Pos}(S:Sc X oN oW oG)(hc:X.calm=true)(h1:X.env.scope=osc)(hi:QI X x_ y_ wi)(h:N5 osc oN N W G scope fv=true)
  (hB:∀cl C fp s H,Sc (lq X N scope cl C fp s H) N W G->QG (lq X N scope cl C fp s H) x_ g/\UK (lq X N scope cl C fp s H) A_ tA/\QE (lq X N scope cl C fp s H) z_ te)
  (hx:X.env.scope.names.lookup x=some .local)
  (hsw:swapsWith (.ListComp z_ [⟨x_,y_,A_,0⟩] scope pos) (some<|.Name x px) spos.line X.env=pure true) (hi':oN[i]?=some x:=by rfl)
  (hs:∀x,foldedSetIterable y_ X.env x=pure x:=by intro _;rfl):QS X (.Assign [.Name x px] (.ListComp z_ [⟨x_,y_,A_,0⟩] scope pos) spos) (qJ (PU wi g tA te fv)<|bF i):=
 ⟨V0 S hc h1 hi.h h (λcl C fp s H a=>⟨(hB cl C fp s H a).1.h,(hB cl C fp s H a).2.1.h,(hB cl C fp s H a).2.2.h⟩) hx hsw hi' hs⟩
def Def.gq(D:Def K mg x st)(S:DS (aj st) N ps G)
  (hb:∀(kV doc pm:Value) (an:h_) (cY ct:Value) (us:f'),us.length=ps.length->bindArgs (fnOf x x (bx st) (aU st) (aj st) .none kV doc pm an cY ct) ⟨us,[]⟩=pure (ps.zip us))
  (len:∀vs H Q E,sp vs H Q E->vs.length=ps.length)
  (fe:∀(X:Cx),Sc X N N G->X.prog=P->X.w=w->X.K=K->X.mg=mg->X.base=base->X.calm=true->X.env.scope=aj st->X.xe=(λ_ _=>False)->cL k X.A->X.A.units+64<cLine->
   ∀(H:Hp) (vs:u_) (Q:VK) (E:XK),sp vs H Q E->∃t,DH X (aU st) t/\t {nx:=λ_ H'=>Q .bE H',rt:=Q} (L2.start N vs) H):Fn P w K mg base (k+1) x ps sp:=
 D.go S hb len λX a b c d e f g h i j l H vs Q E q=>by
  obtain⟨t,z,y⟩:=fe X a b c d e f g h i j l H vs Q E q;exact⟨t,z.h,y⟩
def pr:e_->Int
 | []=>1
 |c::r=>c*pr r
def ic(xs:e_)(c:Int):pr (xs++[c])=pr xs*c:=by
 induction xs with
 |nil=>simp[pr]
 |cons a r b=>rw[cons_append,pr,b,pr,Int.mul_assoc]
def bQ(W:Int)(cs:e_):Int:=(cs.map (W / ·)).sum
def sum_append(xs ys:e_):(xs++ys).sum=xs.sum+ys.sum:=by
 induction xs with
 |nil=>simp
 |cons a r b=>rw[cons_append,C6,b,C6,Int.add_assoc]
def sQ(W:Int)(xs:e_)(c:Int):bQ W (xs++[c])=bQ W xs+W / c:=by
 unfold bQ;rw[hU,sum_append];simp
theorem kx{c:Int}:∀ {cs:e_},c∈cs->c∣pr cs
 |a::r,h=>by
  rcases gg.mp h with rfl|h
  ·exact⟨pr r,rfl⟩
  ·obtain⟨d,e⟩:=kx h;exact⟨a*d,by rw[pr,e,<-Int.mul_assoc,<-Int.mul_assoc,Int.mul_comm a c]⟩
theorem fk:∀ {cs:e_},(∀c∈cs,1<=c)->1<=pr cs
 | [],_=>by decide
 |a::r,h=>by
  have h1:=h a<|fA ..;have b:=fk (cs:=r) λc hc=>h c<|fz _ hc
  have:=Int.mul_le_mul h1 b a_ (by omega)
  rw[pr];omega
theorem wX{W d:Int}:∀ {cs:e_},(∀c∈cs,c∣W)->bQ (W*d) cs=bQ W cs*d
 | [],_=>by simp[bQ]
 |a::r,h=>by
  have b:=wX (W:=W) (d:=d) (cs:=r) λc hc=>h c<|fz _ hc;unfold bQ at b ⊢;rw[m5,m5,C6,C6,b,P3,Int.mul_comm W d,Int.mul_ediv_assoc d<|h a<|fA ..,Int.mul_comm d]
theorem i8{W:Int}(hW:0<=W):∀ {cs:e_},(∀c∈cs,1<=c)->0<=bQ W cs
 | [],_=>by simp[bQ]
 |a::r,h=>by
  have b:=i8 hW (cs:=r) λc hc=>h c<|fz _ hc;have h1:=h a<|fA ..
  have:0<=W / a:=ediv_nonneg hW (by omega)
  unfold bQ at b ⊢;rw[m5,C6];omega
variable{c:Int}
def DL{xs:e_}(hc:1<=c):bQ (pr<|xs++[c]) (xs++[c])=bQ (pr xs) xs*c+pr xs:=by
 rw[sQ,ic,wX λc hc=>kx hc,Int.mul_ediv_cancel _ (by omega)]
theorem Ce{W:Int}(hW:0<=W):∀ {cs:e_},(∀c∈cs,1<=c)->bQ W cs<=cs.length*W
 | [],_=>by simp[bQ]
 |a::r,h=>by
  have b:=Ce hW (cs:=r) λc hc=>h c<|fz _ hc;have h1:=h a<|fA ..;have d:W / a<=W:=ediv_le_self _ hW;unfold bQ at b ⊢;rw[m5,C6,mo,Int.natCast_succ,P3];omega
def G9(m n:Nat):Nat.gcd n (m%n)=Nat.gcd m n:=by
 rw[Nat.gcd_comm m n,Nat.gcd_rec n m,Nat.gcd_comm]
variable{a b g:Int}
def Ly(hg:0<g)(h1:g∣a)(h2:g∣b):(a / g) / (b / g)=a / b:=by
 obtain⟨x,rfl⟩:=h1;obtain⟨y,rfl⟩:=h2;rw[IR _ (by omega),IR _ (by omega),Int.mul_ediv_mul_of_pos _ _ hg]
def Lz(hg:0<g)(hb:0<b)(h2:g∣b):1<=b / g:=by
 obtain⟨y,rfl⟩:=h2;rw[IR _ (by omega)]
 have:=Int.pos_of_mul_pos_right hb (by omega)
 omega
def fD(W c start seen:Int):Int:=((start-seen)%W+W / c-1) / (W / c)%c
variable{W seen:Int}
def Ha{start:Int}(hc:1<=c):0<=fD W c start seen:=Fo _ (by omega)
def Hb{start:Int}(hc:1<=c):fD W c start seen<c:=wh _ (by omega)
variable{x:Int}
def UL{y:Int}(ha:1<=a)(h1:x*a<y*a+a)(h2:y*a<x*a+a):x=y:=by
 rcases Int.lt_trichotomy x y with h|h|h
 ·have:(x+1)*a<=y*a:=o5 (by omega) (by omega)
  rw[P3]at this;omega
 ·exact h
 ·have:(y+1)*a<=x*a:=o5 (by omega) (by omega)
  rw[P3]at this;omega
def DM{start h:Int}(hW:1<=W)(hc:1<=c)(hd:c∣W)(h0:0<=h)(h1:h<c):
  fD W c start seen=h↔(h*(W / c)+seen-start)%W<W / c:=by
 obtain⟨a,rfl⟩:=hd;have g:1<=a:=by
  have:=Int.pos_of_mul_pos_right (show 0<c*a by omega) (by omega)
  omega
 unfold fD;rw[IR _ (by omega)]
 have m:=Fo (start-seen) (show c*a≠0 by omega)
 have l:=wh (start-seen) (show 0<c*a by omega)
 have hm:(h*a+seen-start)%(c*a)=(h*a-(start-seen)%(c*a))%(c*a):=by
  rw[show h*a+seen-start=h*a-(start-seen) by omega]
  rw[sub_emod,sub_emod (h*a)<|(start-seen)%(c*a),Int.emod_emod_of_dvd (start-seen)<|Int.dvd_refl<|c*a]
 rw[hm];generalize (start-seen)%(c*a)=L at m l ⊢;have i:=mul_ediv_add_emod (L+a-1) a;have p:=Fo (L+a-1) (show a≠0 by omega)
 have t:=wh (L+a-1) (show 0<a by omega)
 have f:0<=(L+a-1) / a:=ediv_nonneg (by omega) (by omega)
 generalize (L+a-1) / a=q at i f ⊢;generalize (L+a-1)%a=r at i p t;rw[Int.mul_comm a q]at i;have v:q<=c:=by
  rcases Int.lt_or_le c q with hh|hh
  ·have:(c+1)*a<=q*a:=o5 (by omega) (by omega)
   rw[P3]at this;omega
  ·exact hh
 have u:1*a<=c*a:=o5 hc (by omega)
 have s:h*a+a<=c*a:=by
  have:(h+1)*a<=c*a:=o5 (by omega) (by omega)
  rw[P3]at this;omega
 have o:0<=h*a:=Int.mul_nonneg h0 (by omega)
 by_cases j:q=c
 ·subst j;rw[Int.emod_self]
  constructor
  ·rintro rfl
   have:(0*a-L)%(q*a)=q*a-L:=by
    rw[show 0*a-L=(q*a-L)+(q*a)*(-1) by rw[Int.zero_mul];omega,UF]
    exact Wg (by omega) (by omega)
   rw[this];omega
  ·intro b
   rcases Int.lt_or_le (h*a) L with hh|hh
   ·have:(h*a-L)%(q*a)=h*a-L+q*a:=by
     have z:h*a-L=(h*a-L+q*a)+(q*a)*(-1):=by omega
     have d:=UF (h*a-L+q*a) (q*a) (-1);rw[<-z]at d;rw[d];exact Wg (by omega) (by omega)
    rw[this]at b;have e:h+q=q:=UL g (x:=h+q) (y:=q) (by rw[P3];omega) (by rw[P3];omega)
    omega
   ·rw[Wg (by omega) (by omega)]at b
    have e:h=q:=UL g (by omega) (by omega)
    omega
 ·have n:q%c=q:=Wg f (by omega)
  rw[n]
  constructor
  ·rintro rfl;rw[Wg (by omega) (by omega)];omega
  ·intro b
   rcases Int.lt_or_le (h*a) L with hh|hh
   ·have:(h*a-L)%(c*a)=h*a-L+c*a:=by
     have z:h*a-L=(h*a-L+c*a)+(c*a)*(-1):=by omega
     have d:=UF (h*a-L+c*a) (c*a) (-1);rw[<-z]at d;rw[d];exact Wg (by omega) (by omega)
    rw[this]at b;have e:h+c=q:=UL g (x:=h+c) (y:=q) (by rw[P3];omega) (by rw[P3];omega)
    omega
   ·rw[Wg (by omega) (by omega)]at b
    exact UL g (by omega) (by omega)
def P9{t:Int}(hW:1<=W)(ha0:0<=a)(haW:a<=W):(x+a-t+W-1) / W=(x-t+W-1) / W+(if(t-x)%W<a then 1 else 0):=by
 have b:=mul_ediv_add_emod (x-t+W-1) W;have c:=Fo (x-t+W-1) (show W≠0 by omega)
 have d:=wh (x-t+W-1) (show 0<W by omega)
 generalize (x-t+W-1) / W=q at b ⊢;generalize (x-t+W-1)%W=r at b c d;have e:(t-x)%W=W-1-r:=by
  rw[show t-x=(W-1-r)+W*(-q) by rw[Int.mul_neg];omega,UF]
  exact Wg (by omega) (by omega)
 rw[e,show x+a-t+W-1=(r+a)+W*q by omega,Int.add_mul_ediv_left _ _ (by omega)]
 split
 ·have:(r+a) / W=1:=by
   rw[show r+a=(r+a-W)+W*1 by omega,Int.add_mul_ediv_left _ _ (by omega),Int.ediv_eq_zero_of_lt (by omega) (by omega)];rfl
  omega
 ·rw[Int.ediv_eq_zero_of_lt (by omega) (by omega)];omega
def dO(W:Int)(cs hs:e_):Int:=((List.range cs.length).map λj=>hs.getD j 0*(W / cs.getD j 0)).sum
def others(n i:Nat):d_:=(List.range n).filter λj=>decide<|¬j=i
def seenOf(W:Int)(cs hs:e_)(i:Nat):Int:=((others cs.length i).map λj=>hs.getD j 0*(W / cs.getD j 0)).sum
def cg(cs hs:e_)(i:Nat):Int:=fD (pr cs) (cs.getD i 0) (bQ (pr cs)<|cs.take i)<|seenOf (pr cs) cs hs i
theorem sR(f:Nat->Int)(i:Nat):∀n,((List.range n).map f).sum=(((List.range n).filter λj=>decide<|¬j=i).map f).sum+(if i<n then f i else 0)
 |0=>by simp
 |n+1=>by
  rw[u5,hU,sum_append,sR f i n,UV,hU,sum_append]
  by_cases h:n=i
  ·subst h
   simp
  ·by_cases b:i<n
   ·have a:i<n+1:=by omega
    simp[h,b,a];omega
   ·have a:¬i<n+1:=by omega
    simp[h,b,a]
variable{cs hs:e_}
def qS(hi:i<cs.length):dO W cs hs=seenOf W cs hs i+hs.getD i 0*(W / cs.getD i 0):=by
 unfold dO seenOf others;rw[sR _ i,if_pos hi]
variable{gs:e_}
def zE(h:∀j,j≠i->hs.getD j 0=gs.getD j 0):seenOf W cs hs i=seenOf W cs gs i:=by
 unfold seenOf
 congr 1
 apply Os
 intro j hj
 have:j≠i:=by
  have:=(j5.mp hj).2
  simpa using this
 rw[h j this]
def Hc(h:∀j,j≠i->hs.getD j 0=gs.getD j 0):cg cs hs i=cg cs gs i:=by
 unfold cg;rw[zE h]
structure LA(cs hs:e_):Prop where
 pos:∀c∈cs,1<=c
 len:hs.length=cs.length
 lo:∀i,i<cs.length->0<=hs.getD i 0
 hi:∀i,i<cs.length->hs.getD i 0<cs.getD i 0
def getD_mem(hi:i<cs.length):cs.getD i 0∈cs:=by
 rw[b3,b4 hi];exact kf hi
def SA(h:∀c∈cs,1<=c)(hi:i<cs.length):0<=cg cs hs i:=Ha<|h _<|getD_mem hi
def SD(h:∀c∈cs,1<=c)(hi:i<cs.length):cg cs hs i<cs.getD i 0:=Hb<|h _<|getD_mem hi
def Hd(h:LA cs hs)(hi:i<cs.length):
  cg cs hs i=hs.getD i 0↔(dO (pr cs) cs hs-bQ (pr cs) (cs.take i))%pr cs<pr cs / cs.getD i 0:=by
 have hc:=h.pos _<|getD_mem hi;unfold cg;rw[DM (fk h.pos) hc (kx<|getD_mem hi) (h.lo i hi) (h.hi i hi),qS hi,Int.add_comm<|seenOf _ _ _ _]
def take_snoc{α:Type}(d:α){xs:List α}(h:n<xs.length):xs.take (n+1)=xs.take n++[xs.getD n d]:=by
 rw[take_succ,b4 h,b3,b4 h];rfl
def zI(h:∀c∈cs,1<=c)(hi:i<cs.length):pr cs / cs.getD i 0<=pr cs/\1<=pr cs / cs.getD i 0:=by
 have a:=fk h;have hc:=h _<|getD_mem hi;refine⟨ediv_le_self _ (by omega),?_⟩
 obtain⟨d,e⟩:=kx<|getD_mem hi;rw[e,IR _ (by omega)]
 have:=Int.pos_of_mul_pos_right (show 0<cs.getD i 0*d by omega) (by omega)
 omega
def du(cs hs:e_)(n:Nat):d_:=(List.range n).filter λi=>decide<|cg cs hs i=hs.getD i 0
theorem lu{cs hs:e_}(h:LA cs hs):∀n,n<=cs.length->
  ((du cs hs n).length:Int)=(bQ (pr cs) (cs.take n)-dO (pr cs) cs hs%pr cs+pr cs-1) / pr cs
 |0,_=>by
  have a:=fk h.pos;have h1:=Fo (dO (pr cs) cs hs) (show pr cs≠0 by omega)
  have e:=wh (dO (pr cs) cs hs) (show 0<pr cs by omega)
  have:bQ (pr cs) (cs.take 0)=0:=by simp[bQ]
  rw[this,Int.ediv_eq_zero_of_lt (by omega) (by omega)]
  simp[du]
 |n+1,hn=>by
  have c:=lu h n (by omega)
  have a:=fk h.pos;have d:=zI h.pos (i:=n) (by omega)
  have b:=Hd h (i:=n) (by omega)
  have hm:(dO (pr cs) cs hs%pr cs-bQ (pr cs) (cs.take n))%pr cs=(dO (pr cs) cs hs-bQ (pr cs) (cs.take n))%pr cs:=by
   rw[sub_emod,Int.emod_emod_of_dvd _<|Int.dvd_refl _,<-sub_emod]
  rw[take_snoc 0 (by omega),sQ,P9 a (by omega) d.1,<-c,hm]
  unfold du;rw[u5,UV,eR]
  by_cases hc:cg cs hs n=hs.getD n 0
  ·rw[if_pos (b.mp hc)];simp only[List.filter_cons,hc,decide_true,if_true,List.filter_nil,length_cons,length_nil]
   omega
  ·rw[if_neg (λz=>hc<|b.mpr z)];simp only[List.filter_cons,hc,decide_false,List.filter_nil]
   simp
def zJ(h:LA cs hs):
  (bQ (pr cs) cs-bQ (pr cs) cs%pr cs<=((du cs hs cs.length).length:Int)*pr cs)/\(((du cs hs cs.length).length:Int)-1)*pr cs<bQ (pr cs) cs:=by
 have e:=lu h cs.length<|dy _;have b:=fk h.pos;rw[sC]at e;have h1:=Fo (dO (pr cs) cs hs) (show pr cs≠0 by omega)
 have a:=wh (dO (pr cs) cs hs) (show 0<pr cs by omega)
 generalize dO (pr cs) cs hs%pr cs=t at e h1 a;generalize ((du cs hs cs.length).length:Int)=R at e ⊢;generalize bQ (pr cs) cs=O at e ⊢;generalize pr cs=W at e b h1 a ⊢;subst e;have j:=mul_ediv_add_emod O W;have f:=Fo O (show W≠0 by omega)
 have d:=wh O (show 0<W by omega)
 have l:=mul_ediv_add_emod (O-t+W-1) W;have i:=Fo (O-t+W-1) (show W≠0 by omega)
 have g:=wh (O-t+W-1) (show 0<W by omega)
 have c:O / W<=(O-t+W-1) / W:=Int.ediv_le_ediv (by omega) (by omega)
 have m:W*(O / W)<=W*((O-t+W-1) / W):=Int.mul_le_mul_of_nonneg_left c (by omega)
 rw[Int.sub_mul,Int.mul_comm _ W]
 omega
variable{A:Prop}
def wY{B:Prop}[Decidable (true=true)]:(if true=true then A else B)=A:=if_pos rfl
def j4{B:Prop}[Decidable True]:(if True then A else B)=A:=if_pos trivial
theorem N9{B:Prop}[Decidable False]:(if False then A else B)=B:=if_neg id
def SE[i:Decidable True]:@decide True i=true:=by cases i with
 |isTrue _=>rfl
 |isFalse h=>exact absurd trivial h
def Oa{σ:St}:zw [] σ=[]:=rfl
def Ob{σ:St}:zw (none::fv) σ=none::zw fv σ:=rfl
def LB(σ:St)(i:Nat):v_:=(σ[i]?).join
def Oc{σ:St}:zw (some i::fv) σ=LB σ i::zw fv σ:=rfl
variable{o:v_}
def SF{σ:St}:LB (o::σ) 0=o:=rfl
def SG{σ:St}:LB (o::σ) (i+1)=LB σ i:=rfl
variable{Q:VK}{p:Addr}
def aI{ys:u_}(h:aw K H p ys∨aL K H p ys)(q:Q (.int ys.length) H):Su K [.ref p] H Q:=⟨p,ys,rfl,h,q⟩
def i9{ns:e_}(h:aw K H p (ns.map V.int))(q:Q (.int ns.sum) H):Sv K [.ref p] H Q:=⟨p,ns,rfl,h,q⟩
variable{i:Int}
def ja{α:Type}{xs:List α}{k:Nat}(e:i=(k:Int))(d:α)(h1:k<xs.length):wq xs i=some (xs.getD k d):=by
 subst e;rw[jI (b4 h1),b3,b4 h1];rfl
def getD_ints{ns:e_}{k:Nat}(h:k<ns.length):(ns.map V.int).getD k .bE=.int (ns.getD k 0):=by
 rw[b3,ed,b4 h,b3,b4 h];rfl
def aN{ns:e_}{k:Nat}(h:aw K H p (ns.map V.int))(e:i=(k:Int))(h1:k<ns.length)(q:Q (.int<|ns.getD k 0) H):wL K (.ref p) (.int i) H Q:=
 ⟨p,_,i,_,rfl,rfl,h,ja e .bE (by rw[b5];exact h1),by rw[getD_ints h1];exact q⟩
def dP{ns:e_}{k:Nat}(h:aL K H p (ns.map V.int))(e:i=(k:Int))(h1:k<ns.length)(q:Q (.int<|ns.getD k 0) H):Dy K (.ref p) (.int i) H Q:=
 ⟨p,_,i,_,rfl,rfl,h,ja e .bE (by rw[b5];exact h1),by rw[getD_ints h1];exact q⟩
variable{a:Addr}{ns:e_}{g:TG}{tb:TS}
def LC(I:o_)(h:aL K H a (ns.map V.int))(h0:I 0 σ H)(hl:∀i σ H,I i σ H->aL K H a (ns.map V.int))
  (step:∀i σ H,i<ns.length->I i σ H->g (.int<|ns.getD i 0) σ H λσ2 H2=>tb {D with nx:=I<|i+1,ct:=I<|i+1,bk:=D.nx} σ2 H2)
  (fin:∀σ H,I ns.length σ H->D.nx σ H):∃b,V.ref a=.ref b/\(∃xs,aL K H b xs)/\qO g tb D σ (Fu K b) H:=by
 refine⟨a,rfl,⟨_,h⟩,BN (xs:=ns.map V.int) I h0 (λi σ H _ p=>hl i σ H p) (λi x σ H e p=>?_) λσ H p=>fin σ H (by rw[b5]at p;exact p)⟩
 have hi:i<ns.length:=by have:=(ls.mp e).1;rw[b5]at this;exact this
 have e2:x=.int (ns.getD i 0):=by
  rw[<-getD_ints hi,b3,e];rfl
 rw[e2];exact step i σ H hi p
def forL(I:o_)(h:aw K H a (ns.map V.int))(h0:I 0 σ H)(hl:∀i σ H,I i σ H->aw K H a (ns.map V.int))
  (step:∀i σ H,i<ns.length->I i σ H->g (.int<|ns.getD i 0) σ H λσ2 H2=>tb {D with nx:=I<|i+1,ct:=I<|i+1,bk:=D.nx} σ2 H2)
  (fin:∀σ H,I ns.length σ H->D.nx σ H):∃b,V.ref a=.ref b/\(∃xs,aw K H b xs)/\qO g tb D σ (Ft K b) H:=by
 refine⟨a,rfl,⟨_,h⟩,oX (xs:=ns.map V.int) I h0 (λi σ H _ p=>hl i σ H p) (λi x σ H e p=>?_) λσ H p=>fin σ H (by rw[b5]at p;exact p)⟩
 have hi:i<ns.length:=by have:=(ls.mp e).1;rw[b5]at this;exact this
 have e2:x=.int (ns.getD i 0):=by
  rw[<-getD_ints hi,b3,e];rfl
 rw[e2];exact step i σ H hi p
variable{j:Int}
def forR(n:Nat)(I:o_)(e:j=(n:Int))(hn:n<=1000000)(h0:I 0 σ H)
  (step:∀i σ H,i<n->I i σ H->g (.int (i:Int)) σ H λσ2 H2=>tb {D with nx:=I<|i+1,ct:=I<|i+1,bk:=D.nx} σ2 H2)
  (fin:∀σ H,I n σ H->D.nx σ H):∃k:Int,[V.int j]=[.int k]/\-(2 ^ 62)<=k/\k<2 ^ 62/\qO g tb D σ (wF 0 k.toNat) H:=by
 subst e;refine⟨_,rfl,by omega,by omega,r6 (n:=((n:Nat):Int).toNat) I h0 (λi σ H hi p=>?_) λσ H p=>fin σ H (by rw[k4]at p;exact p)⟩
 rw[k4]at hi
 have:=step i σ H hi p
 rw[<-Int.zero_add ((i:Nat):Int)]at this;exact this
variable{tc:TT}
def wu{rest:St}{H1:Hp}(ok:DG J H1 n item)(keep:Nat->Bool)(val:Nat->V)(hn:n<sizeLine)
  (step:∀i H (A:q_) (B:r_),i<n->ag H1 H->(keep i=true->∀H',ag H H'->A (val i) H')->(keep i=false->∀H',ag H H'->B H')->
   tc (some (item i)::rest) H λb H3=>if b=true then te (some (item i)::rest) H3 A else B H3)
  (fin:∀B_ H,H1 B_=none->ag H1 H->H B_=some (.lst<|((List.range n).filter keep).map val)->Q (.ref B_) H):sN (bF 0) tc te (none::rest) Q J H1:=by
 have d:∀i,i<n->(((List.range i).filter keep).map val).length<sizeLine:=λi hi=>by
  have:=x6 keep<|List.range i
  rw[h7]at this;rw[b5];omega
 refine P4 ok (λi=>((List.range i).filter keep).map val) (λ_ τ=>∃y,τ=y::rest) rfl ⟨_,rfl⟩ ?_ fin;rintro i τ H B_ hi ⟨y,rfl⟩ c e f;show tc (some (item i)::rest) H _;refine step i H _ _ hi e (λhk H' a=>?_) λhk H' a=>?_
 ·refine P2 c (a _ _ f) (e.trans a) (d i hi) ?_ ⟨_,rfl⟩
  simp[List.range_succ,List.filter_append,List.map_append,hk]
 ·refine⟨⟨_,rfl⟩,e.trans a,?_⟩;rw[a _ _ f]
  simp[List.range_succ,List.filter_append,List.map_append,hk]
def UM{rest:St}{H1:Hp}(keep:Nat->Bool)(val:Nat->Int)(h:aL K H1 a (ns.map V.int))(hn:ns.length<sizeLine)
  (step:∀i H (A:q_) (B:r_),i<ns.length->ag H1 H->(keep i=true->∀H',ag H H'->A (.int<|val i) H')->(keep i=false->∀H',ag H H'->B H')->
   tc (some (.int<|ns.getD i 0)::rest) H λb H3=>if b=true then te (some (.int<|ns.getD i 0)::rest) H3 A else B H3)
  (fin:∀B_ H,H1 B_=none->ag H1 H->H B_=some (.lst<|(((List.range ns.length).filter keep).map val).map V.int)->Q (.ref B_) H):
  ∃b,V.ref a=.ref b/\(∃xs,aL K H1 b xs)/\sN (bF 0) tc te (none::rest) Q (Fu K b) H1:=by
 refine⟨a,rfl,⟨_,h⟩,wu (i6 h) keep (λi=>.int<|val i) (by rw[b5];exact hn) (λi H A B hi c e g=>?_) λB_ H h1 d f=>fin B_ H h1 d (by rw[f,k6,b5];rfl)⟩
 rw[b5]at hi;rw[getD_ints hi];exact step i H A B hi c e g
def He{rest:St}{H1:Hp}(keep:Nat->Bool)(val:Nat->Int)(h:aw K H1 a (ns.map V.int))(hn:ns.length<sizeLine)
  (step:∀i H (A:q_) (B:r_),i<ns.length->ag H1 H->(keep i=true->∀H',ag H H'->A (.int<|val i) H')->(keep i=false->∀H',ag H H'->B H')->
   tc (some (.int<|ns.getD i 0)::rest) H λb H3=>if b=true then te (some (.int<|ns.getD i 0)::rest) H3 A else B H3)
  (fin:∀B_ H,H1 B_=none->ag H1 H->H B_=some (.lst<|(((List.range ns.length).filter keep).map val).map V.int)->Q (.ref B_) H):
  ∃b,V.ref a=.ref b/\(∃xs,aw K H1 b xs)/\sN (bF 0) tc te (none::rest) Q (Ft K b) H1:=by
 refine⟨a,rfl,⟨_,h⟩,wu (df h) keep (λi=>.int<|val i) (by rw[b5];exact hn) (λi H A B hi c e g=>?_) λB_ H h1 d f=>fin B_ H h1 d (by rw[f,k6,b5];rfl)⟩
 rw[b5]at hi;rw[getD_ints hi];exact step i H A B hi c e g
def LD{rest:St}{H1:Hp}(n:Nat)(keep:Nat->Bool)(val:Nat->Int)(e:j=(n:Int))(hn:n<=1000000)
  (step:∀i H (A:q_) (B:r_),i<n->ag H1 H->(keep i=true->∀H',ag H H'->A (.int<|val i) H')->(keep i=false->∀H',ag H H'->B H')->
   tc (some (.int (i:Int))::rest) H λb H3=>if b=true then te (some (.int (i:Int))::rest) H3 A else B H3)
  (fin:∀B_ H,H1 B_=none->ag H1 H->H B_=some (.lst<|(((List.range n).filter keep).map val).map V.int)->Q (.ref B_) H):
  ∃k:Int,[V.int j]=[.int k]/\-(2 ^ 62)<=k/\k<2 ^ 62/\sN (bF 0) tc te (none::rest) Q (wF 0 k.toNat) H1:=by
 subst e;refine⟨_,rfl,by omega,by omega,?_⟩
 rw[k4];refine wu kr keep (λi=>.int<|val i) (m2 hn a_) (λi H A B hi a d g=>?_) λB_ H h1 c f=>fin B_ H h1 c (by rw[f,k6];rfl)
 rw[Int.zero_add];exact step i H A B hi a d g
def bz(n:Nat):(List.range n).filter (λ_=>true)=List.range n:=by simp
variable{β:Type}
def map_getD(ns:e_)(f:Int->β):(List.range ns.length).map (λi=>f<|ns.getD i 0)=ns.map f:=by
 apply ext_getElem
 ·simp
 ·intro i h1 a
  simp at h1
  simp[h1]
theorem Bt.pr{k:Nat}:∀ {cs:e_},(∀c∈cs,Bt k c)->Bt (cs.length*k+1) (L2.pr cs)
 | [],_=>by unfold Bt;simp[L2.pr]
 |c::r,h=>by
  have h1:=h c<|fA ..;have b:=Bt.pr (k:=k) (cs:=r) λd a=>h d<|fz _ a
  have:=h1.mul b
  rw[L2.pr];exact this.mono (by rw[mo,succ_mul];omega)
def Kt.gq{k:Nat}{x:Str}{fd:FuncData}(F:Kt K x x st f fd)(S:DS (aj st) N ps G)
  (len:∀vs H Q E,sp vs H Q E->vs.length=ps.length)
  (fe:∀(X:Cx),Sc X N N G->X.prog=P->X.w=w->X.K=K->X.mg=mg->X.base=base->X.calm=true->X.env.scope=aj st->X.xe=(λ_ _=>False)->cL k X.A->X.A.units+64<cLine->
   ∀(H:Hp) (vs:u_) (Q:VK) (E:XK),sp vs H Q E->∃t,DH X (aU st) t/\t {nx:=λ_ H'=>Q .bE H',rt:=Q} (L2.start N vs) H):fM P w K mg base DD (k+1) f fd ps sp:=
 F.ok S.fs len λc A a s H vs Q E b h=>by
  obtain⟨t,z,y⟩:=fe _ S.cx rfl rfl rfl rfl rfl rfl rfl rfl b b.units H vs Q E h;exact⟨t,z.h,y⟩
def Hf{k:Nat}(h:k<=xs.length):jT xs none (some (k:Int))=xs.take k:=by
 unfold jT;rw[HT.lh,HT.jH,drop_zero,Nat.sub_zero,Nat.min_eq_left h]
def Hg{k:Nat}(h:k<=xs.length):jT xs (some (k:Int)) none=xs.drop k:=by
 unfold jT;rw[HT.lh,HT.jH,Nat.min_eq_left h,vr];rw[nt];exact dy _
def dE{k:Nat}:jT xs (some (k:Int)) none=xs.drop k:=by
 by_cases h:k<=xs.length
 ·exact Hg h
 ·unfold jT;rw[HT.lh,HT.jH,Nat.min_eq_right (by omega),List.drop_eq_nil_of_le<|dy _,List.drop_eq_nil_of_le (by omega),List.take_nil]
def ml{k:Nat}:jT xs none (some (k:Int))=xs.take k:=by
 by_cases h:k<=xs.length
 ·exact Hf h
 ·unfold jT;rw[HT.lh,HT.jH,drop_zero,Nat.sub_zero,Nat.min_eq_right (by omega),vr<|dy _,vr (by omega)]
def uE(k:Nat)(h:aL K H a (ns.map V.int))(e:i=(k:Int))(hk:k<ns.length)(q:∀p,H p=none->Q (.ref p) (upd H p<|.tup<|(ns.take k).map V.int)):K8 K (.ref a) none (some i) H Q:=by
 subst e;refine⟨a,_,rfl,h,?_,λp b=>?_⟩
 ·rw[b5,HT.jH];omega
 ·rw[ml,<-Wy];exact q p b
def uF(k:Nat)(h:aL K H a (ns.map V.int))(e:i=((k+1:Nat):Int))(hk:k<ns.length)(q:∀p,H p=none->Q (.ref p) (upd H p<|.tup<|(ns.drop<|k+1).map V.int)):K8 K (.ref a) (some i) none H Q:=by
 subst e;refine⟨a,_,rfl,h,?_,λp b=>?_⟩
 ·rw[b5,HT.jH];omega
 ·rw[dE,<-Wo];exact q p b
def LF(k:Nat)(h:aw K H a (ns.map V.int))(e:i=(k:Int))(q:∀p,H p=none->Q (.ref p) (upd H p<|.lst<|(ns.drop k).map V.int)):Dz K (.ref a) (some i) none H Q:=by
 subst e;refine⟨a,_,rfl,h,λp b=>?_⟩;rw[dE,<-Wo];exact q p b
variable{b:Addr}{ms:e_}
def jN(h:aw K H a (ns.map V.int))(h':aw K H b (ms.map V.int))(hz:ns.length+ms.length<=sizeLine)(q:∀p,H p=none->Q (.ref p) (upd H p<|.lst<|(ns++ms).map V.int)):GV K (.ref a) (.ref b) H Q:=
 ⟨a,b,_,_,rfl,rfl,h,h',by rw[b5,b5];exact hz,λp c=>by rw[<-hU];exact q p c⟩
def uG(h:aL K H a (ns.map V.int))(h':aL K H b (ms.map V.int))(hz:ns.length+ms.length<=sizeLine)(q:∀p H',ag H H'->aL K H' p ((ns++ms).map V.int)->Q (.ref p) H'):GX K (.ref a) (.ref b) H Q:=
 ⟨a,b,_,_,rfl,rfl,h,h',by rw[b5,b5];exact hz,λp H' d c=>by rw[<-hU]at c;exact q p H' d c⟩
def c8(h:n<=100):n<=sizeLine:=gr h a_
variable{v:V}
def bB(h:aL K H p xs)(e:wq xs i=some v)(q:Q v H):Dy K (.ref p) (.int i) H Q:=⟨p,_,i,_,rfl,rfl,h,e,q⟩
structure Cn(c:Int):Prop where
 lo:1<=c
 hi:c<=1000000000000000000000000000000
def Od:Sp:=λa H Q _=>∃m n:Nat,a=[.int m,.int n]/\Q (.int<|Nat.gcd m n) H
def SH(H0:Hp)(g:Nat)(r:St)(σ:St)(H:Hp):Prop:=H=H0/\∃(m n:Nat) (y:St),σ=some (.int m)::some (.int n)::y/\y.length=r.length/\Nat.gcd m n=g
def VG(σ:St):Nat:=match σ with
 |_::some (.int n)::_=>n.toNat
 |_=>0
def Vd{α:Type}{y:List α}(h:y.length=1):∃a,y=[a]:=by
 match y,h with
 | [a],_=>exact⟨a,rfl⟩
def Ve(m n:Nat):(m:Int)%(n:Int)=((m%n:Nat):Int):=(natCast_emod m n).symm
structure cj(cs:e_):Prop where
 cn:∀c∈cs,Cn c
 len:cs.length<=8
end L2
namespace L2
open PySem PySem.Spec PyProof.Rows
def cj.pos{cs:e_}(h:cj cs):∀c∈cs,1<=c:=λc hc=>(h.cn c hc).lo
theorem cj.take{cs:e_}(h:cj cs)(i:Nat):cj (cs.take i):=⟨λc hc=>h.cn c<|List.mem_of_mem_take hc,by rw[ri];have:=h.len;omega⟩
def Cn.bt{c:Int}(h:Cn c):Bt 100 c:=by
 unfold Bt;have h1:=h.lo;have a:=h.hi
 have:(2:Nat) ^ 100=1267650600228229401496703205376:=by decide
 omega
def cj.uH{cs:e_}(h:cj cs):Bt 801 (pr cs):=(Bt.pr λc hc=>(h.cn c hc).bt).mono (by have:=h.len;omega)
def cj.g7{cs:e_}(h:cj cs):1<=pr cs:=fk h.pos
def cj.RF{cs:e_}(h:cj cs):0<=bQ (pr cs) cs:=i8 (by have:=h.g7;omega) h.pos
def cj.SI{cs:e_}(h:cj cs):Bt 805 (bQ (pr cs) cs):=by
 have h1:=Ce (W:=pr cs) (by have:=h.g7;omega) h.pos
 have b:(cs.length:Int)*pr cs<=8*pr cs:=o5 (by have:=h.len;omega) (by have:=h.g7;omega)
 have a:Bt (4+801) (8*pr cs):=Bt.mul (by unfold Bt;decide) h.uH
 exact a.of_le h.RF (by omega)
def cj.get{cs:e_}(h:cj cs){i:Nat}(hi:i<cs.length):Cn (cs.getD i 0):=h.cn _<|L2.getD_mem hi
noncomputable def gC(cs:e_):Nat:=Nat.gcd (bQ (pr cs) cs).toNat (pr cs).toNat
def zL{cs:e_}(h:cj cs):0<gC cs:=Nat.gcd_pos_of_pos_right _ (by have:=h.g7;omega)
def toN{i:Int}(h:0<=i):((i.toNat:Nat):Int)=i:=Int.toNat_of_nonneg h
def SJ{cs:e_}(h:cj cs):(gC cs:Int)∣bQ (pr cs) cs:=by
 have:=Int.natCast_dvd_natCast.mpr<|Nat.gcd_dvd_left (bQ (pr cs) cs).toNat (pr cs).toNat
 rw[toN h.RF]at this;exact this
def Hh{cs:e_}(h:cj cs):(gC cs:Int)∣pr cs:=by
 have:=Int.natCast_dvd_natCast.mpr<|Nat.gcd_dvd_right (bQ (pr cs) cs).toNat (pr cs).toNat
 rw[toN (show 0<=pr cs by have:=h.g7;omega)]at this
 exact this
noncomputable def Oe(cs:e_):Int:=bQ (pr cs) cs / gC cs
noncomputable def Kv(cs:e_):Int:=pr cs / gC cs
def zM{cs:e_}(h:cj cs):0<=Oe cs:=ediv_nonneg h.RF (by omega)
def ph{cs:e_}(h:cj cs):1<=Kv cs:=Lz (by have:=zL h;omega) (by have:=h.g7;omega)<|Hh h
def zN{cs:e_}(h:cj cs):Bt 805 (Oe cs):=h.SI.of_le (zM h)<|ediv_le_self _ h.RF
def uI{cs:e_}(h:cj cs):Bt 801 (Kv cs):=h.uH.of_le (by have:=ph h;omega) (ediv_le_self _ (by have:=h.g7;omega))
def SK{cs:e_}(h:cj cs):Bt 801 (gC cs):=h.uH.of_le (by omega) (Int.le_of_dvd (by have:=h.g7;omega)<|Hh h)
def Qa{cs:e_}(h:cj cs):Oe cs / Kv cs=bQ (pr cs) cs / pr cs:=Ly (by have:=zL h;omega) (SJ h)<|Hh h
def uJ(K:Frag):Sp:=λa H Q _=>∃(p:Addr) (cs:e_),a=[.ref p]/\aL K H p (cs.map V.int)/\cj cs/\∀(q:Addr) (H':Hp),ag H H'->H' q=some (.tup [.int (Oe cs),.int<|Kv cs])->Q (.ref q) H'
def Vf(H0:Hp)(p:Addr)(cs:e_)(i:Nat)(σ:St)(H:Hp):Prop:=H=H0/\∃y,σ=[some (.ref p),some<|.int<|bQ (pr<|cs.take i)<|cs.take i,some<|.int<|pr<|cs.take i,y,none]
def Hi(K:Frag):Sp:=λa H Q _=>∃(p:Addr) (cs:e_),a=[.ref p]/\aL K H p (cs.map V.int)/\cj cs/\∀(H':Hp),ag H H'->Q (.int<|bQ (pr cs) cs / pr cs) H'
def Qb{i j:Int}(h:i=j):(!decide (i=j))=false:=by rw[cc h];rfl
def Cf(K:Frag):Sp:=λb H Q _=>∃(a:Addr) (ns:e_),b=[.ref a]/\aw K H a (ns.map V.int)/\ns.length<=63/\∀H',Q (.bl true) H'
def Hj(K:Frag):Sp:=λa H Q _=>∃(p:Addr) (cs:e_),a=[.ref p]/\aL K H p (cs.map V.int)/\cj cs/\Q (.int<|pr cs) H
def SM(H0:Hp)(p:Addr)(cs:e_)(i:Nat)(σ:St)(H:Hp):Prop:=H=H0/\∃y,σ=[some (.ref p),some<|.int<|pr<|cs.take i,y]
structure SN(cs hs:e_):Prop where
 len:hs.length=cs.length
 bt:∀j,j<cs.length->Bt 100 (hs.getD j 0)
inductive Qc(K:Frag)(vs:u_)(H:Hp)(Q:VK)(E:XK):Prop
 |mk (p h:Addr) (cs hs:e_) (i:Nat):(vs=[.ref p,.ref h,.int i])->aL K H p (cs.map V.int)->aL K H h (hs.map V.int)->cj cs->SN cs hs->i<cs.length->(∀H',ag H H'->Q (.int<|cg cs hs i) H')->Qc K vs H Q E
variable{i:Nat}
def Hl{cs:e_}(hcs:cj cs)(hi:i<cs.length):(0:Int)<cs.getD i 0/\(cs.getD i 0).natAbs.log2<9000:=by
 have h1:=hcs.get hi;exact⟨by have:=h1.lo;omega,h1.bt.log (by have:=h1.lo;omega) a_⟩
def Of{cs:e_}(hcs:cj cs)(hi:i<cs.length):Bt 801 (pr cs / cs.getD i 0):=by
 have h:=zI hcs.pos hi;exact hcs.uH.of_le (by omega) h.1
variable{j:Nat}
def Qd:(!decide ((j:Int)=(i:Int)))=decide (¬j=i):=by
 by_cases h:j=i
 ·subst h;simp
 ·have a:¬(j:Int)=(i:Int):=by omega
  rw[dt a,cc h];rfl
noncomputable def putAt(hs:e_)(i:Nat)(o:Int):e_:=hs.take i++[o]++hs.drop (i+1)
noncomputable def ext(L:List (e_))(c:Nat):List (e_):=L.flatMap λh=>(List.range c).map λx=>h++[((x:Nat):Int)]
noncomputable def gB(cs:e_):List (e_):=cs.foldl (λL c=>ext L c.toNat) [[]]
def DO(cs:e_)(c:Int):gB (cs++[c])=ext (gB cs) c.toNat:=by unfold gB;rw[List.foldl_append];rfl
def uK(L:List (e_))(c:Nat):(ext L c).length=L.length*c:=by
 unfold ext
 induction L with
 |nil=>simp
 |cons a r b=>rw[flatMap_cons,eR,b,mo,succ_mul];simp;omega
def dQ{cs:e_}{n:Nat}(h:n<cs.length):gB (cs.take<|n+1)=ext (gB<|cs.take n) (cs.getD n 0).toNat:=by
 rw[take_snoc 0 h,DO]
variable{h:e_}{c:Nat}{L:List (e_)}
def LG:h∈ext L c↔∃g∈L,∃x:Nat,x<c/\h=g++[(x:Int)]:=by
 unfold ext;rw[List.mem_flatMap]
 constructor
 ·rintro⟨g,a,hx⟩;obtain⟨x,hx,e⟩:=gh.mp hx;exact⟨g,a,x,fO.mp hx,e.symm⟩
 ·rintro⟨g,a,x,hx,e⟩;exact⟨g,a,gh.mpr ⟨x,fO.mpr hx,e.symm⟩⟩
def lx{x:Int}(hj:j<h.length):(h++[x]).getD j 0=h.getD j 0:=by
 rw[b3,A5 hj,<-b3]
def lA{x:Int}:(h++[x]).getD h.length 0=x:=by
 rw[b3,qz<|dy _,Wr];rfl
def HN(cs h:e_)(n:Nat):Prop:=h.length=n/\∀i,i<n->0<=h.getD i 0/\h.getD i 0<cs.getD i 0
theorem wZ{cs:e_}(hp:∀c∈cs,1<=c):∀n,n<=cs.length->∀h∈gB (cs.take n),HN cs h n
 |0,_,h,hh=>by
  simp[gB]at hh
  subst hh;exact⟨rfl,λi hi=>absurd hi<|sU i⟩
 |n+1,hn,h,hh=>by
  rw[dQ (by omega)]at hh
  obtain⟨g,b,x,hx,rfl⟩:=LG.mp hh;obtain⟨gl,a⟩:=wZ hp n (by omega) g b
  have hc:=hp _ (getD_mem (cs:=cs) (i:=n) (by omega))
  refine⟨by rw[eR,gl];rfl,λi hi=>?_⟩
  by_cases e:i=n
  ·subst e;rw[<-gl,lA,gl]
   omega
  ·rw[lx (by omega)]
   exact a i (by omega)
theorem w4{cs:e_}(hp:∀c∈cs,1<=c):∀n,n<=cs.length->((gB<|cs.take n).length:Int)=pr (cs.take n)
 |0,_=>by simp[gB,pr]
 |n+1,hn=>by
  have hc:=hp _ (getD_mem (cs:=cs) (i:=n) (by omega))
  rw[dQ (by omega),uK,take_snoc 0 (by omega),ic,natCast_mul,w4 hp n (by omega),Int.toNat_of_nonneg (by omega)]
def ie{n:Nat}(h:n<=1000):n<=sizeLine:=Nat.le_of_lt<|aB h
variable{o:HO}
def aL.gD{K:Frag}{H:Hp}{r B_:Addr}{xs ys:u_}(h:aL K H r xs)(ha:H B_=some (.lst ys)):aL K (upd H B_ o) r xs:=by
 rcases h with (h|⟨u,h⟩)|h
 ·exact .inl (.inl (by rw[aC (dj h ha (by intro z;cases z))];exact h))
 ·exact .inl (.inr ⟨u,by rw[aC (dj h ha (by intro z;cases z))];exact h⟩)
 ·exact .inr h
def uL{n k:Nat}(h:k<n):Dx n (k:Int)=some k:=by
 unfold Dx;rw[if_pos (by omega),if_pos (by omega),k4]
def lB(ns ms:e_):PyData.eqv (.list<|ns.map PyData.int) (.list<|ms.map PyData.int)=decide (ns=ms):=by
 simp only[PyData.eqv,nF]
def Hm(h:j<L.length):ext (L.take<|j+1) c=ext (L.take j) c++(List.range c).map λx=>L.getD j []++[((x:Nat):Int)]:=by
 rw[take_snoc [] h];unfold ext;rw[List.flatMap_append];simp
def aX{L:d_}{k:Nat}(h:k<L.length):L.getD k 0∈L:=by
 rw[b3,b4 h];exact kf h
def DP{k:Nat}(h:k<L.length):L.getD k []∈L:=by
 rw[b3,b4 h];exact kf h
noncomputable def cF(ws:d_)(i j:Nat):Bool:=(ws.getD i 0).testBit j
structure jb(ws:d_):Prop where
 lt:∀i,i<ws.length->ws.getD i 0<2 ^ ws.length
 self:∀i,i<ws.length->cF ws i i=false
variable{ws:d_}
def jb.inside(h:jb ws)(hi:i<ws.length)(s:cF ws i j=true):j<ws.length:=by
 by_cases c:j<ws.length
 ·exact c
 ·unfold cF at s
  have:=Nat.testBit_lt_two_pow (x:=ws.getD i 0) (i:=j) (g4 (h.lt i hi) (oD a_ (by omega)))
  rw[this]at s;cases s
noncomputable def ready(ws:d_)(laid i:Nat):Bool:=!laid.testBit i&&decide (ws.getD i 0|||laid=laid)
noncomputable def bR(ws:d_)(laid:Nat):Option Nat:=(List.range ws.length).find?<|ready ws laid
def Qe{a b:Nat}:a|||b=b↔∀j,a.testBit j=true->b.testBit j=true:=by
 constructor
 ·intro h j hj;rw[<-h,testBit_or,hj];rfl
 ·intro h
  apply DK
  intro j;rw[testBit_or]
  cases e:a.testBit j with
  |false=>rfl
  |true=>rw[h j e];rfl
def jc{m:Nat}:(m|||2 ^ i).testBit j=(m.testBit j||decide (i=j)):=by
 rw[testBit_or,FM]
noncomputable def gE(ws:d_):Nat->d_->Nat->List Nat
 |0,order,_=>order
 |f+1,order,laid=>match bR ws laid with
  |none=>order
  |some i=>gE ws f (order++[i]) (laid|||2 ^ i)
noncomputable def laidOut(ws:d_):d_:=gE ws (ws.length+1) [] 0
structure Laid(ws order:d_)(laid:Nat):Prop where
 bits:∀j,laid.testBit j=true↔j∈order
 nd:order.Nodup
 lt:∀i∈order,i<ws.length
 ok:∀k,k<order.length->∀j,cF ws (order.getD k 0) j=true->j∈order.take k
def Laid.nil(ws:d_):Laid ws [] 0:=⟨by simp,nodup_nil,by simp,by simp⟩
def mn{laid:Nat}:ready ws laid i=true↔laid.testBit i=false/\∀j,cF ws i j=true->laid.testBit j=true:=by
 unfold ready cF;rw[gc,Bool.not_eq_true',kc,Qe]
def iP{laid:Nat}(h:bR ws laid=some i):i<ws.length/\laid.testBit i=false/\∀j,cF ws i j=true->laid.testBit j=true:=by
 have h1:=List.find?_some h;have a:=List.mem_of_find?_eq_some h;exact⟨fO.mp a,mn.mp h1⟩
variable{h:d_}{x d:Nat}
def eP(hj:j<h.length):(h++[x]).getD j d=h.getD j d:=by
 rw[b3,A5 hj,<-b3]
def gF:(h++[x]).getD h.length d=x:=by
 rw[b3,qz<|dy _,Wr];rfl
variable{order:d_}
def Laid.put{laid:Nat}(h:Laid ws order laid)(hf:bR ws laid=some i):Laid ws (order++[i]) (laid|||2 ^ i):=by
 obtain⟨h1,f,l⟩:=iP hf;have d:i∉order:=λz=>by rw[(h.bits i).mpr z]at f;cases f
 refine⟨λj=>?_,?_,?_,?_⟩
 ·rw[jc,GE,h.bits,j6,eG,kc]
  constructor
  ·rintro(a|a)
   ·exact .inl a
   ·exact .inr a.symm
  ·rintro(a|a)
   ·exact .inl a
   ·exact .inr a.symm
 ·rw[We];refine⟨h.nd,by simp,?_⟩
  intro a g b hb e;rw[eG]at hb;subst hb;subst e;exact d g
 ·intro j hj
  rcases j6.mp hj with hj|hj
  ·exact h.lt j hj
  ·rw[eG.mp hj];exact h1
 ·intro k hk j hj;rw[eR]at hk
  by_cases e:k=order.length
  ·subst e;rw[gF]at hj;rw[List.take_append_of_le_length (dy _),sC];exact(h.bits j).mp (l j hj)
  ·have c:k<order.length:=by simp at hk;omega
   rw[eP c]at hj;rw[List.take_append_of_le_length (by omega)]
   exact h.ok k c j hj
theorem cI:∀ {n:Nat} {order:d_},order.Nodup->(∀i∈order,i<n)->order.length<=n
 |0,[],_,_=>dy _
 |0,a::r,_,h=>absurd (h a<|fA ..)<|sU a
 |n+1,order,b,h=>by
  have h1:(order.erase n).Nodup:=b.erase n;have d:=cI (n:=n) h1 λi hi=>by
   have:=(b.mem_erase_iff).mp hi
   have:=h i this.2
   omega
  have c:=length_erase (a:=n) (l:=order)
  split at c<;>omega
theorem eC:∀ {xs ys:d_},xs.Nodup->(∀i∈xs,i∈ys)->xs.length<=ys.length
 | [],_,_,_=>zero_le _
 |a::r,ys,c,h=>by
  have b:=m3.mp c;have h1:=eC (xs:=r) (ys:=ys.erase a) b.2 λi hi=>by
   have:i≠a:=λz=>b.1<|z ▸ hi
   exact(List.mem_erase_of_ne this).mpr (h i<|fz _ hi)
  have d:=length_erase (a:=a) (l:=ys);rw[if_pos (h a<|fA ..)]at d
  have:0<ys.length:=length_pos_of_mem<|h a<|fA ..
  rw[mo];omega
theorem pj{ws:d_}:∀(f:Nat) (order:d_) (laid:Nat),Laid ws order laid->ws.length<f+order.length->∃l,Laid ws (gE ws f order laid) l/\bR ws l=none
 |0,order,l,h,a=>by
  have:=cI h.nd h.lt
  omega
 |f+1,order,laid,h,a=>by
  unfold gE
  cases e:bR ws laid with
  |none=>exact⟨_,h,e⟩
  |some i=>exact pj f _ _ (h.put e) (by rw[eR];simp;omega)
variable{f:Nat}
def w6{laid:Nat}(e:bR ws laid=some i):gE ws (f+1) order laid=gE ws f (order++[i]) (laid|||2 ^ i):=by
 rw[gE,e]
def w8{laid:Nat}(e:bR ws laid=none):gE ws f order laid=order:=by
 cases f with
 |zero=>rfl
 |succ f=>rw[gE,e]
def dR(ws:d_):∃l,Laid ws (laidOut ws) l/\bR ws l=none:=pj _ _ _ (Laid.nil ws) (by simp)
def DR(hw:jb ws)(hi:i<ws.length)(hn:i∉laidOut ws):∃j,j<ws.length/\cF ws i j=true/\j∉laidOut ws:=by
 obtain⟨l,h,e⟩:=dR ws;have h1:ready ws l i=false:=by
  have:=List.find?_eq_none.mp e i<|fO.mpr hi
  simpa using this
 have b:l.testBit i=false:=by
  cases q:l.testBit i with
  |false=>rfl
  |true=>exact absurd ((h.bits i).mp q) hn
 have d:¬ ∀j,cF ws i j=true->l.testBit j=true:=λz=>by
  have:=mn.mpr ⟨b,z⟩
  rw[this]at h1;cases h1
 have a:∃j,cF ws i j=true/\¬l.testBit j=true:=by
  apply nc
  intro q
  apply d
  intro j hj
  apply nc
  intro r;exact q ⟨j,hj,r⟩
 obtain⟨j,hj,c⟩:=a;exact⟨j,hw.inside hi hj,hj,λz=>c<|(h.bits j).mpr z⟩
def w9:(laidOut ws).length<ws.length↔∃i,i<ws.length/\i∉laidOut ws:=by
 obtain⟨l,h,e⟩:=dR ws
 constructor
 ·intro a
  apply nc
  intro q
  have:∀i,i<ws.length->i∈laidOut ws:=λi hi=>nc λz=>q ⟨i,hi,z⟩
  have h1:=eC (Wj (n:=ws.length)) λi hi=>this i<|fO.mp hi;rw[h7]at h1
  omega
 ·rintro⟨i,hi,hn⟩;have h1:(i::laidOut ws).Nodup:=m3.mpr ⟨hn,h.nd⟩;have b:=cI h1 λj hj=>by
   rcases gg.mp hj with rfl|hj
   ·exact hi
   ·exact h.lt j hj
  rw[mo]at b
  omega
structure Ring(ws r:d_):Prop where
 two:2<=r.length
 nd:r.Nodup
 lt:∀i∈r,i<ws.length
 next:∀k,k+1<r.length->cF ws (r.getD k 0) (r.getD (k+1) 0)=true
 last:cF ws (r.getD (r.length-1) 0) (r.getD 0 0)=true
structure Path(ws left path:d_)(i:Nat):Prop where
 nd:path.Nodup
 sub:∀j∈path,j∈left
 here:i∈left
 next:∀k,k+1<path.length->cF ws (path.getD k 0) (path.getD (k+1) 0)=true
 last:path≠[]->cF ws (path.getD (path.length-1) 0) i=true
variable{left:d_}
def Path.nil(h:i∈left):Path ws left [] i:=⟨nodup_nil,by simp,h,by simp,by simp⟩
variable{path:d_}
def Path.put(h:Path ws left path i)(hn:i∉path)(hj:j∈left)(hs:cF ws i j=true):Path ws left (path++[i]) j:=by
 refine⟨?_,?_,hj,?_,?_⟩
 ·rw[We];refine⟨h.nd,by simp,?_⟩
  intro a c b hb e;rw[eG]at hb;subst hb;subst e;exact hn c
 ·intro k hk
  rcases j6.mp hk with hk|hk
  ·exact h.sub k hk
  ·rw[eG.mp hk];exact h.here
 ·intro k hk;rw[eR]at hk
  simp at hk
  by_cases e:k+1=path.length
  ·rw[e,gF,eP (by omega)]
   have:=h.last (λz=>by subst z;simp at e)
   rw[<-e]at this
   simpa using this
  ·rw[eP (by omega),eP (by omega)]
   exact h.next k (by omega)
 ·intro _;rw[eR];show cF ws ((path++[i]).getD (path.length+1-1) 0) j=true;rw[Nat.add_sub_cancel,gF];exact hs
variable{l:d_}
def ig{n k:Nat}:(l.drop n).getD k d=l.getD (n+k) d:=by
 rw[b3,getElem?_drop,<-b3]
def Path.ring(hw:jb ws)(hl:∀j∈left,j<ws.length)(h:Path ws left path i)(hi:i∈path):Ring ws (path.drop<|path.idxOf i):=by
 have d:=r3 hi;have c:path.getD (path.idxOf i) 0=i:=by
  rw[b3,b4 d];exact Re d
 have a:=h.last<|List.ne_nil_of_mem hi;generalize path.idxOf i=n at d c;have b:(path.drop n).length=path.length-n:=nt;refine⟨?_,h.nd.sublist<|drop_sublist _ _,λj hj=>hl j<|h.sub j<|mem_of_mem_drop hj,λk hk=>?_,?_⟩
 ·rw[b]
  apply nc
  intro q;have e:path.length-1=n:=by omega
  rw[e,c]at a;rw[hw.self i (hl i h.here)]at a
  cases a
 ·rw[ig,ig];rw[b]at hk;exact h.next (n+k) (by omega)
 ·rw[ig,ig,b,Nat.add_zero,c,show n+(path.length-n-1)=path.length-1 by omega]
  exact a
def LH(m n:Nat):Builtin.bitAnd (m:Int) (n:Int)=((m&&& n:Nat):Int):=by
 have h1:decide (0<=(m:Int))=true:=cc (by omega)
 have a:decide (0<=(n:Int))=true:=cc (by omega)
 unfold Builtin.bitAnd;rw[h1,a];simp only[toNat_natCast]
def LI(m n:Nat):Builtin.bitAnd (Builtin.bitNot (m:Int)) (Builtin.bitNot (n:Int))=Builtin.bitNot ((m|||n:Nat):Int):=by
 have h1:decide (0<=Builtin.bitNot (m:Int))=false:=dt (by unfold Builtin.bitNot;omega)
 have a:decide (0<=Builtin.bitNot (n:Int))=false:=dt (by unfold Builtin.bitNot;omega)
 have e:∀k:Nat,(Builtin.bitNot<|Builtin.bitNot (k:Int)).toNat=k:=λk=>by unfold Builtin.bitNot;omega
 unfold Builtin.bitAnd;rw[h1,a];simp only[e]
def Vg(m n:Nat):Builtin.bitOr (m:Int) (n:Int)=((m|||n:Nat):Int):=by
 unfold Builtin.bitOr;rw[LI];unfold Builtin.bitNot
 omega
def uM(m n:Nat):Builtin.bitAnd (m:Int) (Builtin.bitNot (n:Int))=((m-(m&&& n):Nat):Int):=by
 have h1:decide (0<=(m:Int))=true:=cc (by omega)
 have a:decide (0<=Builtin.bitNot (n:Int))=false:=dt (by unfold Builtin.bitNot;omega)
 have e:(Builtin.bitNot<|Builtin.bitNot (n:Int)).toNat=n:=by unfold Builtin.bitNot;omega
 unfold Builtin.bitAnd;rw[h1,a];simp only[e,toNat_natCast]
 have:=Nat.and_le_left (n:=m) (m:=n)
 omega
def LJ(K:Frag):V->u_->Hp->VK->Prop:=λx a H Q=>∃(l:Addr) (ns:e_) (k:Int),x=.ref l/\a=[.int k]/\aw K H l (ns.map V.int)/\k∈ns/\Q (.int (ns.idxOf k:Nat)) H
variable{X:Cx}
def DT{K:Frag}(hK:X.K=K):yR X "list.index" (LJ K):=by
 subst hK;intro A s σ H x O v N Q I G B h;obtain⟨l,e,k,rfl,rfl,M,hk,q⟩:=h
 cases G
 obtain⟨u,rfl,J⟩:=B.one;obtain⟨t,rfl⟩:=J;obtain⟨g,r,L,hz⟩:=I.list M;have hi:=intsAre_of r;obtain⟨⟨E,C,w,D⟩,i,p,n,o⟩:=id L.isList
 simp only at p o
 subst p o;have d:=hi.length;have c:e.idxOf k<e.length:=BB.mpr hk;rw[b5]at hz;have m:sizeLine<2 ^ 62:=by decide
 refine GM slot_list_index ⟨_,i,rfl⟩ PySem.F.entry_list_index (PySem.F.args_list_index_2 _ _) (list_indexAt l g.toArray n C D (.int k t) (isInt k) (e.idxOf k) (by rw[hO,d];exact c) (by omega) ?a ?b) ⟨i,λy hy=>(eq_isInt k t hi y (by simpa using hy)).at _ _,?_⟩
 case a=>
  have z:=isInt_at k hi (e.idxOf k) (by rw[d];exact c) c
  rw[Re c,Wl]at z;exact z
 case b=>
  intro j hj f;have z:=isInt_at k hi j (by simpa using hj) (by omega)
  rw[ne_of_lt_idxOf f]at z;exact z
 exact⟨.int _,H,I.tok _,⟨_,rfl⟩,q⟩
def zO:u_->Hp->VK->Prop:=λa H Q=>∃(p:Addr) (n:Nat),a=[.ref p]/\H p=some (.Ny 0 n)/\n<=1000000/\∀l,H l=none->Q (.ref l) (upd H l<|.lst<|((List.range n).map λi=>((i:Nat):Int)).map V.int)
def LK:u_->Hp->VK->Prop:=λa H Q=>∃n:Nat,a=[.int n]/\n<=1000000/\∀l,H l=none->Q (.ref l) (upd H l<|.Ny 0 n)
def fF:b6 X (.type "range") LK:=by
 intro a s σ H f d Q I r h;obtain⟨n,rfl,hn,q⟩:=h;obtain⟨u,rfl,c⟩:=vals1 r;obtain⟨t,rfl⟩:=c;refine call_range_1 ?_;exact⟨.ref _,_,I.laid (λb o e=>ef _ e) (dy _)<|show bG X.prog X.w _ _ _ (.Ny 0 n)from⟨_,_,_,gz _ rfl⟩,rfl,q _ I.fresh⟩
def zP{n:Nat}{B_:k_}(h:ItemsOf (λi v=>∃t,v=Value.int ((0:Int)+i*1) t) B_ n):Vals (((List.range n).map λi=>((i:Nat):Int)).map V.int) B_.toList:=by
 obtain⟨h1,c⟩:=h;have b:∀(l:f') (k:Nat),(∀i v,l[i]?=some v->∃t,v=Value.int (((k+i:Nat):Int)) t)->Vals ((List.range' k l.length).map λi=>V.int ((i:Nat):Int)) l:=by
  intro l
  induction l with
  |nil=>intro k _;exact .nil
  |cons a r d=>
   intro k h;rw[mo,List.range'_succ,m5];refine .cons ?_ (d (k+1) λi v e=>?_)
   ·obtain⟨t,e⟩:=h 0 a rfl;exact⟨t,by rw[e,Nat.add_zero]⟩
   ·obtain⟨t,e⟩:=h (i+1) v (by simpa using e)
    exact⟨t,by rw[e,show k+(i+1)=k+1+i by omega]⟩
 have z:=b B_.toList 0 λi v e=>by
  obtain⟨t,q⟩:=c i v (by rw[<-getElem?_toList];exact e)
  exact⟨t,by rw[q];congr 1;omega⟩
 rw[k6];rw[Array.length_toList,h1]at z;rw[List.range_eq_range'];exact z
def dg(hc:X.calm=true):b6 X (.type "list") zO:=by
 intro c s σ H v m Q I r h;obtain⟨p,n,rfl,d,hn,q⟩:=h;obtain⟨u,rfl,i⟩:=vals1 r
 cases i
 obtain⟨x,o,t,f⟩:=I.bq p _ d;refine PySem.call_list_range (n:=n) (I.ok.hd hc) f (small_one (by omega) (by omega) (by omega) (by omega)) (by rw[rangeSize_one];split<;>omega) (by omega) λg l a j kp e b=>?_
 refine⟨.ref _,_,I.laid kp (dy _) (show bG X.prog X.w _ g _ (.lst _)from⟨?_,a.toList,j,zP b,by simpa using e⟩),rfl,q _ I.fresh⟩
 rw[b5,b5,h7];exact gr hn a_
variable{A:Around}{E:c_}
def Hn{prog:Program}{w:World}{s:Shared}{p:Addr}{vs:f'}{Q:f'->Shared->Prop}(hp:IsTup s.heap p vs.toArray)(hz:vs.length<=sizeLine)
  (h:Q vs {s with heap:=(s.heap.push<|seqObj "list" #[] 0).update s.heap.objs.size (Obj.mapSeq (·++vs.toArray))}):wpAny (model prog w) A (collect<|.ref p) Q E s:=by
 obtain⟨o,d,e,n,f⟩:=id hp;unfold collect;refine cv<|wpAny_runValue<|codeAny_builtin entry_proto_collect' ?_;refine cv (m:=newList []) (wpAny_newList (ek ⟨Code.quiet_builtin _ Dk0,codeAny_builtin entry_list_iadd' ?_⟩))
 show wpAny (model prog w) _ (Builtin.List.listExtendWith (.ref s.heap.objs.size) (.ref p)<|.ref s.heap.objs.size) _ _ {s with heap:=s.heap.push (seqObj "list" #[] 0)};unfold Builtin.List.listExtendWith;have b:=ef (seqObj "list" #[] 0) d;refine cv<|wpAny_typeOf (T:="tuple") ⟨o,b,e⟩ ?_;rw[if_pos (by simp)]
 refine cv<|listItems_at b f<|cv<|listItems_at (xs:=#[]) (n:=0) (gz _ rfl) rfl ?_;rw[if_neg (by simp)]
 refine cv (listUpdate_at (xs:=#[]) (n:=0) (gz _ rfl) rfl (ek ?_) (zero_le _) (by simp;omega))
 refine cv<|wpAny_load (get?_update_seq (gz _ rfl) _) ?_;refine(show ∀a:f',a=vs->wpAny (model prog w) A (pure a) Q E _ from λa c=>by subst c;exact ek h) _ (by simp)
variable{Q:c_}
def zQ{prog:Program}{w:World}{s:Shared}{p:Addr}{vs:f'}{ns:e_}(hp:IsTup s.heap p vs.toArray)(hI:IntsAre vs ns)(h6:vs.length<64)
  (h:∀(out:k_) (ms:e_),IntsAre out.toList ms->ms.Perm ns->ms.Pairwise (·<=·)->Q (.ref<|s.heap.objs.size+1) {s with heap:=sortedAll s.heap vs out}):
  wpAny (model prog w) A (call (.builtin "sorted") [.ref p]) Q E s:=by
 have a:((s.heap.push<|seqObj "list" #[] 0).update s.heap.objs.size (Obj.mapSeq (·++vs.toArray))).objs.size=s.heap.objs.size+1:=by rw[Heap.size_update,size_push']
 refine Calls.call_function_entry (kind_sorted) plain_sorted entry_sorted (args_sorted1 _) ?_;unfold Builtin.«sorted»;refine cv (m:=checkCount "sorted" 1 1 _) (ek (cv (Hn hp (gr (Nat.le_of_lt h6) a_)<|cv<|wpAny_newList ?_)))
 have b:=gz ((s.heap.push<|seqObj "list" #[] 0).update s.heap.objs.size (Obj.mapSeq (·++vs.toArray))) (o:=seqObj "list" vs.toArray 0) rfl;rw[a]at b
 dsimp only
 rw[a];exact cv<|GT<|D2 slot_list_sort ⟨_,b,rfl⟩ entry_list_sort (list_sort_tree b hI h6 λout ms e d c=>⟨_,rfl,ek ⟨_,rfl,h out ms e d c⟩⟩)<|args_list_sort _
def LM(K:Frag):u_->Hp->VK->Prop:=λa H Q=>∃(p:Addr) (ns:e_),a=[.ref p]/\(aw K H p (ns.map V.int)∨aL K H p (ns.map V.int))/\ns.length<64/\∀(l:Addr) (ms:e_),H l=none->ms.Perm ns->ms.Pairwise (·<=·)->Q (.ref l) (upd H l<|.lst<|ms.map V.int)
def uN{K:Frag}(hK:X.K=K):b6 X (.builtin "sorted") (LM K):=by
 subst hK;intro i s σ H B A Q I r h;obtain⟨p,m,rfl,hq,n,q⟩:=h;obtain⟨u,rfl,y⟩:=vals1 r
 cases y
 have f:∀(a:f'),IntsAre a m->∀(c:k_) (d:e_),IntsAre c.toList d->d.Perm m->d.Pairwise (·<=·)->EP X i σ Q (.ref<|s.heap.objs.size+1) {s with heap:=sortedAll s.heap a c}:=by
  intro a hi c d x t v;obtain⟨e,he⟩:=sortedAll_at s.heap a c;have g:=t.length_eq;refine⟨.ref _,_,I.laid (t':=s.toks) (λb o z=>sortedAll_old z) (le_succ _)<|show bG X.prog X.w _ _ _ (.lst<|d.map V.int)from⟨?_,c.toList,e,md x,he⟩,rfl,q _ d (I.bq.fresh<|le_succ _) t v⟩
  rw[b5,g];exact c8 (by omega)
 rcases hq with hq|hq
 ·obtain⟨a,j,l,hz⟩:=I.list hq;have hi:=intsAre_of j;exact sorted_ints l.isList hi (by rw[hi.length];exact n)<|f a hi
 ·obtain⟨a,j,l,hz⟩:=I.tuple hq;have hi:=intsAre_of j;exact zQ l hi (by rw[hi.length];exact n)<|f a hi
noncomputable abbrev gG(led:Bool):Obj:={cls:=.type "set",dict:=none,data:=.set #[] 0 (.fresh 0 0 led)}
noncomputable def jU(ns:e_)(n:Nat):e_:=firstMet (λi=>ns.getD i 0) n
abbrev LN(s:Shared)(P:Heap->Prop)(E:Value->Shared->Prop):Result->Shared->Prop:=wants (λr a=>r=.none/\∃h1 k,a={s with heap:=h1,toks:=k}/\P h1) E
variable{prog:Program}{w:World}{s:Shared}
def j7{p:Addr}{P:Heap->Prop}(h:∀(h1:Heap) (k:Nat),P h1->Q (.ref s.heap.objs.size) {s with heap:=h1,toks:=k})
  (hin:∀led,wpAny (model prog w) A.in1.in1 (Builtin.«set.__init__» {pos:=[.ref s.heap.objs.size,.ref p]}) (λfin s'=>match fin with
   |.done f=>LN s P E (.ok f) s'
   |.again c=>c.quiet=true/\codeAny (model prog w) A.in1 c (LN s P E) s') (λe s'=>LN s P E (.error e) s') {s with heap:=s.heap.push (gG led)}):
  wpAny (model prog w) A (call (.type "set") [.ref p]) Q E s:=by
 obtain⟨q,z,t⟩:=Wt.mro;have y:=Wt.made;have x:=Wt.sub;have v:=Wt.notType;have D:=Wt.canCreate;have u:=F.typeCall_set_1<|.ref p;refine wpAny_call (codeAny_of_tree (show wpAny _ _ (callAny (.type "set") _) _ _ _ from ek ⟨Code.quiet_builtin _ Dk0,codeAny_builtin F.entry_type_call ?_⟩))
 rw[Around.under_plain (weight_type_call_type "set" [.ref p] []) rfl]
 repeat (any_goals (first|assumption|wp_step))
 refine codeAny_mono (code_set_new_1 (.ref p) (E:=E) (Q₁:=λo g=>∃led:Bool,o=.ref s.heap.objs.size/\g={s with heap:=s.heap.push (gG led)}) λled=>⟨led,rfl,rfl⟩) λr g d=>?_
 cases r with
 |error e=>exact d
 |ok i=>
  cases i with
  |ret obj=>
   obtain⟨led,rfl,rfl⟩:=d;have l:(s.heap.push<|gG led).get? s.heap.objs.size=some (gG led):=gz _ rfl;have m:Shared.TypeIs {s with heap:=s.heap.push (gG led)} (.ref s.heap.objs.size) "set":=⟨_,l,rfl⟩;have G:=Wt.init.lookup;have B:=Wt.init.bind (.ref s.heap.objs.size)
   repeat (any_goals (first|assumption|wp_step))
   refine codeAny_mono (codeAny_call_builtin (R:=LN s P E) Wt.init.plain F.entry_set_init<|check_set_init_1 m ?_) λj C a=>?_
   ·exact hin led
   ·cases j with
    |error e=>exact a
    |ok n=>
     cases n with
     |ret r=>
      obtain⟨rfl,h1,k,rfl,b⟩:=a
      repeat (any_goals (first|assumption|wp_step))
      exact h _ _ b
     |_=>exact a.elim
  |_=>exact d.elim
variable{vs:k_}
def uO{p:Addr}{ns:e_}(hA:A.handled=none)(hp:s.heap.IsTuple p vs)(hi:IntsAre vs.toList ns)(hb:vs.size+1<scanBound)
  (h:∀(h1:Heap) (k:Nat),h1.SetOf (intKind prog w) s.heap.objs.size (λj=>(jU ns vs.size).any (· == j)) (jU ns vs.size).length->(∀b o,b<s.heap.objs.size->s.heap.get? b=some o->h1.get? b=some o)->Q (.ref s.heap.objs.size) {s with heap:=h1,toks:=k}):
  wpAny (model prog w) A (call (.type "set") [.ref p]) Q E s:=by
 refine j7 (P:=λh1=>h1.SetOf (intKind prog w) s.heap.objs.size (λj=>(jU ns vs.size).any (· == j)) (jU ns vs.size).length/\∀b o,b<s.heap.objs.size->s.heap.get? b=some o->h1.get? b=some o) (λh1 k z=>h h1 k z.1 z.2) λa=>?_;have u:(s.heap.push<|gG a).get? s.heap.objs.size=some (gG a):=gz _ rfl;have W:Shared.TypeIs {s with heap:=s.heap.push (gG a)} (.ref s.heap.objs.size) "set":=⟨_,u,rfl⟩;obtain⟨O,m,B,G,n⟩:=hp;obtain⟨u1,S,R,T⟩:=O
 simp only at B n
 subst B;subst n;have J:=ef (gG a) m;have z1:=F.sub_tuple_set;have U:=F.sub_tuple_frozenset;have X:(Value.type "tuple" == Value.type "dict")=false:=by decide
 have r:(s.heap.push<|gG a).IsTuple p vs:=⟨_,J,rfl,G,rfl⟩;unfold Builtin.«set.__init__» noKeywords Builtin.Frozenset.updateFrom;generalize c:pyIter=PI
 wp_walk
 subst c;refine SZ r<|cv<|wpAny_runValue ?_;have q:p<s.heap.objs.size:=lt_size m;have H:A.in1.in1.in1.handled=none:=by simp[hA]
 have g:(s.heap.push<|gG a).objs.size=s.heap.objs.size+1:=C4 ..;have K:p≠(s.heap.push<|gG a).objs.size:=by rw[g];exact j9<|Wf q
 have N:s.heap.objs.size∉[(s.heap.push<|gG a).objs.size,p]:=by
  rw[g];simp only[mem_cons,not_mem_nil,or_false,not_or];exact⟨j9<|Wd _,Wx q⟩
 have M:∀(i:Nat) (v:Value),vs[i]?=some v->∃t,v=.int ((λi=>ns.getD i 0) i) t:=λi v I=>IntsAre.int_at hi i v (by rw[getElem?_toList];exact I)
 refine codeAny_set_update_loopS ((Walks.tuple H _ p K vs).toS) s.heap.objs.size N (λi=>ns.getD i 0) M hb (vs.size-0) 0 _ (by omega) (zero_le _) ⟨⟨_,gz _ rfl,rfl,rfl⟩,(r.push _)⟩ ?x ?y
 case x=>
  exact SetOf_congr ((setObjOf_fresh (knd:=intKind prog w) a).setOf (ef _ u) (by unfold scanBound;omega)) (λ_=>rfl) rfl
 case y=>
  intro L hm f;obtain⟨h1,C,D,l,d⟩:=L;obtain rfl:C=s.gens:=hm.gens;obtain rfl:D=s.drawn:=hm.drawn;obtain rfl:d=s.os:=hm.os;show wpAny _ _ _ _ _ _;refine ek<|show wpAny _ _ (ret Value.none) _ _ _ from ek ⟨rfl,h1,l,rfl,f,λb o hb e=>?_⟩
  refine hm.heap b o ?_ (ef _<|ef _ e);rw[g];simp only[mem_cons,not_mem_nil,or_false,not_or];exact⟨j9 hb,j9<|Wf hb⟩
noncomputable def unlike(ns:e_):Nat:=(jU ns ns.length).length
def Qf(K:Frag):u_->Hp->VK->Prop:=λa H Q=>∃(p:Addr) (ns:e_),a=[.ref p]/\(aw K H p (ns.map V.int)∨aL K H p (ns.map V.int))/\ns.length<1000/\∀l,H l=none->Q (.ref l) (upd H l (.set (λj=>(jU ns ns.length).any (· == j))<|unlike ns))
def sS{K:Frag}(hc:X.calm=true)(hK:X.K=K):b6 X (.type "set") (Qf K):=by
 subst hK;intro f s σ H x v Q I r h;obtain⟨p,ns,rfl,hq,t,q⟩:=h;obtain⟨u,rfl,n⟩:=vals1 r
 cases n
 have m:(1001:Nat)<scanBound:=by decide
 have d:∀(h1:Heap) (k:Nat),h1.SetOf (intKind X.prog X.w) s.heap.objs.size (λj=>(jU ns ns.length).any (· == j)) (jU ns ns.length).length->(∀b o,b<s.heap.objs.size->s.heap.get? b=some o->h1.get? b=some o)->EP X f σ Q (.ref s.heap.objs.size) {s with heap:=h1,toks:=k}:=λh1 k c kp=>
  ⟨.ref _,_,I.laid (λb o e=>kp b o (lt_size e) e) (dy _)<|show bG X.prog X.w _ h1 _ (.set _ _)from c,rfl,q _ I.fresh⟩
 rcases hq with hq|hq
 ·obtain⟨a,g,i,hz⟩:=I.list hq;have hi:=intsAre_of g;have l:=hi.length;refine call_set_list (items:=a.toArray) (ns:=ns) (I.ok.hd hc) i.isList (by simpa using hi) (by rw[hO];omega) λh1 k c kp=>?_
  rw[show a.toArray.size=ns.length by rw[hO];exact l]at c
  exact d h1 k c kp
 ·obtain⟨a,g,i,hz⟩:=I.tuple hq;have hi:=intsAre_of g;have l:=hi.length;refine uO (vs:=a.toArray) (ns:=ns) (I.ok.hd hc) (show s.heap.IsTuple p a.toArray from i) (by simpa using hi) (by rw[hO];omega) λh1 k c kp=>?_
  rw[show a.toArray.size=ns.length by rw[hO];exact l]at c
  exact d h1 k c kp
def Inv.LO{w_:aO0}{σ:St}{H:Hp}{h':Heap}{t':Nat}{ch:l_}(I:Inv X w_ σ H s)(k:∀b o,b∉ch->s.heap.get? b=some o->h'.get? b=some o)(hf:∀b∈ch,k7 X w_ H b):Inv X w_ σ H {s with heap:=h',toks:=t'}:=by
 have a:∀b u,H b=some u->b∉ch:=λb u e z=>by rw[(hf b z).1]at e;cases e
 refine I.step (g':=s.gens) (d':=s.drawn) (ch:=ch) (λb hb=>⟨(hf b hb).2.2.2.1,(hf b hb).2.1,(hf b hb).2.2.2.2.1,(hf b hb).2.2.2.2.2⟩) (λb o _ _ hc e _=>k b o hc e) (λb o _ _ hc e _=>⟨o.slots,k b o hc e⟩) (λ_ _ _ _ n=>n)
  (λb o hc e=>⟨o,k b o hc e⟩) (λ_ _ e=>e) (λ_ _ _ e=>e) (λb h e=>⟨#[],by rw[e];simp⟩) (λm hm=>?_) (λb u e=>?_) I.bare
 ·obtain⟨o,f,d,g,r⟩:=hm;exact⟨o,f,d,k _ o (λz=>(hf _ z).2.1 rfl) g,r⟩
 ·refine(I.bq b u e).yV (λc v hc q=>k c v ?_ q) (λ_ q=>q) λ_ _ q=>q
  rcases hc with z|z
  ·rw[z];exact a b u e
  ·exact a c _ z
def xa{it p:Addr}{x:Value}(h1:s.heap.IsTupleIter it p i)(h2:s.heap.IsTuple p vs)(hx:vs[i]?=some x)
  (q:∀h',h'.IsTupleIter it p (i+1)->SameBut it s.heap h'->Q x {s with heap:=h'}):wpAny (model prog w) A (Builtin.SmallTypes.nextOf<|.ref it) Q E s:=by
 obtain⟨o,b,d,a⟩:=id h1;obtain⟨g,e,_,f,c⟩:=h2;unfold Builtin.SmallTypes.nextOf;refine cv<|L9 (name:=("__next__":Str)) h1.typeIs F.slot_tuple_iterator_next<|D2 F.slot_tuple_iterator_next h1.typeIs F.entry_tuple_iterator_next ?_ (F.args_tuple_iterator_next_1 _);refine cv (m:=field (.ref it) 0)<|Wp b a (x:=.ref p) rfl ?_;rw[if_neg (id gp:¬((Value.ref p==Value.none)=true))];refine cv (m:=field (.ref it) 1)<|Wp b a (x:=.int i 0) rfl<|cv (m:=seqItems?<|.ref p)<|F2 e c ?_;simp only[toNat_natCast,hx];refine cv (wpAny_setField b a (by simp)<|ek ⟨x,rfl,ek<|q _ ⟨_,Heap.get?_update_self _ b<|Obj.isFreed_of_fields<|Obj.data_mapFields a _,(Obj.cls_mapFields ..).trans d,?_⟩<|Heap.SameBut.update ..⟩)
 rw[Obj.data_mapFields a]
 simp[rawInt]
def lC{it p:Addr}(hA:A.handled=none)(h1:s.heap.IsTupleIter it p i)(h2:s.heap.IsTuple p vs)(hx:vs[i]?=none)
  (q:∀h' e,ExtBut it s.heap h'->(∃o,h'.get? e=some o/\o.cls=.type "StopIteration")->E (.ref e) {s with heap:=h'}):wpAny (model prog w) A (Builtin.SmallTypes.nextOf<|.ref it) Q E s:=by
 obtain⟨o,d,g,c⟩:=id h1;obtain⟨j,f,_,h,b⟩:=h2;unfold Builtin.SmallTypes.nextOf;refine cv<|L9 (name:=("__next__":Str)) h1.typeIs F.slot_tuple_iterator_next<|D2 F.slot_tuple_iterator_next h1.typeIs F.entry_tuple_iterator_next ?_ (F.args_tuple_iterator_next_1 _);refine cv (m:=field (.ref it) 0)<|Wp d c (x:=.ref p) rfl ?_;rw[if_neg (id gp:¬((Value.ref p==Value.none)=true))];refine cv (m:=field (.ref it) 1)<|Wp d c (x:=.int i 0) rfl<|cv (m:=seqItems?<|.ref p)<|F2 f b ?_;simp only[toNat_natCast,hx];refine cv (wpAny_rule (cv (wpAny_setField d c (by simp)<|cv (m:=newExc (.type "StopIteration") []) ?_)))
 simp only[newExc,newTuple];refine cv (wpAny_newObj_type (cv (m:=firstArgMember _ _) (wpAny_of_eq (a:=Value.none) (by first|rfl|(simp only[firstArgMember];rfl)) (wpAny_newObj_type ?_ (by size_fits)))) (by size_fits))
 simp only[raiseNew];refine cv (wpAny_handled ?_)
 first|rw[show A.in1.handled=none from hA]|rw[hA]
 exact cv<|ek<|wpAny_throw<|q _ _ (((Heap.SameBut.update ..).extBut.push _).push _) ⟨_,gz _ rfl,rfl⟩
theorem Qg(hA:A.handled=none)(it p:Addr)(hne:p≠it)(vs:k_):Draws prog w A it [it,p] vs.size (λi v=>vs[i]?=some v) (λi h=>h.IsTupleIter it p i/\h.IsTuple p vs) where
 live:=λ_ _ c=>⟨_,c.1.choose_spec.1⟩
 frame:=λ_ _ _ c hk=>⟨c.1.at λo e=>hk it (by simp) o e,c.2.at λo e=>hk p (by simp) o e⟩
 item:=λi s Q E hi c d=>xa c.1 c.2 (x:=vs[i]) (by simp[hi]) λg a b=>d _ g s.toks (by simp[hi]) ⟨a,c.2.extBut b.extBut hne⟩ b
 done:=λs Q E c f=>lC hA c.1 c.2 (by simp) f
def DU(p:Addr)(vs:k_)(n:Nat)(RL:h_)(sl:Array (g_)):
  Meets (Builtin.«enumerate.__new__» ⟨[.type "enumerate",.ref p],[]⟩) (λ_ R s=>s.heap.get? p=some {cls:=.type "tuple",dict:=RL,data:=.seq vs n,slots:=sl}/\
   R (.ok<|.ret<|.ref (s.heap.push {cls:=.type "tuple_iterator",data:=.fields #[.ref p,.int 0 0]}).objs.size)
    {s with heap:=(s.heap.push {cls:=.type "tuple_iterator",data:=.fields #[.ref p,.int 0 0]}).push {cls:=.type "enumerate",data:=.fields #[.none,.bool false,.ref s.heap.objs.size,rawInt 0,.none,.none]}}):=
 .of_wp λb w A R s h=>by
  obtain⟨f,g,d,j,i⟩:=s;obtain⟨a,h⟩:=h;have z:=sub_enumerate;have e:Heap.IsTuple (Shared.heap ⟨f,g,d,j,i⟩) p vs:=⟨_,a,rfl,n,rfl⟩
  wp_walk using PySem.AutoSeq1.wpAny_loadPart' a
  refine wpAny_stack_any λl=>ek ?_
  split
  ·rename_i c _ _ _ _ _
   cases(c==Value.type "enumerate")<;>(wp_walk using PySem.AutoSeq1.wpAny_loadPart' a,SZ e;exact⟨_,rfl,h⟩)
  ·wp_walk using PySem.AutoSeq1.wpAny_loadPart' a,SZ e
   exact⟨_,rfl,h⟩
def zS{p:Addr}(hT:s.heap.IsTuple p vs)
  (q:∀h',IsEnum h' (s.heap.objs.size+1) s.heap.objs.size 0 .none->h'.IsTupleIter s.heap.objs.size p 0->(∀b o,s.heap.get? b=some o->h'.get? b=some o)->Q (.ref<|s.heap.objs.size+1) {s with heap:=h'}):
  wpAny (model prog w) A (call (.type "enumerate") [.ref p]) Q E s:=by
 obtain⟨⟨c,e,f,d⟩,i,g,n,h⟩:=hT;obtain rfl:c=.type "tuple":=g;obtain rfl:f=.seq vs n:=h;have hz:(s.heap.push {cls:=.type "tuple_iterator",data:=.fields #[.ref p,.int 0 0]}).objs.size=s.heap.objs.size+1:=C4 ..;have a:=gz (s.heap.push {cls:=.type "tuple_iterator",data:=.fields #[.ref p,.int 0 0]}) (o:={cls:=.type "enumerate",data:=.fields #[.none,.bool false,.ref s.heap.objs.size,rawInt 0,.none,.none]}) rfl;refine callType_new F.called_enumerate a_ (F.typeCall_enumerate_1 _) (F.newCall_enumerate_1 _) (λobj=>F.args_object_init_2 obj _) F.entry_enumerate_new (DU p vs n e d) ⟨i,?_⟩
 rw[hz]at a;show _/\_;rw[hz];exact⟨⟨_,a,rfl⟩,q _ a ⟨_,ef _<|gz _ rfl,rfl,rfl⟩ λb o x=>ef _<|ef _ x⟩
def Inv.sT{w_:aO0}{σ:St}{H:Hp}{h':Heap}{t':Nat}{ch:l_}{a:Addr}(I:Inv X w_ σ H s)(k:∀b u,b∉ch->s.heap.get? b=some u->h'.get? b=some u)(hf:∀b∈ch,k7 X w_ H b)
  (ha:s.heap.objs.size<=a) (new:bG X.prog X.w (upd H a o) h' a o):Inv X w_ σ (upd H a o) {s with heap:=h',toks:=t'}:=by
 have f:∀b u,H b=some u->b∉ch:=λb u e z=>by rw[(hf b z).1]at e;cases e
 have hn:H a=none:=I.bq.fresh ha;have d:∀b u,H b=some u->upd H a o b=some u:=λb u e=>by rw[aC (aO e hn)];exact e
 refine I.step (g':=s.gens) (d':=s.drawn) (ch:=ch) (λb hb=>⟨(hf b hb).2.2.2.1,(hf b hb).2.1,(hf b hb).2.2.2.2.1,(hf b hb).2.2.2.2.2⟩) (λb u _ _ hc e _=>k b u hc e) (λb u _ _ hc e _=>⟨u.slots,k b u hc e⟩) (λb u _ e n=>?_)
  (λb u hc e=>⟨u,k b u hc e⟩) (λb i e=>d b _ e) (λb v u e=>d b _ e) (λb l e=>⟨#[],by rw[d b _ e];simp⟩) (λm hm=>?_) (λb u e=>?_) I.bare
 ·rw[aC (j9<|g4 (lt_size e) ha)];exact n
 ·obtain⟨v,h,g,j,r⟩:=hm;exact⟨v,h,g,k _ v (λz=>(hf _ z).2.1 rfl) j,r⟩
 ·by_cases hb:b=a
  ·subst hb;rw[af]at e
   cases e
   exact new
  ·rw[aC hb]at e;refine(I.bq b u e).yV (λc v hc q=>k c v ?_ q) (λc q=>d c _ q) λc i q=>d c _ q
   rcases hc with z|z
   ·rw[z];exact f b u e
   ·exact f c _ z
def Ho:R2:=λx y H Q=>y=.bE/\Q (.bl<|decide<|x=.bE) H
def pq:R2:=λx y H Q=>y=.bE/\Q (.bl<|!decide (x=.bE)) H
def oo:eS X (compareOp .Is) Ho:=Pp
def xb:eS X (compareOp .IsNot) pq:=KU
variable{H:Hp}{Q:VK}
def Hq:Ho .bE .bE H Q=Q (.bl true) H:=by unfold Ho;simp
def Hr{a:Addr}:Ho (.ref a) .bE H Q=Q (.bl false) H:=by unfold Ho;simp
def Hs:pq .bE .bE H Q=Q (.bl false) H:=by unfold pq;simp
def Ht{i:Int}:pq (.int i) .bE H Q=Q (.bl true) H:=by unfold pq;simp
def Og{a b:Bool}:Po (.bl a) (.bl b) H Q=Q (.bl<|decide<|a=b) H:=by unfold Po;simp[zd]
def LP:u_->Hp->VK->Prop:=λa H Q=>∃p S n,a=[.ref p]/\H p=some (.set S n)/\Q (.int n) H
def nG:b6 X (.builtin "len") LP:=by
 intro b s σ H v l Q I r h;obtain⟨p,S,n,rfl,c,q⟩:=h;obtain⟨u,rfl,f⟩:=vals1 r
 cases f
 obtain⟨o,m,j,t,e,g,i,_,_,hb,d,hn⟩:=I.bq p _ c;have a:scanBound<2 ^ 62:=by decide
 refine PySem.call_len_set e g i d (by omega) ⟨.int n,H,I.tok _,⟨_,by rw[hn]⟩,q⟩
def SO{k:Nat}:(1:Int)*2 ^ ((k:Nat):Int).toNat=((2 ^ k:Nat):Int):=by rw[k4,WC,natCast_pow];rfl
def SQ{m k:Nat}:((m:Nat):Int) / 2 ^ ((k:Nat):Int).toNat=((m / 2 ^ k:Nat):Int):=by rw[k4,natCast_ediv,natCast_pow];rfl
def dY{k:Nat}(h:k<=1000):Pn 1 (k:Int):=⟨by omega,by omega,a_⟩
def SR{m k:Nat}:decide (((m / 2 ^ k:Nat):Int)%2=1)=m.testBit k:=by
 rw[oi]
 congr 1
 apply propext
 omega
def SS{m k:Nat}:decide (((m / 2 ^ k:Nat):Int)%2=0)=!m.testBit k:=by
 rw[oi]
 by_cases h:m / 2 ^ k%2=1
 ·rw[cc h,dt (by omega)];rfl
 ·rw[dt h,cc (by omega)];rfl
def Oh{a b:Nat}:decide (((a|||b:Nat):Int)=(b:Int))=decide (a|||b=b):=by
 congr 1
 apply propext
 omega
noncomputable def au(ws:d_):e_:=ws.map λm=>((m:Nat):Int)
def ah(ws:d_):(au ws).length=ws.length:=b5 _
def aA(ws:d_)(i:Nat):(au ws).getD i 0=((ws.getD i 0:Nat):Int):=by
 unfold au;rw[b3,ed,b3]
 cases ws[i]?<;>rfl
def cN(a b:d_):au (a++b)=au a++au b:=hU
def xc(a:d_)(n:Nat):(au a).take n=au (a.take n):=Wy.symm
def pv(a:d_)(n:Nat):(au a).drop n=au (a.drop n):=Wo.symm
variable{a:d_}
def ou{k:Nat}:(k:Int)∈au a↔k∈a:=by
 unfold au;rw[gh]
 constructor
 ·rintro⟨m,h,e⟩
  rwa [show k=m by omega]
 ·exact λh=>⟨k,h,rfl⟩
def LQ{b:d_}:au a=au b↔a=b:=by
 constructor
 ·intro h
  apply C2
  intro i
  have:=BA (λl=>l[i]?) h
  unfold au at this;simp only[List.getElem?_map]at this
  cases p:a[i]?<;>cases q:b[i]?<;>rw[p,q]at this<;>simp at this
  ·rename_i u v
   rw[show u=v by omega]
 ·rintro rfl;rfl
def Cg{k:Nat}:(au a).idxOf (k:Int)=a.idxOf k:=by
 unfold au
 induction a with
 |nil=>rfl
 |cons m r c=>
  rw[m5,idxOf_cons,idxOf_cons,c]
  by_cases e:m=k
  ·have b:((m:Int)==(k:Int))=true:=by rw[e];exact Wl _
   have e2:(m==k)=true:=by rw[e];exact Wl _
   rw[b,e2]
  ·have b:((m:Int)==(k:Int))=false:=tz.mpr (by omega)
   have e2:(m==k)=false:=tz.mpr e;rw[b,e2]
def Hu(k:Int)(ns:e_):NH (.int k) (ns.map V.int)=decide (k∈ns):=by
 induction ns with
 |nil=>simp[NH]
 |cons a r b=>
  unfold NH at b ⊢;rw[m5,any_cons,b]
  by_cases e:a=k
  ·subst e;simp[Fx]
  ·have:¬k=a:=λz=>e z.symm
   simp[Fx,e,this]
variable{neg:Bool}
def pw{K:Frag}{p:Addr}{k:Nat}(h:aw K H p ((au a).map V.int)∨aL K H p ((au a).map V.int))(q:Q (.bl<|if neg then !decide (k∈a)else decide (k∈a)) H):RC K neg (.int k) (.ref p) H Q:=by
 refine⟨p,_,rfl,h,rfl,?_,?_⟩
 ·rw[F8];exact ka.mpr λ_ _=>rfl
 ·rw[Hu,show decide ((k:Int)∈au a)=decide (k∈a) by congr 1;exact propext ou]
  exact q
def uP{c:TT}{tb:TS}{D:Ends}{σ:St}(P:o_)(m0:Nat)(h0:P m0 σ H)
  (hs:∀m σ H,P m σ H->c σ H λb H1=>if b=true then ∃N:p_,(∀σ' H',N σ' H'->∃m',m' < m/\P m' σ' H')/\tb {D with nx:=N,ct:=N,bk:=D.nx} σ H1 else D.nx σ H1):ue c tb D σ H:=⟨P,⟨m0,h0⟩,hs⟩
def uQ{P:o_}{m:Nat}{R:(p_)->Prop}(h:R λσ' H'=>∃m',m' < m/\P m' σ' H'):∃N:p_,(∀σ' H',N σ' H'->∃m',m' < m/\P m' σ' H')/\R N:=⟨_,λ_ _ h=>h,h⟩
variable{p:Nat->Bool}
def find_some{n k:Nat}(h:∀j,j<k->p j=false)(hk:p k=true)(hn:k<n):(List.range n).find? p=some k:=by
 rw[List.find?_eq_some_iff_getElem];refine⟨hk,k,by rw[h7];exact hn,by simp,λj hj=>?_⟩
 simp[h j hj]
def find_none{n:Nat}(h:∀j,j<n->p j=false):(List.range n).find? p=none:=by
 rw[List.find?_eq_none];intro j hj;rw[h j (fO.mp hj)];exact gp
theorem pz{ns:e_}:∀n,n<=ns.length->ns.Nodup->jU ns n=ns.take n
 |0,_,_=>by unfold jU;rw[firstMet_zero,take_zero]
 |n+1,hn,a=>by
  have b:=pz n (by omega) a
  unfold jU at b ⊢;rw[firstMet_succ,b,take_snoc 0 (by omega)]
  unfold step_dedup;rw[if_neg];intro z;obtain⟨y,hy,e⟩:=Wz.mp z;have e:y=ns.getD n 0:=by simpa using e
  subst e;have h1:=a.sublist<|take_sublist (n+1) _;rw[take_snoc 0 (by omega),We]at h1
  exact h1.2.2 _ hy _ (eG.mpr rfl) rfl
def sV{ns:e_}(h:ns.Nodup):unlike ns=ns.length:=by
 unfold unlike;rw[pz _ (dy _) h,sC]
theorem xf{ns:e_}:∀n,n<=ns.length->(jU ns n).Nodup/\∀x,x∈jU ns n↔x∈ns.take n
 |0,_=>by unfold jU;rw[firstMet_zero,take_zero];exact⟨nodup_nil,λ_=>Iff.rfl⟩
 |n+1,hn=>by
  obtain⟨f,d⟩:=xf (ns:=ns) n (by omega)
  unfold jU at f d ⊢;rw[firstMet_succ,take_snoc 0 (by omega)]
  unfold step_dedup
  by_cases c:((firstMet (λi=>ns.getD i 0) n).any λx=>x==ns.getD n 0)=true
  ·rw[if_pos c];obtain⟨y,hy,e⟩:=Wz.mp c;have e:y=ns.getD n 0:=by simpa using e
   refine⟨f,λx=>?_⟩;rw[j6,eG,d]
   constructor
   ·exact .inl
   ·rintro(z|z)
    ·exact z
    ·rw[z,<-e];exact(d y).mp hy
  ·rw[if_neg c];refine⟨?_,λx=>by rw[j6,j6,d]⟩
   rw[We];refine⟨f,by simp,λa g b hb e=>c ?_⟩
   rw[eG]at hb;subst hb;subst e;exact Wz.mpr ⟨_,g,by simp⟩
end L2
namespace L2
open PySem PySem.Spec PyProof.Rows
inductive uR(K:Frag)(vs:u_)(H:Hp)(Q:VK)(E:XK):Prop
 |mk (w:Addr) (ws:d_) (i j:Nat):(vs=[.ref w,.int i,.int j])->aL K H w ((au ws).map V.int)->i<ws.length->Q (.bl<|cF ws i j) H->uR K vs H Q E
inductive LR(K:Frag)(vs:u_)(H:Hp)(Q:VK)(E:XK):Prop
 |mk (w:Addr) (ws:d_) (laid:Nat):(vs=[.ref w,.int laid])->aL K H w ((au ws).map V.int)->ws.length<=8->(∀H',ag H H'->(bR ws laid=none->Q .bE H')/\∀i:Nat,bR ws laid=some i->Q (.int i) H')->LR K vs H Q E
def Oi(H0:Hp)(w:Addr)(ws:d_)(laid k:Nat)(σ:St)(H:Hp):Prop:=ag H0 H/\(∀j,j<k->ready ws laid j=false)/\∃y1 y2:v_,σ=[some (.ref w),some<|.int laid,y1,y2]
def Qh(K:Frag):Sp:=λa H Q _=>∃(w:Addr) (ws:d_),a=[.ref w]/\aL K H w ((au ws).map V.int)/\ws.length<=8/\∀(l:Addr) (H':Hp),ag H H'->H l=none->H' l=some (.lst<|(au<|laidOut ws).map V.int)->Q (.ref l) H'
noncomputable def Oj(ws:d_)(laid:Nat):V:=match bR ws laid with
 |none=>.bE
 |some i=>.int i
def SU(H0:Hp)(w l:Addr)(ws:d_)(f:Nat)(σ:St)(H:Hp):Prop:=∃(order:d_) (laid:Nat),σ=[some (.ref w),some<|.ref l,some<|.int laid,some<|Oj ws laid]/\ag H0 H/\H l=some (.lst<|(au order).map V.int)/\Laid ws order laid/\gE ws f order laid=laidOut ws/\ws.length<f+order.length
def SV(K:Frag):Sp:=λa H Q _=>∃(w:Addr) (ws:d_),a=[.ref w]/\aL K H w ((au ws).map V.int)/\ws.length<=8/\∀(H':Hp),ag H H'->((laidOut ws).length<ws.length->Q .bE H')/\(¬(laidOut ws).length<ws.length->∀p,H' p=some (.tup<|(au<|laidOut ws).map V.int)->Q (.ref p) H')
inductive Qi(K:Frag)(vs:u_)(H:Hp)(Q:VK)(E:XK):Prop
 |mk (w l:Addr) (ws left:d_) (i:Nat):(vs=[.ref w,.int i,.ref l])->aL K H w ((au ws).map V.int)->aw K H l ((au left).map V.int)->i<ws.length->left.length<=8->((∃j∈left,cF ws i j=true))->(∀(H':Hp) (j:Nat),ag H H'->j∈left->cF ws i j=true->Q (.int j) H')->Qi K vs H Q E
noncomputable def cV(ws:d_):d_:=(List.range ws.length).filter λi=>!decide (i∈laidOut ws)
def jd{ws:d_}{i:Nat}:i∈cV ws↔i<ws.length/\i∉laidOut ws:=by
 unfold cV;rw[j5,fO]
 simp
def xg{ws:d_}:cV ws=[]↔¬(laidOut ws).length<ws.length:=by
 rw[w9]
 constructor
 ·rintro h ⟨i,h1,b⟩
  have:i∈cV ws:=jd.mpr ⟨h1,b⟩
  rw[h]at this;cases this
 ·intro h
  cases e:cV ws with
  |nil=>rfl
  |cons a r=>
   have:a∈cV ws:=by rw[e];exact fA ..
   exact absurd ⟨a,jd.mp this⟩ h
def Hv(ws:d_):(cV ws).length<=ws.length:=by
 have:=x6 (λi=>!decide (i∈laidOut ws))<|List.range ws.length
 rw[h7]at this;exact this
def SW(K:Frag)(H0:Hp)(w o lf pa:Addr)(ws:d_)(m:Nat)(σ:St)(H:Hp):Prop:=∃(path:d_) (i:Nat),σ=[some (.ref w),some<|.ref o,some<|.ref lf,some<|.ref pa,some<|.int i]/\ag H0 H/\aw K H lf ((au<|cV ws).map V.int)/\H pa=some (.lst<|(au path).map V.int)/\Path ws (cV ws) path i/\m=ws.length-path.length
def pA:∀m n:Nat,m+n=(m|||n)+(m&&& n):=by
 intro m
 induction m using Nat.strongRecOn with
 |_ m f=>
  intro n
  by_cases e:m=0
  ·subst e;simp
  have d:=f (m / 2) (by omega)<|n / 2
  rw[<-Nat.and_div_two,<-Nat.or_div_two]at d;have a:=Nat.and_mod_two_pow (a:=m) (b:=n) (n:=1);have b:=Nat.or_mod_two_pow (a:=m) (b:=n) (n:=1);have c:m%2 ^ 1+n%2 ^ 1=(m%2 ^ 1|||n%2 ^ 1)+(m%2 ^ 1&&& n%2 ^ 1):=by
   have hm:m%2 ^ 1=0∨m%2 ^ 1=1:=by omega
   have hn:n%2 ^ 1=0∨n%2 ^ 1=1:=by omega
   rcases hm with hm|hm<;>rcases hn with hn|hn<;>rw[hm,hn]<;>decide
  rw[<-a,<-b]at c
  omega
variable{a:Nat}
def Ci{k:Nat}(h:a.testBit k=false):a+2 ^ k=a|||2 ^ k:=by
 have z:a&&& 2 ^ k=0:=by
  apply DK
  intro j;rw[testBit_and,FM,Wu]
  by_cases e:k=j
  ·subst e;rw[h];rfl
  ·rw[dt e,KE]
 have:=pA a<|2 ^ k
 omega
def je(m n j:Nat):(m-(m&&& n)).testBit j=(m.testBit j&&!n.testBit j):=by
 have h:m ^^^ (m&&& n)=m-(m&&& n):=by
  have g:∀a b:Nat,(a ^^^ b)+(a&&& b)=a|||b:=by
   intro a
   induction a using Nat.strongRecOn with
   |_ m o=>
    intro n
    by_cases f:m=0
    ·subst f;simp
    have e:=o (m / 2) (by omega)<|n / 2
    rw[<-Nat.and_div_two,<-Nat.or_div_two,<-Nat.xor_div_two]at e;have a:=Nat.and_mod_two_pow (a:=m) (b:=n) (n:=1);have b:=Nat.or_mod_two_pow (a:=m) (b:=n) (n:=1);have c:=Nat.xor_mod_two_pow (a:=m) (b:=n) (n:=1);have d:(m%2 ^ 1 ^^^ n%2 ^ 1)+(m%2 ^ 1&&& n%2 ^ 1)=(m%2 ^ 1|||n%2 ^ 1):=by
     have hm:m%2 ^ 1=0∨m%2 ^ 1=1:=by omega
     have hn:n%2 ^ 1=0∨n%2 ^ 1=1:=by omega
     rcases hm with hm|hm<;>rcases hn with hn|hn<;>rw[hm,hn]<;>decide
    rw[<-a,<-b,<-c]at d
    omega
  have e2:=g m<|m&&& n;have l:m&&& (m&&& n)=m&&& n:=by rw[<-Nat.and_assoc,Nat.and_self]
  have i:m|||(m&&& n)=m:=by
   apply DK
   intro j;rw[testBit_or,testBit_and]
   cases m.testBit j<;>rfl
  rw[l,i]at e2
  omega
 rw[<-h,Nat.testBit_xor,testBit_and]
 cases m.testBit j<;>cases n.testBit j<;>rfl
def sub_zero{m:Nat}(h:∀j,m.testBit j=true->a.testBit j=true):m-(m&&& a)=0:=by
 apply DK
 intro j;rw[je,Wu]
 cases e:m.testBit j with
 |false=>rfl
 |true=>rw[h j e];rfl
def zT{m n:Nat}(h:∀j,n<=j->m.testBit j=false):m<2 ^ n:=by
 apply Nat.lt_pow_two_of_testBit
 exact λj hj=>h j hj
def ij{m n j:Nat}(h:m<2 ^ n)(hj:n<=j):m.testBit j=false:=Nat.testBit_lt_two_pow (g4 h (oD a_ hj))
def LS{order:d_}{n:Nat}(hd:order.Nodup)(hl:order.length=n)(hm:∀i∈order,i<n):order.Perm (List.range n):=by
 have d:∀(c b:d_),c.Nodup->b.Nodup->(∀i∈c,i∈b)->c.length=b.length->c.Perm b:=by
  intro c
  induction c with
  |nil=>intro b _ _ _ e;rw[length_nil]at e;rw[FS.mp e.symm]
  |cons a r m=>
   intro b h1 j g l;have h:=g a<|fA ..;have f:=m3.mp h1
   have:=m (b.erase a) f.2 (j.erase a) (λi hi=>by
    have:i≠a:=λz=>f.1<|z ▸ hi
    exact(List.mem_erase_of_ne this).mpr (g i<|fz _ hi)) (by
    rw[length_erase,if_pos h];rw[mo]at l;omega)
   exact(List.Perm.cons a this).trans (List.perm_cons_erase h).symm
 exact d _ _ hd Wj (λi hi=>fO.mpr<|hm i hi) (by rw[hl,h7])
def LU(l:d_):(au l).sum=((l.sum:Nat):Int):=by
 unfold au
 induction l with
 |nil=>rfl
 |cons a r b=>rw[m5,C6,b,C6,natCast_add]
def SX{m j:Nat}:((m:Nat):Int) / ((2 ^ j:Nat):Int)=((m / 2 ^ j:Nat):Int):=(natCast_ediv _ _).symm
def uS{ms:e_}{order:d_}{n:Nat}(h:ms.Perm (au order))(hs:ms.Pairwise (·<=·))(hP:order.Perm (List.range n)):ms=au (List.range n):=by
 refine PySem.W.ksm_same (h.trans<|List.Perm.map _ hP) hs ?_;unfold au;rw[pairwise_map];exact List.pairwise_lt_range.imp λh=>by omega
def xh(n:Nat):(List.range n).filter (λ_=>false)=[]:=by simp
noncomputable def ahead(n k:Nat):Nat:=if k=0 then n-1 else k-1
variable{r:d_}
def mq(h:r.Nodup):(au r).Nodup:=by
 unfold au;rw[Do,pairwise_map];exact(Do.mp h).imp λh=>by omega
noncomputable abbrev Fy(a b:Value):Obj:={cls:=.type "tuple",data:=.seq #[a,b]}
def ik{h:Heap}{a b:Addr}{o u:Obj}{n m:String}(ha:h.get? a=some o)(hn:o.cls=.type n)(hb:h.get? b=some u)(hm:u.cls=.type m)(hc:n≠m):a≠b:=λz=>by
 subst z;rw[ha]at hb;cases hb
 rw[hn]at hm;exact hc (by injection hm)
def SY(K:Frag):u_->Hp->VK->Prop:=λa H Q=>∃(p:Addr) (bs:List Bool),a=[.ref p]/\aw K H p (bs.map V.bl)/\Q (.bl<|bs.all id) H
theorem uT:∀ {bs:List Bool} {its:f'},Vals (bs.map V.bl) its->its=bs.map Value.bool
 | [],_,.nil=>rfl
 |b::r,_,.cons h t=>by rw[uT t,show _=Value.bool b from h];rfl
variable{X:Cx}
def cU{K:Frag}(hc:X.calm=true)(hK:X.K=K):b6 X (.builtin "all") (SY K):=by
 subst hK;intro j s σ H D B Q I r h;obtain⟨p,bs,rfl,hq,q⟩:=h;obtain⟨u,rfl,t⟩:=vals1 r
 cases t
 obtain⟨a,l,f,hz⟩:=I.list hq;have g:=uT l;have m:p<s.heap.objs.size:=by obtain⟨o,e,_⟩:=f.isList;exact lt_size e
 refine PySem.call_all_walk<|L1 f.isList ?_;refine⟨s.heap.objs.size,_,_,_,_,_,λi=>bs.getD i false,rfl,Walks.list (by simpa using I.ok.hd hc) s.heap.objs.size p (j9 m) a.toArray,⟨⟨_,gz _ rfl,rfl,rfl⟩,f.isList.push _⟩,?_,λC A hk=>?_⟩
 ·intro i v n w E c d;have c:a[i]?=some v:=by simpa using c
  rw[g,ed]at c
  cases e:bs[i]? with
  |none=>rw[e]at c;cases c
  |some b=>
   rw[e]at c
   cases c
   have d:w (bs.getD i false) n:=d;rw[b3,e]at d;exact y0 d
 ·have x:a.toArray.size=bs.length:=by rw[hO,g,b5]
  have y:(List.range a.toArray.size).all (λi=>bs.getD i false)=bs.all id:=by
   rw[x]
   apply On.mpr
   simp only[List.all_eq_true,List.mem_range,id_eq]
   constructor
   ·intro h b hb;obtain⟨k,hk,e⟩:=qN hb
    have:=h k hk
    rw[b3,b4 hk]at this;rw[<-e];exact this
   ·intro h k hk;rw[b3,b4 hk];exact h _<|kf hk
  rw[y];refine⟨.bl _,H,I.kept λb o e=>hk b o ?_ (ef _ e),rfl,q⟩
  have:=lt_size e
  intro z
  have:b=s.heap.objs.size:=by simpa using z
  subst this;exact Df _<|lt_size e
def LV:V->u_->Hp->VK->Prop:=λx a H Q=>∃m:Nat,x=.int m/\a=[]/\∀n:Nat,m<2 ^ n->(∀k,m<2 ^ k->n<=k)->Q (.int n) H
def DV:yR X "int.bit_length" LV:=by
 intro b s σ H x f v e Q I d c h;obtain⟨m,rfl,rfl,q⟩:=h;obtain⟨t,rfl⟩:=d
 cases c
 refine call_int_bit_length ⟨.int (Builtin.Int.intBits (m:Int):Nat),H,I.tok _,⟨_,rfl⟩,?_⟩;unfold Builtin.Int.intBits
 by_cases a:m=0
 ·subst a;exact q 0 a_ λk _=>zero_le k
 ·have h1:((m:Int)==0)=false:=tz.mpr (by omega)
  rw[h1];simp only[Bool.false_eq_true,if_false,natAbs_natCast];refine q _ (lt_log2_self) λk hk=>?_
  have:=(log2_lt a).mpr hk
  omega
noncomputable def aq(m:Nat):d_:=(List.range<|m.log2+1).filter m.testBit
theorem jf{p:Nat->Bool}:∀(d n:Nat),(∀j,n<=j->p j=false)->(List.range<|n+d).filter p=(List.range n).filter p
 |0,n,_=>rfl
 |d+1,n,h=>by
  rw[<-Nat.add_assoc,u5,UV,jf d n h]
  simp[h (n+d) (by omega)]
def sW{m n:Nat}(h:m<2 ^ n):(List.range n).filter m.testBit=aq m:=by
 unfold aq;have a:m<2 ^ (m.log2+1):=lt_log2_self
 rcases Nat.le_total n (m.log2+1)with c|c
 ·have:=jf (p:=m.testBit) (m.log2+1-n) n λj hj=>ij h hj
  rw[show n+(m.log2+1-n)=m.log2+1 by omega]at this
  exact this.symm
 ·have:=jf (p:=m.testBit) (n-(m.log2+1)) (m.log2+1) λj hj=>ij a hj
  rw[show m.log2+1+(n-(m.log2+1))=n by omega]at this
  exact this
noncomputable def mask(l:d_):Nat:=(l.map λj=>2 ^ j).sum
theorem bC:∀ {l:d_},l.Nodup->∀j,(mask l).testBit j=decide (j∈l)
 | [],_,j=>by simp[mask]
 |a::r,h,j=>by
  have b:=m3.mp h;have c:=bC b.2;have d:(mask r).testBit a=false:=by rw[c];simp[b.1]
  show(2 ^ a+mask r).testBit j=_;rw[Nat.add_comm,Ci d,jc,c]
  by_cases e:a=j
  ·subst e;simp
  ·have:¬j=a:=λz=>e z.symm
   simp[e,this]
def uU{l:d_}{n:Nat}(h:l.Nodup)(hl:∀i∈l,i<n):mask l<2 ^ n:=zT λj hj=>by
 rw[bC h,dt];exact λz=>absurd (hl j z) (by omega)
theorem nH:∀ {a b:d_},a.Pairwise (· < ·)->b.Pairwise (· < ·)->(∀x,x∈a↔x∈b)->a=b
 | [],[],_,_,_=>rfl
 | [],y::_,_,_,h=>by have:=(h y).mpr<|fA ..;cases this
 |x::_,[],_,_,h=>by have:=(h x).mp<|fA ..;cases this
 |x::r,y::q,f,hb,h=>by
  have d:=ro.mp f;have c:=ro.mp hb;have e:x=y:=by
   rcases gg.mp ((h x).mp<|fA ..)with e|e
   ·exact e
   ·rcases gg.mp ((h y).mpr<|fA ..)with e2|e2
    ·exact e2.symm
    ·have:=c.1 x e
     have:=d.1 y e2
     omega
  subst e;rw[nH d.2 c.2 λz=>?_]
  constructor
  ·intro hz
   rcases gg.mp ((h z).mp<|fz _ hz)with e|e
   ·subst e;exact absurd (d.1 z hz) (by omega)
   ·exact e
  ·intro hz
   rcases gg.mp ((h z).mpr<|fz _ hz)with e|e
   ·subst e;exact absurd (c.1 z hz) (by omega)
   ·exact e
def jO{l:d_}(h:l.Pairwise (· < ·)):aq (mask l)=l:=by
 have a:l.Nodup:=h.imp λh=>by omega
 refine nH (List.pairwise_lt_range.sublist Wm) h λx=>?_;have b:mask l<2 ^ ((mask l).log2+1):=lt_log2_self;unfold aq;rw[j5,fO,bC a,kc]
 constructor
 ·exact λz=>z.2
 ·intro hx;refine⟨?_,hx⟩
  apply nc
  intro q
  have:=ij b (j:=x) (by omega)
  rw[bC a,cc hx]at this
  cases this
noncomputable def bY(ws l:d_):Bool:=l.all λi=>l.all λj=>decide (j=i)||cF ws i j
variable{b:Nat}
def uV:a&&& b=b↔∀j,b.testBit j=true->a.testBit j=true:=by
 constructor
 ·intro h j hj
  have:(a&&& b).testBit j=true:=by rw[h];exact hj
  rw[testBit_and,gc]at this;exact this.1
 ·intro h
  apply DK
  intro j;rw[testBit_and]
  cases e:b.testBit j with
  |false=>rw[KE]
  |true=>rw[h j e];rfl
def pB{l:d_}{i:Nat}(h:l.Nodup)(hi:i∈l):∀j,(mask l-2 ^ i).testBit j=decide (j∈l/\j≠i):=by
 intro j;have e:mask l&&& 2 ^ i=2 ^ i:=uV.mpr λj hj=>by
  rw[FM,kc]at hj;subst hj;rw[bC h,cc hi]
 have:=je (mask l) (2 ^ i) j
 rw[e]at this;rw[this,bC h,FM]
 by_cases c:j∈l<;>by_cases a:i=j
 ·subst a;simp
 ·have:¬j=i:=λz=>a z.symm
  simp[c,a,this]
 ·simp[c]
 ·simp[c]
def xi{l:d_}{i:Nat}(hi:i∈l):2 ^ i<=mask l:=by
 unfold mask
 induction l with
 |nil=>cases hi
 |cons a r b=>
  rw[m5,C6]
  rcases gg.mp hi with rfl|h
  ·omega
  ·exact gr (b h)<|Nat.le_add_left _ _
def zU{ws l:d_}{i:Nat}(h:l.Nodup)(hi:i∈l):decide (ws.getD i 0&&& (mask l-2 ^ i)=mask l-2 ^ i)=l.all λj=>decide (j=i)||cF ws i j:=by
 apply On.mpr
 rw[kc,uV,ka]
 constructor
 ·intro z j hj
  by_cases e:j=i
  ·rw[cc e];rfl
  ·have:=z j (by rw[pB h hi,cc ⟨hj,e⟩])
   unfold cF;rw[this,Bool.or_true]
 ·intro z j hj;rw[pB h hi,kc]at hj
  have:=z j hj.1
  rw[dt hj.2,Bool.false_or]at this;exact this
def pC:Sp:=λa H Q _=>∃m:Nat,a=[.int m]/\m<2 ^ 64/\∀(l:Addr) (H':Hp),ag H H'->H l=none->H' l=some (.lst<|(au<|aq m).map V.int)->Q (.ref l) H'
inductive LW(K:Frag)(vs:u_)(H:Hp)(Q:VK)(E:XK):Prop
 |mk (w p:Addr) (ws l:d_):(vs=[.ref w,.ref p])->aL K H w ((au ws).map V.int)->aL K H p ((au l).map V.int)->ws.length<=8->l.Nodup->((∀i∈l,i<ws.length))->(∀H',ag H H'->Q (.bl<|bY ws l) H')->LW K vs H Q E
def S0(H0:Hp)(w p:Addr)(ws l:d_)(k:Nat)(σ:St)(H:Hp):Prop:=H=H0/\(∀j,j<k->(l.all λx=>decide (x=l.getD j 0)||cF ws (l.getD j 0) x)=true)/\∃y1 y2:v_,σ=[some (.ref w),some<|.ref p,some<|.int (mask l:Nat),y1,y2]
def Cj(l:d_):((List.range (au l).length).map λj=>((2 ^ l.getD j 0:Nat):Int)).sum=((mask l:Nat):Int):=by
 have e:(List.range (au l).length).map (λj=>((2 ^ l.getD j 0:Nat):Int))=au (l.map λj=>2 ^ j):=by
  unfold au
  apply C2
  intro i;rw[b5,ed,ed,ed]
  by_cases h:i<l.length
  ·rw[mv h,b4 h];show some (((2 ^ l.getD i 0:Nat):Int))=some (((2 ^ l[i]:Nat):Int));rw[b3,b4 h];rfl
  ·rw[h9 (by rw[h7];omega),h9 (by omega)];rfl
 rw[e,LU];rfl
def LX{i:Nat}(h:2 ^ i<=a):(a:Int)-((2 ^ i:Nat):Int)=((a-2 ^ i:Nat):Int):=by omega
def S1:(((a:Nat):Int)=((b:Nat):Int))=(a=b):=propext ⟨λh=>by omega,λh=>by rw[h]⟩
noncomputable def j8(ws r:d_):Bool:=decide (2<=r.length)&&(decide r.Nodup&&(List.range r.length).all λk=>cF ws (r.getD (ahead r.length k) 0)<|r.getD k 0)
noncomputable def qT(r:d_):d_:=r.drop 1++r.take 1
def Hw(h:1<=r.length):(qT r).length=r.length:=by unfold qT;rw[eR,nt,ri];omega
def pD{k:Nat}(hk:k<r.length):(qT r).getD k 0=r.getD (if k+1<r.length then k+1 else 0) 0:=by
 unfold qT;rw[b3,b3]
 by_cases c:k+1<r.length
 ·rw[if_pos c,A5 (by rw[nt];omega),getElem?_drop,Nat.add_comm]
 ·rw[if_neg c,qz (by rw[nt];omega),nt,show k-(r.length-1)=0 by omega,List.getElem?_take_of_lt a_]
def DW{ws:d_}:((List.range r.length).map λk=>cF ws (r.getD k 0)<|(qT r).getD k 0).all id=(List.range r.length).all λk=>cF ws (r.getD (ahead r.length k) 0) (r.getD k 0):=by
 apply On.mpr
 rw[F8];simp only[List.all_eq_true,List.mem_range,Function.comp,id_eq]
 constructor
 ·intro h k hk;unfold ahead
  by_cases c:k=0
  ·subst c;rw[if_pos rfl]
   have:=h (r.length-1) (by omega)
   rw[pD (by omega),if_neg (by omega)]at this
   exact this
  ·rw[if_neg c]
   have:=h (k-1) (by omega)
   rw[pD (by omega),if_pos (by omega),show k-1+1=k by omega]at this
   exact this
 ·intro h k hk;rw[pD hk]
  by_cases c:k+1<r.length
  ·rw[if_pos c]
   have:=h (k+1) c
   unfold ahead at this;rw[if_neg (by omega),Nat.add_sub_cancel]at this
   exact this
  ·rw[if_neg c]
   have:=h 0 (by omega)
   unfold ahead at this;rw[if_pos rfl,show r.length-1=k by omega]at this
   exact this
def qU:(au r).Nodup↔r.Nodup:=by
 constructor
 ·intro h;unfold au at h;rw[Do,pairwise_map]at h;rw[Do];exact h.imp λh=>by omega
 ·exact mq
theorem sX:∀ {ns:e_},¬ns.Nodup->∃x∈ns,x∈ns.erase x
 | [],h=>absurd nodup_nil h
 |a::r,h=>by
  by_cases c:a∈r
  ·exact⟨a,fA ..,by rw[List.erase_cons_head];exact c⟩
  ·have e:¬r.Nodup:=λz=>h<|m3.mpr ⟨c,z⟩;obtain⟨x,h1,d⟩:=sX e;refine⟨x,fz _ h1,?_⟩;have b:a≠x:=λz=>c<|z ▸ h1;rw[List.erase_cons_tail (by simpa using b)]
   exact fz _ d
theorem pE:∀ {xs ys:e_},xs.Nodup->(∀i∈xs,i∈ys)->xs.length<=ys.length
 | [],_,_,_=>zero_le _
 |a::r,ys,c,h=>by
  have b:=m3.mp c;have h1:=pE (xs:=r) (ys:=ys.erase a) b.2 λi hi=>by
   have:i≠a:=λz=>b.1<|z ▸ hi
   exact(List.mem_erase_of_ne this).mpr (h i<|fz _ hi)
  have d:=length_erase (a:=a) (l:=ys);rw[if_pos (h a<|fA ..)]at d
  have:0<ys.length:=length_pos_of_mem<|h a<|fA ..
  rw[mo];omega
def DX{ns:e_}(h:¬ns.Nodup):unlike ns<ns.length:=by
 obtain⟨x,h1,b⟩:=sX h;obtain⟨f,c⟩:=xf (ns:=ns) ns.length<|dy _;have g:=pE (ys:=ns.erase x) f λi hi=>by
  have hi:=(c i).mp hi;rw[sC]at hi
  by_cases e:i=x
  ·rw[e];exact b
  ·exact(List.mem_erase_of_ne e).mpr hi
 have d:=length_erase (a:=x) (l:=ns);rw[if_pos h1]at d
 have:0<ns.length:=length_pos_of_mem h1
 unfold unlike
 omega
inductive Qj(K:Frag)(vs:u_)(H:Hp)(Q:VK)(E:XK):Prop
 |mk (w p:Addr) (ws r:d_):(vs=[.ref w,.ref p])->aL K H w ((au ws).map V.int)->aL K H p ((au r).map V.int)->ws.length<=8->r.length<=90->((∀i∈r,i<ws.length))->(∀H',ag H H'->Q (.bl<|j8 ws r) H')->Qj K vs H Q E
def Off(wb:Addr)(H H':Hp):Prop:=∀b o,b≠wb->H b=some o->H' b=some o
variable{wb:Addr}
def Off.refl{H:Hp}:Off wb H H:=λ_ _ _ h=>h
def Off.trans{H H1 H2:Hp}(a:Off wb H H1)(b:Off wb H1 H2):Off wb H H2:=λc o n h=>b c o n<|a c o n h
def ag.ke{H H':Hp}(s:ag H H'):Off wb H H':=λb o _ h=>s b o h
theorem Off.upd{wb:Addr}{H:Hp}{o:HO}:Off wb H (L2.upd H wb o):=λb u n h=>by rw[aC n];exact h
variable{p:Addr}
def aD{K:Frag}{H:Hp}{Q:VK}{xs:u_}{i:Int}{v:V}(h:aw K H p xs)(e:wq xs i=some v)(q:Q v H):wL K (.ref p) (.int i) H Q:=⟨p,_,i,_,rfl,rfl,h,e,q⟩
def jP{ds:List PyData}:PyData.eqv (.list ds) (.list [])=decide (ds=[]):=by
 cases ds with
 |nil=>rfl
 |cons a r=>simp[PyData.eqv,PyData.eqvAll]
def lcAny{j:Int}{te:TE}{rest:St}{Q:VK}{H1:Hp}(n:Nat)(e:j=(n:Int))(hn:n<=1000000)(Ok:Nat->Prop)
  (step:∀i H (A:q_),i<n->ag H1 H->(∀(x:Nat) H',ag H H'->Ok x->A (.int (x:Int)) H')->te (some (.int (i:Int))::rest) H A)
  (fin:∀B_ (row:d_) H,H1 B_=none->ag H1 H->H B_=some (.lst<|(au row).map V.int)->row.length=n->(∀x∈row,Ok x)->Q (.ref B_) H):
  ∃k:Int,[V.int j]=[.int k]/\-(2 ^ 62)<=k/\k<2 ^ 62/\sN (bF 0) gZ te (none::rest) Q (wF 0 k.toNat) H1:=by
 subst e;refine⟨_,rfl,by omega,by omega,?_⟩
 rw[k4];intro B_ d;refine⟨λi m τ H=>m=n-i/\i<=n/\(∃y,τ=y::rest)/\ag H1 H/\∃row:d_,H B_=some (.lst<|(au row).map V.int)/\row.length=i/\∀x∈row,Ok x,⟨n,by simp,zero_le _,⟨_,rfl⟩,ag.new d _,[],af,rfl,(λ_ h=>nomatch h)⟩,?_⟩
 rintro i m τ H ⟨rfl,hi,⟨y,rfl⟩,l,row,r,p,q⟩
 by_cases f:i<n
 ·refine .inr ⟨f,λs H'=>(∃y,s=y::rest)/\ag H1 H'/\∃row:d_,H' B_=some (.lst<|(au row).map V.int)/\row.length=i+1/\∀x∈row,Ok x,λs H' ⟨a,b,c⟩=>⟨n-(i+1),by omega,rfl,f,a,b,c⟩,λx H' y=>?_⟩
  obtain⟨rfl,rfl⟩:=y;rw[Int.zero_add];simp only[pb,gA,set_cons_zero,wY,j4];refine step i H' _ f l λx t g hx=>?_;have o:=g _ _ r;refine⟨_,o,?_,⟨_,rfl⟩,(l.trans g).set d _,row++[x],?_,by rw[eR,p];rfl,λz hz=>?_⟩
  ·rw[b5,ah,p];exact g4 (g4 f hn) a_
  ·rw[af,cN,hU];rfl
  ·rcases j6.mp hz with z1|z1
   ·exact q z z1
   ·rw[eG.mp z1];exact hx
 ·have e:i=n:=by omega
  subst e;exact .inl ⟨dy _,fin B_ row H d l r p q⟩
noncomputable def Hx(r:d_)(lo hi:j_):d_:=(r.drop<|HT.dW r.length 0 lo).take<|HT.dW r.length r.length hi-HT.dW r.length 0 lo
variable{lo:j_}
def LY{hi:j_}:jT ((au r).map V.int) lo hi=(au<|Hx r lo hi).map V.int:=by
 unfold jT Hx;rw[b5,ah,<-xc,<-pv,Wy,Wo]
variable{a:Addr}
def LZ{K:Frag}{H:Hp}{Q:VK}{hi:j_}(h:aw K H a ((au r).map V.int))(q:∀p,H p=none->Q (.ref p) (upd H p<|.lst<|(au<|Hx r lo hi).map V.int)):Dz K (.ref a) lo hi H Q:=
 ⟨a,_,rfl,h,λp b=>by rw[LY];exact q p b⟩
def L0{K:Frag}{H:Hp}{Q:VK}{b:Addr}{q':d_}(h:aw K H a ((au r).map V.int))(h':aw K H b ((au q').map V.int))(hz:r.length+q'.length<=1000)(q:∀p,H p=none->Q (.ref p) (upd H p<|.lst<|(au<|r++q').map V.int)):GV K (.ref a) (.ref b) H Q:=
 jN h h' (by rw[ah,ah];exact ie hz) λp c=>by rw[<-cN];exact q p c
variable{us:u_}
def DY{v:V}:wq (us++[v]) (-1)=some v:=by
 unfold wq
 have:Dx (us++[v]).length (-1)=some us.length:=by
  unfold Dx;rw[eR,if_neg a_,if_pos (by show -((us.length+1:Nat):Int)<=-1;omega)]
  congr 1
  show((-1:Int)+((us.length+1:Nat):Int)).toNat=us.length
  omega
 rw[this];show(us++[v])[us.length]?=some v;rw[qz (dy _),Wr];rfl
def uW(ws:d_):Prop:=∃r:Nat->Nat,∀i j,i<ws.length->cF ws i j=true->r j<r i
def full(ws:d_):Prop:=¬(laidOut ws).length<ws.length
def xj{l:d_}{k x:Nat}(hd:l.Nodup)(h:x∈l.take k):l.idxOf x<k:=by
 obtain⟨i,hi,e⟩:=qN h;rw[ri]at hi;rw[getElem_take]at e;rw[<-e,hd.idxOf_getElem i (by omega)]
 omega
def xk{ws:d_}(h:full ws):uW ws:=by
 obtain⟨l,b,_⟩:=dR ws;have all:∀i,i<ws.length->i∈laidOut ws:=λi hi=>nc λz=>h<|w9.mpr ⟨i,hi,z⟩;refine⟨λx=>(laidOut ws).idxOf x,λi j hi c=>?_⟩;have hm:=all i hi;have a:=r3 hm;have e:(laidOut ws).getD ((laidOut ws).idxOf i) 0=i:=by
  rw[b3,b4 a];exact Re a
 have:=b.ok _ a j (by rw[e];exact c)
 exact xj b.nd this
def S3{K:Frag}{xs:u_}{g:TG}{tb:TS}{D:Ends}{σ:St}{H:Hp}(I:o_)(h:aw K H a xs)(h0:I 0 σ H)(hl:∀i σ H,I i σ H->aw K H a xs)
  (step:∀i x σ H,xs[i]?=some x->I i σ H->g x σ H λσ2 H2=>tb {D with nx:=I<|i+1,ct:=I<|i+1,bk:=D.nx} σ2 H2)
  (fin:∀σ H,I xs.length σ H->D.nx σ H):∃b,V.ref a=.ref b/\(∃xs,aw K H b xs)/\qO g tb D σ (Ft K b) H:=
 ⟨a,rfl,⟨_,h⟩,oX (xs:=xs) I h0 (λi σ H _ p=>hl i σ H p) step fin⟩
noncomputable def qD(cs:e_):d_->Int
 | []=>1
 |j::l=>cs.getD j 0*qD cs l
theorem pF(cs:e_):∀l m:d_,qD cs (l++m)=qD cs l*qD cs m
 | [],m=>by rw[nil_append,qD,WC]
 |a::l,m=>by rw[cons_append,qD,qD,pF cs l m,Int.mul_assoc]
def Hy(cs:e_)(l:d_)(j:Nat):qD cs (l++[j])=qD cs l*cs.getD j 0:=by
 rw[pF,qD,qD,Int.mul_one]
theorem Ck{cs:e_}:∀ {l:d_},(∀j∈l,1<=cs.getD j 0)->1<=qD cs l
 | [],_=>by rw[qD];omega
 |a::l,h=>by
  have h1:=h a<|fA ..;have b:=Ck (l:=l) λj hj=>h j<|fz _ hj;rw[qD]
  have:=o5 h1 (show 0<=qD cs l by omega)
  omega
theorem mr{cs:e_}:∀n,n<=cs.length->qD cs (List.range n)=pr (cs.take n)
 |0,_=>by rw[List.range_zero,take_zero,qD,pr]
 |n+1,h=>by rw[u5,Hy,take_snoc 0 (show n<cs.length by omega),ic,mr n (by omega)]
def L6{cs:e_}{l m:d_}(h:l.Sublist m)(hp:∀j∈m,1<=cs.getD j 0):qD cs l<=qD cs m:=by
 induction h with
 |slnil=>exact Wq _
 |cons a s b=>
  have h1:=hp a<|fA ..;have c:=b λj hj=>hp j<|fz _ hj;rw[qD];have d:=Ck (cs:=cs) λj hj=>hp j<|fz a hj
  have:=o5 h1 (Int.le_trans (show(0:Int)<=1 by decide) d)
  rw[WC]at this
  omega
 |cons_cons a s b=>
  have h1:=hp a<|fA ..;have c:=b λj hj=>hp j<|fz _ hj;rw[qD,qD];exact Int.mul_le_mul_of_nonneg_left c (by omega)
noncomputable def rat(g:Nat->e_->Int)(n:Nat)(h:e_):Nat:=((List.range n).filter λi=>decide<|g i h=h.getD i 0).length
structure xl(cs:e_):Prop where
 lo:∀c∈cs,1<=c
 len:cs.length<=8
 top:pr cs<=256
def xl.hi{cs:e_}(h:xl cs):∀c∈cs,c<=256:=λc hc=>Int.le_trans (Int.le_of_dvd (by have:=fk h.lo;omega)<|kx hc) h.top
def xl.get{cs:e_}(h:xl cs){i:Nat}(hi:i<cs.length):1<=cs.getD i 0/\cs.getD i 0<=256:=⟨h.lo _<|L2.getD_mem hi,h.hi _<|L2.getD_mem hi⟩
def DZ{ms:e_}{j k:Nat}{v:Int}:(ms.set j v).getD k 0=if j=k/\j<ms.length then v else ms.getD k 0:=by
 rw[b3,List.getElem?_set,b3]
 by_cases e:j=k
 ·by_cases h:j<ms.length
  ·rw[if_pos e,if_pos h,if_pos ⟨e,h⟩];rfl
  ·rw[if_pos e,if_neg h,if_neg λz=>h z.2,h9 (by omega)]
 ·rw[if_neg e,if_neg λz=>e z.1]
theorem HN.set{cs ms:e_}{n j:Nat}{v:Int}(h:HN cs ms n)(h0:0<=v)(h1:v<cs.getD j 0):HN cs (ms.set j v) n:=by
 refine⟨by rw[length_set,h.1],λi hi=>?_⟩
 rw[DZ]
 by_cases e:j=i/\j<ms.length
 ·rw[if_pos e,<-e.1];exact⟨h0,h1⟩
 ·rw[if_neg e];exact h.2 i hi
variable{j:Int}
def Hz{te:TE}{rest:St}{Q:VK}{H1:Hp}(n:Nat)(e:j=(n:Int))(hn:n<=1000000)(Ok:Nat->Int->Prop)
  (step:∀i H (A:q_),i<n->ag H1 H->(∀(x:Int) H',ag H H'->Ok i x->A (.int x) H')->te (some (.int (i:Int))::rest) H A)
  (fin:∀B_ (row:e_) H,H1 B_=none->ag H1 H->H B_=some (.lst<|row.map V.int)->row.length=n->(∀i,i<n->Ok i (row.getD i 0))->Q (.ref B_) H):
  ∃k:Int,[V.int j]=[.int k]/\-(2 ^ 62)<=k/\k<2 ^ 62/\sN (bF 0) gZ te (none::rest) Q (wF 0 k.toNat) H1:=by
 subst e;refine⟨_,rfl,by omega,by omega,?_⟩
 rw[k4];intro B_ d;refine⟨λi m τ H=>m=n-i/\i<=n/\(∃y,τ=y::rest)/\ag H1 H/\∃row:e_,H B_=some (.lst<|row.map V.int)/\row.length=i/\∀k,k<i->Ok k (row.getD k 0),⟨n,by simp,zero_le _,⟨_,rfl⟩,ag.new d _,[],af,rfl,λk hk=>absurd hk<|sU k⟩,?_⟩
 rintro i m τ H ⟨rfl,hi,⟨y,rfl⟩,l,row,q,h,p⟩
 by_cases f:i<n
 ·refine .inr ⟨f,λr H'=>(∃y,r=y::rest)/\ag H1 H'/\∃row:e_,H' B_=some (.lst<|row.map V.int)/\row.length=i+1/\∀k,k<i+1->Ok k (row.getD k 0),λr H' ⟨a,b,c⟩=>⟨n-(i+1),by omega,rfl,f,a,b,c⟩,λx H' y=>?_⟩
  obtain⟨rfl,rfl⟩:=y;rw[Int.zero_add];simp only[pb,gA,set_cons_zero,wY,j4];refine step i H' _ f l λx s g hx=>?_;have o:=g _ _ q;refine⟨_,o,?_,⟨_,rfl⟩,(l.trans g).set d _,row++[x],?_,by rw[eR,h];rfl,λk hk=>?_⟩
  ·rw[b5,h];exact g4 (g4 f hn) a_
  ·rw[af,hU];rfl
  ·by_cases e:k=i
   ·subst e;rw[<-h,lA,h];exact hx
   ·rw[lx (by omega)];exact p k (by omega)
 ·have e:i=n:=by omega
  subst e;exact .inl ⟨dy _,fin B_ row H d l q h p⟩
def aG{i:Nat}{v:V}(h:us[i]?=some v):wq us (i:Int)=some v:=by
 have a:=(ls.mp h).1
 have:=ja (xs:=us) (i:=(i:Int)) (k:=i) rfl .bE a
 rw[this,b3,h];rfl
def Vh(K:Frag):u_->Hp->VK->Prop:=λa H Q=>∃(p:Addr) (bs:List Bool),a=[.ref p]/\aw K H p (bs.map V.bl)/\Q (.bl<|bs.any id) H
def S4(K:Frag):u_->Hp->VK->Prop:=λa H Q=>∃(p:Addr) (ns:e_),a=[.ref p]/\(aw K H p (ns.map V.int)∨aL K H p (ns.map V.int))/\ns≠[]/\∀m∈ns,(∀n∈ns,n<=m)->Q (.int m) H
theorem pG:∀ {ns:e_} {its:f'} {i:Nat} {v:Value},Vals (ns.map V.int) its->its[i]?=some v->∃t,v=.int (ns.getD i 0) t/\i<ns.length
 | [],_,i,v,.nil,h=>by simp at h
 |n::r,_,0,v,.cons h _,e=>by
  obtain⟨t,h⟩:=h
  simp at e
  exact⟨t,by rw[<-e,h];rfl,by simp⟩
 |n::r,_,i+1,v,.cons _ t,e=>by
  obtain⟨a,h1,b⟩:=pG t (i:=i) (v:=v) (by simpa using e)
  exact⟨a,by rw[h1];simp,by simp;exact b⟩
theorem xm:∀ {xs:u_} {its:f'},Vals xs its->Vals xs.reverse its.reverse
 | [],_,.nil=>.nil
 |_::_,_,.cons h t=>by rw[List.reverse_cons,List.reverse_cons];exact(xm t).append (.cons h .nil)
variable{K:Frag}
def D0(hc:X.calm=true)(hK:X.K=K):b6 X (.builtin "any") (Vh K):=by
 subst hK;intro j s σ H D B Q I r h;obtain⟨p,bs,rfl,hq,q⟩:=h;obtain⟨u,rfl,t⟩:=vals1 r
 cases t
 obtain⟨a,l,f,hz⟩:=I.list hq;have g:=uT l;have m:p<s.heap.objs.size:=by obtain⟨o,e,_⟩:=f.isList;exact lt_size e
 refine PySem.call_any_walk<|L1 f.isList ?_;refine⟨s.heap.objs.size,_,_,_,_,_,λi=>bs.getD i false,rfl,Walks.list (by simpa using I.ok.hd hc) s.heap.objs.size p (j9 m) a.toArray,⟨⟨_,gz _ rfl,rfl,rfl⟩,f.isList.push _⟩,?_,λC A hk=>?_⟩
 ·intro i v n w E c d;have c:a[i]?=some v:=by simpa using c
  rw[g,ed]at c
  cases e:bs[i]? with
  |none=>rw[e]at c;cases c
  |some b=>
   rw[e]at c
   cases c
   have d:w (bs.getD i false) n:=d;rw[b3,e]at d;exact y0 d
 ·have x:a.toArray.size=bs.length:=by rw[hO,g,b5]
  have y:(List.range a.toArray.size).any (λi=>bs.getD i false)=bs.any id:=by
   rw[x]
   apply On.mpr
   simp only[List.any_eq_true,List.mem_range,id_eq]
   constructor
   ·rintro⟨k,hk,h⟩;rw[b3,b4 hk]at h;exact⟨_,kf hk,h⟩
   ·rintro⟨b,hb,h⟩;obtain⟨k,hk,e⟩:=qN hb;refine⟨k,hk,?_⟩;rw[b3,b4 hk];show bs[k]=true;rw[e];exact h
  rw[y];refine⟨.bl _,H,I.kept λb o e=>hk b o ?_ (ef _ e),rfl,q⟩;intro z
  have:b=s.heap.objs.size:=by simpa using z
  subst this;exact Df _<|lt_size e
def D3{w_:aO0}{σ:St}{H:Hp}{s:Shared}{E:c_}{ns:e_}(hc:X.calm=true)(I:Inv X w_ σ H s)(hq:aw X.K H p (ns.map V.int)∨aL X.K H p (ns.map V.int)){R:c_}
  (h:∀(J:Addr) (fp wr:l_) (Pv:Nat->Value->Prop) (St:Nat->Heap->Prop) (s2:Shared),Walks X.prog X.w X.A.in1 J fp wr ns.length Pv St->St 0 s2.heap->(∀b∈fp,b<s2.heap.objs.size)->(∀i v,Pv i v->∃t,v=.int (ns.getD i 0) t)->
   (∀h' tk,(∀b o,b∉wr->s2.heap.get? b=some o->h'.get? b=some o)->Inv X w_ σ H {s2 with heap:=h',toks:=tk})->R (.ref J) s2):wpAny (model X.prog X.w) X.A.in1 (pyIter<|.ref p) R E s:=by
 have kept:∀ {o:Obj} {h':Heap} {tk:Nat},(∀b u,b∉[s.heap.objs.size]->(s.heap.push o).get? b=some u->h'.get? b=some u)->Inv X w_ σ H {s with heap:=h',toks:=tk}:=λhk=>I.kept λb u e=>hk b u (λz=>by
  have:b=s.heap.objs.size:=by simpa using z
  subst this;exact Df _<|lt_size e)<|ef _ e
 rcases hq with hq|hq
 ·obtain⟨a,c,f,hz⟩:=I.list hq;have j:a.toArray.size=ns.length:=by rw[hO,<-c.length,b5]
  have d:p<s.heap.objs.size:=by obtain⟨o,e,_⟩:=f.isList;exact lt_size e
  refine L1 f.isList ?_;have W:=Walks.list (prog:=X.prog) (w:=X.w) (A:=X.A.in1) (by simpa using I.ok.hd hc) s.heap.objs.size p (j9 d) a.toArray
  rw[j]at W;refine h _ _ _ _ _ _ W ⟨⟨_,gz _ rfl,rfl,rfl⟩,f.isList.push _⟩ (λb hb=>?_) (λi v g=>?_) λh' tk hk=>kept hk
  ·show b<(s.heap.push _).objs.size;rw[C4]
   rcases gg.mp hb with rfl|hb
   ·exact Wd _
   ·have:b=p:=by simpa using hb
    rw[this];exact Wf d
  ·obtain⟨t,e,_⟩:=pG c (by simpa using g)
   exact⟨t,e⟩
 ·obtain⟨a,c,f,hz⟩:=I.tuple hq;have pt:s.heap.IsTuple p a.toArray:=f;have j:a.toArray.size=ns.length:=by rw[hO,<-c.length,b5]
  have d:p<s.heap.objs.size:=by obtain⟨o,e,_⟩:=pt;exact lt_size e
  refine SZ pt ?_;have W:=Walks.tuple (prog:=X.prog) (w:=X.w) (A:=X.A.in1) (by simpa using I.ok.hd hc) s.heap.objs.size p (j9 d) a.toArray
  rw[j]at W;refine h _ _ _ _ _ _ W ⟨⟨_,gz _ rfl,rfl,rfl⟩,pt.at λo e=>ef _ e⟩ (λb hb=>?_) (λi v g=>?_) λh' tk hk=>kept hk
  ·show b<(s.heap.push _).objs.size;rw[C4]
   rcases gg.mp hb with rfl|hb
   ·exact Wd _
   ·have:b=p:=by simpa using hb
    rw[this];exact Wf d
  ·obtain⟨t,e,_⟩:=pG c (by simpa using g)
   exact⟨t,e⟩
def zX(hc:X.calm=true)(hK:X.K=K):b6 X (.builtin "max") (S4 K):=by
 subst hK;intro l s σ H E C Q I r h;obtain⟨p,c,rfl,hq,j,q⟩:=h;obtain⟨u,rfl,A⟩:=vals1 r
 cases A
 have hn:0<c.length:=Fh.mpr j;refine PySem.call_max_walk<|D3 hc I hq λJ y B Pv St F W o f a b=>?_;refine⟨J,y,B,_,Pv,St,_,rfl,W,o,f,hn,CmpOf.ints_gt (λi=>c.getD i 0) a,λv x m w hk=>?_⟩;obtain⟨t,rfl⟩:=a _ _ w;obtain⟨D,z⟩:=argBest_gt (λi=>c.getD i 0)<|c.length-1;refine⟨.int _,H,b x m hk,⟨t,rfl⟩,q _ (L2.getD_mem (by omega)) λn d=>?_⟩
 obtain⟨k,g,e⟩:=qN d
 have:=z k (by omega)
 rw[b3,b4 g]at this;rw[<-e];exact this
def Ol:TS:=λ_ _ _=>False
def iQ{st:Stmt}:QS X st Ol:=⟨λ_ _ _ _ _ _ h=>h.elim⟩
def HA{D:Ends}{σ:St}{H:Hp}:Ol D σ H=False:=rfl
def S5(K:Frag):V->Hp->VK->Prop:=λx H Q=>∃a xs,x=.ref a/\aw K H a xs/\∀p,H p=none->Q (.ref p) (upd H p<|.lst xs.reverse)
def Vi(K:Frag)(te ts:TE):TE:=λσ H Q=>te σ H λx H1=>ts σ H1 λy a=>y=.int (-1)/\S5 K x a Q
variable{e st:Expr}{te ts:TE}{pos p2:Pos}{ops:Value->Value->f'}
def Qk(he:PE X e te)(hs:PE X st ts)(hsub:∀o i,subscripted (.Slice none none (some st) p2) false o i=operate (ops o i) (getItem o i)):PE X (.Subscript e (.Slice none none (some st) p2) pos) (Vi X.K te ts):=by
 intro c s σ H Q I h;refine Subscript_<|bP (he c s σ H _ I h) λv E ⟨x,H1,z,n,p⟩=>?_;refine wpAny_Slice ?_;rw[evalPart_none];refine ek<|ek ?_;rw[evalPart_some];refine bP (hs c E σ H1 _ z p) λF d ⟨y,B,C,D,m⟩=>?_;obtain⟨rfl,a,u,rfl,hx,q⟩:=m
 cases n
 obtain⟨t,rfl⟩:=D;have f:Inv X c σ B {d with heap:=d.heap.push {cls:=.type "slice",data:=.fields #[.none,.none,.int (-1) t]}}:=C.kept (t':=d.toks) λb ob q=>ef _ q;obtain⟨g,r,l,hz⟩:=f.list hx;have j:=r.length;show wpAny (model X.prog X.w) X.A (subscriptTail e (.Slice none none (some st) p2) (.ref a)<|.ref d.heap.objs.size) (EP X c σ Q) X.xe {d with heap:=d.heap.push {cls:=.type "slice",data:=.fields #[.none,.none,.int (-1) t]}};refine tail_any (T:="list") (ops:=ops (.ref a)<|.ref d.heap.objs.size) l.isList.typeIs slot_list_getitem.lookup ?_ (hsub _ _);refine wpAny_getItem_list_slice l.isList (Heap.IsSliceOf.new ..) .none .none (.int (-1) t) (by simp) ?_ (by rw[hO]<;>omega)
 rw[PySem.W.krv_pick];refine⟨.ref _,_,f.laid (t':=d.toks) (o:=.lst u.reverse) (λb ob q=>ef _ q) (dy _) ?_,rfl,q _<|f.bq.fresh<|dy _⟩;exact⟨by rw[List.length_reverse];exact hz,g.reverse,0,xm r,gz _ rfl⟩
def Ql(he:QE X e te)(hs:QE X st ts)(h:X.K=K)(hsub:∀o i,subscripted (.Slice none none (some st) p2) false o i=operate (ops o i) (getItem o i):=by intro _ _;with_unfolding_all rfl):QE X (.Subscript e (.Slice none none (some st) p2) pos) (Vi K te ts):=⟨by subst h;exact Qk he.h hs.h hsub⟩
def S6{σ:St}{H:Hp}{Q:VK}:Vi K te ts σ H Q=te σ H λx H1=>ts σ H1 λy H2=>y=.int (-1)/\S5 K x H2 Q:=rfl
noncomputable def rg(n i:Nat)(s:Int):Int:=if i=n-1 then s else 1-s
def zZ{n:Nat}(hn:2<=n){h:Nat->Int}(hb:∀i,i<n->h i=0∨h i=1):∃i,i<n/\rg n i (h<|(i+1)%n)=h i:=by
 refine nc λz=>?_;have a:∀i,i<n->rg n i (h<|(i+1)%n)≠h i:=λi hi e=>z ⟨i,hi,e⟩;have all:∀i,i<n->h i=h 0:=by
  intro i
  induction i with
  |zero=>intro _;rfl
  |succ i b=>
   intro hi;have h1:=a i (by omega)
   unfold rg at h1;rw[if_neg (by omega),v8 hi]at h1
   have:=b (by omega)
   have d:=hb i (by omega)
   have c:=hb (i+1) hi
   omega
 have h1:=a (n-1) (by omega)
 unfold rg at h1;rw[if_pos rfl,show n-1+1=n by omega,mod_self,all (n-1) (by omega)]at h1
 exact h1 rfl
def S7:Sp:=λa H Q _=>∃(n i:Nat) (s:Int),a=[.int n,.int i,.int s]/\1<=n/\Q (.int<|rg n i s) H
def LL(ex:Addr)(H:Hp):u_->List (e_)->Prop
 | [],[]=>True
 |v::a,h::L=>(∃r,v=.ref r/\r≠ex/\H r=some (.lst<|h.map V.int))/\LL ex H a L
 |_,_=>False
variable{ex:Addr}{H H':Hp}
theorem LL.mono(s:ag H H'):∀ {vs:u_} {L:List (e_)},LL ex H vs L->LL ex H' vs L
 | [],[],h=>h
 |_::_,_::_,⟨⟨r,e,n,h⟩,t⟩=>⟨⟨r,e,n,s _ _ h⟩,LL.mono s t⟩
 | [],_::_,h=>h.elim
 |_::_,[],h=>h.elim
theorem LL.upd{o:HO}:∀ {vs:u_} {L:List (e_)},LL ex H vs L->LL ex (upd H ex o) vs L
 | [],[],h=>h
 |_::_,_::_,⟨⟨r,e,n,h⟩,t⟩=>⟨⟨r,e,n,by rw[aC n];exact h⟩,LL.upd t⟩
 | [],_::_,h=>h.elim
 |_::_,[],h=>h.elim
theorem LL.to{ey:Addr}(hn:H ey=none):∀ {vs:u_} {L:List (e_)},LL ex H vs L->LL ey H vs L
 | [],[],h=>h
 |_::_,_::_,⟨⟨r,e,_,h⟩,t⟩=>⟨⟨r,e,aO h hn,h⟩,LL.to hn t⟩
 | [],_::_,h=>h.elim
 |_::_,[],h=>h.elim
theorem LL.append:∀ {vs ws:u_} {L M:List (e_)},LL ex H vs L->LL ex H ws M->LL ex H (vs++ws) (L++M)
 | [],_,[],_,_,h=>h
 |_::_,_,_::_,_,⟨a,t⟩,h=>⟨a,LL.append t h⟩
 | [],_,_::_,_,h,_=>h.elim
 |_::_,_,[],_,h,_=>h.elim
theorem LL.length:∀ {vs:u_} {L:List (e_)},LL ex H vs L->vs.length=L.length
 | [],[],_=>rfl
 |_::_,_::_,⟨_,t⟩=>by rw[mo,mo,LL.length t]
 | [],_::_,h=>h.elim
 |_::_,[],h=>h.elim
theorem LL.get:∀ {vs:u_} {L:List (e_)} {i:Nat} {v:V},LL ex H vs L->vs[i]?=some v->i<L.length/\∃r,v=.ref r/\H r=some (.lst<|(L.getD i []).map V.int)
 | [],[],i,v,_,e=>by simp at e
 |_::_,_::_,0,v,⟨⟨r,e,_,h⟩,_⟩,e2=>by simp at e2;subst e2;exact⟨by simp,r,e,h⟩
 |_::_,_::_,i+1,v,⟨_,t⟩,e2=>by
  obtain⟨a,b⟩:=LL.get (i:=i) (v:=v) t (by simpa using e2)
  exact⟨by simp;exact a,by simpa using b⟩
 | [],_::_,_,_,h,_=>h.elim
 |_::_,[],_,_,h,_=>h.elim
def S8{vs:u_}{L:List (e_)}{g:TG}{tb:TS}{D:Ends}{σ:St}(I:o_)(h:aw K H a vs)(hL:LL ex H vs L)(h0:I 0 σ H)(hl:∀i σ H,I i σ H->aw K H a vs/\LL ex H vs L)
  (step:∀i r σ H,i<L.length->H r=some (.lst<|(L.getD i []).map V.int)->I i σ H->g (.ref r) σ H λσ2 H2=>tb {D with nx:=I<|i+1,ct:=I<|i+1,bk:=D.nx} σ2 H2)
  (fin:∀σ H,I L.length σ H->D.nx σ H):∃b,V.ref a=.ref b/\(∃xs,aw K H b xs)/\qO g tb D σ (Ft K b) H:=by
 refine⟨a,rfl,⟨_,h⟩,oX (xs:=vs) I h0 (λi σ H _ p=>(hl i σ H p).1) (λi x σ H e p=>?_) λσ H p=>fin σ H (by rw[hL.length]at p;exact p)⟩
 obtain⟨hi,r,rfl,c⟩:=(hl i σ H p).2.get e;exact step i r σ H hi c p
def S9{rest:St}{Q:VK}{H1:Hp}(n:Nat)(val:Nat->e_)(e:j=(n:Int))(hn:n<=1000000)
  (step:∀i H (A:q_),i<n->ag H1 H->(∀r H',ag H H'->H r=none->H' r=some (.lst<|(val i).map V.int)->A (.ref r) H')->te (some (.int (i:Int))::rest) H A)
  (fin:∀B_ vs H,H1 B_=none->ag H1 H->H B_=some (.lst vs)->LL B_ H vs ((List.range n).map val)->Q (.ref B_) H):
  ∃k:Int,[V.int j]=[.int k]/\-(2 ^ 62)<=k/\k<2 ^ 62/\sN (bF 0) gZ te (none::rest) Q (wF 0 k.toNat) H1:=by
 subst e;refine⟨_,rfl,by omega,by omega,?_⟩
 rw[k4];intro B_ d;refine⟨λi m τ H=>m=n-i/\i<=n/\(∃y,τ=y::rest)/\ag H1 H/\∃vs,H B_=some (.lst vs)/\LL B_ H vs ((List.range i).map val),⟨n,by simp,zero_le _,⟨_,rfl⟩,ag.new d _,[],af,trivial⟩,?_⟩
 rintro i m τ H ⟨rfl,hi,⟨y,rfl⟩,o,vs,p,s⟩
 by_cases f:i<n
 ·refine .inr ⟨f,λt H'=>(∃y,t=y::rest)/\ag H1 H'/\∃vs,H' B_=some (.lst vs)/\LL B_ H' vs ((List.range<|i+1).map val),λt H' ⟨a,b,c⟩=>⟨n-(i+1),by omega,rfl,f,a,b,c⟩,λx H' y=>?_⟩
  obtain⟨rfl,rfl⟩:=y;rw[Int.zero_add];simp only[pb,gA,set_cons_zero,wY,j4];refine step i H' _ f o λr v g h u=>?_;have q:=g _ _ p;have l:r≠B_:=λz=>by rw[z,p]at h;cases h
  refine⟨vs,q,?_,⟨_,rfl⟩,(o.trans g).set d _,vs++[.ref r],af,?_⟩
  ·have:=s.length
   rw[b5,h7]at this;rw[this];exact g4 (g4 f hn) a_
  ·rw[u5,hU];exact(s.mono g).upd.append ⟨⟨r,rfl,l,by rw[aC l];exact u⟩,trivial⟩
 ·have e:i=n:=by omega
  subst e;exact .inl ⟨dy _,fin B_ vs H d o p s⟩
def HB(n:Nat):aq (2 ^ n-1)=List.range n:=by
 rw[<-sW (n:=n) (by have:=r4 n;omega)]
 apply List.filter_eq_self.mpr
 intro i hi;rw[Nat.testBit_two_pow_sub_one];exact cc<|fO.mp hi
def HC(K:Frag):Sp:=λa H Q _=>∃(c:Addr) (cs:e_),a=[.ref c]/\aw K H c (cs.map V.int)/\xl cs/\∀(l ex:Addr) (us:u_) (H':Hp),ag H H'->H' l=some (.lst us)->LL ex H' us (gB cs)->Q (.ref l) H'
def Ta(H0:Hp)(c:Addr)(cs:e_)(i:Nat)(σ:St)(H:Hp):Prop:=∃(l ex:Addr) (us:u_) (y1 y2 y3:v_),σ=[some (.ref c),some<|.ref l,y1,y2,y3]/\ag H0 H/\H l=some (.lst us)/\LL ex H us (gB<|cs.take i)
def Tb(H0:Hp)(c l ex:Addr)(us:u_)(cs:e_)(i j:Nat)(σ:St)(H:Hp):Prop:=∃(m ey:Addr) (ws:u_) (y1:v_),σ=[some (.ref c),some<|.ref l,some<|.int<|cs.getD i 0,some<|.ref m,y1]/\ag H0 H/\H l=some (.lst us)/\LL ex H us (gB<|cs.take i)/\H m=some (.lst ws)/\LL ey H ws (ext ((gB<|cs.take i).take j) (cs.getD i 0).toNat)
def xl.pre{cs:e_}(h:xl cs)(n:Nat)(hn:n<=cs.length):(gB<|cs.take n).length<=256:=by
 have h1:=w4 h.lo n hn;have a:=L6 (cs:=cs) (l:=List.range n) (m:=List.range cs.length) (by rw[show List.range n=(List.range cs.length).take n by rw[List.take_range];congr 1;omega];exact take_sublist _ _) λj hj=>(h.get<|fO.mp hj).1
 rw[mr n hn,mr _<|dy _,sC]at a
 have:=h.top
 omega
noncomputable def kd(b:Bool):Str:=if b then "ring" else "circle"
def uX(b:Bool):decide (kd b="ring")=b:=by cases b<;>decide
def GL(K:Frag)(H:Hp):u_->List (Bool × List Nat)->Prop
 | [],[]=>True
 |v::a,g::L=>(∃r p,v=.ref r/\aL K H r [.str (kd g.1),.ref p]/\aL K H p ((au g.2).map V.int))/\GL K H a L
 |_,_=>False
theorem GL.mono(s:ag H H'):∀ {vs:u_} {L:B0L},GL K H vs L->GL K H' vs L
 | [],[],h=>h
 |_::_,_::_,⟨⟨r,p,e,h,a⟩,t⟩=>⟨⟨r,p,e,s.aP h,s.aP a⟩,GL.mono s t⟩
 | [],_::_,h=>h.elim
 |_::_,[],h=>h.elim
theorem GL.length:∀ {vs:u_} {L:B0L},GL K H vs L->vs.length=L.length
 | [],[],_=>rfl
 |_::_,_::_,⟨_,t⟩=>by rw[mo,mo,GL.length t]
 | [],_::_,h=>h.elim
 |_::_,[],h=>h.elim
theorem GL.get:∀ {vs:u_} {L:B0L} {i:Nat} {v:V},GL K H vs L->vs[i]?=some v->∃g r p,L[i]?=some g/\v=.ref r/\aL K H r [.str (kd g.1),.ref p]/\aL K H p ((au g.2).map V.int)
 | [],[],i,v,_,e=>by simp at e
 |_::_,g::_,0,v,⟨⟨r,p,e,h,c⟩,_⟩,e2=>by simp at e2;subst e2;exact⟨g,r,p,rfl,e,h,c⟩
 |_::_,_::_,i+1,v,⟨_,t⟩,e2=>by
  obtain⟨g,r,p,a,b⟩:=GL.get (i:=i) (v:=v) t (by simpa using e2)
  exact⟨g,r,p,by simpa using a,b⟩
 | [],_::_,_,_,h,_=>h.elim
 |_::_,[],_,_,h,_=>h.elim
variable{L:B0L}
def V3{rest:St}{Q:VK}{H1:Hp}(val:(Bool × List Nat)->Int)(h:aL K H1 a us)(hg:GL K H1 us L)(hn:L.length<sizeLine)
  (step:∀(i:Nat) g p H (A:q_),L[i]?=some g->ag H1 H->aL K H p ((au g.2).map V.int)->(∀H',ag H H'->A (.int<|val g) H')->te (some (.str<|kd g.1)::some (.ref p)::rest) H A)
  (fin:∀B_ H,H1 B_=none->ag H1 H->H B_=some (.lst<|(L.map val).map V.int)->Q (.ref B_) H):
  ∃b,V.ref a=.ref b/\(∃xs,aL K H1 b xs)/\sN (qI K 2<|dX (bF 0)<|dX (bF 1) qH) gZ te (none::none::rest) Q (Fu K b) H1:=by
 have F:=hg.length;refine⟨a,rfl,⟨_,h⟩,λB_ c=>?_⟩;refine⟨λi m τ H=>m=L.length-i/\i<=L.length/\(∃y z,τ=y::z::rest)/\ag H1 H/\H B_=some (.lst<|((L.take i).map val).map V.int),⟨L.length,by simp,zero_le _,⟨_,_,rfl⟩,ag.new c _,af⟩,?_⟩
 rintro i m τ H ⟨rfl,hi,⟨y,z,rfl⟩,d,s⟩;have l:=d.aP h
 by_cases o:i<L.length
 ·have hx:us[i]?=some (us[i]'(by omega)):=b4 _
  refine .inr ⟨⟨_,_,l,hx⟩,λt H'=>(∃y z,t=y::z::rest)/\ag H1 H'/\H' B_=some (.lst<|((L.take<|i+1).map val).map V.int),λt H' ⟨u,v,w⟩=>⟨L.length-(i+1),by omega,rfl,o,u,v,w⟩,λx H' y=>?_⟩
  obtain⟨rfl,D⟩:=y;have q:=D _ l;obtain⟨g,r,p,f,rfl,C,B⟩:=(hg.mono d).get q;refine⟨r,_,rfl,C,rfl,_,_,rfl,_,_,rfl,rfl,?_⟩;simp only[gA,wY,j4,set_cons_zero,set_cons_succ];refine step i g p _ _ f d B λE j=>?_;have n:=j _ _ s;refine⟨_,n,?_,⟨_,_,rfl⟩,(d.trans j).set c _,?_⟩
  ·rw[b5,b5,ri];omega
  ·rw[af]
   have:L.take (i+1)=L.take i++[g]:=by rw[take_succ,f];rfl
   rw[this,hU,hU];rfl
 ·have e:i=L.length:=by omega
  subst e;refine .inl ⟨⟨_,l,by omega⟩,fin B_ H c d ?_⟩
  rw[s,sC]
noncomputable def pk(cs:e_)(l:d_):e_:=l.map λi=>cs.getD i 0
noncomputable def xn(cs:e_)(g:Bool × List Nat):Int:=if g.1 then 1 else bQ (pr<|pk cs g.2) (pk cs g.2) / pr (pk cs g.2)
structure HD(n:Nat)(g:Bool × List Nat):Prop where
 lt:∀i∈g.2,i<n
 len:g.2.length<=8
variable{g:Bool × List Nat}
def HE{cs:e_}(h:cj cs)(hg:HD cs.length g):cj (pk cs g.2):=by
 refine⟨λc hc=>?_,by unfold pk;rw[b5];exact hg.len⟩
 obtain⟨i,hi,e⟩:=gh.mp hc;rw[<-e];exact h.get<|hg.lt i hi
def jg{cs:e_}{l:d_}:(pk cs l).length=l.length:=by unfold pk;rw[b5]
def Aa{cs:e_}{l:d_}{k:Nat}(h:k<l.length):(pk cs l).getD k 0=cs.getD (l.getD k 0) 0:=by
 unfold pk;rw[b3,ed,b4 h,b3 (l:=l),b4 h];rfl
end L2
namespace L2
open PySem PySem.Spec PyProof.Rows
inductive lD(K:Frag)(vs:u_)(H:Hp)(Q:VK)(E:XK):Prop
 |mk (c p:Addr) (cs:e_) (l:d_):(vs=[.ref c,.ref p])->aL K H c (cs.map V.int)->aL K H p ((au l).map V.int)->((∀i∈l,i<cs.length))->l.length<=8->(∀(t:Addr) (H':Hp),ag H H'->H' t=some (.tup<|(pk cs l).map V.int)->Q (.ref t) H')->lD K vs H Q E
inductive uY(K:Frag)(vs:u_)(H:Hp)(Q:VK)(E:XK):Prop
 |mk (c p:Addr) (cs:e_) (g:Bool × List Nat):(vs=[.ref c,.str<|kd g.1,.ref p])->aL K H c (cs.map V.int)->aL K H p ((au g.2).map V.int)->cj cs->HD cs.length g->(∀(H':Hp),ag H H'->Q (.int<|xn cs g) H')->uY K vs H Q E
inductive uZ(K:Frag)(vs:u_)(H:Hp)(Q:VK)(E:XK):Prop
 |mk (c g:Addr) (cs:e_) (us:u_) (L:B0L):(vs=[.ref c,.ref g])->aL K H c (cs.map V.int)->aL K H g us->GL K H us L->cj cs->((∀g∈L,HD cs.length g))->L.length<=100->(∀(H':Hp),ag H H'->Q (.int (L.map<|xn cs).sum) H')->uZ K vs H Q E
noncomputable def fZ(cs:e_)(l:d_):e_:=l.map λi=>cs.getD i 0
def fG{cs:e_}{l:d_}:(fZ cs l).length=l.length:=by unfold fZ;rw[b5]
def il{cs:e_}{l:d_}{k:Nat}(h:k<l.length):(fZ cs l).getD k 0=cs.getD (l.getD k 0) 0:=by
 unfold fZ;rw[b3,ed,b4 h,b3 (l:=l),b4 h];rfl
noncomputable def Cm(cs hs:e_)(g:Bool × List Nat)(i:Nat):Int:=if g.1 then rg g.2.length (g.2.idxOf i) (hs.getD (g.2.getD ((g.2.idxOf i+1)%g.2.length) 0) 0)else cg (fZ cs g.2) (fZ hs g.2) (g.2.idxOf i)
noncomputable def ip(cs:e_)(L:B0L)(hs:e_)(i:Nat):Int:=match L.find? (λg=>decide<|i∈g.2)with
 |none=>0
 |some g=>Cm cs hs g i
structure Qm(cs:e_)(ws:d_)(g:Bool × List Nat):Prop where
 lt:∀x∈g.2,x<cs.length
 nd:g.2.Nodup
 ring:g.1=true->2<=g.2.length/\(∀x∈g.2,cs.getD x 0=2)/\∀k,k<g.2.length->cF ws (g.2.getD k 0) (g.2.getD ((k+1)%g.2.length) 0)=true
 eI:g.1=false->∀x∈g.2,∀y∈g.2,x≠y->cF ws x y=true
structure jV(cs:e_)(ws:d_)(L:B0L):Prop where
 each:∀g∈L,Qm cs ws g
 rq:L.Pairwise λg h=>∀x∈g.2,x∉h.2
def fN{l:d_}{k:Nat}(h:k<l.length):l.getD k 0∈l:=by
 rw[b3,b4 h];exact kf h
def D4{l:d_}{k:Nat}(hd:l.Nodup)(h:k<l.length):l.idxOf (l.getD k 0)=k:=by
 rw[b3,b4 h];exact hd.idxOf_getElem k h
def getIdx{l:d_}{x:Nat}(h:x∈l):l.getD (l.idxOf x) 0=x:=by
 have a:=r3 h;rw[b3,b4 a];exact Re a
variable{hs':e_}
def D5{cs hs:e_}{ws:d_}{g:Bool × List Nat}{i:Nat}(h:Qm cs ws g)(hi:i∈g.2)(e:∀j,cF ws i j=true->hs.getD j 0=hs'.getD j 0):Cm cs hs g i=Cm cs hs' g i:=by
 have b:=r3 hi;unfold Cm
 cases hb:g.1 with
 |true=>
  obtain⟨d,_,c⟩:=h.ring hb
  have:=c _ b
  rw[getIdx hi]at this;rw[e _ this,if_pos rfl,if_pos rfl]
 |false=>
  simp only[Bool.false_eq_true,if_false];refine Hc λk hk=>?_
  by_cases a:k<g.2.length
  ·rw[il a,il a];exact e _ (h.eI hb i hi _ (fN a) λz=>hk (by rw[z,D4 h.nd a]))
  ·rw[b3,b3,h9 (by rw[fG];omega),h9 (by rw[fG];omega)]
def pH{L:B0L}{i:Nat}{g:Bool × List Nat}(h:L.find? (λg=>decide<|i∈g.2)=some g):g∈L/\i∈g.2:=⟨List.mem_of_find?_eq_some h,by have:=List.find?_some h;exact ot this⟩
def sY{cs hs:e_}{ws:d_}{L:B0L}{i:Nat}(h:jV cs ws L)(e:∀j,cF ws i j=true->hs.getD j 0=hs'.getD j 0):ip cs L hs i=ip cs L hs' i:=by
 unfold ip
 cases a:L.find? (λg=>decide<|i∈g.2)with
 |none=>rfl
 |some g=>
  obtain⟨h1,b⟩:=pH a;exact D5 (h.each g h1) b e
def Ma{cs hs:e_}{ws:d_}{g:Bool × List Nat}{i:Nat}(hp:∀c∈cs,1<=c)(hn:HN cs hs cs.length)(h:Qm cs ws g)(hi:i∈g.2):0<=Cm cs hs g i/\Cm cs hs g i<cs.getD i 0:=by
 have d:=r3 hi;unfold Cm
 cases hb:g.1 with
 |true=>
  obtain⟨n,hc,_⟩:=h.ring hb;have f:=fN (l:=g.2) (k:=(g.2.idxOf i+1)%g.2.length) (mod_lt _ (by omega))
  have m:=hn.2 _<|h.lt _ f;rw[hc _ f]at m;rw[hc i hi];simp only[if_true];unfold rg
  split<;>omega
 |false=>
  simp only[Bool.false_eq_true,if_false];have a:∀c∈fZ cs g.2,1<=c:=λc hc=>by
   obtain⟨x,hx,e⟩:=gh.mp hc;rw[<-e];exact hp _<|getD_mem<|h.lt x hx
  have j:g.2.idxOf i<(fZ cs g.2).length:=by rw[fG];exact d
  have b:=SD (hs:=fZ hs g.2) a j;rw[il d,getIdx hi]at b;exact⟨SA a j,b⟩
def ow{cs hs:e_}{ws:d_}{L:B0L}{i:Nat}(hp:∀c∈cs,1<=c)(hn:HN cs hs cs.length)(h:jV cs ws L)(hi:i<cs.length):0<=ip cs L hs i/\ip cs L hs i<cs.getD i 0:=by
 unfold ip
 cases a:L.find? (λg=>decide<|i∈g.2)with
 |none=>have:=hp _<|getD_mem hi;exact⟨by show(0:Int)<=0;decide,by show(0:Int)<_;omega⟩
 |some g=>
  obtain⟨h1,b⟩:=pH a;exact Ma hp hn (h.each g h1) b
noncomputable def iT(cs:e_)(g:Bool × List Nat):Int:=if g.1 then 1 else bQ (pr<|fZ cs g.2) (fZ cs g.2) / pr (fZ cs g.2)
noncomputable def xo(cs hs:e_)(g:Bool × List Nat):d_:=g.2.filter λx=>decide<|Cm cs hs g x=hs.getD x 0
def Ab{l:d_}(hd:l.Nodup)(p:Nat->Nat->Bool):(l.filter λx=>p (l.idxOf x) x).length=((List.range l.length).filter λk=>p k<|l.getD k 0).length:=by
 have e:l=(List.range l.length).map λk=>l.getD k 0:=by
  apply ext_getElem
  ·simp
  ·intro i h1 a;simp[h1]
 have:=List.filter_map (f:=λk=>l.getD k 0) (p:=λx=>p (l.idxOf x) x) (l:=List.range l.length)
 rw[<-e]at this;rw[this,b5]
 congr 1
 apply Ww
 intro k hk;show p (l.idxOf<|l.getD k 0) (l.getD k 0)=_;rw[D4 hd (fO.mp hk)]
def Mb{cs hs:e_}{ws:d_}{g:Bool × List Nat}(hp:∀c∈cs,1<=c)(hn:HN cs hs cs.length)(h:Qm cs ws g):iT cs g<=((xo cs hs g).length:Int):=by
 unfold iT xo
 cases hb:g.1 with
 |true=>
  simp only[if_true];obtain⟨b,hc,_⟩:=h.ring hb;obtain⟨k,hk,e⟩:=zZ b (h:=λk=>hs.getD (g.2.getD k 0) 0) λk hk=>by
   have f:=hn.2 _<|h.lt _<|fN hk;rw[hc _ (fN hk)]at f
   omega
  have hm:g.2.getD k 0∈g.2.filter λx=>decide (Cm cs hs g x=hs.getD x 0):=by
   rw[j5];refine⟨fN hk,cc ?_⟩;unfold Cm;rw[hb,if_pos rfl,D4 h.nd hk];exact e
  have:=length_pos_of_mem hm
  omega
 |false=>
  simp only[Bool.false_eq_true,if_false];have a:∀c∈fZ cs g.2,1<=c:=λc hc=>by
   obtain⟨x,hx,e⟩:=gh.mp hc;rw[<-e];exact hp _<|getD_mem<|h.lt x hx
  have d:LA (fZ cs g.2) (fZ hs g.2):=by
   refine⟨a,by rw[fG,fG],λk hk=>?_,λk hk=>?_⟩
   ·rw[fG]at hk;rw[il hk];exact(hn.2 _<|h.lt _<|fN hk).1
   ·rw[fG]at hk;rw[il hk,il hk];exact(hn.2 _<|h.lt _<|fN hk).2
  have j:=(zJ d).1;have m:=fk a;have e:(g.2.filter λx=>decide<|Cm cs hs g x=hs.getD x 0).length=(du (fZ cs g.2) (fZ hs g.2) (fZ cs g.2).length).length:=by
   have:=Ab h.nd λk x=>decide<|cg (fZ cs g.2) (fZ hs g.2) k=hs.getD x 0
   unfold du;rw[fG];have i:(g.2.filter λx=>decide<|Cm cs hs g x=hs.getD x 0)=g.2.filter λx=>decide (cg (fZ cs g.2) (fZ hs g.2) (g.2.idxOf x)=hs.getD x 0):=by
    apply Ww
    intro x _;unfold Cm;rw[hb]
    rfl
   rw[i,this]
   congr 1
   apply Ww
   intro k hk;rw[il (fO.mp hk)]
  rw[e]
  have:pr (fZ cs g.2)*(bQ (pr<|fZ cs g.2) (fZ cs g.2) / pr (fZ cs g.2))<=pr (fZ cs g.2)*((du (fZ cs g.2) (fZ hs g.2) (fZ cs g.2).length).length:Int):=by
   have l:=mul_ediv_add_emod (bQ (pr<|fZ cs g.2)<|fZ cs g.2)<|pr<|fZ cs g.2;rw[Int.mul_comm (pr<|fZ cs g.2) ((du (fZ cs g.2) (fZ hs g.2) (fZ cs g.2).length).length:Int)];omega
  exact Int.le_of_mul_le_mul_left this (by omega)
theorem sZ{cs:e_}{ws:d_}:∀ {L:B0L},(L.Pairwise λg h=>∀x∈g.2,x∉h.2)->∀ {g:Bool × List Nat} {x:Nat},g∈L->x∈g.2->L.find? (λg=>decide<|x∈g.2)=some g
 | [],_,_,_,h,_=>nomatch h
 |a::L,b,g,x,c,hx=>by
  rw[ro]at b
  rcases gg.mp c with z|z
  ·subst z;rw[find?_cons,cc hx]
  ·have:x∉a.2:=λw=>b.1 g z x w hx
   rw[find?_cons,dt this];exact sZ (cs:=cs) (ws:=ws) b.2 z hx
def jh{cs hs:e_}{ws:d_}{L:B0L}(hp:∀c∈cs,1<=c)(hn:HN cs hs cs.length)(h:jV cs ws L):(L.map<|iT cs).sum<=((rat (λi h=>ip cs L h i) cs.length hs:Nat):Int):=by
 have h1:∀M:B0L,(∀g∈M,g∈L)->(M.map<|iT cs).sum<=((M.flatMap<|xo cs hs).length:Int):=by
  intro M f
  induction M with
  |nil=>simp
  |cons a r m=>
   rw[m5,C6,flatMap_cons,eR,natCast_add]
   have:=Mb hp hn<|h.each a<|f a<|fA ..
   have:=m λg b=>f g<|fz _ b
   omega
 have p:=h1 L λg b=>b;have q:(L.flatMap<|xo cs hs).length<=rat (λi h=>ip cs L h i) cs.length hs:=by
  unfold rat;refine eC ?_ λx hx=>?_
  ·have j:∀M:B0L,(∀g∈M,g∈L)->(M.Pairwise λg h=>∀x∈g.2,x∉h.2)->(M.flatMap<|xo cs hs).Nodup:=by
    intro M f l
    induction M with
    |nil=>exact nodup_nil
    |cons a r m=>
     rw[ro]at l;rw[flatMap_cons,We];refine⟨(h.each a<|f a<|fA ..).nd.sublist Wm,m (λg b=>f g<|fz _ b) l.2,λx hx y hy e=>?_⟩;subst e;obtain⟨g,b,d⟩:=List.mem_flatMap.mp hy;exact l.1 g b x (j5.mp hx).1 (j5.mp d).1
   exact j L (λg b=>b) h.rq
  ·obtain⟨g,b,d⟩:=List.mem_flatMap.mp hx;obtain⟨n,o⟩:=j5.mp d;rw[j5,fO];refine⟨(h.each g b).lt x n,?_⟩;rw[kc];show ip cs L hs x=_;unfold ip;rw[sZ (cs:=cs) (ws:=ws) h.rq b n];exact ot o
 omega
variable{prog:Program}{w:World}
theorem kh:∀ {vs:f'} {ns:e_},IntsAre vs ns->ItemsAre (intKind prog w) ns vs
 |_,_,.nil=>.nil
 |_,_,.cons n t r=>.cons (by show(intKind prog w).is n (.int n t)=true;simp[intKind,Value.isInt])<|kh r
theorem nJ:∀ {vs:f'} {ns:e_},IntsAre vs ns->∀i,i<ns.length->∃u,vs[i]?=some (.int (ns.getD i 0) u)
 |_,_,.nil,i,h=>absurd h<|sU i
 |_,_,.cons n t _,0,_=>⟨t,rfl⟩
 |_,_,.cons n t r,i+1,h=>by
  obtain⟨u,e⟩:=nJ r i (by simpa using h)
  exact⟨u,by simpa using e⟩
variable{A:Around}{E:c_}{s:Shared}
def mw{p:Addr}{vs:f'}{ns:e_}{k:Int}{t:Tok}{Q:c_}(hp:s.heap.IsTuple p vs.toArray)(hi:IntsAre vs ns)(hk:k∈ns)(q:∀tk,Q (.int (ns.idxOf k:Nat) tk) {s with toks:=s.toks+1}):
  wpAny (model prog w) A (call (.builtin "tuple.index") [.ref p,.int k t]) Q E s:=by
 obtain⟨o,r,B,n,v⟩:=id hp;refine D2 slot_tuple_index hp.typeIs F.entry_tuple_index ?_ (F.args_tuple_index_2 _ _);unfold Builtin.«tuple.index»;refine cv (wpAny_of_eq (a:=(Value.ref p,[Value.int k t])) rfl ?_)
 dsimp only
 have h:=hi.length;have c:ns.idxOf k<ns.length:=BB.mpr hk;have e9:=nJ hi;unfold Builtin.Tuple.tupleItemsOf;refine cv<|cv<|F2 r v<|ek<|cv<|ek<|cv<|ek<|cv ?_;rw[Std.Legacy.Range.forIn_eq_forIn_range'];have b:∀(m i:Nat) (R:Option Fin × Unit->Shared->Prop),i+m=vs.length->i<=ns.idxOf k->R (some<|.done<|.ret<|.int (ns.idxOf k:Nat) s.toks,()) {s with toks:=s.toks+1}->
   wpAny (model prog w) A.in1 (forIn (List.range' i m) ((none,()):Option Fin × Unit) λ(i:Nat) __s=>
    match vs.toArray[i]? with
    |some y=>do
     let __do_lift<-eqBool y (Value.int k t)
     if __do_lift=true then do
       let __do_lift<-retInt ((i:Nat):Int)
       pure (ForInStep.done (some __do_lift,()))
      else pure (ForInStep.yield (none,()))
    |x=>pure<|ForInStep.yield (none,())) R E s:=by
  intro m
  induction m with
  |zero=>intro i R h1 l _;omega
  |succ m z=>
   intro i R h1 l j;obtain⟨u,hu⟩:=e9 i (by omega)
   rw[List.range'_succ,forIn_cons];have d:vs.toArray[i]?=some (.int (ns.getD i 0) u):=by simpa using hu
   simp only[d];refine cv<|cv<|wpAny_eqBool_int ?_
   by_cases e:i=ns.idxOf k
   ·have g:(ns.getD i 0==k)=true:=by
     rw[e,b3,b4 c];show(ns[ns.idxOf k]==k)=true;rw[Re c,Wl]
    rw[g,if_pos rfl];unfold retInt;refine cv<|cv<|wpAny_mkInt<|ek<|ek<|ek ?_;rw[e];exact j
   ·have g:(ns.getD i 0==k)=false:=by
     rw[b3,b4 (by omega)]
     exact ne_of_lt_idxOf (show i<ns.idxOf k by omega) (by omega)
    rw[g,if_neg a_]
    exact ek (z (i+1) R (by omega) (by omega) j)
 have f:(([: min vs.toArray.size vs.toArray.size]:Std.Legacy.Range)).size=vs.length:=by simp[Std.Legacy.Range.size]
 rw[f];exact b vs.length 0 _ (by omega) (zero_le _)<|ek ⟨_,rfl,q _⟩
def Mc(K:Frag):V->u_->Hp->VK->Prop:=λx a H Q=>∃(l:Addr) (ns:e_) (k:Int),x=.ref l/\a=[.int k]/\aL K H l (ns.map V.int)/\k∈ns/\Q (.int (ns.idxOf k:Nat)) H
def Ac{X:Cx}{K:Frag}(hK:X.K=K):yR X "tuple.index" (Mc K):=by
 subst hK;intro a s σ H x n v m Q I g c h;obtain⟨l,i,k,rfl,rfl,f,hk,q⟩:=h
 cases g
 obtain⟨u,rfl,d⟩:=c.one;obtain⟨t,rfl⟩:=d;obtain⟨b,r,e,hz⟩:=I.tuple f;exact mw (show s.heap.IsTuple l b.toArray from e) (intsAre_of r) hk (Q:=EP X a σ Q) λj=>⟨.int _,H,I.tok _,⟨_,rfl⟩,q⟩
def Tc(K:Frag)(H0:Hp)(c g h:Addr)(L:B0L)(i:Nat)(k:Nat)(σ:St)(H:Hp):Prop:=ag H0 H/\(∀t,t<k->∀x,L[t]?=some x->i∉x.2)/\∃y1 y2 y3:v_,σ=[some (.ref c),some<|.ref g,some<|.ref h,some<|.int (i:Int),y1,y2,y3]
def Ad{L:B0L}{i:Nat}(h:∀t,t<L.length->∀x,L[t]?=some x->i∉x.2):L.find? (λg=>decide<|i∈g.2)=none:=by
 rw[List.find?_eq_none];intro g b;obtain⟨t,a,e⟩:=qN b;rw[kc];exact h t a g (by rw[b4 a,e])
def Ae{L:B0L}{i k:Nat}{g:Bool × List Nat}(h:∀t,t<k->∀x,L[t]?=some x->i∉x.2)(hk:L[k]?=some g)(hi:i∈g.2):L.find? (λg=>decide<|i∈g.2)=some g:=by
 induction L generalizing k with
 |nil=>simp at hk
 |cons a r c=>
  cases k with
  |zero=>
   simp at hk
   subst hk;rw[find?_cons,cc hi]
  |succ k=>
   have b:=h 0 (succ_pos k) a rfl;rw[find?_cons,dt b];exact c (k:=k) (λt d x hx=>h (t+1) (by omega) x (by simpa using hx)) (by simpa using hk)
def Md{cs hs:e_}{l:d_}(hcs:cj cs)(hn:HN cs hs cs.length)(hl:∀x∈l,x<cs.length):SN (pk cs l) (pk hs l):=by
 refine⟨by rw[jg,jg],λj hj=>?_⟩
 rw[jg]at hj;rw[Aa hj];have hx:=hl _<|aX hj;have a:=hn.2 _ hx;exact(hcs.get hx).bt.of_le a.1 (by omega)
def u6(K:Frag)(H:Hp)(p:Addr):Prop:=(∃o,K.lookup p=some o/\o.cls=.type "tuple"/\o.dict=none)∨∃o u,H p=some (.kZ o u)/\o.cls=.type "tuple"/\o.dict=none
def u6.mono{K:Frag}{H H':Hp}{p:Addr}(s:ag H H'):u6 K H p->u6 K H' p
 |.inl h=>.inl h
 |.inr ⟨o,u,h,c⟩=>.inr ⟨o,u,s _ _ h,c⟩
def u6.gD{K:Frag}{H:Hp}{p B_:Addr}{ys:u_}{o:HO}(ha:H B_=some (.lst ys)):u6 K H p->u6 K (upd H B_ o) p
 |.inl h=>.inl h
 |.inr ⟨ob,u,h,c⟩=>.inr ⟨ob,u,by rw[aC (dj h ha λz=>nomatch z)];exact h,c⟩
variable{X:Cx}
def Qn{w_:aO0}{σ:St}{H:Hp}{p:Addr}(I:Inv X w_ σ H s)(ty:u6 X.K H p):s.TypeIs (.ref p) "tuple"/\∀a,Value.ref p=.ref a->∃ob,s.heap.get? a=some ob/\ob.dict=none:=by
 rcases ty with ⟨o,hk,hc,b⟩|⟨o,u,hk,hc,b⟩
 ·refine⟨⟨o,I.wz p o hk,hc⟩,λa e=>?_⟩
  cases e
  exact⟨o,I.wz _ o hk,b⟩
 ·obtain⟨c,_⟩:=I.bq p _ hk;refine⟨⟨o,c,hc⟩,λa e=>?_⟩
  cases e
  exact⟨o,c,b⟩
def Qo(K:Frag)(r:V->u_->Hp->VK->Prop)(to:TE)(t:TA):TE:=λσ H Q=>to σ H λx H1=>(∃p,x=.ref p/\u6 K H1 p)/\t σ H1 λb a=>r x b a Q
variable{K:Frag}{r:V->u_->Hp->VK->Prop}
def Om{to:TE}{t:TA}{σ:St}{H:Hp}{Q:VK}:Qo K r to t σ H Q=to σ H λx H1=>(∃p,x=.ref p/\u6 K H1 p)/\t σ H1 λxs H2=>r x xs H2 Q:=rfl
variable{o e:Expr}{es:i_}{to:TE}{t:TA}{name:Str}{A' bN:Pos}{id:String}
def Qp(pa:PlainAttrs "tuple")(slot:Slot "tuple" name id)(hty:typeOf (.builtin id)=pure (.type "method_descriptor"))(hm:yR X id r)(ho:PE X o to)(ha:PA X (e::es) t)
  (fg:attributeBase o name X.env (eval o X.env)=eval o X.env:=by rfl)
  (hfew:((backTo bN<|starEach (e::es) X.env).all (λx=>!x.1)&&(backToKw bN<|keywordEach [] X.env).all (λx=>x.1.isSome)
   &&decide ((e::es).length+([]:List Keyword).length+(if([]:List Keyword).isEmpty then 0 else 1)<30))=true:=by rfl)
  (fh:(A'.endLine==bN.line)=true:=by rfl) (hs:starEach (e::es) X.env=(false,eval e X.env)::starEach es X.env:=by rfl) (hplain:(backTo bN<|starEach es X.env).any (·.1)=false:=by rfl):
  PE X (.Call (.Attribute o name A') (e::es) [] bN) (Qo X.K r to t):=by
 intro a s σ H Q I h;refine wpAny_Call_method_late fg hfew fh rfl<|bP (ho a s σ H _ I h) λv y ⟨x,H1,b,i,⟨p,d,ty⟩,j⟩=>?_;subst d
 cases i
 obtain⟨h1,g⟩:=Qn b ty;refine⟨"tuple",id,pa,slot,hty,h1,g,?_⟩;have c:=ha bN a y σ H1 _ b j;rw[hs]at c ⊢;refine Calls.callWith_builtin (by show(false||(backTo bN<|starEach es X.env).any (·.1))=false;rw[hplain]<;>rfl)<|Calls.evalArgs_plain ?_
 exact bP c λn w ⟨q,l,u,m,f⟩=>hm a w σ l (.ref p) q (.ref p) n Q u rfl m f
def VH(pa:PlainAttrs "tuple")(slot:Slot "tuple" name id)(hty:typeOf (.builtin id)=pure (.type "method_descriptor"))(hm:yR X id r)(h:X.K=K)(ho:QE X o to)(ha:QB X (e::es) t)
  (fg:attributeBase o name X.env (eval o X.env)=eval o X.env:=by rfl) (hlen:decide ((e::es).length<30)=true:=by rfl)
  (fh:(A'.endLine==bN.line)=true:=by rfl):QE X (.Call (.Attribute o name A') (e::es) [] bN) (Qo K r to t):=by
 subst h;exact⟨Qp pa slot hty hm ho.h ha.h.pa fg (by rw[mf ha.h.ns];exact hlen) fh (bf ha.h.he)<|dm ha.h.GP⟩
def Td(K:Frag):u_->Hp->VK->Prop:=λa H Q=>∃p ys,a=[.ref p]/\aw K H p ys/\∀l o,H l=none->o.cls=.type "tuple"->o.dict=none->Q (.ref l) (upd H l<|.kZ o<|.tup ys)
def pI(hK:X.K=K):b6 X (.type "tuple") (Td K):=by
 subst hK;intro a s σ H v t Q I r h;obtain⟨p,g,rfl,hq,q⟩:=h;obtain⟨u,rfl,l⟩:=vals1 r
 cases l
 obtain⟨c,f,n,hz⟩:=I.list hq;have i:=f.length;refine call_tuple_list n.isList (λd kp=>?_) (by simp only[List.size_toArray]<;>omega)
 have j:Inv X a σ H {s with heap:=d}:=I.kept (t':=s.toks) kp;have m:Inv X a σ (upd H d.objs.size<|.kZ {cls:=.type "tuple",data:=.seq c.toArray}<|.tup g) {s with heap:=d.push {cls:=.type "tuple",data:=.seq c.toArray}}:=
  j.laid (t':=s.toks) (λb o e=>ef _ e) (dy _) (show bG X.prog X.w _ _ _ (.kZ _<|.tup g)from⟨gz _ rfl,hz,c,f,IsTup.new _ _⟩)
 exact⟨.ref d.objs.size,_,m,rfl,q _ _ (j.bq.fresh<|dy _) rfl rfl⟩
theorem aL.kZ{K:Frag}{H:Hp}{a:Addr}{o:Obj}{xs:u_}(h:H a=some (.kZ o<|.tup xs)):aL K H a xs:=.inl<|.inr ⟨o,h⟩
def GF(K:Frag)(H:Hp):u_->List (Bool × List Nat)->Prop
 | [],[]=>True
 |v::a,g::L=>(∃r p,v=.ref r/\aL K H r [.str (kd g.1),.ref p]/\aL K H p ((au g.2).map V.int)/\u6 K H p)/\GF K H a L
 |_,_=>False
variable{H:Hp}
theorem GF.gl:∀ {vs:u_} {L:B0L},GF K H vs L->GL K H vs L
 | [],[],h=>h
 |_::_,_::_,⟨⟨r,p,e,h,a,_⟩,t⟩=>⟨⟨r,p,e,h,a⟩,GF.gl t⟩
 | [],_::_,h=>h.elim
 |_::_,[],h=>h.elim
variable{H':Hp}
theorem GF.mono(s:ag H H'):∀ {vs:u_} {L:B0L},GF K H vs L->GF K H' vs L
 | [],[],h=>h
 |_::_,_::_,⟨⟨r,p,e,h,a,b⟩,t⟩=>⟨⟨r,p,e,s.aP h,s.aP a,b.mono s⟩,GF.mono s t⟩
 | [],_::_,h=>h.elim
 |_::_,[],h=>h.elim
theorem GF.gD{B_:Addr}{ys:u_}{o:HO}(ha:H B_=some (.lst ys)):∀ {vs:u_} {L:B0L},GF K H vs L->GF K (upd H B_ o) vs L
 | [],[],h=>h
 |_::_,_::_,⟨⟨r,p,e,h,a,b⟩,t⟩=>⟨⟨r,p,e,h.gD ha,a.gD ha,b.gD ha⟩,GF.gD ha t⟩
 | [],_::_,h=>h.elim
 |_::_,[],h=>h.elim
theorem GF.append:∀ {vs ws:u_} {L M:B0L},GF K H vs L->GF K H ws M->GF K H (vs++ws) (L++M)
 | [],_,[],_,_,h=>h
 |_::_,_,_::_,_,⟨a,t⟩,h=>⟨a,GF.append t h⟩
 | [],_,_::_,_,h,_=>h.elim
 |_::_,_,[],_,h,_=>h.elim
theorem GF.length{vs:u_}{L:B0L}(h:GF K H vs L):vs.length=L.length:=h.gl.length
theorem GF.get:∀ {vs:u_} {L:B0L} {i:Nat} {v:V},GF K H vs L->vs[i]?=some v->∃g r p,L[i]?=some g/\v=.ref r/\aL K H r [.str (kd g.1),.ref p]/\aL K H p ((au g.2).map V.int)/\u6 K H p
 | [],[],i,v,_,e=>by simp at e
 |_::_,g::_,0,v,⟨⟨r,p,e,h,c⟩,_⟩,e2=>by simp at e2;subst e2;exact⟨g,r,p,rfl,e,h,c⟩
 |_::_,_::_,i+1,v,⟨_,t⟩,e2=>by
  obtain⟨g,r,p,a,b⟩:=GF.get (i:=i) (v:=v) t (by simpa using e2)
  exact⟨g,r,p,by simpa using a,b⟩
 | [],_::_,_,_,h,_=>h.elim
 |_::_,[],_,_,h,_=>h.elim
def Qq{a:Addr}{us:u_}{L:B0L}{i0 j0:Nat}{tb:TS}{D:Ends}{σ:St}(I:o_)(h:aL K H a us)(hL:GF K H us L)(h0:I 0 σ H)(hl:∀i σ H,I i σ H->aL K H a us/\GF K H us L)
  (step:∀(i:Nat) g p σ H,L[i]?=some g->aL K H p ((au g.2).map V.int)->u6 K H p->I i σ H->tb {D with nx:=I<|i+1,ct:=I<|i+1,bk:=D.nx} ((σ.set i0<|some<|.str<|kd g.1).set j0<|some<|.ref p) H)
  (fin:∀σ H,I L.length σ H->D.nx σ H):∃b,V.ref a=.ref b/\(∃xs,aL K H b xs)/\qO (qI K 2<|dX (bF i0)<|dX (bF j0) qH) tb D σ (Fu K b) H:=by
 refine⟨a,rfl,⟨_,h⟩,BN (xs:=us) I h0 (λi σ H _ p=>(hl i σ H p).1) (λi x σ H e p=>?_) λσ H p=>fin σ H (by rw[hL.length]at p;exact p)⟩
 obtain⟨g,r,l,c,rfl,j,d,f⟩:=(hl i σ H p).2.get e;exact⟨r,_,rfl,j,rfl,_,_,rfl,_,_,rfl,rfl,step i g l σ H c d f p⟩
end L2
namespace L2
open PySem PySem.Spec PyProof.Rows
inductive Qr(K:Frag)(vs:u_)(H:Hp)(Q:VK)(E:XK):Prop
 |mk (c g h:Addr) (cs hs:e_) (ws:d_) (us:u_) (L:B0L) (i:Nat):(vs=[.ref c,.ref g,.ref h,.int i])->aL K H c (cs.map V.int)->aL K H g us->GF K H us L->aL K H h (hs.map V.int)->cj cs->HN cs hs cs.length->jV cs ws L->i<cs.length->(∀(H':Hp),ag H H'->Q (.int<|ip cs L hs i) H')->Qr K vs H Q E
def ag.off{w:Addr}{H0 H H':Hp}(a:ag H0 H)(hw:H0 w=none)(s:Off w H H'):ag H0 H':=λb o h=>s b o (aO h hw)<|a b o h
variable{X:Cx}{pos:Pos}
def Oo:QE X (.Dict [] [] pos) zu:=⟨Gv⟩
variable{o i:Expr}{td ty:TE}
def Te(hu:X.A.units+1<cLine)(hi:QE X i ty)(ho:QE X o td)(hm:behindInMarks .In o=false):QE X (.Compare i [.In] [o] pos) (Lf ty td):=⟨OY (Gs hu hi.h ho.h) hm⟩
variable{value:Expr}{pos':Pos}{tv:TE}
def Oq(hu:X.A.units+1<cLine)(hv:QE X value tv)(ho:QE X o td)(hi:QE X i ty)(hs:swapsWith value (some<|.Subscript o i pos') pos.line X.env=pure false:=by rfl):QS X (.Assign [.Subscript o i pos'] value pos) (Gr td ty tv):=⟨Lh hu ho.h hi.h hv.h hs⟩
variable{H:Hp}{Q:VK}{σ:St}
def HF:zu σ H Q=∀p,H p=none->Q (.ref p) (upd H p<|.dK []):=rfl
def Ot:Lf ty td σ H Q=ty σ H λy H1=>td σ H1 λx H2=>∃a o,x=.ref a/\kq H2 a y o/\Q (.bl o.isSome) H2:=rfl
variable{D:Ends}
def HG:Gr td ty tv D σ H=tv σ H λv H1=>td σ H1 λx H2=>ty σ H2 λy H3=>∃a H4,x=.ref a/\uw H3 a y v H4/\D.nx σ H4:=rfl
def u1(hu:X.A.units+64<cLine):X.A.units+1<cLine:=by omega
def HH(H:Hp)(d:Addr)(ns:e_):Prop:=∃C_:s_,H d=some (.dK C_)/\C_.length<=ns.length/\∀k:Int,(cZ C_<|Sum.inl k).isSome=decide (k∈ns)
variable{d:Addr}
def HH.nil(h:H d=some (.dK [])):HH H d []:=⟨[],h,dy _,λk=>by rw[Gm];rfl⟩
def HH.same{H':Hp}{ns:e_}(s:ag H H'):HH H d ns->HH H' d ns
 |⟨a,h,l,v⟩=>⟨a,s _ _ h,l,v⟩
def Qs{ns:e_}{k:Int}(h:HH H d ns)(q:Q (.bl<|decide<|k∈ns) H):∃a o,V.ref d=.ref a/\kq H a (.int k) o/\Q (.bl o.isSome) H:=by
 obtain⟨b,e,_,v⟩:=h;exact⟨d,_,rfl,kq.k (k:=Sum.inl k) e,by rw[v];exact q⟩
def HI(C_:s_)(k:Key)(y:V):(putK C_ k y).length<=C_.length+1:=by
 unfold putK
 split
 ·rw[b5];omega
 ·rw[eR];exact dy _
def Me{ns:e_}{k:Int}{y:V}{Q:r_}(h:HH H d ns)(hl:ns.length<sizeLine)(q:∀o,HH (upd H d o) d (ns++[k])->Q (upd H d o)):∃a H4,V.ref d=.ref a/\uw H a (.int k) y H4/\Q H4:=by
 obtain⟨b,e,l,v⟩:=h;refine⟨d,_,rfl,uw.k (k:=Sum.inl k) e<|m2 l hl,q _ ⟨_,af,?_,λj=>?_⟩⟩
 ·rw[eR];exact gr (HI _ _ _)<|Nat.succ_le_succ l
 ·rw[Gn]
  by_cases c:j=k
  ·subst c;rw[if_pos rfl]
   simp
  ·rw[if_neg (λz=>c<|Sum.inl.inj z),v]
   congr 1
   simp[c]
noncomputable def pJ(l:d_):Bool:=(List.range<|l.length-1).all λk=>decide<|l.getD k 0<l.getD (k+1) 0
def xp{l:d_}(h:pJ l=true):l.Nodup:=by
 have b:∀k,k+1<l.length->l.getD k 0<l.getD (k+1) 0:=λk hk=>by
  have:=ka.mp h k (fO.mpr (by omega))
  simpa using this
 have lt:∀d i,i+d+1<l.length->l.getD i 0<l.getD (i+d+1) 0:=by
  intro d
  induction d with
  |zero=>intro i hi;exact b i hi
  |succ d f=>intro i hi;exact Nat.lt_trans (f i (by omega)) (b (i+d+1) (by omega))
 rw[Do,List.pairwise_iff_getElem];intro i j hi hj c e
 have:=lt (j-i-1) i (by omega)
 rw[show i+(j-i-1)+1=j by omega,b3,b3,b4 hi,b4 hj]at this
 exact Df _ (by have a:l[i]<l[j]:=this;rw[e]at a;exact a)
noncomputable def nats(ns:e_):d_:=ns.map toNat
noncomputable def Kw(n:Nat)(ns:e_):Bool:=ns.all λi=>decide (0<=i)&&decide (i<(n:Int))
def Mf{n:Nat}{ns:e_}(h:Kw n ns=true):ns=au (nats ns)/\∀x∈nats ns,x<n:=by
 have hb:∀i∈ns,0<=i/\i<(n:Int):=λi hi=>by
  have:=ka.mp h i hi
  simpa using this
 refine⟨?_,λx hx=>?_⟩
 ·unfold au nats;rw[k6]
  apply ext_getElem
  ·simp
  ·intro i h1 a
   have:=hb _<|kf h1
   simp
   omega
 ·obtain⟨i,hi,rfl⟩:=gh.mp hx
  have:=hb i hi
  omega
noncomputable def D6(cs:e_)(ws:d_)(b:Bool)(l:d_):Bool:=if b then j8 ws l&&l.all (λx=>decide<|cs.getD x 0=2)else pJ l&&bY ws l
noncomputable def Fz(cs:e_)(ws:d_)(g:Bool × List Int):Bool:=decide (1<=g.2.length)&&(Kw cs.length g.2&&D6 cs ws g.1 (nats g.2))
noncomputable def FA(cs:e_)(ws:d_):e_->Nat->List (Bool × List Int)->Option Nat
 |_,_,[]=>none
 |gone,k,g::r=>if(Fz cs ws g&&!(g.2.any λi=>decide<|i∈gone))=true then FA cs ws (gone++g.2) (k+1) r else some k
noncomputable def oV:Option Nat->V
 |none=>.bE
 |some k=>.int (k:Int)
def GI(K:Frag)(H:Hp):u_->List (Bool × List Int)->Prop
 | [],[]=>True
 |v::a,g::L=>(∃r p,v=.ref r/\aL K H r [.str (kd g.1),.ref p]/\aL K H p (g.2.map V.int))/\GI K H a L
 |_,_=>False
variable{K:Frag}
theorem GI.length:∀ {vs:u_} {L:List (Bool × List Int)},GI K H vs L->vs.length=L.length
 | [],[],_=>rfl
 |_::_,_::_,⟨_,t⟩=>by rw[mo,mo,GI.length t]
 | [],_::_,h=>h.elim
 |_::_,[],h=>h.elim
theorem GI.get:∀ {vs:u_} {L:List (Bool × List Int)} {i:Nat} {v:V},GI K H vs L->vs[i]?=some v->∃g r p,L[i]?=some g/\v=.ref r/\aL K H r [.str (kd g.1),.ref p]/\aL K H p (g.2.map V.int)
 | [],[],i,v,_,e=>by simp at e
 |_::_,g::_,0,v,⟨⟨r,p,e,h,c⟩,_⟩,e2=>by simp at e2;subst e2;exact⟨g,r,p,rfl,e,h,c⟩
 |_::_,_::_,i+1,v,⟨_,t⟩,e2=>by
  obtain⟨g,r,p,a,b⟩:=GI.get (i:=i) (v:=v) t (by simpa using e2)
  exact⟨g,r,p,by simpa using a,b⟩
 | [],_::_,_,_,h,_=>h.elim
 |_::_,[],_,_,h,_=>h.elim
end L2
namespace L2
open PySem PySem.Spec PyProof.Rows
inductive u9(K:Frag)(vs:u_)(H:Hp)(Q:VK)(E:XK):Prop
 |mk (p:Addr) (l:d_):vs=[.ref p]->aL K H p ((au l).map V.int)->1<=l.length->l.length<=90->(∀H',ag H H'->Q (.bl<|pJ l) H')->u9 K vs H Q E
inductive HJ(K:Frag)(vs:u_)(H:Hp)(Q:VK)(E:XK):Prop
 |mk (c w p:Addr) (cs:e_) (ws:d_) (g:Bool × List Int):(vs=[.ref c,.ref w,.str<|kd g.1,.ref p])->aL K H c (cs.map V.int)->aL K H w ((au ws).map V.int)->aL K H p (g.2.map V.int)->ws.length=cs.length->cs.length<=8->g.2.length<=90->(∀H',ag H H'->Q (.bl<|Fz cs ws g) H')->HJ K vs H Q E
inductive pK(K:Frag)(vs:u_)(H:Hp)(Q:VK)(E:XK):Prop
 |mk (c w g:Addr) (cs:e_) (ws:d_) (us:u_) (L:List (Bool × List Int)):(vs=[.ref c,.ref w,.ref g])->aL K H c (cs.map V.int)->aL K H w ((au ws).map V.int)->aL K H g us->GI K H us L->ws.length=cs.length->cs.length<=8->((∀g∈L,g.2.length<=30))->L.length<=30->(∀H',ag H H'->Q (oV<|FA cs ws [] 0 L) H')->pK K vs H Q E
def HK(l:d_):nats (au l)=l:=by
 unfold nats au;rw[k6]
 conv=>rhs;rw[<-List.map_id l]
 apply Os
 intro x _;exact k4 x
def nK(L:d_):(List.range L.length).map (λk=>L.getD k 0)=L:=by
 apply C2
 intro k
 by_cases hk:k<L.length
 ·rw[ed,mv hk,b4 hk];show some (L.getD k 0)=_;rw[b3,b4 hk];rfl
 ·rw[h9 (by rw[b5,h7];omega),h9 (by omega)]
variable{t:TA}
def Co{σ:St}{H:Hp}{R:It->r_}:BM t σ H R=t σ H λvs H1=>∃i j:Int,vs=[.int i,.int j]/\(-(2 ^ 62)<=i/\i<2 ^ 62/\-(2 ^ 62)<=j/\j<2 ^ 62)/\R (wF i (j-i).toNat) H1:=rfl
def HL{i j:Int}{lo n:Nat}{g:TG}{tb:TS}{D:Ends}{σ:St}{H:Hp}(I:o_)(ei:i=(lo:Int))(ej:j=((lo+n:Nat):Int))(hn:lo+n<=1000000)(h0:I 0 σ H)
  (step:∀k σ H,k<n->I k σ H->g (.int ((lo+k:Nat):Int)) σ H λσ2 H2=>tb {D with nx:=I<|k+1,ct:=I<|k+1,bk:=D.nx} σ2 H2)
  (fin:∀σ H,I n σ H->D.nx σ H):∃i' j':Int,[V.int i,V.int j]=[.int i',.int j']/\(-(2 ^ 62)<=i'/\i' < 2 ^ 62/\-(2 ^ 62)<=j'/\j' < 2 ^ 62)/\qO g tb D σ (wF i' (j'-i').toNat) H:=by
 subst ei ej;refine⟨_,_,rfl,⟨by omega,by omega,by omega,by omega⟩,?_⟩
 rw[show(((lo+n:Nat):Int)-(lo:Int)).toNat=n by omega]
 refine r6 (n:=n) I h0 (λk σ H hk p=>?_) λσ H p=>fin σ H p;rw[show(lo:Int)+(k:Nat)=((lo+k:Nat):Int) by omega]
 exact step k σ H hk p
variable{z:Str}
def tf{m:Made}{X:Cx}{w_:aO0}{σ:St}{H:Hp}{Q:VK}{s:Shared}(I:Inv X w_ σ H s)(hm:(∃t,m=.val (.str z t))∨m=.str z)(hz:z.length<=sizeLine)(q:Q (.str z) H):m.post (EP X w_ σ Q) s:=by
 rcases hm with ⟨t,rfl⟩|rfl
 ·exact⟨.str z,H,I,⟨_,rfl⟩,q⟩
 ·exact⟨hz,.str z,H,I.tok _,⟨_,rfl⟩,q⟩
def Vj:V->j_->j_->Hp->VK->Prop:=λx l u H Q=>∃z,x=.str z/\(StrLaws.sliceText z l u).length<=sizeLine/\Q (.str<|StrLaws.sliceText z l u) H
variable{X:Cx}
def vc:Py X Vj:=by
 intro d s σ H x v n r b hi y Q I m i g f h;obtain⟨z,rfl,hz,q⟩:=h;obtain⟨t,rfl⟩:=m;refine⟨"str",_,slot_str_getitem.lookup,typeIs_str s z t,?_⟩;have a:∀ {w:Value} {o:j_},IsPart w o->∃p:Option (Int × Tok),w=partValue p/\p.map (·.1)=o:=λ{w o} h=>by
  cases h with
  |none=>exact⟨none,rfl,rfl⟩
  |int=>exact⟨some (_,_),rfl,rfl⟩
 obtain⟨l,rfl,j⟩:=a g;obtain⟨u,rfl,hu⟩:=a f;refine wpAny_getItem_str_slice (st:=none) i rfl ?_;refine tf I ?_ hz q;have e:sliceMade z t l u none=if((Builtin.Str.strSliceIndices b hi 1 z.length).length==z.length)=true then Made.val (Value.str z t)else Made.str ⟨((Builtin.Str.strSliceIndices b hi 1 z.length).filterMap λx=>z.cps[x]?).toArray⟩:=by
  unfold sliceMade slicePicked;rw[j,hu]
  rfl
 have e2:StrLaws.sliceText z b hi=if((Builtin.Str.strSliceIndices b hi 1 z.length).length==z.length)=true then z else⟨((Builtin.Str.strSliceIndices b hi 1 z.length).filterMap λx=>z.cps[x]?).toArray⟩:=by
  unfold StrLaws.sliceText
  rfl
 rw[e,e2]
 by_cases c:((Builtin.Str.strSliceIndices b hi 1 z.length).length==z.length)=true
 ·rw[if_pos c,if_pos c];exact .inl ⟨t,rfl⟩
 ·rw[if_neg c,if_neg c];exact .inr rfl
noncomputable def Tf(z:Str):It:=⟨λi _=>i<z.cps.size,λi H x a=>a=H/\∃c,z.cps[i]?=some c/\x=.str ⟨#[c]⟩,λi _=>z.cps.size<=i⟩
def Qt(te:TE):TI:=λσ H R=>te σ H λx H1=>∃z,x=.str z/\R (Tf z) H1
def tj{P:Program}{w:World}{A:Around}(hA:A.handled=none)(I:Addr)(x:Str)(t:Tok):Walks P w A I [I] [I] x.cps.size (SignAt x) λi h=>h.IsStrIter I (strIterType x) x t i:=by
 unfold strIterType
 split
 ·exact Walks.strAscii hA I x t
 ·exact Walks.strWide hA I x t
variable{x:Str}{Q:c_}{t:Tok}
def HM{P:Program}{w:World}{A:Around}{E:c_}{s:Shared}{it:Addr}{i:Nat}(st:s.heap.IsStrIter it (strIterType x) x t i)(h:Q (.ref it) s):wpAny (model P w) A (pyIter<|.ref it) Q E s:=by
 unfold strIterType at st
 split at st
 ·exact wpAny_pyIter_striter_ascii st h
 ·exact wpAny_pyIter_striter_wide st h
theorem HP{P:Program}{w:World}{K:Frag}{tg:Expr}(z:Str)(t:Tok)(it:Addr):Turn P w K tg (Tf z) [it] it (λi h=>i<=z.cps.size/\h.IsStrIter it (strIterType z) z t i) where
 mem:=by simp
 obj:=λi h f b hb=>by
  have e:b=it:=by simpa using hb
  subst e;obtain⟨_,o,e,c,d⟩:=f;exact⟨o,e,λv z=>by rw[d]at z;cases z⟩
 keep:=λi h l f k=>by
  obtain⟨a,o,e,c,d⟩:=f;exact⟨a,o,k it (by simp) o e,c,d⟩
 item:=by
  intro X r C F hc i g s σ H E I m f n;subst r C F;obtain⟨B,D,L,q,p,G⟩:=m it (by simp)
  refine(tj (I.ok.hd hc) it z t).item i s _ E n f.2 λv l j J x kp=>?_;obtain⟨c,u,y,rfl⟩:=J;have M:Inv X g σ H {s with heap:=l,toks:=j}:=I.turned (t':=j) (λb o hb e=>kp b o (by simpa using hb) e) B D q p G
  have go:∀ {Q:Unit->Shared->Prop},Q () {s with heap:=l,toks:=j}->wpAny (model X.prog X.w) X.A (letOwnedTupleGo tg (.ref it)<|.str ⟨#[c]⟩ u) Q E {s with heap:=l,toks:=j}:=λhq=>by
   unfold letOwnedTupleGo
   cases tg<;>exact ek hq
  exact⟨_,rfl,go ⟨.str ⟨#[c]⟩,H,M,⟨_,rfl⟩,⟨rfl,c,y,rfl⟩,⟨n,x⟩,λb hb=>(m b hb).1⟩⟩
 done:=by
  intro X r C F hc i g s σ H E I m f n;subst r C F;obtain⟨B,D,L,q,p,G⟩:=m it (by simp)
  have e:i=z.cps.size:=Nat.le_antisymm f.1 n;subst e;exact(tj (I.ok.hd hc) it z t).done s _ E f.2 λl j kp=>⟨rfl,I.turned (t':=j) (λb o hb e=>kp b o (by simpa using hb) e) B D q p G⟩
 self:=λA i s Q E f h=>HM f.2 h
variable{e tg:Expr}{te:TE}
def Mg(he:PE X e te):PI X tg e (Qt te):=by
 intro a s σ H R I h;refine bP (he a s σ H _ I h) λv c ⟨x,H1,d,f,g⟩=>?_;obtain⟨z,rfl,q⟩:=g;obtain⟨t,rfl⟩:=f;refine wpAny_pyIter_strU ?_;refine⟨c.heap.objs.size,[c.heap.objs.size],_,_,H1,rfl,d.kept (t':=c.toks) λb o e=>ef _ e,HP z t _,⟨zero_le _,_,gz _ rfl,rfl,rfl⟩,λb hb=>?_,q⟩;have e:b=c.heap.objs.size:=by simpa using hb
 subst e;exact d.yX (dy _)<|d.bq.fresh<|dy _
def Ou{K:Frag}(he:QE X e te)(hK:X.K=K):QI X tg e (Qt te):=⟨Mg he.h⟩
def HQ{σ:St}{H:Hp}{R:It->r_}:Qt te σ H R=te σ H λx H1=>∃z,x=.str z/\R (Tf z) H1:=rfl
theorem HR{H1:Hp}:DG (Tf z) H1 z.cps.size λi=>.str ⟨#[(z.cps[i]?).getD 0]⟩ where
 go:=λi H _ hi=>hi
 stop:=λi H _ hi=>hi
 Dd:=λi H x a _ _ y=>by
  obtain⟨rfl,c,e,rfl⟩:=y;exact⟨rfl,by rw[e];rfl⟩
def Af:V->u_->Hp->VK->Prop:=λx a H Q=>∃z y,x=.str z/\a=[.str y]/\y.length≠0/\z.length+2<=sizeLine/\(Txt.split z y).length<=sizeLine/\∀l,H l=none->Q (.ref l) (upd H l<|.lst<|(Txt.split z y).map V.str)
theorem tm:∀(k:Nat) (l:f_),Vals (l.map V.str)<|strsFrom k l
 |_,[]=>.nil
 |k,x::r=>.cons ⟨_,rfl⟩<|tm _ r
def dh:yR X "str.split" Af:=by
 intro f s σ H x r v p Q I n m h;obtain⟨z,y,rfl,rfl,hy,hz,l,q⟩:=h;obtain⟨t,rfl⟩:=n;obtain⟨u,rfl,t',rfl⟩:=vals1 m;have c:(y.length==0)=false:=by simpa using hy
 have one:Txt.split z y=[z]->EP X f σ Q (.ref s.heap.objs.size) {s with heap:=s.heap.push {cls:=.type "list",data:=.seq #[.str z t]}}:=λe=>by
  rw[e]at q;exact⟨.ref _,_,I.laid (t':=s.toks) (λb o i=>ef _ i) (dy _) (show bG X.prog X.w _ _ _ (.lst [V.str z])from⟨by show 1<=sizeLine;decide,[.str z t],0,.cons (show RelV (.str z) _ from⟨t,rfl⟩) .nil,gz _ rfl⟩),rfl,q _<|I.bq.fresh<|dy _⟩
 by_cases a:(decide (z.length<y.length)||decide (Builtin.Str.strKind z<Builtin.Str.strKind y))=true
 ·refine GM KF (typeIs_str s z t) F.entry_str_split (F.args_str_split_2 _ _) (meets_str_split_cannot_occur z y t t' a) ?_;exact one (by unfold Txt.split;rw[if_pos a])
 ·have d:(decide (z.length<y.length)||decide (Builtin.Str.strKind z<Builtin.Str.strKind y))=false:=by simpa using a
  by_cases g:(Builtin.Str.occurrences z y 0 z.length<|z.length+1).isEmpty=true
  ·refine GM KF (typeIs_str s z t) F.entry_str_split (F.args_str_split_2 _ _) (meets_str_split_not_found z y t t' d c g) ?_;exact one (by unfold Txt.split;rw[if_neg a,if_pos g])
  ·have j:(Builtin.Str.occurrences z y 0 z.length<|z.length+1).isEmpty=false:=by simpa using g
   have e:Txt.split z y=Builtin.Str.partsBetween z (Builtin.Str.occurrences z y 0 z.length<|z.length+1) y.length:=by unfold Txt.split;rw[if_neg a,if_neg g]
   refine GM KF (typeIs_str s z t) F.entry_str_split (F.args_str_split_2 _ _) (meets_str_split_sep z y t t' d c j (by omega) (by rw[<-e];exact l)) ?_
   rw[<-e];exact⟨.ref _,_,I.laid (λb o i=>ef _ i) (dy _) (show bG X.prog X.w _ _ _ (.lst _)from⟨by rw[b5];exact l,_,0,tm _ _,gz _ rfl⟩),rfl,q _<|I.bq.fresh<|dy _⟩
def rJoin(K:Frag):V->u_->Hp->VK->Prop:=λx a H Q=>∃y p l,x=.str y/\a=[.ref p]/\aw K H p (l.map V.str)/\(l.map λz=>z.length+y.length).sum<=sizeLine/\(y.join l).length<=sizeLine/\Q (.str<|y.join l) H
theorem mx:∀ {l:f_} {us:f'},Vals (l.map V.str) us->∃m:List (Str × Tok),us=strValues m/\m.map (·.1)=l
 | [],_,.nil=>⟨[],rfl,rfl⟩
 |x::r,_,.cons ⟨t,rfl⟩ h=>by
  obtain⟨m,rfl,e⟩:=mx h;exact⟨(x,t)::m,rfl,by rw[m5,e]⟩
theorem tq(k:Nat):∀(l:f_) (a:Nat),l.foldl (λx1 x2=>x1+x2.length+k) a=a+(l.map λz=>z.length+k).sum
 | [],a=>by simp
 |x::r,a=>by rw[foldl_cons,tq k r,m5,C6];omega
def cJ{K:Frag}(hK:X.K=K):yR X "str.join" (rJoin K):=by
 subst hK;intro e s σ H x B v A Q I w f h;obtain⟨y,p,l,rfl,rfl,g,hz,hj,q⟩:=h;obtain⟨t,rfl⟩:=w;obtain⟨u,rfl,j⟩:=vals1 f
 cases j
 obtain⟨o,r,n,i⟩:=I.list g;obtain⟨m,rfl,d⟩:=mx r;refine GM SC (typeIs_str s y t) F.entry_str_join (F.args_str_join_2 _ _) (meets_str_join_list y t p m ?_) ⟨n.isList,?_⟩
 ·rw[d,<-Array.foldl_toList,tq,Nat.zero_add,show l.toArray.toList=l from rfl]
  unfold Builtin.Str.tooLong;exact dt (by omega)
 ·refine tf I (z:=y.join l) ?_ hj q;unfold joinMade
  match m,d with
  | [],d=>exact .inr (by
    show Made.str (Builtin.Str.glued y [])=_;rw[StrLaws.glued_eq_join,<-d];rfl)
  | [a],d=>exact .inl ⟨a.2,by rw[<-d];rfl⟩
  |a::b::c,d=>exact .inr (by
    show Made.str (Builtin.Str.glued y ((a::b::c).map (·.1)))=_;rw[StrLaws.glued_eq_join,<-d])
def Tg:u_->Hp->VK->Prop:=λa H Q=>∃x n,a=[.str x]/\intText? x=some n/\x.length<=640/\Q (.int n) H
def iq:b6 X (.type "int") Tg:=by
 intro a s σ H c b Q I r h;obtain⟨x,n,rfl,hx,hz,q⟩:=h;obtain⟨u,rfl,t,rfl⟩:=vals1 r;exact PySem.W.KIN.call_text hx hz ⟨.int n,H,I.tok _,⟨_,rfl⟩,q⟩
noncomputable def qV(val:Nat->Str):Nat->Nat->(Str->Bool)->Nat->(Str->Bool) × Nat
 |0,_,F,m=>(F,m)
 |k+1,i,F,m=>qV val k (i+1) (λx=>F x||decide (x=val i))<|if F (val i)=true then m else m+1
variable{prog:Program}{w:World}{A:Around}{R:Result->Shared->Prop}{I:Addr}{fp wr:l_}{G:Array GenState->Array GenState->Prop}{n:Nat}{P:Nat->Value->Prop}{St:Nat->Shared->Prop}
def vd(Wk:WalksS prog w A.in1 I fp wr G n P St)(S:Addr)(hS:S∉fp)(val:Nat->Str)(hv:∀i v,P i v->∃t,v=.str (val i) t)(hn:n+1<scanBound):
  ∀(k i:Nat) (s:Shared) (Fm:Str->Bool) (m:Nat),n-i=k->i<=n->m<=i->St i s->s.heap.SetOf (PySem.strKind prog w) S Fm m->
   (∀s',Moved (S::wr) G s s'->s'.heap.SetOf (PySem.strKind prog w) S (qV val k i Fm m).1 (qV val k i Fm m).2->R (.ok<|.ret .none) s')->
   codeAny (model prog w) A (.builtin "set.update.loop" ⟨[.ref S,.ref I],[]⟩) R s:=by
 intro k
 induction k with
 |zero=>
  intro i s Fm m hk hi hm f E h;have e:i=n:=by omega
  subst e;refine codeAny_builtin F.entry_set_update_loop ?_;rw[Around.under_plainId F.plain_set_update_loop _];show wpAny _ A.in1 (pyNext (.ref I) >>= _) _ _ s;refine cv<|Wk.done s _ _ f λs' J=>?_;refine ek ?_;refine h s' (J.mono λb hb=>fz _ hb) ?_;obtain⟨o,j,q,t,C,r⟩:=E;exact⟨o,j,q,t,J.heap S o (λz=>hS<|Wk.sub S z) C,r⟩
 |succ k M=>
  intro i s Fm m hk hi hm f E h;refine codeAny_builtin F.entry_set_update_loop ?_;rw[Around.under_plainId F.plain_set_update_loop _];show wpAny _ A.in1 (pyNext (.ref I) >>= _) _ _ s;refine cv (Wk.item i s _ _ (by omega) f λv a L l d=>?_)
  obtain⟨t,rfl⟩:=hv i v L;have g:a.heap.SetOf (PySem.strKind prog w) S Fm m:=by
   obtain⟨o,j,q,t,C,r⟩:=E;exact⟨o,j,q,t,d.heap S o (λz=>hS<|Wk.sub S z) C,r⟩
  have c:(PySem.strKind prog w).is (val i) (.str (val i) t)=true:=by
   show Value.isStrOf (val i) (.str (val i) t)=true
   simp[Value.isStrOf]
  show wpAny _ A.in1 (holding [.str (val i) t] (setAdd S<|.str (val i) t) >>= _) _ _ a;refine cv ?_;show wpAny _ A.in1 (setAdd S<|.str (val i) t) _ _ a;unfold setAdd;show wpAny _ A.in1 (pyHash (.str (val i) t) >>= λx=>setAddHashed S (.str (val i) t) x) _ _ a;refine cv<|(PySem.strKind prog w).pyHash c ?_;refine wpAny_setAddHashed_of (knd:=PySem.strKind prog w) (s:={a with toks:=a.toks+1}) c rfl g (by omega) λH K p=>?_
  refine ek ⟨plainId_quiet F.plain_set_update_loop _,?_⟩;have B:Moved (S::wr) G a {a with heap:=H,toks:=a.toks+1}:=⟨λb o hb e=>(K.2 b (λz=>hb (by rw[z];exact fA))).trans e,Wk.grefl _,rfl,rfl,le_succ _⟩
  have u:=Wk.frame (i+1) a H (a.toks+1) l (le_succ _) λb hb o e=>(K.2 b (λz=>hS (by rw[<-z];exact hb))).trans e
  refine M (i+1) _ _ _ (by omega) (by omega) (by split<;>omega) u p λs' y D=>?_
  exact h s' (Moved.trans Wk.gtrans (Moved.trans Wk.gtrans (d.mono λb hb=>fz _ hb) B) y) D
variable{E:c_}{s:Shared}
def qW{p:Addr}{vs:k_}(val:Nat->Str)(hA:A.handled=none)(hp:s.heap.IsList p vs)(vl:∀(i:Nat) (v:Value),vs[i]?=some v->∃t,v=.str (val i) t)(hb:vs.size+1<scanBound)
  (h:∀(h1:Heap) (k:Nat),h1.SetOf (PySem.strKind prog w) s.heap.objs.size (qV val vs.size 0 (λ_=>false) 0).1 (qV val vs.size 0 (λ_=>false) 0).2->(∀b o,b<s.heap.objs.size->s.heap.get? b=some o->h1.get? b=some o)->Q (.ref s.heap.objs.size) {s with heap:=h1,toks:=k}):
  wpAny (model prog w) A (call (.type "set") [.ref p]) Q E s:=by
 refine j7 (P:=λh1=>h1.SetOf (PySem.strKind prog w) s.heap.objs.size (qV val vs.size 0 (λ_=>false) 0).1 (qV val vs.size 0 (λ_=>false) 0).2/\∀b o,b<s.heap.objs.size->s.heap.get? b=some o->h1.get? b=some o) (λh1 k z=>h h1 k z.1 z.2) λa=>?_;have r:(s.heap.push<|gG a).get? s.heap.objs.size=some (gG a):=gz _ rfl;have S:Shared.TypeIs {s with heap:=s.heap.push (gG a)} (.ref s.heap.objs.size) "set":=⟨_,r,rfl⟩;obtain⟨L,l,u,D,m⟩:=hp;obtain⟨u1,N,M,O⟩:=L
 simp only at u m
 subst u;subst m;have H:=ef (gG a) l;have z1:=F.sub_list_set;have R:=F.sub_list_frozenset;have T:(Value.type "list" == Value.type "dict")=false:=by decide
 have q:(s.heap.push<|gG a).IsList p vs:=⟨_,H,rfl,D,rfl⟩;unfold Builtin.«set.__init__» noKeywords Builtin.Frozenset.updateFrom;generalize c:pyIter=PI
 wp_walk
 subst c;refine L1 q<|cv<|wpAny_runValue ?_;have n:p<s.heap.objs.size:=lt_size l;have G:A.in1.in1.in1.handled=none:=by simp[hA]
 have g:(s.heap.push<|gG a).objs.size=s.heap.objs.size+1:=C4 ..;have I:p≠(s.heap.push<|gG a).objs.size:=by rw[g];exact j9<|Wf n
 have K:s.heap.objs.size∉[(s.heap.push<|gG a).objs.size,p]:=by
  rw[g];simp only[mem_cons,not_mem_nil,or_false,not_or];exact⟨j9<|Wd _,Wx n⟩
 refine vd ((Walks.list G _ p I vs).toS) s.heap.objs.size K val vl hb (vs.size-0) 0 _ (λ_=>false) 0 (by omega) (zero_le _) (dy _) ⟨⟨_,gz _ rfl,rfl,rfl⟩,(q.push _)⟩ ?x ?y
 case x=>
  exact SetOf_congr ((setObjOf_fresh (knd:=PySem.strKind prog w) a).setOf (ef _ r) (by unfold scanBound;omega)) (λ_=>rfl) rfl
 case y=>
  intro J hm f;obtain⟨h1,B,C,j,d⟩:=J;obtain rfl:B=s.gens:=hm.gens;obtain rfl:C=s.drawn:=hm.drawn;obtain rfl:d=s.os:=hm.os;show wpAny _ _ _ _ _ _;refine ek<|show wpAny _ _ (ret Value.none) _ _ _ from ek ⟨rfl,h1,j,rfl,f,λb o hb e=>?_⟩
  refine hm.heap b o ?_ (ef _<|ef _ e);rw[g];simp only[mem_cons,not_mem_nil,or_false,not_or];exact⟨j9 hb,j9<|Wf hb⟩
noncomputable def xq(P:Program)(w:World)(a:Addr)(n:Nat):HO:=.ext λh=>∃Fm,h.SetOf (PySem.strKind P w) a Fm n
noncomputable def ve(l:f_):Nat:=(qV (λi=>l.getD i ⟨#[]⟩) l.length 0 (λ_=>false) 0).2
def D7(l:f_):∀(k i:Nat) (Fm:Str->Bool) (m:Nat),l.length-i=k->i<=l.length->(∀x,Fm x=true↔x∈l.take i)->m<=i->(m=i↔(l.take i).Nodup)->(qV (λi=>l.getD i ⟨#[]⟩) k i Fm m).2<=l.length/\((qV (λi=>l.getD i ⟨#[]⟩) k i Fm m).2=l.length↔l.Nodup):=by
 intro k
 induction k with
 |zero=>
  intro i Fm m hk hi f hm hn;have e:i=l.length:=by omega
  subst e;rw[sC]at hn;exact⟨hm,hn⟩
 |succ k n=>
  intro i Fm m hk hi f hm hn;have d:i<l.length:=by omega
  have g:l.take (i+1)=l.take i++[l.getD i ⟨#[]⟩]:=by rw[take_succ,b4 d,b3,b4 d];rfl
  refine n (i+1) _ _ (by omega) (by omega) (λx=>?_) ?_ ?_
  ·rw[g,j6,eG,GE,f x,kc]
  ·split<;>omega
  ·rw[g,We]
   by_cases c:Fm (l.getD i ⟨#[]⟩)=true
   ·rw[if_pos c]
    constructor
    ·intro e;omega
    ·intro h;exact absurd rfl<|h.2.2 _ ((f _).mp c) _<|eG.mpr rfl
   ·rw[if_neg c]
    constructor
    ·intro e;refine⟨hn.mp (by omega),by simp,λa j b hb=>?_⟩
     rw[eG.mp hb];intro z;exact c ((f _).mpr (by rw[<-z];exact j))
    ·intro h
     have:=hn.mpr h.1
     omega
def Mh(l:f_):ve l<=l.length/\(ve l=l.length↔l.Nodup):=
 D7 l l.length 0 (λ_=>false) 0 (by omega) (zero_le _) (λx=>by simp) (dy _) (by simp)
def Mi(K:Frag):u_->Hp->VK->Prop:=λb H Q=>∃p l,b=[.ref p]/\aw K H p (l.map V.str)/\l.length<1000/\∀(P:Program) (w:World) a,H a=none->Q (.ref a) (upd H a<|xq P w a<|ve l)
def vf{K:Frag}(hc:X.calm=true)(hK:X.K=K):b6 X (.type "set") (Mi K):=by
 subst hK;intro A s σ H N J Q I r h;obtain⟨p,l,rfl,hq,M,q⟩:=h;obtain⟨u,rfl,C⟩:=vals1 r
 cases C
 obtain⟨F,B,E,hz⟩:=I.list hq;obtain⟨m,rfl,y⟩:=mx B;have g:m.length=l.length:=by rw[<-y,b5]
 have d:(strValues m).toArray.size=l.length:=by rw[hO];unfold strValues;rw[b5,g]
 have x:(1001:Nat)<scanBound:=by decide
 refine qW (vs:=(strValues m).toArray) (λi=>l.getD i ⟨#[]⟩) (I.ok.hd hc) E.isList (λi v c=>?_) (by rw[d];omega) λh1 k f kp=>?_
 ·rw[List.getElem?_toArray]at c;unfold strValues at c;rw[ed]at c
  cases e:m[i]? with
  |none=>rw[e]at c;cases c
  |some a=>
   rw[e]at c
   cases c
   refine⟨a.2,?_⟩;rw[<-y,b3,ed,e];rfl
 ·rw[d]at f;refine⟨.ref _,_,I.laid (λb o e=>kp b o (lt_size e) e) (dy _)<|show bG X.prog X.w _ h1 _ (xq X.prog X.w _<|ve l)from⟨⟨_,f⟩,?_,λh1 L ⟨D,G⟩ k=>?_⟩,rfl,q X.prog X.w _ I.fresh⟩
  ·obtain⟨o,n,z,t,j,_⟩:=f;exact⟨o,j⟩
  ·obtain⟨o,n,z,t,j,r⟩:=G;exact⟨D,o,n,z,t,k o j,r⟩
def Qu:u_->Hp->VK->Prop:=λa H Q=>∃p n P w,a=[.ref p]/\H p=some (xq P w p n)/\Q (.int n) H
def Ag:b6 X (.builtin "len") Qu:=by
 intro b s σ H x m Q I r h;obtain⟨p,n,P,w,rfl,c,q⟩:=h;obtain⟨u,rfl,f⟩:=vals1 r
 cases f
 obtain⟨⟨l,o,v,j,t,e,g,i,_,_,hb,d,hn⟩,_,_⟩:=I.bq p _ c;have a:scanBound<2 ^ 62:=by decide
 refine PySem.call_len_set e g i d (by omega) ⟨.int n,H,I.tok _,⟨_,by rw[hn]⟩,q⟩
variable{N W G:f_}{pos:Pos}
def Th(S:Sc X N W G)(g:Nat)(h:∃t,X.mg x=some (.str z t))(hg:G[g]?=some x:=by rfl):QE X (.Name x pos) (tC<|.str z):=by
 obtain⟨t,h⟩:=h;have q:=S.gl _<|ih hg;exact⟨ud q.1 h ⟨t,rfl⟩ q.2.1⟩
def Qv(S:Sc X N W G)(g:Nat){z:Int}(h:∃t,X.mg x=some (.int z t))(hg:G[g]?=some x:=by rfl):QE X (.Name x pos) (tC<|.int z):=by
 obtain⟨t,h⟩:=h;have q:=S.gl _<|ih hg;exact⟨ud q.1 h ⟨t,rfl⟩ q.2.1⟩
structure Ti(K:Frag)(x qual:Str)(st:Stmt)(f:Addr)(fd:FuncData)(d:f'):Prop where
 ex:∃(oc:Value) (od:h_) (T:Addr) (kV doc pm:Value) (an:h_) (cY ct:Value) (osl:Array (g_)) (o:Obj) (n:Nat),
  fd=fnOf x qual (bx st) (aU st) (aj st) (.ref T) kV doc pm an cY ct/\K.lookup f=some ⟨oc,od,.func fd,osl⟩/\codeIn K cY qual=true/\K.lookup T=some o/\o.data=.seq d.toArray n
 kp:keepIn K (.ref f)=true
structure HS(K:Frag)(mg:b_)(x:Str)(st:Stmt)(i:Int):Prop where
 ex:∃f fd t,Ti K x x st f fd [.int i t]/\mg x=some (.ref f)
variable{h:Heap}{i:Int}{st:Stmt}{f T:Addr}
def Mj{K:Frag}{mg:b_}{o:Obj}{m:Nat}{oc:Value}{od an:h_}{osl:Array (g_)}{kV doc pm cY ct:Value}(X:K.In h)(G:h.Ns mainGlobals mg)
  (a:nsIn K mainGlobals x=some (some<|.ref f)) (l:K.lookup f=some ⟨oc,od,.func<|fnOf x x (bx st) (aU st) (aj st) (.ref T) kV doc pm an cY ct,osl⟩)
  (c:codeIn K cY x=true) (k:keepIn K (.ref f)=true) (lt:K.lookup T=some o) (ld:o.data=.seq #[.int i t] m):HS K mg x st i:=
 ⟨f,_,t,⟨⟨oc,od,T,kV,doc,pm,an,cY,ct,osl,o,m,rfl,l,c,lt,ld⟩,k⟩,mg_of X G a⟩
noncomputable def UN{α:Type}:List α->List α->List α
 | [a],[b]=>[a,b]
 |_,_=>[]
variable{us:f'}
def HU{vs:u_}{zs:u_}{ws:f'}(h:Vals vs us)(k:Vals zs ws):Vals (UN vs zs) (UN us ws):=by
 cases h with
 |nil=>exact .nil
 |cons a t=>
  cases t with
  |cons _ _=>exact .nil
  |nil=>
   cases k with
   |nil=>exact .nil
   |cons b s=>
    cases s with
    |nil=>exact .cons a<|.cons b .nil
    |cons _ _=>exact .nil
structure UO(P:Program)(w:World)(K:Frag)(mg:b_)(base:Heap)(k:Nat)(x p1 p2:Str)(i:Int)(sp:Sp):Prop where
 ex:∃f fd t,fM P w K mg base DD k f fd [p1,p2] sp/\mg x=some (.ref f)/\keepIn K (.ref f)=true/\Binds K fd [p1,p2] []/\Binds K fd [p1,p2] [.int i t]/\Pu K fd [p1,p2] [p2] UN UN
variable{k:Nat}
def Ov(x:Str)(st:Stmt)(p1 p2:Str):Prop:=∀(T:Addr) (kV doc pm:Value) (an:h_) (cY ct u v:Value),
 (∃k,bindArgs (fnOf x x (bx st) (aU st) (aj st) (.ref T) kV doc pm an cY ct) ⟨[u],[]⟩=(seqItems? (.ref T) >>= k)/\∀d,k (some #[d])=pure [(p1,u),(p2,d)])/\
 (∃k,bindArgs (fnOf x x (bx st) (aU st) (aj st) (.ref T) kV doc pm an cY ct) ⟨[u,v],[]⟩=(seqItems? (.ref T) >>= k)/\∀d,k (some #[d])=pure [(p1,u),(p2,v)])/\
 (∃k,bindArgs (fnOf x x (bx st) (aU st) (aj st) (.ref T) kV doc pm an cY ct) ⟨[u],[(p2,v)]⟩=(seqItems? (.ref T) >>= k)/\∀d,k (some #[d])=pure [(p1,u),(p2,v)])
variable{P:Program}{K:Frag}{mg:b_}{base:Heap}{p1 p2:Str}{sp:Sp}
def HS.gq(D:HS K mg x st i)(S:DS (aj st) N [p1,p2] G)(hb:Ov x st p1 p2)
  (len:∀vs H Q E,sp vs H Q E->vs.length=2)
  (fe:∀(X:Cx),Sc X N N G->X.prog=P->X.w=w->X.K=K->X.mg=mg->X.base=base->X.calm=true->X.env.scope=aj st->X.xe=(λ_ _=>False)->cL k X.A->X.A.units+64<cLine->
   ∀(H:Hp) (vs:u_) (Q:VK) (E:XK),sp vs H Q E->∃t,DH X (aU st) t/\t {nx:=λ_ H'=>Q .bE H',rt:=Q} (L2.start N vs) H):UO P w K mg base (k+1) x p1 p2 i sp:=by
 obtain⟨f,M,t,F,hm⟩:=D.ex;obtain⟨O,R,T,kV,e,l,r,m,ct,L,o,n,rfl,J,y,lt,p⟩:=F.ex;refine⟨f,_,t,Ga J y S.fs len λA B s H vs Q E I z=>?_,hm,F.kp,λs c j d=>?_,λs c j d=>?_,λs c C j d=>?_,λa b=>HU a b⟩
 ·obtain⟨t,h,q⟩:=fe _ S.cx rfl rfl rfl rfl rfl rfl rfl rfl I I.units H vs Q E z;exact⟨t,h.h.ND,q⟩
 ·rw[append_nil]at d ⊢
  match c,d with
  | [u,v],_=>
   obtain⟨k,g,e2⟩:=(hb T kV e l r m ct u v).2.1;exact binds_K j rfl lt p g<|e2 _
 ·obtain⟨u,rfl⟩:∃u,c=[u]:=by
   rw[eR]at d
   have:c.length=1:=by simpa using d
   exact List.length_eq_one_iff.mp this
  obtain⟨k,g,e2⟩:=(hb T kV e l r m ct u u).1;exact binds_K j rfl lt p g<|e2 _
 ·obtain⟨u,v,rfl,rfl⟩:∃u v,c=[u]/\C=[v]:=by
   match c,C,d with
   | [u],[v],_=>exact⟨u,v,rfl,rfl⟩
  obtain⟨k,g,e2⟩:=(hb T kV e l r m ct u v).2.2;exact binds_K j rfl lt p g<|e2 _
variable{m:Nat}{p:Pos}{e2:Expr}{t:TA}
def Vk(S:Sc X N W G)(g:Nat)(F:UO X.prog X.w X.K X.mg X.base k x p1 p2 i sp)(hr:cL m X.A)(ha:QB X [e,e2] t)(hk:k<=m:=by decide)(hg:G[g]?=some x:=by rfl):QE X (.Call (.Name x p) [e,e2] [] pos) (sh sp [] E0 t):=by
 obtain⟨f,c,b,F,hm,a,hb,_⟩:=F.ex;have q:=S.gl _<|ih hg;exact⟨BS F (hr.mono hk) q.1 hm a hb .nil NI ha.h.pa q.2.1 (bf ha.h.he)<|dm ha.h.GP⟩
abbrev cz(x:Str):List Nat:=x.cps.toList
variable{b:Str}
def lE{a:Str}(h:cz a=cz b):a=b:=by
 obtain⟨a⟩:=a;obtain⟨b⟩:=b
 congr 1
 exact Array.toList_inj.mp h
def bO(a b:Str):cz (a++b)=cz a++cz b:=by show(a.cps++b.cps).toList=_;rw[Array.toList_append]
def aJ(a:Str):a.length=(cz a).length:=by show a.cps.size=_;rw[Array.length_toList]
def Ow(c:Nat):cz ⟨#[c]⟩=[c]:=rfl
def cy(s x y:Str)(r:f_):cz (s.join (x::y::r))=cz x++cz s++cz (s.join (y::r)):=by
 show cz (x++s++s.join (y::r))=_;rw[bO,bO]
theorem HV{c:Nat}:∀ {p p' q q':d_},c∉p->c∉p'->p++c::q=p'++c::q'->p=p'/\q=q'
 | [],[],_,_,_,_,e=>⟨rfl,(Wv e).2⟩
 | [],a::p',_,_,_,d,e=>absurd (gg.mpr<|.inl (Wv e).1) d
 |a::p,[],_,_,h,_,e=>absurd (gg.mpr<|.inl (Wv e).1.symm) h
 |a::p,b::p',_,_,h,d,e=>by
  obtain⟨f,e2⟩:=Wv e;obtain⟨i,g⟩:=HV (λz=>h<|fz _ z) (λz=>d<|fz _ z) e2;exact⟨by rw[f,i],g⟩
theorem xr(c:Nat):∀ {a b:f_},a≠[]->b≠[]->(∀x∈a,c∉cz x)->(∀x∈b,c∉cz x)->cz (Str.join ⟨#[c]⟩ a)=cz (Str.join ⟨#[c]⟩ b)->a=b
 | [],_,h,_,_,_,_=>absurd rfl h
 |_::_,[],_,h,_,_,_=>absurd rfl h
 | [x],[y],_,_,_,_,e=>by rw[lE (show cz x=cz y from e)]
 | [x],y::z::r,_,_,d,_,e=>by
  rw[cy]at e;have e:cz x=cz y++[c]++_:=e;refine absurd ?_ (d x fA);rw[e];simp
 |x::y::r,[z],_,_,_,hb,e=>by
  rw[cy]at e;have e:cz x++[c]++_=cz z:=e;refine absurd ?_ (hb z fA);rw[<-e];simp
 |x::y::r,g::j::i,_,_,d,hb,e=>by
  rw[cy,cy,Ow,qE,qE]at e;obtain⟨f,e2⟩:=HV (d x fA) (hb g fA) e;rw[lE f,xr c (by simp) (by simp) (λx hx=>d x<|fz _ hx) (λx hx=>hb x<|fz _ hx) e2]
def HW(x:Str)(c:Nat):Txt.split x ⟨#[c]⟩≠[]:=by
 unfold Txt.split
 split
 ·simp
 split
 ·simp
 ·unfold Builtin.Str.partsBetween
  cases Builtin.Str.occurrences x ⟨#[c]⟩ 0 x.length (x.length+1)<;>simp
variable{a:f_}
def eD(c:Nat)(h:a≠[])(hf:∀x∈a,c∉cz x):Txt.split (Str.join ⟨#[c]⟩ a) ⟨#[c]⟩=a:=
 xr c (HW _ c) h (λp b=>StrLaws.split_free _ c p b) hf (by rw[StrLaws.join_split])
def my:Str:="abcdefghijklmnopqrstuvwxyz"
def Tj:Str:="0123456789"
noncomputable def HX(c:Nat):Bool:=decide<|c∈cz my
noncomputable def Ml(c:Nat):Bool:=decide<|c∈cz Tj
noncomputable def bI(x:Str):Bool:=decide (1<=x.length/\x.length<=12)&&(cz x).all HX
noncomputable def dA(x:Str):Bool:=decide (1<=x.length/\x.length<=30)&&(decide ((cz x).getD 0 0≠48)&&(cz x).all Ml)
noncomputable def xt(l:f_):Bool:=decide (l.length=3)&&(decide (l.getD 0 ⟨#[]⟩="hat")&&(bI (l.getD 1 ⟨#[]⟩)&&dA (l.getD 2 ⟨#[]⟩)))
noncomputable def tw(l:f_):Bool:=decide (3<=l.length)&&(decide (l.getD 0 ⟨#[]⟩="sees")&&(l.drop 1).all bI)
def Cp{c:Nat}(h:HX c=true):c≠32/\c≠10:=by
 have a:=ot h
 have:∀c∈cz my,c≠32/\c≠10:=by decide +kernel
 exact this c a
def pL{c:Nat}:Ml c=true↔48<=c/\c<=57:=by
 unfold Ml;rw[decide_eq_true_iff,show cz Tj=List.range' 48 10 by decide +kernel,List.mem_range'_1]
 omega
def fP(h:bI x=true):32∉cz x/\10∉cz x:=by
 unfold bI at h;rw[gc,ka]at h;exact⟨λz=>(Cp<|h.2 _ z).1 rfl,λz=>(Cp<|h.2 _ z).2 rfl⟩
def ji(h:dA x=true):32∉cz x/\10∉cz x:=by
 unfold dA at h;rw[gc,gc,ka]at h;exact⟨λz=>by have:=pL.mp<|h.2.2 _ z;omega,λz=>by have:=pL.mp<|h.2.2 _ z;omega⟩
def xu(n:Nat):cz (Str.ofString<|toString ((n:Nat):Int))=(toDigits 10 n).map Char.toNat:=by
 show(Str.ofString<|toString<|ofNat n).cps.toList=_;rw[text_ofNat n]
def xw:∀(n:Nat),0<n->∃c r,toDigits 10 n=c::r/\c≠'0':=by
 intro n
 induction n using Nat.strongRecOn with
 |_ n b=>
  intro h;rw[Nat.toDigits_eq_if a_]
  by_cases c:n<10
  ·rw[if_pos c];refine⟨_,_,rfl,?_⟩
   have:∀n,n<10->0<n->Nat.digitChar n≠'0':=by decide
   exact this n c h
  ·rw[if_neg c];obtain⟨d,r,e,a⟩:=b (n / 10) (by omega) (by omega)
   exact⟨d,r++[Nat.digitChar (n%10)],by rw[e];rfl,a⟩
def fQ(h0:0<n)(h30:n<10 ^ 30):dA (Str.ofString<|toString ((n:Nat):Int))=true/\intText? (Str.ofString<|toString ((n:Nat):Int))=some (n:Int):=by
 have e:=xu n;have a:∀c∈(toDigits 10 n).map Char.toNat,48<=c/\c<=57:=λc hc=>by
  obtain⟨d,a,rfl⟩:=gh.mp hc
  have:=Nat.isDigit_of_mem_toDigits a_ a_ a
  simp only[Char.isDigit,Bool.and_eq_true,decide_eq_true_eq]at this;exact this
 have h:(toDigits 10 n).length<=30:=(Nat.length_toDigits_le_iff a_ a_).mpr h30
 have g:0<(toDigits 10 n).length:=Nat.length_toDigits_pos;obtain⟨c,r,f,hc⟩:=xw n h0
 constructor
 ·unfold dA;rw[aJ,e,b5,cc<|show 1<=(toDigits 10 n).length/\(toDigits 10 n).length<=30 from⟨g,h⟩,nq,gc]
  refine⟨cc ?_,ka.mpr λc hc=>pL.mpr<|a c hc⟩;rw[f];show c.toNat≠48;intro z;exact hc<|Char.toNat_inj.mp z
 ·have b:(Str.ofString<|toString ((n:Nat):Int)).cps.toList=(toDigits 10 n).map Char.toNat:=e;rw[intText_digits (by rw[b];exact a) (by rw[b,f];simp) (by rw[aJ,e,b5];omega),b,PySem.W.KIN.val_back]
def cA:(" ":Str)=⟨#[32]⟩:=by decide +kernel
theorem mz(c:Nat):∀ {l:f_} {x:Str},x∈l->x.length<=(Str.join ⟨#[c]⟩ l).length
 | [y],x,h=>by rw[eG.mp h];exact dy _
 |y::z::r,x,h=>by
  have e:(Str.join ⟨#[c]⟩ (y::z::r)).length=y.length+1+(Str.join ⟨#[c]⟩ (z::r)).length:=by
   rw[aJ,cy,eR,eR,<-aJ,<-aJ];rfl
  rcases gg.mp h with rfl|h
  ·omega
  ·have:=mz c h
   omega
def Ah(h:x∈Txt.split z ⟨#[32]⟩):x.length<=z.length:=by
 have:=mz 32 h
 rw[StrLaws.join_split]at this;exact this
abbrev bo:Str:=⟨#[]⟩
def lF:Sp:=λa H Q _=>∃z:Str,a=[.str z]/\z.length<=1000000/\∀H',ag H H'->Q (.bl<|bI z) H'
def mB:Sp:=λa H Q _=>∃z:Str,a=[.str z]/\z.length<=1000000/\∀H',ag H H'->Q (.bl<|dA z) H'
structure Ws(K:Frag)(H:Hp)(p:Addr)(l:f_):Prop where
 sq:aw K H p (l.map V.str)
 fJ:l.length<=900
 short:∀x∈l,x.length<=1000000
def Cq(K:Frag):Sp:=λa H Q _=>∃(p:Addr) (l:f_),a=[.ref p]/\Ws K H p l/\∀H',ag H H'->Q (.bl<|xt l) H'
def xx(K:Frag):Sp:=λa H Q _=>∃(p:Addr) (l:f_),a=[.ref p]/\Ws K H p l/\∀H',ag H H'->Q (.bl<|tw l) H'
end L2
namespace L2
open PySem PySem.Spec PyProof.Rows
inductive vg(K:Frag)(vs:u_)(H:Hp)(Q:VK)(E:XK):Prop
 |mk (z:Str) (i:Int) (l:f_):(vs=[.str z,.int i])->z.length<=1000000->Txt.split z ⟨#[32]⟩=l->l.length<=900->(((xt l=true/\∃c:Int,intText? (l.getD 2 bo)=some c/\∀(t:Addr) (H':Hp),ag H H'->H' t=some (.tup [.str "hat",.str<|l.getD 1 bo,.int c])->Q (.ref t) H')∨(xt l=false/\tw l=true/\(l.drop 1).Nodup/\∀(t u:Addr) (H':Hp),ag H H'->H' t=some (.tup [.str "sees",.str<|l.getD 1 bo,.ref u])->H' u=some (.tup<|(l.drop 2).map V.str)->Q (.ref t) H')))->vg K vs H Q E
def ox{n:Nat}(h:n<=1000000):n<=sizeLine:=gr h a_
variable{l:f_}
def bb{k:Nat}(h:k<l.length):(l.map V.str)[k]?=some (.str<|l.getD k bo):=by
 rw[ed,b4 h,b3,b4 h];rfl
def getD_memS{k:Nat}(h:k<l.length):l.getD k bo∈l:=by
 rw[b3,b4 h];exact kf h
def D8(z:Str)(p:Nat->Bool):((List.range z.cps.size).map λi=>p<|(z.cps[i]?).getD 0).all id=(cz z).all p:=by
 rw[F8];have e:cz z=(List.range z.cps.size).map λi=>(z.cps[i]?).getD 0:=by
  apply C2
  intro i
  by_cases hi:i<z.cps.size
  ·rw[ed,mv hi,getElem?_toList,Array.getElem?_eq_getElem hi];show some z.cps[i]=some ((z.cps[i]?).getD 0);rw[Array.getElem?_eq_getElem hi];rfl
  ·rw[h9 (by rw[Array.length_toList];omega),h9 (by rw[b5,h7];omega)]
 rw[e,F8]
 rfl
variable{Q:VK}{y:Str}
def xy{K:Frag}{z:Str}{H:Hp}(hz:z.length<=1000000)(q:∀H',ag H H'->Q (.bl<|(cz z).all λc=>decide<|c∈cz y) H'):
  sN (bF 0) gZ (uf (λx y H Q=>∃i j,x=V.str i/\y=V.str j/\Q (V.bl !(Builtin.Str.occurrences j i 0 j.length 1).isEmpty) H) (oR 0)<|tC<|.str y) [none] (λx H1=>SY K [x] H1 Q) (Tf z) H:=by
 refine wu HR (λ_=>true) (λi=>.bl<|decide<|(z.cps[i]?).getD 0∈cz y) (m2 hz a_) ?_ ?_
 ·intro i H1 A B hi f d _;simp only[gA,wY,j4,PZ,uz,U9];refine⟨_,_,rfl,rfl,?_⟩;rw[StrLaws.found_one];exact d rfl _<|ag.refl _
 ·intro b H1 hn e a;rw[bz]at a;refine⟨b,(List.range z.cps.size).map λi=>decide<|(z.cps[i]?).getD 0∈cz y,rfl,aw.of (by rw[a,k6];rfl),?_⟩
  rw[D8 z λc=>decide<|c∈cz y];exact q H1 e
def HY(k:Str)(ns:f_):NH (.str k) (ns.map V.str)=decide (k∈ns):=by
 induction ns with
 |nil=>simp[NH]
 |cons a r b=>
  unfold NH at b ⊢;rw[m5,any_cons,b]
  by_cases e:a=k
  ·subst e;simp[Fx]
  ·have:¬k=a:=λz=>e z.symm
   simp[Fx,e,this]
def vh{K:Frag}{neg:Bool}{H:Hp}{p:Addr}{k:Str}{a:f_}(h:aw K H p (a.map V.str)∨aL K H p (a.map V.str))(q:Q (.bl<|if neg then !decide (k∈a)else decide (k∈a)) H):RC K neg (.str k) (.ref p) H Q:=by
 refine⟨p,_,rfl,h,rfl,?_,?_⟩
 ·rw[F8];exact ka.mpr λ_ _=>rfl
 ·rw[HY];exact q
def jW(x:Str):Prop:=∀c∈cz x,HX c=true
def jW.append{a b:Str}(ha:jW a)(hb:jW b):jW (a++b):=λc hc=>by
 rw[bO]at hc
 rcases j6.mp hc with z|z
 ·exact ha c z
 ·exact hb c z
def aT(a b:Str):(a++b).length=a.length+b.length:=by rw[aJ,bO,eR,<-aJ,<-aJ]
def oy{x:Str}(h:jW x)(h1:1<=x.length)(h2:x.length<=12):bI x=true:=by
 unfold bI;rw[cc (show 1<=x.length/\x.length<=12 from⟨h1,h2⟩),nq]
 exact ka.mpr h
def ir{x:Str}(h:bI x=true):jW x/\1<=x.length/\x.length<=12:=by
 unfold bI at h;rw[gc,ka]at h;exact⟨h.2,(ot h.1).1,(ot h.1).2⟩
def xA{x:Str}{k:Nat}(h:k<=x.length):cz (StrLaws.sliceText x none<|some (k:Int))=(cz x).take k:=by
 have a:k<=x.cps.toList.length:=by rw[aJ]at h;exact h
 rw[StrLaws.sliceText_to ⟨by omega,by omega⟩]
 show List.take ((k:Int)-0).toNat (List.drop 0 _)=_;rw[drop_zero,show((k:Int)-0).toNat=k by omega]
def Ai{x:Str}{k:Nat}(h:k<=x.length):cz (StrLaws.sliceText x (some (k:Int)) none)=(cz x).drop k:=by
 have a:k<=x.cps.toList.length:=by rw[aJ]at h;exact h
 rw[StrLaws.sliceText_from ⟨by omega,by omega⟩]
 show List.take _ (List.drop ((k:Int)).toNat _)=_;rw[k4,vr (by rw[nt];omega)]
def Aj{x:Str}{k:Nat}(h0:1<=k)(h:k<=x.length):cz (StrLaws.sliceText x (some (-(k:Int))) none)=(cz x).drop ((cz x).length-k):=by
 have e:=aJ x;rw[StrLaws.sliceText_from_neg (by omega) (by omega)]
 show List.take _ (List.drop (-(k:Int)+(x.length:Nat)).toNat _)=_;rw[show(-(k:Int)+(x.length:Nat)).toNat=(cz x).length-k by omega,vr (by rw[nt];show(cz x).length-_<=(((cz x).length:Int)-_).toNat;omega)]
def xB{x:Str}{k:Nat}(h:jW x)(e:cz y=(cz x).take k):jW y:=λc hc=>h c (List.mem_of_mem_take (by rw[<-e];exact hc))
def xC{x:Str}{k:Nat}(h:jW x)(e:cz y=(cz x).drop k):jW y:=λc hc=>h c (mem_of_mem_drop (by rw[<-e];exact hc))
def vi{c:Nat}{i:Nat}(h:(cz my)[i]?=some c):jW ⟨#[c]⟩:=λd a=>by
 have e:d=c:=by simpa using a
 subst e;unfold HX;exact cc<|ih h
def HZ:(cz my).length=26:=by decide +kernel
def Ia{i:Int}(h0:0<=i)(h1:i<26):∃c,wq (cz my) i=some c/\jW ⟨#[c]⟩:=by
 obtain⟨n,rfl⟩:=rV h0;have hn:n<(cz my).length:=by rw[HZ];omega
 refine⟨(cz my).getD n 0,ja rfl 0 hn,vi (i:=n) ?_⟩;rw[b3,b4 hn];rfl
def lG:Sp:=λa H Q _=>∃(cell:Int) (n:Nat),a=[.int cell,.int n]/\n<=100/\∀(l:Addr) (ns:e_) (H':Hp),ag H H'->H l=none->H' l=some (.lst<|ns.map V.int)->ns.length=n->(∀x∈ns,0<=x)->Q (.ref l) H'
def Tn(H0:Hp)(cell:Int)(n:Nat)(l:Addr)(k:Nat)(σ:St)(H:Hp):Prop:=∃(num:Int) (ns:e_) (y:v_),σ=[some (.int cell),some<|.int n,some<|.int num,some<|.ref l,y]/\ag H0 H/\H l=some (.lst<|ns.map V.int)/\ns.length=k/\∀x∈ns,0<=x
def Cr:Sp:=λa H Q _=>∃(num:Int) (k:Nat),a=[.int num,.int k]/\k<=12/\∀z:Str,z.length=k->jW z->Q (.str z) H
def To(H0:Hp)(n:Nat)(k:Nat)(σ:St)(H:Hp):Prop:=∃(num:Int) (z:Str) (y:v_),σ=[some (.int num),some<|.int n,some<|.str my,some<|.str z,y]/\H=H0/\z.length=k/\jW z
structure Mm(ns:f_)(n:Nat):Prop where
 fJ:ns.length<=n
 nd:ns.Nodup
 nm:∀x∈ns,bI x=true
noncomputable def nL:f_:=["hat","sees","put","guess","right","ring","order","book","sure","share","groups","circle","hats"]
def Ib:∀x∈nL,bI x=true:=by decide +kernel
def Tp(H0:Hp)(cell:Int)(n:Nat)(sm dr:Addr)(base:Str)(a:Nat)(l:Addr)(dn:e_)(k:Nat)(σ:St)(H:Hp):Prop:=∃(ns:f_) (y1 y2 y3 y4:v_),σ=[some (.int cell),some<|.int n,some<|.str my,some<|.ref sm,some<|.ref dr,some<|.str base,some<|.int a,some<|.ref l,y1,y2,y3,y4]/\ag H0 H/\H l=some (.lst<|ns.map V.str)/\H sm=some (.lst<|nL.map V.str)/\H dr=some (.lst<|dn.map V.int)/\Mm ns k/\(1<=k->ns≠[])
theorem lH{K:Frag}{H:Hp}:∀l:f_,cG K H (l.map V.str)<|l.map PyData.str
 | []=>.nil
 |x::r=>.cons (.str x)<|lH r
theorem pM:∀l:f_,PyData.depthAll (l.map PyData.str)<=1
 | []=>by simp[PyData.depthAll]
 |x::r=>by
  have:=pM r
  simp only[map_cons,PyData.depthAll,PyData.depth]
  omega
def D9{d:PyData}(h1:PyData.canLay0 d=true)(h2:PyData.depth d<=64):shaped d=true:=by
 show(PyData.canLay0 d&&decide (PyData.depth d<=64))=true;rw[h1,cc h2];rfl
def Qw(H:Hp)(f:Addr)(n:Str)(l:f_):Prop:=∃p,H f=some (.tup [.str "sees",.str n,.ref p])/\H p=some (.tup<|l.map V.str)
def Tq(H:Hp)(f:Addr)(n:Str)(c:Int):Prop:=H f=some (.tup [.str "hat",.str n,.int c])
noncomputable abbrev jX(c:Nat):Str:=Str.ofString<|toString ((c:Nat):Int)
structure Vl(l:f_):Prop where
 two:2<=l.length
 fJ:l.length<=40
 nd:l.Nodup
 nm:∀x∈l,bI x=true
theorem pN(c:Nat):∀l:f_,(Str.join ⟨#[c]⟩ l).length<=(l.map λz=>z.length+1).sum
 | []=>by show(0:Nat)<=_;omega
 | [x]=>by show x.length<=(x.length+1)+0;omega
 |x::y::r=>by
  have a:=pN c (y::r);have e:(Str.join ⟨#[c]⟩ (x::y::r)).length=x.length+1+(Str.join ⟨#[c]⟩ (y::r)).length:=by
   rw[aJ,cy,eR,eR,<-aJ,<-aJ];rfl
  rw[e,m5,C6]
  omega
theorem jj(b:Nat):∀l:f_,(∀x∈l,x.length<=b)->(l.map λz=>z.length+1).sum<=l.length*(b+1)
 | [],_=>by simp
 |x::r,h=>by
  have a:=jj b r λx hx=>h x<|fz _ hx
  have:=h x fA
  rw[m5,C6,mo,Nat.add_mul]
  omega
def mC{x:Str}(h:dA x=true):x.length<=30:=by
 unfold dA at h;rw[gc]at h;exact(ot h.1).2
variable{n:Str}
def Ea{c:Nat}(hn:bI n=true)(h0:0<c)(h30:c<10 ^ 30):∀x∈[("hat":Str),n,jX c],32∉cz x/\10∉cz x/\x.length<=30:=by
 intro x hx;have h1:32∉cz ("hat":Str)/\10∉cz ("hat":Str)/\("hat":Str).length<=30:=by decide +kernel
 have b:=fP hn;have a:=(fQ h0 h30).1
 rcases gg.mp hx with rfl|hx
 ·exact h1
 rcases gg.mp hx with rfl|hx
 ·exact⟨b.1,b.2,gr (ir hn).2.2 a_⟩
 rw[eG.mp hx];exact⟨(ji a).1,(ji a).2,mC a⟩
def Ak(h:∀x∈l,bI x=true):∀x∈(("sees":Str)::l),32∉cz x/\10∉cz x/\x.length<=30:=by
 intro x hx;have h1:32∉cz ("sees":Str)/\10∉cz ("sees":Str)/\("sees":Str).length<=30:=by decide +kernel
 rcases gg.mp hx with rfl|hx
 ·exact h1
 ·exact⟨(fP<|h x hx).1,(fP<|h x hx).2,gr (ir<|h x hx).2.2 a_⟩
def Qx{c:Nat}(hn:bI n=true)(h0:0<c)(h30:c<10 ^ 30):xt [("hat":Str),n,jX c]=true:=by
 show(decide (3=3)&&(decide (("hat":Str)=("hat":Str))&&(bI n&&dA (jX c))))=true;rw[hn,(fQ h0 h30).1,cc (rfl:("hat":Str)=("hat":Str))];rfl
def Ic(l:f_):xt (("sees":Str)::l)=false:=by
 unfold xt;show(_&&(decide (("sees":Str)=("hat":Str))&&_))=false;rw[show decide (("sees":Str)=("hat":Str))=false by decide +kernel,qs,KE]
def Mn(h2:2<=l.length)(h:∀x∈l,bI x=true):tw (("sees":Str)::l)=true:=by
 unfold tw;show(decide (3<=l.length+1)&&(decide (("sees":Str)=("sees":Str))&&l.all bI))=true;rw[cc (show 3<=l.length+1 by omega),cc rfl,ka.mpr h];rfl
def xD(n c:Str):(((("hat ":Str)++n)++(" ":Str))++c)=Str.join ⟨#[32]⟩ [("hat":Str),n,c]:=by
 apply lE
 rw[bO,bO,bO,cy,cy,show cz ("hat ":Str)=cz ("hat":Str)++[32] by decide +kernel,show cz (" ":Str)=[32] by decide +kernel]
 show _=cz ("hat":Str)++[32]++(cz n++[32]++cz c);simp only[List.append_assoc]
variable{prog:Program}{w:World}{κ:Type}{a:Addr}[DecidableEq κ]{knd:KeyKind prog w κ}
def Eb{h:Heap}{C_:List (κ × Value)}(x:h.DictOf knd a C_):∃ep,h.DictAt knd a C_ ep:=by
 obtain⟨o,b,ep,r⟩:=x;exact⟨ep,o,b,r⟩
variable{A:Around}{E:c_}{s:Shared}{ep:Nat}
def jY{d:Addr}{C_:List (κ × Value)}{Q₁:c_}(lo:(d==sysModules)=false)(hh:A.handled=none)(hd:s.heap.DictAt knd d C_ ep)(hn:C_.length<=sizeLine)
  (h:∀(h':Heap) (tk:Nat) (B_:k_),(∀b o,s.heap.get? b=some o->h'.get? b=some o)->ItemsOf (λi v=>∃k x,C_[i]?=some (k,x)/\knd.is k v=true) B_ C_.length->Q₁ (.ref h'.objs.size) {s with heap:=h'.push {cls:=.type "tuple",data:=.seq B_},toks:=tk}):
  codeAny (model prog w) A (.call (.builtin "tuple.__new__") ⟨[.type "tuple",.ref d],[]⟩) (wants Q₁ E) s:=by
 refine codeAny_of_tree ?_;show wpAny _ A.in1 (do checkBuiltinCall "tuple.__new__" ⟨[.type "tuple",.ref d],[]⟩;again (.builtin "tuple.__new__" ⟨[.type "tuple",.ref d],[]⟩)) _ _ s
 refine cv<|wpAny_of_eq (F.newCall_tuple_1 _)<|ek ⟨plainId_quiet F.plain_tuple_new _,codeAny_builtin F.entry_tuple_new ?_⟩;rw[Around.under_plainId F.plain_tuple_new _];have g:=sub_tuple_self;have f:=init_tuple_lookup;have j:=madeHere_tuple;have c:=hd.dictOf.typeIs
 wp_walk using wpAny_typeOf c,PySem.W.kdu_collect (A:=A.in1) (PySem.W.kdl_dict (knd:=knd) (ep:=ep) lo) hh hd hn
 intro h' tk B_ hm a;show wpAny _ _ (Builtin.Tuple.tupleExact B_.toList.toArray >>= λv=>ret v) _ _ _;unfold Builtin.Tuple.tupleExact;refine cv (wpAny_newObj_type ?_ (by show B_.toList.toArray.size<=sizeLine;simp only[Array.toArray_toList];rw[a.1];exact hn))
 refine ek ?_;have e:B_.toList.toArray=B_:=by simp
 rw[e];exact h h' tk B_ hm a
def nT{d:Addr}{C_:List (κ × Value)}{Q:c_}(lo:(d==sysModules)=false)(hh:A.handled=none)(hd:s.heap.DictAt knd d C_ ep)(hn:C_.length<=sizeLine)
  (h:∀(h':Heap) (tk:Nat) (B_:k_),(∀b o,s.heap.get? b=some o->h'.get? b=some o)->ItemsOf (λi v=>∃k x,C_[i]?=some (k,x)/\knd.is k v=true) B_ C_.length->Q (.ref h'.objs.size) {s with heap:=h'.push {cls:=.type "tuple",data:=.seq B_},toks:=tk}):
  wpAny (model prog w) A (call (.type "tuple") [.ref d]) Q E s:=by
 refine callType_codes (Q₁:=λobj c=>c.TypeIs obj "tuple"/\Q obj c) F.called_tuple (F.typeCall_tuple_1 _) F.entry_object_init
  (jY lo hh hd hn λh' tk B_ hm a=>⟨⟨_,gz _ rfl,rfl⟩,h h' tk B_ hm a⟩) λobj c e=>?_
 exact⟨e.1,F.args_object_init_2 obj _,object_init_meets F.called_tuple.init.lookup F.called_tuple.made a_ prog w A.in1 _ c ⟨e.1,rfl,e.2⟩⟩
variable{X:Cx}{o i:Expr}{pos:Pos}{td ty:TE}
def Ie(hu:X.A.units+1<cLine)(ho:QE X o td)(hi:QE X i ty)(hs:Le i:=by intro _ _;rfl):QE X (.Subscript o i pos) (Gq td ty):=⟨Lg hu ho.h hi.h hs⟩
def Ox:u_->Hp->VK->Prop:=λb H Q=>∃a C_,b=[.ref a]/\H a=some (.dK C_)/\Q (.int C_.length) H
def tD:b6 X (.builtin "len") Ox:=by
 intro c s σ H i g Q I r h;obtain⟨a,b,rfl,e,q⟩:=h;obtain⟨u,rfl,f⟩:=vals1 r
 cases f
 exact R7 I (.inl e) λt j d=>⟨.int b.length,H,d,⟨_,rfl⟩,q⟩
variable{u:Value}
def Qy{P:Program}{i:Int}(h:(bV P w).is (Sum.inl i) u=true):RelV (.int i) u:=by
 rcases bL (show nz (Sum.inl i) u=true from h)with ⟨j,t,e,rfl⟩|⟨x,t,e,rfl⟩
 ·cases e;exact⟨t,rfl⟩
 ·cases e
def Qz{P:Program}{x:Str}(h:(bV P w).is (Sum.inr x) u=true):RelV (.str x) u:=by
 rcases bL (show nz (Sum.inr x) u=true from h)with ⟨j,t,e,rfl⟩|⟨y,t,e,rfl⟩
 ·cases e
 ·cases e;exact⟨t,rfl⟩
theorem tE{α β:Type}{F:α->β->Prop}:∀ {l₁:List α} {l₂:List β},l₁.length=l₂.length->(∀(i:Nat) a b,l₁[i]?=some a->l₂[i]?=some b->F a b)->Paired F l₁ l₂
 | [],[],_,_=>.nil
 |a::l₁,b::l₂,e,h=>.cons (h 0 a b rfl rfl)<|tE (Nat.succ.inj e) λi a b h1 c=>h (i+1) a b h1 c
def Mo{P:Program}{k:Key}(h:(bV P w).is k u=true):RelV (kV k) u:=by
 cases k with
 |inl i=>exact Qy h
 |inr x=>exact Qz h
def Ec{P:Program}{C_:s_}{vs:List (Key × Value)}{B_:k_}(rel:KV C_ vs)(h:ItemsOf (λi v=>∃k x,vs[i]?=some (k,x)/\(bV P w).is k v=true) B_ vs.length):Vals (C_.map λp=>kV p.1) B_.toList:=by
 have hk:=rel.keys;have g:=rel.length;refine tE (by rw[b5,g,<-h.1];exact(Array.length_toList (xs:=B_)).symm) λi a b h1 f=>?_
 obtain⟨k,x,e,hi⟩:=h.2 i b (by rw[<-getElem?_toList];exact f)
 rw[ed]at h1;obtain⟨p,d,rfl⟩:=Pi.mp h1;have c:(C_.map (·.1))[i]?=some p.1:=by rw[ed,d];rfl
 have e2:(vs.map (·.1))[i]?=some k:=by rw[ed,e];rfl
 rw[hk,e2]at c
 cases c
 exact Mo hi
variable{H:Hp}{σ:St}
def Ig:Gq td ty σ H Q=td σ H λx H1=>ty σ H1 λy H2=>∃a v,x=.ref a/\kq H2 a y (some v)/\Q v H2:=rfl
def Tr{pos:Pos}{ty:TE}(hu:X.A.units+1<cLine)(hi:QE X i ty)(ho:QE X o td)(hm:behindInMarks .In o=false):QT X (.Compare i [.In] [o] pos) (tB<|Lf ty td):=⟨FH (Gs hu hi.h ho.h) hm⟩
noncomputable def pO:Nat->f_->List (Key × V)
 |_,[]=>[]
 |k,x::r=>(Sum.inr x,.int (k:Int))::pO (k+1) r
theorem vj:∀(k:Nat) (ns:f_),(pO k ns).length=ns.length
 |_,[]=>rfl
 |k,x::r=>by rw[pO,mo,vj,mo]
theorem xE:∀(k:Nat) (ns:f_),(pO k ns).map (λp=>kV p.1)=ns.map V.str
 |_,[]=>rfl
 |k,x::r=>by rw[pO,m5,xE,m5];rfl
theorem xF:∀(k:Nat) (ns:f_) (x:Str),pO k (ns++[x])=pO k ns++[(Sum.inr x,.int ((k+ns.length:Nat):Int))]
 |k,[],x=>rfl
 |k,y::r,x=>by
  rw[cons_append,pO,xF,pO,mo,show k+1+r.length=k+(r.length+1) by omega]
  rfl
theorem oz(x:Str):∀(k:Nat) (ns:f_),cZ (pO k ns) (Sum.inr x)=if x∈ns then some (.int ((k+ns.idxOf x:Nat):Int))else none
 |_,[]=>rfl
 |k,y::r=>by
  rw[pO]
  by_cases e:y=x
  ·subst e;rw[cP rfl,if_pos fA,List.idxOf_cons_self]
   rfl
  ·rw[cQ (λz=>e<|Sum.inr.inj z),oz x (k+1) r]
   by_cases m:x∈r
   ·have a:List.idxOf x (y::r)=List.idxOf x r+1:=by
     rw[idxOf_cons,show(y==x)=false from tz.mpr e];rfl
    rw[if_pos m,if_pos<|fz _ m,a,show k+1+List.idxOf x r=k+(List.idxOf x r+1) by omega]
   ·rw[if_neg m,if_neg λz=>(gg.mp z).elim (λz=>e z.symm) m]
def DN(H:Hp)(d:Addr)(ns:f_):Prop:=H d=some (.dK<|pO 0 ns)
variable{ns:f_}
def xG{d:Addr}{x:Str}(h:DN H d ns)(m:x∈ns):kq H d (.str x) (some<|.int (ns.idxOf x:Nat)):=by
 have:=kq.k (k:=Sum.inr x) h
 rw[oz,if_pos m,Nat.zero_add]at this;exact this
def QA{d:Addr}{x:Str}(h:DN H d ns)(m:x∉ns):kq H d (.str x) none:=by
 have:=kq.k (k:=Sum.inr x) h
 rw[oz,if_neg m]at this;exact this
def Ih{Q:r_}{d:Addr}{x:Str}{k:Int}(h:DN H d ns)(hk:k=(ns.length:Nat))(m:x∉ns)(hl:ns.length<sizeLine)(q:Q (upd H d<|.dK<|pO 0<|ns++[x])):∃a H4,V.ref d=.ref a/\uw H a (.str x) (.int k) H4/\Q H4:=by
 subst hk;refine⟨d,_,rfl,uw.k (k:=Sum.inr x) h (by rw[vj];exact hl),?_⟩
 rw[Gp _ (by rw[oz,if_neg m]),show((ns.length:Nat):Int)=((0+ns.length:Nat):Int) by rw[Nat.zero_add],<-xF]
 exact q
def xH{d:Addr}(h:DN H d ns)(q:Q (.int (ns.length:Nat)) H):Ox [.ref d] H Q:=⟨d,_,rfl,h,by rw[vj];exact q⟩
inductive Ln where
 |e9 (n:Str) (c:Nat)
 |sees (n:Str) (l:f_)
noncomputable def xI:Ln->List Str
 |.e9 n c=>[("hat":Str),n,jX c]
 |.sees n l=>("sees":Str)::n::l
noncomputable def oA(x:Ln):Str:=Str.join ⟨#[32]⟩<|xI x
def ky:Ln->Prop
 |.e9 n c=>bI n=true/\0<c/\c<10 ^ 30
 |.sees n l=>Vl (n::l)
structure Bk where
 ns:List Str
 cs:List Nat
 ws:List Nat
noncomputable def nM(ns l:f_):Nat:=(l.map λy=>2 ^ ns.idxOf y).sum
noncomputable def kj(b:Bk):Ln->Option Bk
 |.e9 n c=>if n∉b.ns/\b.ns.length<8 then some ⟨b.ns++[n],b.cs++[c],b.ws++[0]⟩else none
 |.sees n l=>if n∈b.ns/\b.ws.getD (b.ns.idxOf n) 0=0/\∀y∈l,y∈b.ns then some ⟨b.ns,b.cs,b.ws.set (b.ns.idxOf n)<|nM b.ns l⟩else none
variable{b b2:Bk}
def Ed{c:Nat}(h:kj b (.e9 n c)=some b2):n∉b.ns/\b.ns.length<8/\b2=⟨b.ns++[n],b.cs++[c],b.ws++[0]⟩:=by
 have h:(if n∉b.ns/\b.ns.length<8 then some (⟨b.ns++[n],b.cs++[c],b.ws++[0]⟩:Bk)else none)=some b2:=h
 by_cases a:n∉b.ns/\b.ns.length<8
 ·rw[if_pos a]at h;exact⟨a.1,a.2,(o6 h).symm⟩
 ·rw[if_neg a]at h;cases h
def Al(h:kj b (.sees n l)=some b2):n∈b.ns/\b.ws.getD (b.ns.idxOf n) 0=0/\(∀y∈l,y∈b.ns)/\b2=⟨b.ns,b.cs,b.ws.set (b.ns.idxOf n)<|nM b.ns l⟩:=by
 have h:(if n∈b.ns/\b.ws.getD (b.ns.idxOf n) 0=0/\∀y∈l,y∈b.ns then some (⟨b.ns,b.cs,b.ws.set (b.ns.idxOf n)<|nM b.ns l⟩:Bk)else none)=some b2:=h
 by_cases a:n∈b.ns/\b.ws.getD (b.ns.idxOf n) 0=0/\∀y∈l,y∈b.ns
 ·rw[if_pos a]at h;exact⟨a.1,a.2.1,a.2.2,(o6 h).symm⟩
 ·rw[if_neg a]at h;cases h
noncomputable def dF:Bk->List Ln->Option Bk
 |b,[]=>some b
 |b,x::r=>(kj b x).bind λa=>dF a r
theorem iu:∀(b:Bk) (l r:List Ln),dF b (l++r)=(dF b l).bind λb'=>dF b' r
 |b,[],r=>rfl
 |b,x::l,r=>by
  rw[cons_append,dF,dF]
  cases kj b x with
  |none=>rfl
  |some b'=>exact iu b' l r
variable{x:Ln}{L:List Ln}
def Am{b0:Bk}{k:Nat}(h:dF b0 L=some b)(hx:L[k]?=some x):∃b1 b2,dF b0 (L.take k)=some b1/\kj b1 x=some b2/\dF b0 (L.take<|k+1)=some b2:=by
 have e:L=L.take k++x::L.drop (k+1):=by
  have hk:k<L.length:=(ls.mp hx).1
  have:=SL k L
  rw[List.drop_eq_getElem_cons hk]at this;rw[(ls.mp hx).2]at this;exact this.symm
 rw[e,iu]at h
 cases h1:dF b0 (L.take k)with
 |none=>rw[h1]at h;cases h
 |some b1=>
  rw[h1]at h;have h:(kj b1 x).bind (λa=>dF a<|L.drop<|k+1)=some b:=h
  cases c:kj b1 x with
  |none=>rw[c]at h;cases h
  |some b2=>
   refine⟨b1,b2,rfl,c,?_⟩;rw[List.take_add_one,hx,Option.toList_some,iu,h1];show(kj b1 x).bind (λa=>dF a [])=_;rw[c];rfl
def An{α:Type}(g:Str->α)(l:f_):((List.range l.length).map λi=>g<|l.getD i bo)=l.map g:=by
 apply C2
 intro i
 by_cases hi:i<l.length
 ·rw[ed,mv hi,ed,b4 hi];show some (g<|l.getD i bo)=some (g l[i]);rw[b3,b4 hi];rfl
 ·rw[h9 (by rw[b5,h7];omega),h9 (by rw[b5];omega)]
theorem tF{α:Type}(f:α->Nat):∀l:List α,(l.map λi=>((f i:Nat):Int)).sum=((l.map f).sum:Nat)
 | []=>rfl
 |x::r=>by rw[m5,C6,tF f r,m5,C6];rfl
def Ii(ns l:f_):((List.range l.length).map λi=>((2 ^ ns.idxOf (l.getD i bo):Nat):Int)).sum=(nM ns l:Nat):=by
 rw[tF (λi=>2 ^ ns.idxOf (l.getD i bo)),An λy=>2 ^ ns.idxOf y];rfl
def Ij(ws:d_)(i m:Nat):((au ws).map V.int).set i (.int (m:Int))=(au<|ws.set i m).map V.int:=by
 unfold au;rw[List.map_set,List.map_set]
def pP(ws:d_)(m:Nat):(au ws).map V.int++[.int (m:Int)]=(au<|ws++[m]).map V.int:=by
 unfold au;rw[hU,hU];rfl
def kA(h:ky x):(∀y∈xI x,32∉cz y/\10∉cz y/\y.length<=30)/\(xI x).length<=41/\3<=(xI x).length:=by
 cases x with
 |e9 n c=>exact⟨Ea h.1 h.2.1 h.2.2,by show 3<=41;decide,dy 3⟩
 |sees n l=>exact⟨Ak h.nm,Nat.succ_le_succ h.fJ,Nat.succ_le_succ h.two⟩
theorem tG{c d:Nat}(hcd:d≠c):∀ {l:f_},(∀y∈l,d∉cz y)->d∉cz (Str.join ⟨#[c]⟩ l)
 | [],_=>by show d∉([]:d_);simp
 | [x],h=>h x fA
 |x::y::r,h=>by
  rw[cy];intro z
  rcases j6.mp z with z|z
  ·rcases j6.mp z with z|z
   ·exact h x fA z
   ·exact hcd (by simpa using z)
  ·exact tG hcd (λy hy=>h y<|fz _ hy) z
def Ik(h:ky x):10∉cz (oA x):=tG a_ λy hy=>((kA h).1 y hy).2.1
def oB(h:ky x):(oA x).length<=1271:=by
 have h1:=pN 32<|xI x;have c:=jj 30 (xI x) λy hy=>((kA h).1 y hy).2.2;have a:=(kA h).2.1;have b:(xI x).length*31<=41*31:=AC _ a;unfold oA
 omega
def Mp(x:Ln):0<(oA x).length:=by
 cases x with
 |e9 n c=>
  have e:(oA<|.e9 n c).length=(cz<|Str.join ⟨#[32]⟩ [("hat":Str),n,jX c]).length:=aJ _;rw[e,cy,eR,eR];show 0<_+1+_
  omega
 |sees n l=>
  have e:(oA<|.sees n l).length=(cz<|Str.join ⟨#[32]⟩ (("sees":Str)::n::l)).length:=aJ _;rw[e,cy,eR,eR];show 0<_+1+_
  omega
noncomputable def lI(L:List Ln):Str:=Str.join ⟨#[10]⟩<|L.map oA
noncomputable def pQ(z:Str):f_:=if z=("":Str)then[]else Txt.split z ⟨#[10]⟩
def Ao(h:∀x∈L,ky x):pQ (lI L)=L.map oA:=by
 cases L with
 |nil=>rfl
 |cons x r=>
  have a:0<(lI (x::r)).length:=by
   have h1:=mz 10 (l:=(x::r).map oA) (x:=oA x) (by simp)
   have b:=Mp x;unfold lI
   omega
  unfold pQ;rw[if_neg (λz=>by rw[z]at a;exact absurd a Dk0)]
  exact eD 10 (by simp) λy hy=>by
   obtain⟨u,hu,rfl⟩:=gh.mp hy;exact Ik<|h u hu
def tH(h:∀x∈L,ky x)(hl:L.length<=100):(lI L).length<=127200:=by
 have h1:=pN 10<|L.map oA;have a:=jj 1271 (L.map oA) λy hy=>by
  obtain⟨u,hu,rfl⟩:=gh.mp hy;exact oB<|h u hu
 rw[b5]at a;have b:L.length*1272<=100*1272:=AC _ hl;unfold lI
 omega
end L2
namespace L2
open PySem PySem.Spec PyProof.Rows
inductive pR(vs:u_)(H:Hp)(Q:VK)(E:XK):Prop
 |mk (d:Addr) (ns:f_) (x:Str) (i:Int):(vs=[.ref d,.str x,.int i])->DN H d ns->x∉ns->ns.length<8->Q .bE (upd H d<|.dK<|pO 0<|ns++[x])->pR vs H Q E
inductive kB(K:Frag)(vs:u_)(H:Hp)(Q:VK)(E:XK):Prop
 |mk (d w t:Addr) (ns l:f_) (ws:d_) (x:Str) (i:Int):(vs=[.ref d,.ref w,.str x,.ref t,.int i])->DN H d ns->H w=some (.lst<|(au ws).map V.int)->ws.length=ns.length->ns.length<=8->x∈ns->ws.getD (ns.idxOf x) 0=0->H t=some (.tup<|l.map V.str)->((∀y∈l,y∈ns))->l.length<=40->(∀H1,ag H H1->Q .bE (upd H1 w<|.lst<|(au<|ws.set (ns.idxOf x)<|nM ns l).map V.int))->kB K vs H Q E
def Ap:Sp:=λa H Q _=>∃z:Str,a=[.str z]/\z.length<=1000000/\(pQ z).length<=900/\∀l H',ag H H'->H l=none->H' l=some (.lst<|(pQ z).map V.str)->Q (.ref l) H'
structure VI(H:Hp)(d c w:Addr)(b:Bk):Prop where
 hd:DN H d b.ns
 hc:H c=some (.lst<|(au b.cs).map V.int)
 hw:H w=some (.lst<|(au b.ws).map V.int)
 lw:b.ws.length=b.ns.length
 lc:b.cs.length=b.ns.length
 fJ:b.ns.length<=8
def Ts(H0:Hp)(z:Str)(d c w r:Addr)(L:List Ln)(k:Nat)(σ:St)(H:Hp):Prop:=∃(b:Bk) (y1 y2 y3:v_),σ=[some (.str z),some<|.ref d,some<|.ref c,some<|.ref w,y1,y2,y3]/\ag H0 H/\H r=some (.lst<|(L.map oA).map V.str)/\dF ⟨[],[],[]⟩ (L.take k)=some b/\VI H d c w b
def Mq{K:Frag}{H:Hp}{x:Ln}{i:Int}{Q:VK}{E:XK}(h:ky x)(q1:∀n c f H',x=.e9 n c->ag H H'->Tq H' f n (c:Int)->Q (.ref f) H')(q2:∀n l f H',x=.sees n l->ag H H'->Qw H' f n l->Q (.ref f) H'):vg K [.str (oA x),.int i] H Q E:=by
 have e:=oB h;have b:=kA h;have d:Txt.split (oA x) ⟨#[32]⟩=xI x:=eD 32 (by intro z;rw[z]at b;exact absurd b.2.2 a_) λy hy=>(b.1 y hy).1
 refine⟨_,i,_,rfl,by omega,d,by omega,?_⟩
 cases x with
 |e9 n c=>exact .inl ⟨Qx h.1 h.2.1 h.2.2,c,(fQ h.2.1 h.2.2).2,λf H' s a=>q1 n c f H' rfl s a⟩
 |sees n l=>exact .inr ⟨Ic _,Mn h.two h.nm,h.nd,λf u H' s a hu=>q2 n l f H' rfl s ⟨u,a,hu⟩⟩
variable{prog:Program}{w:World}{A:Around}{E:c_}{s:Shared}
theorem Oy{it t:Addr}{items:k_}(hne:t≠it):∀(n i:Nat) (s:Shared) (Q:f'->Shared->Prop),s.heap.IsListIter it t i->s.heap.IsList t items->i+n<=items.size->
  (∀h',h'.IsListIter it t (i+n)->SameBut it s.heap h'->Q ((items.toList.drop i).take n) {s with heap:=h'})->wpAny (model prog w) A (draw (.ref it) n) Q E s
 |0,i,s,Q,a,_,_,f=>by
  show wpAny _ _ (pure []) Q E s;exact ek (by simpa using f s.heap a (Heap.SameBut.refl ..))
 |n+1,i,s,Q,a,h,m,f=>by
  have d:i<items.size:=by omega
  show wpAny _ _ (pyNext (.ref it) >>= _) Q E s;refine cv (wpAny_pyNext_list_item a h (x:=items[i]) (by simp[d]) λo c b=>?_)
  refine cv (GT (Oy hne n (i+1) _ _ c (h.extBut b.extBut hne) (by omega) λl e g=>ek ?_))
  have j:items.toList.drop i=items[i]::items.toList.drop (i+1):=by simp[List.drop_eq_getElem_cons,d]
  have:=f l (by rw[show i+(n+1)=i+1+n by omega];exact e)<|b.trans g
  rw[j,List.take_succ_cons]at this;exact this
variable{t:Addr}
def vk{items:k_}{Q:f'->Shared->Prop}(hh:A.handled=none)(ht:s.heap.IsList t items)
  (hQ:∀h',ExtBut s.heap.objs.size s.heap h'->Q items.toList {s with heap:=h'}):wpAny (model prog w) A (unpackItems (.ref t) items.size none) Q E s:=by
 have c:t≠s.heap.objs.size:=by obtain⟨o,j,_⟩:=ht;exact j9<|lt_size j
 unfold unpackItems;refine cv ?_
 ·unfold notIterableAtAll;refine cv<|wpAny_specialOf ht.typeIs F.slot_list_iter.lookup ?_;refine ek ?_;simp only[Bool.false_eq_true,if_false];refine cv<|GT<|L1 ht ?_;refine cv (GT (Oy c items.size 0 _ _ ⟨_,gz _ rfl,rfl,rfl⟩ (ht.push _) (by omega) λl a d=>?_))
  have h:List.take items.size (List.drop 0 items.toList)=items.toList:=by
   rw[drop_zero];exact vr (by simp)
  rw[h];rw[if_neg (by simp)]
  have f:l.IsList t items:=(ht.push _).extBut d.extBut c;refine cv (GT (wpAny_pyNext_list_end hh a f (by simp) λi g=>?_))
  simp only[isSome_none,Bool.false_eq_true,if_false];refine ek<|hQ i λb o hb e=>g b o hb<|d.extBut b o hb<|ef _ e
variable{elts:i_}
def Mr{env:Env}{x1}{pos:Pos}{items:k_}{Q:Unit->Shared->Prop}(hh:A.handled=none)(ht:s.heap.IsList t items)
  (hn:(assignEach elts env).length=items.size) (hstar:(assignEach elts env).findIdx? (·.1)=none)
  (h:∀h',ExtBut s.heap.objs.size s.heap h'->wpAny (model prog w) A (assignInOrder ((assignEach elts env).map (·.2)) items.toList) Q E {s with heap:=h'}):
  wpAny (model prog w) A (assign (.Tuple elts x1 pos) env<|.ref t) Q E s:=by
 rw[assign_Tuple];refine cv<|wpAny_standAt ?_;unfold unpack;rw[hn,hstar];exact cv<|GT<|vk hh ht h
def QC(K:Frag)(n:Nat)(t:BJ):TG:=λv σ H Q=>∃a xs,v=.ref a/\aw K H a xs/\xs.length=n/\t xs σ H Q
variable{X:Cx}{pos:Pos}{t:BJ}{n:Nat}
def QD{es:i_}{k:Nat}(hc:X.calm=true)(h:RA X es t)
  (hn:(assignEach es X.env).length=n:=by rfl) (hst:(assignEach es X.env).findIdx? (·.1)=none:=by rfl):PG X (.Tuple es k pos) (QC X.K n t):=by
 intro c s σ H v u Q I r d;obtain⟨a,g,j,hq,p,d⟩:=d;subst j
 cases r
 obtain⟨l,f,m,hz⟩:=I.list hq;refine Mr (I.ok.hd hc) m.isList (by simp[hn,<-p,f.length]) hst λi hx=>?_
 have q:Inv X c σ H {s with heap:=i}:=I.kept (t':=s.toks) λb o e=>hx b o (j9<|lt_size e) e;exact h c _ σ H g _ Q q (by simpa using f) d
variable{K:Frag}
def QF{es:i_}{kk:Nat}{tgs:BJ}(hc:X.calm=true)(hK:X.K=K)(h:Sz X es tgs)(hn:(assignEach es X.env).length=n:=by rfl)(hst:(assignEach es X.env).findIdx? (·.1)=none:=by rfl):QG X (.Tuple es kk pos) (QC K n tgs):=⟨by subst hK;exact QD hc h.h hn hst⟩
def Il{v:V}{σ:St}{H:Hp}{Q:p_}:QC K n t v σ H Q=∃a xs,v=.ref a/\aw K H a xs/\xs.length=n/\t xs σ H Q:=rfl
noncomputable def dG{α:Type}(l:List α)(k:Nat)(x:α):List α:=l.take k++x::l.drop k
def Ms:V->u_->Hp->VK->Prop:=λx a H Q=>∃(l:Addr) (xs:u_) (k:Nat) (y:V),x=.ref l/\a=[.int (k:Int),y]/\H l=some (.lst xs)/\xs.length<1000000/\k<=xs.length/\Q .bE (upd H l<|.lst<|dG xs k y)
def Mt{x y:V}{us:f'}(r:Vals [x,y] us):∃u v,us=[u,v]/\RelV x u/\RelV y v:=by
 cases r with
 |cons a r=>cases r with
  |cons b r=>cases r;exact⟨_,_,rfl,a,b⟩
def Im{k:Nat}(h:k<=1000000):¬(!Builtin.List.listFitsIndex (k:Int))=true:=by
 have:Builtin.List.listFitsIndex (k:Int)=true:=by
  unfold Builtin.List.listFitsIndex;rw[gc];have a:(2:Int) ^ 63=9223372036854775808:=by decide
  exact⟨cc (by rw[a];omega),cc (by rw[a];omega)⟩
 rw[this];decide
theorem Ct{α β:Type}{F:α->β->Prop}{a:α}{b:β}:∀ {l₁:List α} {l₂:List β} (k:Nat),Paired F l₁ l₂->F a b->Paired F (dG l₁ k a) (dG l₂ k b)
 |_,_,0,r,h=>.cons h r
 | [],_,k+1,.nil,h=>.cons h .nil
 |_::_,_::_,k+1,.cons c r,h=>.cons c<|Ct k r h
def Ee:VE X "list.insert" Ms:=by
 intro i s σ H x B v A Q I o m h;obtain⟨l,C,k,y,rfl,rfl,j,hz,hk,q⟩:=h
 cases o
 obtain⟨u,w,rfl,⟨t,rfl⟩,f⟩:=Mt m;obtain⟨z,a,n,r,D,e⟩:=I.PM j;have g:=r.length;have p:(1000002:Nat)<=sizeLine:=by decide
 have d:a.toArray.size<=sizeLine:=by rw[hO];omega
 have b:=Im (k:=k) (by omega)
 generalize c:(k:Int)=ki at b ⊢;have M:=PySem.AutoSeq1.list_insert_list_int_val_1 l a.toArray n ki t w b d;refine GM F.slot_list_insert ⟨_,e,rfl⟩ F.entry_list_insert (F.args_list_insert_3 _ _ _) M ⟨e,?_⟩;refine⟨.bE,_,I.R5 (its':=dG a k w) j e ?_ (Ct k r f) ?_,rfl,q⟩
 ·subst c;show(a.toArray.extract 0<|if(k:Int)<0 then((k:Int)+(a.toArray.size:Int)).toNat else min (k:Int).toNat a.toArray.size).push w++a.toArray.extract (if(k:Int)<0 then((k:Int)+(a.toArray.size:Int)).toNat else min (k:Int).toNat a.toArray.size)=_
  rw[if_neg (by omega),k4,hO,Nat.min_eq_left (by omega)]
  apply Array.toList_inj.mp
  simp[dG]
  exact vr (by rw[nt];omega)
 ·unfold dG;rw[eR,mo,ri,nt]
  omega
noncomputable def isStr(k:Str):Value->Bool
 |.str x _=>x==k
 |_=>false
theorem pT(k:Str):∀ {xs:f_} {vs:f'},Vals (xs.map V.str) vs->∀(j:Nat) (h1:j<vs.length) (h2:j<xs.length),isStr k vs[j]=(xs[j]==k)
 |x::xs,_,.cons ⟨t,rfl⟩ r,0,_,_=>rfl
 |x::xs,_,.cons ⟨t,rfl⟩ r,j+1,h1,h2=>pT k r j (Nat.lt_of_succ_lt_succ h1)<|Nat.lt_of_succ_lt_succ h2
theorem xJ(k:Str)(t:Tok){A:Around}{s:Shared}:∀ {xs:f_} {vs:f'},Vals (xs.map V.str) vs->∀y,y∈vs->EqAt A s y (.str k t) (isStr k y)
 | [],_,.nil,_,hy=>nomatch hy
 |x::xs,_,.cons ⟨u,rfl⟩ r,y,hy=>by
  rcases gg.mp hy with rfl|hy
  ·exact PySem.SeqAt.EqAt.str_str x u k t
  ·exact xJ k t r y hy
variable{j:Nat}
def Cu{k:Str}{ns:f_}(h:j<ns.idxOf k)(h2:j<ns.length):(ns[j]==k)=false:=by
 have:=List.not_of_lt_findIdx (p:=(· == k)) h
 simpa using this
def Cv(K:Frag):V->u_->Hp->VK->Prop:=λx a H Q=>∃(l:Addr) (ns:f_) (k:Str),x=.ref l/\a=[.str k]/\aw K H l (ns.map V.str)/\k∈ns/\Q (.int (ns.idxOf k:Nat)) H
def mD(hK:X.K=K):yR X "list.index" (Cv K):=by
 subst hK;intro A s σ H x O v N Q I G B h;obtain⟨l,e,k,rfl,rfl,M,hk,q⟩:=h
 cases G
 obtain⟨u,rfl,J⟩:=B.one;obtain⟨t,rfl⟩:=J;obtain⟨g,r,L,hz⟩:=I.list M;obtain⟨⟨E,C,w,D⟩,i,p,n,o⟩:=id L.isList
 simp only at p o
 subst p o;have c:=r.length;rw[b5]at c;have d:e.idxOf k<e.length:=BB.mpr hk;rw[b5]at hz;have m:sizeLine<2 ^ 62:=by decide
 refine GM slot_list_index ⟨_,i,rfl⟩ PySem.F.entry_list_index (PySem.F.args_list_index_2 _ _) (list_indexAt l g.toArray n C D (.str k t) (isStr k) (e.idxOf k) (by rw[hO,<-c];exact d) (by omega) ?a ?b) ⟨i,λy hy=>xJ k t r y (by simpa using hy),?_⟩
 case a=>
  have z:=pT k r (e.idxOf k) (by rw[<-c];exact d) d
  rw[Re d,Wl]at z;exact z
 case b=>
  intro j hj f;have z:=pT k r j (by simpa using hj) (by omega)
  rw[Cu f]at z;exact z
 exact⟨.int _,H,I.tok _,⟨_,rfl⟩,q⟩
structure iU(ns:f_)(cs ws:d_):Prop where
 nm:Mm ns 8
 lc:cs.length=ns.length
 lw:ws.length=ns.length
 UQ:∀c∈cs,0<c/\c<10 ^ 30
 UW:∀j,j<ns.length->ws.getD j 0<2 ^ ns.length
 De:∀j,j<ns.length->ws.getD j 0 / 2 ^ j%2=0
def Io(H:Hp)(b:Addr)(ns:f_)(cs ws:d_):Prop:=∃a1 a2 a3,H b=some (.lst [.ref a1,.ref a2,.ref a3])/\H a1=some (.lst<|ns.map V.str)/\H a2=some (.lst<|(au cs).map V.int)/\H a3=some (.lst<|(au ws).map V.int)
noncomputable def pU(n w:Nat):d_:=(List.range n).filter λj=>decide<|w / 2 ^ j%2=1
theorem vm(w:Nat):∀n,((pU n w).map λj=>2 ^ j).sum=w%2 ^ n
 |0=>by show 0=_;rw[Nat.pow_zero,Nat.mod_one]
 |n+1=>by
  have a:=vm w n;unfold pU at a ⊢;rw[u5,UV,hU,List.sum_append,a,Nat.mod_pow_succ]
  congr 1
  rcases Wa (w / 2 ^ n)with e|e
  ·rw[List.filter_cons_of_neg (by simp[e]),e];simp
  ·rw[List.filter_cons_of_pos (by simp[e]),e];simp
def Cw{w:Nat}:j∈pU n w↔j<n/\w / 2 ^ j%2=1:=by
 unfold pU;rw[j5,fO,decide_eq_true_iff]
def QH(n w:Nat):(pU n w).Nodup:=Wj.sublist Wm
inductive Mx where
 |e9 (j:Nat)
 |sees (i:Nat) (l:d_)
noncomputable def Mx.hi:Mx->Option Nat
 |.e9 j=>some j
 |.sees _ _=>none
noncomputable def Mx.si:Mx->Option Nat
 |.e9 _=>none
 |.sees i _=>some i
noncomputable def tJ(ns:f_)(cs:d_):Mx->Ln
 |.e9 j=>.e9 (ns.getD j bo)<|cs.getD j 0
 |.sees i l=>.sees (ns.getD i bo)<|l.map λj=>ns.getD j bo
def xK:d_->List Mx->Prop
 |_,[]=>True
 |S,.e9 j::r=>xK (S++[j]) r
 |S,.sees i l::r=>(i∈S/\∀j∈l,j∈S)/\xK S r
theorem iw:∀(S:d_) (A B:List Mx),xK S (A++B)↔xK S A/\xK (S++A.filterMap Mx.hi) B
 |S,[],B=>by simp[xK]
 |S,.e9 j::A,B=>by
  show xK (S++[j]) (A++B)↔xK (S++[j]) A/\_;rw[iw,FB];show _↔_/\xK (S++(j::A.filterMap Mx.hi)) B;rw[qE];rfl
 |S,.sees i l::A,B=>by
  show(_/\xK S (A++B))↔(_/\xK S A)/\xK (S++(Mx.sees i l::A).filterMap Mx.hi) B;rw[iw,FB];exact and_assoc.symm
variable{i q:Nat}{M:List Mx}{l:d_}
def Mu(h:xK [] M)(hi:i∈(M.take q).filterMap Mx.hi)(hl:∀j∈l,j∈(M.take q).filterMap Mx.hi):xK [] (dG M q<|.sees i l):=by
 have a:=(iw [] (M.take q)<|M.drop q).mp (by rw[SL];exact h)
 unfold dG;refine(iw _ _ _).mpr ⟨a.1,⟨?_,a.2⟩⟩;rw[nil_append];exact⟨hi,hl⟩
def QK:(dG M q<|.sees i l).filterMap Mx.hi=M.filterMap Mx.hi:=by
 unfold dG;rw[List.filterMap_append,FB];show _++(M.drop q).filterMap Mx.hi=_;rw[<-List.filterMap_append,SL]
def Ip:((dG M q<|.sees i l).filterMap Mx.si).Perm (i::M.filterMap Mx.si):=by
 unfold dG;rw[List.filterMap_append,FB];show((M.take q).filterMap Mx.si++i::(M.drop q).filterMap Mx.si).Perm _;refine List.perm_middle.trans<|List.Perm.cons _ ?_;rw[<-List.filterMap_append,SL]
def Mv{α:Type}{M:List α}{x y:α}:y∈dG M q x↔y=x∨y∈M:=by
 unfold dG;rw[j6,gg]
 constructor
 ·rintro(h|h|h)
  ·exact .inr<|List.mem_of_mem_take h
  ·exact .inl h
  ·exact .inr<|mem_of_mem_drop h
 ·rintro(h|h)
  ·exact .inr<|.inl h
  ·rw[<-SL q M]at h
   rcases j6.mp h with z|z
   ·exact .inl z
   ·exact .inr<|.inr z
def Cy{α β:Type}(f:α->β)(M:List α)(q:Nat)(x:α):(dG M q x).map f=dG (M.map f) q (f x):=by
 unfold dG;rw[hU,m5,Wy,Wo]
noncomputable def stM(ns:f_)(cs ws:d_)(h:Nat)(U:d_):Bk:=⟨ns.take h,cs.take h,(List.range h).map λi=>if i∈U then ws.getD i 0 else 0⟩
variable{ns:f_}{cs ws:d_}{h:Nat}
def vn(P:iU ns cs ws)(hj:j<h)(hh:h<=ns.length):ns.getD j bo∈ns.take h/\(ns.take h).idxOf (ns.getD j bo)=j:=by
 have a:(ns.take h).length=h:=by rw[ri];omega
 have e:ns.getD j bo=(ns.take h)[j]'(by omega):=by
  rw[getElem_take,b3,b4 (by omega)];rfl
 rw[e];exact⟨kf _,(P.nm.nd.sublist<|take_sublist _ _).idxOf_getElem _ _⟩
def mE{α:Type}{l:List α}(d:α)(hh:h<l.length):l.take (h+1)=l.take h++[l.getD h d]:=by
 rw[List.take_add_one,b4 hh,b3,b4 hh];rfl
def Mw(P:iU ns cs ws)(hl:∀j∈l,j<h)(hh:h<=ns.length)(hp:l.Perm (pU ns.length<|ws.getD i 0))(hi:i<ns.length):nM (ns.take h) (l.map λj=>ns.getD j bo)=ws.getD i 0:=by
 unfold nM;rw[k6];have e:l.map ((λy=>2 ^ (ns.take h).idxOf y) ∘ λj=>ns.getD j bo)=l.map λj=>2 ^ j:=Os λj hj=>by
  show 2 ^ _=_;rw[(vn P (hl j hj) hh).2]
 rw[e,(hp.map _).sum_nat,vm,v8<|P.UW i hi]
theorem mF(P:iU ns cs ws):∀(r:List Mx) (h:Nat) (U:d_),xK (List.range h) r->List.range h++r.filterMap Mx.hi=List.range ns.length->(U++r.filterMap Mx.si).Nodup->(∀i∈U,i<h)->
  (∀i l,Mx.sees i l∈r->l.Perm (pU ns.length<|ws.getD i 0))->dF (stM ns cs ws h U) (r.map<|tJ ns cs)=some (stM ns cs ws ns.length<|U++r.filterMap Mx.si)
 | [],h,U,_,f,_,_,_=>by
  have e:h=ns.length:=by
   have:=BA List.length f
   simpa using this
  rw[map_nil,List.filterMap_nil,append_nil,e];rfl
 |.e9 j::r,h,U,ok,f,q,o,n=>by
  have a:List.range h++j::r.filterMap Mx.hi=List.range ns.length:=f;have g:=BA List.length a;rw[eR,mo,h7,h7]at g;have A:j=h:=by
   have this:(List.range h++j::r.filterMap Mx.hi)[h]?=(List.range ns.length)[h]?:=by rw[a]
   rw[qz (by simp),h7,Wr,mv (by omega)]at this
   exact o6 this
  subst A;have b:j<ns.length:=by omega
  have D:=P.nm.fJ;have u:=mF P r (j+1) U (by rw[u5];exact ok) (by rw[u5,qE];exact a) q (λi hi=>Wf<|o i hi) λi l hm=>n i l<|fz _ hm
  have B:(ns.take j).length=j:=by rw[ri];omega
  have c:ns.getD j bo∉ns.take j:=λz=>by
   have e:ns.getD j bo=ns[j]:=by rw[b3,b4 b];rfl
   rw[e]at z;obtain⟨k,hk,w⟩:=qN z;rw[getElem_take]at w
   have:=(getElem_inj P.nm.nd).mp w
   omega
  have s:kj (stM ns cs ws j U) (tJ ns cs<|.e9 j)=some (stM ns cs ws (j+1) U):=by
   show(if ns.getD j bo∉ns.take j/\(ns.take j).length<8 then some (⟨ns.take j++[ns.getD j bo],cs.take j++[cs.getD j 0],((List.range j).map λi=>if i∈U then ws.getD i 0 else 0)++[0]⟩:Bk)else none)=_
   rw[if_pos ⟨c,by omega⟩,<-mE bo b,<-mE 0 (by rw[P.lc];exact b)]
   unfold stM;rw[u5,hU];have hj:j∉U:=λz=>Df _<|o j z;show some (⟨_,_,_++[0]⟩:Bk)=some ⟨_,_,_++[if j∈U then ws.getD j 0 else 0]⟩
   rw[if_neg hj]
  rw[m5,dF,s];exact u
 |.sees i l::r,h,U,ok,f,q,o,n=>by
  obtain⟨⟨hi,p⟩,t⟩:=ok;have hi:i<h:=fO.mp hi;have p:∀j∈l,j<h:=λj hj=>fO.mp<|p j hj;have a:List.range h++r.filterMap Mx.hi=List.range ns.length:=f;have hh:h<=ns.length:=by
   have:=BA List.length a
   rw[eR,h7,h7]at this
   omega
  have d:(U++i::r.filterMap Mx.si).Nodup:=q;have v:i∉U:=λz=>by
   have:=(We.mp d).2.2 i z i fA
   exact this rfl
  have u:=mF P r h (U++[i]) t a (by rw[qE];exact d) (λk hk=>by
   rcases j6.mp hk with z|z
   ·exact o k z
   ·rw[eG.mp z];exact hi) λk m hm=>n k m<|fz _ hm
  have hn:=vn P hi hh;have s:kj (stM ns cs ws h U) (tJ ns cs<|.sees i l)=some (stM ns cs ws h<|U++[i]):=by
   show(if ns.getD i bo∈ns.take h/\((List.range h).map λi=>if i∈U then ws.getD i 0 else 0).getD ((ns.take h).idxOf<|ns.getD i bo) 0=0/\∀y∈l.map (λj=>ns.getD j bo),y∈ns.take h then some (⟨ns.take h,cs.take h,((List.range h).map λi=>if i∈U then ws.getD i 0 else 0).set ((ns.take h).idxOf<|ns.getD i bo)<|nM (ns.take h)<|l.map λj=>ns.getD j bo⟩:Bk)else none)=_
   rw[hn.2,Mw P p hh (n i l fA) (by omega)]
   have x:((List.range h).map λi=>if i∈U then ws.getD i 0 else 0).getD i 0=0:=by
    rw[b3,ed,mv hi];show(if i∈U then _ else 0)=0
    rw[if_neg v]
   have C:∀y∈l.map (λj=>ns.getD j bo),y∈ns.take h:=by
    intro y hy;obtain⟨j,hj,rfl⟩:=gh.mp hy;exact(vn P (p j hj) hh).1
   rw[if_pos ⟨hn.1,x,C⟩];unfold stM
   congr 2
   apply C2
   intro k;rw[List.getElem?_set,ed,b5,h7]
   by_cases e:i=k
   ·subst e;rw[if_pos rfl,if_pos hi,ed,mv hi];show _=some (if i∈U++[i]then _ else _)
    rw[if_pos (by simp)]
   ·rw[if_neg e,ed]
    by_cases hk:k<h
    ·rw[mv hk];show some (if k∈U then _ else _)=some (if k∈U++[i]then _ else _)
     have:k∈U↔k∈U++[i]:=by
      rw[j6,eG];exact⟨.inl,λz=>z.elim id λz=>absurd z.symm e⟩
     simp only[this]
    ·rw[h9 (by rw[h7];omega)]
     first|rfl|(rw[ed,h9 (by rw[h7];omega)];rfl)
  rw[m5,dF,s];show dF _ _=some (stM ns cs ws ns.length (U++i::r.filterMap Mx.si));rw[show U++i::r.filterMap Mx.si=(U++[i])++r.filterMap Mx.si by rw[qE];rfl]
  exact u
structure dH(ns:f_)(ws:d_)(done:Nat->Prop)(M:List Mx):Prop where
 ok:xK [] M
 f7:M.filterMap Mx.hi=List.range ns.length
 nd:(M.filterMap Mx.si).Nodup
 pm:∀i l,Mx.sees i l∈M->l.Perm (pU ns.length<|ws.getD i 0)/\i<ns.length/\l≠[]
 al:∀i,i∈M.filterMap Mx.si↔done i/\i<ns.length/\pU ns.length (ws.getD i 0)≠[]
variable{done:Nat->Prop}
def dH.book(P:iU ns cs ws)(h:dH ns ws done M)(hd:∀i,i<ns.length->done i):dF ⟨[],[],[]⟩ (M.map<|tJ ns cs)=some ⟨ns,cs,ws⟩:=by
 have:=mF P M 0 [] h.ok (by rw[List.range_zero,nil_append];exact h.f7) (by rw[nil_append];exact h.nd) (λ_ z=>nomatch z) λi l hm=>(h.pm i l hm).1
 rw[nil_append]at this;have c:stM ns cs ws 0 []=⟨[],[],[]⟩:=by unfold stM;simp
 rw[c]at this;rw[this];unfold stM
 congr 2
 ·exact vr<|dy _
 ·exact vr (by rw[P.lc];exact dy _)
 ·apply C2
  intro k;rw[ed]
  by_cases hk:k<ns.length
  ·have b:k<ws.length:=by rw[P.lw];exact hk
   rw[mv hk,b4 (by rw[P.lw];exact hk)]
   show some (if k∈M.filterMap Mx.si then ws.getD k 0 else 0)=some ws[k]
   have a:ws.getD k 0=ws[k]'(by rw[P.lw];exact hk):=by rw[b3,b4 (by rw[P.lw];exact hk)];rfl
   by_cases hb:pU ns.length (ws.getD k 0)=[]
   ·rw[if_neg (λz=>((h.al k).mp z).2.2 hb)]
    have:=vm (ws.getD k 0) ns.length
    rw[hb,v8<|P.UW k hk]at this;rw[<-a,<-this];rfl
   ·rw[if_pos ((h.al k).mpr ⟨hd k hk,hk,hb⟩),a]
  ·rw[h9 (by rw[h7];omega),h9 (by rw[P.lw];omega)]
   rfl
noncomputable abbrev hZ(ns:List Str)(cs:List Nat)(x:Mx):Str:=oA<|tJ ns cs x
def getD_inj(P:iU ns cs ws)(hi:i<ns.length)(hj:j<ns.length)(e:ns.getD i bo=ns.getD j bo):i=j:=by
 rw[b3,b3,b4 hi,b4 hj]at e;exact(getElem_inj P.nm.nd).mp e
def Aq(P:iU ns cs ws)(hj:j<ns.length):ky (tJ ns cs<|.e9 j):=by
 have hc:cs.getD j 0∈cs:=by
  rw[b3,b4 (by rw[P.lc];exact hj)];exact kf _
 exact⟨P.nm.nm _<|getD_memS hj,P.UQ _ hc⟩
theorem Iq(P:iU ns cs ws):∀ {l:d_},l.Nodup->(∀j∈l,j<ns.length)->(l.map λj=>ns.getD j bo).Nodup
 | [],_,_=>.nil
 |x::r,h,a=>by
  have b:=m3.mp h;rw[m5,m3];refine⟨λz=>?_,Iq P b.2 λj hj=>a j<|fz _ hj⟩;obtain⟨j,hj,e⟩:=gh.mp z
  have:=getD_inj P (a j<|fz _ hj) (a x fA) e
  exact b.1<|this ▸ hj
def Cz(P:iU ns cs ws)(hi:i<ns.length)(hp:l.Perm (pU ns.length<|ws.getD i 0))(hl:l≠[]):ky (tJ ns cs<|.sees i l):=by
 have hm:∀j∈l,j<ns.length/\ws.getD i 0 / 2 ^ j%2=1:=λj hj=>Cw.mp<|hp.mem_iff.mp hj;have b:l.Nodup:=hp.nodup_iff.mpr<|QH _ _;have a:i∉l:=λz=>by have:=(hm i z).2;rw[P.De i hi]at this;cases this
 have d:l.length<=ns.length:=by
  rw[hp.length_eq];unfold pU
  have:=x6 (λj=>decide<|ws.getD i 0 / 2 ^ j%2=1)<|List.range ns.length
  rw[h7]at this;exact this
 have f:=P.nm.fJ;have c:0<l.length:=Fh.mpr hl;have e:(ns.getD i bo::l.map λj=>ns.getD j bo)=(i::l).map λj=>ns.getD j bo:=rfl;show Vl (ns.getD i bo::l.map λj=>ns.getD j bo);rw[e];refine⟨by rw[b5,mo];omega,by rw[b5,mo];omega,Iq P (m3.mpr ⟨a,b⟩) ?_,?_⟩
 ·intro j hj
  rcases gg.mp hj with z|z
  ·rw[z];exact hi
  ·exact(hm j z).1
 ·intro x hx;obtain⟨j,hj,rfl⟩:=gh.mp hx
  rcases gg.mp hj with z|z
  ·rw[z];exact P.nm.nm _<|getD_memS hi
  ·exact P.nm.nm _<|getD_memS (hm j z).1
def vo:Mx.e9 j∈M↔j∈M.filterMap Mx.hi:=by
 rw[List.mem_filterMap]
 constructor
 ·intro h;exact⟨_,h,rfl⟩
 ·rintro⟨x,hx,e⟩
  cases x with
  |e9 k=>cases e;exact hx
  |sees i l=>cases e
def dH.Ar(P:iU ns cs ws)(h:dH ns ws done M):∀x∈M,ky (tJ ns cs x):=by
 intro x hx
 cases x with
 |e9 j=>
  have:=vo.mp hx
  rw[h.f7]at this;exact Aq P<|fO.mp this
 |sees i l=>exact Cz P (h.pm i l hx).2.1 (h.pm i l hx).1 (h.pm i l hx).2.2
def dH.Tt(P:iU ns cs ws)(h:dH ns ws done M):∀x∈M.map (tJ ns cs),ky x:=by
 intro x hx;obtain⟨y,hy,rfl⟩:=gh.mp hx;exact h.Ar P y hy
def Ir{x y:Ln}(hx:ky x)(hy:ky y)(e:oA x=oA y):xI x=xI y:=by
 have f:∀ {z:Ln},ky z->Txt.split (oA z) ⟨#[32]⟩=xI z:=λ{z} hz=>eD 32 (by intro w;have:=(kA hz).2.2;rw[w]at this;exact absurd this a_) λy hy=>((kA hz).1 y hy).1
 rw[<-f hx,<-f hy,e]
def QL(P:iU ns cs ws)(h:dH ns ws done M){x:Mx}(hx:x∈M)(hj:j<ns.length)(e:hZ ns cs x=hZ ns cs (.e9 j)):x=.e9 j:=by
 have w:=Ir (h.Ar P x hx) (Aq P hj) e
 cases x with
 |e9 k=>
  have hk:k<ns.length:=by
   have:=vo.mp hx
   rw[h.f7]at this;exact fO.mp this
  have w:[("hat":Str),ns.getD k bo,jX<|cs.getD k 0]=[("hat":Str),ns.getD j bo,jX<|cs.getD j 0]:=w;have e2:ns.getD k bo=ns.getD j bo:=(Wv (Wv w).2).1;rw[getD_inj P hk hj e2]
 |sees i l=>
  have w:("sees":Str)::_=("hat":Str)::_:=w;exact absurd (Wv w).1 Dk0
def dH.idx(P:iU ns cs ws)(h:dH ns ws done M)(hj:j<ns.length):hZ ns cs (.e9 j)∈M.map (hZ ns cs)/\(M.map<|hZ ns cs).idxOf (hZ ns cs<|.e9 j)<M.length/\∀q,(M.map<|hZ ns cs).idxOf (hZ ns cs<|.e9 j)<q->j∈(M.take q).filterMap Mx.hi:=by
 have hm:Mx.e9 j∈M:=vo.mpr (by rw[h.f7];exact fO.mpr hj)
 have h1:hZ ns cs (.e9 j)∈M.map (hZ ns cs):=gh.mpr ⟨_,hm,rfl⟩;have a:=BB.mpr h1;rw[b5]at a;refine⟨h1,a,λq hq=>?_⟩;have e:=Re (xs:=M.map<|hZ ns cs) (x:=hZ ns cs<|.e9 j) (by rw[b5];exact a)
 rw[List.getElem_map]at e;have hx:=QL P h (kf a) hj e;refine vo.mp ?_;rw[<-hx];refine ih (i:=(M.map<|hZ ns cs).idxOf<|hZ ns cs<|.e9 j) ?_;rw[List.getElem?_take_of_lt hq];exact b4 a
def dH.start:dH ns ws (λ_=>False) ((List.range ns.length).map Mx.e9):=by
 have hh:∀l:d_,(l.map Mx.e9).filterMap Mx.hi=l:=λl=>by
  induction l with
  |nil=>rfl
  |cons a r b=>rw[m5,FB];show a::_=_;rw[b]
 have c:∀l:d_,(l.map Mx.e9).filterMap Mx.si=[]:=λl=>by
  induction l with
  |nil=>rfl
  |cons a r b=>rw[m5,FB];exact b
 have d:∀(l S:d_),xK S (l.map Mx.e9):=λl=>by
  induction l with
  |nil=>intro S;trivial
  |cons a r b=>intro S;exact b<|S++[a]
 refine⟨d _ _,hh _,by rw[c];exact .nil,λi l hm=>?_,λi=>?_⟩
 ·obtain⟨k,_,e⟩:=gh.mp hm;cases e
 ·rw[c];exact⟨(λz=>nomatch z),λz=>z.1.elim⟩
variable{done':Nat->Prop}
def dH.ins(h:dH ns ws done M)(hi:i<ns.length)(hd:¬done i)(hp:l.Perm (pU ns.length<|ws.getD i 0))(hl:l≠[])(hq:∀j∈i::l,j∈(M.take q).filterMap Mx.hi)(hdd:∀x,done' x↔done x∨x=i):
  dH ns ws done' (dG M q<|.sees i l) where
 ok:=Mu h.ok (hq i fA) λj hj=>hq j (fz _ hj)
 f7:=by rw[QK];exact h.f7
 nd:=Ip.nodup_iff.mpr (m3.mpr ⟨λz=>hd ((h.al i).mp z).1,h.nd⟩)
 pm:=λk m hm=>by
  rcases Mv.mp hm with e|e
  ·cases e;exact⟨hp,hi,hl⟩
  ·exact h.pm k m e
 al:=λk=>by
  rw[Ip.mem_iff,gg,h.al k,hdd]
  constructor
  ·rintro(rfl|⟨a,b,c⟩)
   ·exact⟨.inr rfl,hi,λz=>hl (by rw[z]at hp;exact hp.eq_nil)⟩
   ·exact⟨.inl a,b,c⟩
  ·rintro⟨a|a,b,c⟩
   ·exact .inr ⟨a,b,c⟩
   ·exact .inl a
theorem dH.skip(h:dH ns ws done M)(hb:pU ns.length (ws.getD i 0)=[])(hdd:∀x,done' x↔done x∨x=i):dH ns ws done' M where
 ok:=h.ok
 f7:=h.f7
 nd:=h.nd
 pm:=h.pm
 al:=λk=>by
  rw[h.al k,hdd]
  constructor
  ·rintro⟨a,b,c⟩;exact⟨.inl a,b,c⟩
  ·rintro⟨a|a,b,c⟩
   ·exact⟨a,b,c⟩
   ·rw[a]at c;exact absurd hb c
def jQ{k:Nat}(h:k<l.length):((au l).map V.int).getD k .bE=.int ((l.getD k 0:Nat):Int):=by
 unfold au;rw[b3,ed,ed,b4 h,b3,b4 h];rfl
def c9{α:Type}(g:Nat->α)(l:d_):((List.range l.length).map λi=>g<|l.getD i 0)=l.map g:=by
 apply C2
 intro i
 by_cases hi:i<l.length
 ·rw[ed,mv hi,ed,b4 hi];show some (g<|l.getD i 0)=some (g l[i]);rw[b3,b4 hi];rfl
 ·rw[h9 (by rw[b5,h7];omega),h9 (by rw[b5];omega)]
def g9{k:Nat}(h:k<l.length):l.getD k 0∈l:=by
 rw[b3,b4 h];exact kf h
def Tu(H0:Hp)(b dr a1 a2 a3 l:Addr)(ns:f_)(cs:d_)(k:Nat)(σ:St)(H:Hp):Prop:=∃y6 y7 y8 y9 y10 y11 y12:v_,σ=[some (.ref b),some<|.ref dr,some<|.ref a1,some<|.ref a2,some<|.ref a3,some<|.ref l,y6,y7,y8,y9,y10,y11,y12]/\ag H0 H/\H l=some (.lst<|(((List.range k).map Mx.e9).map<|hZ ns cs).map V.str)
def Tv(H0:Hp)(b dr a1 a2 a3 l o:Addr)(ns:f_)(cs ws od:d_)(k:Nat)(σ:St)(H:Hp):Prop:=∃(M:List Mx) (y6 y8 y9 y10 y11 y12:v_),σ=[some (.ref b),some<|.ref dr,some<|.ref a1,some<|.ref a2,some<|.ref a3,some<|.ref l,y6,some<|.ref o,y8,y9,y10,y11,y12]/\ag H0 H/\H o=some (.lst<|(au od).map V.int)/\H l=some (.lst<|(M.map<|hZ ns cs).map V.str)/\dH ns ws (λi=>i∈od.take k) M/\M.length<=ns.length+k
def Tw(H0:Hp)(b dr a1 a2 a3 l:Addr)(ns:f_)(cs:d_)(σ:St)(H:Hp):Prop:=∃(o:Addr) (od:d_) (y6 y8 y9 y10 y11 y12:v_),σ=[some (.ref b),some<|.ref dr,some<|.ref a1,some<|.ref a2,some<|.ref a3,some<|.ref l,y6,some<|.ref o,y8,y9,y10,y11,y12]/\ag H0 H/\H l=some (.lst<|(((List.range ns.length).map Mx.e9).map<|hZ ns cs).map V.str)/\H o=some (.lst<|(au od).map V.int)/\od.Perm (List.range ns.length)/\l≠o
def Tx(H0:Hp)(b dr a1 a2 a3 l o:Addr)(i:Nat)(bt:d_)(σ:St)(H:Hp):Prop:=∃(s:Addr) (sm:d_) (y6 y10 y11 y12:v_),σ=[some (.ref b),some<|.ref dr,some<|.ref a1,some<|.ref a2,some<|.ref a3,some<|.ref l,y6,some<|.ref o,some<|.int (i:Int),some<|.ref s,y10,y11,y12]/\ag H0 H/\H s=some (.lst<|(au sm).map V.int)/\sm.Perm bt
variable{od:d_}
def Ef{k:Nat}(hk:k<od.length)(x:Nat):x∈od.take (k+1)↔x∈od.take k∨x=od.getD k 0:=by
 rw[mE 0 hk,j6,eG]
def Iu(nd:od.Nodup){k:Nat}(hk:k<od.length):od.getD k 0∉od.take k:=λz=>by
 have e:od.getD k 0=od[k]:=by rw[b3,b4 hk];rfl
 rw[e]at z;obtain⟨j,hj,a⟩:=qN z;rw[getElem_take]at a;rw[ri]at hj
 have:=(getElem_inj nd).mp a
 omega
def Tz:V->Hp->VK->Prop:=λx H Q=>(∃y,x=.str y/\y.length<=sizeLine/\Q (.str y) H)∨(∃i:Int,x=.int i/\i.natAbs.log2<1920/\Q (.str<|Str.ofString<|toString i) H)
def TB(tv:TE):TE:=λσ H Q=>tv σ H λx H1=>Tz x H1 Q
variable{v:Expr}{tv:TE}
def TC(hv:QE X v tv):QE X (.FormattedValue v (-1) none pos) (TB tv):=⟨by
 intro a s σ H Q I h;refine FormattedValue_plain<|bP (hv.h a s σ H _ I h) λu g ⟨x,H1,c,b,f⟩=>?_
 rcases f with ⟨y,rfl,hy,q⟩|⟨i,rfl,hi,q⟩
 ·obtain⟨t,rfl⟩:=b;exact formatField_str (λt' d=>⟨.str y,H1,c.kept (t':=d) λ_ _ e=>e,⟨_,rfl⟩,q⟩) hy
 ·obtain⟨t,rfl⟩:=b;exact formatField_int_small hi ⟨.str _,H1,c.kept (t':=_) λ_ _ e=>e,⟨_,rfl⟩,q⟩⟩
def RG:List TE->Str->TE
 | [],a=>λ_ H Q=>a.length<=sizeLine/\Q (.str a) H
 |t::r,a=>λσ H Q=>t σ H λx H1=>∃y,x=.str y/\(a++y).length<=sizeLine/\RG r (a++y) σ H1 Q
structure QJ(X:Cx)(es:i_)(ts:List TE):Prop where
 h:∀(B_:Str) (w_:aO0) (s:Shared) (σ:St) (H:Hp) (Q:VK),Inv X w_ σ H s->RG ts B_ σ H Q->wpAny (model X.prog X.w) X.A (joinParts B_<|evalEach es X.env) (EP X w_ σ Q) X.xe s
def QM:QJ X [] []:=⟨λa b s σ H Q I h=>joinParts_nil ⟨.str a,H,I.tok _,⟨_,rfl⟩,h.2⟩ h.1⟩
variable{t:TE}{ts:List TE}
def vp{e:Expr}{es:i_}(he:QE X e t)(hr:QJ X es ts):QJ X (e::es) (t::ts):=⟨λd a s σ H Q I h=>by
 refine joinParts_cons (x:=eval e X.env) (rest:=evalEach es X.env)<|bP (he.h a s σ H _ I h) λu g ⟨x,H1,f,b,c⟩=>?_;obtain⟨y,rfl,hy,q⟩:=c;obtain⟨i,rfl⟩:=b;exact⟨hy,hr.h _ a g σ H1 Q f q⟩⟩
def TF{e e2:Expr}{es:i_}(h:QJ X (e::e2::es) ts):QE X (.JoinedStr (e::e2::es) pos) (RG ts Str.empty):=⟨λa s σ H Q I q=>JoinedStr_many<|h.h Str.empty a s σ H Q I q⟩
def Oz{σ:St}{H:Hp}{Q:VK}:TB tv σ H Q=tv σ H λx H1=>Tz x H1 Q:=rfl
variable{B_:Str}
def OA{σ:St}{H:Hp}{Q:VK}:RG [] B_ σ H Q=(B_.length<=sizeLine/\Q (.str B_) H):=rfl
def OB{r:List TE}{σ:St}{H:Hp}{Q:VK}:RG (t::r) B_ σ H Q=t σ H λx H1=>∃y,x=.str y/\(B_++y).length<=sizeLine/\RG r (B_++y) σ H1 Q:=rfl
def OC(K:Frag):V->Int->Int->Hp->VK->Prop:=λx a b H Q=>∃l xs,x=.ref l/\aw K H l xs/\b≠0/\∀(R:d_) p,H p=none->(R.filterMap λi=>xs[i]?).length<=sizeLine->Q (.ref p) (upd H p<|.lst<|R.filterMap λi=>xs[i]?)
def Iv(K:Frag)(te tl ts:TE):TE:=λσ H Q=>te σ H λx H1=>tl σ H1 λy c=>∃a,y=.int a/\ts σ c λz d=>∃b,z=.int b/\OC K x a b d Q
theorem tK{xs:u_}{its:f'}(r:Vals xs its):∀R:d_,Vals (R.filterMap λi=>xs[i]?)<|R.filterMap λi=>its[i]?
 | []=>.nil
 |k::R=>by
  have a:=tK r R;have c:=r.length;rw[FB,FB]
  by_cases hk:k<xs.length
  ·obtain⟨u,hu,b⟩:=r.get<|b4 hk;rw[b4 hk,hu];exact .cons b a
  ·rw[h9 (by omega),h9 (by omega)]
   exact a
variable{e lo st:Expr}{te tl ts:TE}{p2:Pos}
def My{ops:Value->Value->f'}(he:PE X e te)(hlo:PE X lo tl)(hs:PE X st ts)(hsub:∀o i,subscripted (.Slice (some lo) none (some st) p2) false o i=operate (ops o i) (getItem o i)):PE X (.Subscript e (.Slice (some lo) none (some st) p2) pos) (Iv X.K te tl ts):=by
 intro d s σ H Q I h;refine Subscript_<|bP (he d s σ H _ I h) λv O ⟨x,H1,Z,F,G⟩=>?_;refine wpAny_Slice ?_;rw[evalPart_some];refine bP (hlo d O σ H1 _ Z G) λvl s2 ⟨y,U,Y,J,p⟩=>?_;obtain⟨f,rfl,p⟩:=p;rw[evalPart_none];refine ek ?_;rw[evalPart_some];refine bP (hs d s2 σ U _ Y p) λvs l ⟨z,H3,M,N,S⟩=>?_;obtain⟨g,rfl,a,D,rfl,hx,hb,q⟩:=S
 cases F
 obtain⟨m,rfl⟩:=J;obtain⟨t,rfl⟩:=N;have u:Inv X d σ H3 {l with heap:=l.heap.push {cls:=.type "slice",data:=.fields #[.int f m,.none,.int g t]}}:=M.kept (t':=l.toks) λb ob q=>ef _ q;obtain⟨c,r,C,hz⟩:=u.list hx;have E:=r.length;show wpAny (model X.prog X.w) X.A (subscriptTail e (.Slice (some lo) none (some st) p2) (.ref a)<|.ref l.heap.objs.size) (EP X d σ Q) X.xe {l with heap:=l.heap.push {cls:=.type "slice",data:=.fields #[.int f m,.none,.int g t]}};refine tail_any (T:="list") (ops:=ops (.ref a)<|.ref l.heap.objs.size) C.isList.typeIs slot_list_getitem.lookup ?_ (hsub _ _);refine wpAny_getItem_list_slice C.isList (Heap.IsSliceOf.new ..) (.int f m) .none (.int g t) (by simpa using hb) ?_ (by rw[hO]<;>omega)
 obtain⟨R,P⟩:∃R:d_,slicePick c.toArray (some f) none (some g)=(R.filterMap λi=>c[i]?).toArray:=by
  unfold slicePick;refine⟨sliceRange (sliceBounds (some f) none (some g) c.toArray.size).1 (sliceBounds (some f) none (some g) c.toArray.size).2.1 (sliceBounds (some f) none (some g) c.toArray.size).2.2,?_⟩;have L:(λk=>c.toArray[k]?)=(λk:Nat=>c[k]?):=by funext k;simp
  rw[L]
 have n:=slicePick_size_le c.toArray (some f) none<|some g;rw[P]at n ⊢;rw[hO,hO]at n;have B:=tK r R;have W:=B.length;have j:(R.filterMap λi=>D[i]?).length<=sizeLine:=by omega
 exact⟨.ref _,_,u.laid (t':=l.toks) (o:=.lst<|R.filterMap λi=>D[i]?) (λb ob q=>ef _ q) (dy _) ⟨j,_,0,B,gz _ rfl⟩,rfl,q R _ (u.bq.fresh<|dy _) j⟩
def Iw{ops:Value->Value->f'}(he:QE X e te)(hlo:QE X lo tl)(hs:QE X st ts)(h:X.K=K)(hsub:∀o i,subscripted (.Slice (some lo) none (some st) p2) false o i=operate (ops o i) (getItem o i):=by intro _ _;with_unfolding_all rfl):QE X (.Subscript e (.Slice (some lo) none (some st) p2) pos) (Iv K te tl ts):=⟨by subst h;exact My he.h hlo.h hs.h hsub⟩
def Iy{σ:St}{H:Hp}{Q:VK}:Iv K te tl ts σ H Q=te σ H λx H1=>tl σ H1 λy H2=>∃a,y=.int a/\ts σ H2 λz H3=>∃b,z=.int b/\OC K x a b H3 Q:=rfl
def mG(ns:e_)(R:d_):(R.filterMap λi=>(ns.map V.int)[i]?)=(R.filterMap λi=>ns[i]?).map V.int:=by
 rw[List.map_filterMap];have a:(λi=>(ns.map V.int)[i]?)=(λi:Nat=>Option.map V.int ns[i]?):=by funext k;rw[ed]
 rw[a]
def Fl(h:Heap)(a T C:Addr)(d:h_)(fl:Value):Prop:=
 ∃oe vs oT ts,h.get? a=some oe/\oe.cls=.ref C/\oe.dict=d/\oe.data=.fields vs/\vs[1]?=some (.ref T)/\T≠a/\h.get? T=some oT/\oT.data=.fields ts/\ts[3]?=some fl
def TH(h:Heap)(H:Hp)(a T C:Addr)(d:h_):Prop:=Fl h a T C d .none/\H a=none/\H T=none
def OD(P:Program)(w:World):Fw:=λb H s E e c=>
 ∃a T C d H',e=.ref a/\c.os=s.os/\AllBare c.gens/\Un (Fs b) [] H H' s.heap c.heap/\jS P w H' c.heap/\s.heap.get? a=none/\s.heap.get? T=none/\TH c.heap H' a T C d/\E (.ref C) d H'
def gj{P:Program} :Passes (OD P w) X E0:=λ_ _ _ _ _ _ _ h=>by
 obtain⟨_,_,_,_,_,_,_,_,_,_,_,_,_,q⟩:=h;exact q.elim
noncomputable def V4(K:Frag)(C:Addr)(bmB:f')(newId:String):Bool:=(K.lookup C).any λo=>o.cls==.type "type"&&o.slots.size==6&&o.slots[4]? == some (some<|.builtin newId)&&(match o.data with
 |.cls a=>a.mro.head? == some (.ref C)&&!a.hasDel&&tailIn K bmB a.mro.tail&&nsOkIn K a.ns&&nsIn K a.ns "__init__" == some none
 |_=>false)
end L2
namespace L2
open PySem PySem.Spec PyProof.Rows
inductive VJ(h:Heap)(C:Addr)(bmB:f')(newId:String):Prop
 |mk (bm N nm qn bs hdct sn sub ab col dd k0 k1 k2 k3 k5 mN) (o:h.get? C=some (excClassObj nm qn C N bs bm hdct sn sub ab col dd k0 k1 k2 k3 k5 newId)) (n:h.Ns N mN) (i:mN "__init__"=none) (t:OwnTail h bmB bm)
def mH:fillsNumberSlot (.type "tuple") "mul"=pure false:=by
 first|(unfold fillsNumberSlot;kernel_rfl)|kernel_rfl
def vq:seqRepeat? (.type "tuple")=pure (some<|.builtin "tuple.__mul__"):=by
 first|(unfold seqRepeat?;kernel_rfl)|kernel_rfl
def As(a:Int)(t:Tok)(l:Addr)(dd:h_)(items:k_)(n:Nat)(sl:Array (g_)):
  Meets (Builtin.«int.__rmul__» ⟨[.int a t,.ref l],[]⟩) (λ_ R s=>s.heap.get? l=some ⟨.type "tuple",dd,.seq items n,sl⟩/\R (.ok<|.ret Value.notImplemented) s):=
 .of_wp λb w A R s h=>by obtain⟨c,g,d,f,e⟩:=s;obtain⟨i,h⟩:=h;wp_walk;exact⟨_,rfl,h⟩
section
variable{k:Int}(t:Tok)(l:Addr)(dd:h_)(it:Value)(n:Nat)(sl:Array (g_))
def Iz(m:Nat):List.foldl (λx1 x2=>x1++x2) #[] (List.replicate m #[it])=(List.replicate m it).toArray:=by
 have:∀(m:Nat) (a:f'),List.foldl (λx1 x2=>x1++x2) a.toArray (List.replicate m #[it])=(a++List.replicate m it).toArray:=by
  intro m
  induction m with
  |zero=>intro a;simp
  |succ m b=>
   intro a;rw[E4,foldl_cons,show a.toArray++#[it]=(a++[it]).toArray from by simp,b,qE]
   simp[List.replicate_succ]
 simpa using this m []
def Eg(h1:1<k)(h2:k<=1000):
  Meets (Builtin.«tuple.__mul__» ⟨[.ref l,.int k t],[]⟩) (λ_ R s=>s.heap.get? l=some ⟨.type "tuple",dd,.seq #[it] n,sl⟩/\R (.ok<|.ret<|.ref s.heap.objs.size) {s with heap:=s.heap.push {cls:=.type "tuple",data:=.seq (List.replicate k.toNat it).toArray}}):=
 .of_wp λb w A R s h=>by
  obtain⟨j,g,d,m,o⟩:=s;obtain⟨p,h⟩:=h;have c:(decide (k < -(2 ^ 63))||decide (k ≥ 2 ^ 63))=false:=by rw[dt (by omega),dt (by omega)];rfl
  have e:((#[it]:k_).isEmpty||k==1)=false:=by rw[show(k==1)=false from tz.mpr (by omega)];rfl
  have i:(decide (k<=0)||(#[it]:k_).isEmpty)=false:=by rw[dt (by omega)];rfl
  have c3:¬(((#[it]:k_).size:Int)*k>(2 ^ 63-1) / 8):=by show ¬((1:Int)*k>_);omega
  have sl:(sizeLine:Int) ≥ 1000:=by decide
  have f:Builtin.Tuple.tupleTooMany (((#[it]:k_).size:Int)*k)=false:=by
   unfold Builtin.Tuple.tupleTooMany;exact dt (by show ¬((1:Int)*k>_);omega)
  have a:(List.replicate k.toNat it).toArray.size<=sizeLine:=by rw[hO,length_replicate];omega
  unfold Builtin.«tuple.__mul__»
  k_delta "repeated"
  wp_walk
  rw[if_neg (by rw[c];exact gp)]
  wp_walk
  rw[if_neg (by rw[e];exact gp)]
  wp_walk
  rw[if_neg (by rw[i];exact gp)]
  rw[if_neg c3,if_neg (by rw[f];exact gp),Iz]
  unfold Builtin.Tuple.tupleExact;refine cv<|wpAny_newObj_type ?_ a;exact ek ⟨_,rfl,h⟩
def Au:
  Meets (Builtin.«tuple.__mul__» ⟨[.ref l,.int 1 t],[]⟩) (λ_ R s=>s.heap.get? l=some ⟨.type "tuple",dd,.seq #[it] n,sl⟩/\R (.ok<|.ret<|.ref l) s):=
 .of_wp λa w A R s h=>by
  obtain⟨b,g,d,e,c⟩:=s;obtain⟨f,h⟩:=h;unfold Builtin.«tuple.__mul__»
  k_delta "repeated"
  wp_walk
  exact⟨_,rfl,h⟩
def Av:
  Meets (Builtin.«tuple.__mul__» ⟨[.ref l,.int 0 t],[]⟩) (λ_ R s=>s.heap.get? l=some ⟨.type "tuple",dd,.seq #[it] n,sl⟩/\R (.ok<|.ret<|.ref s.heap.objs.size) {s with heap:=s.heap.push {cls:=.type "tuple",data:=.seq #[]}}):=
 .of_wp λa w A R s h=>by
  obtain⟨b,g,d,e,c⟩:=s;obtain⟨f,h⟩:=h;unfold Builtin.«tuple.__mul__»
  k_delta "repeated"
  wp_walk
  exact⟨_,rfl,h⟩
end
def OE(K:Frag):R2:=λx y H Q=>∃(l:Addr) (k:Nat) (v:V),x=.ref l/\y=.int (k:Int)/\aL K H l [v]/\k<=1000/\∀p H',ag H H'->aL K H' p (List.replicate k v)->Q (.ref p) H'
theorem xM{v:V}{u:Value}(r:RelV v u):∀k:Nat,Vals (List.replicate k v)<|List.replicate k u
 |0=>.nil
 |k+1=>.cons r<|xM r k
def IB{X:Cx}{K:Frag}(h:X.K=K):eS X (binaryOp .Mult) (OE K):=by
 subst h;intro p s σ H x y v u Q I C D h;obtain⟨l,k,w,rfl,rfl,z,hk,q⟩:=h
 cases C
 obtain⟨t,rfl⟩:=D;obtain⟨i,r,⟨⟨cls,d,data,f⟩,e,m,n,j⟩,_⟩:=I.tuple z
 simp only at m j
 subst m j;obtain⟨c,rfl,A⟩:∃c,i=[c]/\RelV w c:=by
  cases r with
  |cons a b=>cases b;exact⟨_,rfl,a⟩
 have hz:(List.replicate k w).length<=sizeLine:=by
  have:1000<=sizeLine:=by decide
  rw[length_replicate];omega
 refine wpAny_binaryOp_repeat_ref (T:="tuple") (U:="int") a_ ⟨_,e,rfl⟩ (λB=>typeIs_int B k t) mH F.fills_int_mul F.slot_int_rmul vq F.slot_int_index.lookup
  (GM F.slot_int_rmul (typeIs_int s k t) F.entry_int_rmul (F.args_int_rmul_2 _ _) (As k t l d [c].toArray n f) ⟨e,rfl,⟨_,e,rfl⟩,?_⟩)
 rcases Nat.lt_or_ge 1 k with h1|h1
 ·refine GM F.slot_tuple_mul ⟨_,e,rfl⟩ F.entry_tuple_mul (F.args_tuple_mul_2 _ _) (Eg t l d c n f (k:=(k:Int)) (by omega) (by omega)) ⟨e,?_⟩
  rw[k4];have g:=I.laid (t':=s.toks) (a:=s.heap.objs.size) (o:=.tup<|List.replicate k w) (h':=s.heap.push {cls:=.type "tuple",data:=.seq (List.replicate k c).toArray}) (λ_ _ q=>ef _ q) (dy _) ⟨hz,_,xM A k,_,gz _ rfl,rfl,0,rfl⟩;exact⟨.ref _,_,g,rfl,q _ _ (ag.new I.fresh _)<|aL.of af⟩
 ·have hc:k=0∨k=1:=by omega
  rcases hc with rfl|rfl
  ·refine GM F.slot_tuple_mul ⟨_,e,rfl⟩ F.entry_tuple_mul (F.args_tuple_mul_2 _ _) (Av t l d c n f) ⟨e,?_⟩;have g:=I.laid (t':=s.toks) (a:=s.heap.objs.size) (o:=.tup []) (h':=s.heap.push {cls:=.type "tuple",data:=.seq #[]}) (λ_ _ q=>ef _ q) (dy _) ⟨zero_le _,[],.nil,_,gz _ rfl,rfl,0,rfl⟩;exact⟨.ref _,_,g,rfl,q _ _ (ag.new I.fresh _)<|aL.of af⟩
  ·refine GM F.slot_tuple_mul ⟨_,e,rfl⟩ F.entry_tuple_mul (F.args_tuple_mul_2 _ _) (Au t l d c n f) ⟨e,?_⟩;exact⟨.ref l,H,I,rfl,q _ _ (ag.refl _) z⟩
def IC{K:Frag}{x y:V}{H:Hp}{Q:VK}:OE K x y H Q=∃(l:Addr) (k:Nat) (v:V),x=.ref l/\y=.int (k:Int)/\aL K H l [v]/\k<=1000/\∀p H',ag H H'->aL K H' p (List.replicate k v)->Q (.ref p) H':=rfl
noncomputable def CA(K:Frag)(x:Str)(C:Addr)(fields:f_):Bool:=
 nsIn K mainGlobals x==some (some<|.ref C)&&plainGet K C Str.empty&&hasDictIn K C&&plainOver K C&&findIn K (.ref C) "__setattr__" == some (some<|.builtin "object.__setattr__")&&
 makesIn K C&&keepIn K (.ref C)&&fields.all λf=>findIn K (.ref C) f==some none
structure eU(K:Frag)(mg:b_)(x:Str)(C:Addr)(fields:f_):Prop where
 gl:mg x=some (.ref C)
 cls:NG K C
 makes:makesIn K C=true
 kp:keepIn K (.ref C)=true
 no:∀f∈fields,oZ K C f
variable{h:Heap}{x:Str}{fields:f_}
def CB{K:Frag}{mg:b_}{C:Addr}(X:K.In h)(G:h.Ns mainGlobals mg)(e:CA K x C fields=true):eU K mg x C fields:=by
 unfold CA at e;simp only[Bool.and_eq_true,beq_iff_eq,List.all_eq_true]at e;obtain⟨⟨⟨⟨⟨⟨⟨a,b⟩,c⟩,d⟩,f⟩,g⟩,i⟩,j⟩:=e;exact⟨mg_of X G a,⟨b,c,d,f⟩,g,i,j⟩
structure qX(K:Frag)(C:Addr)(m qual:Str)(st:Stmt):Prop where
 ex:∃f fd,Kt K m qual st f fd/\Meth K C m f
variable{st:Stmt}{m:Str}{od:h_}
def Mz{K:Frag}{C:Addr}{qual:Str}{f:Addr}{oc:Value}{an:h_}{osl:Array (g_)}{kV doc pm cY ct:Value}
  (a:findIn K (.ref C) m=some (some<|.ref f)) (l:K.lookup f=some ⟨oc,od,.func<|fnOf m qual (bx st) (aU st) (aj st) .none kV doc pm an cY ct,osl⟩)
  (c:codeIn K cY qual=true) (k:keepIn K (.ref f)=true) (i:isFn K (.ref f)=true):qX K C m qual st:=⟨f,_,zt l c k,a,i,k⟩
noncomputable def nN(s:Stmt)(j:Nat):Stmt:=match s with
 |.ClassDef _ _ _ a _ _ _ _ _ _ _=>a.getD j<|.Pass ⟨0,0,0,0⟩
 |_=>.Pass ⟨0,0,0,0⟩
structure qY(P:Program)(w:World)(K:Frag)(mg:b_)(base:Heap)(k:Nat)(C:Addr)(m:Str)(ps:f_)(sp:Sp):Prop where
 ex:∃f fd,fM P w K mg base (OD P w) k f fd ps sp/\Meth K C m f/\Binds K fd ps []
variable{P:Program}{w:World}{K:Frag}{mg:b_}{base:Heap}{k:Nat}{ps:f_}{sp:Sp}
def fM.lift{f:Addr}{fd:FuncData}(F:fM P w K mg base DD k f fd ps sp):fM P w K mg base (OD P w) k f fd ps sp:=
 ⟨F.len,λA a s H b g i Q E h d hb l j=>codeAny_mono (F.run A a s H b g i Q E h d hb l j) λr m z=>by
  cases r with
  |error e=>exact False.elim z
  |ok c=>cases c<;>exact z⟩
variable{qual:Str}{C:Addr}{N G:f_}
def qX.gq(D:qX K C m qual st)(S:DS (aj st) N ps G)
  (hb:∀(kV doc pm:Value) (an:h_) (cY ct:Value) (us:f'),us.length=ps.length->bindArgs (fnOf m qual (bx st) (aU st) (aj st) .none kV doc pm an cY ct) ⟨us,[]⟩=pure (ps.zip us))
  (len:∀vs H Q E,sp vs H Q E->vs.length=ps.length)
  (fe:∀(X:Cx),Sc X N N G->X.prog=P->X.w=w->X.K=K->X.mg=mg->X.base=base->X.calm=true->X.env.scope=aj st->X.xe=(λ_ _=>False)->cL k X.A->X.A.units+64<cLine->
   ∀(H:Hp) (vs:u_) (Q:VK) (E:XK),sp vs H Q E->∃t,DH X (aU st) t/\t {nx:=λ_ H'=>Q .bE H',rt:=Q} (L2.start N vs) H):qY P w K mg base (k+1) C m ps sp:=by
 obtain⟨f,c,F,M⟩:=D.ex;refine⟨f,c,fM.lift ?_,M,F.binds hb⟩;refine F.ok S.fs len λcY A a s H vs Q E b h=>?_;obtain⟨t,z,y⟩:=fe _ S.cx rfl rfl rfl rfl rfl rfl rfl rfl b b.units H vs Q E h;exact⟨t,z.h,y⟩
def VL(C:Addr)(f:Str)(ta:TE):TE:=λσ H Q=>ta σ H λx H1=>∃a dx fs v,x=.ref a/\H1 a=some (.ins C dx fs)/\fs.lookup f=some v/\Q v H1
def VM(C:Addr)(f:Str)(ta tv:TE):TS:=λD σ H=>tv σ H λy H1=>ta σ H1 λx b=>∃a dx fs,x=.ref a/\b a=some (.ins C dx fs)/\fs.length<1000/\D.nx σ (upd b a<|.ins C dx<|dJ f y fs)
variable{X:Cx}{f:Str}{pos:Pos}{e:Expr}{ta:TE}
def xN(T:eU X.K X.mg x C fields)(he:QE X e ta)(hf:f∈fields:=by decide)(hb:attributeBase e f X.env (eval e X.env)=eval e X.env:=by rfl):QE X (.Attribute e f pos) (VL C f ta):=by
 refine⟨λb s σ H Q I h=>K0 hb<|bP (he.h b s σ H _ I h) λu o ⟨x,H1,j,m,a,r,fs,v,d,c,l,q⟩=>?_⟩;subst d;obtain rfl:u=Value.ref a:=m;exact zf j c T.cls (T.no f hf) l λn p g i=>⟨v,H1,g,i,q⟩
variable{pos':Pos}{o value:Expr}{tv:TE}
def RH(T:eU X.K X.mg x C fields)(ha:QE X o ta)(hv:QE X value tv)(hf:f∈fields:=by decide)(hs:swapsWith value (some<|.Attribute o f pos') pos.line X.env=pure false:=by rfl):QS X (.Assign [.Attribute o f pos'] value pos) (VM C f ta tv):=by
 refine⟨λb s σ H D I h=>plainObj_wpAny_Assign_Attribute (bP (hv.h b s σ H _ I h) λu j ⟨y,H1,m,p,q⟩=>bP (ha.h b j σ H1 _ m q) λe v ⟨x,t,g,r,a,z,fs,i,d,l,c⟩=>?_) hs⟩;subst i;obtain rfl:e=Value.ref a:=r;exact zg g d T.cls (T.no f hf) l p λw n=>⟨σ,_,n,c⟩
variable{n:Nat}{A':Pos}{es:i_}{t:TA}{E:XK}
def ID{pl:Sem Bool}(T:eU X.K X.mg x C fields)(F:qY X.prog X.w X.K X.mg X.base k C m ps sp)(hx:Passes (OD X.prog X.w) X E)(hr:cL n X.A)(he:QE X o ta)(ha:QB X (e::es) t)(hk:k<=n:=by decide)
  (ht:eval (.Call (.Attribute o m A') (e::es) [] pos) X.env=(do
   let ov<-eval o X.env
   standAt A'.atName
   let (f,first)<-holding [ov] (getMethod ov m pl)
   callWith pos f first (backTo pos<|starEach (e::es) X.env) (backToKw pos<|keywordEach [] X.env)):=by rfl):
  QE X (.Call (.Attribute o m A') (e::es) [] pos) (sj C m sp [] E ta t):=by
 obtain⟨f,a,F,M,hb⟩:=F.ex;exact⟨K4 he.h T.cls M F (hr.mono hk) hb .nil hx ha.h.pa (bf ha.h.he) (dm ha.h.GP) ht⟩
def Vm{pl:Sem Bool}(T:eU X.K X.mg x C fields)(F:qY X.prog X.w X.K X.mg X.base k C m ps sp)(hx:Passes (OD X.prog X.w) X E)(hr:cL n X.A)(he:QE X o ta)(hk:k<=n:=by decide)
  (ht:eval (.Call (.Attribute o m A') [] [] pos) X.env=(do
   let ov<-eval o X.env
   standAt A'.atName
   let (f,first)<-holding [ov] (getMethod ov m pl)
   callWith pos f first (backTo pos<|starEach [] X.env) (backToKw pos<|keywordEach [] X.env)):=by rfl):
  QE X (.Call (.Attribute o m A') [] [] pos) (sj C m sp [] E ta ui):=by
 obtain⟨f,a,F,M,hb⟩:=F.ex;exact⟨FZ he.h T.cls M F (hr.mono hk) hb .nil hx ht⟩
variable{W:f_}{p:Pos}
def V5(S:Sc X N W G)(g:Nat)(T:eU X.K X.mg x C fields)(F:qY X.prog X.w X.K X.mg X.base k C "__init__" ps sp)(hx:Passes (OD X.prog X.w) X E)(hr:cL n X.A)(ha:QB X (e::es) t)(hk:k+1<=n:=by decide)(hg:G[g]?=some x:=by rfl):
  QE X (.Call (.Name x p) (e::es) [] pos) (sk C sp [] E t):=by
 obtain⟨f,a,F,M,hb⟩:=F.ex;have q:=S.gl x<|ih hg;exact⟨BU ⟨T.makes,M.at_,M.fn,T.kp⟩ F (hr.mono hk) q.1 T.gl hb .nil hx ha.h.pa q.2.1 (bf ha.h.he)<|dm ha.h.GP⟩
variable{H:Hp}{Q:VK}{σ:St}
def TJ:VL C f ta σ H Q=ta σ H λx H1=>∃a dx fs v,x=.ref a/\H1 a=some (.ins C dx fs)/\fs.lookup f=some v/\Q v H1:=rfl
variable{D:Ends}
def OF:VM C f ta tv D σ H=tv σ H λy H1=>ta σ H1 λx H2=>∃a dx fs,x=.ref a/\H2 a=some (.ins C dx fs)/\fs.length<1000/\D.nx σ (upd H2 a<|.ins C dx<|dJ f y fs):=rfl
def IE:sj C m sp [] E ta t σ H Q=ta σ H λx H1=>∃a dx fs,x=.ref a/\H1 a=some (.ins C dx fs)/\fs.lookup m=none/\t σ H1 λvs H2=>sp (x::vs) H2 Q E:=by
 unfold sj;simp only[append_nil]
def IF:sk C sp [] E t σ H Q=t σ H λvs H1=>∀x dx,H1 x=none->H1 dx=none->dx≠x->sp (.ref x::vs) (upd (upd H1 dx<|.own x) x<|.ins C dx []) (λv H2=>v=.bE/\Q (.ref x) H2) E:=by
 unfold sk;simp only[append_nil]
noncomputable def iR(cs hs:e_):Bool:=decide (hs.length=cs.length)&&(List.range cs.length).all λk=>decide (0<=hs.getD k 0)&&decide (hs.getD k 0<cs.getD k 0)
end L2
namespace L2
open PySem PySem.Spec PyProof.Rows
inductive IG(K:Frag)(vs:u_)(H:Hp)(Q:VK)(E:XK):Prop
 |mk (c h:Addr) (cs hs:e_):(vs=[.ref c,.ref h])->aL K H c (cs.map V.int)->aL K H h (hs.map V.int)->cs.length<=90->(∀H',ag H H'->Q (.bl<|iR cs hs) H')->IG K vs H Q E
noncomputable def yS(c g n:Addr):t_:=[("counts",.ref c),("groups",.ref g),("worn",.ref n)]
structure cW(K:Frag)(C:Addr)(H:Hp)(a:Addr)(c g:Addr)(cs:e_)(us:u_)(hs:e_):Prop where
 ex:∃dx n,H a=some (.ins C dx<|yS c g n)/\aL K H n (hs.map V.int)
 RN:aL K H c (cs.map V.int)
 UE:aL K H g us
inductive CC(K:Frag)(C:Addr)(er:Str->Addr)(vs:u_)(H:Hp)(Q:VK)(E:XK):Prop
 |mk (x dx c w g:Addr) (cs:e_) (ws:d_) (us:u_) (L:List (Bool × List Int)):(vs=[.ref x,.ref c,.ref w,.ref g])->H x=some (.ins C dx [])->aL K H c (cs.map V.int)->aL K H w ((au ws).map V.int)->aL K H g us->GI K H us L->ws.length=cs.length->cs.length<=8->((∀g∈L,g.2.length<=30))->L.length<=30->((FA cs ws [] 0 L≠none->∀H',ag H H'->E (.ref<|er "NoGroups") none H'))->((FA cs ws [] 0 L=none->∀H',Off x H H'->cW K C H' x c g cs us (List.replicate cs.length 0)->Q .bE H'))->CC K C er vs H Q E
noncomputable def OG(c:Addr):t_:=[("counts",.ref c)]
noncomputable def FC(c g:Addr):t_:=[("counts",.ref c),("groups",.ref g)]
variable{c:Addr}
def Eh:dJ "counts" (.ref c) []=OG c:=rfl
variable{g:Addr}
def Ei:dJ "groups" (.ref g) (OG c)=FC c g:=by
 unfold OG dJ;rw[if_neg a_];rfl
variable{n:Addr}
def MA:dJ "worn" (.ref n) (FC c g)=yS c g n:=by
 unfold FC dJ;rw[if_neg a_];unfold dJ;rw[if_neg a_];rfl
def IH{m:Addr}:dJ "worn" (.ref m) (yS c g n)=yS c g m:=by
 unfold yS dJ;rw[if_neg a_];unfold dJ;rw[if_neg a_];unfold dJ;rw[if_pos rfl]
def mI:(yS c g n).lookup ("counts":Str)=some (.ref c):=rfl
def tL:(yS c g n).lookup ("groups":Str)=some (.ref g):=by
 unfold yS;rw[KB,show(("groups":Str)==("counts":Str))=false from by decide];rfl
def oC:(yS c g n).lookup ("worn":Str)=some (.ref n):=by
 unfold yS;rw[KB,show(("worn":Str)==("counts":Str))=false from by decide];dsimp only;rw[KB,show(("worn":Str)==("groups":Str))=false from by decide];rfl
def xO{m:Str}(h1:(m==("counts":Str))=false:=by decide)(h2:(m==("groups":Str))=false:=by decide)(h3:(m==("worn":Str))=false:=by decide):(yS c g n).lookup m=none:=by
 unfold yS;rw[KB,h1];dsimp only;rw[KB,h2];dsimp only;rw[KB,h3];rfl
variable{K:Frag}{a r C dx:Addr}{fs:t_}{H H':Hp}{xs:u_}
def aL.dS(s:Off a H H')(ha:H a=some (.ins C dx fs))(h:aL K H r xs):aL K H' r xs:=by
 rcases h with (h|⟨o,h⟩)|h
 ·exact .inl<|.inl<|s r _ (dj h ha λz=>nomatch z) h
 ·exact .inl<|.inr ⟨o,s r _ (dj h ha λz=>nomatch z) h⟩
 ·exact .inr h
def u6.dS{p:Addr}(s:Off a H H')(ha:H a=some (.ins C dx fs)):u6 K H p->u6 K H' p
 |.inl h=>.inl h
 |.inr ⟨o,u,h,c⟩=>.inr ⟨o,u,s p _ (dj h ha λz=>nomatch z) h,c⟩
theorem GF.dS(s:Off a H H')(ha:H a=some (.ins C dx fs)):∀ {vs:u_} {L:B0L},GF K H vs L->GF K H' vs L
 | [],[],h=>h
 |_::_,_::_,⟨⟨r,p,e,h,b,t⟩,q⟩=>⟨⟨r,p,e,h.dS s ha,b.dS s ha,t.dS s ha⟩,GF.dS s ha q⟩
 | [],_::_,h=>h.elim
 |_::_,[],h=>h.elim
variable{us:u_}{cs:e_}
def cW.off{n':Addr}{hs hs':e_}(h:cW K C H a c g cs us hs)(s:Off a H H')(e:∃dx,H' a=some (.ins C dx<|yS c g n'))(hn:aL K H' n' (hs'.map V.int)):cW K C H' a c g cs us hs':=by
 obtain⟨dx,n,d,_⟩:=h.ex;obtain⟨b,e⟩:=e;exact⟨⟨b,n',e,hn⟩,h.RN.dS s d,h.UE.dS s d⟩
def cW.mono{hs:e_}(h:cW K C H a c g cs us hs)(s:ag H H'):cW K C H' a c g cs us hs:=by
 obtain⟨b,n,d,hn⟩:=h.ex;exact⟨⟨b,n,s _ _ d,s.aP hn⟩,s.aP h.RN,s.aP h.UE⟩
end L2
namespace L2
open PySem PySem.Spec PyProof.Rows
inductive xP(K:Frag)(C:Addr)(er:Str->Addr)(vs:u_)(H:Hp)(Q:VK)(E:XK):Prop
 |mk (a hb c g:Addr) (cs hs0 hs:e_) (us:u_):(vs=[.ref a,.ref hb])->cW K C H a c g cs us hs0->aL K H hb (hs.map V.int)->cs.length<=90->((iR cs hs=false->∀H',ag H H'->E (.ref<|er "NoHats") none H'))->((iR cs hs=true->∀H',Off a H H'->cW K C H' a c g cs us hs->Q .bE H'))->xP K C er vs H Q E
inductive II(K:Frag)(C:Addr)(er:Str->Addr)(vs:u_)(H:Hp)(Q:VK)(E:XK):Prop
 |mk (a c g:Addr) (cs hs0:e_) (us:u_) (i col:Int):(vs=[.ref a,.int i,.int col])->cW K C H a c g cs us hs0->hs0.length=cs.length->cs.length<=90->((¬(0<=i/\i<(cs.length:Int))->∀H',ag H H'->E (.ref<|er "NoName") none H'))->((0<=i/\i<(cs.length:Int)->iR cs (hs0.set i.toNat col)=false->∀H',ag H H'->E (.ref<|er "NoHats") none H'))->((0<=i/\i<(cs.length:Int)->iR cs (hs0.set i.toNat col)=true->∀H',Off a H H'->cW K C H' a c g cs us (hs0.set i.toNat col)->Q .bE H'))->II K C er vs H Q E
inductive lJ(K:Frag)(C:Addr)(vs:u_)(H:Hp)(Q:VK)(E:XK):Prop
 |mk (a c g:Addr) (cs hs:e_) (ws:d_) (us:u_) (L:B0L) (i:Nat):(vs=[.ref a,.int i])->cW K C H a c g cs us hs->GF K H us L->cj cs->HN cs hs cs.length->jV cs ws L->i<cs.length->(∀H',ag H H'->Q (.int<|ip cs L hs i) H')->lJ K C vs H Q E
structure VN(cs:e_)(g:Bool × List Nat):Prop where
 lt:∀x∈g.2,x<cs.length
 nd:g.2.Nodup
 ne:1<=g.2.length
 ring:g.1=true->2<=g.2.length/\∀x∈g.2,cs.getD x 0=2
 eI:g.1=false->pJ g.2=true
noncomputable def gI(L:B0L):List (Bool × List Int):=L.map λg=>(g.1,au g.2)
theorem GF.gi{K:Frag}{H:Hp}:∀ {vs:u_} {L:B0L},GF K H vs L->GI K H vs (gI L)
 | [],[],h=>h
 |_::_,_::_,⟨⟨r,p,e,h,a,_⟩,q⟩=>⟨⟨r,p,e,h,a⟩,GF.gi q⟩
 | [],_::_,h=>h.elim
 |_::_,[],h=>h.elim
variable{g:Bool × List Nat}
def QN{cs:e_}{ws:d_}(h:Qm cs ws g)(a:VN cs g):Fz cs ws (g.1,au g.2)=true:=by
 unfold Fz;have c:decide (1<=(au g.2).length)=true:=cc (by rw[ah];exact a.ne)
 have e2:Kw cs.length (au g.2)=true:=by
  unfold Kw au;rw[F8,ka];intro x hx
  have:=a.lt x hx
  simp only[Function.comp,Bool.and_eq_true,decide_eq_true_eq]
  omega
 show(decide (1<=(au g.2).length)&&(Kw cs.length (au g.2)&&D6 cs ws g.1 (nats<|au g.2)))=true;rw[c,e2,HK,nq,nq];unfold D6
 cases hb:g.1 with
 |true=>
  obtain⟨b,hc,d⟩:=h.ring hb;rw[if_pos rfl,gc];refine⟨?_,?_⟩
  ·unfold j8;rw[cc b,cc h.nd,nq,nq,ka];intro k hk;have hk:=fO.mp hk
   have:=d (ahead g.2.length k) (by unfold ahead;split<;>omega)
   have e:(ahead g.2.length k+1)%g.2.length=k:=by
    unfold ahead
    split
    ·rename_i z;rw[show g.2.length-1+1=g.2.length by omega,mod_self,z]
    ·rw[show k-1+1=k by omega,v8 hk]
   rw[e]at this;exact this
  ·rw[ka];exact λx hx=>cc<|hc x hx
 |false=>
  rw[if_neg gp,a.eI hb,nq];unfold bY;rw[ka];intro x hx;rw[ka];intro y hy
  by_cases e:y=x
  ·rw[cc e];rfl
  ·rw[h.eI hb x hx y hy (Ne.symm e),Bool.or_true]
theorem CD{cs:e_}{ws:d_}:∀ {L:B0L} {gone:d_} {k:Nat},(∀g∈L,Qm cs ws g/\VN cs g)->(L.Pairwise λg h=>∀x∈g.2,x∉h.2)->(∀g∈L,∀x∈g.2,x∉gone)->FA cs ws (au gone) k (gI L)=none
 | [],_,_,_,_,_=>rfl
 |g::L,gone,k,h,d,n=>by
  have h1:=h g fA;show(if(Fz cs ws (g.1,au g.2)&&!((au g.2).any λi=>decide<|i∈au gone))=true then FA cs ws (au gone++au g.2) (k+1) (gI L)else some k)=none
  have e:((au g.2).any λi=>decide<|i∈au gone)=false:=by
   rw[List.any_eq_false];intro i hi;obtain⟨x,hx,rfl⟩:=gh.mp hi;rw[kc];exact λz=>n g fA x hx<|ou.mp z
  rw[QN h1.1 h1.2,e,if_pos a_,<-cN]
  obtain⟨f,c⟩:=ro.mp d;refine CD (λb a=>h b<|fz _ a) c λb a x hx z=>?_
  rcases j6.mp z with z|z
  ·exact n b (fz _ a) x hx z
  ·exact f b a x z hx
def jk(row:d_)(p:Nat->Bool):(((List.range (au row).length).filter λj=>p<|row.getD j 0).map λj=>((row.getD j 0:Nat):Int))=au (row.filter p):=by
 have e:row=(List.range row.length).map λk=>row.getD k 0:=by
  apply ext_getElem
  ·simp
  ·intro i h1 a;simp[h1]
 have f:=List.filter_map (f:=λk=>row.getD k 0) (p:=p) (l:=List.range row.length);rw[<-e]at f;rw[ah,f];unfold au;rw[k6]
 rfl
noncomputable def cS(cs hs:e_)(L:B0L):d_:=(List.range cs.length).filter λi=>decide<|ip cs L hs i=hs.getD i 0
def IJ{cs hs:e_}(h:HN cs hs cs.length):iR cs hs=true:=by
 unfold iR;rw[cc h.1,nq,ka];intro k hk
 have:=h.2 k<|fO.mp hk
 rw[cc this.1,cc this.2]
 rfl
def HN.QP{cs:e_}(h:∀c∈cs,1<=c):HN cs (List.replicate cs.length 0) cs.length:=by
 refine⟨length_replicate,λi hi=>?_⟩
 have:=h _<|L2.getD_mem hi
 rw[show(List.replicate cs.length (0:Int)).getD i 0=0 by rw[b3,List.getElem?_replicate,if_pos hi];rfl]
 omega
variable{A B:TS}
def Vn{D:Ends}{σ:L2.St}{H:Hp}(I:L2.St->r_)(h2:∀σ' H',I σ' H'->B D σ' H')(h1:∀R:L2.St->r_,(∀σ' H',I σ' H'->R σ' H')->A {D with nx:=R} σ H):oS A B D σ H:=h1 (B D) h2
def QQ(L:B0L):(gI L).length=L.length:=b5 _
def ag.IK{H H':Hp}(s:ag H H'){b:Addr}(h:H' b=none):H b=none:=by
 cases e:H b with
 |none=>rfl
 |some o=>rw[s _ _ e]at h;cases h
def Sub(a m:Nat):Prop:=∀j,a.testBit j=true->m.testBit j=true
def IL(a b:Nat):Prop:=∀j,a.testBit j=true->b.testBit j=false
variable{a b:Nat}
def IL.symm(h:IL a b):IL b a:=λj hj=>by
 cases e:a.testBit j with
 |false=>rfl
 |true=>rw[h j e]at hj;cases hj
def Sub.trans{c:Nat}(h:Sub a b)(k:Sub b c):Sub a c:=λj hj=>k j<|h j hj
variable{m:Nat}
def Sub.and(h:Sub a m):m&&& a=a:=uV.mpr h
def MB(a b:Nat):a&&& b=2*(a / 2&&& b / 2)+(a%2)*(b%2):=by
 have h1:(a&&& b) / 2=a / 2&&& b / 2:=Nat.and_div_two;have c:(a&&& b)%2=(a%2)*(b%2):=by
  have:=Nat.and_mod_two_pow (a:=a) (b:=b) (n:=1)
  rw[Nat.pow_one]at this;rw[this]
  rcases Wa a with e|e<;>rcases Wa b with f|f<;>rw[e,f]<;>decide
 omega
def Sub.le(h:Sub a m):a<=m:=by
 have:=h.and
 rw[<-this];exact Nat.and_le_left
def MC:∀(m:Nat),0<m->∃i,m.testBit i=true/\m-(m&&& (m-1))=2 ^ i:=by
 intro m
 induction m using Nat.strongRecOn with
 |_ m b=>
  intro d;have hm:=MB m<|m-1
  rcases Wa m with e|e
  ·obtain⟨i,h1,c⟩:=b (m / 2) (by omega) (by omega)
   refine⟨i+1,by rw[Nat.testBit_succ];exact h1,?_⟩
   have a:(m-1) / 2=m / 2-1:=by omega
   rw[a,e,Nat.zero_mul]at hm;rw[Nat.pow_succ]
   omega
  ·refine⟨0,by rw[Nat.testBit_zero,e];rfl,?_⟩
   have a:(m-1) / 2=m / 2:=by omega
   have e2:(m-1)%2=0:=by omega
   rw[a,e2,Nat.and_self]at hm;rw[Nat.pow_zero]
   omega
def gm(h:Sub a m)(j:Nat):(m-a).testBit j=(m.testBit j&&!a.testBit j):=by
 have:=je m a j
 rwa [h.and]at this
def vt(h:IL a b)(j:Nat):(a+b).testBit j=(a.testBit j||b.testBit j):=by
 have z:a&&& b=0:=by
  apply DK
  intro j;rw[testBit_and,Wu]
  cases e:a.testBit j with
  |false=>rfl
  |true=>rw[h j e];rfl
 rw[pA,z,Nat.add_zero,testBit_or]
def eQ{i:Nat}(h:m.testBit i=true):Sub (2 ^ i) m:=λj hj=>by
 rw[FM,kc]at hj;rw[<-hj];exact h
def bU{i:Nat}(h:m.testBit i=true)(j:Nat):(m-2 ^ i).testBit j=(m.testBit j&&!decide (i=j)):=by
 rw[gm (eQ h),FM]
def yT(m:Nat)(l:d_):Prop:=(∀a∈l,Sub a m)/\l.Pairwise IL
noncomputable def val(v:Nat->Nat)(l:d_):Nat:=(l.map v).sum
variable{l:d_}
def yT.mono{k:Nat}(h:yT k l)(s:Sub k m):yT m l:=⟨λa b=>(h.1 a b).trans s,h.2⟩
variable{part:Nat}
def CF{i:Nat}(hi:m.testBit i=true)(hp:Sub part (m-2 ^ i))(h:yT ((m-2 ^ i)-part) l):yT m ((2 ^ i+part)::l):=by
 have d:IL (2 ^ i) part:=λj hj=>by
  rw[FM,kc]at hj
  cases e:part.testBit j with
  |false=>rfl
  |true=>
   have:=hp j e
   rw[bU hi,hj]at this
   simp at this
 have c:Sub (2 ^ i+part) m:=λj hj=>by
  rw[vt d,GE]at hj
  rcases hj with hj|hj
  ·exact eQ hi j hj
  ·have:=hp j hj
   rw[bU hi,gc]at this;exact this.1
 have b:Sub (m-2 ^ i-part) m:=λj hj=>by
  rw[gm hp,bU hi,gc,gc]at hj;exact hj.1.1
 refine⟨λa f=>?_,ro.mpr ⟨λa f j hj=>?_,h.2⟩⟩
 ·rcases gg.mp f with e|e
  ·rw[e];exact c
  ·exact(h.1 a e).trans b
 ·cases e:a.testBit j with
  |false=>rfl
  |true=>
   have:=h.1 a f j e
   rw[gm hp,bU hi]at this;rw[vt d,GE,FM,kc]at hj
   rcases hj with hj|hj
   ·rw[hj]at this;simp at this
   ·rw[hj]at this;simp at this
variable{v:Nat->Nat}
def IM{l':d_}(h:l.Perm l'):val v l=val v l':=by
 unfold val;exact(h.map v).sum_nat
end L2
namespace L2
open PySem PySem.Spec PyProof.Rows
def IP{v:Nat->Nat}{m i X:Nat}(hi:m.testBit i=true)(f:Nat->Nat)(hf:∀k,k<m->∀l,yT k l->val v l<=f k)(h1:f (m-2 ^ i)<=X)
  (h2:∀part,Sub part (m-2 ^ i)->v (2 ^ i+part)+f ((m-2 ^ i)-part)<=X):∀l,yT m l->val v l<=X:=by
 intro l s;have x:2 ^ i<=m:=(eQ hi).le;have B:0<2 ^ i:=r4 i
 by_cases c:∃a∈l,a.testBit i=true
 ·obtain⟨a,r,d⟩:=c;have g:l.Perm (a::l.erase a):=List.perm_cons_erase r;have u:(a::l.erase a).Pairwise IL:=g.pairwise s.2 λh=>IL.symm h;obtain⟨A,p⟩:=ro.mp u;have t:=s.1 a r;have q:Sub (2 ^ i) a:=eQ d;have n:Sub (a-2 ^ i) (m-2 ^ i):=λj hj=>by
   rw[bU d,gc]at hj;rw[bU hi,t j hj.1,hj.2];rfl
  have e:2 ^ i+(a-2 ^ i)=a:=by have:=q.le;omega
  have y:=h2 (a-2 ^ i) n;rw[e]at y;have C:=hf ((m-2 ^ i)-(a-2 ^ i)) (by omega) (l.erase a) ⟨λb hb j hj=>?_,p⟩
  ·rw[IM g];show v a+val v (l.erase a)<=X
   omega
  ·have w:=s.1 b (List.mem_of_mem_erase hb) j hj;have o:=(A b hb).symm j hj;rw[gm n,bU hi,bU d,w,o]
   have:i≠j:=λz=>by rw[z]at d;rw[d]at o;cases o
   simp[this]
 ·refine gr (hf (m-2 ^ i) (by omega) l ⟨λa r j hj=>?_,s.2⟩) h1
  rw[bU hi,s.1 a r j hj]
  have:i≠j:=λz=>c ⟨a,r,by rw[z];exact hj⟩
  simp[this]
def dZ(v:Nat->Nat)(m s:Nat):Prop:=(∃l,yT m l/\val v l=s)/\∀l,yT m l->val v l<=s
def xQ{v:Nat->Nat}(h0:v 0=0):∀l,yT 0 l->val v l<=0:=by
 intro l d
 have:∀a∈l,a=0:=λa b=>Nat.eq_zero_of_le_zero (d.1 a b).le
 unfold val;have e:l.map v=l.map λ_=>0:=Os λa b=>by rw[this a b,h0]
 rw[e]
 have:∀k:d_,(k.map λ_=>0).sum=0:=λk=>by
  induction k with
  |nil=>rfl
  |cons x r c=>rw[m5,C6,c]
 rw[this];exact dy _
def dZ.zero{v:Nat->Nat}(h0:v 0=0):dZ v 0 0:=⟨⟨[],⟨(λ_ h=>nomatch h),List.Pairwise.nil⟩,rfl⟩,xQ h0⟩
variable{x n:Nat}
def eE{m:Nat}(h:m<2 ^ n)(hx:m.testBit x=true):x<n:=nc λq=>by
 rw[ij h (by omega)]at hx;cases hx
def bc{m:Nat}:x∈aq m↔m.testBit x=true:=by
 unfold aq;rw[j5,fO];exact⟨λh=>h.2,λh=>⟨eE lt_log2_self h,h⟩⟩
def eV(m:Nat):(aq m).Pairwise (· < ·):=List.pairwise_lt_range.sublist Wm
def ck(m:Nat):(aq m).Nodup:=(eV m).imp λh=>by omega
def jR(m:Nat):mask (aq m)=m:=by
 apply DK
 intro j;rw[bC (ck m)]
 by_cases c:m.testBit j=true
 ·rw[c,cc<|bc.mpr c]
 ·rw[dt (λz=>c<|bc.mp z)]
  cases e:m.testBit j with
  |false=>rfl
  |true=>exact absurd e c
noncomputable def gH(cs:e_)(l:d_):Int:=bQ (pr<|fZ cs l) (fZ cs l) / pr (fZ cs l)
noncomputable def eI(cs:e_)(ws:d_)(m:Nat):Int:=if bY ws (aq m)=true then gH cs (aq m)else 0
def jl(cs:e_)(ws:d_)(m:Nat):Prop:=∃r:d_,r.Nodup/\(∀x,x∈r↔m.testBit x=true)/\2<=r.length/\(∀x∈r,cs.getD x 0=2)/\∀k,k<r.length->cF ws (r.getD k 0) (r.getD ((k+1)%r.length) 0)=true
open Classical in
noncomputable def worth (cs:e_)(ws:d_)(m:Nat):Nat:=if eI cs ws m=0 then(if jl cs ws m then 1 else 0)else(eI cs ws m).toNat
def QR{cs:e_}(hp:∀c∈cs,1<=c){l:d_}(hl:∀x∈l,x<cs.length):∀c∈fZ cs l,1<=c:=λc hc=>by
 unfold fZ at hc;obtain⟨x,hx,e⟩:=gh.mp hc;rw[<-e];exact hp _<|getD_mem<|hl x hx
def gJ{cs:e_}(hp:∀c∈cs,1<=c){l:d_}(hl:∀x∈l,x<cs.length):0<=gH cs l:=by
 have h:=QR hp hl;have h1:=fk h;exact ediv_nonneg (i8 (by omega) h) (by omega)
def gn{cs:e_}{ws:d_}{m:Nat}(hp:∀c∈cs,1<=c)(hm:m<2 ^ cs.length):0<=eI cs ws m:=by
 unfold eI
 split
 ·exact gJ hp λx hx=>eE hm<|bc.mp hx
 ·omega
def kC(cs:e_)(ws:d_):worth cs ws 0=0:=by
 have e:eI cs ws 0=0:=by
  unfold eI;rw[show aq 0=[]from rfl]
  rfl
 unfold worth;rw[if_pos e,if_neg];rintro⟨r,_,h,b,_⟩
 have:r=[]:=by
  cases r with
  |nil=>rfl
  |cons a q=>have:=(h a).mp fA;rw[Wu]at this;cases this
 rw[this]at b;simp at b
def Aw{cs:e_}{ws:d_}{m:Nat}(hp:∀c∈cs,1<=c)(hm:m<2 ^ cs.length):eI cs ws m<=(worth cs ws m:Int):=by
 have:=gn (ws:=ws) hp hm
 unfold worth
 split
 ·omega
 ·omega
def Ax{cs:e_}{ws:d_}{m:Nat}(hp:∀c∈cs,1<=c)(hm:m<2 ^ cs.length)(h:jl cs ws m):1<=worth cs ws m:=by
 have:=gn (ws:=ws) hp hm
 unfold worth
 split
 ·first|(rw[if_pos h];exact dy _)|exact dy _
 ·omega
structure GG(cs:e_)(ws:d_)(m:Nat)(g:Bool × List Nat):Prop where
 ok:Qm cs ws g
 ne:g.2≠[]
 rise:g.1=false->g.2.Pairwise (· < ·)
 UR:∀x∈g.2,m.testBit x=true
def GG.mono{cs:e_}{ws:d_}{k m:Nat}{g:Bool × List Nat}(h:GG cs ws k g)(s:Sub k m):GG cs ws m g:=⟨h.ok,h.ne,h.rise,λx hx=>s x<|h.UR x hx⟩
def Ay{ws l:d_}(h:∀x∈l,∀y∈l,x≠y->cF ws x y=true):bY ws l=true:=by
 unfold bY;rw[ka];intro x hx;rw[ka];intro y hy;rw[GE,kc]
 by_cases c:y=x
 ·exact .inl c
 ·exact .inr<|h x hx y hy λz=>c z.symm
def Az{ws l:d_}(h:bY ws l=true):∀x∈l,∀y∈l,x≠y->cF ws x y=true:=λx hx y hy n=>by
 unfold bY at h;rw[ka]at h
 have:=h x hx
 rw[ka]at this
 have:=this y hy
 rw[GE,kc]at this
 rcases this with e|e
 ·exact absurd e.symm n
 ·exact e
def pV(cs:e_)(l:d_):iT cs (false,l)=gH cs l:=rfl
def IQ{cs:e_}{ws:d_}{m:Nat}{g:Bool × List Nat}(hp:∀c∈cs,1<=c)(h:GG cs ws m g):iT cs g<=(worth cs ws (mask g.2):Int):=by
 obtain⟨b,l⟩:=g;have d:∀x∈l,x<cs.length:=h.ok.lt;have a:l.Nodup:=h.ok.nd;have hm:mask l<2 ^ cs.length:=uU a d
 cases b with
 |true=>
  obtain⟨e,hc,f⟩:=h.ok.ring rfl
  have:=Ax (ws:=ws) hp hm ⟨l,a,λx=>by rw[bC a,kc],e,hc,f⟩
  show(1:Int)<=(worth cs ws (mask l):Int)
  omega
 |false=>
  refine Int.le_trans ?_ (Aw hp hm);rw[pV];unfold eI;rw[jO (h.rise rfl),if_pos<|Ay<|h.ok.eI rfl];exact Wq _
def IS{a b:d_}(ha:a.Nodup)(hb:b.Nodup)(h:∀x∈a,x∉b):IL (mask a) (mask b):=λj hj=>by
 rw[bC ha,kc]at hj;rw[bC hb,dt<|h j hj]
theorem IT{cs:e_}{ws:d_}{m:Nat}(hp:∀c∈cs,1<=c):∀ {L:B0L},(∀g∈L,GG cs ws m g)->(L.Pairwise λg h=>∀x∈g.2,x∉h.2)->yT m (L.map λg=>mask g.2)/\(L.map<|iT cs).sum<=(val (worth cs ws) (L.map λg=>mask g.2):Int)
 | [],_,_=>⟨⟨(λ_ h=>nomatch h),List.Pairwise.nil⟩,Wq _⟩
 |g::L,h,o=>by
  obtain⟨r,l⟩:=ro.mp o;obtain⟨⟨q,p⟩,n⟩:=IT hp (λg b=>h g<|fz _ b) l;have b:=h g fA;have w:=IQ hp b;refine⟨⟨λa f=>?_,ro.mpr ⟨λa f=>?_,p⟩⟩,?_⟩
  ·rcases gg.mp f with e|e
   ·rw[e];intro j hj;rw[bC b.ok.nd,kc]at hj;exact b.UR j hj
   ·exact q a e
  ·obtain⟨i,d,e⟩:=gh.mp f;rw[<-e];exact IS b.ok.nd (h i<|fz _ d).ok.nd<|r i d
  ·unfold val at n ⊢;rw[m5,m5,m5,C6,C6]
   omega
noncomputable def AA(cs:e_)(l:d_):d_:=l.filter λi=>decide<|cs.getD i 0=2
noncomputable def kD(ws l:d_):d_:=(List.range ws.length).map λi=>if i∈l then ws.getD i 0 else 0
def fR(ws l:d_):(kD ws l).length=ws.length:=by unfold kD;rw[b5,h7]
def pW{ws l:d_}{i:Nat}(hi:i<ws.length):(kD ws l).getD i 0=if i∈l then ws.getD i 0 else 0:=by
 unfold kD;rw[b3,ed,mv hi];rfl
def oE{ws l:d_}{i j:Nat}(hi:i<ws.length):cF (kD ws l) i j=(decide (i∈l)&&cF ws i j):=by
 unfold cF;rw[pW hi]
 by_cases c:i∈l
 ·rw[if_pos c,cc c];rfl
 ·rw[if_neg c,dt c,Wu];rfl
def MD{ws l:d_}(h:jb ws):jb (kD ws l):=by
 refine⟨λi hi=>?_,λi hi=>?_⟩
 ·rw[fR]at hi;rw[pW hi,fR]
  split
  ·exact h.lt i hi
  ·exact r4 _
 ·rw[fR]at hi;rw[oE hi,h.self i hi,KE]
variable{r:d_}
def nU{ws:d_}(h2:1<=r.length)(hl:∀x∈r,x<ws.length)(hs:∀k,k<r.length->cF ws (r.getD k 0) (r.getD ((k+1)%r.length) 0)=true):¬uW ws:=by
 rintro⟨f,c⟩;have a:∀k,k<r.length->r.getD k 0∈r:=λk hk=>fN hk;have b:∀k,k<r.length->f (r.getD k 0)+k<=f (r.getD 0 0):=by
  intro k
  induction k with
  |zero=>intro _;omega
  |succ k e=>
   intro hk;have i:=e (by omega)
   have g:=c _ _ (hl _ (a k (by omega))) (hs k (by omega))
   rw[v8 hk]at g
   omega
 have h:=b (r.length-1) (by omega)
 have d:=c _ _ (hl _ (a (r.length-1) (by omega))) (hs (r.length-1) (by omega))
 rw[show r.length-1+1=r.length by omega,mod_self]at d
 omega
def qZ{cs:e_}{ws:d_}{m:Nat}(hn:ws.length=cs.length)(hm:m<2 ^ cs.length)(h:jl cs ws m):¬uW (kD ws<|AA cs<|aq m):=by
 obtain⟨r,e,b,d,hc,c⟩:=h;have a:∀x∈r,x<ws.length:=λx hx=>by rw[hn];exact eE hm<|(b x).mp hx
 refine nU (r:=r) (by omega) (λx hx=>by rw[fR];exact a x hx) λk hk=>?_
 have hx:=fN hk;rw[oE (a _ hx),c k hk,cc]
 ·rfl
 ·exact j5.mpr ⟨bc.mpr<|(b _).mp hx,cc<|hc _ hx⟩
theorem xR:∀ {W:Int} {p:e_},(∀c∈p,c=2)->bQ W p=p.length*(W / 2)
 |W,[],_=>by simp[bQ]
 |W,a::p,h=>by
  have b:=xR (W:=W) (p:=p) λc hc=>h c<|fz _ hc;unfold bQ at b ⊢;rw[m5,C6,b,h a fA,mo]
  have:((p.length+1:Nat):Int)=(p.length:Int)+1:=by omega
  rw[this,P3,WC,Int.add_comm]
def IU{cs:e_}{l:d_}(h2:2<=l.length)(hc:∀x∈l,cs.getD x 0=2):1<=gH cs l:=by
 have f:∀c∈fZ cs l,c=2:=λc d=>by
  unfold fZ at d;obtain⟨x,hx,e⟩:=gh.mp d;rw[<-e];exact hc x hx
 have b:2<=(fZ cs l).length:=by rw[fG];exact h2
 unfold gH;rw[xR f];generalize fZ cs l=p at f b;have g:1<=pr p:=fk λc hc=>by rw[f c hc];omega
 have i:(2:Int)∣pr p:=by
  cases p with
  |nil=>simp at b
  |cons a q=>
   have e:=f a fA;subst e;exact kx fA
 obtain⟨w,h⟩:=i;have e:pr p / 2=w:=by rw[h];omega
 rw[e];have j:1<=w:=by omega
 refine(Int.le_ediv_iff_mul_le (by omega)).mpr ?_
 rw[h,WC];exact o5 (by omega) (by omega)
structure QU(cs:e_)(ws:d_)(m:Nat)(s:Int):Prop where
 eI:bY ws (aq m)=true->s=gH cs (aq m)
 ring:bY ws (aq m)=false->¬uW (kD ws<|AA cs<|aq m)->s=1
 nn:0<=s
def QU.ge{cs:e_}{ws:d_}{m:Nat}{s:Int}(hp:∀c∈cs,1<=c)(hn:ws.length=cs.length)(hm:m<2 ^ cs.length)(h:QU cs ws m s):(worth cs ws m:Int)<=s:=by
 have d:=gn (ws:=ws) hp hm;have f:=h.nn
 cases cb:bY ws (aq m)with
 |true=>
  have e:=h.eI cb;have b:L2.eI cs ws m=gH cs (aq m):=by unfold L2.eI;rw[if_pos cb]
  unfold worth
  split
  ·rename_i z
   split
   ·rename_i a
    obtain⟨r,g,a,i,hc,n⟩:=a;have j:r.length<=(aq m).length:=eC g λx hx=>bc.mpr<|(a x).mp hx
    have:=IU (cs:=cs) (l:=aq m) (by omega) λx hx=>hc x<|(a x).mpr<|bc.mp hx
    omega
   ·omega
  ·omega
 |false=>
  have b:L2.eI cs ws m=0:=by unfold L2.eI;rw[if_neg (by rw[cb];exact gp)]
  unfold worth;rw[if_pos b]
  split
  ·rename_i a
   have:=h.ring cb<|qZ hn hm a
   omega
  ·omega
def V6(ws people:d_)(k g l:Nat):Prop:=∃p:d_,p.length=k+1/\p.Nodup/\(∀x∈p,x∈people)/\p.getD 0 0=people.getD 0 0/\(∀t,t<k->cF ws (p.getD t 0) (p.getD (t+1) 0)=true)/\mask p=g/\p.getD k 0=l
def IV{cs:e_}{ws:d_}{m:Nat}(hp:aq m≠[])(hn:2<=(aq m).length)(hc:∀x∈aq m,cs.getD x 0=2):(∃g l,V6 ws (aq m) ((aq m).length-1) g l/\cF ws l ((aq m).getD 0 0)=true)↔jl cs ws m:=by
 have s:=ck m
 constructor
 ·rintro⟨g,l,⟨p,h1,u,v,I,H,_,J⟩,q⟩;have K:p.length=(aq m).length:=by omega
  have h:∀x∈aq m,x∈p:=λx hx=>nc λz=>by
   have:(x::p).length<=(aq m).length:=eC (m3.mpr ⟨z,u⟩) λy hy=>by
    rcases gg.mp hy with e|e
    ·rw[e];exact hx
    ·exact v y e
   rw[mo]at this
   omega
  refine⟨p,u,λx=>⟨λhx=>bc.mp<|v x hx,λhx=>h x<|bc.mpr hx⟩,by omega,λx hx=>hc x<|v x hx,λk hk=>?_⟩
  by_cases c:k+1=p.length
  ·rw[c,mod_self,I];rw[show k=(aq m).length-1 by omega,J];exact q
  ·rw[v8 (by omega)]
   exact H k (by omega)
 ·rintro⟨r,A,o,u,_,q⟩;have C:(aq m).getD 0 0∈r:=(o _).mpr (bc.mp (fN (by omega)))
  generalize hb:aq m=bs at *;have hj:=r3 C;have w:=getIdx C;generalize r.idxOf (bs.getD 0 0)=j at hj w;have E:r.length=bs.length:=by
   refine Nat.le_antisymm (eC A λx hx=>?_)<|eC s λx hx=>?_
   ·rw[<-hb];exact bc.mpr<|(o x).mp hx
   ·rw[<-hb]at hx;exact(o x).mpr (bc.mp hx)
  have i:∀t,t<r.length->((List.range r.length).map λk=>r.getD ((j+k)%r.length) 0).getD t 0=r.getD ((j+t)%r.length) 0:=λt D=>by
   rw[b3,ed,mv D];rfl
  have step:∀t,(j+(t+1))%r.length=((j+t)%r.length+1)%r.length:=λt=>by
   rw[Nat.mod_add_mod];rfl
  have lt:∀t,(j+t)%r.length<r.length:=λt=>mod_lt _ (by omega)
  refine⟨mask<|(List.range r.length).map λk=>r.getD ((j+k)%r.length) 0,r.getD ((j+(bs.length-1))%r.length) 0,⟨(List.range r.length).map λk=>r.getD ((j+k)%r.length) 0,by rw[b5,h7];omega,?_,λx hx=>?_,?_,λt D=>?_,rfl,i _ (by omega)⟩,?_⟩
  ·rw[Do,pairwise_map];refine(Do.mp Wj).imp_of_mem λ{a b} F d n z=>?_;have F:=fO.mp F;have d:=fO.mp d;have f:=BA r.idxOf z;rw[D4 A (lt a),D4 A<|lt b]at f
   apply n
   by_cases B:j+a<r.length<;>by_cases G:j+b<r.length
   ·rw[v8 B,v8 G]at f;omega
   ·rw[v8 B,mod_eq_sub_mod (by omega),v8 (by omega)]at f;omega
   ·rw[mod_eq_sub_mod (by omega),v8 (a:=j+a-r.length) (by omega),v8 G]at f;omega
   ·rw[mod_eq_sub_mod (a:=j+a) (by omega),v8 (a:=j+a-r.length) (by omega),mod_eq_sub_mod (a:=j+b) (by omega),v8 (a:=j+b-r.length) (by omega)]at f;omega
  ·obtain⟨k,_,e⟩:=gh.mp hx;rw[<-e,<-hb];exact bc.mpr<|(o _).mp<|fN<|lt k
  ·rw[i 0 (by omega),Nat.add_zero,v8 hj];exact w
  ·rw[i t (by omega),i (t+1) (by omega),step t]
   exact q _<|lt t
  ·have:=q _<|lt<|bs.length-1
   rw[<-step,show bs.length-1+1=r.length by omega,Nat.add_mod_right,v8 hj,w]at this
   exact this
def AD{m k i:Nat}{ps:d_}(hk:k<(aq m).length)(hi:i=(aq m).getD k 0)(h:∀q,q∈ps↔(Sub q m/\∀j,q.testBit j=true->j∈(aq m).take k)):
  ∀q,q∈ps++ps.map (λx=>x+2 ^ i)↔(Sub q m/\∀j,q.testBit j=true->j∈(aq m).take (k+1)):=by
 have o:(aq m).take (k+1)=(aq m).take k++[i]:=by rw[hi];exact take_snoc 0 hk
 have n:m.testBit i=true:=by rw[hi];exact bc.mp<|fN hk
 have l:i∉(aq m).take k:=λz=>by
  have h1:=xj (ck m) z;rw[hi,D4 (ck m) hk]at h1
  omega
 have f:∀q,q∈ps->∀j,(q+2 ^ i).testBit j=(q.testBit j||decide (i=j)):=λq hq j=>by
  have hb:q.testBit i=false:=by
   cases e:q.testBit i with
   |false=>rfl
   |true=>exact absurd (((h q).mp hq).2 i e) l
  rw[Ci hb,jc]
 intro q;rw[j6,o]
 constructor
 ·rintro(hq|hq)
  ·obtain⟨a,b⟩:=(h q).mp hq;exact⟨a,λj hj=>Wc _<|b j hj⟩
  ·obtain⟨g,d,rfl⟩:=gh.mp hq;obtain⟨a,b⟩:=(h g).mp d;refine⟨λj hj=>?_,λj hj=>?_⟩
   ·rw[f g d,GE,kc]at hj
    rcases hj with hj|hj
    ·exact a j hj
    ·rw[<-hj];exact n
   ·rw[f g d,GE,kc]at hj
    rcases hj with hj|hj
    ·exact Wc _<|b j hj
    ·rw[<-hj];exact q7 _ fA
 ·rintro⟨a,b⟩
  by_cases c:q.testBit i=true
  ·refine .inr<|gh.mpr ⟨q-2 ^ i,(h _).mpr ⟨λj hj=>?_,λj hj=>?_⟩,?_⟩
   ·rw[bU c,gc]at hj;exact a j hj.1
   ·rw[bU c,gc]at hj
    rcases j6.mp (b j hj.1)with z|z
    ·exact z
    ·rw[eG.mp z]at hj;simp at hj
   ·have:=(eQ c).le
    omega
  ·refine .inl<|(h q).mpr ⟨a,λj hj=>?_⟩
   rcases j6.mp (b j hj)with z|z
   ·exact z
   ·rw[eG.mp z]at hj;exact absurd hj c
abbrev mJ:=Int × List (Bool × List Nat)
def Ch(K:Frag)(H:Hp)(v:V)(x:mJ):Prop:=∃r g us,v=.ref r/\aL K H r [.int x.1,.ref g]/\aL K H g us/\GF K H us x.2
def mK(K:Frag)(H:Hp):u_->List mJ->Prop
 | [],[]=>True
 |v::b,x::a=>Ch K H v x/\mK K H b a
 |_,_=>False
variable{K:Frag}{H H':Hp}
theorem Ch.mono{v:V}{x:mJ}(s:ag H H')(h:Ch K H v x):Ch K H' v x:=by
 obtain⟨r,g,a,e,h1,c,b⟩:=h;exact⟨r,g,a,e,s.aP h1,s.aP c,b.mono s⟩
theorem Ch.gD{v:V}{x:mJ}{B_:Addr}{ys:u_}{o:HO}(ha:H B_=some (.lst ys))(h:Ch K H v x):Ch K (upd H B_ o) v x:=by
 obtain⟨r,g,a,e,h1,c,b⟩:=h;exact⟨r,g,a,e,h1.gD ha,c.gD ha,b.gD ha⟩
theorem mK.mono(s:ag H H'):∀ {vs:u_} {xs:List mJ},mK K H vs xs->mK K H' vs xs
 | [],[],h=>h
 |_::_,_::_,⟨a,t⟩=>⟨a.mono s,mK.mono s t⟩
 | [],_::_,h=>h.elim
 |_::_,[],h=>h.elim
theorem mK.gD{B_:Addr}{ys:u_}{o:HO}(ha:H B_=some (.lst ys)):∀ {vs:u_} {xs:List mJ},mK K H vs xs->mK K (upd H B_ o) vs xs
 | [],[],h=>h
 |_::_,_::_,⟨a,t⟩=>⟨a.gD ha,mK.gD ha t⟩
 | [],_::_,h=>h.elim
 |_::_,[],h=>h.elim
theorem mK.length:∀ {vs:u_} {xs:List mJ},mK K H vs xs->vs.length=xs.length
 | [],[],_=>rfl
 |_::_,_::_,⟨_,t⟩=>by rw[mo,mo,mK.length t]
 | [],_::_,h=>h.elim
 |_::_,[],h=>h.elim
theorem mK.get:∀ {vs:u_} {xs:List mJ} {i:Nat},mK K H vs xs->i<xs.length->∃v,vs[i]?=some v/\Ch K H v (xs.getD i (0,[]))
 | [],[],i,_,h=>by simp at h
 |v::_,x::_,0,⟨a,_⟩,_=>⟨v,rfl,a⟩
 |_::_,_::xs,i+1,⟨_,t⟩,h=>by
  obtain⟨v,e,c⟩:=mK.get (i:=i) t (by simpa using h)
  exact⟨v,by simpa using e,by simpa using c⟩
 | [],_::_,_,h,_=>h.elim
 |_::_,[],_,h,_=>h.elim
theorem mK.append:∀ {vs ws:u_} {xs ys:List mJ},mK K H vs xs->mK K H ws ys->mK K H (vs++ws) (xs++ys)
 | [],_,[],_,_,h=>h
 |_::_,_,_::_,_,⟨a,t⟩,h=>⟨a,mK.append t h⟩
 | [],_,_::_,_,h,_=>h.elim
 |_::_,_,[],_,h,_=>h.elim
structure yU(cs:e_)(ws:d_)(m:Nat)(x:mJ):Prop where
 each:∀g∈x.2,GG cs ws m g
 rq:x.2.Pairwise λg h=>∀x∈g.2,x∉h.2
 sum:(x.2.map<|iT cs).sum=x.1
 nn:0<=x.1
theorem yU.mono{cs:e_}{ws:d_}{k m:Nat}{x:mJ}(h:yU cs ws k x)(s:Sub k m):yU cs ws m x:=⟨λg a=>(h.each g a).mono s,h.rq,h.sum,h.nn⟩
variable{x:mJ}
def yU.len{cs:e_}{ws:d_}{m:Nat}(h:yU cs ws m x):x.2.length<=cs.length:=by
 have i:∀ {L:B0L},(∀g∈L,GG cs ws m g)->(L.Pairwise λg h=>∀x∈g.2,x∉h.2)->(L.map λg=>g.2.getD 0 0).Nodup/\∀y∈L.map λg=>g.2.getD 0 0,y<cs.length/\∃g∈L,y∈g.2:=λ{L} h1 o=>by
  induction L with
  |nil=>exact⟨nodup_nil,λ_ h=>nomatch h⟩
  |cons g L q=>
   obtain⟨r,p⟩:=ro.mp o;obtain⟨n,l⟩:=q (λg d=>h1 g<|fz _ d) p;have d:=h1 g fA;have hm:g.2.getD 0 0∈g.2:=fN<|Fh.mpr d.ne;refine⟨?_,λy hy=>?_⟩
   ·rw[m5,m3];refine⟨λz=>?_,n⟩;obtain⟨_,f,j,hy⟩:=l _ z;exact r f j _ hm hy
   ·rcases gg.mp hy with e|e
    ·rw[e];exact⟨d.ok.lt _ hm,g,fA,hm⟩
    ·obtain⟨a,f,b,c⟩:=l y e;exact⟨a,f,fz _ b,c⟩
 obtain⟨a,b⟩:=i h.each h.rq
 have:=cI a λy hy=>(b y hy).1
 rwa [b5]at this
def yU.add{cs:e_}{ws:d_}{a b m:Nat}{y:mJ}(h:yU cs ws a x)(k:yU cs ws b y)(d:IL a b)(s1:Sub a m)(s2:Sub b m):yU cs ws m (x.1+y.1,x.2++y.2):=by
 refine⟨λg f=>?_,List.pairwise_append.mpr ⟨h.rq,k.rq,λg f l i z hz c=>?_⟩,?_,?_⟩
 ·rcases j6.mp f with e|e
  ·exact(h.each g e).mono s1
  ·exact(k.each g e).mono s2
 ·have h1:=(h.each g f).UR z hz;have j:=(k.each l i).UR z c;rw[d z h1]at j;cases j
 ·show((x.2++y.2).map<|iT cs).sum=x.1+y.1;rw[hU,L2.sum_append,h.sum,k.sum]
 ·show 0<=x.1+y.1
  have:=h.nn;have:=k.nn;omega
def mL(cs:e_)(ws:d_)(m:Nat)(x:mJ):Prop:=yU cs ws m x/\x.2.length<=1/\QU cs ws m x.1
def iy(cs:e_)(ws:d_)(m:Nat)(x:mJ):Prop:=yU cs ws m x/\∀l,yT m l->val (worth cs ws) l<=x.1.toNat
def vw(cs:e_)(ws:d_)(m:Nat):yU cs ws m (0,[]):=⟨(λ_ h=>nomatch h),.nil,rfl,Wq _⟩
def Ej(cs:e_)(ws:d_):mL cs ws 0 (0,[]):=by
 refine⟨vw cs ws 0,zero_le _,⟨λ_=>?_,λh=>?_,Wq _⟩⟩
 ·rw[show aq 0=[]from rfl];rfl
 ·rw[show aq 0=[]from rfl]at h;cases h
def Ek(cs:e_)(ws:d_):iy cs ws 0 (0,[]):=⟨vw cs ws 0,xQ<|kC cs ws⟩
def El{cs:e_}{ws:d_}{m i:Nat}{fl fb:List mJ}(hp:∀c∈cs,1<=c)(hn:ws.length=cs.length)(hm:m<2 ^ cs.length)(hi:m.testBit i=true)
  (hl:∀k,k<2 ^ cs.length->mL cs ws k (fl.getD k (0,[]))) (hb:∀k,k<m->iy cs ws k (fb.getD k (0,[]))) (hx:yU cs ws m x) (h1:(fb.getD (m-2 ^ i) (0,[])).1<=x.1)
  (h2:∀part,Sub part (m-2 ^ i)->(fl.getD (2 ^ i+part) (0,[])).1+(fb.getD ((m-2 ^ i)-part) (0,[])).1<=x.1):iy cs ws m x:=by
 have b:2 ^ i<=m:=(eQ hi).le;have d:0<2 ^ i:=r4 i;refine⟨hx,IP hi (λk=>(fb.getD k (0,[])).1.toNat) (λk hk=>(hb k hk).2) ?_ λpart a=>?_⟩
 ·show(fb.getD (m-2 ^ i) (0,[])).1.toNat<=x.1.toNat
  omega
 ·have g:=h2 part a;have e:=a.le;have w:=(hl (2 ^ i+part) (by omega)).2.2.ge hp hn (by omega)
  have f:=(hb ((m-2 ^ i)-part) (by omega)).1.nn
  show worth cs ws (2 ^ i+part)+(fb.getD ((m-2 ^ i)-part) (0,[])).1.toNat<=x.1.toNat
  omega
end L2
namespace L2
open PySem PySem.Spec PyProof.Rows
inductive CG(K:Frag)(vs:u_)(H:Hp)(Q:VK)(E:XK):Prop
 |mk (w:Addr) (ws:d_):vs=[.ref w]->aL K H w ((au ws).map V.int)->ws.length<=8->jb ws->(∀(H':Hp),ag H H'->(¬(laidOut ws).length<ws.length->Q .bE H')/\((laidOut ws).length<ws.length->∀p r o,H' p=some (.kZ o<|.tup<|(au r).map V.int)->o.cls=.type "tuple"->o.dict=none->Ring ws r->Q (.ref p) H'))->CG K vs H Q E
inductive QV(K:Frag)(vs:u_)(H:Hp)(Q:VK)(E:XK):Prop
 |mk (w p:Addr) (ws l:d_):(vs=[.ref w,.ref p])->aL K H w ((au ws).map V.int)->aw K H p ((au l).map V.int)->ws.length<=8->l.length<=8->(∀(t:Addr) (H':Hp),ag H H'->aL K H' t ((au<|kD ws l).map V.int)->Q (.ref t) H')->QV K vs H Q E
inductive QX(K:Frag)(vs:u_)(H:Hp)(Q:VK)(E:XK):Prop
 |mk (c w:Addr) (cs:e_) (ws:d_) (m:Nat):(vs=[.ref c,.ref w,.int (m:Int)])->aL K H c (cs.map V.int)->aL K H w ((au ws).map V.int)->cj cs->ws.length=cs.length->jb ws->0<m->m<2 ^ cs.length->(∀(t:Addr) (us:u_) (L:B0L) (H':Hp),ag H H'->aL K H' t us->GF K H' us L->mL cs ws m ((L.map<|iT cs).sum,L)->Q (.ref t) H')->QX K vs H Q E
inductive IW(K:Frag)(vs:u_)(H:Hp)(Q:VK)(E:XK):Prop
 |mk (c w:Addr) (cs:e_) (ws:d_):(vs=[.ref c,.ref w])->aL K H c (cs.map V.int)->aL K H w ((au ws).map V.int)->cj cs->ws.length=cs.length->jb ws->(∀(l:Addr) (us:u_) (fl:List mJ) (H':Hp),ag H H'->H l=none->H' l=some (.lst us)->mK K H' us fl->fl.length=2 ^ cs.length->(∀k,k<2 ^ cs.length->mL cs ws k (fl.getD k (0,[])))->Q (.ref l) H')->IW K vs H Q E
def TL:Sp:=λa H Q _=>∃(m:Nat),a=[.int (m:Int)]/\m<256/\∀(l:Addr) (ps:d_) (H':Hp),ag H H'->H l=none->H' l=some (.lst<|(au ps).map V.int)->(∀q,q∈ps↔Sub q m)->ps.length<=256->Q (.ref l) H'
inductive QY(K:Frag)(vs:u_)(H:Hp)(Q:VK)(E:XK):Prop
 |mk (lo be:Addr) (cs:e_) (ws:d_) (ul ub:u_) (fl fb:List mJ) (m:Nat):(vs=[.ref lo,.ref be,.int (m:Int)])->aw K H lo ul->aw K H be ub->mK K H ul fl->mK K H ub fb->cj cs->ws.length=cs.length->fl.length=2 ^ cs.length->fb.length=m->0<m->m<2 ^ cs.length->((∀k,k<2 ^ cs.length->mL cs ws k (fl.getD k (0,[]))))->((∀k,k<m->iy cs ws k (fb.getD k (0,[]))))->(∀(v:V) (x:mJ) (H':Hp),ag H H'->Ch K H' v x->iy cs ws m x->Q v H')->QY K vs H Q E
inductive QZ(K:Frag)(vs:u_)(H:Hp)(Q:VK)(E:XK):Prop
 |mk (c w:Addr) (cs:e_) (ws:d_):(vs=[.ref c,.ref w])->aL K H c (cs.map V.int)->aL K H w ((au ws).map V.int)->cj cs->ws.length=cs.length->jb ws->(∀(t:Addr) (us:u_) (L:B0L) (H':Hp),ag H H'->aL K H' t us->GF K H' us L->iy cs ws (2 ^ cs.length-1) ((L.map<|iT cs).sum,L)->Q (.ref t) H')->QZ K vs H Q E
def IZ{m i:Nat}(hi:m.testBit i=true):Sub (m-2 ^ i) m:=λj hj=>by
 rw[bU hi,gc]at hj;exact hj.1
def sub_sub{a m:Nat}(h:Sub a m):Sub (m-a) m:=λj hj=>by
 rw[gm h,gc]at hj;exact hj.1
variable{s:Nat}
def I0{v:Nat->Nat}{m i:Nat}(hi:m.testBit i=true)(h:dZ v (m-2 ^ i) s):∃l,yT m l/\val v l=s:=by
 obtain⟨⟨l,a,e⟩,_⟩:=h;exact⟨l,a.mono<|IZ hi,e⟩
def xS{v:Nat->Nat}{m i part:Nat}(hi:m.testBit i=true)(hp:Sub part (m-2 ^ i))(h:dZ v ((m-2 ^ i)-part) s):∃l,yT m l/\val v l=v (2 ^ i+part)+s:=by
 obtain⟨⟨l,a,e⟩,_⟩:=h;refine⟨_,CF hi hp a,?_⟩;unfold val at e ⊢;rw[m5,C6,e]
def xT{v:Nat->Nat}{m i most:Nat}(hi:m.testBit i=true)(f:Nat->Nat)(hf:∀k,k<m->dZ v k (f k))(ach:∃l,yT m l/\val v l=most)(h1:f (m-2 ^ i)<=most)
  (h2:∀part,Sub part (m-2 ^ i)->0<v (2 ^ i+part)->f ((m-2 ^ i)-part)+v (2 ^ i+part)<=most):dZ v m most:=by
 have b:2 ^ i<=m:=(eQ hi).le;have d:0<2 ^ i:=r4 i;refine⟨ach,IP hi f (λk hk=>(hf k hk).2) h1 λpart a=>?_⟩
 by_cases c:0<v (2 ^ i+part)
 ·have:=h2 part a c
  omega
 ·obtain⟨⟨l,g,e⟩,_⟩:=hf ((m-2 ^ i)-part) (by omega)
  have:=(hf (m-2 ^ i) (by omega)).2 l<|g.mono<|sub_sub a
  omega
variable{us:f'}
def Ja{n:Nat}(h:us.length=n+1):∃a t,us=a::t/\t.length=n:=by
 cases us with
 |nil=>cases h
 |cons a t=>exact⟨a,t,rfl,Nat.succ.inj h⟩
def Q0(h:us.length=1):∃a0,us=[a0]:=by
 obtain⟨a,t,rfl,k⟩:=Ja h
 cases t with
 |nil=>exact⟨a,rfl⟩
 |cons _ _=>cases k
def Q1(h:us.length=2):∃a0 a1,us=[a0,a1]:=by
 obtain⟨a,t,rfl,k⟩:=Ja h;obtain⟨b,rfl⟩:=Q0 k;exact⟨a,b,rfl⟩
def ME(h:us.length=3):∃a0 a1 a2,us=[a0,a1,a2]:=by
 obtain⟨a,t,rfl,k⟩:=Ja h;obtain⟨b,c,rfl⟩:=Q1 k;exact⟨a,b,c,rfl⟩
def TM(h:us.length=4):∃a0 a1 a2 a3,us=[a0,a1,a2,a3]:=by
 obtain⟨a,t,rfl,k⟩:=Ja h;obtain⟨c,d,b,rfl⟩:=ME k;exact⟨a,c,d,b,rfl⟩
def Vo(h:us.length=5):∃a0 a1 a2 a3 a4,us=[a0,a1,a2,a3,a4]:=by
 obtain⟨a,t,rfl,k⟩:=Ja h;obtain⟨d,e,c,b,rfl⟩:=TM k;exact⟨a,d,e,c,b,rfl⟩
def Vp{A B:TS}{D:Ends}{σ:St}{H:Hp}(h:∀R:p_,(∀σ' H',B D σ' H'->R σ' H')->A {D with nx:=R} σ H):oS A B D σ H:=h (B D) λ_ _ z=>z
structure Em(P:Program)(w:World)(K:Frag)(a:Addr)(C_:s_):Prop where
 ns:(a==sysModules)=false
 ex:∃o vs,K.lookup a=some o/\o.IsDictOf (bV P w) vs/\KV C_ vs
def OH(C_:s_)(a:Addr)(td ty:TE):TE:=λσ H Q=>td σ H λx H1=>ty σ H1 λy b=>∃k v,x=.ref a/\y=kV k/\cZ C_ k=some v/\Q v b
def Jb(C_:s_)(a:Addr)(ty td:TE):TE:=λσ H Q=>ty σ H λy H1=>td σ H1 λx b=>∃k,x=.ref a/\y=kV k/\Q (.bl<|!(cZ C_ k).isSome) b
variable{X:Cx}{N W G:f_}{x:Str}{pos:Pos}{a:Addr}
def TN(S:Sc X N W G)(g:Nat)(h:X.mg x=some (.ref a))(hg:G[g]?=some x:=by rfl):QE X (.Name x pos) (tC<|.ref a):=by
 have q:=S.gl _<|ih hg;exact⟨ud q.1 h rfl q.2.1⟩
variable{C_:s_}{o:Expr}{s:Shared}
def Em.at_{w_:aO0}{σ:St}{H:Hp}(D:Em X.prog X.w X.K a C_)(I:Inv X w_ σ H s):∃vs,KV C_ vs/\s.heap.DictOf (bV X.prog X.w) a vs:=by
 obtain⟨o,vs,hk,b,r⟩:=D.ex;exact⟨vs,r,Heap.dictOf_iff.mpr ⟨o,I.wz a o hk,b⟩⟩
variable{i:Expr}{td ty:TE}
def TQ(D:Em X.prog X.w X.K a C_)(ho:QE X o td)(hi:QE X i ty)(hs:Le i:=by intro _ _;rfl):QE X (.Subscript o i pos) (OH C_ a td ty):=by
 refine⟨λb s σ H Q I h=>BZ PySem.F.slot_dict_getitem.lookup hs<|bP (ho.h b s σ H _ I h) λu B ⟨x,H1,t,A,j⟩=>bP (hi.h b B σ H1 _ t j) λG E ⟨y,m,f,z,k,v,q,p,l,g⟩=>?_⟩;subst q p;obtain rfl:u=Value.ref a:=A;obtain⟨n,c,e⟩:=D.at_ f;obtain⟨C,r,d⟩:=iV.some_of (v:=v) (o:=valueAt n k) (by rw[<-l];exact c.val k)
 exact⟨e.typeIs,wpAny_getItem_of (sL z) e.mapOf r ⟨v,m,f.tok _,d,g⟩⟩
def MF(D:Em X.prog X.w X.K a C_)(hi:PE X i ty)(ho:PE X o td):PC X .NotIn i o (Jb C_ a ty td):=by
 intro b s σ H Q I h;refine bP (hi b s σ H _ I h) λz r ⟨y,H1,n,p,f⟩=>bP (ho b r σ H1 _ n f) λu v ⟨x,g,d,q,k,m,l,e⟩=>?_;subst m l;obtain rfl:u=Value.ref a:=q;obtain⟨t,c,j⟩:=D.at_ d;refine wpAny_notIn_of (sL p) D.ns j.mapOf ?_;rw[<-(c.val k).jJ];exact⟨.bl<|!(cZ C_ k).isSome,g,d.tok _,rfl,e⟩
def TR(D:Em X.prog X.w X.K a C_)(hi:QE X i ty)(ho:QE X o td)(hm:behindInMarks .NotIn o=false):QT X (.Compare i [.NotIn] [o] pos) (tB<|Jb C_ a ty td):=⟨FH (MF D hi.h ho.h) hm⟩
def Jc{σ:St}{H:Hp}{Q:VK}:OH C_ a td ty σ H Q=td σ H λx H1=>ty σ H1 λy H2=>∃k v,x=.ref a/\y=kV k/\cZ C_ k=some v/\Q v H2:=rfl
def Jd{σ:St}{H:Hp}{Q:VK}:Jb C_ a ty td σ H Q=ty σ H λy H1=>td σ H1 λx H2=>∃k,x=.ref a/\y=kV k/\Q (.bl<|!(cZ C_ k).isSome) H2:=rfl
noncomputable def pX(e:Nat->Addr):s_:=[(.inr "sure",.ref<|e 0),(.inr "share",.ref<|e 1),(.inr "groups",.ref<|e 2),(.inr "ring",.ref<|e 3),(.inr "order",.ref<|e 4),(.inr "put",.ref<|e 5),(.inr "guess",.ref<|e 6),(.inr "right",.ref<|e 7),(.inr "book",.ref<|e 8)]
structure vx(P:Program)(w:World)(K:Frag)(mg:b_)(a:Addr)(e:Nat->Addr):Prop where
 gl:mg "FORMS"=some (.ref a)
 RL:Em P w K a (pX e)
 t0:∀k,k<9->k≠5->k≠6->∀H,aL K H (e k) []
 t5:∀H,aL K H (e 5) [.str "name",.str "colour"]
 t6:∀H,aL K H (e 6) [.str "name"]
noncomputable def Vq(e0 e1 e2 e3 e4 e5 e6 e7 e8:Addr):Nat->Addr
 |0=>e0
 |1=>e1
 |2=>e2
 |3=>e3
 |4=>e4
 |5=>e5
 |6=>e6
 |7=>e7
 |_=>e8
variable{u0 u2:Tok}{n1 n2:Nat}
def Je{P:Program}{w:World}{K:Frag}{mg:b_}{h:Heap}{e0 e1 e2 e3 e4 e5 e6 e7 e8:Addr}{t0 t1 t2 t3 t4 t5 t6 t7 t8 u1:Tok}{ep n0 n3 n4 n5 n6 n7 n8:Nat}{d0 d1 d2 d3 d4 d5 d6 d7 d8:h_}{s0 s1 s2 s3 s4 s5 s6 s7 s8:Array (g_)}(X:K.In h)(G:h.Ns mainGlobals mg)
  (a0:nsIn K mainGlobals "FORMS"=some (some<|.ref a)) (hs:(a==sysModules)=false)
  (a1:K.lookup a=some ⟨.type "dict",none,.dict #[⟨PyData.keyHash w.params "sure",.str "sure" t0,.ref e0⟩,⟨PyData.keyHash w.params "share",.str "share" t1,.ref e1⟩,⟨PyData.keyHash w.params "groups",.str "groups" t2,.ref e2⟩,⟨PyData.keyHash w.params "ring",.str "ring" t3,.ref e3⟩,⟨PyData.keyHash w.params "order",.str "order" t4,.ref e4⟩,⟨PyData.keyHash w.params "put",.str "put" t5,.ref e5⟩,⟨PyData.keyHash w.params "guess",.str "guess" t6,.ref e6⟩,⟨PyData.keyHash w.params "right",.str "right" t7,.ref e7⟩,⟨PyData.keyHash w.params "book",.str "book" t8,.ref e8⟩] ep,#[]⟩)
  (l0:K.lookup e0=some ⟨.type "tuple",d0,.seq #[] n0,s0⟩) (l1:K.lookup e1=some ⟨.type "tuple",d1,.seq #[] n1,s1⟩) (l2:K.lookup e2=some ⟨.type "tuple",d2,.seq #[] n2,s2⟩) (l3:K.lookup e3=some ⟨.type "tuple",d3,.seq #[] n3,s3⟩) (l4:K.lookup e4=some ⟨.type "tuple",d4,.seq #[] n4,s4⟩) (l5:K.lookup e5=some ⟨.type "tuple",d5,.seq #[.str "name" u0,.str "colour" u1] n5,s5⟩) (l6:K.lookup e6=some ⟨.type "tuple",d6,.seq #[.str "name" u2] n6,s6⟩) (l7:K.lookup e7=some ⟨.type "tuple",d7,.seq #[] n7,s7⟩) (l8:K.lookup e8=some ⟨.type "tuple",d8,.seq #[] n8,s8⟩):vx P w K mg a (Vq e0 e1 e2 e3 e4 e5 e6 e7 e8):=by
 refine⟨mg_of X G a0,⟨hs,_,[(.inr "sure",.ref e0),(.inr "share",.ref e1),(.inr "groups",.ref e2),(.inr "ring",.ref e3),(.inr "order",.ref e4),(.inr "put",.ref e5),(.inr "guess",.ref e6),(.inr "right",.ref e7),(.inr "book",.ref e8)],a1,⟨_,_,⟨rfl,rfl,rfl⟩,rfl,?_,?_,?_⟩,?_⟩,λk hk b c H=>?_,λH=>.inr ⟨_,_,_,l5,rfl,rfl,by show 2<=sizeLine;decide,.cons ⟨_,rfl⟩<|.cons ⟨_,rfl⟩ .nil⟩,λH=>.inr ⟨_,_,_,l6,rfl,rfl,by show 1<=sizeLine;decide,.cons ⟨_,rfl⟩ .nil⟩⟩
 ·intro e he;simp only[List.mem_toArray,mem_cons,not_mem_nil,or_false]at he
  rcases he with rfl|rfl|rfl|rfl|rfl|rfl|rfl|rfl|rfl<;>exact⟨.inr _,bM P w _ _,rfl⟩
 ·exact .cons (bM P w _ _) rfl<|.cons (bM P w _ _) rfl<|.cons (bM P w _ _) rfl<|.cons (bM P w _ _) rfl<|.cons (bM P w _ _) rfl<|.cons (bM P w _ _) rfl<|.cons (bM P w _ _) rfl<|.cons (bM P w _ _) rfl<|.cons (bM P w _ _) rfl .nil
 ·show([.inr "sure",.inr "share",.inr "groups",.inr "ring",.inr "order",.inr "put",.inr "guess",.inr "right",.inr "book"]:List Key).Nodup
  decide +kernel
 ·exact .cons ⟨rfl,rfl⟩<|.cons ⟨rfl,rfl⟩<|.cons ⟨rfl,rfl⟩<|.cons ⟨rfl,rfl⟩<|.cons ⟨rfl,rfl⟩<|.cons ⟨rfl,rfl⟩<|.cons ⟨rfl,rfl⟩<|.cons ⟨rfl,rfl⟩<|.cons ⟨rfl,rfl⟩ .nil
 ·match k,hk,b,c with
  |0,_,_,_=>exact .inr ⟨_,_,_,l0,rfl,rfl,a_,.nil⟩
  |1,_,_,_=>exact .inr ⟨_,_,_,l1,rfl,rfl,a_,.nil⟩
  |2,_,_,_=>exact .inr ⟨_,_,_,l2,rfl,rfl,a_,.nil⟩
  |3,_,_,_=>exact .inr ⟨_,_,_,l3,rfl,rfl,a_,.nil⟩
  |4,_,_,_=>exact .inr ⟨_,_,_,l4,rfl,rfl,a_,.nil⟩
  |7,_,_,_=>exact .inr ⟨_,_,_,l7,rfl,rfl,a_,.nil⟩
  |8,_,_,_=>exact .inr ⟨_,_,_,l8,rfl,rfl,a_,.nil⟩
structure xU(K:Frag)(C:Addr)(m qual:Str)(st:Stmt)(z:Str):Prop where
 ex:∃f fd t,Ti K m qual st f fd [.str z t]/\Meth K C m f
variable{m:Str}
def Jf{K:Frag}{C:Addr}{qual z:Str}{st:Stmt}{f T:Addr}{t:Tok}{o:Obj}{n:Nat}{oc:Value}{od an:h_}{osl:Array (g_)}{kV doc pm cY ct:Value}
  (a:findIn K (.ref C) m=some (some<|.ref f)) (l:K.lookup f=some ⟨oc,od,.func<|fnOf m qual (bx st) (aU st) (aj st) (.ref T) kV doc pm an cY ct,osl⟩)
  (c:codeIn K cY qual=true) (k:keepIn K (.ref f)=true) (i:isFn K (.ref f)=true) (lt:K.lookup T=some o) (ld:o.data=.seq #[.str z t] n):xU K C m qual st z:=
 ⟨f,_,t,⟨⟨oc,od,T,kV,doc,pm,an,cY,ct,osl,o,n,rfl,l,c,lt,ld⟩,k⟩,a,i,k⟩
structure MG(P:Program)(w:World)(K:Frag)(mg:b_)(base:Heap)(k:Nat)(C:Addr)(m p1 p2:Str)(z:Str)(sp:Sp):Prop where
 ex:∃f fd t,fM P w K mg base (OD P w) k f fd [p1,p2] sp/\Meth K C m f/\Binds K fd [p1,p2] []/\Binds K fd [p1,p2] [.str z t]
def bindM(m qual:Str)(st:Stmt)(p1 p2:Str):Prop:=∀(T:Addr) (kV doc pm:Value) (an:h_) (cY ct u v:Value),
 (∃k,bindArgs (fnOf m qual (bx st) (aU st) (aj st) (.ref T) kV doc pm an cY ct) ⟨[u],[]⟩=(seqItems? (.ref T) >>= k)/\∀d,k (some #[d])=pure [(p1,u),(p2,d)])/\
 (∃k,bindArgs (fnOf m qual (bx st) (aU st) (aj st) (.ref T) kV doc pm an cY ct) ⟨[u,v],[]⟩=(seqItems? (.ref T) >>= k)/\∀d,k (some #[d])=pure [(p1,u),(p2,v)])
variable{P:Program}{w:World}{K:Frag}{mg:b_}{base:Heap}{k:Nat}{qual z p1 p2:Str}{C:Addr}{sp:Sp}{st:Stmt}
def xU.gq(D:xU K C m qual st z)(S:DS (aj st) N [p1,p2] G)(hb:bindM m qual st p1 p2)
  (len:∀vs H Q E,sp vs H Q E->vs.length=2)
  (fe:∀(X:Cx),Sc X N N G->X.prog=P->X.w=w->X.K=K->X.mg=mg->X.base=base->X.calm=true->X.env.scope=aj st->X.xe=(λ_ _=>False)->cL k X.A->X.A.units+64<cLine->
   ∀(H:Hp) (vs:u_) (Q:VK) (E:XK),sp vs H Q E->∃t,DH X (aU st) t/\t {nx:=λ_ H'=>Q .bE H',rt:=Q} (L2.start N vs) H):MG P w K mg base (k+1) C m p1 p2 z sp:=by
 obtain⟨f,J,t,F,M⟩:=D.ex;obtain⟨L,O,T,kV,a,l,y,p,ct,I,o,n,rfl,B,e,lt,r⟩:=F.ex;refine⟨f,_,t,fM.lift<|Ga B e S.fs len λA g s H vs Q E x i=>?_,M,λs c j b=>?_,λs c j b=>?_⟩
 ·obtain⟨t,h,q⟩:=fe _ S.cx rfl rfl rfl rfl rfl rfl rfl rfl x x.units H vs Q E i;exact⟨t,h.h.ND,q⟩
 ·rw[append_nil]at b ⊢
  match c,b with
  | [u,v],_=>
   obtain⟨k,d,e2⟩:=(hb T kV a l y p ct u v).2;exact binds_K j rfl lt r d<|e2 _
 ·obtain⟨u,rfl⟩:∃u,c=[u]:=by
   rw[eR]at b
   have:c.length=1:=by simpa using b
   exact List.length_eq_one_iff.mp this
  obtain⟨k,d,e2⟩:=(hb T kV a l y p ct u u).1;exact binds_K j rfl lt r d<|e2 _
variable{fields:f_}{n:Nat}{p:Pos}{e:Expr}{es:i_}{t:TA}{E:XK}
def Vr(S:Sc X N W G)(g:Nat)(T:eU X.K X.mg x C fields)(F:MG X.prog X.w X.K X.mg X.base k C "__init__" p1 p2 z sp)(hx:Passes (OD X.prog X.w) X E)(hr:cL n X.A)(ha:QB X (e::es) t)(hk:k+1<=n:=by decide)(hg:G[g]?=some x:=by rfl):
  QE X (.Call (.Name x p) (e::es) [] pos) (sk C sp [] E t):=by
 obtain⟨f,a,_,F,M,hb,_⟩:=F.ex;have q:=S.gl x<|ih hg;exact⟨BU ⟨T.makes,M.at_,M.fn,T.kp⟩ F (hr.mono hk) q.1 T.gl hb .nil hx ha.h.pa q.2.1 (bf ha.h.he)<|dm ha.h.GP⟩
variable{H:Hp}{Q:VK}{σ:St}
def CH:sk C sp [.str z] E ui σ H Q=∀x dx,H x=none->H dx=none->dx≠x->sp [.ref x,.str z] (upd (upd H dx<|.own x) x<|.ins C dx []) (λv H2=>v=.bE/\Q (.ref x) H2) E:=rfl
abbrev rf(k:Bool)(h:Heap)(i l:Addr)(n:Nat):Prop:=cond k (h.IsListIter i l n)<|h.IsTupleIter i l n
abbrev vy(k:Bool)(h:Heap)(l:Addr)(ys:Array Value):Prop:=cond k (h.IsList l ys)<|h.IsTuple l ys
abbrev eX(k:Bool)(K:Frag)(H:Hp)(l:Addr)(ys:List V):Prop:=cond k (aw K H l ys)<|aL K H l ys
theorem rf.at{k:Bool}{h h':Heap}{i l:Addr}{n:Nat}(t:rf k h i l n)(q:∀o,h.get? i=some o->h'.get? i=some o):rf k h' i l n:=by
 cases k
 ·exact Heap.IsTupleIter.at t q
 ·exact Heap.IsListIter.at t q
theorem vy.at{k:Bool}{h h':Heap}{l:Addr}{ys:k_}(t:vy k h l ys)(q:∀o,h.get? l=some o->h'.get? l=some o):vy k h' l ys:=by
 cases k
 ·exact Heap.IsTuple.at t q
 ·exact Heap.IsList.at t q
variable{i l:Addr}
def rf.ob{k:Bool}{h:Heap}(t:rf k h i l n):∃o m,h.get? i=some o/\o.cls=.type m/\"zip"≠m/\"tuple"≠m/\∃d,o.data=.fields d:=by
 cases k
 ·obtain⟨o,e,c,d⟩:=t;exact⟨o,_,e,c,a_,a_,_,d⟩
 ·obtain⟨o,e,c,d⟩:=t;exact⟨o,_,e,c,a_,a_,_,d⟩
variable{prog:Program}{A:Around}{E Q:c_}{ys:k_}
def VO{k:Bool}{y:Value}(t:rf k s.heap i l n)(p:vy k s.heap l ys)(e:ys[n]?=some y)
  (q:∀h',rf k h' i l (n+1)->h'.objs.size=s.heap.objs.size/\(∀c,c≠i->h'.get? c=s.heap.get? c)->Q y {s with heap:=h'}):wpAny (model prog w) A (Builtin.SmallTypes.nextOf<|.ref i) Q E s:=by
 cases k
 ·exact xa t p e λh' a b=>q h' a b
 ·exact wpAny_nextOf_list_item t p e λh' a b=>q h' a b
def Vs{k:Bool}(hA:A.handled=none)(t:rf k s.heap i l n)(p:vy k s.heap l ys)(e:ys[n]?=none)
  (q:∀h' e,ExtBut i s.heap h'->(∃o,h'.get? e=some o/\o.cls=.type "StopIteration")->E (.ref e) {s with heap:=h'}):wpAny (model prog w) A (Builtin.SmallTypes.nextOf<|.ref i) Q E s:=by
 cases k
 ·exact lC hA t p e q
 ·exact wpAny_nextOf_list_end hA t p e q
variable{j:Bool}{xs:k_}{z i1 i2:Addr}
def TU{k:Bool}{TI TO l1 l2:Addr}{a b:Value}(hA:A.handled=none)(D:ZipApart z TI TO i1 i2 l1 l2)(kz:IsZip s.heap z TI TO .none)(kI:IsPair s.heap TI (.ref i1) (.ref i2))(kO:IsPair s.heap TO a b)
  (t1:rf j s.heap i1 l1 n1) (t2:rf k s.heap i2 l2 n2) (p1:vy j s.heap l1 xs) (p2:vy k s.heap l2 ys)
  (q:∀x y h',xs[n1]?=some x->ys[n2]?=some y->IsZip h' z TI TO (rawInt s.heap.objs.size)->IsPair h' TO x y->rf j h' i1 l1 (n1+1)->rf k h' i2 l2 (n2+1)->IsPair h' s.heap.objs.size x y->
   (∀c o,c≠z->c≠TO->c≠i1->c≠i2->s.heap.get? c=some o->h'.get? c=some o)->Q (.ref s.heap.objs.size) {s with heap:=h'})
  (qe:∀h' e,xs[n1]?=none∨ys[n2]?=none->(∀c o,c≠z->c≠TO->c≠i1->c≠i2->s.heap.get? c=some o->h'.get? c=some o)->(∃o,h'.get? e=some o/\o.cls=.type "StopIteration")->E (.ref e) {s with heap:=h'}):
  wpAny (model prog w) A (Builtin.«zip.__next__» ⟨[.ref z],[]⟩) (λf s'=>∃v,f=.done (.ret v)/\Q v s') E s:=by
 refine cv (m:=field (.ref z) 2)<|Wp kz rfl (x:=.bool false) rfl<|cv (m:=field (.ref z) 3)<|Wp kz rfl (x:=.ref TI) rfl<|cv<|F2 kI rfl<|cv (m:=Builtin.SmallTypes.ownedTupleIsFree<|.ref z) ?_;unfold Builtin.SmallTypes.ownedTupleIsFree;refine cv<|Wp kz rfl (x:=.none) rfl<|ek ?_;simp only[if_true];refine cv (wpAny_rule (cv (Wp kz rfl (x:=.ref TO) rfl (cv (wpAny_setField_rec kz (by simp) λu1 z1 p=>?_)))))
 have z1:IsZip u1 z TI TO .ellipsis:=z1;refine cv ?_;simp only[List.zipIdx_cons,List.zipIdx_nil,forIn_cons,List.forIn_nil];have F:∀(i:Addr) (v u:Heap) (e:Addr),i=i1∨i=i2->xs[n1]?=none∨ys[n2]?=none->i≠z->IsZip v z TI TO .ellipsis->(∀c o,c≠z->c≠i1->c≠TO->s.heap.get? c=some o->v.get? c=some o)->ExtBut i v u->(∃o,u.get? e=some o/\o.cls=.type "StopIteration")->
   IsZip u z TI TO .ellipsis/\∀d,SameBut z u d->E (.ref e) {s with heap:=d}:=by
  intro i v u e hi hn iz zv kv l ⟨oe,ge,W⟩;have Z:u.get? z=some _:=l _ _ iz.symm zv;have ne:e≠z:=ik ge W Z rfl a_
  exact⟨Z,λd h=>qe d e hn (λc o g t c3 G x=>(h.2 c g).trans<|l c o (λq=>hi.elim (λr=>c3<|q.trans r) λr=>G<|q.trans r)<|kv c o g c3 t x) ⟨oe,(h.2 e ne).trans ge,W⟩⟩
 cases L:xs[n1]? with
 |none=>
  refine cv<|cv<|wpAny_onRaise<|cv (m:=Builtin.SmallTypes.nextOf<|.ref i1)<|Vs hA (t1.at λo e=>(p.2 _ D.i1z).trans e) (p1.at λo e=>(p.2 _ D.l1z).trans e) L λS e B he=>?_;have f:=F i1 u1 S e (.inl rfl) (.inl L) D.i1z z1 (λc o g _ _ e=>(p.2 c g).trans e) B he;exact wpAny_setField_rec f.1 (by simp) λd _ h=>f.2 d h
 |some x=>
 refine cv<|cv<|wpAny_onRaise<|cv (m:=Builtin.SmallTypes.nextOf<|.ref i1)<|VO (t1.at λo e=>(p.2 _ D.i1z).trans e) (p1.at λo e=>(p.2 _ D.l1z).trans e) L λS s1 B=>ek ?_;have o2:IsPair S TO a b:=(B.2 _ D.TOi1).trans<|(p.2 _ D.TOz).trans kO;refine cv<|F2 o2 rfl<|cv<|wpAny_updateSeq_pair o2 λI R K=>?_;have R:IsPair I TO x b:=R;have C:∀c o,c≠z->c≠i1->c≠TO->s.heap.get? c=some o->I.get? c=some o:=λc o g t c3 e=>(K.2 c c3).trans<|(B.2 c t).trans<|(p.2 c g).trans e;have z3:IsZip I z TI TO .ellipsis:=(K.2 _ D.TOz.symm).trans<|(B.2 _ D.i1z.symm).trans z1;refine cv<|wpAny_letGo<|ek ?_
 cases O:ys[n2]? with
 |none=>
  refine cv<|cv<|wpAny_onRaise<|cv (m:=Builtin.SmallTypes.nextOf<|.ref i2)<|Vs hA (t2.at λo e=>C _ o D.i2z D.i12.symm D.TOi2.symm e) (p2.at λo e=>C _ o D.l2z D.l2i1 D.l2TO e) O λT e l he=>?_;have f:=F i2 I T e (.inr rfl) (.inr O) D.i2z z3 C l he;exact wpAny_setField_rec f.1 (by simp) λd _ h=>f.2 d h
 |some y=>
 refine cv<|cv<|wpAny_onRaise<|cv (m:=Builtin.SmallTypes.nextOf<|.ref i2)<|VO (t2.at λo e=>C _ o D.i2z D.i12.symm D.TOi2.symm e) (p2.at λo e=>C _ o D.l2z D.l2i1 D.l2TO e) O λT s2 l=>ek ?_;have Y:IsPair T TO x b:=(l.2 _ D.TOi2).trans R;refine cv<|F2 Y rfl<|cv<|wpAny_updateSeq_pair Y λd M h=>?_;have M:IsPair d TO x y:=M;refine cv<|wpAny_letGo<|ek<|ek<|cv<|F2 M rfl<|cv<|wpAny_newTuple ?_;have U:d.objs.size=s.heap.objs.size:=by rw[h.1,l.1,K.1,B.1,p.1]
 have k5:∀c o,c≠z->c≠TO->c≠i1->c≠i2->s.heap.get? c=some o->d.get? c=some o:=λc o g t c3 G e=>(h.2 c t).trans<|(l.2 c G).trans<|C c o g c3 t e;have X:IsZip d z TI TO .ellipsis:=(h.2 _ D.TOz.symm).trans<|(l.2 _ D.i2z.symm).trans z3;have r1:rf j d i1 l1 (n1+1):=s1.at λo e=>(h.2 _ D.TOi1.symm).trans<|(l.2 _ D.i12).trans<|(K.2 _ D.TOi1.symm).trans e;have r2:rf k d i2 l2 (n2+1):=s2.at λo e=>(h.2 _ D.TOi2.symm).trans e;have lz:z<d.objs.size:=lt_size X;refine cv (m:=Builtin.SmallTypes.ownedTupleHandOut (.ref z)<|.ref d.objs.size) ?_;unfold Builtin.SmallTypes.ownedTupleHandOut;have z6:IsZip (d.push {cls:=.type "tuple",data:=.seq #[x,y]}) z TI TO .ellipsis:=ef _ X;refine cv (wpAny_setField_rec z6 (by simp) λu7 P b7=>?_)
 have P:IsZip u7 z TI TO (rawInt d.objs.size):=P;refine wpAny_setField_rec P (by simp) λH N b8=>?_
 have N:IsZip H z TI TO (rawInt d.objs.size):=N;have J:∀c o,c≠z->d.get? c=some o->H.get? c=some o:=λc o g e=>(b8.2 c g).trans<|(b7.2 c g).trans<|ef _ e;have new:IsPair H d.objs.size x y:=(b8.2 _<|Wx lz).trans<|(b7.2 _<|Wx lz).trans<|gz _ rfl;rw[U]at N new;refine ek ⟨_,rfl,(show ∀n:Nat,n=s.heap.objs.size->Q (.ref n) _ from λn en=>?_) d.objs.size U⟩
 subst en;exact q x y H L O N (J _ _ D.TOz M) (r1.at λo e=>J _ o D.i1z e) (r2.at λo e=>J _ o D.i2z e) new λc o g t c3 G e=>J c o g<|k5 c o g t c3 G e
noncomputable abbrev wx(k:Bool)(p:Addr):Obj:={cls:=.type<|cond k "list_iterator" "tuple_iterator",data:=.fields #[.ref p,.int 0 0]}
noncomputable def RI(j k:Bool)(h:Heap)(p1 p2:Addr):Heap:=(h.push<|wx j p1).push<|wx k p2
noncomputable def Vt(j k:Bool)(h:Heap)(p1 p2:Addr):Heap:=
 (((RI j k h p1 p2).push<|Fy (.ref h.objs.size)<|.ref (h.push<|wx j p1).objs.size).push<|Fy .none .none).push {cls:=.type "zip",data:=.fields #[.none,.bool false,.bool false,.ref (RI j k h p1 p2).objs.size,.ref ((RI j k h p1 p2).push<|Fy (.ref h.objs.size)<|.ref (h.push<|wx j p1).objs.size).objs.size]}
def TV{k:Bool}{p:Addr}(h:vy k s.heap p ys)(q:Q (.ref s.heap.objs.size) {s with heap:=s.heap.push (wx k p)}):wpAny (model prog w) A (pyIter<|.ref p) Q E s:=by
 cases k
 ·exact SZ h q
 ·exact L1 h q
theorem vy.push{k:Bool}{h:Heap}{p:Addr}{ys:k_}(t:vy k h p ys)(o:Obj):vy k (h.push o) p ys:=t.at λ_ e=>ef _ e
def Jg(j k:Bool)(p1 p2:Addr)(xs ys:k_):
  Meets (Builtin.«zip.__new__» ⟨[.type "zip",.ref p1,.ref p2],[]⟩) (λ_ R s=>vy j s.heap p1 xs/\vy k s.heap p2 ys/\R (.ok<|.ret<|.ref (((RI j k s.heap p1 p2).push<|Fy (.ref s.heap.objs.size)<|.ref (s.heap.push<|wx j p1).objs.size).push<|Fy .none .none).objs.size) {s with heap:=Vt j k s.heap p1 p2}):=
 .of_wp λb w A R s h=>by
  obtain⟨a,g,d,e,c⟩:=s;obtain⟨i,e2,h⟩:=h;have z:=sub_zip;have l:vy j (Shared.heap ⟨a,g,d,e,c⟩) p1 xs:=i;have f:vy k (Shared.heap ⟨a.push<|wx j p1,g,d,e,c⟩) p2 ys:=e2.push _
  wp_walk using TV l,TV f
  exact⟨_,rfl,h⟩
def En{k:Bool}{p1 p2:Addr}(e1:vy j s.heap p1 xs)(e2:vy k s.heap p2 ys)
  (q:∀h',IsZip h' (s.heap.objs.size+4) (s.heap.objs.size+2) (s.heap.objs.size+3) .none->IsPair h' (s.heap.objs.size+2) (.ref s.heap.objs.size) (.ref<|s.heap.objs.size+1)->IsPair h' (s.heap.objs.size+3) .none .none->
   rf j h' s.heap.objs.size p1 0->rf k h' (s.heap.objs.size+1) p2 0->(∀c o,s.heap.get? c=some o->h'.get? c=some o)->Q (.ref<|s.heap.objs.size+4) {s with heap:=h'}):
  wpAny (model prog w) A (call (.type "zip") [.ref p1,.ref p2]) Q E s:=by
 refine callType_new F.called_zip a_ (F.typeCall_zip_2 _ _) (F.newCall_zip_2 _ _) (λobj=>F.args_object_init_3 obj _ _) F.entry_zip_new (Jg j k p1 p2 xs ys) ⟨e1,e2,?_⟩
 generalize g:s.heap.push (wx j p1)=a;have r:a.objs.size=s.heap.objs.size+1:=by rw[<-g];exact C4 ..
 have D:a.get? s.heap.objs.size=some (wx j p1):=by rw[<-g];exact gz _ rfl
 have z:∀c o,s.heap.get? c=some o->a.get? c=some o:=λc o e=>by rw[<-g];exact ef _ e
 have hb:RI j k s.heap p1 p2=a.push (wx k p2):=by unfold RI;rw[g]
 have h:(a.push<|wx k p2).objs.size=s.heap.objs.size+2:=by rw[C4,r]
 have v:(a.push<|wx k p2).get? (s.heap.objs.size+1)=some (wx k p2):=by rw[<-r];exact gz _ rfl
 have i:∀c o,a.get? c=some o->(a.push<|wx k p2).get? c=some o:=λc o e=>ef _ e;have B:Vt j k s.heap p1 p2=(((a.push<|wx k p2).push<|Fy (.ref s.heap.objs.size)<|.ref a.objs.size).push<|Fy .none .none).push {cls:=.type "zip",data:=.fields #[.none,.bool false,.bool false,.ref (a.push<|wx k p2).objs.size,.ref ((a.push<|wx k p2).push<|Fy (.ref s.heap.objs.size)<|.ref a.objs.size).objs.size]}:=by
  unfold Vt;rw[hb,g]
 rw[B,hb];generalize a.push (wx k p2)=b at h v i;generalize hc:b.push (Fy (.ref s.heap.objs.size)<|.ref a.objs.size)=c;have n:c.objs.size=s.heap.objs.size+3:=by rw[<-hc,C4,h]
 have t:c.get? (s.heap.objs.size+2)=some (Fy (.ref s.heap.objs.size)<|.ref a.objs.size):=by rw[<-hc,<-h];exact gz _ rfl
 have p:∀x o,b.get? x=some o->c.get? x=some o:=λx o e=>by rw[<-hc];exact ef _ e
 generalize l:c.push (Fy .none .none)=d;have y:d.objs.size=s.heap.objs.size+4:=by rw[<-l,C4,n]
 have C:d.get? (s.heap.objs.size+3)=some (Fy .none .none):=by rw[<-l,<-n];exact gz _ rfl
 have kd:∀x o,c.get? x=some o->d.get? x=some o:=λx o e=>by rw[<-l];exact ef _ e
 have f:∀x o u,d.get? x=some o->(d.push u).get? x=some o:=λx o u e=>ef _ e;rw[r]at t;rw[h,n];have m:=gz d (o:={cls:=.type "zip",data:=.fields #[.none,.bool false,.bool false,.ref<|s.heap.objs.size+2,.ref<|s.heap.objs.size+3]}) rfl;rw[y]at m;show _/\_;rw[y];exact⟨⟨_,m,rfl⟩,q _ m (f _ _ _<|kd _ _ t) (f _ _ _ C) (by cases j<;>exact⟨_,f _ _ _<|kd _ _<|p _ _<|i _ _ D,rfl,rfl⟩) (by cases k<;>exact⟨_,f _ _ _<|kd _ _<|p _ _ v,rfl,rfl⟩) λx o e=>f _ _ _<|kd _ _<|p _ _<|i _ _<|z _ _ e⟩
noncomputable def RJ(j k:Bool)(K:Frag)(a b:Addr):It:=
 ⟨λi H=>∃xs ys x y,eX j K H a xs/\eX k K H b ys/\xs[i]?=some x/\ys[i]?=some y,λi H v c=>∃p x y,H p=none/\v=.ref p/\c=upd H p (.tup [x,y])/\∀xs ys,eX j K H a xs->eX k K H b ys->xs[i]?=some x/\ys[i]?=some y,λi H=>∃xs ys,eX j K H a xs/\eX k K H b ys/\(xs.length<=i∨ys.length<=i)⟩
structure TX(j k:Bool)(z TI TO i1 i2 a b:Addr)(i:Nat)(h:Heap):Prop where
 zz:IsZip h z TI TO .none
 ti:IsPair h TI (.ref i1) (.ref i2)
 to:∃u v,IsPair h TO u v
 t1:rf j h i1 a i
 t2:rf k h i2 b i
variable{w_:aO0}{xs:u_}{k:Bool}
def eX.ar(I:Inv X w_ σ H s)(h:eX k X.K H a xs):∃its,Vals xs its/\vy k s.heap a its.toArray:=by
 cases k
 ·obtain⟨its,r,p,_⟩:=I.tuple h;exact⟨its,r,show s.heap.IsTuple a its.toArray from p⟩
 ·obtain⟨its,r,p,_⟩:=I.list h;exact⟨its,r,p.isList⟩
variable{ys:u_}
def eX.inj(I:Inv X w_ σ H s)(h:eX k X.K H a xs)(h':eX k X.K H a ys):xs=ys:=by
 cases k
 ·exact I.rZ h h'
 ·exact I.wC h h'
variable{b:Addr}
def gK(I:Inv X w_ σ H s)(h:eX k X.K H a xs)(f:k7 X w_ H b):a≠b:=λz=>by
 subst z
 cases k
 all_goals
  rcases h with (h|⟨o,h⟩)|⟨o,c,n,hk,_⟩
  ·rw[f.1]at h;cases h
  ·rw[f.1]at h;cases h
  ·have e:=I.mod.RM a o hk
   rcases f.2.2.2.1 with z|z
   ·exact I.ok.Fc a o e z
   ·exact absurd (g4 (lt_size (I.ok.bs a o e).1) z)<|Df _
variable{TI TO:Addr}{i:Nat}
def TX.apart(I:Inv X w_ σ H s)(hTT:TI≠TO)(hii:i1≠i2)(st:TX j k z TI TO i1 i2 a b i s.heap)(ha:eX j X.K H a xs)(hb:eX k X.K H b ys)
  (f:∀c∈[z,TI,TO,i1,i2],k7 X w_ H c):ZipApart z TI TO i1 i2 a b:=by
 obtain⟨d,e,⟨u,v,to⟩,x,w⟩:=st;obtain⟨A,D,h,g,y,m,_⟩:=x.ob;obtain⟨B,C,e2,l,t,n,_⟩:=w.ob;have p:=f z (by simp)
 have o:=f TO (by simp)
 have r:=f i1 (by simp)
 have q:=f i2 (by simp)
 exact⟨ik e rfl d rfl a_,ik to rfl d rfl a_,ik h g d rfl y.symm,ik e2 l d rfl t.symm,hTT,ik e rfl h g m,ik e rfl e2 l n,ik to rfl h g m,ik to rfl e2 l n,hii,
  gK I ha p,gK I ha o,gK I ha r,gK I ha q,gK I hb p,gK I hb o,gK I hb r,gK I hb q⟩
def TX.obj{h:Heap}(st:TX j k z TI TO i1 i2 a b i h)(c:Addr)(hc:c∈[z,TI,TO,i1,i2]):∃o,h.get? c=some o/\∀v,o.data≠.cell v:=by
 obtain⟨d,e,⟨u,v,to⟩,g,m⟩:=st;obtain⟨p,_,l,_,_,_,_,n⟩:=g.ob;obtain⟨r,_,e2,_,_,_,_,f⟩:=m.ob;simp only[mem_cons,not_mem_nil,or_false]at hc
 rcases hc with rfl|rfl|rfl|rfl|rfl
 ·exact⟨_,d,λv q=>by cases q⟩
 ·exact⟨_,e,λv q=>by cases q⟩
 ·exact⟨_,to,λv q=>by cases q⟩
 ·exact⟨_,l,λv q=>by rw[n]at q;cases q⟩
 ·exact⟨_,e2,λv q=>by rw[f]at q;cases q⟩
variable{x1:Nat}
theorem Eo{k:Bool}{elts:i_}{pos:Pos}(z TI TO i1 i2 a b:Addr)(hTT:TI≠TO)(hii:i1≠i2):Turn P w K (.Tuple elts x1 pos) (RJ j k K a b) [z,TI,TO,i1,i2] z (TX j k z TI TO i1 i2 a b) where
 mem:=by simp
 obj:=λ_ _ m=>m.obj
 keep:=λi h h' m k=>by
  obtain⟨r,C,⟨u,v,to⟩,O,N⟩:=m;exact⟨k z (by simp) _ r,k TI (by simp) _ C,⟨u,v,k TO (by simp) _ to⟩,O.at λo q=>k i1 (by simp) o q,N.at λo q=>k i2 (by simp) o q⟩
 item:=by
  intro X R hw Y hc i L s σ H E I B m S;subst R hw Y;obtain⟨xs,ys,x,y,hq,l,hx,hy⟩:=S;obtain⟨t,Z,p⟩:=eX.ar I hq;obtain⟨f,A,W⟩:=eX.ar I l;obtain⟨u,hu,ru⟩:=Z.get hx;obtain⟨v,hv,Q⟩:=A.get hy;have eu:t.toArray[i]?=some u:=by simpa using hu
  have ev:f.toArray[i]?=some v:=by simpa using hv
  have no:t.toArray[i]?=none∨f.toArray[i]?=none->False:=λhn=>by
   rw[eu,ev]at hn
   rcases hn with hn|hn<;>cases hn
  have D:=m.apart I hTT hii hq l B;have ob:=m.obj;obtain⟨r,C,⟨c,d,to⟩,O,N⟩:=m;have J:s.TypeIs (.ref z) "zip":=⟨_,r,rfl⟩;unfold pyNext;refine cv (wpAny_attempt (L9 (name:=("__next__":Str)) J F.slot_zip_next (D2 F.slot_zip_next J F.entry_zip_next
   (TU (by simpa using I.ok.hd hc) D r C to O N p W (λx' y' h1 gx gy z1 U r1 r2 new k1=>ek ?_) λ_ _ hn=>(no hn).elim) (F.args_zip_next_1 _))))
  rw[eu]at gx;cases gx
  rw[ev]at gy;cases gy
  refine⟨_,rfl,wpAny_letOwnedTupleGo_zip z1 λn z2 G=>?_⟩;have lz:z<s.heap.objs.size:=lt_size r;have M:∀c o,c≠z->c≠TO->c≠i1->c≠i2->s.heap.get? c=some o->n.get? c=some o:=λc o a1 a2 a3 a4 e=>(G.2 c a1).trans<|k1 c o a1 a2 a3 a4 e;refine⟨.ref s.heap.objs.size,upd H s.heap.objs.size<|.tup [x,y],I.sT (ch:=[z,TI,TO,i1,i2]) (λc o hc q=>?_) B (dy _) (show bG X.prog X.w _ n _ (.tup _)from⟨by show 2<=sizeLine;decide,[u,v],.cons ru<|.cons Q .nil,?_⟩),rfl,⟨_,x,y,I.fresh,rfl,rfl,λxs' ys' h1 n=>by rw[eX.inj I h1 hq,eX.inj I n l];exact⟨hx,hy⟩⟩,⟨z2,?_,⟨u,v,?_⟩,?_,?_⟩,λc hc=>?_⟩
  ·simp only[mem_cons,not_mem_nil,or_false,not_or]at hc;exact M c o hc.1 hc.2.2.1 hc.2.2.2.1 hc.2.2.2.2 q
  ·exact⟨_,(G.2 _<|Wx lz).trans new,rfl,_,rfl⟩
  ·exact M _ _ D.TIz hTT D.TIi1 D.TIi2 C
  ·exact(G.2 _ D.TOz).trans U
  ·exact r1.at λo q=>(G.2 _ D.i1z).trans q
  ·exact r2.at λo q=>(G.2 _ D.i2z).trans q
  ·obtain⟨o,e,_⟩:=ob c hc;rw[aC (j9<|lt_size e)];exact(B c hc).1
 done:=by
  intro X R hw Y hc i L s σ H E I B m S;subst R hw Y;obtain⟨xs,ys,hq,l,hx⟩:=S;obtain⟨t,Z,p⟩:=eX.ar I hq;obtain⟨f,A,W⟩:=eX.ar I l;have hl:=Z.length;have hl2:=A.length;have D:=m.apart I hTT hii hq l B;obtain⟨r,C,⟨c,d,to⟩,O,N⟩:=m;have J:s.TypeIs (.ref z) "zip":=⟨_,r,rfl⟩;have no:∀x y,t.toArray[i]?=some x->f.toArray[i]?=some y->False:=λx y h1 n=>by
   have h1:=(Array.getElem?_eq_some_iff.mp h1).1;have n:=(Array.getElem?_eq_some_iff.mp n).1
   simp at h1 n
   omega
  unfold pyNext;refine cv (wpAny_attempt (L9 (name:=("__next__":Str)) J F.slot_zip_next (D2 F.slot_zip_next J F.entry_zip_next
   (TU (by simpa using I.ok.hd hc) D r C to O N p W (λx y _ h1 n _ _ _ _ _ _=>(no x y h1 n).elim) λh' e _ k he=>?_) (F.args_zip_next_1 _))))
  obtain⟨o,g,ce⟩:=he;refine cv<|wpAny_isInstance (T:="StopIteration") (b:=true) ⟨o,g,ce⟩ isSubtype_stop<|ek ⟨rfl,I.LO (t':=s.toks) (ch:=[z,TI,TO,i1,i2]) (λc o hc q=>?_) B⟩;simp only[mem_cons,not_mem_nil,or_false,not_or]at hc;exact k c o hc.1 hc.2.2.1 hc.2.2.2.1 hc.2.2.2.2 q
 self:=λ_ _ _ _ _ m h=>wpAny_pyIter_zip m.zz h
end L2
namespace L2
open PySem PySem.Spec PyProof.Rows
def VP(j k:Bool)(K:Frag)(ta:TA):TI:=λσ H R=>ta σ H λc H1=>∃a b,c=[.ref a,.ref b]/\(∃xs,eX j K H1 a xs)/\(∃ys,eX k K H1 b ys)/\R (RJ j k K a b) H1
variable{X:Cx}{N W G:f_}{K:Frag}{e f:Expr}{t:TA}{p pos tpos:Pos}{elts:i_}{x1:Nat}
def UP(j k:Bool)(S:Sc X N W G)(g:Nat)(hm:X.mg "zip"=none)(hK:X.K=K)(ha:QB X [e,f] t)(hg:G[g]?=some "zip":=by rfl):QI X (.Tuple elts x1 tpos) (.Call (.Name "zip" p) [e,f] [] pos) (VP j k K t):=by
 subst hK;refine⟨λl s σ H R I h=>?_⟩;have ha:=ha.h;have q:=S.gl _<|ih hg;have x:GO f=true:=by have:=ha.GP;rw[WB,gc]at this;exact this.1
 refine Call_ (lY I q.1 hm boot_zip (F1 (bP (ha.pa pos l s σ H _ I h) λU o ⟨vs,H1,i,A,B⟩=>?_) (by rw[bf ha.he,bf x]) (by rw[bf x];rfl)))
 obtain⟨a,b,rfl,⟨xs,hq⟩,⟨Z,r⟩,q⟩:=B;obtain⟨u,v,rfl,C,Q⟩:=A.two
 cases C
 cases Q
 obtain⟨P,T,O⟩:=eX.ar i hq;obtain⟨w,L,m⟩:=eX.ar i r;refine En O m λY y J D M E F=>wpAny_pyIter_zip y ?_;generalize hn:o.heap.objs.size=n at *;refine⟨n+4,[n+4,n+2,n+3,n,n+1],_,_,H1,rfl,i.kept (t':=o.toks) F,Eo _ _ _ _ _ a b (λz=>by have z:n+2=n+3:=z;omega) (λz=>by have z:n=n+1:=z;omega),⟨y,J,⟨_,_,D⟩,M,E⟩,λc hc=>?_,q⟩
 have d:o.heap.objs.size<=c:=by
  simp only[mem_cons,not_mem_nil,or_false]at hc;rw[hn]
  rcases hc with rfl|rfl|rfl|rfl|rfl
  all_goals first|exact dy _|exact Nat.le_add_right _ _
 exact i.yX d<|i.bq.fresh d
variable{ta:TA}
def OI{j k:Bool}{σ:St}{H:Hp}{R:It->r_}:VP j k K ta σ H R=ta σ H λvs H1=>∃a b,vs=[.ref a,.ref b]/\(∃xs,eX j K H1 a xs)/\(∃ys,eX k K H1 b ys)/\R (RJ j k K a b) H1:=rfl
def eX.mono{k:Bool}{H H':Hp}{l:Addr}{ys:u_}(h:eX k K H l ys)(s:ag H H'):eX k K H' l ys:=by
 cases k
 ·exact s.aP h
 ·exact s.seq h
variable{j k:Bool}{a b:Addr}{te:TE}{Q:VK}{H1:Hp}{vs us:u_}{rest:St}
def TY(n:Nat)(val:Nat->V)(h:eX j K H1 a us)(h':eX k K H1 b vs)(hu:n<=us.length)(hv:n<=vs.length)(hl:us.length<=n∨vs.length<=n)(hn:n<sizeLine)
  (step:∀i H (A:q_),i<n->ag H1 H->(∀H',ag H H'->A (val i) H')->te (some (us.getD i .bE)::some (vs.getD i .bE)::rest) H A)
  (fin:∀B_ H,H1 B_=none->ag H1 H->H B_=some (.lst<|(List.range n).map val)->Q (.ref B_) H):
  ∃c d,[V.ref a,V.ref b]=[.ref c,.ref d]/\(∃xs,eX j K H1 c xs)/\(∃ys,eX k K H1 d ys)/\sN (qI K 2<|dX (bF 0)<|dX (bF 1) qH) gZ te (none::none::rest) Q (RJ j k K c d) H1:=by
 refine⟨a,b,rfl,⟨_,h⟩,⟨_,h'⟩,λB_ f=>?_⟩;refine⟨λi m τ H=>m=n-i/\i<=n/\(∃y z,τ=y::z::rest)/\ag H1 H/\H B_=some (.lst<|(List.range i).map val),⟨n,by simp,zero_le _,⟨_,_,rfl⟩,ag.new f _,af⟩,?_⟩
 rintro i m τ H ⟨rfl,hi,⟨y,z,rfl⟩,l,G⟩;have s:=h.mono l;have r:=h'.mono l
 by_cases g:i<n
 ·have F:∀q:u_,n<=q.length->q[i]?=some (q.getD i .bE):=λq P=>by
   rw[b3,b4<|g4 g P];rfl
  have J:=F us hu;have L:=F vs hv;refine .inr ⟨⟨_,_,_,_,s,r,J,L⟩,λI H'=>(∃y z,I=y::z::rest)/\ag H1 H'/\H' B_=some (.lst<|(List.range<|i+1).map val),λI H' ⟨u,v,w⟩=>⟨n-(i+1),by omega,rfl,g,u,v,w⟩,λx H' y=>?_⟩
  obtain⟨p,N,O,M,rfl,rfl,D⟩:=y;obtain⟨t,C⟩:=D _ _ s r;have t:N=us.getD i .bE:=o6<|t.symm.trans J;have C:O=vs.getD i .bE:=o6<|C.symm.trans L;subst t C;have B:=ag.new M<|.tup [us.getD i .bE,vs.getD i .bE];refine⟨p,_,rfl,aL.of af,rfl,_,_,rfl,_,_,rfl,rfl,?_⟩;simp only[gA,wY,j4,set_cons_zero,set_cons_succ];refine step i _ _ g (l.trans B) λR o=>?_;have E:=o _ _<|B _ _ G;refine⟨_,E,?_,⟨_,_,rfl⟩,((l.trans B).trans o).set f _,?_⟩
  ·rw[b5,h7];omega
  ·rw[af,u5,hU];rfl
 ·have e:i=n:=by omega
  subst e;exact .inl ⟨⟨_,_,s,r,hl⟩,fin B_ H f l G⟩
def Vu(val:Nat->V)(h:eX j K H1 a us)(h':eX k K H1 b vs)(hl:us.length=vs.length)(hn:us.length<sizeLine)
  (step:∀i H (A:q_),i<us.length->ag H1 H->(∀H',ag H H'->A (val i) H')->te (some (us.getD i .bE)::some (vs.getD i .bE)::rest) H A)
  (fin:∀B_ H,H1 B_=none->ag H1 H->H B_=some (.lst<|(List.range us.length).map val)->Q (.ref B_) H):
  ∃c d,[V.ref a,V.ref b]=[.ref c,.ref d]/\(∃xs,eX j K H1 c xs)/\(∃ys,eX k K H1 d ys)/\sN (qI K 2<|dX (bF 0)<|dX (bF 1) qH) gZ te (none::none::rest) Q (RJ j k K c d) H1:=
 TY us.length val h h' (dy _) (Nat.le_of_eq hl) (.inl<|dy _) hn step fin
def Q2{ns ms:e_}(n:Nat)(val:Nat->V)(h:aL K H1 a (ns.map V.int))(h':aL K H1 b (ms.map V.int))(hu:n<=ns.length)(hv:n<=ms.length)(hl:ns.length<=n∨ms.length<=n)(hn:n<sizeLine)
  (step:∀i H (A:q_),i<n->ag H1 H->(∀H',ag H H'->A (val i) H')->te (some (.int<|ns.getD i 0)::some (.int<|ms.getD i 0)::rest) H A)
  (fin:∀B_ H,H1 B_=none->ag H1 H->H B_=some (.lst<|(List.range n).map val)->Q (.ref B_) H):
  ∃c d,[V.ref a,V.ref b]=[.ref c,.ref d]/\(∃xs,eX false K H1 c xs)/\(∃ys,eX false K H1 d ys)/\sN (qI K 2<|dX (bF 0)<|dX (bF 1) qH) gZ te (none::none::rest) Q (RJ false false K c d) H1:=by
 have f:∀(e:e_) i,i<e.length->(e.map V.int).getD i .bE=.int (e.getD i 0):=λe i hi=>by
  rw[b3,b3,ed,b4 hi];rfl
 refine TY (j:=false) (k:=false) n val h h' (by rw[b5];exact hu) (by rw[b5];exact hv) (by rw[b5,b5];exact hl) hn (λi H A hi g q=>?_) fin
 rw[f ns i (by omega),f ms i (by omega)]
 exact step i H A hi g q
theorem nO:∀ {vs:f'} {ns:f_},Vals (ns.map V.str) vs->∀i,i<ns.length->∃u,vs[i]?=some (.str (ns.getD i bo) u)
 |_,[],.nil,i,h=>absurd h<|sU i
 |_,_::_,.cons ⟨t,rfl⟩ _,0,_=>⟨t,rfl⟩
 |_,_::_,.cons ⟨t,rfl⟩ r,i+1,h=>by
  obtain⟨u,e⟩:=nO r i (by simpa using h)
  exact⟨u,by simpa using e⟩
variable{prog:Program}{w:World}{A:Around}{E:c_}{s:Shared}{p:Addr}
def lK{vs:f'}{ns:f_}{k:Str}{t:Tok}{Q:c_}(hp:s.heap.IsTuple p vs.toArray)(hi:Vals (ns.map V.str) vs)(hk:k∈ns)(q:∀tk,Q (.int (ns.idxOf k:Nat) tk) {s with toks:=s.toks+1}):
  wpAny (model prog w) A (call (.builtin "tuple.index") [.ref p,.str k t]) Q E s:=by
 obtain⟨o,r,B,n,v⟩:=id hp;refine D2 slot_tuple_index hp.typeIs F.entry_tuple_index ?_ (F.args_tuple_index_2 _ _);unfold Builtin.«tuple.index»;refine cv (wpAny_of_eq (a:=(Value.ref p,[Value.str k t])) rfl ?_)
 dsimp only
 have d:=hi.length;rw[b5]at d;have c:ns.idxOf k<ns.length:=BB.mpr hk;have e9:=nO hi;unfold Builtin.Tuple.tupleItemsOf;refine cv<|cv<|F2 r v<|ek<|cv<|ek<|cv<|ek<|cv ?_;rw[Std.Legacy.Range.forIn_eq_forIn_range'];have b:∀(m i:Nat) (R:Option Fin × Unit->Shared->Prop),i+m=vs.length->i<=ns.idxOf k->R (some<|.done<|.ret<|.int (ns.idxOf k:Nat) s.toks,()) {s with toks:=s.toks+1}->
   wpAny (model prog w) A.in1 (forIn (List.range' i m) ((none,()):Option Fin × Unit) λ(i:Nat) __s=>
    match vs.toArray[i]? with
    |some y=>do
     let __do_lift<-eqBool y (Value.str k t)
     if __do_lift=true then do
       let __do_lift<-retInt ((i:Nat):Int)
       pure (ForInStep.done (some __do_lift,()))
      else pure (ForInStep.yield (none,()))
    |x=>pure<|ForInStep.yield (none,())) R E s:=by
  intro m
  induction m with
  |zero=>intro i R h1 l _;omega
  |succ m z=>
   intro i R h1 l j;obtain⟨u,hu⟩:=e9 i (by omega)
   rw[List.range'_succ,forIn_cons];have f:vs.toArray[i]?=some (.str (ns.getD i bo) u):=by simpa using hu
   simp only[f];refine cv<|cv<|wpAny_eqBool_str ?_
   by_cases e:i=ns.idxOf k
   ·have h:decide (ns.getD i bo=k)=true:=by
     rw[e,b3,b4 c];show decide (ns[ns.idxOf k]=k)=true;rw[Re c];exact cc rfl
    rw[h,if_pos rfl];unfold retInt;refine cv<|cv<|wpAny_mkInt<|ek<|ek<|ek ?_;rw[e];exact j
   ·have h:decide (ns.getD i bo=k)=false:=by
     rw[b3,b4 (by omega)]
     show decide (ns[i]=k)=false
     have:=Cu (show i<ns.idxOf k by omega) (by omega)
     exact dt (by simpa using this)
    rw[h,if_neg a_]
    exact ek (z (i+1) R (by omega) (by omega) j)
 have g:(([: min vs.toArray.size vs.toArray.size]:Std.Legacy.Range)).size=vs.length:=by simp[Std.Legacy.Range.size]
 rw[g];exact b vs.length 0 _ (by omega) (zero_le _)<|ek ⟨_,rfl,q _⟩
def Jh(K:Frag):V->u_->Hp->VK->Prop:=λx a H Q=>∃(l:Addr) (ns:f_) (k:Str),x=.ref l/\a=[.str k]/\aL K H l (ns.map V.str)/\k∈ns/\Q (.int (ns.idxOf k:Nat)) H
def AE(hK:X.K=K):yR X "tuple.index" (Jh K):=by
 subst hK;intro a s σ H x n v m Q I g c h;obtain⟨l,i,k,rfl,rfl,f,hk,q⟩:=h
 cases g
 obtain⟨u,rfl,d⟩:=c.one;obtain⟨t,rfl⟩:=d;obtain⟨b,r,e,hz⟩:=I.tuple f;exact lK (show s.heap.IsTuple l b.toArray from e) r hk (Q:=EP X a σ Q) λj=>⟨.int _,H,I.tok _,⟨_,rfl⟩,q⟩
def Ji:u_->Hp->VK->Prop:=λb H Q=>∃a C_,b=[.ref a]/\H a=some (.dK C_)/\∀l o,H l=none->o.cls=.type "tuple"->o.dict=none->Q (.ref l) (upd H l<|.kZ o<|.tup<|C_.map λp=>kV p.1)
def AF(hc:X.calm=true):b6 X (.type "tuple") Ji:=by
 intro d s σ H D B Q I r h;obtain⟨a,f,rfl,e,q⟩:=h;obtain⟨u,rfl,y⟩:=vals1 r
 cases y
 obtain⟨z,n,C,i,m⟩:=NK I.bq e;obtain⟨A,m⟩:=Eb m;refine nT n (I.ok.hd hc) m (by rw[<-i.length];exact z) λl j c hk g=>?_
 have t:Inv X d σ H {s with heap:=l,toks:=j}:=I.kept (t':=j) hk;have v:Vals (f.map λp=>kV p.1) c.toList:=Ec i g;have x:Inv X d σ (upd H l.objs.size<|.kZ {cls:=.type "tuple",data:=.seq c}<|.tup<|f.map λp=>kV p.1) {s with heap:=l.push {cls:=.type "tuple",data:=.seq c},toks:=j}:=
  t.laid (t':=j) (λb o e=>ef _ e) (dy _) (show bG X.prog X.w _ _ _ (.kZ _<|.tup _)from⟨gz _ rfl,by rw[b5];exact z,c.toList,v,IsTup.new _ _⟩)
 exact⟨.ref l.objs.size,_,x,rfl,q _ _ (t.bq.fresh<|dy _) rfl rfl⟩
def MH(K:Frag)(H:Hp)(t:Addr)(b:Bk):Prop:=∃a1 a2 a3,aL K H t [.ref a1,.ref a2,.ref a3]/\aL K H a1 (b.ns.map V.str)/\u6 K H a1/\aL K H a2 ((au b.cs).map V.int)/\aL K H a3 ((au b.ws).map V.int)
variable{H H':Hp}{t:Addr}{b:Bk}
theorem MH.mono(s:ag H H')(h:MH K H t b):MH K H' t b:=by
 obtain⟨f,c,a,e,h1,d,g,i⟩:=h;exact⟨f,c,a,s.aP e,s.aP h1,d.mono s,s.aP g,s.aP i⟩
variable{C dx:Addr}{fs:t_}
theorem MH.dS(s:Off a H H')(ha:H a=some (.ins C dx fs))(h:MH K H t b):MH K H' t b:=by
 obtain⟨g,d,c,f,h1,e,i,j⟩:=h;exact⟨g,d,c,f.dS s ha,h1.dS s ha,e.dS s ha,i.dS s ha,j.dS s ha⟩
def Ep{d:Addr}{ns:f_}(h:DN H d ns)(q:∀l o,H l=none->o.cls=.type "tuple"->o.dict=none->Q (.ref l) (upd H l<|.kZ o<|.tup<|ns.map V.str)):Ji [.ref d] H Q:=⟨d,_,rfl,h,by rw[xE];exact q⟩
end L2
namespace L2
open PySem PySem.Spec PyProof.Rows
inductive vz(K:Frag)(vs:u_)(H:Hp)(Q:VK)(E:XK):Prop
 |mk (L:List Ln) (b:Bk):vs=[.str (lI L)]->((∀x∈L,ky x))->L.length<=100->(dF ⟨[],[],[]⟩ L=some b)->(∀t H',ag H H'->MH K H' t b->Q (.ref t) H')->vz K vs H Q E
noncomputable def MI(b h:Addr):t_:=[("book",.ref b),("hall",.ref h)]
noncomputable def xV(b:Addr):t_:=[("book",.ref b)]
variable{b:Addr}
def MJ:dJ "book" (.ref b) []=xV b:=rfl
variable{h:Addr}
def MK:dJ "hall" (.ref h) (xV b)=MI b h:=by
 unfold xV dJ;rw[if_neg a_];rfl
def xW:(xV b).lookup ("book":Str)=some (.ref b):=rfl
def CI:(MI b h).lookup ("book":Str)=some (.ref b):=rfl
def oF:(MI b h).lookup ("hall":Str)=some (.ref h):=by
 unfold MI;rw[KB,show(("hall":Str)==("book":Str))=false from by decide];rfl
def pY{m:Str}(h1:(m==("book":Str))=false:=by decide)(h2:(m==("hall":Str))=false:=by decide):(MI b h).lookup m=none:=by
 unfold MI;rw[KB,h1];dsimp only;rw[KB,h2];rfl
structure bZ(K:Frag)(cH cD:Addr)(H:Hp)(d hl:Addr)(ns:f_)(cs ws:d_)(L:B0L)(hs:e_):Prop where
 ex:∃dx b,H d=some (.ins cD dx<|MI b hl)/\MH K H b ⟨ns,cs,ws⟩
 di:∃c g us,cW K cH H hl c g (au cs) us hs/\GF K H us L
structure bD(ns:f_)(cs ws:d_)(L:B0L)(hs:e_):Prop where
 Br:iU ns cs ws
 best:iy (au cs) ws (2 ^ (au cs).length-1) ((L.map<|iT<|au cs).sum,L)
 f7:HN (au cs) hs (au cs).length
def cW.Vv{K:Frag}{C C' a c g x dx:Addr}{H H':Hp}{cs hs:e_}{us:u_}{fs:t_}(h:cW K C H a c g cs us hs)(s:Off x H H')(hx:H x=some (.ins C' dx fs))(ne:a≠x):cW K C H' a c g cs us hs:=by
 obtain⟨d,n,h1,b⟩:=h.ex;exact⟨⟨d,n,s _ _ ne h1,b.dS s hx⟩,h.RN.dS s hx,h.UE.dS s hx⟩
variable{K:Frag}{cH cD d hl dx:Addr}{H H':Hp}{ns:f_}{cs ws:d_}{L:B0L}{hs:e_}
theorem bZ.mono(h:bZ K cH cD H d hl ns cs ws L hs)(s:ag H H'):bZ K cH cD H' d hl ns cs ws L hs:=by
 obtain⟨⟨j,b,h1,e⟩,c,g,f,i,a⟩:=h;exact⟨⟨j,b,s _ _ h1,e.mono s⟩,c,g,f,i.mono s,a.mono s⟩
def bZ.ne(h:bZ K cH cD H d hl ns cs ws L hs):d≠hl:=λe=>by
 obtain⟨⟨l,b,h1,_⟩,c,g,j,i,_⟩:=h;obtain⟨f,n,a,_⟩:=i.ex;rw[e,a]at h1
 injection h1 with h1
 injection h1 with _ _ h1
 have:=BA List.length h1
 cases this
noncomputable def cX(i:Int):Str:=Str.ofString<|toString i
noncomputable def pZ(ns:f_)(l:d_):Str:=Str.join ⟨#[32]⟩<|l.map λi=>ns.getD i bo
noncomputable def dI(ns:f_)(l:d_):f_:=if l=[]then[]else[pZ ns l]
noncomputable def kE(cs:e_):Str:=cX (Oe cs)++("/":Str)++cX (Kv cs)
inductive TK where
 |sure|share|groups|ring|order|book
noncomputable def qF:TK->Str
 |.sure=>"sure"
 |.share=>"share"
 |.groups=>"groups"
 |.ring=>"ring"
 |.order=>"order"
 |.book=>"book"
inductive AK where
 |told (k:TK)
 |right
 |fD (i:Nat)
 |put (i c:Nat)
noncomputable def jZ(ns:f_):AK->List Str
 |.told k=>[qF k]
 |.right=>["right"]
 |.fD i=>["guess",ns.getD i bo]
 |.put i c=>["put",ns.getD i bo,jX c]
def Jj(ns:f_):AK->Prop
 |.told _=>True
 |.right=>True
 |.fD i=>i<ns.length
 |.put i c=>i<ns.length/\c<10 ^ 30
noncomputable def tM(p z:Str):Bool:=if p="name" then bI z else decide (z="0")||dA z
def Jk:Sp:=λa H Q _=>∃p z:Str,a=[.str p,.str z]/\z.length<=1000000/\∀H',ag H H'->Q (.bl<|tM p z) H'
end L2
namespace L2
open PySem PySem.Spec PyProof.Rows
inductive vA(K:Frag)(e:Nat->Addr)(vs:u_)(H:Hp)(Q:VK)(E:XK):Prop
 |mk (p x:Addr) (w0:Str) (f b:f_):vs=[.ref p]->aw K H p ((w0::b).map V.str)->cZ (pX e) (.inr w0)=some (.ref x)->aL K H x (f.map V.str)->b.length=f.length->b.length<=8->((∀z∈b,z.length<=1000000))->((∀k,k<f.length->tM (f.getD k bo) (b.getD k bo)=true))->((∀H':Hp,aL K H' x<|f.map V.str))->(∀H',ag H H'->Q (.bl true) H')->vA K e vs H Q E
inductive OJ(K:Frag)(er:Str->Addr)(vs:u_)(H:Hp)(Q:VK)(E:XK):Prop
 |mk (p:Addr) (ns:f_) (z:Str):(vs=[.ref p,.str z])->aL K H p (ns.map V.str)->u6 K H p->((z∉ns->∀H',ag H H'->E (.ref<|er "NoName") none H'))->((z∈ns->∀H',ag H H'->Q (.int (ns.idxOf z:Nat)) H'))->OJ K er vs H Q E
structure cB(ns:f_)(l:d_):Prop where
 nm:∀x∈ns,x.length<=12
 lt:∀i∈l,i<ns.length
 fJ:l.length<=8
inductive p0(K:Frag)(vs:u_)(H:Hp)(Q:VK)(E:XK):Prop
 |mk (p:Addr) (ns:f_) (v:V) (l:d_):(vs=[.ref p,v])->aL K H p (ns.map V.str)->(((v=.bE/\l=[])∨∃q,v=.ref q/\aL K H q ((au l).map V.int)))->cB ns l->(∀a H',ag H H'->H a=none->H' a=some (.lst<|(dI ns l).map V.str)->Q (.ref a) H')->p0 K vs H Q E
inductive p4(K:Frag)(vs:u_)(H:Hp)(Q:VK)(E:XK):Prop
 |mk (p q:Addr) (ns:f_) (l:d_):(vs=[.ref p,.ref q])->aL K H p (ns.map V.str)->aw K H q ((au l).map V.int)->cB ns l->(∀a H',ag H H'->H a=none->H' a=some (.lst<|(dI ns l).map V.str)->Q (.ref a) H')->p4 K vs H Q E
def Jl(K:Frag):Sp:=λa H Q _=>∃(p:Addr) (cs:e_),a=[.ref p]/\aL K H p (cs.map V.int)/\cj cs/\∀H',ag H H'->Q (.str<|kE cs) H'
inductive oI(K:Frag)(cH cD:Addr)(vs:u_)(H:Hp)(Q:VK)(E:XK):Prop
 |mk (x dx:Addr) (M:List Ln) (ns:f_) (cs ws:d_):(vs=[.ref x,.str<|lI M])->H x=some (.ins cD dx [])->((∀y∈M,ky y))->M.length<=100->(dF ⟨[],[],[]⟩ M=some ⟨ns,cs,ws⟩)->iU ns cs ws->(∀H' hl L,Off x H H'->H hl=none->bZ K cH cD H' x hl ns cs ws L (List.replicate cs.length 0)->bD ns cs ws L (List.replicate cs.length 0)->Q .bE H')->oI K cH cD vs H Q E
def xX(K:Frag)(C:Addr):Sp:=λa H Q _=>CC K C (λ_=>0) a H Q λ_ _ _=>False
def tN(K:Frag)(C:Addr):Sp:=λa H Q _=>xP K C (λ_=>0) a H Q λ_ _ _=>False
def CJ(K:Frag)(C:Addr):Sp:=λa H Q _=>II K C (λ_=>0) a H Q λ_ _ _=>False
def Jm(K:Frag):Sp:=λa H Q _=>OJ K (λ_=>0) a H Q λ_ _ _=>False
variable{ns:f_}{cs ws:d_}
def iU.len(P:iU ns cs ws):(au cs).length=ns.length:=by rw[ah,P.lc]
def iU.p5(P:iU ns cs ws):cj (au cs):=by
 refine⟨λc hc=>?_,by rw[P.len];exact P.nm.fJ⟩
 unfold au at hc;obtain⟨n,hn,rfl⟩:=gh.mp hc;have h:=P.UQ n hn;have e:(10:Nat) ^ 30=1000000000000000000000000000000:=by decide
 rw[e]at h;refine⟨?_,?_⟩
 ·show(1:Int)<=((n:Nat):Int)
  omega
 ·show((n:Nat):Int)<=_
  omega
def iU.OK(P:iU ns cs ws):jb ws:=by
 refine⟨λi hi=>?_,λi hi=>?_⟩
 ·rw[P.lw]at hi ⊢;exact P.UW i hi
 ·rw[P.lw]at hi
  have:=P.De i hi
  unfold cF;rw[oi,this];rfl
variable{L:B0L}{hs:e_}
def bD.AG(D:bD ns cs ws L hs):jV (au cs) ws L:=⟨λg a=>(D.best.1.each g a).ok,D.best.1.rq⟩
variable{l:d_}
def vB{n:Nat}(nd:l.Nodup)(h:∀x∈l,x<n):l.length<=n:=cI nd h
def bD.g8(D:bD ns cs ws L hs):∀g∈L,g.2.length<=8:=λg a=>by
 have h:=(D.best.1.each g a).ok
 have:=vB h.nd h.lt
 rw[D.Br.len]at this
 have:=D.Br.nm.fJ
 omega
theorem bD.fJ(D:bD ns cs ws L hs):L.length<=8:=by
 have:=D.best.1.len
 rw[D.Br.len]at this
 have:=D.Br.nm.fJ
 show L.length<=8;have h:((L.map<|iT<|au cs).sum,L).2.length<=ns.length:=by assumption
 exact gr h this
def ML(h:l.Pairwise (· < ·)):pJ l=true:=by
 unfold pJ;refine ka.mpr λk hk=>cc ?_;rw[fO]at hk;rw[b3,b3,b4 (by omega),b4 (by omega)]
 exact List.pairwise_iff_getElem.mp h k (k+1) (by omega) (by omega) (by omega)
variable{m:Nat}
def Jn{cs:e_}{x:Int × List (Bool × List Nat)}(h:yU cs ws m x):FA cs ws [] 0 (gI x.2)=none:=by
 refine CD (gone:=[]) (λg a=>?_) h.rq λ_ _ _ _ z=>nomatch z;have G:=h.each g a;exact⟨G.ok,G.ok.lt,G.ok.nd,Fh.mpr G.ne,λe=>⟨(G.ok.ring e).1,(G.ok.ring e).2.1⟩,λe=>ML<|G.rise e⟩
def bD.MM(D:bD ns cs ws L hs):(L.map<|iT<|au cs).sum<=8:=by
 have h:=jh D.Br.p5.pos D.f7 D.AG;have a:rat (λi h=>ip (au cs) L h i) (au cs).length hs<=8:=by
  unfold rat;refine gr (x6 _ _) ?_;rw[h7];exact D.Br.p5.len
 omega
def bD.CK(D:bD ns cs ws L hs):Bt 5 (L.map<|iT<|au cs).sum:=by
 have h:=D.MM;have a:0<=(L.map<|iT<|au cs).sum:=D.best.1.nn;unfold Bt;show _<32
 omega
def iU.OL(P:iU ns cs ws):∀x∈ns,x.length<=12:=λx hx=>(ir<|P.nm.nm x hx).2.2
def tO(P:iU ns cs ws):cB ns (cS (au cs) hs L):=by
 unfold cS;refine⟨P.OL,λi hi=>?_,?_⟩
 ·have:=(j5.mp hi).1
  rw[fO,P.len]at this;exact this
 ·refine gr (x6 _ _) ?_;rw[h7,P.len];exact P.nm.fJ
def CL(P:iU ns cs ws){r:d_}(h:Ring ws r):cB ns r:=by
 have a:∀i∈r,i<ns.length:=λi hi=>by have:=h.lt i hi;rw[P.lw]at this;exact this
 exact⟨P.OL,a,gr (vB h.nd a) P.nm.fJ⟩
def kF(P:iU ns cs ws):cB ns (laidOut ws):=by
 obtain⟨l,h,_⟩:=dR ws;have a:∀i∈laidOut ws,i<ns.length:=λi hi=>by have:=h.lt i hi;rw[P.lw]at this;exact this
 exact⟨P.OL,a,gr (vB h.nd a) P.nm.fJ⟩
def p6(n:Nat):cz (cX (n:Int))=(toDigits 10 n).map Char.toNat:=xu n
def Jo{n:Nat}{k:Nat}(h:n<10 ^ k)(hk:0<k):(cX (n:Int)).length<=k:=by
 rw[aJ,p6,b5];exact(Nat.length_toDigits_le_iff a_ hk).mpr h
def cO{i:Int}{k:Nat}(h0:0<=i)(h:Bt k i)(hk:k<=900):(cX i).length<=300/\i.natAbs.log2<1920:=by
 obtain⟨n,rfl⟩:∃n:Nat,i=(n:Int):=⟨i.toNat,by omega⟩
 have h:n<2 ^ k:=by unfold Bt at h;rwa [Da]at h
 have a:n<2 ^ 900:=g4 h (oD a_ hk)
 refine⟨Jo (Nat.lt_trans a Dk0) a_,?_⟩
 rw[Da]
 by_cases z:n=0
 ·subst z;decide
 ·exact(log2_lt z).mpr (Nat.lt_trans a Dk0)
def namesW(h:cB ns l):∀x∈l.map (λi=>ns.getD i bo),x.length<=12:=λx hx=>by
 obtain⟨i,hi,rfl⟩:=gh.mp hx;exact h.nm _<|getD_memS<|h.lt i hi
theorem fK(c:Nat)(k:Nat):∀(l:f_),(∀x∈l,x.length<=k)->(Str.join ⟨#[c]⟩ l).length<=l.length*(k+1)
 | [],_=>by show 0<=_;omega
 | [x],h=>by have:=h x fA;show x.length<=1*(k+1);omega
 |x::y::r,h=>by
  have a:=fK c k (y::r) λz hz=>h z<|fz _ hz
  have:=h x fA
  rw[aJ,cy,eR,eR,Ow,<-aJ,<-aJ];show x.length+1+_<=((y::r).length+1)*(k+1);rw[Nat.add_mul,Nat.one_mul]
  omega
def AI(k:TK):qF k≠"put"/\qF k≠"guess"/\qF k≠"right"/\32∉cz (qF k)/\(qF k).length<=12:=by cases k<;>decide +kernel
variable{c:Nat}
def jn(h:c<10 ^ 30):tM "colour" (jX c)=true/\intText? (jX c)=some (c:Int)/\32∉cz (jX c)/\(jX c).length<=30:=by
 unfold tM;rw[if_neg a_]
 by_cases z:c=0
 ·subst z;decide +kernel
 ·have q:=fQ (n:=c) (by omega) h
  have a:dA (jX c)=true:=q.1;refine⟨?_,q.2,(ji a).1,mC a⟩;rw[a,Bool.or_true]
def Q3(e:Nat->Addr)(k:TK):∃j,j<9/\j≠5/\j≠6/\cZ (pX e) (.inr<|qF k)=some (.ref<|e j):=by
 cases k with
 |sure=>exact⟨0,a_,a_,a_,rfl⟩
 |share=>exact⟨1,a_,a_,a_,rfl⟩
 |groups=>exact⟨2,a_,a_,a_,rfl⟩
 |ring=>exact⟨3,a_,a_,a_,rfl⟩
 |order=>exact⟨4,a_,a_,a_,rfl⟩
 |book=>exact⟨8,a_,a_,a_,rfl⟩
def Er(e:Nat->Addr):cZ (pX e) (.inr "right")=some (.ref<|e 7):=rfl
def MN(e:Nat->Addr):cZ (pX e) (.inr "put")=some (.ref<|e 5):=rfl
def Es(e:Nat->Addr):cZ (pX e) (.inr "guess")=some (.ref<|e 6):=rfl
def empty_app(x:Str):Str.empty++x=x:=lE (by rw[bO];rfl)
variable{a:AK}
def Et(P:iU ns cs ws)(h:Jj ns a):jZ ns a≠[]/\(∀x∈jZ ns a,32∉cz x/\x.length<=30)/\(jZ ns a).length<=3:=by
 have b:∀i,i<ns.length->32∉cz (ns.getD i bo)/\(ns.getD i bo).length<=30:=λi hi=>by
  have q:=P.nm.nm _<|getD_memS hi;exact⟨(fP q).1,gr (ir q).2.2 a_⟩
 cases a with
 |told k=>
  refine⟨(λz=>nomatch z),λx hx=>?_,by show 1<=3;decide⟩
  obtain rfl:x=qF k:=eG.mp hx;exact⟨(AI k).2.2.2.1,gr (AI k).2.2.2.2 a_⟩
 |right=>
  refine⟨(λz=>nomatch z),λx hx=>?_,by show 1<=3;decide⟩
  obtain rfl:x="right":=eG.mp hx
  decide +kernel
 |fD i=>
  refine⟨(λz=>nomatch z),λx hx=>?_,by show 2<=3;decide⟩
  rcases gg.mp hx with rfl|hx
  ·decide +kernel
  ·obtain rfl:x=ns.getD i bo:=eG.mp hx;exact b i h
 |put i c=>
  refine⟨(λz=>nomatch z),λx hx=>?_,by show 3<=3;decide⟩
  rcases gg.mp hx with rfl|hx
  ·decide +kernel
  ·rcases gg.mp hx with rfl|hx
   ·exact b i h.1
   ·obtain rfl:x=jX c:=eG.mp hx;have q:=jn h.2;exact⟨q.2.2.1,q.2.2.2⟩
variable{aF:Addr}
def Jp{P:Program}{w:World}{K:Frag}{mg:b_}{e:Nat->Addr}(FT:vx P w K mg aF e)(PP:iU ns cs ws)(h:Jj ns a):
  ∃(x:Addr) (w0:Str) (f b:f_),jZ ns a=w0::b/\cZ (pX e) (.inr w0)=some (.ref x)/\b.length=f.length/\b.length<=8/\(∀z∈b,z.length<=1000000)/\(∀k,k<f.length->tM (f.getD k bo) (b.getD k bo)=true)/\∀H':Hp,aL K H' x (f.map V.str):=by
 have d:∀i,i<ns.length->bI (ns.getD i bo)=true/\(ns.getD i bo).length<=1000000:=λi hi=>by
  have q:=PP.nm.nm _<|getD_memS hi;exact⟨q,gr (ir q).2.2 a_⟩
 cases a with
 |told k=>
  obtain⟨j,n,p,r,o⟩:=Q3 e k;exact⟨e j,qF k,[],[],rfl,o,rfl,a_,(λ_ z=>nomatch z),(λ_ z=>absurd z<|sU _),FT.t0 j n p r⟩
 |right=>exact⟨e 7,"right",[],[],rfl,Er e,rfl,a_,(λ_ z=>nomatch z),(λ_ z=>absurd z<|sU _),FT.t0 7 a_ a_ a_⟩
 |fD i=>
  obtain⟨l,g⟩:=d i h;refine⟨e 6,"guess",["name"],[ns.getD i bo],rfl,Es e,rfl,by show 1<=8;decide,λz hz=>?_,λk hk=>?_,FT.t6⟩
  ·rw[eG.mp hz];exact g
  ·obtain rfl:k=0:=by have:k<1:=hk;omega
   exact l
 |put i c=>
  obtain⟨l,g⟩:=d i h.1;obtain⟨m,_,_,s⟩:=jn h.2;refine⟨e 5,"put",["name","colour"],[ns.getD i bo,jX c],rfl,MN e,rfl,by show 2<=8;decide,λz hz=>?_,λk hk=>?_,FT.t5⟩
  ·rcases gg.mp hz with rfl|hz
   ·exact g
   ·rw[eG.mp hz];exact gr s a_
  ·have hk:k<2:=hk
   rcases(show k=0∨k=1 by omega)with rfl|rfl
   ·exact l
   ·exact m
def Q4{cs:e_}{i:Nat}(hc:cj cs)(hn:HN cs hs cs.length)(h:jV cs ws L)(hi:i<cs.length):0<=ip cs L hs i/\Bt 100 (ip cs L hs i):=by
 obtain⟨h1,a⟩:=ow hc.pos hn h hi;have hm:cs.getD i 0∈cs:=by
  rw[b3,b4 hi];exact kf hi
 exact⟨h1,(hc.cn _ hm).bt.of_le h1 (by omega)⟩
def iS{H H1:Hp}{p:Addr}{o:HO}(hp:H p=none)(e:upd H p o=H1):ag H H1/\H1 p=some o:=by
 subst e;exact⟨ag.new hp o,af⟩
variable{K:Frag}{H:Hp}{Q:VK}{a:Addr}{xs:u_}
def MO(k:Nat)(h:aw K H a xs)(q:∀p H',ag H H'->H p=none->H' p=some (.lst<|xs.drop k)->Q (.ref p) H'):Dz K (.ref a) (some (k:Int)) none H Q:=
 ⟨a,xs,rfl,h,λp b=>q p _ (ag.new b _) b (by rw[dE];exact af)⟩
def CM(k:Nat)(h:aw K H a xs)(q:∀p H',ag H H'->H p=none->H' p=some (.lst<|xs.take k)->Q (.ref p) H'):Dz K (.ref a) none (some (k:Int)) H Q:=
 ⟨a,xs,rfl,h,λp b=>q p _ (ag.new b _) b (by rw[ml];exact af)⟩
end L2
namespace L2
open PySem PySem.Spec PyProof.Rows
inductive vC(vs:u_)(H:Hp)(Q:VK)(E:XK):Prop
 |mk (a:Addr) (dn:e_) (many:Nat) (kind:Int) (i:Nat):(vs=[.ref a,.int many,.int kind,.int i])->H a=some (.lst<|dn.map V.int)->dn.length=24->((∀x∈dn,0<=x))->1<=many->many<=8->i<many->(∀m:Nat,m<2 ^ many->m.testBit i=false->Q (.int (m:Int)) H)->vC vs H Q E
def AJ{n i:Nat}(h:i<n):2 ^ n-1-2 ^ i<2 ^ n/\(2 ^ n-1-2 ^ i).testBit i=false:=by
 have h1:2 ^ i<2 ^ n:=KM a_ h
 have a:=r4 i;generalize e2:2 ^ n=N at h1 ⊢;refine⟨by omega,?_⟩
 subst e2;rw[show 2 ^ n-1-2 ^ i=2 ^ n-(2 ^ i+1) by omega,Nat.testBit_two_pow_sub_succ h1,Nat.testBit_two_pow_self]
 simp
def CN{n i:Nat}(h:i<n):((2 ^ n:Nat):Int)-1-((2 ^ i:Nat):Int)=((2 ^ n-1-2 ^ i:Nat):Int):=by
 have h1:2 ^ i<2 ^ n:=KM a_ h
 omega
def CO{x e n i:Nat}(h:e<2 ^ n)(h2:e.testBit i=false):x&&& e<2 ^ n/\(x&&& e).testBit i=false:=by
 refine⟨m2 Nat.and_le_right h,?_⟩;rw[testBit_and,h2,KE]
variable{dn:e_}{dr:Addr}
def da{K:Frag}{H:Hp}{i:Int}{m:Nat}{Q:VK}(hd:H dr=some (.lst<|dn.map V.int))(hl:dn.length=m)(hnn:∀x∈dn,0<=x)(h0:0<=i)(h1:i<m)(q:∀x:Nat,Q (.int (x:Int)) H):wL K (.ref dr) (.int i) H Q:=by
 obtain⟨m,rfl⟩:=rV h0;have hm:m<dn.length:=by omega
 obtain⟨x,hx⟩:=rV<|hnn _<|kf hm;exact aD (aw.of hd) (aG (by rw[ed,b4 hm,hx];rfl))<|q x
def rh(z:Str):Prop:=∀c∈cz z,c<1114112
variable{z:Str}
def rh.ok(h:rh z):PyData.strOk z=true:=by
 unfold PyData.strOk;rw[<-Array.all_toList];exact ka.mpr λc hc=>cc<|h c hc
def rh.low(h:jW z):rh z:=λc hc=>by
 have a:=ot<|h c hc
 have:∀c∈cz my,c<1114112:=by decide +kernel
 exact this c a
theorem rh.cX{i:Int}(h:0<=i):rh (cX i):=by
 obtain⟨n,rfl⟩:=rV h;intro c hc;rw[p6]at hc;obtain⟨d,a,rfl⟩:=gh.mp hc
 have:=Nat.isDigit_of_mem_toDigits a_ a_ a
 simp only[Char.isDigit,Bool.and_eq_true,decide_eq_true_eq]at this;have b:d.toNat<=57:=this.2
 omega
theorem CP:∀l:f_,(∀x∈l,rh x)->PyData.canLayAll0 (l.map PyData.str)=true
 | [],_=>by simp[PyData.canLayAll0]
 |x::r,h=>by simp[PyData.canLayAll0,PyData.canLay0,CP r λx hx=>h x<|mem_cons_of_mem _ hx,(h x mem_cons_self).ok]
variable{l:f_}
def gu(h:∀x∈l,rh x):shaped (.list<|l.map PyData.str)=true:=D9
 (by simp[PyData.canLay0,CP l h]) (by have:=pM l;simp only[PyData.depth];omega)
theorem lL:∀l m:f_,PyData.eqvAll (l.map PyData.str) (m.map PyData.str)=decide (l=m)
 | [],[]=>by simp[PyData.eqvAll]
 | [],_::_=>by simp[PyData.eqvAll]
 |_::_,[]=>by simp[PyData.eqvAll]
 |x::r,y::s=>by
  simp only[map_cons,PyData.eqvAll,PyData.eqv,lL r s]
  by_cases h:x=y<;>by_cases a:r=s<;>simp[h,a]
def tP(l m:f_):PyData.eqv (.list<|l.map PyData.str) (.list<|m.map PyData.str)=decide (l=m):=by
 simp only[PyData.eqv,lL]
variable{K:Frag}{H:Hp}{Q:VK}{p q:Addr}{m:f_}
def oK(hp:aw K H p (l.map V.str))(hq:aw K H q (m.map V.str))(cl:∀x∈l,rh x)(cm:∀x∈m,rh x)(h:Q (.bl<|!decide (l=m)) H):Sw K (.ref p) (.ref q) H Q:=
 ⟨_,_,.lst hp<|lH _,.lst hq<|lH _,gu cl,gu cm,by rw[tP];exact h⟩
def iA(hp:aw K H p (l.map V.str))(hq:aw K H q (m.map V.str))(cl:∀x∈l,rh x)(cm:∀x∈m,rh x)(h:Q (.bl<|decide<|l=m) H):P7 K (.ref p) (.ref q) H Q:=
 ⟨_,_,.lst hp<|lH _,.lst hq<|lH _,gu cl,gu cm,by rw[tP];exact h⟩
def gL(a b:Addr)(H H':Hp):Prop:=∀x o,x≠a->x≠b->H x=some o->H' x=some o
def gL.refl{a b:Addr} :gL a b H H:=λ_ _ _ _ h=>h
def gL.trans{a b:Addr}{H1 H2:Hp}(s:gL a b H H1)(t:gL a b H1 H2):gL a b H H2:=λx o h1 c h=>t x o h1 c<|s x o h1 c h
theorem bD.set{ns:f_}{cs ws:d_}{L:B0L}{hs:e_}{i col:Nat}(D:bD ns cs ws L hs)(hi:i<ns.length)(hc:col<cs.getD i 0):bD ns cs ws L (hs.set i (col:Int))/\iR (au cs) (hs.set i (col:Int))=true:=by
 have a:HN (au cs) (hs.set i (col:Int)) (au cs).length:=HN.set D.f7 (Int.natCast_nonneg _) (by rw[aA];omega)
 exact⟨⟨D.Br,D.best,a⟩,IJ a⟩
def AL(ns:f_):("right":Str)=Str.join ⟨#[32]⟩ (jZ ns .right):=rfl
def AM(ns:f_)(i:Nat):("guess ":Str)++ns.getD i bo=Str.join ⟨#[32]⟩ (jZ ns<|.fD i):=by
 rw[show("guess ":Str)=("guess":Str)++⟨#[32]⟩ by decide +kernel];rfl
def Jq(ns:f_)(i c:Nat):("put ":Str)++ns.getD i bo++(" ":Str)++cX ((c:Nat):Int)=Str.join ⟨#[32]⟩ (jZ ns<|.put i c):=by
 rw[show("put ":Str)=("put":Str)++⟨#[32]⟩ by decide +kernel,show(" ":Str)=⟨#[32]⟩ by decide +kernel]
 refine lE ?_;show _=cz (Str.join ⟨#[32]⟩ [("put":Str),ns.getD i bo,jX c]);rw[cy,cy,bO,bO,bO,bO,qE,qE,qE,qE,qE];rfl
def DQ(K:Frag)(x:Str)(st:Stmt):Prop:=∃(f:Addr) (oc:Value) (od an:h_) (sl:Array (g_)) (kV doc pm cd ct:Value),nsIn K mainGlobals x=some (some<|.ref f)/\K.lookup f=some ⟨oc,od,.func<|fnOf x x (bx st) (aU st) (aj st) .none kV doc pm an cd ct,sl⟩/\codeIn K cd x=true/\keepIn K (.ref f)=true
def DQ.def{x:Str}{st:Stmt}{h:Heap}{mg:b_}(q:DQ K x st)(X:K.In h)(G:h.Ns mainGlobals mg):Def K mg x st:=by
 obtain⟨_,_,_,_,_,_,_,_,_,_,a,b,c,d⟩:=q;exact PY X G a b c d
def MQ(K:Frag)(C:Addr)(m qual:Str)(st:Stmt):Prop:=∃(f:Addr) (oc:Value) (od an:h_) (sl:Array (g_)) (kV doc pm cd ct:Value),findIn K (.ref C) m=some (some<|.ref f)/\K.lookup f=some ⟨oc,od,.func<|fnOf m qual (bx st) (aU st) (aj st) .none kV doc pm an cd ct,sl⟩/\codeIn K cd qual=true/\keepIn K (.ref f)=true/\isFn K (.ref f)=true
variable{m:Str}
def MQ.def{C:Addr}{qual:Str}{st:Stmt}(q:MQ K C m qual st):qX K C m qual st:=by
 obtain⟨_,_,_,_,_,_,_,_,_,_,a,b,c,d,e⟩:=q;exact Mz a b c d e
variable{a dx C:Addr}{fs:t_}{R:Prop}
def kl(h:H a=some (.ins C dx fs))(n:fs.lookup m=none)(r:R):∃a' dx' fs',V.ref a=.ref a'/\H a'=some (.ins C dx' fs')/\fs'.lookup m=none/\R:=⟨a,dx,fs,rfl,h,n,r⟩
variable{f:Str}{v:V}{G:V->Prop}
def tQ(h:H a=some (.ins C dx fs))(n:fs.lookup f=some v)(r:G v):∃a' dx' fs' v',V.ref a=.ref a'/\H a'=some (.ins C dx' fs')/\fs'.lookup f=some v'/\G v':=⟨a,dx,fs,v,rfl,h,n,r⟩
variable{xs:u_}
def Q5(h:aw K H p xs)(r:∀t,H t=none->Q (.ref t) (upd H t<|.tup xs)):GU K [.ref p] H Q:=⟨p,xs,rfl,.inl ⟨h,r⟩⟩
variable{y:Str}
def CQ(h:aw K H p (l.map V.str))(h1:(l.map λz=>z.length+y.length).sum<=sizeLine)(h2:(y.join l).length<=sizeLine)(r:Q (.str<|y.join l) H):rJoin K (.str y) [.ref p] H Q:=⟨y,p,l,rfl,rfl,h,h1,h2,r⟩
def Jr(hy:y.length≠0)(h1:z.length+2<=sizeLine)(h2:(Txt.split z y).length<=sizeLine)(r:∀t,H t=none->Q (.ref t) (upd H t<|.lst<|(Txt.split z y).map V.str)):Af (.str z) [.str y] H Q:=⟨z,y,rfl,rfl,hy,h1,h2,r⟩
def Q6(h:H p=some (.lst xs))(hl:xs.length<sizeLine)(r:Q .bE (upd H p<|.lst<|xs++[v])):BX (.ref p) [v] H Q:=⟨p,xs,v,rfl,rfl,h,hl,r⟩
def xY:Sp:=λa H Q _=>∃(cell:Int) (n:Nat),a=[.int cell,.int n]/\n<=8/\∀(l:Addr) (ns:f_) (H':Hp),ag H H'->H l=none->H' l=some (.lst<|ns.map V.str)->Mm ns n->Q (.ref l) H'
end L2
namespace L2
open PySem PySem.Spec PyProof.Rows
inductive lM(K:Frag)(vs:u_)(H:Hp)(Q:VK)(E:XK):Prop
 |mk (b dr:Addr) (ns:f_) (cs ws:d_) (dn:e_):(vs=[.ref b,.ref dr])->Io H b ns cs ws->iU ns cs ws->H dr=some (.lst<|dn.map V.int)->26<=dn.length->((∀x∈dn,0<=x))->(∀l M H',ag H H'->H' l=some (.lst<|(M.map<|hZ ns cs).map V.str)->dH ns ws (λi=>i<ns.length) M->M.length<=16->Q (.ref l) H')->lM K vs H Q E
variable{K:Frag}{cH cD d l:Addr}{H:Hp}{ns:f_}{cs ws:d_}{L:B0L}{hs:e_}
def bZ.iB(h:bZ K cH cD H d l ns cs ws L hs):∃C dx fs,H l=some (.ins C dx fs):=by
 obtain⟨_,_,_,_,a,_⟩:=h;obtain⟨_,_,b,_⟩:=a.ex;exact⟨_,_,_,b⟩
def Eu(k:Bool)(K:Frag)(a:Addr):It:=
 ⟨λi H=>∃xs x,eX k K H a xs/\xs[i]?=some x,λi H x b=>∃p v,H p=none/\x=.ref p/\b=upd H p (.tup [.int i,v])/\∀xs,eX k K H a xs->xs[i]?=some v,λi H=>∃xs,eX k K H a xs/\xs.length=i⟩
def Q7{k:Bool}{prog:Program}{w:World}{A:Around}(hA:A.handled=none)(it p:Addr)(hne:p≠it)(vs:k_):Draws prog w A it [it,p] vs.size (λi v=>vs[i]?=some v) (λi h=>rf k h it p i/\vy k h p vs):=by
 cases k
 ·exact Qg hA it p hne vs
 ·exact Draws.list hA it p hne vs
theorem Js{k:Bool}{P:Program}{w:World}{elts:i_}{x1:Nat}{pos:Pos}(a e it:Addr)(hei:e≠it):Turn P w K (.Tuple elts x1 pos) (Eu k K a) [e,it] e (λi h=>(∃old,IsEnum h e it i old)/\rf k h it a i) where
 mem:=by simp
 obj:=λi h f b hb=>by
  obtain⟨⟨old,he⟩,t⟩:=f;obtain⟨o,_,eo,_,_,_,_,d⟩:=t.ob
  rcases gg.mp hb with rfl|hb
  ·exact⟨_,he,λv z=>by cases z⟩
  ·rw[eG.mp hb];exact⟨o,eo,λv z=>by rw[d]at z;cases z⟩
 keep:=λi h h' f k=>by
  obtain⟨⟨old,he⟩,f⟩:=f;exact⟨⟨old,k e (by simp) _ he⟩,f.at λo q=>k it (by simp) o q⟩
 item:=by
  intro X D M O hc i y s σ H E I l f J;subst D M O;obtain⟨xs,x,hq,hx⟩:=J;obtain⟨g,B,p⟩:=eX.ar I hq;obtain⟨u,hu,ru⟩:=B.get hx;obtain⟨⟨old,he⟩,si⟩:=f;have N:=gK I hq (l e (by simp))
  have L:i<g.toArray.size:=by
   rw[hO];exact(ls.mp hu).1
  refine wpAny_pyNext_enum_itemD (Q7 (by simpa using I.ok.hd hc) it a (gK I hq (l it (by simp))) g.toArray) he ⟨si,p⟩ L hei (by simp only[mem_cons,not_mem_nil,or_false,not_or];exact⟨hei,Ne.symm N⟩) λv h1 S Z ho C ht W hk=>?_
  refine⟨_,rfl,wpAny_letOwnedTupleGo_enum ho λh2 A j=>?_⟩;have n:e<s.heap.objs.size:=lt_size he;have ev:v=u:=by
   have r:g[i]?=some v:=by simpa using Z
   rw[hu]at r;cases r;rfl
  subst ev;refine⟨.ref s.heap.objs.size,upd H s.heap.objs.size<|.tup [.int i,x],I.sT (ch:=[e,it]) (λb o hb q=>?_) l (dy _) (show bG X.prog X.w _ h2 _ (.tup _)from⟨by show 2<=sizeLine;decide,[.int i S,v],.cons ⟨_,rfl⟩<|.cons ru .nil,?_⟩),rfl,⟨_,x,I.fresh,rfl,rfl,λys hy=>by rw[eX.inj I hy hq];exact hx⟩,⟨⟨v,?_⟩,?_⟩,λb hb=>?_⟩
  ·simp only[mem_cons,not_mem_nil,or_false,not_or]at hb;exact(j.2 b hb.1).trans (hk b o hb.1 hb.2 q)
  ·exact⟨_,(j.2 _<|Wx n).trans ht,rfl,_,rfl⟩
  ·exact A
  ·exact C.1.at λo q=>(j.2 it<|Ne.symm hei).trans q
  ·rw[aC (λz=>?_)]
   ·exact(l b hb).1
   ·obtain⟨_,_,Q,_⟩:=si.ob
    rcases gg.mp hb with rfl|hb
    ·exact absurd z<|j9 n
    ·rw[eG.mp hb]at z;exact absurd z (j9<|lt_size Q)
 done:=by
  intro X D M O hc i y s σ H E I l f J;subst D M O;obtain⟨xs,hq,hx⟩:=J;obtain⟨g,B,p⟩:=eX.ar I hq;obtain⟨⟨old,he⟩,si⟩:=f;have hl:=B.length;have R:s.TypeIs (.ref e) "enumerate":=⟨_,he,rfl⟩;unfold pyNext;refine cv<|wpAny_attempt<|L9 (name:=("__next__":Str)) R F.slot_enumerate_next<|D2 F.slot_enumerate_next R F.entry_enumerate_next ?_ (F.args_enumerate_next_1 _);refine cv (m:=field (.ref e) 2) (Wp he rfl (x:=.ref it) rfl (cv (Vs (by simpa using I.ok.hd hc) si p (by simp;omega) λh' x eb G=>?_)))
  obtain⟨o,q,c⟩:=G;refine cv<|wpAny_isInstance (T:="StopIteration") (b:=true) ⟨o,q,c⟩ isSubtype_stop ?_;obtain⟨f0,f1,f2,Y,U,f5⟩:=l it (by simp)
  exact ek ⟨rfl,I.turned (t':=s.toks) (λb o hb z=>eb b o hb z) f0 f1 Y U f5⟩
 self:=λ_ _ _ _ _ f h=>by
  obtain⟨⟨old,he⟩,_⟩:=f;exact wpAny_pyIter_enum he h
def Q8(k:Bool)(K:Frag)(ta:TA):TI:=λσ H R=>ta σ H λb H1=>∃a,b=[.ref a]/\(∃xs,eX k K H1 a xs)/\R (Eu k K a) H1
variable{k:Bool}{X:Cx}{N W G:f_}{e:Expr}{t:TA}{p pos tpos:Pos}{elts:i_}{x1:Nat}
def Q9(S:Sc X N W G)(g:Nat)(hm:X.mg "enumerate"=none)(hK:X.K=K)(ha:PB X [e] t)(hg:G[g]?=some "enumerate":=by rfl):PI X (.Tuple elts x1 tpos) (.Call (.Name "enumerate" p) [e] [] pos) (Q8 k K t):=by
 subst hK;intro f s σ H R I h;have q:=S.gl _<|ih hg;refine Call_<|lY I q.1 hm boot_enumerate<|F1 (bP (ha.pa pos f s σ H _ I h) λC c ⟨D,H1,n,v,x⟩=>?_) (bf ha.he) rfl;obtain⟨a,rfl,⟨E,hq⟩,q⟩:=x;obtain⟨u,rfl,z⟩:=vals1 v
 cases z
 obtain⟨y,B,r⟩:=eX.ar n hq;have go:∀d,IsEnum d (c.heap.objs.size+1) c.heap.objs.size 0 .none->rf k d c.heap.objs.size a 0->(∀b o,c.heap.get? b=some o->d.get? b=some o)->wpAny (model X.prog X.w) X.A (pyIter<|.ref<|c.heap.objs.size+1) (U3 X f σ (.Tuple elts x1 tpos) R) X.xe {c with heap:=d}:=λd i j m=>by
  refine wpAny_pyIter_enum i ?_;refine⟨c.heap.objs.size+1,[c.heap.objs.size+1,c.heap.objs.size],_,_,H1,rfl,n.kept (t':=c.toks) m,Js a _ _<|Nat.succ_ne_self _,⟨⟨_,i⟩,j⟩,λb hb=>?_,q⟩;have l:c.heap.objs.size<=b:=by
   rcases gg.mp hb with rfl|hb
   ·exact le_succ _
   ·rw[eG.mp hb];exact dy _
  exact n.yX l<|n.bq.fresh l
 cases k
 ·exact zS r λd i j m=>go d i j m
 ·exact call_enumerate_list r λd i j _ m=>go d i j m
def Jt(k:Bool)(S:Sc X N W G)(g:Nat)(hm:X.mg "enumerate"=none)(hK:X.K=K)(ha:QB X [e] t)(hg:G[g]?=some "enumerate":=by rfl):QI X (.Tuple elts x1 tpos) (.Call (.Name "enumerate" p) [e] [] pos) (Q8 k K t):=⟨Q9 S g hm hK ha.h hg⟩
def Ju{ta:TA}{σ:St}{R:It->r_}:Q8 k K ta σ H R=ta σ H λvs H1=>∃a,vs=[.ref a]/\(∃xs,eX k K H1 a xs)/\R (Eu k K a) H1:=rfl
variable{j:Nat}
def Jv(k:Bool){a:Addr}{us:u_}{i:Nat}{tb:TS}{D:Ends}{σ:St}(I:o_)(h:eX k K H a us)(h0:I 0 σ H)(hl:∀i σ H,I i σ H->eX k K H a us)
  (step:∀k v σ H H2,us[k]?=some v->I k σ H->ag H H2->tb {D with nx:=I<|k+1,ct:=I<|k+1,bk:=D.nx} ((σ.set i<|some<|.int k).set j<|some v) H2)
  (fin:∀σ H,I us.length σ H->D.nx σ H):∃b,[V.ref a]=[.ref b]/\(∃xs,eX k K H b xs)/\qO (qI K 2<|dX (bF i)<|dX (bF j) qH) tb D σ (Eu k K b) H:=by
 refine⟨a,rfl,⟨_,h⟩,λk m σ H=>m=us.length-k/\k<=us.length/\I k σ H,⟨us.length,by simp,zero_le _,h0⟩,?_⟩
 rintro k m σ H ⟨rfl,hk,p⟩;have q:=hl k σ H p
 by_cases c:k<us.length
 ·obtain⟨v,hx⟩:∃v,us[k]?=some v:=⟨_,b4 c⟩;refine .inr ⟨⟨_,_,q,hx⟩,I<|k+1,λl g d=>⟨us.length-(k+1),by omega,rfl,c,d⟩,λx g y=>?_⟩
  obtain⟨t,n,hn,rfl,rfl,f⟩:=y
  have:=f _ q
  rw[hx]at this;cases this
  refine⟨t,[.int k,v],rfl,aL.of af,rfl,?_⟩;exact⟨_,_,rfl,_,_,rfl,rfl,step k v σ H _ hx p<|ag.new hn _⟩
 ·have e:k=us.length:=by omega
  subst e;exact .inl ⟨⟨_,q,rfl⟩,fin σ H p⟩
variable{ns:e_}
def TZ{a:Addr}{i:Nat}{tb:TS}{D:Ends}{σ:St}(I:o_)(h:aL K H a (ns.map V.int))(h0:I 0 σ H)(hl:∀i σ H,I i σ H->aL K H a (ns.map V.int))
  (step:∀k σ H H2,k<ns.length->I k σ H->ag H H2->tb {D with nx:=I<|k+1,ct:=I<|k+1,bk:=D.nx} ((σ.set i<|some<|.int k).set j<|some<|.int<|ns.getD k 0) H2)
  (fin:∀σ H,I ns.length σ H->D.nx σ H):∃b,[V.ref a]=[.ref b]/\(∃xs,eX false K H b xs)/\qO (qI K 2<|dX (bF i)<|dX (bF j) qH) tb D σ (Eu false K b) H:=
 Jv false I h h0 hl (λk v σ H H2 e p s=>by
  rw[ed]at e;have hk:k<ns.length:=Nat.lt_of_not_le λz=>by rw[h9 z]at e;cases e
  have:=step k σ H H2 hk p s
  rw[b3]at this;rw[b4 hk]at e this
  cases e;exact this) (λσ H p=>fin σ H (by rw[b5]at p;exact p))
def T3{a:Addr}{tc:TT}{te:TE}{rest:St}{Q:VK}{H1:Hp}(keep:Nat->Bool)(val:Nat->Int)(h:aL K H1 a (ns.map V.int))(hn:ns.length<sizeLine)
  (step:∀i H (A:q_) (B:r_),i<ns.length->ag H1 H->(keep i=true->∀H',ag H H'->A (.int<|val i) H')->(keep i=false->∀H',ag H H'->B H')->
   tc (some (.int (i:Int))::some (.int<|ns.getD i 0)::rest) H λb H3=>if b=true then te (some (.int (i:Int))::some (.int<|ns.getD i 0)::rest) H3 A else B H3)
  (fin:∀B_ H,H1 B_=none->ag H1 H->H B_=some (.lst<|(((List.range ns.length).filter keep).map val).map V.int)->Q (.ref B_) H):
  ∃b,[V.ref a]=[.ref b]/\(∃xs,eX false K H1 b xs)/\sN (qI K 2<|dX (bF 0)<|dX (bF 1) qH) tc te (none::none::rest) Q (Eu false K b) H1:=by
 refine⟨a,rfl,⟨_,h⟩,λB_ c=>?_⟩;refine⟨λi m τ H=>m=ns.length-i/\i<=ns.length/\(∃y z,τ=y::z::rest)/\ag H1 H/\H B_=some (.lst<|(((List.range i).filter keep).map val).map V.int),⟨ns.length,by simp,zero_le _,⟨_,_,rfl⟩,ag.new c _,af⟩,?_⟩
 rintro i m τ H ⟨rfl,hi,⟨y,z,rfl⟩,g,l⟩;have n:=g.aP h
 by_cases f:i<ns.length
 ·have hx:(ns.map V.int)[i]?=some (.int<|ns.getD i 0):=by
   rw[ed,b4 f,b3,b4 f];rfl
  refine .inr ⟨⟨_,_,n,hx⟩,λq H'=>(∃y z,q=y::z::rest)/\ag H1 H'/\H' B_=some (.lst<|(((List.range<|i+1).filter keep).map val).map V.int),λq H' ⟨u,v,w⟩=>⟨ns.length-(i+1),by omega,rfl,f,u,v,w⟩,λx H' y=>?_⟩
  obtain⟨t,v,p,rfl,rfl,C⟩:=y
  have:=C _ n
  rw[hx]at this;cases this
  have j:=ag.new p<|.tup [.int (i:Int),.int<|ns.getD i 0];refine⟨t,_,rfl,aL.of af,rfl,_,_,rfl,_,_,rfl,rfl,?_⟩;simp only[set_cons_zero,set_cons_succ];have r:(((List.range i).filter keep).map val).length<=i:=by
   have:=x6 keep<|List.range i
   rw[h7]at this;rw[b5];exact this
  refine step i _ _ _ f (g.trans j) (λhk s d=>?_) λhk s d=>?_
  ·have o:=d _ _<|j _ _ l;refine⟨_,o,?_,⟨_,_,rfl⟩,((g.trans j).trans d).set c _,?_⟩
   ·rw[b5];omega
   ·rw[af,u5,UV,hU,hU]
    simp[hk]
  ·refine⟨⟨_,_,rfl⟩,(g.trans j).trans d,?_⟩;rw[d _ _ (j _ _ l),u5,UV,hU,hU]
   simp[hk]
 ·have e:i=ns.length:=by omega
  subst e;exact .inl ⟨⟨_,n,by rw[b5]⟩,fin B_ H c g l⟩
def Ra:List TS->TS
 | []=>wD
 | [a]=>a
 |a::b::l=>oS a (Ra (b::l))
class Sq (t:TS) (l:outParam (List TS)):Prop where
 e:Ra l=t
instance (priority:=low) sq1 {a:TS}:Sq a [a]:=⟨rfl⟩
instance sq2 {a b c:TS} {l:List TS} [h:Sq b (c::l)]:Sq (oS a b) (a::c::l):=⟨by rw[<-h.e];rfl⟩
def Rb:List TS->(TS->Prop)->Prop
 | [],P=>P wD
 | [a],P=>∀b,b=a->P b
 |a::c::l,P=>∀b,b=a->Rb (c::l) λt=>P<|oS b t
theorem T4:∀(l:List TS) (P:TS->Prop),Rb l P->P (Ra l)
 | [],_,h=>h
 | [_],_,h=>h _ rfl
 |a::c::l,P,h=>T4 (c::l) (λt=>P<|oS a t)<|h a rfl
def Vw{t:TS}{l:List TS}[i:Sq t l]{D:Ends}{σ:St}(q:Rb l λt=>t D σ H):t D σ H:=by
 rw[<-i.e];exact T4 l (λt=>t D σ H) q
variable{b:TS}
def V7{A:TS}{D:Ends}{σ:St}(e:b=A)(h:A D σ H):b D σ H:=by rw[e];exact h
def Vx{B:TS}{te:TE}{i:Nat}{D:Ends}{σ:St}(e:b=qJ te (bF i))(h:∀k:q_,(∀v H',B D (σ.set i<|some v) H'->k v H')->te σ H k):oS b B D σ H:=by
 rw[e];exact h (λv H'=>B D (σ.set i<|some v) H') λ_ _ z=>z
def T5{α:Type}{G:α->Prop}{a:α}(k:∀R:α->Prop,(∀x,G x->R x)->R a):G a:=k G λ_ z=>z
def T6{G:o_}{A:Nat->Prop}{I:o_}(k:∀R:o_,(∀i σ H,G i σ H->R i σ H)->∀i σ H,A i->I i σ H->R i σ H):∀i σ H,A i->I i σ H->G i σ H:=k G λ_ _ _ z=>z
def T7{G:Nat->V->p_}{A:Nat->V->Prop}{I:o_}(k:∀R:Nat->V->p_,(∀i v σ H,G i v σ H->R i v σ H)->∀i v σ H,A i v->I i σ H->R i v σ H):∀i v σ H,A i v->I i σ H->G i v σ H:=k G λ_ _ _ _ z=>z
def VQ:TK->Prop
 |.groups=>False
 |.book=>False
 |_=>True
def AN(ns:f_):AK->Prop
 |.told k=>VQ k
 |.right=>True
 |.fD i=>i<ns.length
 |.put i c=>i<ns.length/\c<10 ^ 30
variable{ns:f_}
def MP:∀ {a:AK},AN ns a->Jj ns a
 |.told _,_=>trivial
 |.right,_=>trivial
 |.fD _,h=>h
 |.put _ _,h=>h
def CS(ns:f_)(cs ws:d_)(L:B0L):TK->f_->Prop
 |.sure,a=>a=[cX (L.map<|iT<|au cs).sum]
 |.share,a=>a=[kE (au cs)]
 |.ring,a=>(¬(laidOut ws).length<ws.length/\a=[])∨((laidOut ws).length<ws.length/\∃r,Ring ws r/\a=dI ns r)
 |.order,a=>((laidOut ws).length<ws.length/\a=[])∨(¬(laidOut ws).length<ws.length/\a=dI ns (laidOut ws))
 |_,_=>False
end L2
namespace L2
open PySem PySem.Spec PyProof.Rows
inductive vD(K:Frag)(vs:u_)(H:Hp)(Q:VK)(E:XK):Prop
 |mk (b g:Addr) (ns:f_) (cs ws:d_) (us:u_) (L:B0L) (hs:e_) (k:TK):(vs=[.ref b,.ref g,.str<|qF k])->VQ k->(MH K H b ⟨ns,cs,ws⟩)->aL K H g us->GF K H us L->bD ns cs ws L hs->(∀l rows H',ag H H'->H l=none->H' l=some (.lst<|rows.map V.str)->CS ns cs ws L k rows->Q (.ref l) H')->vD K vs H Q E
def xZ(K:Frag)(cH cD:Addr)(d hl:Addr)(ns:f_)(cs ws:d_)(L:B0L)(hs:e_)(H:Hp)(Q:VK):AK->Prop
 |.told k=>∀l rows H',ag H H'->H l=none->H' l=some (.lst<|rows.map V.str)->CS ns cs ws L k rows->Q (.ref l) H'
 |.right=>∀l H',ag H H'->H l=none->H' l=some (.lst<|(dI ns<|cS (au cs) hs L).map V.str)->Q (.ref l) H'
 |.fD i=>∀l H',ag H H'->H l=none->H' l=some (.lst [.str (cX<|ip (au cs) L hs i)])->Q (.ref l) H'
 |.put i c=>iR (au cs) (hs.set i (c:Int))=true/\∀l H',Off hl H H'->H l=none->H' l=some (.lst [])->bZ K cH cD H' d hl ns cs ws L (hs.set i (c:Int))->Q (.ref l) H'
inductive iC(K:Frag)(cH cD:Addr)(vs:u_)(H:Hp)(Q:VK)(E:XK):Prop
 |mk (d hl:Addr) (ns:f_) (cs ws:d_) (L:B0L) (hs:e_) (a:AK):(vs=[.ref d,.str<|Str.join ⟨#[32]⟩<|jZ ns a])->bZ K cH cD H d hl ns cs ws L hs->bD ns cs ws L hs->AN ns a->xZ K cH cD d hl ns cs ws L hs H Q a->iC K cH cD vs H Q E
def iD{K:Frag}{cH cD d hl:Addr}{H:Hp}{Q:VK}{E:XK}{ns:f_}{cs ws:d_}{L:B0L}{hs:e_}(a:AK)(hD:bZ K cH cD H d hl ns cs ws L hs)(D:bD ns cs ws L hs)(ha:AN ns a)(r:xZ K cH cD d hl ns cs ws L hs H Q a):iC K cH cD [.ref d,.str<|Str.join ⟨#[32]⟩<|jZ ns a] H Q E:=⟨d,hl,ns,cs,ws,L,hs,a,rfl,hD,D,ha,r⟩
end L2
namespace AH
noncomputable def grow(F:List (d_))(c:Nat):List (d_):=F.flatMap λh=>(List.range c).map λx=>h++[x]
noncomputable def T8(cs:d_):List (d_):=cs.foldl grow [[]]
noncomputable def lex:d_->List (d_)
 | []=>[[]]
 |c::a=>(List.range c).flatMap λx=>(lex a).map (x::·)
theorem p9:∀(cs:d_) (F:List (d_)),cs.foldl grow F=F.flatMap λh=>(lex cs).map (h++·)
 | [],F=>by simp[lex,List.flatMap_singleton']
 |c::cs,F=>by
  rw[foldl_cons,p9 cs];simp only[grow,lex,List.flatMap_assoc,List.flatMap_map,List.map_flatMap,List.map_map,Function.comp_def,List.append_assoc,List.singleton_append]
def MR(cs:d_):T8 cs=lex cs:=by
 unfold T8;rw[p9];simp
theorem oM:∀ {cs h:d_},h∈lex cs↔h.length=cs.length/\∀i,i<cs.length->h.getD i 0<cs.getD i 0
 | [],h=>by
  simp only[lex,List.mem_singleton,length_nil];exact⟨λe=>by subst e;exact⟨rfl,λi z=>absurd z<|not_lt_zero _⟩,λe=>List.length_eq_zero_iff.mp e.1⟩
 |c::cs,h=>by
  simp only[lex,List.mem_flatMap,List.mem_range,List.mem_map]
  constructor
  ·rintro⟨x,hx,t,d,rfl⟩;obtain⟨a,b⟩:=oM.mp d;refine⟨by simp[a],λi hi=>?_⟩
   cases i with
   |zero=>exact hx
   |succ i=>exact b i<|Nat.lt_of_succ_lt_succ hi
  ·rintro⟨a,b⟩
   cases h with
   |nil=>cases a
   |cons x t=>
    refine⟨x,b 0<|succ_pos _,t,oM.mpr ⟨Nat.succ.inj a,λi hi=>b (i+1)<|Nat.succ_lt_succ hi⟩,rfl⟩
noncomputable def cC(cs:d_):Nat:=cs.foldr (· * ·) 1
def MS{α:Type}(l:List α)(k:Nat):(l.map λ_=>k).sum=l.length*k:=by
 induction l with
 |nil=>simp
 |cons a l b=>simp[b,Nat.add_mul,Nat.add_comm]
theorem lN:∀cs:d_,(lex cs).length=cC cs
 | []=>rfl
 |c::cs=>by
  simp only[lex,List.length_flatMap,length_map,MS,length_range,lN cs,cC,List.foldr_cons]
theorem fm{α β:Type}(p:β->Bool)(f:α->List β):∀l:List α,(l.flatMap f).countP p=(l.map λa=>(f a).countP p).sum
 | []=>rfl
 |a::l=>by simp[flatMap_cons,List.countP_append,fm p f l]
def AO{y:Nat}:∀ {c:Nat},c<=y->(List.range c).countP (λx=>decide<|y=x)=0:=by
 intro c h;rw[List.countP_eq_zero];intro x hx
 have:=List.mem_range.mp hx
 simp;omega
theorem tR{y:Nat}:∀ {c:Nat},y<c->(List.range c).countP (λx=>decide<|y=x)=1
 |c+1,h=>by
  rw[List.range_succ,List.countP_append]
  by_cases e:y=c
  ·rw[AO (Nat.le_of_eq e.symm)];simp[e]
  ·rw[tR (c:=c) (by omega)];simp[e]
theorem CT{α:Type}(f:α->Nat)(d k:Nat):∀l:List α,(∀a∈l,f a*d=k)->(l.map f).sum*d=l.length*k
 | [],_=>by simp
 |a::l,h=>by
  have:=CT f d k l λb hb=>h b<|mem_cons_of_mem _ hb
  have e:=h a<|mem_cons_self ..;simp only[map_cons,sum_cons,length_cons,Nat.add_mul,Nat.one_mul]at *
  omega
theorem lO{α β:Type}(p:α->β->Bool)(l:List β):∀k:List α,(k.map λa=>l.countP<|p a).sum=(l.map λb=>k.countP (p · b)).sum
 | []=>by simp[MS]
 |a::k=>by
  rw[map_cons,sum_cons,lO p l k];clear lO
  induction l with
  |nil=>rfl
  |cons b l c=>
   simp only[List.countP_cons,map_cons,sum_cons]at c ⊢
   omega
theorem mM:∀(cs:d_) (i:Nat) (g:d_->Nat),i<cs.length->
  (∀h∈lex cs,g h<cs.getD i 0)->(∀h∈lex cs,∀x,x<cs.getD i 0->g (h.set i x)=g h)->
  (lex cs).countP (λh=>decide<|g h=h.getD i 0)*cs.getD i 0=(lex cs).length
 |0::cs,0,g,_,_,_=>by simp[lex]
 |(c+1)::cs,0,g,_,b,d=>by
  have a:∀q∈lex cs,(0::q)∈lex ((c+1)::cs):=λq hq=>by
   simp only[lex,List.mem_flatMap,List.mem_range,List.mem_map];exact⟨0,succ_pos _,q,hq,rfl⟩
  have e:(lex ((c+1)::cs)).countP (λh=>decide<|g h=h.getD 0 0)=(lex cs).length:=by
   rw[lex,fm]
   have:∀x∈List.range (c+1),((lex cs).map (x::·)).countP (λh=>decide<|g h=h.getD 0 0)=(lex cs).countP λq=>decide (g (0::q)=x):=by
    intro x hx;rw[List.countP_map];refine List.countP_congr λq hq=>?_
    have:=d _ (a q hq) x<|List.mem_range.mp hx
    simp only[set_cons_zero]at this
    simp[this]
   rw[List.map_congr_left this,lO λx q=>decide<|g (0::q)=x]
   have:∀q∈lex cs,(List.range<|c+1).countP (λx=>decide<|g (0::q)=x)=1:=λq hq=>tR<|b _<|a q hq
   rw[List.map_congr_left this,MS,Nat.mul_one]
  rw[e,lN,lN];simp[cC,Nat.mul_comm]
 |c::cs,i+1,g,hi,b,d=>by
  rw[lex,fm,List.length_flatMap];simp only[length_map,MS];refine CT _ _ _ _ λx hx=>?_;have a:∀q∈lex cs,(x::q)∈lex (c::cs):=λq hq=>by
   simp only[lex,List.mem_flatMap,List.mem_range,List.mem_map];exact⟨x,List.mem_range.mp hx,q,hq,rfl⟩
  have:=mM cs i (λq=>g (x::q)) (Nat.lt_of_succ_lt_succ hi) (λq hq=>b _<|a q hq) λq hq y hy=>d _ (a q hq) y hy
  rw[List.countP_map];exact this
noncomputable def iE(n:Nat)(g:Nat->d_->Nat)(h:d_):Nat:=(List.range n).countP λi=>decide<|g i h=h.getD i 0
def AQ(cs:d_)(g:Nat->d_->Nat):((lex cs).map<|iE cs.length g).sum=((List.range cs.length).map λi=>(lex cs).countP λh=>decide<|g i h=h.getD i 0).sum:=by
 unfold iE;rw[lO (λh i=>decide<|g i h=h.getD i 0)]
theorem Jw{α:Type}(f:α->Nat)(k:Nat):∀l:List α,(∀a∈l,k<=f a)->l.length*k<=(l.map f).sum
 | [],_=>by simp
 |a::l,h=>by
  have:=Jw f k l λb hb=>h b<|mem_cons_of_mem _ hb
  have e:=h a<|mem_cons_self ..;simp only[map_cons,sum_cons,length_cons,Nat.add_mul,Nat.one_mul]
  omega
def least_le(cs:d_)(g:Nat->d_->Nat){k:Nat}(pos:0<(lex cs).length)
  (hr:∀i,i<cs.length->∀h∈lex cs,g i h<cs.getD i 0) (hs:∀i,i<cs.length->∀h∈lex cs,∀x,x<cs.getD i 0->g i (h.set i x)=g i h)
  (hk:∀h∈lex cs,k<=iE cs.length g h):k<=((List.range cs.length).map λi=>(lex cs).length / cs.getD i 0).sum / (lex cs).length:=by
 rw[Nat.le_div_iff_mul_le pos,Nat.mul_comm];refine Nat.le_trans (Jw _ _ _ hk) ?_;rw[AQ];refine Nat.le_of_eq<|congrArg List.sum<|List.map_congr_left λi hi=>?_;have hi:=List.mem_range.mp hi;have e:=mM cs i (g i) hi (hr i hi)<|hs i hi;obtain⟨h,hh⟩:=List.exists_mem_of_length_pos pos;have a:0<cs.getD i 0:=Nat.lt_of_le_of_lt (zero_le _)<|hr i hi h hh;rw[<-e,Nat.mul_div_cancel _ a]
def Jx(cs:d_)(g:d_->Nat){i:Nat}(hi:i<cs.length)(hr:∀h∈lex cs,g h<cs.getD i 0)(hs:∀h∈lex cs,∀x,x<cs.getD i 0->g (h.set i x)=g h)(c0:0<cs.getD i 0):
  (lex cs).countP (λh=>decide<|g h=h.getD i 0)=(lex cs).length / cs.getD i 0:=by
 rw[<-mM cs i g hi hr hs,Nat.mul_div_cancel _ c0]
variable{p d:Nat}
def MT(hp:∀k,k∣p->k=1∨k=p)(h:¬p∣d):Coprime d p:=by
 rcases hp _ (Nat.gcd_dvd_right d p)with e|e
 ·exact e
 ·exact absurd (e ▸ Nat.gcd_dvd_left d p) h
def VR:∀k,k∣2->k=1∨k=2:=λk h=>by
 have:=Nat.le_of_dvd a_ h
 have:k=0∨k=1∨k=2:=by omega
 rcases this with rfl|rfl|rfl<;>revert h<;>decide
def V8:∀k,k∣3->k=1∨k=3:=λk h=>by
 have:=Nat.le_of_dvd a_ h
 have:k=0∨k=1∨k=2∨k=3:=by omega
 rcases this with rfl|rfl|rfl|rfl<;>revert h<;>decide
def V9:∀k,k∣5->k=1∨k=5:=λk h=>by
 have:=Nat.le_of_dvd a_ h
 have:k=0∨k=1∨k=2∨k=3∨k=4∨k=5:=by omega
 rcases this with rfl|rfl|rfl|rfl|rfl|rfl<;>revert h<;>decide
def vi{cs:d_}(hc:∀c∈cs,c∣60)(h:d∣cs.foldr (· * ·) 1)(h2:¬2∣d)(h3:¬3∣d)(h5:¬5∣d):d=1:=by
 have a:Coprime d 60:=by
  rw[show 60=2*(2*(3*5))from rfl]
  exact(MT VR h2).mul_right ((MT VR h2).mul_right<|(MT V8 h3).mul_right<|MT V9 h5)
 have:Coprime d (cs.foldr (· * ·) 1):=by
  clear h
  induction cs with
  |nil=>exact Nat.coprime_one_right d
  |cons c cs b=>exact(a.coprime_dvd_right<|hc c mem_cons_self).mul_right (b λx hx=>hc x<|mem_cons_of_mem _ hx)
 exact Nat.dvd_one.mp<|this.gcd_eq_one ▸ Nat.dvd_gcd (Nat.dvd_refl d) h
def Rc{c:Nat}(h1:1<=c)(h6:c<=6):c∣60:=by
 have:c=1∨c=2∨c=3∨c=4∨c=5∨c=6:=by omega
 rcases this with rfl|rfl|rfl|rfl|rfl|rfl<;>decide
variable{o w o' g w':Nat}
def Ew(ho:o=g*o')(hw:w=g*w')(hg:0<g)(c:Nat.gcd o' w'=1):o'=o / Nat.gcd o w/\w'=w / Nat.gcd o w:=by
 have:Nat.gcd o w=g:=by rw[ho,hw,Nat.gcd_mul_left,c,Nat.mul_one]
 rw[this,ho,hw,Nat.mul_div_cancel_left _ hg,Nat.mul_div_cancel_left _ hg];exact⟨rfl,rfl⟩
def MU{cs:d_}(hc:∀c∈cs,1<=c/\c<=6)(ho:o=g*o')(hw:cC cs=g*w')(hg:0<g)(h2:¬(2∣o'/\2∣w'))(h3:¬(3∣o'/\3∣w'))(h5:¬(5∣o'/\5∣w')):
  o'=o / Nat.gcd o (cC cs)/\w'=cC cs / Nat.gcd o (cC cs):=by
 refine Ew ho hw hg<|vi (λc h=>Rc (hc c h).1 (hc c h).2) (d:=Nat.gcd o' w') ?_ (λh=>h2 ?_) (λh=>h3 ?_) (λh=>h5 ?_)
 ·have:w'∣cC cs:=⟨g,by rw[hw,Nat.mul_comm]⟩
  exact Nat.dvd_trans (Nat.gcd_dvd_right _ _) this
 all_goals exact⟨Nat.dvd_trans h<|Nat.gcd_dvd_left _ _,Nat.dvd_trans h<|Nat.gcd_dvd_right _ _⟩
def Jy{k:Nat}(h:∃g,0<g/\o=g*o'/\w=g*w')(a:k∣o')(b:k∣w')(hk:0<k):∃g,0<g/\o=g*(o' / k)/\w=g*(w' / k):=by
 obtain⟨g,c,e,f⟩:=h;refine⟨g*k,Nat.mul_pos c hk,?_,?_⟩
 ·rw[Nat.mul_assoc,Nat.mul_div_cancel' a];exact e
 ·rw[Nat.mul_assoc,Nat.mul_div_cancel' b];exact f
def Jz{k:Nat}(h:¬(p∣o'/\p∣w'))(a:k∣o')(b:k∣w'):¬(p∣o' / k/\p∣w' / k):=λz=>h
 ⟨Nat.dvd_trans z.1 ⟨k,(Nat.div_mul_cancel a).symm⟩,Nat.dvd_trans z.2 ⟨k,(Nat.div_mul_cancel b).symm⟩⟩
def JA{c k:Nat}(h:w<=64 / 2 ^ (k+1))(hk:k<6):(if w*c>64 / 2 ^ k then w*2 else w*c)<=64 / 2 ^ k:=by
 have e:64 / 2 ^ (k+1)*2<=64 / 2 ^ k:=by
  have:k=0∨k=1∨k=2∨k=3∨k=4∨k=5:=by omega
  rcases this with rfl|rfl|rfl|rfl|rfl|rfl<;>decide
 split
 ·exact Nat.le_trans (Nat.mul_le_mul_right 2 h) e
 ·omega
end AH
namespace L2
open PySem PySem.Spec PyProof.Rows
noncomputable def nI(h:d_):e_:=h.map λ(x:Nat)=>(x:Int)
def mO(h:d_)(i:Nat):(nI h).getD i 0=((h.getD i 0:Nat):Int):=by
 unfold nI;rw[b3,ed,b3]
 cases h[i]?<;>rfl
def mP(h:d_):(nI h).length=h.length:=by unfold nI;rw[b5]
variable{h:d_}
def AR{cs:d_}(m:h∈AH.lex cs):HN (nI cs) (nI h) (nI cs).length:=by
 obtain⟨a,b⟩:=AH.oM.mp m;refine⟨by rw[mP,mP,a],λi hi=>?_⟩
 rw[mP]at hi;rw[mO,mO]
 have:=b i hi
 omega
noncomputable def vE(cs:d_)(L:B0L)(i:Nat)(h:d_):Nat:=(ip (nI cs) L (nI h) i).toNat
def AS{cs:d_}(hp:∀c∈cs,1<=c):∀c∈nI cs,1<=c:=λc hc=>by
 unfold nI at hc;obtain⟨x,hx,rfl⟩:=gh.mp hc
 have:=hp x hx;omega
def vF{cs ws:d_}{L:B0L}(hp:∀c∈cs,1<=c)(G:jV (nI cs) ws L){i:Nat}(hi:i<cs.length)(m:h∈AH.lex cs):((vE cs L i h:Nat):Int)=ip (nI cs) L (nI h) i:=by
 have:=ow (AS hp) (AR m) G (i:=i) (by rw[mP];exact hi)
 unfold vE;omega
def OM{cs ws:d_}{L:B0L}(hp:∀c∈cs,1<=c)(G:jV (nI cs) ws L){i:Nat}(hi:i<cs.length)(m:h∈AH.lex cs):vE cs L i h<cs.getD i 0:=by
 have:=ow (AS hp) (AR m) G (i:=i) (by rw[mP];exact hi)
 rw[mO]at this;unfold vE;omega
def JB{cs ws:d_}{L:B0L}(hp:∀c∈cs,1<=c)(G:jV (nI cs) ws L)(hw:∀i,i<cs.length->cF ws i i=false){i:Nat}(hi:i<cs.length)(m:h∈AH.lex cs)(x:Nat):vE cs L i (h.set i x)=vE cs L i h:=by
 unfold vE;rw[sY (hs:=nI<|h.set i x) (hs':=nI h) G λj hj=>?_]
 have:i≠j:=λz=>by rw[<-z,hw i hi]at hj;cases hj
 rw[mO,mO]
 simp[getD_eq_getElem?_getD,List.getElem?_set_ne this]
def Ex{cs ws:d_}{L:B0L}(hp:∀c∈cs,1<=c)(G:jV (nI cs) ws L)(hw:∀i,i<cs.length->cF ws i i=false){i:Nat}(hi:i<cs.length):(AH.lex cs).countP (λh=>decide<|vE cs L i h=h.getD i 0)=(AH.lex cs).length / cs.getD i 0:=by
 refine AH.Jx cs (vE cs L i) hi (λh m=>OM hp G hi m) (λh m x _=>JB hp G hw hi m x) ?_
 have:=hp (cs.getD i 0) (by rw[b3,b4 hi];exact kf _)
 omega
def CU{cs:d_}(hp:∀c∈cs,1<=c):0<(AH.lex cs).length:=by
 rw[AH.lN];unfold AH.cC
 induction cs with
 |nil=>decide
 |cons c cs a=>exact Nat.mul_pos (hp c fA)<|a λx hx=>hp x<|fz _ hx
def Ey{cs ws:d_}{L:B0L}(hp:∀c∈cs,1<=c)(G:jV (nI cs) ws L)(hw:∀i,i<cs.length->cF ws i i=false){k:Nat}(hk:∀h∈AH.lex cs,k<=AH.iE cs.length (vE cs L) h):k<=((List.range cs.length).map λi=>(AH.lex cs).length / cs.getD i 0).sum / (AH.lex cs).length:=
 AH.least_le cs (vE cs L) (CU hp) (λi hi h m=>OM hp G hi m) (λi hi h m x _=>JB hp G hw hi m x) hk
def JC{cs ws:d_}{L:B0L}(hp:∀c∈cs,1<=c)(G:jV (nI cs) ws L)(hw:∀i,i<cs.length->cF ws i i=false)(m:h∈AH.lex cs):(L.map<|iT<|nI cs).sum<=((AH.iE cs.length (vE cs L) h:Nat):Int):=by
 refine Int.le_trans (jh (AS hp) (AR m) G)<|Int.le_of_eq ?_;unfold rat AH.iE;rw[mP,List.countP_eq_length_filter]
 congr 2
 refine Ww λi hi=>?_;have hi:=fO.mp hi;show decide (ip (nI cs) L (nI h) i=(nI h).getD i 0)=_;rw[<-vF hp G hi m,mO];exact WA.mpr ⟨λz=>by omega,λz=>by omega⟩
noncomputable def dB(ws:d_):Nat->d_->d_->Bool
 |0,a,_=>cF ws (a.getLastD 0)<|a.headD 0
 |n+1,a,rest=>rest.any λj=>cF ws (a.getLastD 0) j&&dB ws n (a++[j]) (rest.filter λk=>decide<|k≠j)
theorem gw{j:Nat}:∀ {l:d_},l.Nodup->j∈l->(l.filter λk=>decide<|k≠j).length+1=l.length
 |a::l,h,m=>by
  obtain⟨h1,c⟩:=m3.mp h
  by_cases e:a=j
  ·subst e
   have:l.filter (λk=>decide<|k≠a)=l:=List.filter_eq_self.mpr λx hx=>cc λz=>h1<|z ▸ hx
   rw[List.filter_cons_of_neg (by simp),this];rfl
  ·have b:j∈l:=(gg.mp m).resolve_left λz=>e z.symm
   have:=gw c b
   simp[e]at this ⊢;omega
theorem mQ{ws:d_}:∀ {n:Nat} {way rest:d_},rest.length=n->rest.Nodup->way≠[]->
  (dB ws n way rest=true↔∃q:d_,q.length=n/\q.Nodup/\(∀x∈q,x∈rest)/\
   (∀t,t<n->cF ws ((way.getLastD 0::q).getD t 0) ((way.getLastD 0::q).getD (t+1) 0)=true)/\cF ws ((way.getLastD 0::q).getD n 0) (way.headD 0)=true)
 |0,way,rest,p,hn,o=>by
  unfold dB
  constructor
  ·intro h;exact⟨[],rfl,nodup_nil,(λx hx=>by cases hx),λt i=>absurd i<|sU _,h⟩
  ·rintro⟨q,h1,_,_,_,h⟩;exact h
 |n+1,way,rest,p,hn,o=>by
  unfold dB;rw[Wz];have m:∀j,(way++[j]).headD 0=way.headD 0:=λj=>by cases way with|nil=>exact absurd rfl o|cons a l=>rfl
  have f:∀j,(way++[j]).getLastD 0=j:=λj=>by simp
  constructor
  ·rintro⟨j,hj,h⟩;rw[gc]at h;have k:=gw hn hj;obtain⟨q,h1,g,c,d,e⟩:=(mQ (n:=n) (by omega) (hn.filter _) (by simp)).mp h.2
   rw[f,m]at e;rw[f]at d;refine⟨j::q,by simp[h1],m3.mpr ⟨λz=>?_,g⟩,λx hx=>?_,λt i=>?_,e⟩
   ·have:=c j z;simp at this
   ·rcases gg.mp hx with rfl|hx
    ·exact hj
    ·exact(j5.mp<|c x hx).1
   ·cases t with
    |zero=>exact h.1
    |succ t=>exact d t (by omega)
  ·rintro⟨q,h1,g,c,d,e⟩
   cases q with
   |nil=>simp at h1
   |cons j q=>
    obtain⟨a,b⟩:=m3.mp g;have hj:=c j fA;have k:=gw hn hj;refine⟨j,hj,?_⟩;rw[gc];refine⟨d 0<|succ_pos _,(mQ (n:=n) (by omega) (hn.filter _) (by simp)).mpr ⟨q,Nat.succ.inj h1,b,λx hx=>j5.mpr ⟨c x<|fz _ hx,cc λz=>a<|z ▸ hx⟩,λt i=>?_,?_⟩⟩
    ·rw[f];exact d (t+1) (by omega)
    ·rw[f,m];exact e
variable{m:Nat}{cs:e_}
def qa{ws:d_}(hn:2<=(aq m).length)(hc:∀x∈aq m,cs.getD x 0=2):
  dB ws ((aq m).length-1) [(aq m).getD 0 0] ((aq m).drop 1)=true↔jl cs ws m:=by
 have i:aq m≠[]:=λz=>by rw[z]at hn;simp at hn
 rw[<-IV i hn hc];have j:=ck m;rw[mQ (by simp) (j.sublist<|drop_sublist _ _) (by simp)]
 generalize aq m=l at *
 cases l with
 |nil=>exact absurd rfl i
 |cons a l=>
  obtain⟨r,v⟩:=m3.mp j;simp only[length_cons,Nat.add_sub_cancel,List.drop_succ_cons,drop_zero,List.getD_cons_zero,List.headD_cons,List.getLastD_cons,List.getLastD_nil]
  constructor
  ·rintro⟨q,h1,f,c,h,d⟩;refine⟨mask (a::q),(a::q).getD l.length 0,⟨a::q,by simp[h1],m3.mpr ⟨λz=>r<|c a z,f⟩,λx hx=>?_,rfl,h,rfl,rfl⟩,d⟩
   rcases gg.mp hx with rfl|hx
   ·exact fA
   ·exact fz _<|c x hx
  ·rintro⟨g,z,⟨p,h1,f,c,h,d,u,t⟩,o⟩
   cases p with
   |nil=>simp at h1
   |cons b q=>
    have e:b=a:=h;subst e;obtain⟨n,s⟩:=m3.mp f;refine⟨q,by simpa using h1,s,λx hx=>?_,d,?_⟩
    ·exact(gg.mp<|c x<|fz _ hx).resolve_left λe=>n<|e ▸ hx
    ·rw[t];exact o
variable{t:Nat}{l:d_}
def T9(h:t<l.length):l.getD t 0=l[t]:=by rw[b3,b4 h];rfl
noncomputable def bH(l:d_)(k:Nat):d_:=((List.range l.length).filter λt=>k.testBit t).map λt=>l.getD t 0
variable{x:Nat}
def tT{k:Nat}(h:x∈bH l k):x∈l:=by
 unfold bH at h;obtain⟨t,a,rfl⟩:=gh.mp h;rw[T9 (fO.mp (j5.mp a).1)];exact kf _
def fH(h:l.Pairwise (· < ·))(k:Nat):(bH l k).Pairwise (· < ·):=by
 unfold bH;rw[pairwise_map];refine List.Pairwise.imp_of_mem ?_ ((List.pairwise_lt_range (n:=l.length)).sublist Wm);intro a b c hb d;have c:=fO.mp (j5.mp c).1;have hb:=fO.mp (j5.mp hb).1;rw[T9 c,T9 hb];exact List.pairwise_iff_getElem.mp h a b c hb d
def Ez(h:l.Pairwise (· < ·)){part:Nat}(hs:Sub part (mask l)):∃k,k<2 ^ l.length/\bH l k=aq part:=by
 have m:l.Nodup:=h.imp λz=>j9 z;have f:((List.range l.length).filter λt=>part.testBit<|l.getD t 0).Nodup:=Wj.filter _;refine⟨mask<|(List.range l.length).filter λt=>part.testBit<|l.getD t 0,uU f λi hi=>fO.mp (j5.mp hi).1,?_⟩;generalize e:mask ((List.range l.length).filter λt=>part.testBit<|l.getD t 0)=k;have hk:∀t,t<l.length->k.testBit t=part.testBit (l.getD t 0):=λt a=>by
  rw[<-e,bC f]
  by_cases c:part.testBit (l.getD t 0)=true
  ·rw[c];exact cc<|j5.mpr ⟨fO.mpr a,c⟩
  ·rw[Gc.mpr c];exact dt λz=>c (j5.mp z).2
 have d:=fH h k;rw[<-jO d]
 congr 1
 apply DK
 intro j;rw[bC (d.imp λz=>j9 z)]
 by_cases c:part.testBit j=true
 ·rw[c];have hj:=hs j c;rw[bC m]at hj;obtain⟨t,a,b⟩:=qN<|ot hj;have b:l.getD t 0=j:=by rw[T9 a];exact b
  exact cc (gh.mpr ⟨t,j5.mpr ⟨fO.mpr a,by rw[hk t a,b];exact c⟩,b⟩)
 ·rw[Gc.mpr c];refine dt λz=>c ?_;obtain⟨t,a,b⟩:=gh.mp z;have a:=j5.mp a;have g:=fO.mp a.1;rw[<-b,<-hk t g];exact a.2
theorem CV{v:Nat->Nat}(h0:v 0=0):∀(n m:Nat),m<n->∃s,dZ v m s
 |n+1,m,hm=>by
  by_cases c:m=0
  ·subst c;exact⟨0,dZ.zero h0⟩
  ·obtain⟨i,hi⟩:=Nat.exists_testBit_of_ne_zero c;have r:2 ^ i<=m:=(eQ hi).le;have w:0<2 ^ i:=r4 i;have x:∀k,∃s,k<m->dZ v k s:=λk=>by
    by_cases hk:k<m
    ·obtain⟨s,h⟩:=CV h0 n k (by omega);exact⟨s,λ_=>h⟩
    ·exact⟨0,λz=>absurd z hk⟩
   obtain⟨f,o⟩:=Classical.axiomOfChoice x;have u:∀N,∃most,(∃l,yT m l/\val v l=most)/\f (m-2 ^ i)<=most/\∀a,a<N->Sub a (m-2 ^ i)->f ((m-2 ^ i)-a)+v (2 ^ i+a)<=most:=by
    intro N
    induction N with
    |zero=>exact⟨f<|m-2 ^ i,I0 hi (o _ (by omega)),dy _,λp g=>absurd g<|sU _⟩
    |succ N y=>
     obtain⟨b,h1,q,j⟩:=y
     by_cases t:Sub N (m-2 ^ i)/\b<f ((m-2 ^ i)-N)+v (2 ^ i+N)
     ·refine⟨_,by have:=xS hi t.1 (o ((m-2 ^ i)-N) (by omega));rw[Nat.add_comm]at this;exact this,by omega,λp g d=>?_⟩
      by_cases e:p=N
      ·subst e;exact dy _
      ·have:=j p (by omega) d;omega
     ·refine⟨b,h1,q,λp g d=>?_⟩
      by_cases e:p=N
      ·subst e;exact Nat.le_of_not_lt λz=>t ⟨d,z⟩
      ·exact j p (by omega) d
   obtain⟨most,h1,q,j⟩:=u<|m+1;exact⟨most,xT hi f o h1 q λa g _=>j a (by have:=g.le;omega) g⟩
noncomputable def most (v:Nat->Nat)(m:Nat):Nat:=open Classical in if h:∃s,dZ v m s then h.choose else 0
variable{v:Nat->Nat}
def lP(h0:v 0=0)(m:Nat):dZ v m (most v m):=by
 have h:=CV h0 (m+1) m<|Wd _;unfold most;rw[dif_pos h];exact h.choose_spec
def dZ.uniq{s:Nat}(a:dZ v m s)(b:dZ v m t):s=t:=by
 obtain⟨⟨l,d,e⟩,c⟩:=a;obtain⟨⟨k,hk,f⟩,hb⟩:=b
 have:=c k hk
 have:=hb l d
 omega
variable{a:Nat}
def hJ(e:aq m=a::l):l.Pairwise (· < ·):=by have:=eV m;rw[e]at this;exact(ro.mp this).2
def Ua(e:aq m=a::l)(h:x∈l):a<x:=by have:=eV m;rw[e]at this;exact(ro.mp this).1 x h
def AU(e:aq m=a::l):m.testBit a=true:=bc.mp (by rw[e];exact fA)
def CW(e:aq m=a::l):mask l=m-2 ^ a:=by
 have:=jR m
 rw[e]at this;unfold mask at this ⊢;rw[m5,C6]at this
 omega
def AV(e:aq m=a::l)(k:Nat):Sub (mask<|bH l k) (m-2 ^ a):=λj hj=>by
 have b:=fH (hJ e) k;rw[bC (b.imp λz=>j9 z)]at hj;rw[<-CW e,bC<|(hJ e).imp λz=>j9 z];exact cc<|tT<|ot hj
def MV(e:aq m=a::l)(k:Nat):aq (2 ^ a+mask (bH l k))=a::bH l k:=by
 have s:(a::bH l k).Pairwise (· < ·):=ro.mpr ⟨λx hx=>Ua e<|tT hx,fH (hJ e) k⟩;rw[<-jO s];unfold mask;rw[m5,C6]
def CY(e:aq m=a::l)(k:Nat):(a::l).filter (λi=>decide (i∉a::bH l k))=aq ((m-2 ^ a)-mask (bH l k)):=by
 have b:=fH (hJ e) k;have d:=b.imp (R:=(· < ·)) (S:=(·≠·)) λz=>j9 z;have s:((a::l).filter λi=>decide (i∉a::bH l k)).Pairwise (· < ·):=List.Pairwise.sublist Wm (by rw[<-e];exact eV m)
 rw[<-jO s]
 congr 1
 apply DK
 intro j;rw[bC (s.imp λz=>j9 z),gm<|AV e k,bC d,bU<|AU e];have hm:m.testBit j=decide (j∈a::l):=by
  rw[<-e]
  by_cases c:m.testBit j=true
  ·rw[c,cc<|bc.mpr c]
  ·rw[Gc.mpr c,dt λz=>c<|bc.mp z]
 rw[hm];simp only[List.mem_filter,mem_cons,decide_eq_true_eq,not_or]
 by_cases h1:j=a
 ·subst h1;simp
 ·by_cases f:j∈l<;>by_cases g:j∈bH l k<;>simp[h1,f,g,Ne.symm h1]
def EA(e:aq m=a::l)(h0:v 0=0){b:Nat}(up:∀k,k<2 ^ l.length->v (2 ^ a+mask (bH l k))+most v ((m-2 ^ a)-mask (bH l k))<=b)
  (at_:b=0∨∃k,k<2 ^ l.length/\b=v (2 ^ a+mask (bH l k))+most v ((m-2 ^ a)-mask (bH l k))):b=most v m:=by
 have hi:=AU e;refine dZ.uniq (v:=v) (m:=m) (xT hi (most v) (λk _=>lP h0 k) ?_ ?_ λd c _=>?_)<|lP h0 m
 ·rcases at_ with rfl|⟨k,hk,rfl⟩
  ·exact⟨[],⟨λx hx=>(by cases hx),List.Pairwise.nil⟩,rfl⟩
  ·exact xS hi (AV e k)<|lP h0 _
 ·have:=up 0<|r4 _
  have z:bH l 0=[]:=by unfold bH;simp
  rw[z,show mask []=0 from rfl,Nat.sub_zero]at this
  omega
 ·rw[<-CW e]at c;obtain⟨k,hk,f⟩:=Ez (hJ e) c
  have:=up k hk
  rw[f,jR]at this
  omega
def EB{ws:d_} :(2<=(aq m).length/\(∀x∈aq m,cs.getD x 0=2)/\dB ws ((aq m).length-1) [(aq m).getD 0 0] ((aq m).drop 1)=true)↔jl cs ws m:=by
 constructor
 ·rintro⟨a,b,c⟩;exact(qa a b).mp c
 ·intro h;have e:=h;obtain⟨r,h1,d,f,g,_⟩:=h;have p:r.Perm (aq m):=(List.perm_ext_iff_of_nodup h1<|ck m).mpr λx=>by rw[d,bc]
  have a:2<=(aq m).length:=by rw[<-p.length_eq];exact f
  have b:∀x∈aq m,cs.getD x 0=2:=λx hx=>g x<|p.mem_iff.mpr hx;exact⟨a,b,(qa a b).mpr e⟩
def x9{ws:d_}(hp:∀c∈cs,1<=c)(hm:m<2 ^ cs.length){b:Prop}[Decidable b](h:b↔jl cs ws m):(if b then max 1 (eI cs ws m)else eI cs ws m)=(worth cs ws m:Int):=by
 have:=gn (ws:=ws) hp hm
 unfold worth
 by_cases c:b
 ·rw[if_pos c,if_pos<|h.mp c]
  split<;>omega
 ·rw[if_neg c,if_neg λz=>c<|h.mpr z]
  split<;>omega
inductive lQ(K:Frag)(n:Nat)(vs:u_)(H:Hp)(Q:VK)(E:XK):Prop
 |mk (w y r:Addr) (ws way rest:d_):(vs=[.ref w,.ref y,.ref r])->aw K H w ((au ws).map V.int)->aw K H y ((au way).map V.int)->aw K H r ((au rest).map V.int)->ws.length<=8->way≠[]->((∀x∈way,x<ws.length))->((∀x∈rest,x<ws.length))->rest.Nodup->rest.length<=n->way.length+rest.length<=8->(∀H',ag H H'->Q (.bl<|dB ws rest.length way rest) H')->lQ K n vs H Q E
inductive MW(K:Frag)(n:Nat)(vs:u_)(H:Hp)(Q:VK)(E:XK):Prop
 |mk (c w p:Addr) (cs:e_) (ws:d_) (m:Nat):(vs=[.ref c,.ref w,.ref p])->aw K H c (cs.map V.int)->aw K H w ((au ws).map V.int)->aw K H p ((au<|aq m).map V.int)->cj cs->ws.length=cs.length->m<2 ^ cs.length->(aq m).length<=n+1->(∀H',ag H H'->Q (.int ((worth cs ws m:Nat):Int)) H')->MW K n vs H Q E
inductive lR(K:Frag)(n:Nat)(vs:u_)(H:Hp)(Q:VK)(E:XK):Prop
 |mk (c w p:Addr) (cs:e_) (ws:d_) (m:Nat):(vs=[.ref c,.ref w,.ref p])->aw K H c (cs.map V.int)->aw K H w ((au ws).map V.int)->aw K H p ((au<|aq m).map V.int)->cj cs->ws.length=cs.length->m<2 ^ cs.length->(aq m).length<=n->(aq m).length<=5->(∀H',ag H H'->Q (.int ((most (worth cs ws) m:Nat):Int)) H')->lR K n vs H Q E
def Vy{i0 j:Int}{lo n:Nat}{tc:TT}{te:TE}{rest:St}{Q:VK}{H1:Hp}(keep:Nat->Bool)(val:Nat->Int)(ei:i0=(lo:Int))(ej:j=((lo+n:Nat):Int))(hn:lo+n<=1000000)
  (step:∀i H (A:q_) (B:r_),i<n->ag H1 H->(keep i=true->∀H',ag H H'->A (.int<|val i) H')->(keep i=false->∀H',ag H H'->B H')->
   tc (some (.int ((lo+i:Nat):Int))::rest) H λb H3=>if b=true then te (some (.int ((lo+i:Nat):Int))::rest) H3 A else B H3)
  (fin:∀B_ H,H1 B_=none->ag H1 H->H B_=some (.lst<|(((List.range n).filter keep).map val).map V.int)->Q (.ref B_) H):
  ∃i' j':Int,[V.int i0,V.int j]=[.int i',.int j']/\(-(2 ^ 62)<=i'/\i' < 2 ^ 62/\-(2 ^ 62)<=j'/\j' < 2 ^ 62)/\sN (bF 0) tc te (none::rest) Q (wF i' (j'-i').toNat) H1:=by
 subst ei ej;refine⟨_,_,rfl,⟨by omega,by omega,by omega,by omega⟩,?_⟩
 rw[show(((lo+n:Nat):Int)-(lo:Int)).toNat=n by omega]
 refine wu kr keep (λi=>.int<|val i) (m2 (show n<=1000000 by omega) a_) (λi H A B hi a d f=>?_) λB_ H h1 c e=>fin B_ H h1 c (by rw[e,k6];rfl)
 rw[show(lo:Int)+(i:Nat)=((lo+i:Nat):Int) by omega]
 exact step i H A B hi a d f
inductive jo(K:Frag)(cH cD:Addr)(vs:u_)(H:Hp)(Q:VK)(E:XK):Prop
 |mk (d hl nm ct:Addr) (ns:f_) (cs ws:d_) (L:B0L) (hs:e_):(vs=[.ref d,.ref nm,.ref ct])->bZ K cH cD H d hl ns cs ws L hs->bD ns cs ws L hs->aw K H nm (ns.map V.str)->aw K H ct ((au cs).map V.int)->((∀c∈cs,c<=64))->(∀(f:Addr) (H':Hp),ag H H'->H f=none->H' f=some (.lst<|((List.range ns.length).map λi=>ip (au cs) L hs i).map V.int)->Q (.ref f) H')->jo K cH cD vs H Q E
inductive kG(K:Frag)(cH cD:Addr)(vs:u_)(H:Hp)(Q:VK)(E:XK):Prop
 |mk (d hl ct:Addr) (ns:f_) (cs ws:d_) (L:B0L) (hs:e_):(vs=[.ref d,.ref ct])->bZ K cH cD H d hl ns cs ws L hs->bD ns cs ws L hs->aw K H ct ((au cs).map V.int)->((∀c∈cs,c<=6))->(∀H',ag H H'->Q (.bl true) H')->kG K cH cD vs H Q E
def tU(n:Nat):47∉cz (cX ((n:Nat):Int)):=λh=>by
 rw[p6]at h;obtain⟨c,hc,e⟩:=gh.mp h
 have:=Nat.isDigit_of_mem_toDigits a_ a_ hc
 simp only[Char.isDigit,Bool.and_eq_true,decide_eq_true_eq]at this;have h1:48<=c.toNat:=this.1
 omega
def ya{b:Nat}:Txt.split (cX ((a:Nat):Int)++("/":Str)++cX ((b:Nat):Int)) ("/":Str)=[cX ((a:Nat):Int),cX ((b:Nat):Int)]:=by
 rw[show("/":Str)=⟨#[47]⟩ by decide +kernel]
 exact eD 47 (a:=[cX ((a:Nat):Int),cX ((b:Nat):Int)]) (by simp) λx hx=>by
  rcases gg.mp hx with rfl|hx
  ·exact tU a
  ·rw[eG.mp hx];exact tU b
theorem vG:∀cs:d_,pr (au cs)=((AH.cC cs:Nat):Int)
 | []=>rfl
 |c::cs=>by
  show(c:Int)*pr (au cs)=((c*AH.cC cs:Nat):Int);rw[vG cs];exact(natCast_mul _ _).symm
def kH(h:x<=8){R:Prop}(r:R):Pn 1 ((x:Nat):Int)/\((0:Int)<((2 ^ x:Nat):Int)/\(((2 ^ x:Nat):Int)).natAbs.log2<9000)/\R:=by
 have b:0<2 ^ x:=Nat.pow_pos a_
 have a:2 ^ x<=2 ^ 8:=oD a_ h
 refine⟨dY (by omega),⟨by omega,?_⟩,r⟩
 rw[Da];exact(log2_lt (by omega)).mpr (m2 a (KM a_ a_))
def JD(L:List (d_))(c:Nat):ext (L.map au) c=(AH.grow L c).map au:=by
 unfold ext AH.grow
 simp[List.map_flatMap,List.flatMap_map,au,Function.comp_def]
theorem qb:∀(cs:d_) (L:List (d_)),(au cs).foldl (λL c=>ext L c.toNat) (L.map au)=(cs.foldl AH.grow L).map au
 | [],L=>rfl
 |c::cs,L=>by
  show(au cs).foldl _ (ext (L.map au) ((c:Int)).toNat)=_;rw[k4,JD,qb cs];rfl
def JE(cs:d_):gB (au cs)=(AH.lex cs).map au:=by
 rw[<-AH.MR];exact qb cs [[]]
def AW{ns:f_}(h:∀x∈ns,bI x=true)(hl:∀i∈l,i<ns.length):Txt.split (Str.join ⟨#[32]⟩<|dI ns l) ⟨#[32]⟩=if l=[]then[("":Str)]else l.map λi=>ns.getD i bo:=by
 unfold dI
 by_cases z:l=[]
 ·rw[if_pos z,if_pos z];decide +kernel
 ·rw[if_neg z,if_neg z];show Txt.split (Str.join ⟨#[32]⟩<|l.map λi=>ns.getD i bo) ⟨#[32]⟩=_;refine eD 32 (λe=>z<|q5.mp e) λx hx=>?_;obtain⟨i,hi,rfl⟩:=gh.mp hx;exact(fP<|h _<|getD_memS<|hl i hi).1
abbrev jq:=Int × List Int
def j1(P:Program)(w:World)(h:Heap)(k:jq)(a:Addr):Prop:=∃o n t c,h.get? a=some o/\o.cls=.type "tuple"/\o.data=.seq #[.int k.1 t,.ref c] n/\IsTupleKey (intKind P w) h k.2 c
variable{P:Program}{w:World}
def AX{i:Int} :(intKind P w).is i (.int i t)=true:=by simp[intKind,Value.isInt]
variable{s:Shared}{a:Addr}{k:jq}
def j1.ty(h:j1 P w s.heap k a):s.TypeIs (.ref a) "tuple":=by obtain⟨o,_,_,_,e,c,_⟩:=h;exact⟨o,e,c⟩
variable{x y:jq}
theorem j1.inj{h:Heap}(hx:j1 P w h x a)(hy:j1 P w h y a):x=y:=by
 obtain⟨o,n,t,c,e,_,d,q⟩:=hx;obtain⟨p,l,m,r,g,_,b,i⟩:=hy
 cases o6 (e.symm.trans g)
 rw[d]at b
 injection b with j
 have f:=BA Array.toList j
 injection f with u v
 injection u with u
 injection v with v
 injection v with v
 subst v;exact Prod.ext u<|q.inj i
theorem j1.keeps{h h':Heap}{d:Addr}{o:Obj}{es ep}(x:j1 P w h k a)(e:h.get? d=some o)(hd:o.data=.dict es ep)(sb:SameBut d h h'):j1 P w h' k a:=by
 obtain⟨i,n,t,c,f,g,b,q⟩:=x;refine⟨i,n,t,c,(sb.2 a λz=>?_).trans f,g,b,q.keeps e hd sb⟩;rw[z,e]at f
 cases o6 f
 rw[hd]at b;exact nomatch b
noncomputable def AY(P:Program)(w:World)(k:jq):Int:=reduceHash<|Builtin.Tuple.tupleHashOf [(intKind P w).hash k.1,tupleKeyHash (intKind P w) k.2]
variable{A:Around}{E:c_}
def MX{Q:Int->Shared->Prop}(hu:A.units+4<cLine)(hk:j1 P w s.heap k a)(h:Q (AY P w k) {s with toks:=s.toks+(k.2.length+3)}):wpAny (model P w) A (pyHash<|.ref a) Q E s:=by
 have ty:=hk.ty;obtain⟨o,n,t,c,e,_,d,q⟩:=hk;have l:A.units<cLine:=by omega
 have j:A.in1.units<cLine:=by show A.units+1<cLine;omega
 unfold pyHash
 first|unfold pyHashByItsType|skip
 first|refine cv (wpAny_cRoomFor_or (.inr l) ?_)|skip
 refine cv<|wpAny_specialOf ty F.slot_tuple_hash.lookup ?_;rw[if_neg (by rw[beq_builtin_none];exact gp)]
 refine cv<|wpAny_specialOf ty F.slot_tuple_hash.lookup ?_;refine cv<|wpAny_callSpecialIfBoundUnlessNone?_slot ty F.slot_tuple_hash<|D2 F.slot_tuple_hash ty F.entry_tuple_hash ?_ (F.args_tuple_hash_1 _);refine show wpAny _ _ (Builtin.Tuple.tupleItemsOf (.ref a) >>= _) _ _ s from cv (wpAny_tupleItemsOf e d<|cv ?_)
 rw[<-Array.forIn_toList];refine wpAny_forIn_list _ (λrest (z:Array Int) b=>(rest=[.int k.1 t,.ref c]/\z.toList=[]/\b=s)∨(rest=[.ref c]/\z.toList=[(intKind P w).hash k.1]/\b={s with toks:=s.toks+1})∨(rest=[]/\z.toList=[(intKind P w).hash k.1,tupleKeyHash (intKind P w) k.2]/\b={s with toks:=s.toks+(k.2.length+2)})) _ ?_ ?_ _ _ (.inl ⟨rfl,rfl,rfl⟩)
 ·rintro v rest z b (⟨r,hz,rfl⟩|⟨r,hz,rfl⟩|⟨r,_⟩)
  ·injection r with g i
   subst g i;refine cv ((intKind P w).pyHash AX ?_)
   first
    |exact ek (.inr (.inl ⟨rfl,by simp[hz],rfl⟩))
    |exact cv (ek (ek (.inr (.inl ⟨rfl,by simp[hz],rfl⟩))))
  ·injection r with g i
   subst g i;refine cv (wpAny_pyHash_tuple (knd:=intKind P w) j q ?_)
   first
    |exact ek (.inr (.inr ⟨rfl,by simp[hz],by congr 1;show s.toks+1+(k.2.length+1)=_;omega⟩))
    |exact cv (ek (ek (.inr (.inr ⟨rfl,by simp[hz],by congr 1;show s.toks+1+(k.2.length+1)=_;omega⟩))))
  ·exact nomatch r
 ·rintro z b (⟨r,_⟩|⟨r,_⟩|⟨_,hz,rfl⟩)
  ·exact nomatch r
  ·exact nomatch r
  refine show wpAny _ _ (retInt<|Builtin.Tuple.tupleHashOf z.toList) _ _ _ from ?_
  rw[hz];refine wpAny_ret_mkInt ?_;unfold AY reduceHash at h;generalize Builtin.Tuple.tupleHashOf [(intKind P w).hash k.1,tupleKeyHash (intKind P w) k.2]=N at h ⊢;refine show wpAny _ _ (if(decide (-(2:Int) ^ 63<=N)&&decide (N<2 ^ 63))=true then _ else _) Q E _ from ?_
  by_cases f:(decide (-(2:Int) ^ 63<=N)&&decide (N<2 ^ 63))=true
  ·rw[if_pos f];rw[if_pos f]at h;exact ek (by simpa[Nat.add_assoc]using h)
  ·rw[if_neg f];rw[if_neg f]at h;exact cv (wpAny_rule (ek (by simpa[Nat.add_assoc]using h)))
variable{b:Addr}
def Rf{F:Fin->Shared->Prop}(hu:A.units+4<cLine)(hx:j1 P w s.heap x a)(hy:j1 P w s.heap y b)(h:F (.done<|.ret<|.bool<|decide<|x=y) s):wpAny (model P w) A (Builtin.«tuple.__eq__» ⟨[.ref a,.ref b],[]⟩) F E s:=by
 have I:=hy.ty;obtain⟨o,n,t,c,e,_,d,q⟩:=hx;obtain⟨M,L,D,C,H,_,G,K⟩:=hy;have l:A.units<cLine:=by omega
 refine show wpAny _ _ (isInstance (.ref b) (.type "tuple") >>= _) _ _ s from cv (wpAny_isInstance I isSubtype_tuple_tuple ?_)
 simp only[Bool.not_true,Bool.false_eq_true,if_false];refine cv<|wpAny_tupleItemsOf e d<|cv<|wpAny_tupleItemsOf H G<|cv ?_;have B:x≠y->decide (x=y)=false:=λz=>dt z;refine wpAny_forIn_list _ (λrest r p=>r.1=none/\p=s/\((rest=[(.int x.1 t,.int y.1 D),(.ref c,.ref C)])∨(rest=[(.ref c,.ref C)]/\x.1=y.1)∨(rest=[]/\x=y))) _ ?_ ?_ _ _ ⟨rfl,rfl,.inl rfl⟩
 ·rintro⟨u,v⟩ rest r p ⟨i,rfl,f|⟨f,J⟩|⟨f,_⟩⟩
  ·injection f with f g
   injection f with m j
   subst g m j;refine cv<|(intKind P w).eqBool (a:=x.1) (b:=y.1) AX AX ?_
   by_cases hk:x.1=y.1
   ·rw[cc hk];rw[Bool.not_true,if_neg gp];exact ek ⟨rfl,rfl,.inr<|.inl ⟨rfl,hk⟩⟩
   ·rw[dt hk];rw[Bool.not_false,if_pos rfl];rw[B λz=>hk<|BA Prod.fst z]at h;exact cv<|ek<|ek<|ek h
  ·injection f with f g
   injection f with m j
   subst g m j;refine cv<|wpAny_eqBool_tuple (knd:=intKind P w) l q K ?_
   by_cases hk:x.2=y.2
   ·rw[cc hk];rw[Bool.not_true,if_neg gp];exact ek ⟨rfl,rfl,.inr<|.inr ⟨rfl,Prod.ext J hk⟩⟩
   ·rw[dt hk];rw[Bool.not_false,if_pos rfl];rw[B λz=>hk<|BA Prod.snd z]at h;exact cv<|ek<|ek<|ek h
  ·exact nomatch f
 ·rintro⟨f,g⟩ p ⟨i,rfl,z|⟨z,_⟩|⟨_,z⟩⟩
  ·exact nomatch z
  ·exact nomatch z
  simp only at i
  subst i;rw[cc z]at h;exact ek h
variable{Q:Bool->Shared->Prop}
def Ub(hu:A.units+5<cLine)(hx:j1 P w s.heap x a)(hy:j1 P w s.heap y b)(h:Q (decide<|x=y) s):wpAny (model P w) A (eqBool (.ref a)<|.ref b) Q E s:=by
 unfold eqBool
 try with_reducible refine GT ?_
 refine show wpAny _ _ (if(Value.ref a==Value.ref b)=true then _ else _) Q E s from ?_
 by_cases c:(Value.ref a==Value.ref b)=true
 ·rw[if_pos c];have e:a=b:=by injection eq_of_beq c
  subst e;rw[cc (hx.inj hy)]at h;exact cv<|wpAny_rule<|ek h
 ·rw[if_neg c];exact cv (wpAny_richCompare_same_room (op:=.Eq) hx.ty hy.ty F.slot_tuple_eq (D2 F.slot_tuple_eq hx.ty F.entry_tuple_eq (Rf (by show A.units+1+4<cLine;omega) hx hy ⟨_,rfl,(λe=>nomatch e),y0 h⟩)<|F.args_tuple_eq_2 _ _) (by omega))
def EC(N:Nat){ks:e_}(hk:IsTupleKey (intKind P w) s.heap ks a)(h:Q true s):wpAny (model P w) A (eqIsQuiet (N+1)<|.ref a) Q E s:=by
 have ty:=hk.typeIs;obtain⟨o,b,n,e,_,d,hi⟩:=hk;unfold eqIsQuiet;refine cv<|wpAny_specialOf ty F.slot_tuple_eq.lookup ?_;refine show wpAny _ _ (isInstance (.ref a) (.type "tuple") >>= _) _ _ s from cv (wpAny_isInstance ty isSubtype_tuple_tuple ?_)
 simp only[Bool.not_true,Bool.false_eq_true,if_false];refine cv<|F2 e d<|cv ?_;refine show wpAny _ _ (forIn b _ _) _ _ s from ?_
 rw[<-Array.forIn_toList];refine wpAny_forIn_list _ (λrest r f=>r.1=none/\f=s/\∀v∈rest,carriedByValue v=true) _ ?_ ?_ _ _ ⟨rfl,rfl,hi.byValue⟩
 ·rintro v rest r f ⟨c,rfl,g⟩;rw[eqIsQuiet_byValue _ (g v<|gg.mpr<|.inl rfl)];refine cv<|ek ?_;simp only[Bool.not_true,Bool.false_eq_true,if_false];exact ek ⟨rfl,rfl,λu z=>g u<|gg.mpr<|.inr z⟩
 ·rintro⟨i,j⟩ f ⟨c,rfl,_⟩
  simp only at c
  subst c;exact ek h
def JF(hk:j1 P w s.heap k a)(h:Q true s):wpAny (model P w) A (eqIsQuiet 8<|.ref a) Q E s:=by
 have ty:=hk.ty;obtain⟨o,n,t,c,e,_,d,q⟩:=hk;unfold eqIsQuiet;refine cv<|wpAny_specialOf ty F.slot_tuple_eq.lookup ?_;refine show wpAny _ _ (isInstance (.ref a) (.type "tuple") >>= _) _ _ s from cv (wpAny_isInstance ty isSubtype_tuple_tuple ?_)
 simp only[Bool.not_true,Bool.false_eq_true,if_false];refine cv<|F2 e d<|cv ?_;refine show wpAny _ _ (forIn #[Value.int k.1 t,.ref c] _ _) _ _ s from ?_
 rw[<-Array.forIn_toList];refine wpAny_forIn_list _ (λrest r f=>r.1=none/\f=s/\∀v∈rest,v=.int k.1 t∨v=.ref c) _ ?_ ?_ _ _ ⟨rfl,rfl,λv j=>by simpa using j⟩
 ·rintro v rest r f ⟨b,rfl,g⟩;have i:∀u∈rest,u=.int k.1 t∨u=.ref c:=λu z=>g u<|gg.mpr<|.inr z
  rcases g v (gg.mpr<|.inl rfl)with rfl|rfl
  ·rw[eqIsQuiet_byValue _ rfl];refine cv<|ek ?_;simp only[Bool.not_true,Bool.false_eq_true,if_false];exact ek ⟨rfl,rfl,i⟩
  ·refine cv<|EC 6 q ?_;simp only[Bool.not_true,Bool.false_eq_true,if_false];exact ek ⟨rfl,rfl,i⟩
 ·rintro⟨l,m⟩ f ⟨b,rfl,_⟩
  simp only at b
  subst b;exact ek h
noncomputable def vH(P:Program)(w:World):HeapKind P w jq where
 is:=j1 P w
 hash:=AY P w
 draws:=λk=>k.2.length+3
 room:=λA=>A.units+5<cLine
 inj:=λhx hy=>hx.inj hy
 keeps:=λx e d a=>x.keeps e d a
 pyHash:=λhu hk h=>MX (by omega) hk h
 eqBool:=λhu hx hy h=>Ub hu hx hy h
 quiet:=λhk h=>JF hk h
def eY(H:Hp)(k:jq)(a:Addr):Prop:=∃c,H a=some (.tup [.int k.1,.ref c])/\H c=some (.tup<|k.2.map V.int)
def MY(P:Program)(w:World)(G:jq->Int)(d:Addr)(xs:List (jq × Addr))(h:Heap):Prop:=(d==sysModules)=false/\∃(ys:List (jq × Addr × Value)) (o:Obj) (es:Array DictEntry) (ep:Nat),ys.map (λy=>(y.1,y.2.1))=xs/\(∀y∈ys,RelV (.int<|G y.1) y.2.2)/\h.get? d=some o/\o.ExactDict/\o.data=.dict es ep/\es.toList=ys.map (entryOfKey<|vH P w)/\(ys.map (·.1)).Nodup
def fS(P:Program)(w:World)(G:jq->Int)(H:Hp)(d:Addr)(n:Nat):Prop:=∃xs,H d=some (.ext<|MY P w G d xs)/\xs.length<=n/\∀x∈xs,eY H x.1 x.2
variable{H H':Hp}
def eY.mono(s:ag H H'):eY H k a->eY H' k a
 |⟨c,h1,b⟩=>⟨c,s _ _ h1,s _ _ b⟩
variable{d:Addr}{φ:Heap->Prop}
def eY.Vz{o:HO}(e:H d=some (.ext φ)):eY H k a->eY (upd H d o) k a
 |⟨c,h1,b⟩=>⟨c,by rw[aC (dj h1 e λz=>nomatch z)];exact h1,by rw[aC (dj b e λz=>nomatch z)];exact b⟩
variable{h:Heap}{n:Nat}
def eY.is(ok:jS P w H h)(q:eY H k a):j1 P w h k a:=by
 obtain⟨c,h1,i⟩:=q;obtain⟨_,u,r,o,e,g,n,m⟩:=(show bG P w H h a (.tup _)from ok a _ h1)
 obtain⟨_,b,d,l,p,s,f,j⟩:=(show bG P w H h c (.tup _)from ok c _ i)
 cases r with
 |cons v r=>
  cases r with
  |cons e2 r=>
   cases r
   obtain⟨t,rfl⟩:=(show ∃t,_=Value.int k.1 t from v)
   cases(show _=Value.ref c from e2)
   exact⟨o,n,t,c,e,g,m,l,b.toArray,f,p,s,j,by simpa using kh (intsAre_of d)⟩
variable{G:jq->Int}{xs:List (jq × Addr)}
def JG(hF:MY P w G d xs h):bG P w H h d (.ext<|MY P w G d xs):=by
 refine⟨hF,?_,?_⟩
 ·obtain⟨_,_,o,_,_,_,_,e,_⟩:=hF;exact⟨o,e⟩
 ·rintro h1 m ⟨c,l,o,g,a,i,f,b,j⟩ z;exact⟨c,l,o,g,a,i,f,z _ b,j⟩
def JH(ok:jS P w H h)(e:H d=some (.ext<|MY P w G d xs))(hk:∀x∈xs,eY H x.1 x.2):(d==sysModules)=false/\∃ys:List (jq × Addr × Value),ys.map (λy=>(y.1,y.2.1))=xs/\(∀y∈ys,RelV (.int<|G y.1) y.2.2)/\h.DictOfH (vH P w) d ys:=by
 obtain⟨⟨f,ys,o,j,b,a,g,c,n,i,m,l⟩,_⟩:=(show bG P w H h d (.ext _)from ok d _ e)
 refine⟨f,ys,a,g,o,j,b,c,n,i,m,λy hy=>?_,l⟩;exact(hk (y.1,y.2.1) (by rw[<-a];exact gh.mpr ⟨y,hy,rfl⟩)).is ok
def MZ{ys:List (jq × Addr × Value)}{p:Addr × Value}(e:atKey ys k=some p):(k,p)∈ys:=by
 unfold atKey at e;obtain⟨x,hx,rfl⟩:=Pi.mp e
 have:=List.find?_some hx
 rw[<-ot this];exact List.mem_of_find?_eq_some hx
variable{Q:VK}
def AZ(P:Program)(w:World):TE:=λ_ H Q=>∃G,∀p,H p=none->Q (.ref p) (upd H p<|.ext<|MY P w G p [])
variable{X:Cx}{pos:Pos}{o:Expr}{σ:St}
def JI:PE X (.Dict [] [] pos) (AZ X.prog X.w):=λb s σ H Q I ⟨G,h⟩=>
 wpAny_Dict_empty ⟨.ref s.heap.objs.size,_,I.laid (a:=s.heap.objs.size) (o:=.ext<|MY X.prog X.w G _ []) (t':=s.toks) (λ_ _ q=>ef _ q) (dy _)
  (JG ⟨tz.mpr<|Ne.symm<|j9 I.big,[],_,#[],0,rfl,(λ_ z=>nomatch z),gz _ rfl,⟨rfl,rfl,rfl⟩,rfl,rfl,nodup_nil⟩),rfl,h _<|I.bq.fresh<|dy _⟩
def Rg:QE X (.Dict [] [] pos) (AZ X.prog X.w):=⟨JI⟩
def A0(P:Program)(w:World)(td ty tx:TE):TE:=λσ H Q=>td σ H λx H1=>∃a G n,x=.ref a/\fS P w G H1 a n/\ty σ H1 λy d=>tx σ d λz c=>∃k b,fS P w G c a n/\y=.ref b/\eY c k b/\z=.int (G k)/\Q z c
variable{A' bN:Pos}{e f:Expr}{td ty tx:TE}
def JJ(hu:X.A.units+64<cLine)(ho:PE X o td)(he:PE X e ty)(hf:PE X f tx)(m:M2 X o "get" A' e f bN):PE X (.Call (.Attribute o "get" A') [e,f] [] bN) (A0 X.prog X.w td ty tx):=by
 intro g s σ H Q I h;refine wpAny_Call_method m.base m.fJ m.line PySem.F.plainAttrs_dict slot_dict_get PySem.F.type_dict_get<|bP (ho g s σ H _ I h) λu S ⟨x,H1,D,R,a,G,n,O,d,L⟩=>?_;subst O;obtain rfl:u=Value.ref a:=R;obtain⟨xs,ea,_,t⟩:=d;obtain⟨hd,ys,_,_,C⟩:=JH D.bq ea t;obtain⟨ob,_,_,T,U,_⟩:=id C;refine⟨C.typeIs,λb q=>by cases q;exact⟨ob,T,U.2.1⟩,?_⟩
 rw[m.trees];refine Calls.callWith_builtin rfl (Calls.evalArgs_plain (Calls.spliced_cons (bP (he g S σ H1 _ D L) λP s2 ⟨y,Y,I2,K,E⟩=>
  Calls.spliced_cons (bP (hf g s2 σ Y _ I2 E) λJ s3 ⟨z,H3,r,rz,k,b,⟨M,v,_,j⟩,Z,hk,ez,W⟩=>Calls.spliced_nil ?_))))
 subst Z ez
 cases(show P=Value.ref b from K)
 obtain⟨B,i,_,N,l⟩:=JH r.bq v j;refine call_meetsIn slot_dict_get l.typeIs PySem.F.entry_dict_get (PySem.F.args_dict_get_3 _ _ _) (meetsH_dict_get_default (vH X.prog X.w) a b B J) ⟨?_,k,i,hk.is r.bq,l,_,_,r.tok _,?_,W⟩
 ·show X.A.units+1+5<cLine
  omega
 ·cases c:atKey i k with
  |none=>exact rz
  |some p=>exact N _<|MZ c
def Rh(hu:X.A.units+64<cLine)(ho:QE X o td)(he:QE X e ty)(hf:QE X f tx)(m:M2 X o "get" A' e f bN:=by exact⟨rfl,rfl,rfl,rfl⟩):QE X (.Call (.Attribute o "get" A') [e,f] [] bN) (A0 X.prog X.w td ty tx):=⟨JJ hu ho.h he.h hf.h m⟩
variable{D:Ends}
def A7(P:Program)(w:World)(td ty tv:TE):TS:=λD σ H=>tv σ H λv H1=>td σ H1 λx d=>ty σ d λy c=>∃a G n k b,x=.ref a/\fS P w G c a n/\y=.ref b/\eY c k b/\v=.int (G k)/\n<sizeLine/\∀φ,fS P w G (upd c a<|.ext φ) a (n+1)->D.nx σ (upd c a<|.ext φ)
variable{pos':Pos}{value:Expr}{tv:TE}
def JK(hu:X.A.units+64<cLine)(ho:PE X o td)(hi:PE X e ty)(hv:PE X value tv)(hs:swapsWith value (some<|.Subscript o e pos') pos.line X.env=pure false):PS X (.Assign [.Subscript o e pos'] value pos) (A7 X.prog X.w td ty tv):=by
 intro d s σ H D I h;refine wpAny_Assign_Subscript (bP (hv d s σ H _ I h) λr Q ⟨v,H1,I1,C,q1⟩=>bP (ho d Q σ H1 _ I1 q1) λu s2 ⟨x,H2,W,rx,K⟩=>bP (hi d s2 σ H2 _ W K) λP s3 ⟨y,J,t,ry,a,G,n,k,b,O,⟨Y,p,hn,j⟩,ey,hk,Z,hl,T⟩=>?_) hs;subst O ey Z;obtain rfl:u=Value.ref a:=rx
 cases(show P=Value.ref b from ry)
 obtain⟨N,i,F,hv,M⟩:=JH t.bq p j;have ly:i.length=Y.length:=by rw[<-F,b5]
 refine wpAny_setItem_heap (knd:=vH X.prog X.w) (hsz:=by omega) (show X.A.units+1+5<cLine by omega) (hk.is t.bq) M λh' m U=>?_
 obtain⟨E,es,R,B,S,g3,L,_,g5⟩:=m;have z:∀y∈storedH i k b r,RelV (.int<|G y.1) y.2.2:=by
  unfold storedH
  split
  ·intro y hy;obtain⟨q,f,rfl⟩:=gh.mp hy;unfold PySem.putAt
   split
   ·rename_i c;rw[c];exact C
   ·exact hv _ f
  ·intro y hy
   rcases j6.mp hy with hy|hy
   ·exact hv _ hy
   ·rw[eG.mp hy];exact C
 have l:∀y∈storedH i k b r,eY J y.1 y.2.1:=by
  have g:∀y∈i,eY J y.1 y.2.1:=λy hy=>j (y.1,y.2.1) (by rw[<-F];exact gh.mpr ⟨y,hy,rfl⟩)
  unfold storedH
  split
  ·intro y hy;obtain⟨q,f,rfl⟩:=gh.mp hy;unfold PySem.putAt
   split
   ·exact g q f
   ·exact g q f
  ·intro y hy
   rcases j6.mp hy with hy|hy
   ·exact g _ hy
   ·rw[eG.mp hy];exact hk
 have hl':(storedH i k b r).length<=i.length+1:=by
  unfold storedH
  split
  ·rw[b5];omega
  ·rw[eR];exact dy _
 refine⟨σ,_,ux (ob:=.ext<|MY X.prog X.w G a<|(storedH i k b r).map λy=>(y.1,y.2.1)) t (by rw[p];exact True.intro) U ⟨E,B⟩<|JG ⟨N,_,E,es,R,rfl,z,B,S,g3,L,g5⟩,T _ ⟨_,af,by rw[b5];omega,λx hx=>?_⟩⟩
 obtain⟨y,hy,rfl⟩:=gh.mp hx;exact(l y hy).Vz p
def Ri(hu:X.A.units+64<cLine)(hv:QE X value tv)(ho:QE X o td)(hi:QE X e ty)(hs:swapsWith value (some<|.Subscript o e pos') pos.line X.env=pure false:=by rfl):QS X (.Assign [.Subscript o e pos'] value pos) (A7 X.prog X.w td ty tv):=⟨JK hu ho.h hi.h hv.h hs⟩
def CZ:AZ P w σ H Q=∃G,∀p,H p=none->Q (.ref p) (upd H p<|.ext<|MY P w G p []):=rfl
def C0:A0 P w td ty tx σ H Q=td σ H λx H1=>∃a G n,x=.ref a/\fS P w G H1 a n/\ty σ H1 λy H2=>tx σ H2 λz H3=>∃k b,fS P w G H3 a n/\y=.ref b/\eY H3 k b/\z=.int (G k)/\Q z H3:=rfl
def C7:A7 P w td ty tv D σ H=tv σ H λv H1=>td σ H1 λx H2=>ty σ H2 λy H3=>∃a G n k b,x=.ref a/\fS P w G H3 a n/\y=.ref b/\eY H3 k b/\v=.int (G k)/\n<sizeLine/\∀φ,fS P w G (upd H3 a<|.ext φ) a (n+1)->D.nx σ (upd H3 a<|.ext φ):=rfl
noncomputable def vI(ns:f_)(l:d_):f_:=if l=[]then[("":Str)]else l.map λi=>ns.getD i bo
def oO(ns:f_):vI ns []=[("":Str)]:=if_pos rfl
def yb{ns:f_}(h:l≠[]):vI ns l=l.map λi=>ns.getD i bo:=if_neg h
end L2
namespace L2
open PySem PySem.Spec PyProof.Rows
inductive kJ(K:Frag)(cH cD:Addr)(vs:u_)(H:Hp)(Q:VK)(E:XK):Prop
 |mk (d hl nm w:Addr) (ns:f_) (cs ws:d_) (L:B0L) (hs:e_):(vs=[.ref d,.ref nm,.ref w])->bZ K cH cD H d hl ns cs ws L hs->bD ns cs ws L hs->aw K H nm (ns.map V.str)->aw K H w ((au ws).map V.int)->(∀H',ag H H'->Q (.bl true) H')->kJ K cH cD vs H Q E
variable{r:f_}{cs:d_}
def Uc{ns:f_}{ws:d_}{L:B0L}(P:iU ns cs ws)(h:CS ns cs ws L .ring r):∃a,r=dI ns a/\cB ns a/\((¬(laidOut ws).length<ws.length/\a=[])∨((laidOut ws).length<ws.length/\Ring ws a)):=by
 rcases h with ⟨c,e⟩|⟨c,a,b,e⟩
 ·exact⟨[],e,⟨P.OL,(λ_ z=>nomatch z),zero_le _⟩,.inl ⟨c,rfl⟩⟩
 ·exact⟨a,e,CL P b,.inr ⟨c,b⟩⟩
def Ud{ns:f_}{ws:d_}{L:B0L}(P:iU ns cs ws)(h:CS ns cs ws L .order r):∃b,r=dI ns b/\cB ns b/\(((laidOut ws).length<ws.length/\b=[])∨(¬(laidOut ws).length<ws.length/\b=laidOut ws)):=by
 rcases h with ⟨c,e⟩|⟨c,e⟩
 ·exact⟨[],e,⟨P.OL,(λ_ z=>nomatch z),zero_le _⟩,.inl ⟨c,rfl⟩⟩
 ·exact⟨_,e,kF P,.inr ⟨c,rfl⟩⟩
def JL{ns:f_}{ws a b:d_}(P:iU ns cs ws)(h1:(¬(laidOut ws).length<ws.length/\a=[])∨((laidOut ws).length<ws.length/\Ring ws a))(h2:((laidOut ws).length<ws.length/\b=[])∨(¬(laidOut ws).length<ws.length/\b=laidOut ws)):
  (ns=[]/\a=[]/\b=[])∨(ns≠[]/\a≠[]/\b=[]/\Ring ws a)∨(ns≠[]/\a=[]/\b≠[]/\b=laidOut ws/\¬(laidOut ws).length<ws.length):=by
 have d:=P.lw
 rcases h1 with ⟨c,e⟩|⟨c,f⟩
 ·have e2:=(h2.resolve_left λz=>c z.1).2
  by_cases z:ns=[]
  ·refine .inl ⟨z,e,List.eq_nil_iff_forall_not_mem.mpr λi hi=>?_⟩
   have:=(kF P).lt i<|e2 ▸ hi
   rw[z]at this;exact absurd this<|sU _
  ·refine .inr<|.inr ⟨z,e,λy=>?_,e2,c⟩;rw[<-e2,y]at c;exact z (FS.mp (by have c:¬0<ws.length:=c;omega))
 ·have e2:=(h2.resolve_right λz=>z.1 c).2;refine .inr<|.inl ⟨λz=>?_,λz=>?_,e2,f⟩
  ·rw[z]at d;have d:ws.length=0:=d
   omega
  ·have:=f.two;rw[z]at this;exact absurd this a_
variable{r:Addr}
def yc{K:Frag}{H:Hp}{Q:VK}{ns rows:f_}{l:d_}{R:q_}(hn:∀x∈ns,bI x=true)(lok:cB ns l)(e:rows=dI ns l)(h:H r=some (.lst<|rows.map V.str))
  (hR:∀z:Str,R (.str z) H) (q:∀t,H t=none->Q (.ref t) (upd H t<|.lst<|(vI ns l).map V.str)):
  rJoin K (.str<|(" ":Str)) [.ref r] H λv H1=>R v H1/\Af v [.str (" ":Str)] H1 Q:=by
 subst e;have hj:=fK 32 12 (l.map λi=>ns.getD i bo) λx hx=>by
  obtain⟨i,hi,rfl⟩:=gh.mp hx;exact lok.nm _<|getD_memS<|lok.lt i hi
 rw[b5]at hj;have a:=lok.fJ;have hb:(1000:Nat)<=sizeLine:=by decide
 have b:=AW hn lok.lt;have c:(Str.join ⟨#[32]⟩<|dI ns l).length<=8*13:=by
  unfold dI
  split
  ·decide +kernel
  ·exact gr hj<|AC _ a
 rw[cA];refine⟨_,r,dI ns l,rfl,rfl,aw.of h,?_,by omega,hR _,?_⟩
 ·unfold dI
  split
  ·exact zero_le _
  ·show(pZ ns l).length+1+0<=_
   have:(pZ ns l).length<=8*13:=gr hj<|AC _ a
   omega
 refine⟨_,_,rfl,rfl,a_,by omega,?_,λt d=>?_⟩
 ·rw[b]
  split
  ·decide
  ·rw[b5];omega
 ·rw[b];exact q t d
def JM{ns:f_}{l:d_}(hn:∀x∈ns,bI x=true)(lok:cB ns l):∀x∈vI ns l,rh x:=λx hx=>by
 unfold vI at hx
 split at hx
 ·rw[eG.mp hx];exact λc hc=>nomatch hc
 ·obtain⟨i,hi,rfl⟩:=gh.mp hx;exact rh.low (ir<|hn _<|getD_memS<|lok.lt i hi).1
def C8{ns:f_}{l:d_}(lok:cB ns l):(vI ns l).length<=8:=by
 unfold vI
 split
 ·decide
 ·rw[b5];exact lok.fJ
def A8{ns:f_}{l:d_}(hn:∀x∈ns,bI x=true)(lok:cB ns l)(h:l≠[]):vI ns l≠[("":Str)]:=by
 rw[yb h];intro z;obtain⟨i,hi⟩:=List.exists_mem_of_ne_nil l h
 have:ns.getD i bo∈[("":Str)]:=by rw[<-z];exact gh.mpr ⟨i,hi,rfl⟩
 have h1:=hn _<|getD_memS<|lok.lt i hi;rw[eG.mp this]at h1;exact absurd h1 Dk0
def M9{ws:d_}{i j:Nat}(h:cF ws i j=true):ws.getD i 0 / 2 ^ j%2=1:=by
 unfold cF at h;rw[oi]at h;exact ot h
def JN{K:Frag}{H:Hp}{R:VK}{nm:Addr}{ns:f_}{l:d_}(nd:ns.Nodup)(hl:l≠[])(lok:cB ns l)(hr:H r=some (.lst<|(vI ns l).map V.str))(hnm:aw K H nm (ns.map V.str))
  (q:∀B_ H',H B_=none->ag H H'->H' B_=some (.lst<|(au l).map V.int)->R (.ref B_) H'):
  ∃a,V.ref r=.ref a/\(∃xs,aw K H a xs)/\sN (bF 0) gZ (RD K "list" (Cv K) (oR 1) (sf (oR 0) ui)) [none,some<|V.ref nm] R (Ft K a) H:=by
 rw[yb hl]at hr;have h:=lok.fJ;have len:((l.map λi=>ns.getD i bo).map V.str).length=l.length:=by rw[b5,b5]
 refine⟨r,rfl,⟨_,aw.of hr⟩,wu (df<|aw.of hr) (λ_=>true) (λi=>.int ((l.getD i 0:Nat):Int)) (by rw[len];exact aB (by omega)) ?_ ?_⟩
 ·intro i J A B hi f g _;rw[len]at hi;have d:((l.map λi=>ns.getD i bo).map V.str).getD i .bE=.str (ns.getD (l.getD i 0) bo):=by
   rw[b3,bb (by rw[b5];exact hi)]
   show V.str ((l.map λi=>ns.getD i bo).getD i bo)=_;rw[b3,ed,b4 hi,b3 (l:=l),b4 hi];rfl
  rw[d];have c:l.getD i 0<ns.length:=lok.lt _<|fN hi;simp only[gA,wY,j4,P0,uz,zy,zx,GC];refine⟨.inl ⟨rfl,_,f.seq hnm⟩,nm,ns,_,rfl,rfl,f.seq hnm,getD_memS c,?_⟩;have e:ns.idxOf (ns.getD (l.getD i 0) bo)=l.getD i 0:=by
   rw[b3,b4 c];exact nd.idxOf_getElem _ c
  rw[e];exact g rfl _<|ag.refl _
 intro B_ J h1 s b;rw[bz,len,c9 λj=>V.int ((j:Nat):Int),show(l.map λj=>V.int ((j:Nat):Int))=(au l).map V.int by unfold au;rw[k6];rfl]at b
 exact q B_ J h1 s b
def JO(k:Nat)(v:V):(List.replicate k [v]).flatten=List.replicate k v:=by
 induction k with
 |zero=>rfl
 |succ k a=>rw[E4,flatten_cons,a,E4];rfl
def qc(k:Nat)(x:Int):(List.replicate k [V.int x]).flatten=(List.replicate k x).map V.int:=by rw[JO,List.map_replicate]
def ED{ws r:d_}(h:Ring ws r){k:Nat}(hk:k<r.length):cF ws (r.getD k 0) (r.getD ((k+1)%r.length) 0)=true:=by
 by_cases e:k+1<r.length
 ·rw[v8 e];exact h.next k e
 ·have e:k+1=r.length:=by omega
  rw[e,mod_self,show k=r.length-1 by omega];exact h.last
def A9(n:Nat):((List.range n).map λ_=>(1:Int))=List.replicate n 1:=by
 rw[List.map_const',h7]
def Na(H H':Hp):Prop:=∀b o,(∀ys,o≠.lst ys)->(∀φ,o≠.ext φ)->H b=some o->H' b=some o
variable{K:Frag}{H H':Hp}{xs:u_}
def Na.Nb(s:Na H H')(h:aL K H r xs):aL K H' r xs:=by
 rcases h with (h|⟨u,h⟩)|h
 ·exact .inl<|.inl<|s _ _ (λ_ z=>nomatch z) (λ_ z=>nomatch z) h
 ·exact .inl<|.inr ⟨u,s _ _ (λ_ z=>nomatch z) (λ_ z=>nomatch z) h⟩
 ·exact .inr h
def Na.VS(s:Na H H'):u6 K H r->u6 K H' r
 |.inl h=>.inl h
 |.inr ⟨o,u,h,c⟩=>.inr ⟨o,u,s _ _ (λ_ z=>nomatch z) (λ_ z=>nomatch z) h,c⟩
variable{t:Addr}{L:B0L}
theorem Na.gf(s:Na H H'):∀ {vs:u_} {L:B0L},GF K H vs L->GF K H' vs L
 | [],[],h=>h
 |_::_,_::_,⟨⟨r,p,e,h,a,b⟩,t⟩=>⟨⟨r,p,e,s.Nb h,s.Nb a,s.VS b⟩,Na.gf s t⟩
 | [],_::_,h=>h.elim
 |_::_,[],h=>h.elim
variable{cH cD d hl:Addr}{ns:f_}{ws:d_}{hs:e_}
def bZ.kp(h:bZ K cH cD H d hl ns cs ws L hs)(s:Na H H'):bZ K cH cD H' d hl ns cs ws L hs:=by
 obtain⟨⟨a,b,h1,⟨t,o,v,B,m,p,y,l⟩⟩,c,g,r,⟨⟨f,n,j,q⟩,A,w⟩,u⟩:=h;have i:∀ {x C a fs},H x=some (.ins C a fs)->H' x=some (.ins C a fs):=λe=>s _ _ (λ_ z=>nomatch z) (λ_ z=>nomatch z) e;exact⟨⟨a,b,i h1,⟨t,o,v,s.Nb B,s.Nb m,s.VS p,s.Nb y,s.Nb l⟩⟩,c,g,r,⟨⟨f,n,i j,s.Nb q⟩,s.Nb A,s.Nb w⟩,s.gf u⟩
variable{kn:Addr}
def gL.kp{ys:u_}{φ:Heap->Prop}(s:gL t kn H H')(ht:H t=some (.lst ys))(hk:H kn=some (.ext φ)):Na H H':=λb o a c e=>s b o (dj e ht<|a _) (dj e hk<|c _) e
def gL.same(s:ag H H'):gL t kn H H':=λb o _ _ e=>s b o e
variable{o:HO}
def gL.VA:gL t kn H (upd H t o):=λb u n _ e=>by rw[aC n];exact e
def gL.VB:gL t kn H (upd H kn o):=λb u _ n e=>by rw[aC n];exact e
def Off.jr{C dx:Addr}{fs:t_}{x:Addr}(s:Off hl H H')(hh:H hl=some (.ins C dx fs))(h:H x=some (.lst xs)):H' x=some (.lst xs):=s _ _ (dj h hh λz=>nomatch z) h
variable{P:Program}{w:World}{G:jq->Int}{n:Nat}
theorem fS.mono(s:ag H H'):fS P w G H d n->fS P w G H' d n
 |⟨a,e,l,h⟩=>⟨a,s _ _ e,l,λx hx=>(h x hx).mono s⟩
variable{m:Nat}
def fS.le(z:n<=m):fS P w G H d n->fS P w G H d m
 |⟨a,e,l,h⟩=>⟨a,e,gr l z,h⟩
variable{C dx:Addr}{fs:t_}
def fS.off(s:Off hl H H')(hh:H hl=some (.ins C dx fs)):fS P w G H d n->fS P w G H' d n
 |⟨b,e,l,h⟩=>⟨b,s _ _ (dj e hh λz=>nomatch z) e,l,λx hx=>by
  obtain⟨c,h1,a⟩:=h x hx;exact⟨c,s _ _ (dj h1 hh λz=>nomatch z) h1,s _ _ (dj a hh λz=>nomatch z) a⟩⟩
variable{B_:Addr}{ys:u_}
def fS.gD(ha:H B_=some (.lst ys)):fS P w G H d n->fS P w G (upd H B_ o) d n
 |⟨b,e,l,h⟩=>⟨b,by rw[aC (dj e ha λz=>nomatch z)];exact e,l,λx hx=>by
  obtain⟨c,h1,a⟩:=h x hx;exact⟨c,by rw[aC (dj h1 ha λz=>nomatch z)];exact h1,by rw[aC (dj a ha λz=>nomatch z)];exact a⟩⟩
noncomputable def yd(ws:d_)(n i:Nat):d_:=(List.range n).filter λj=>cF ws i j
noncomputable def ye(S:d_)(l:e_)(n:Nat):e_:=(List.range n).map λj=>l.getD (S.idxOf j) 0
noncomputable def Ba(cs ws:d_)(L:B0L)(k:jq):Int:=ip (au cs) L (ye (yd ws cs.length k.1.toNat) k.2 cs.length) k.1.toNat
def EE{S:d_}{j:Nat}(hj:j∈S)(hn:j<n):(ye S (S.map λj=>hs.getD j 0) n).getD j 0=hs.getD j 0:=by
 unfold ye;have hi:S.idxOf j<S.length:=r3 hj;rw[b3,ed,mv hn];show(S.map λj=>hs.getD j 0).getD (S.idxOf j) 0=_;rw[b3,ed,b4 hi,Re hi];rfl
def Nc{i:Nat}(G:jV (au cs) ws L)(hl:hs.length=cs.length):Ba cs ws L ((i:Int),(yd ws cs.length i).map λj=>hs.getD j 0)=ip (au cs) L hs i:=by
 unfold Ba;show ip (au cs) L (ye (yd ws cs.length ((i:Int)).toNat) ((yd ws cs.length i).map λj=>hs.getD j 0) cs.length) ((i:Int)).toNat=_;rw[k4];refine sY G λj hj=>?_
 by_cases hn:j<cs.length
 ·exact EE (j5.mpr ⟨fO.mpr hn,hj⟩) hn
 ·have e:∀l:e_,l.length<=j->l.getD j 0=0:=λl h=>by rw[b3,h9 h];rfl
  rw[e _ (by unfold ye;rw[b5,h7];omega),e _ (by omega)]
noncomputable def j2(a b:e_)(i:Nat):e_:=a.take i++b.drop i
def tV(a b:e_):j2 a b 0=b:=rfl
variable{a b:e_}
def JP(h:a.length=b.length):j2 a b a.length=a:=by
 unfold j2;rw[sC,h,List.drop_length,append_nil]
def tW{i:Nat}(hl:a.length=b.length)(hi:i<a.length):j2 a b (i+1)=(j2 a b i).set i (a.getD i 0):=by
 unfold j2;rw[take_snoc 0 hi,List.drop_eq_getElem_cons (show i<b.length by omega),List.set_append_right _ _ (by rw[ri];omega),ri,show i-min i a.length=0 by omega,set_cons_zero,qE];rfl
def JQ{i:Nat}(hl:a.length=b.length)(hi:i<a.length):(j2 a b i).getD i 0=b.getD i 0:=by
 unfold j2;rw[b3,qz (by rw[ri];omega),ri,show i-min i a.length=0 by omega,getElem?_drop,b3,Nat.add_zero]
def JR{i:Nat}(hl:a.length=b.length):(j2 a b i).length=b.length:=by
 unfold j2;rw[eR,ri,nt];omega
def EF{i:Nat}(hl:a.length=b.length)(hi:i<a.length)(e:a.getD i 0=b.getD i 0):j2 a b (i+1)=j2 a b i:=by
 have hm:i<(j2 a b i).length:=by rw[JR hl];omega
 rw[tW hl hi,e,<-JQ hl hi,b3,b4 hm];exact List.set_getElem_self hm
variable{E:XK}
def JS{Q:VK}{i c:Nat}(hD:bZ K cH cD H d hl ns cs ws L hs)(D:bD ns cs ws L hs)(hi:i<ns.length)(hc:c<cs.getD i 0)(h30:c<10 ^ 30)
  (r:∀l H',Off hl H H'->H l=none->H' l=some (.lst [])->bZ K cH cD H' d hl ns cs ws L (hs.set i (c:Int))->bD ns cs ws L (hs.set i (c:Int))->Q (.ref l) H'):
  iC K cH cD [.ref d,.str<|("put ":Str)++ns.getD i bo++(" ":Str)++Str.ofString (toString (c:Int))] H Q E:=by
 obtain⟨b,f⟩:=D.set hi hc;rw[show Str.ofString (toString ((c:Nat):Int))=cX (c:Int)from rfl,Jq]
 exact iD (.put i c) hD D ⟨hi,h30⟩ ⟨f,λl H' o a h1 e=>r l H' o a h1 e b⟩
def yf(ns:f_)(l:d_):Str.join ⟨#[32]⟩ (dI ns l)=Str.join ⟨#[32]⟩ (l.map λi=>ns.getD i bo):=by
 unfold dI
 by_cases z:l=[]
 ·rw[if_pos z,z];rfl
 ·rw[if_neg z];rfl
noncomputable def cntK(cs:d_)(L:B0L)(k i:Nat):Nat:=((AH.lex cs).take k).countP λh=>decide<|L2.vE cs L i h=h.getD i 0
def EG{k i:Nat}(hk:k<(AH.lex cs).length):cntK cs L (k+1) i=cntK cs L k i+if L2.vE cs L i ((AH.lex cs).getD k [])=((AH.lex cs).getD k []).getD i 0 then 1 else 0:=by
 unfold cntK;rw[take_snoc [] hk,List.countP_append]
 congr 1
 rw[List.countP_singleton]
 simp
noncomputable def hV(cs:d_)(L:B0L)(k i n:Nat):e_:=(List.range n).map λj=>((cntK cs L (if j<i then k+1 else k) j:Nat):Int)
def JT{k:Nat}:hV cs L k n n=hV cs L (k+1) 0 n:=by
 unfold hV;refine Os λj hj=>?_;rw[if_pos (fO.mp hj),if_neg<|sU j]
def JU{k i:Nat}(hi:i<n):(hV cs L k i n).getD i 0=((cntK cs L k i:Nat):Int):=by
 unfold hV;rw[b3,ed,mv hi];show((cntK cs L (if i<i then k+1 else k) i:Nat):Int)=_
 rw[if_neg (Df i)]
def js{k i:Nat}:(hV cs L k i n).length=n:=by unfold hV;rw[b5,h7]
def JV{k i:Nat}(hi:i<n):(hV cs L k i n).set i ((cntK cs L (k+1) i:Nat):Int)=hV cs L k (i+1) n:=by
 refine C2 λj=>?_
 by_cases hj:j<n
 ·by_cases e:j=i
  ·subst e;rw[List.getElem?_set_self (by rw[js];exact hj)]
   unfold hV;rw[ed,mv hj];show _=some ((cntK cs L (if j<j+1 then k+1 else k) j:Nat):Int)
   rw[if_pos (Wd j)]
  ·rw[List.getElem?_set_ne (λz=>e z.symm)];unfold hV;rw[ed,ed,mv hj];show some ((cntK cs L (if j<i then k+1 else k) j:Nat):Int)=some ((cntK cs L (if j<i+1 then k+1 else k) j:Nat):Int)
   by_cases c:j<i
   ·rw[if_pos c,if_pos (by omega)]
   ·rw[if_neg c,if_neg (by omega)]
 ·rw[h9 (by rw[length_set,js];omega),h9 (by rw[js];omega)]
end L2
namespace L2
open PySem PySem.Spec PyProof.Rows
inductive mR(K:Frag)(cH cD:Addr)(vs:u_)(H:Hp)(Q:VK)(E:XK):Prop
 |mk (d hl bk:Addr) (ns:f_) (cs ws:d_) (L:B0L):(vs=[.ref d,.ref bk,.int (L.map<|iT<|au cs).sum])->bZ K cH cD H d hl ns cs ws L (List.replicate cs.length 0)->bD ns cs ws L (List.replicate cs.length 0)->Io H bk ns cs ws->AH.cC cs<=64->(∀H',Q (.bl true) H')->mR K cH cD vs H Q E
def EH(cs:d_)(L:B0L)(n:Nat):hV cs L 0 0 n=List.replicate n 0:=by
 unfold hV cntK;refine List.eq_replicate_iff.mpr ⟨by rw[b5,h7],λx hx=>?_⟩
 obtain⟨j,_,rfl⟩:=gh.mp hx;rw[if_neg (sU j)];rfl
def JW(A:List (d_))(k:Nat):(A.map au).getD k []=au (A.getD k []):=by
 rw[b3,ed,b3]
 cases A[k]?<;>rfl
def Nd{cs:d_}(P:∀c∈cs,1<=c):∀c∈cs,c<=AH.cC cs:=λc hc=>by
 have h1:(c:Int)∈au cs:=gh.mpr ⟨c,hc,rfl⟩;have a:∀x∈au cs,(1:Int)<=x:=λx hx=>by obtain⟨y,hy,rfl⟩:=gh.mp hx;have:=P y hy;omega
 have:=Int.le_of_dvd (by have:=fk a;omega)<|kx h1
 rw[vG]at this
 omega
def iU.JX{ns:f_}{cs ws:d_}(P:iU ns cs ws):∀i,i<cs.length->cF ws i i=false:=λi hi=>by
 have:=P.De i (by rw[<-P.lc];exact hi)
 unfold cF;rw[oi,this];rfl
def bD.Nf{ns:f_}{cs ws:d_}{L:B0L}{hs:e_}(D:bD ns cs ws L hs):(L.map<|iT<|au cs).sum<=(ns.length:Int):=by
 have h1:=jh D.Br.p5.pos D.f7 D.AG;have a:rat (λi h=>ip (au cs) L h i) (au cs).length hs<=ns.length:=by
  unfold rat;refine gr (x6 _ _) ?_;rw[h7,ah,D.Br.lc];exact dy _
 omega
def yg{n i:Nat}(f:Nat->Int)(h:i<n):((List.range n).map f).getD i 0=f i:=by
 rw[b3,ed,mv h];rfl
def qd{ns:f_}{l:d_}(lok:cB ns l):((l.map λi=>ns.getD i bo).map λz=>z.length+(⟨#[32]⟩:Str).length).sum<=sizeLine/\(Str.join ⟨#[32]⟩<|l.map λi=>ns.getD i bo).length<=8*13:=by
 have a:∀x∈l.map λi=>ns.getD i bo,x.length<=12:=λx hx=>by
  obtain⟨i,hi,rfl⟩:=gh.mp hx;exact lok.nm _<|getD_memS<|lok.lt i hi
 have d:=lok.fJ;have hj:=fK 32 12 _ a;have b:=jj 12 _ a;rw[b5]at hj b;have hb:(1000:Nat)<=sizeLine:=by decide
 have c:l.length*13<=8*13:=AC _ d;exact⟨gr b (by omega),gr hj c⟩
def JY{ns:f_}{l:d_}(lok:cB ns l):((dI ns l).map λz=>z.length+(⟨#[32]⟩:Str).length).sum<=sizeLine:=by
 unfold dI;have hb:(1000:Nat)<=sizeLine:=by decide
 have hj:=(qd lok).2
 split
 ·exact zero_le _
 ·show(pZ ns l).length+1+0<=_
  have:(pZ ns l).length<=8*13:=hj
  omega
def C9(cs:d_)(N:Nat):((au cs).map λc=>(N:Int) / c)=(List.range cs.length).map λi=>((N / cs.getD i 0:Nat):Int):=by
 rw[c9 (λc=>((N / c:Nat):Int)),au,k6];rfl
theorem yh:∀l:d_,(l.map λ(x:Nat)=>(x:Int)).sum=((l.sum:Nat):Int)
 | []=>rfl
 |x::l=>by rw[m5,C6,C6,yh l];exact(natCast_add _ _).symm
def Ng(cs:d_)(N:Nat):((au cs).map λc=>(N:Int) / c).sum=((((List.range cs.length).map λi=>N / cs.getD i 0).sum:Nat):Int):=by
 rw[C9,<-yh,k6];rfl
def JZ{cs ws:d_}{L:B0L}(hp:∀c∈cs,1<=c)(G:jV (au cs) ws L)(hw:∀i,i<cs.length->cF ws i i=false):hV cs L (AH.lex cs).length 0 cs.length=(au cs).map λc=>((AH.lex cs).length:Int) / c:=by
 rw[C9];unfold hV cntK;refine Os λi hi=>?_;rw[if_neg (sU i),sC,Ex hp G hw<|fO.mp hi]
inductive qf(vs:u_)(H:Hp)(Q:VK)(E:XK):Prop
 |mk (a:Addr) (dn:e_) (kind:Int) (i:Nat):(vs=[.ref a,.int kind,.int i])->H a=some (.lst<|dn.map V.int)->dn.length=8->((∀x∈dn,0<=x))->i<8->0<=kind->kind<3->(∀(c:Nat) H',ag H H'->0<c->c<=6->Q (.int (c:Int)) H')->qf vs H Q E
inductive mS(K:Frag)(vs:u_)(H:Hp)(Q:VK)(E:XK):Prop
 |mk (a:Addr) (xs:e_) (most kinds:Nat):(vs=[.ref a,.int most,.int kinds])->aw K H a (xs.map V.int)->xs.length=3->1<=most->most<=8->1<=kinds->kinds<=3->(∀b nm ct wb ns cs ws H',ag H H'->H ct=none->H' b=some (.lst [.ref nm,.ref ct,.ref wb])->H' nm=some (.lst<|ns.map V.str)->H' ct=some (.lst<|(au cs).map V.int)->H' wb=some (.lst<|(au ws).map V.int)->nm≠ct->wb≠ct->iU ns cs ws->ns.length<=most->(∀c∈cs,c<=6)->Q (.ref b) H')->mS K vs H Q E
variable{cs:e_}
def EI{ws:d_}{m:Nat}{x:mJ}(hp:∀c∈cs,1<=c)(h:iy cs ws m x):((most (worth cs ws) m:Nat):Int)=x.1:=by
 obtain⟨a,f⟩:=IT hp h.1.each h.1.rq;have h1:=h.2 _ a;have e:=h.1.sum;have d:=h.1.nn;have b:=dZ.uniq (lP (kC cs ws) m) ⟨⟨_,a,by omega⟩,h.2⟩
 omega
def Bb(l:d_)(x:Nat):AH.cC (l++[x])=AH.cC l*x:=by
 unfold AH.cC
 induction l with
 |nil=>show x*1=1*x;omega
 |cons a l b=>show a*(l++[x]).foldr (· * ·) 1=a*l.foldr (· * ·) 1*x;rw[b,Nat.mul_assoc]
def Rj(k:Nat):(64:Int) / 2 ^ ((k:Nat):Int).toNat=((64 / 2 ^ k:Nat):Int):=by
 rw[k4];exact(by rw[natCast_ediv,natCast_pow];rfl)
variable{a b:Expr}{ta tb:TE}
def fI{X:Cx}{pos:Pos}(ha:QE X a ta)(hb:QE X b tb)(hs:om b:=by exact λ_ _=>rfl):QE X (.Subscript a b pos) (uf (wL X.K) ta tb):=jL (bh rfl) ha hb hs
def RK{X:Cx}{pos:Pos}(ha:QE X a ta)(hb:QE X b tb)(hs:om b:=by exact λ_ _=>rfl):QE X (.Subscript a b pos) (uf (Dy X.K) ta tb):=jL (fE rfl) ha hb hs
variable{i:Int}
def fL{X:Cx}{pos pos':Pos}{j:Nat}(ha:QE X a ta):QE X (.Subscript a (.Constant (.int i) j pos') pos) (uf (wL X.K) ta<|tC<|.int i):=jL (bh rfl) ha ax λ_ _=>rfl
def mT{X:Cx}{pos pos':Pos}{j:Nat}(ha:QE X a ta):QE X (.Subscript a (.Constant (.int i) j pos') pos) (uf (Dy X.K) ta<|tC<|.int i):=jL (fE rfl) ha ax λ_ _=>rfl
def aa{X:Cx}{e:Expr}{te:TE}(ha:QE X e te)(hn:GO e=true:=by rfl):QB X [e] (sf te ui):=ak ha bw hn
end L2
namespace K78
open PySem L2 PyProof.Rows
def top(i:Nat):Stmt:=PySem.Challenge.pw_hatsight_k78_whole_from_text.main.body.getD i<|.Pass ⟨0,0,0,0⟩
abbrev dC:Stmt:=top 1
abbrev vJ:Stmt:=top 2
abbrev Bc:Stmt:=top 3
abbrev mU:Stmt:=top 4
abbrev fT:Stmt:=top 5
abbrev iF:Stmt:=top 18
abbrev qg:Stmt:=top 20
abbrev Bd:Stmt:=top 21
abbrev jt:Stmt:=top 22
abbrev mV:Stmt:=top 23
abbrev gM:Stmt:=top 24
abbrev kK:Stmt:=top 25
abbrev gN:Stmt:=top 26
abbrev iG:Stmt:=top 27
abbrev iH:Stmt:=top 28
abbrev vK:Stmt:=top 30
abbrev kL:Stmt:=top 31
abbrev gP:Stmt:=top 32
abbrev qh:Stmt:=top 33
abbrev iI:Stmt:=top 34
abbrev ju:Stmt:=top 35
abbrev gQ:Stmt:=top 36
abbrev gR:Stmt:=top 37
abbrev iJ:Stmt:=top 38
abbrev fU:Stmt:=top 39
abbrev kM:Stmt:=top 40
abbrev gS:Stmt:=top 41
abbrev gT:Stmt:=top 42
abbrev kN:Stmt:=top 44
abbrev mW:Stmt:=top 52
abbrev kP:Stmt:=top 53
abbrev gU:Stmt:=top 54
abbrev fV:Stmt:=top 55
abbrev dc:Stmt:=top 56
abbrev mY:Stmt:=top 57
abbrev jv:Stmt:=top 58
abbrev mZ:Stmt:=top 59
abbrev jw:Stmt:=top 60
abbrev iK:Stmt:=top 61
abbrev Be:Stmt:=top 64
abbrev qi:Stmt:=top 65
abbrev jx:Stmt:=top 66
abbrev lS:Stmt:=top 67
abbrev gX:Stmt:=top 68
abbrev Kx:Stmt:=top 69
abbrev m7:Stmt:=top 70
abbrev jy:Stmt:=top 73
abbrev Ky:Stmt:=top 74
abbrev jz:Stmt:=top 75
abbrev jA:Stmt:=top 76
abbrev jB:Stmt:=top 77
abbrev dU:Stmt:=top 78
abbrev jC:Stmt:=top 79
abbrev fo:Stmt:=top 80
abbrev jD:Stmt:=top 81
abbrev fq:Stmt:=top 82
abbrev eZ:Stmt:=top 83
abbrev fW:Stmt:=top 84
abbrev fX:Stmt:=top 85
abbrev eK:Stmt:=top 86
abbrev eL:Stmt:=top 87
abbrev gY:Stmt:=top 88
abbrev ft:Stmt:=top 89
abbrev lT:Stmt:=top 90
noncomputable abbrev fu:Stmt:=nN (top 45) 0
noncomputable abbrev fY:Stmt:=nN (top 45) 1
noncomputable abbrev kQ:Stmt:=nN (top 45) 2
noncomputable abbrev ON:Stmt:=nN (top 45) 3
noncomputable abbrev iL:Stmt:=nN (top 45) 4
noncomputable abbrev iM:Stmt:=nN (top 45) 5
noncomputable abbrev bS:Stmt:=nN (top 71) 0
noncomputable abbrev kR:Stmt:=nN (top 71) 1
structure Bn(mg:b_):Prop where
 range:mg "range"=none
 len:mg "len"=none
 sum:mg "sum"=none
 max:mg "max"=none
 isinstance:mg "isinstance"=none
 int:mg "int"=none
 bool:mg "bool"=none
 str:mg "str"=none
 tuple:mg "tuple"=none
 list:mg "list"=none
 sorted:mg "sorted"=none
 set:mg "set"=none
 all:mg "all"=none
 any:mg "any"=none
 zip:mg "zip"=none
 enumerate:mg "enumerate"=none
 min:mg "min"=none
structure Cs(mg:b_):Prop where
 Nz:∃t,mg "LETTERS"=some (.str "abcdefghijklmnopqrstuvwxyz" t)
 Nw:∃t,mg "FIGURES"=some (.str "0123456789" t)
 vS:∃t,mg "LONGEST_NAME"=some (.int 12 t)
 rp:∃t,mg "LONGEST_COUNT"=some (.int 30 t)
 yr:∃t,mg "MOST_PEOPLE"=some (.int 8 t)
local macro_rules | `(tactic| walk_at $s) => do
 let some l:=[("d","L2.Sn"),("r0","L2.uz")].lookup s.getString|Lean.Macro.throwUnsupported
 let x:=("uz zy U9 PZ Sd NM Se Sf Sg Sh B0 NO wU Gy Si Gz GA NQ GB NR B1 NS GC zx GD Sj NT NU P0 NV Om HF Ot Iy Oz OA OB Il Ig HG Sk wV GH Sl Sm gA GJ GK NW NX NY pb NZ B2 GN B3 Co S6 HA TJ OF IE IF CH Jc Jd IC CZ C0 C7 Ju OI Hq Hr Hs Ht Og sP NP HQ SO SQ LH Vg uM SX SR SS Oh N0 N6 G0 G8 SE j4 N9 Oa Ob Oc SF SG".splitOn.map λx=>"L2."++x)++l::"L2.start map_cons map_nil length_cons length_nil List.replicate cons_append nil_append append_nil set_cons_zero set_cons_succ Nat.reduceAdd Nat.reduceSub bitAnd_m1 Bool.false_eq_true Bool.not_true Bool.not_false decide_eq_true_eq".splitOn|>.map λx=>Lean.mkIdent x.toName
 let x:=x.toArray
 `(tactic| try simp only [$[$x:ident],*])
set_option hygiene false in
local macro_rules | `(tactic| omega) => `(tactic| first | (with_reducible first | assumption | exact Nat.le_of_lt ‹_› | exact Nat.le_trans ‹_› (by decide) | exact Nat.lt_of_le_of_lt ‹_› (by decide) | exact Nat.lt_of_lt_of_le ‹_› (by decide) | exact Nat.lt_of_lt_of_le ‹_› ‹_› | exact Nat.lt_of_le_of_lt ‹_› ‹_› | exact Nat.le_trans ‹_› ‹_› | exact Nat.le_trans ‹_› (Nat.le_trans ‹_› (by decide)) | exact Nat.le_of_lt (Nat.lt_of_lt_of_le ‹_› (by decide)) | exact Nat.le_trans (Nat.le_of_lt ‹_›) (Nat.le_trans ‹_› (by decide)) | exact Nat.lt_of_lt_of_le ‹_› (Nat.le_trans ‹_› (by decide)) | exact Int.natCast_nonneg _ | exact Int.emod_nonneg _ (by decide) | exact Int.emod_lt_of_pos _ (by decide) | exact Int.ofNat_lt.mpr ‹_› | exact Int.ofNat_le.mpr ‹_› | exact Int.ofNat_lt.mp ‹_› | exact Int.lt_add_one_of_le (Int.natCast_nonneg _) | exact Int.ne_of_gt (Int.lt_add_one_of_le (Int.natCast_nonneg _)) | exact Int.natCast_pos.mpr ‹_› | exact Nat.le_trans (Nat.add_le_add ‹_› ‹_›) (by decide) | exact Nat.le_trans (Nat.add_le_add ‹_› (Nat.le_of_eq ‹_›)) (by decide) | exact Nat.le_trans (Nat.add_le_add (Nat.le_trans ‹_› ‹_›) (Nat.le_of_eq ‹_›)) (by decide) | exact Nat.le_trans (Nat.add_le_add (Nat.le_trans ‹_› ‹_›) (Nat.le_trans ‹_› ‹_›)) (by decide) | exact Nat.le_trans (Nat.add_le_add ‹_› (Nat.le_trans ‹_› ‹_›)) (by decide) | exact Nat.le_trans (Nat.add_le_add_left ‹_› _) (by decide)) | decide | omega +splitDisjunctions)
set_option hygiene false in
local macro_rules | `(tactic| walk_at"u") => `(tactic| try with_reducible refine V7 (by with_reducible assumption) ?_)
set_option hygiene false in
local macro_rules | `(tactic| walk_at"s") => `(tactic| ((try with_reducible refine zH _ _ ?_); (walk_at"u"); (walk_at"r0"); try (with_reducible refine zH _ _ ?_; walk_at"u"; walk_at"r0")))
set_option hygiene false in
local macro_rules | `(tactic| walk_at"g") => `(tactic| ((try with_reducible refine zH _ _ ?_); (first | (have := z_C) | (refine Vw ?_; (repeat (intro z_b; intro z_e)); dsimp only; have z_C := trivial)); (first | with_reducible refine Vx (by first | with_reducible assumption | with_reducible rfl) λzR zH => ?_ | refine Vp λzR zH => ?_)))
local macro_rules | `(tactic| walk_at"h") => `(tactic| (walk_at"g";walk_at"s"))
local macro_rules | `(tactic| walk_at"i") => `(tactic| (walk_at"s";walk_at"g";walk_at"s"))
set_option hygiene false in
local macro_rules | `(tactic| walk_at"hI") => `(tactic| (intro X S e1 e2 e3 e4 e5 hc hsc hxe hr hu H vs Q E h; refine @T5 _ (λvs => _) vs λzV zW => ?_; subst e1 e2 e3 e4 e5))
set_option hygiene false in
local macro_rules | `(tactic| walk_at"hH") => `(tactic| (refine D.gq zY (by walk_at"hB") (by walk_at"hL") ?_; walk_at"hI"))
set_option hygiene false in
local macro_rules | `(tactic| walk_at"hB") => `(tactic| (intro _ _ _ _ _ _ us hl; (first | have q := Q0 hl | have q := Q1 hl | have q := ME hl | have q := TM hl | have q := Vo hl); (repeat obtain ⟨_, q⟩ := q); (try subst q); rfl))
set_option hygiene false in
local macro_rules | `(tactic| walk_at"hL") => `(tactic| (intro vs H Q E h; first | (cases h; subst_vars; rfl) | repeat (first | (obtain ⟨rfl, _⟩ := h; rfl) | obtain ⟨_, h⟩ := h)))
set_option hygiene false in
local macro_rules | `(tactic| walk_at"fo") => `(tactic| try (first | (apply T6; intro zF zG) | (apply T7; intro zF zG)))
set_option hygiene false in
local macro_rules | `(tactic| walk_at"fg") => `(tactic| try (first | with_reducible refine zG _ _ _ ?_ | with_reducible refine zG _ _ _ _ ?_))
variable{P:Program}{w:World}{K:Frag}{mg:b_}{base:Heap}
def EJ(B:Bn mg)(KC:Cs mg)(D:Def K mg "is_name" mW):Fn P w K mg base 1 "is_name" ["word"] lF:=by
 have zY:DS (aj mW) ["word"] ["word"] ["LONGEST_NAME","len","all"]:=aK;walk_at"hH";obtain⟨z,rfl,hz,q⟩:=h;refine zW _ ⟨_,(ae (cM (qR<|zD k9 k9 ax (cq S 1 ib B.len kb<|aa<|kv S 0)<|Qv S 0 KC.vS) (ai<|aH wW) az)
   (ai (aH (cq S 2 (cU hc rfl) B.all boot_all (aa (f9 S hc hsc (Ou (kv S 0) rfl) (N:=["sign"]) (W:=["sign"]) (G:=["LETTERS"]) (fv:=[none]) Dk0 (λi C g s H a=>⟨(kg a 0),aY,(fi r9 (kv a 0) (Th a 0 KC.Nz) (by with_unfolding_all rfl))⟩))))))),?_⟩
 cbv;refine⟨z,rfl,ox hz,?_⟩;have d:¬(1<=z.length/\z.length<=12)->Q (.bl false) H:=λc=>by
  have:=q H<|ag.refl _
  unfold bI at this;rw[dt c,qs]at this;exact this
 refine bT (λc=>?_) (λc=>d (by omega))
 refine bT (λb=>d (by simp at b;omega)) λb=>?_
 refine⟨z,rfl,xy hz λe f=>?_⟩
 have:=q e f
 unfold bI at this;rw[cc (show 1<=z.length/\z.length<=12 by simp at b;omega),nq]at this
 exact this
def Bf(B:Bn mg)(KC:Cs mg)(D:Def K mg "is_count" kP):Fn P w K mg base 1 "is_count" ["word"] mB:=by
 have zY:DS (aj kP) ["word"] ["word"] ["LONGEST_COUNT","len","all"]:=aK;walk_at"hH";obtain⟨z,rfl,hz,q⟩:=h;refine zW _ ⟨_,(ae (cM (wt<|Lw (qR<|zD k9 k9 ax (cq S 1 ib B.len kb<|aa<|kv S 0)<|Qv S 0 KC.rp)<|uC<|aM aR (jL zo (kv S 0) ax λ_ _=>rfl) br<|ao _) (ai<|aH wW) az)
   (ai (aH (cq S 2 (cU hc rfl) B.all boot_all (aa (f9 S hc hsc (Ou (kv S 0) rfl) (N:=["sign"]) (W:=["sign"]) (G:=["FIGURES"]) (fv:=[none]) Dk0 (λn C o s H d=>⟨(kg d 0),aY,(fi r9 (kv d 0) (Th d 0 KC.Nw) (by with_unfolding_all rfl))⟩))))))),?_⟩
 cbv;refine⟨z,rfl,ox hz,?_⟩;have i:¬(1<=z.length/\z.length<=30)->Q (.bl false) H:=λc=>by
  have:=q H<|ag.refl _
  unfold dA at this;rw[dt c,qs]at this;exact this
 refine bT (λc=>?_) (λc=>i (by omega))
 refine bT (λg=>i (by simp at g;omega)) λg=>?_
 have m:1<=z.length/\z.length<=30:=by simp at g;omega
 have l:0<(cz z).length:=by rw[<-aJ];omega
 refine⟨z,0,(cz z).getD 0 0,rfl,rfl,ox hz,?_,?_⟩
 ·show wq (cz z) ((0:Nat):Int)=_;exact ja rfl 0 l
 cbv;have b:decide ((⟨#[(cz z).getD 0 0]⟩:Str)=("0":Str))=decide ((cz z).getD 0 0=48):=by
  rw[show("0":Str)=⟨#[48]⟩ by decide +kernel]
  exact WA.mpr ⟨λe=>by simpa using BA cz e,λe=>by rw[e]⟩
 have j:∀a,ag H a->Q (.bl<|decide ((cz z).getD 0 0≠48)&&(cz z).all Ml) a:=λa f=>by
  have:=q a f
  unfold dA at this;rw[cc m,nq]at this;exact this
 refine bT (λc3=>?_) λc3=>?_
 ·have e:(cz z).getD 0 0=48:=ot (by rw[<-b];exact cc c3)
  have:=j H<|ag.refl _
  rw[dt (λh=>h e),qs]at this;exact this
 ·have e:(cz z).getD 0 0≠48:=λe=>c3 (ot (by rw[b];exact cc e))
  refine⟨z,rfl,xy hz λa f=>?_⟩
  have:=j a f
  rw[cc e,nq]at this;exact this
def J0(B:Bn mg)(D:Def K mg "is_hat_line" gU)(hX:Fn P w K mg base 1 "is_name" ["word"] lF)(kS:Fn P w K mg base 1 "is_count" ["word"] mB):Fn P w K mg base 2 "is_hat_line" ["words"] (Cq K):=by
 have zY:DS (aj gU) ["words"] ["words"] ["is_name","is_count","len"]:=aK;walk_at"hH";obtain⟨p,l,rfl,a,q⟩:=h;refine zW _ ⟨_,(ai<|aH<|ku (fi aR (cq S 2 (av rfl) B.len kb<|aa<|kv S 0) ax<|ao _)<|ku (fi aR (fL<|kv S 0) br<|ao _)<|ku (cE S 0 hX hr<|aa<|fL<|kv S 0)<|pe<|cE S 1 kS hr<|aa<|fL<|kv S 0),?_⟩;cbv;refine aI (.inl a.sq) ?_;rw[b5];cbv;unfold xt at q;refine bT (λc=>?_) λc=>?_
 ·rw[cc (show l.length=3 by omega),nq]at q
  refine aD (i:=((0:Nat):Int)) a.sq (aG (bb (by omega))) ?_
  cbv;refine bT (λd=>?_) λd=>?_
  ·rw[cc d,nq]at q;refine aD (i:=((1:Nat):Int)) a.sq (aG (bb (by omega))) ?_
   refine⟨_,rfl,a.short _ (getD_memS (by omega)),λH1 b=>?_⟩
   cbv
   cases h1:bI (l.getD 1 bo)with
   |false=>
    rw[h1,qs]at q;exact q _ b
   |true=>
    rw[h1,nq]at q;cbv;refine aD (i:=((2:Nat):Int)) (b.seq a.sq) (aG (bb (by omega))) ?_
    exact⟨_,rfl,a.short _ (getD_memS (by omega)),λf e=>q _<|b.trans e⟩
  ·rw[dt d,qs]at q;exact q _<|ag.refl _
 ·rw[dt (show ¬l.length=3 by omega),qs]at q
  exact q _<|ag.refl _
def EK(B:Bn mg)(D:Def K mg "is_sees_line" fV)(hX:Fn P w K mg base 1 "is_name" ["word"] lF):Fn P w K mg base 2 "is_sees_line" ["words"] (xx K):=by
 have zY:DS (aj fV) ["words"] ["words"] ["all","len"]:=aK;walk_at"hH";obtain⟨p,l,rfl,d,q⟩:=h;have n:=d.fJ;refine zW _ ⟨_,(ai (aH (ku (fi NF (cq S 1 (av rfl) B.len kb<|aa<|kv S 0) ax<|ao _) (ku (fi aR (fL<|kv S 0) br<|ao _) (pe (cq S 0 (cU hc rfl) B.all boot_all (aa (f9 S hc hsc (bA (qP (c5 rfl) (kv S 0) (bK ax) bJ) rfl) (N:=["word"]) (W:=["word"]) (G:=["is_name"]) (fv:=[none]) Dk0 λz C E s H f=>⟨(kg f 0),aY,(cE f 0 hX hr<|aa<|kv f 0)⟩)))))))),?_⟩
 cbv;refine aI (.inl d.sq) ?_;rw[b5];cbv;unfold tw at q;refine bT (λc=>?_) λc=>?_
 ·rw[cc (show 3<=l.length by omega),nq]at q
  refine aD (i:=((0:Nat):Int)) d.sq (aG (bb (by omega))) ?_
  cbv;refine bT (λj=>?_) λj=>?_
  ·rw[cc j,nq]at q;refine⟨p,_,rfl,d.sq,λa r=>?_⟩;rw[show(some (1:Int))=some ((1:Nat):Int)from rfl,dE,<-Wo]
   have o:=ag.new r<|.lst<|(l.drop 1).map V.str;have g:(l.drop 1).length=l.length-1:=nt;refine⟨a,rfl,⟨_,aw.of af⟩,wu (df<|aw.of af) (λ_=>true) (λi=>.bl<|bI<|(l.drop 1).getD i bo) (by rw[b5,g];exact aB (by omega)) ?_ ?_⟩
   ·intro i H1 A F hi x t _;rw[b5]at hi;rw[show((l.drop 1).map V.str).getD i .bE=.str ((l.drop 1).getD i bo) by rw[b3,bb hi];rfl]
    cbv;exact⟨_,rfl,d.short _<|mem_of_mem_drop<|getD_memS hi,λy u=>t rfl _ u⟩
   ·intro m H1 hn v b;rw[bz,b5]at b;refine⟨m,(List.range (l.drop 1).length).map λi=>bI<|(l.drop 1).getD i bo,rfl,aw.of (by rw[b,k6];rfl),?_⟩
    have e:((List.range (l.drop 1).length).map λi=>bI<|(l.drop 1).getD i bo).all id=(l.drop 1).all bI:=by
     rw[F8]
     conv=>rhs;rw[show l.drop 1=(List.range (l.drop 1).length).map λi=>(l.drop 1).getD i bo from by
      apply C2
      intro i
      by_cases hi:i<(l.drop 1).length
      ·rw[ed,mv hi,b4 hi];show some _=some ((l.drop 1).getD i bo);rw[b3,b4 hi];rfl
      ·rw[h9 (by omega),h9 (by rw[b5,h7];omega)]]
     rw[F8];rfl
    rw[e];exact q _<|o.trans v
  ·rw[dt j,qs]at q;exact q _<|ag.refl _
 ·rw[dt (show ¬3<=l.length by omega),qs]at q
  exact q _<|ag.refl _
def vL:DS (aj dc) ["text","line","words","names"] ["text","line"] ["is_hat_line","int","is_sees_line","NoLine","len","Twice","set","tuple"]:=aK
def vM:Ov "read_line" dc "text" "line":=λT kV a b d c ct u v=>⟨⟨_,by with_unfolding_all rfl,λ_=>by with_unfolding_all rfl⟩,⟨_,by with_unfolding_all rfl,λ_=>by with_unfolding_all rfl⟩,⟨_,by with_unfolding_all rfl,λ_=>by with_unfolding_all rfl⟩⟩
def Nh(B:Bn mg)(D:HS K mg "read_line" dc 0)(rA:Fn P w K mg base 2 "is_hat_line" ["words"] (Cq K))(qr:Fn P w K mg base 2 "is_sees_line" ["words"] (xx K)):UO P w K mg base 3 "read_line" "text" "line" 0 (vg K):=by
 refine D.gq vL vM (by walk_at"hL") ?_
 walk_at"hI";obtain⟨z,i,l,rfl,hz,J,j,q⟩:=h;refine zW _ ⟨_,(ae (aZ S 2<|kY yP KF type_str_split dh rfl (kv S 0)<|aa br)
   (ae (cM (mj<|cE S 0 rA hr<|aa<|kv S 2) (ai<|aH<|uB<|ak br<|ak (fL<|kv S 2)<|aa<|jM S 1 iq B.int boot_int<|aa<|fL<|kv S 2) az)
   (ae (cM (qR<|mj<|cE S 2 qr hr<|aa<|kv S 2) (ai iQ) az)
   (ae (aZ S 3<|qP (c5 rfl) (kv S 2) (bK ax) bJ)
   (ae (cM (aM iZ (cq S 4 Ag B.len kb<|aa<|jM S 6 (vf hc rfl) B.set boot_set<|aa<|kv S 3) (cq S 4 (av rfl) B.len kb<|aa<|kv S 3)<|ao _) (ai iQ) az)
   (ai<|aH<|uB<|ak br<|ak (fL<|kv S 3)<|aa<|jM S 7 (eB rfl) B.tuple boot_tuple<|aa<|qP (c5 rfl) (kv S 3) (bK ax) bJ)))))),?_⟩
 cbv;have U:(1000002:Nat)<=sizeLine:=by decide
 refine⟨rfl,z,_,rfl,rfl,Dk0,by omega,?_,λp Q=>?_⟩
 ·rw[cA,J];omega
 rw[cA,J];have N:=ag.new Q<|.lst<|l.map V.str;have m:Ws X.K (upd H p<|.lst<|l.map V.str) p l:=⟨aw.of af,j,λx hx=>gr (Ah (by rw[J];exact hx)) hz⟩
 refine⟨p,l,rfl,m,λH1 v=>?_⟩;have d:aw X.K H1 p (l.map V.str):=v.seq m.sq;cbv
 rcases q with ⟨hh,c,I,q⟩|⟨hh,n,o,q⟩
 ·rw[hh];cbv;have hb:=hh;unfold xt at hb;rw[gc]at hb;have r:l.length=3:=ot hb.1;have f:dA (l.getD 2 bo)=true:=by
   have O:=hb.2;rw[gc,gc]at O;exact O.2.2
  have Y:(l.getD 2 bo).length<=30:=by
   unfold dA at f;rw[gc]at f;exact(ot f.1).2
  refine aD (i:=((1:Nat):Int)) d (aG (bb (by omega))) ?_
  refine aD (i:=((2:Nat):Int)) d (aG (bb (by omega))) ?_
  refine⟨_,c,rfl,I,by omega,?_⟩
  refine⟨a_,λt s=>?_⟩
  exact q t _ (N.trans<|v.trans<|ag.new s _) af
 ·rw[hh];cbv;refine⟨p,l,rfl,⟨d,m.fJ,m.short⟩,λA M=>?_⟩;rw[n];cbv;have E:=M.seq d;have r:3<=l.length:=by
   unfold tw at n;rw[gc]at n;exact ot n.1
  refine⟨p,_,rfl,E,λa Z=>?_⟩;rw[show(some (1:Int))=some ((1:Nat):Int)from rfl,dE,<-Wo]
  have W:=ag.new Z<|.lst<|(l.drop 1).map V.str;have T:(l.drop 1).length=l.length-1:=nt;cbv;refine⟨a,l.drop 1,rfl,aw.of af,by omega,λP w b hb=>?_⟩
  have G:=ag.new hb<|xq P w b<|ve<|l.drop 1;have g:upd (upd A a<|.lst<|(l.drop 1).map V.str) b (xq P w b<|ve<|l.drop 1) b=some (xq P w b<|ve<|l.drop 1):=af;have e:aw X.K (upd (upd A a<|.lst<|(l.drop 1).map V.str) b<|xq P w b<|ve<|l.drop 1) a ((l.drop 1).map V.str):=aw.of<|G _ _ af;generalize upd (upd A a<|.lst<|(l.drop 1).map V.str) b (xq P w b<|ve<|l.drop 1)=H3 at G g e ⊢;refine⟨b,_,P,w,rfl,g,?_⟩;refine aI (.inl e) ?_;rw[b5,(Mh<|l.drop 1).2.mpr o];cbv;rw[if_neg (by omega)]
  refine aD (i:=((0:Nat):Int)) e (aG (bb (by omega))) ?_
  rw[show(l.drop 1).getD 0 bo=l.getD 1 bo by rw[b3,getElem?_drop,<-b3]]
  refine⟨a,_,rfl,e,λc C=>?_⟩;rw[dE,<-Wo,List.drop_drop];have sc:=ag.new C<|.lst<|(l.drop<|1+1).map V.str;refine⟨c,_,rfl,.inl ⟨aw.of af,λu y=>?_⟩⟩;have R:=ag.new y<|.tup<|(l.drop<|1+1).map V.str;refine⟨a_,λt s=>?_⟩
  have L:=ag.new s<|.tup [.str "sees",.str<|l.getD 1 bo,.ref u];exact q t u _ ((N.trans v).trans<|(M.trans W).trans<|(G.trans sc).trans<|R.trans L) af<|L _ _ af
def EL(B:Bn mg)(KC:Cs mg)(D:Def K mg "add_hat" mY):Fn P w K mg base 1 "add_hat" ["numbers","name","line"] pR:=by
 have zY:DS (aj mY) ["numbers","name","line"] ["numbers","name","line"] ["Twice","MOST_PEOPLE","len","TooMany"]:=aK;walk_at"hH";obtain⟨d,b,x,i,rfl,a,hx,e,q⟩:=h;refine zW _ ⟨_,(ae (cM (Tr (u1 hu) (kv S 1) (kv S 0) (by with_unfolding_all rfl)) (ai iQ) az)
   (ae (cM (aM NF (cq S 2 tD B.len kb<|aa<|kv S 0) (Qv S 1 KC.yr)<|ao _) (ai iQ) az)
   (ai<|Oq (u1 hu) (cq S 2 tD B.len kb<|aa<|kv S 0) (kv S 0)<|kv S 1))),?_⟩
 cbv;refine⟨d,_,rfl,QA a hx,?_⟩;rw[isSome_none];cbv;refine xH a ?_;cbv;refine bT (λc=>absurd c (by omega)) λc=>?_
 refine xH a ?_;refine Ih a rfl hx (c8 (by omega)) ?_
 exact q
def yi(B:Bn mg)(D:Def K mg "add_sight" jv):Fn P w K mg base 1 "add_sight" ["numbers","web","name","seen","line"] (kB K):=by
 have zY:DS (aj jv) ["numbers","web","name","seen","line"] ["numbers","web","name","seen","line"] ["Twice","all","Unknown","sum"]:=aK;walk_at"hH";obtain⟨d,w,t,a,l,ws,x,i,rfl,F,Z,j,h8,hx,O,U,T,X,q⟩:=h;refine zW _ ⟨_,(ae (cM (wt (qQ (Tr (u1 hu) (kv S 2) (kv S 0) (by with_unfolding_all rfl))<|lr<|aM iY (fI (kv S 1)<|Ie (u1 hu) (kv S 0)<|kv S 2) ax<|ao _)) (ai iQ) az)
   (ae (cM (qR (mj (cq S 1 (cU hc rfl) B.all boot_all (aa (f9 S hc hsc (fB (aQ (i7 rfl) (uB<|aa<|kv S 2)<|kv S 3) rfl) (N:=["other","numbers"]) (W:=["other"]) (G:=[]) (fv:=[none,some 0]) Dk0 (λcl C fp s H g=>⟨(kg g 0),aY,(Te (u1 hu) (kv g 0) (kv g 1) (by with_unfolding_all rfl))⟩)))))) (ai iQ) az)
   (ai (DI (cq S 3 (cw hc rfl) B.sum boot_sum (aa (f9 S hc hsc (fB (kv S 3) rfl) (N:=["other","numbers"]) (W:=["other"]) (G:=[]) (fv:=[none,some 0]) Dk0 λcl C fp s H g=>⟨(kg g 0),aY,(aQ bW ax<|Ie (u1 hu) (kv g 1)<|kv g 0)⟩)))<|P8 (kv S 1) (Ie (u1 hu) (kv S 0)<|kv S 2) set_list)))),?_⟩
 cbv;have hi:a.idxOf x<a.length:=BB.mpr hx;refine⟨d,_,rfl,xG F hx,?_⟩;rw[isSome_some];cbv;refine⟨d,_,rfl,xG F hx,?_⟩;refine aN (aw.of Z) rfl (by rw[ah,j];exact hi) ?_
 rw[aA,O];cbv;refine⟨a_,λp hp=>?_⟩
 have r:=ag.new hp<|.tup [V.str x];refine⟨p,t,_,_,rfl,rfl,aL.of af,aL.of<|r _ _ U,by rw[b5];exact c8 (by show 1+_<=_;omega),λp1 H1 u f=>?_⟩
 have n:DN H1 d a:=u _ _<|r _ _ F;have Q:([V.str x]++l.map V.str)=(x::l).map V.str:=rfl;rw[Q]at f;have di:∀y∈x::l,y∈a:=λy hy=>(gg.mp hy).elim (λe=>e ▸ hx)<|T y;refine⟨p1,rfl,⟨_,f⟩,wu (i6 f) (λ_=>true) (λi=>.bl true) (by rw[b5,mo];exact aB (by omega)) ?_ ?_⟩
 ·intro i Y A B' hi z J _;rw[b5]at hi;rw[show((x::l).map V.str).getD i .bE=.str ((x::l).getD i bo) by rw[b3,bb hi];rfl]
  cbv;refine⟨d,_,rfl,xG (z _ _ n)<|di _<|getD_memS hi,?_⟩;exact J rfl _<|ag.refl _
 intro L Y hn2 v b;rw[bz,b5]at b;refine⟨L,(List.range (x::l).length).map λ_=>true,rfl,aw.of (by rw[b,k6];rfl),?_⟩
 have eT:(((List.range (x::l).length).map λ_=>true).all id)=true:=by rw[F8];exact ka.mpr λ_ _=>rfl
 rw[eT];cbv;have o:DN Y d a:=v _ _ n;have m:=v _ _<|u _ _<|r _ _ U;have M:=v _ _<|u _ _<|r _ _ Z;refine⟨t,rfl,⟨_,aL.of m⟩,wu (i6<|aL.of m) (λ_=>true) (λi=>.int ((2 ^ a.idxOf (l.getD i bo):Nat):Int)) (by rw[b5];exact aB (by omega)) ?_ ?_⟩
 ·intro i H3 A B' hi z J _;rw[b5]at hi;rw[show(l.map V.str).getD i .bE=.str (l.getD i bo) by rw[b3,bb hi];rfl]
  cbv;refine⟨d,_,rfl,xG (z _ _ o)<|T _<|getD_memS hi,?_⟩;have hlt:a.idxOf (l.getD i bo)<a.length:=BB.mpr<|T _<|getD_memS hi;cbv;refine⟨dY (by omega),?_⟩
  exact J rfl H3<|ag.refl _
 intro E H3 hn3 R c;rw[bz,b5]at c;refine⟨E,(List.range l.length).map λi=>((2 ^ a.idxOf (l.getD i bo):Nat):Int),rfl,aw.of (by rw[c,k6];rfl),?_⟩
 cbv;rw[Ii];have I:=R _ _ M;refine⟨d,_,rfl,xG (R _ _ o) hx,?_⟩;refine⟨w,_,_,_,rfl,rfl,I,uL (by rw[b5,ah,j];exact hi),?_⟩
 rw[Ij];exact q _<|r.trans<|u.trans<|v.trans R
def Ni(B:Bn mg)(D:Def K mg "rows_of" mZ):Fn P w K mg base 1 "rows_of" ["text"] Ap:=by
 have zY:DS (aj mZ) ["text"] ["text"] []:=aK;walk_at"hH";obtain⟨z,rfl,hz,f,q⟩:=h;refine zW _ ⟨_,(ae (cM (aM aR (kv S 0) br<|ao _) (ai<|aH<|dM bw) az)
   (ai<|aH<|kY yP KF type_str_split dh rfl (kv S 0)<|aa br)),?_⟩
 cbv;refine bT (λc=>?_) λc=>?_
 ·refine⟨a_,λl e=>?_⟩
  exact q l _ (ag.new e _) e (by rw[af];unfold pQ;rw[if_pos c];rfl)
 ·have g:(1000002:Nat)<=sizeLine:=by decide
  have b:("\n":Str)=⟨#[10]⟩:=by decide +kernel
  have d:pQ z=Txt.split z ⟨#[10]⟩:=by unfold pQ;rw[if_neg c]
  refine⟨rfl,z,_,rfl,rfl,Dk0,by omega,?_,λp a=>?_⟩
  ·rw[b,<-d];omega
  ·rw[b,<-d];exact q p _ (ag.new a _) a af
def Nj(B:Bn mg)(D:Def K mg "read_book" jw)(nh:Fn P w K mg base 1 "rows_of" ["text"] Ap)(yv:UO P w K mg base 3 "read_line" "text" "line" 0 (vg K))(Fd:Fn P w K mg base 1 "add_hat" ["numbers","name","line"] pR)(yw:Fn P w K mg base 1 "add_sight" ["numbers","web","name","seen","line"] (kB K)):Fn P w K mg base 4 "read_book" ["text"] (vz K):=by
 have zY:DS (aj jw) ["text","numbers","counts","web","line","row","told"] ["text"] ["enumerate","rows_of","read_line","add_hat","add_sight","tuple"]:=aK;walk_at"hH";obtain⟨L,b,rfl,bq,hL,hb,q⟩:=h;refine zW _ ⟨_,(ae (aZ S 1 Oo)
   (ae (aZ S 2<|dM bw)
   (ae (aZ S 3<|dM bw)
   (ae (dq hxe hc (Jt true S 0 B.enumerate rfl<|aa<|cE S 1 nh hr<|aa<|kv S 0) (pf hc (K:=X.K) (n:=2) rfl<|aV (kg S 4)<|aV (kg S 5) dN) (ae (aZ S 6<|Vk S 2 yv hr<|ak (kv S 5)<|aa<|kv S 4)
   (ai (cM (aM aR (mT<|kv S 6) br<|ao _) (ae (fC<|cE S 3 Fd hr<|ak (kv S 1)<|ak (mT<|kv S 6)<|aa<|kv S 4)
   (ae (fC<|kY rr oq pS cu rfl (kv S 2)<|aa<|mT<|kv S 6)
   (ai<|fC<|kY rr oq pS cu rfl (kv S 3)<|aa ax)))<|ai<|fC<|cE S 4 yw hr<|ak (kv S 1)<|ak (kv S 3)<|ak (mT<|kv S 6)<|ak (mT<|kv S 6)<|aa<|kv S 4))))
   (ai<|aH<|uB<|ak (jM S 5 (AF hc) B.tuple boot_tuple<|aa<|kv S 1)<|ak (jM S 5 (eB rfl) B.tuple boot_tuple<|aa<|kv S 2)<|aa<|jM S 5 (eB rfl) B.tuple boot_tuple<|aa<|kv S 3))))),?_⟩
 cbv;intro d ay;have s0:=ag.new ay<|.dK [];refine⟨a_,λc A=>?_⟩
 have s1:=ag.new A<|.lst [];refine⟨a_,λw s=>?_⟩
 have s2:=ag.new s<|.lst [];have cd:c≠d:=λz=>by rw[z,af]at A;cases A
 have wd:w≠d:=λz=>by rw[z,aC cd.symm,af]at s;cases s
 have wc:w≠c:=λz=>by rw[z,af]at s;cases s
 have hbt:=tH bq hL;have u:=Ao bq;refine⟨_,rfl,by omega,by rw[u,b5];omega,λr H1 t1 m O=>?_⟩
 rw[u]at O;have rd:r≠d:=λz=>by rw[z,aC wd.symm,aC cd.symm,af]at m;cases m
 have rc:r≠c:=λz=>by rw[z,aC wc.symm,af]at m;cases m
 have a4:r≠w:=λz=>by rw[z,af]at m;cases m
 have hB0:VI H1 d c w ⟨[],[],[]⟩:=⟨t1 _ _<|s2 _ _<|s1 _ _ af,t1 _ _<|s2 _ _ af,t1 _ _ af,rfl,rfl,a_⟩
 have hcn:H c=none:=s0.free A;have aS:H w=none:=(s0.trans s1).free s;refine Jv true (Ts H (lI L) d c w r L) (aw.of O) ⟨_,_,_,_,rfl,(s0.trans<|s1.trans s2).trans t1,O,rfl,hB0⟩ (λk σ H' h=>by obtain⟨b,y1,y2,y3,_,_,h,_⟩:=h;exact aw.of h) ?_ ?_
 ·rintro k v σ H2 H3 Y ⟨b1,y1,y2,y3,rfl,R,Q,y,j⟩ s3;obtain⟨x,hx,rfl⟩:∃x,L[k]?=some x/\v=.str (oA x):=by
   rw[ed,ed]at Y
   cases e:L[k]? with
   |none=>rw[e]at Y;cases Y
   |some x=>rw[e]at Y;cases Y;exact⟨x,rfl,rfl⟩
  obtain⟨a,b2,e1,e2,e3⟩:=Am hb hx;have eb:a=b1:=by rw[y]at e1;cases e1;rfl
  subst eb;have hS3:=R.trans s3;cbv;refine Mq (bq x<|ih hx) (λn I f G ex s4 E=>?_) λn l f G ex s4 E=>?_
  ·subst ex;obtain⟨hn,h8,rfl⟩:=Ed e2;have g:=s3.trans s4;cbv;refine bB (i:=((0:Nat):Int)) (aL.of E) (aG rfl) ?_;cbv;refine bB (i:=((1:Nat):Int)) (aL.of E) (aG rfl) ?_;refine⟨d,_,n,_,rfl,g _ _ j.hd,hn,h8,?_⟩;have fd:f≠d:=λz=>by have:=g _ _ j.hd;rw[<-z,E]at this;cases this
   have fc:f≠c:=λz=>by have:=g _ _ j.hc;rw[<-z,E]at this;cases this
   have fw:f≠w:=λz=>by have:=g _ _ j.hw;rw[<-z,E]at this;cases this
   cbv;have N:upd G d (.dK<|pO 0<|a.ns++[n]) c=some (.lst<|(au a.cs).map V.int):=by rw[aC cd];exact g _ _ j.hc
   have aE:upd G d (.dK<|pO 0<|a.ns++[n]) w=some (.lst<|(au a.ws).map V.int):=by rw[aC wd];exact g _ _ j.hw
   have a0:upd G d (.dK<|pO 0<|a.ns++[n]) r=some (.lst<|(L.map oA).map V.str):=by rw[aC rd];exact g _ _ Q
   have ab:upd G d (.dK<|pO 0<|a.ns++[n]) f=some (.tup [.str "hat",.str n,.int (I:Int)]):=by rw[aC fd];exact E
   have aF:upd G d (.dK<|pO 0<|a.ns++[n]) d=some (.dK<|pO 0<|a.ns++[n]):=af;have a6:ag H (upd G d<|.dK<|pO 0<|a.ns++[n]):=(R.trans g).set ay _;generalize upd G d (.dK<|pO 0<|a.ns++[n])=J at N aE a0 ab aF a6 ⊢;refine⟨.inl ⟨rfl,_,aw.of N⟩,?_⟩;refine bB (i:=((2:Nat):Int)) (aL.of ab) (aG rfl) ?_;refine⟨c,_,_,rfl,rfl,N,by rw[b5,ah];exact c8 (by rw[j.lc];omega),?_⟩
   rw[pP];cbv;have M:upd J c (.lst<|(au<|a.cs++[I]).map V.int) w=some (.lst<|(au a.ws).map V.int):=by rw[aC wc];exact aE
   have W:upd J c (.lst<|(au<|a.cs++[I]).map V.int) r=some (.lst<|(L.map oA).map V.str):=by rw[aC rc];exact a0
   have U:upd J c (.lst<|(au<|a.cs++[I]).map V.int) d=some (.dK<|pO 0<|a.ns++[n]):=by rw[aC cd.symm];exact aF
   have a5:upd J c (.lst<|(au<|a.cs++[I]).map V.int) c=some (.lst<|(au<|a.cs++[I]).map V.int):=af;have T:ag H (upd J c<|.lst<|(au<|a.cs++[I]).map V.int):=a6.set hcn _;generalize upd J c (.lst<|(au<|a.cs++[I]).map V.int)=H6 at M W U a5 T ⊢;refine⟨.inl ⟨rfl,_,aw.of M⟩,?_⟩;refine⟨w,_,_,rfl,rfl,M,by rw[b5,ah];exact c8 (by rw[j.lw];omega),?_⟩
   rw[show(V.int 0)=V.int ((0:Nat):Int)from rfl,pP]
   refine⟨_,_,_,_,rfl,T.set aS _,by rw[aC a4];exact W,e3,⟨by show upd _ _ _ _=_;rw[aC wd.symm];exact U,by rw[aC wc.symm];exact a5,af,?_,?_,?_⟩⟩
   ·rw[eR,eR,j.lw];rfl
   ·rw[eR,eR,j.lc];rfl
   ·rw[eR];show _+1<=8;omega
  ·subst ex;obtain⟨hn,h0,hl,rfl⟩:=Al e2;have g:=s3.trans s4;obtain⟨p,OG,FC⟩:=E;have hLs:Vl (n::l):=bq _<|ih hx;cbv;refine bB (i:=((0:Nat):Int)) (aL.of OG) (aG rfl) ?_;cbv;rw[if_neg Dk0]
   refine bB (i:=((1:Nat):Int)) (aL.of OG) (aG rfl) ?_;refine bB (i:=((2:Nat):Int)) (aL.of OG) (aG rfl) ?_;refine⟨d,w,p,_,l,_,n,_,rfl,g _ _ j.hd,g _ _ j.hw,j.lw,j.fJ,hn,h0,FC,hl,by have:=hLs.fJ;rw[mo]at this;omega,λJ s5=>?_⟩
   have C:=g.trans s5;cbv;refine⟨_,_,_,_,rfl,(R.trans C).set aS _,by rw[aC a4];exact C _ _ Q,e3,⟨by show upd _ _ _ _=_;rw[aC wd.symm];exact C _ _ j.hd,by rw[aC wc.symm];exact C _ _ j.hc,af,?_,j.lc,j.fJ⟩⟩
   rw[length_set];exact j.lw
 ·rintro σ H2 ⟨b1,y1,y2,y3,rfl,R,Q,y,j⟩;rw[b5,b5,sC,hb]at y
  cases y
  cbv;refine Ep j.hd λa1 o ha1 oc od=>?_;have u1:=ag.new ha1<|.kZ o<|.tup<|b.ns.map V.str;refine⟨c,_,rfl,.inl ⟨aw.of<|u1 _ _ j.hc,λa2 ha2=>?_⟩⟩;have u2:=ag.new ha2<|.tup<|(au b.cs).map V.int;refine⟨w,_,rfl,.inl ⟨aw.of<|u2 _ _<|u1 _ _ j.hw,λa3 ha3=>?_⟩⟩;have u3:=ag.new ha3<|.tup<|(au b.ws).map V.int;refine⟨a_,λt ht=>?_⟩
  have Z:=ag.new ht<|.tup [.ref a1,.ref a2,.ref a3];exact q t _ (R.trans<|(u1.trans u2).trans<|u3.trans Z) ⟨a1,a2,a3,aL.of af,.inl<|.inr ⟨o,Z _ _<|u3 _ _<|u2 _ _ af⟩,.inr ⟨o,_,Z _ _<|u3 _ _<|u2 _ _ af,oc,od⟩,aL.of<|Z _ _<|u3 _ _ af,aL.of<|Z _ _ af⟩
def EM(B:Bn mg)(D:Def K mg "places" qg):Fn P w K mg base 1 "places" ["mask"] pC:=by
 have zY:DS (aj qg) ["mask"] ["mask"] ["range"]:=aK;walk_at"hH";obtain⟨m,rfl,hm,q⟩:=h;refine zW _ ⟨_,(ai (aH (f9 S hc hsc (fj S 0 B.range<|aa<|Vc PySem.F.plainAttrs_int PySem.F.slot_int_bit_length PySem.F.type_int_bit_length DV rfl<|kv S 0) (N:=["i","mask"]) (W:=["i"]) (G:=[]) (fv:=[none,some 0]) Dk0 λp C r s H d=>⟨(kg d 0),(c7<|aM aR (aQ eA (aQ ug (kv d 1)<|kv d 0) ax) ax<|ao _),(kv d 0)⟩))),?_⟩
 cbv;refine⟨rfl,m,rfl,rfl,λn hn a=>?_⟩;have j:=a 64 hm;cbv;refine LD n (λi=>m.testBit i) (λi=>(i:Int)) rfl (by omega) ?_ ?_
 ·intro i H1 A t hi g l o;cbv;refine⟨by omega,?_⟩
  by_cases c:m.testBit i=true
  ·rw[c];cbv;exact l c _<|ag.refl _
  ·have c:m.testBit i=false:=by simpa using c
   rw[c];cbv;exact o c _<|ag.refl _
 ·intro f H1 e g b;refine q f H1 g e ?_;rw[b,<-sW hn];rfl
def Nk(D:Def K mg "sees" Bd):Fn P w K mg base 1 "sees" ["web","i","j"] (uR K):=by
 have zY:DS (aj Bd) ["web","i","j"] ["web","i","j"] []:=aK;walk_at"hH";obtain⟨w,b,i,j,rfl,a,hi,q⟩:=h;refine zW _ ⟨_,(ai<|aH<|fi aR (aQ eA (aQ ug (RK (kv S 0)<|kv S 1)<|kv S 2) ax) ax<|ao _),?_⟩;cbv;refine dP a rfl (by rw[ah];exact hi) ?_
 rw[aA];cbv;exact⟨by omega,q⟩
def vN(B:Bn mg)(D:Def K mg "is_circle" jt):Fn P w K mg base 1 "is_circle" ["web","people"] (LW K):=by
 have zY:DS (aj jt) ["web","people","crowd","i","others"] ["web","people"] ["sum"]:=aK;walk_at"hH";obtain⟨w,p,ws,l,rfl,L,o,R,r,b,q⟩:=h;have v:=cI r b;refine zW _ ⟨_,(ae (aZ S 2 (cq S 0 (cw hc rfl) B.sum boot_sum (aa (f9 S hc hsc (fB (kv S 1) rfl) (N:=["i"]) (W:=["i"]) (G:=[]) (fv:=[none]) Dk0 λO C Q s H t=>⟨(kg t 0),aY,(aQ bW ax<|kv t 0)⟩))))
   (ae (dq hxe hc (fB (kv S 1) rfl) (kg S 3) (ae (aZ S 4<|aQ cK (kv S 2)<|aQ bW ax<|kv S 3)
   (ai<|cM (aM iY (aQ eA (RK (kv S 0)<|kv S 3)<|kv S 4) (kv S 4)<|ao _) (ai<|aH wW) az)))
   (ai<|aH wW))),?_⟩
 cbv;refine UM (λ_=>true) (λj=>((2 ^ l.getD j 0:Nat):Int)) o (by rw[ah];exact aB (by omega)) ?_ ?_
 ·intro j H1 A T hj M y U;rw[ah]at hj;rw[aA];cbv;exact⟨dY (by have:=b _<|aX hj;omega),y rfl _<|ag.refl _⟩
 intro F H1 I a d;rw[bz]at d;refine i9 (aw.of d) ?_;rw[Cj];have f:=a.aP o;have i:=a.aP L;cbv;refine LC (S0 H1 w p ws l) f ⟨rfl,(λj hj=>absurd hj<|sU j),none,none,rfl⟩ (λk σ u h=>by rw[h.1];exact f) ?_ ?_
 ·rintro k σ u hk ⟨n,g,J,E,rfl⟩;rw[ah]at hk;have hm:=aX hk;rw[n,aA];cbv;refine⟨dY (by have:=b _ hm;omega),?_⟩
  refine dP i rfl (by rw[ah];exact b _ hm) ?_
  rw[aA,LX<|xi hm];cbv;have e:=zU (ws:=ws) r hm
  by_cases c:(l.all λx=>decide (x=l.getD k 0)||cF ws (l.getD k 0) x)=true
  ·rw[c,kc]at e;rw[e]
   try rw[Qb rfl]
   cbv;refine⟨rfl,λj hj=>?_,_,_,rfl⟩
   by_cases e2:j=k
   ·rw[e2];exact c
   ·exact g j (by omega)
  ·have m:(l.all λx=>decide (x=l.getD k 0)||cF ws (l.getD k 0) x)=false:=by simpa using c
   rw[m,decide_eq_false_iff_not]at e;rw[dt (show ¬(((ws.getD (l.getD k 0) 0&&& (mask l-2 ^ l.getD k 0):Nat):Int)=((mask l-2 ^ l.getD k 0:Nat):Int)) by rw[S1];exact e)]
   cbv
   have:bY ws l=false:=by
    cases z:bY ws l with
    |false=>rfl
    |true=>
     unfold bY at z;rw[ka]at z;rw[z _ hm]at m;cases m
   rw[<-this];exact q _ a
 ·rintro σ u ⟨n,g,J,E,rfl⟩;rw[ah]at g;rw[n];cbv
  have:bY ws l=true:=by
   unfold bY;rw[ka];intro x hx;obtain⟨k,hk,e⟩:=qN hx
   have:=g k hk
   rw[b3,b4 hk]at this;rw[<-e];exact this
  rw[<-this];exact q _ a
def Bg(B:Bn mg)(D:Def K mg "is_ring" mV)(Bu:Fn P w K mg base 1 "sees" ["web","i","j"] (uR K)):Fn P w K mg base 2 "is_ring" ["web","people"] (Qj K):=by
 have zY:DS (aj mV) ["web","people","followers"] ["web","people"] ["len","set","all","zip"]:=aK;walk_at"hH";obtain⟨w,p,e,r,rfl,Q,g,Z,O,x,q⟩:=h;refine zW _ ⟨_,(ae (cM (wt<|Lw (aM iZ (cq S 0 (av rfl) B.len kb<|aa<|kv S 1) ax<|ao _)<|uC<|aM iZ (cq S 0 nG B.len kb<|aa<|jM S 1 (sS hc rfl) B.set boot_set<|aa<|kv S 1) (cq S 0 (av rfl) B.len kb<|aa<|kv S 1)<|ao _) (ai<|aH wW) az)
   (ae (aZ S 2<|aQ (i7 rfl) (qP (jK rfl) (kv S 1) (bK ax) bJ)<|qP (jK rfl) (kv S 1) bJ<|bK ax)
   (ai (aH (cq S 2 (cU hc rfl) B.all boot_all (aa (f9 S hc hsc (UP false false S 3 B.zip rfl<|ak (kv S 1)<|aa<|kv S 2) (N:=["i","j","web"]) (W:=["i","j"]) (G:=["sees"]) (fv:=[none,none,some 0]) Dk0 λY C fp s H l=>⟨(pf rfl (K:=X.K) (n:=2) rfl<|aV (kg l 0)<|aV (kg l 1) dN),aY,(cE l 0 Bu hr<|ak (kv l 2)<|ak (kv l 0)<|aa<|kv l 1)⟩))))))),?_⟩
 cbv;refine aI (.inr g) ?_;rw[b5,ah];cbv;refine bT (λc=>?_) λc=>?_
 ·rw[show false=j8 e r by unfold j8;rw[dt (show ¬2<=r.length by omega)];rfl]
  exact q _<|ag.refl _
 refine⟨p,au r,rfl,.inr g,by rw[ah];omega,λs U=>?_⟩
 have i:=ag.new U (.set (λj=>(jU (au r) (au r).length).any (· == j))<|unlike<|au r);refine⟨s,_,_,rfl,af,?_⟩;generalize upd H s _=H1 at i ⊢;refine aI (.inr<|i.aP g) ?_;rw[b5,ah];cbv
 by_cases o:r.Nodup
 ·rw[if_neg (by rw[sV (mq o),ah];omega)]
  refine uF 0 (i.aP g) rfl (by rw[ah];omega) λa R=>?_
  have F:=ag.new R<|.tup<|((au r).drop<|0+1).map V.int;refine uE 1 ((i.trans F).aP g) rfl (by rw[ah];omega) λb hb=>?_
  have E:=ag.new hb<|.tup<|((au r).take 1).map V.int;refine uG (ns:=(au r).drop 1) (ms:=(au r).take 1) (aL.of<|E _ _ af) (aL.of af) (c8 (by rw[nt,ri,ah];omega)) λf M I t=>?_
  have t:aL X.K M f ((au<|qT r).map V.int):=by
   unfold qT;rw[cN,<-pv,<-xc];exact t
  have y:=((i.trans F).trans E).trans I;cbv;refine Q2 _ (λk=>.bl<|cF e (r.getD k 0)<|(qT r).getD k 0) (y.aP g) t (dy _) (by rw[ah,ah,Hw (by omega)];exact dy _) (.inl<|dy _) (by rw[ah];exact aB (by omega)) ?_ ?_
  ·intro k T A hk d L;rw[ah]at hk;rw[aA,aA];cbv;exact⟨w,e,r.getD k 0,(qT r).getD k 0,rfl,(y.trans d).aP Q,x _<|aX hk,L _<|ag.refl _⟩
  ·intro u T J d m;refine⟨u,(List.range r.length).map λk=>cF e (r.getD k 0)<|(qT r).getD k 0,rfl,aw.of (by rw[m,ah,k6];rfl),?_⟩
   rw[DW,show((List.range r.length).all λk=>cF e (r.getD (ahead r.length k) 0)<|r.getD k 0)=j8 e r by unfold j8;rw[cc (show 2<=r.length by omega),cc o];rfl]
   exact q _<|y.trans d
 ·have v:=DX λz=>o<|qU.mp z;rw[ah]at v;rw[if_pos (by omega),show false=j8 e r by unfold j8;rw[dt o,qs,KE]]
  exact q _ i
def Ue(D:Def K mg "greatest_divisor" dC):Fn P w K mg base 1 "greatest_divisor" ["a","b"] Od:=by
 have zY:DS (aj dC) ["a","b","rest"] ["a","b"] []:=aK;walk_at"hH";obtain⟨m,n,rfl,q⟩:=h;refine zW _ ⟨_,(ae (uD hxe (aM iY (kv S 1) ax<|ao _) (ae (aZ S 2<|aQ dk (kv S 0)<|kv S 1)
   (ae (aZ S 0<|kv S 1)
   (ai<|aZ S 1<|kv S 2))))
   (ai<|aH<|kv S 0)),?_⟩
 cbv;refine Lr (SH H (Nat.gcd m n) [none]) VG ⟨rfl,m,n,_,rfl,rfl,rfl⟩ ?_;rintro σ f ⟨e,b,a,y,rfl,hy,d⟩;obtain⟨z,rfl⟩:=Vd hy;rw[e];cbv;refine bT (λc=>?_) λc=>?_
 ·have hn:a≠0:=by simpa using c
  refine Ls (Pv:=SH H (Nat.gcd m n) [none]) (μ:=VG) ?_;cbv;rw[Ve];refine⟨by omega,⟨rfl,a,b%a,_,rfl,rfl,by rw[G9];exact d⟩,?_⟩
  show((b%a:Nat):Int).toNat<((a:Nat):Int).toNat
  have:=mod_lt b (show a > 0 by omega)
  omega
 ·have hn:a=0:=by simpa using c
  subst hn;rw[Nat.gcd_zero_right]at d;subst d;exact q
def Ka(D:Def K mg "share" vJ)(kT:Fn P w K mg base 1 "greatest_divisor" ["a","b"] Od):Fn P w K mg base 2 "share" ["counts"] (uJ K):=by
 have zY:DS (aj vJ) ["counts","over","under","count","divisor"] ["counts"] ["greatest_divisor"]:=aK;walk_at"hH";obtain⟨p,b,rfl,d,a,q⟩:=h;refine zW _ ⟨_,(ae (aZ S 1 ax)
   (ae (aZ S 2 ax)
   (ae (dq hxe hc (fB (kv S 0) rfl) (kg S 3) (ae (aZ S 1<|aQ aW (aQ dv (kv S 1)<|kv S 3)<|kv S 2)
   (ai<|aZ S 2<|aQ dv (kv S 2)<|kv S 3)))
   (ae (aZ S 4<|cE S 0 kT hr<|ak (kv S 1)<|aa<|kv S 2)
   (ai<|aH<|uB<|ak (aQ ba (kv S 1)<|kv S 4)<|aa<|aQ ba (kv S 2)<|kv S 4))))),?_⟩
 cbv;refine LC (Vf H p b) d ⟨rfl,none,rfl⟩ (λi σ e h=>by rw[h.1];exact d) ?_ ?_
 ·rintro i σ e hi ⟨c,y,rfl⟩;rw[c];cbv;have hb:=(a.get hi).bt;refine⟨(a.take i).SI.ok hb (by omega),(a.take i).uH.ok hb (by omega),rfl,some<|.int<|b.getD i 0,?_⟩
  rw[take_snoc 0 hi,DL (a.get hi).lo,ic]
 ·rintro σ e ⟨c,y,rfl⟩;rw[c,sC];cbv;refine⟨(bQ (pr b) b).toNat,(pr b).toNat,by rw[toN a.RF,toN (show 0<=pr b by have:=a.g7;omega)],?_⟩
  cbv;have j:=zL a;have f:(0:Int)<(gC b:Int)/\((gC b:Int)).natAbs.log2<9000:=⟨by omega,(SK a).log (by omega) a_⟩
  exact⟨f,f,a_,λt g=>q t _ (ag.new g _) af⟩
def Nl(D:Def K mg "sure" Bc)(vU:Fn P w K mg base 2 "share" ["counts"] (uJ K)):Fn P w K mg base 3 "sure" ["counts"] (Hi K):=by
 have zY:DS (aj Bc) ["counts","told"] ["counts"] ["share"]:=aK;walk_at"hH";obtain⟨p,e,rfl,d,a,q⟩:=h;refine zW _ ⟨_,(ae (aZ S 1<|cE S 0 vU hr<|aa<|kv S 0)
   (ai<|aH<|aQ ba (mT<|kv S 1)<|mT<|kv S 1)),?_⟩
 cbv;refine⟨p,e,rfl,d,a,λt f c b=>?_⟩;cbv;refine bB (aL.of b) (i:=0) rfl ?_;refine bB (aL.of b) (i:=1) rfl ?_;cbv;refine⟨⟨by have:=ph a;omega,(uI a).log (by have:=ph a;omega) a_⟩,?_⟩
 rw[Qa a];exact q f c
def EN(B:Bn mg)(D:Def K mg "picked" qh):Fn P w K mg base 1 "picked" ["values","people"] (lD K):=by
 have zY:DS (aj qh) ["values","people"] ["values","people"] ["tuple"]:=aK;walk_at"hH";obtain⟨c,p,b,l,rfl,j,o,g,E,q⟩:=h;refine zW _ ⟨_,(ai (aH (jM S 0 (eB rfl) B.tuple boot_tuple (aa (f9 S hc hsc (fB (kv S 1) rfl) (N:=["i","values"]) (W:=["i"]) (G:=[]) (fv:=[none,some 0]) Dk0 λy C z s H d=>⟨(kg d 0),aY,(jL (fE rfl) (kv d 1) (kv d 0) λ_ _=>rfl)⟩))))),?_⟩
 cbv;refine UM (λ_=>true) (λk=>b.getD (l.getD k 0) 0) o (by rw[ah];exact aB (by omega)) ?_ ?_
 ·intro k H1 A F hk n x _;rw[ah]at hk;rw[aA];cbv;exact dP (n.aP j) rfl (g _<|aX hk)<|x rfl _<|ag.refl _
 ·intro m H1 r f a;rw[bz,ah]at a;have e:((List.range l.length).map λk=>b.getD (l.getD k 0) 0)=pk b l:=by
   unfold pk
   apply ext_getElem
   ·simp
   ·intro i h1 u
    simp at h1 u
    simp[h1]
  rw[e]at a;exact⟨m,_,rfl,.inl ⟨aw.of a,λt v=>q t _ (f.trans<|ag.new v _) af⟩⟩
def Kb(D:Def K mg "group_sure" iI)(lU:Fn P w K mg base 1 "picked" ["values","people"] (lD K))(Rv:Fn P w K mg base 3 "sure" ["counts"] (Hi K)):Fn P w K mg base 4 "group_sure" ["counts","kind","people"] (uY K):=by
 have zY:DS (aj iI) ["counts","kind","people"] ["counts","kind","people"] ["sure","picked"]:=aK;walk_at"hH";obtain⟨c,p,j,g,rfl,d,i,f,a,q⟩:=h;refine zW _ ⟨_,(ae (cM (aM aR (kv S 1) br<|ao _) (ai<|aH ax) az)
   (ai<|aH<|cE S 0 Rv hr<|aa<|cE S 1 lU hr<|ak (kv S 0)<|aa<|kv S 2)),?_⟩
 cbv;obtain⟨b,l⟩:=g;have e:decide (kd b="ring")=b:=uX b;simp only[sP,wU,e];unfold xn at q
 cases b with
 |true=>
  cbv;exact q _<|ag.refl _
 |false=>
  cbv;refine⟨c,p,j,l,rfl,d,i,a.lt,a.len,λt H1 o m=>?_⟩;exact⟨t,_,rfl,aL.of m,HE f a,λr n=>q _<|o.trans n⟩
def Nm(B:Bn mg)(D:Def K mg "made_sure" ju)(vV:Fn P w K mg base 4 "group_sure" ["counts","kind","people"] (uY K)):Fn P w K mg base 5 "made_sure" ["counts","groups"] (uZ K):=by
 have zY:DS (aj ju) ["counts","groups"] ["counts","groups"] ["sum"]:=aK;walk_at"hH";obtain⟨c,g,j,I,L,rfl,f,x,E,d,v,m,q⟩:=h;refine zW _ ⟨_,(ai (aH (cq S 0 (cw hc rfl) B.sum boot_sum (aa (f9 S hc hsc (fB (kv S 1) rfl) (N:=["kind","people","counts"]) (W:=["kind","people"]) (G:=["group_sure"]) (fv:=[none,none,some 0]) Dk0 λJ C M s H a=>⟨(pf rfl (K:=X.K) (n:=2) rfl<|aV (kg a 0)<|aV (kg a 1) dN),aY,(cE a 0 vV hr<|ak (kv a 2)<|ak (kv a 0)<|aa<|kv a 1)⟩))))),?_⟩
 cbv;refine V3 (xn j) x E (aB (by omega)) ?_ ?_
 ·intro i l p H1 A hi o r y;cbv;exact⟨c,p,j,l,rfl,o.aP f,r,d,v l<|ih hi,λu z=>y u z⟩
 ·intro F H1 t e b;exact i9 (aw.of b)<|q H1 e
def qj(B:Bn mg)(D:Def K mg "first_ready" gM):Fn P w K mg base 1 "first_ready" ["web","laid"] (LR K):=by
 have zY:DS (aj gM) ["web","laid","i","mask"] ["web","laid"] ["enumerate"]:=aK;walk_at"hH";obtain⟨w,ws,laid,rfl,m,o,q⟩:=h;refine zW _ ⟨_,(ae (dq hxe hc (Jt false S 0 B.enumerate rfl<|aa<|kv S 0) (pf hc (K:=X.K) (n:=2) rfl<|aV (kg S 2)<|aV (kg S 3) dN)<|ai<|cM (wt<|qQ (aM aR (aQ eA (aQ ug (kv S 1)<|kv S 2) ax) ax<|ao _)<|lr<|aM aR (aQ BO (kv S 3)<|kv S 1) (kv S 1)<|ao _) (ai<|aH<|kv S 2) az)
   (ai<|aH pd)),?_⟩
 cbv;refine TZ (Oi H w ws laid) m ⟨ag.refl _,(λj hj=>absurd hj<|sU j),none,none,rfl⟩ (λk σ s h=>h.1.aP m) ?_ ?_
 ·rintro k σ H1 l hk ⟨d,a,p,r,rfl⟩ c;rw[ah]at hk;rw[aA];cbv;refine⟨by omega,?_⟩
  have e:=mn (ws:=ws) (laid:=laid) (i:=k);have next:ready ws laid k=false->Oi H w ws laid (k+1) [some (.ref w),some<|.int laid,some<|.int k,some<|.int (ws.getD k 0:Nat)] l:=λhz=>by
   refine⟨d.trans c,λj hj=>?_,_,_,rfl⟩
   by_cases g:j=k
   ·rw[g];exact hz
   ·exact a j (by omega)
  by_cases b:laid.testBit k=true
  ·rw[b];cbv;exact next (by unfold ready;rw[b];rfl)
  ·have b:laid.testBit k=false:=by simpa using b
   rw[b];cbv
   by_cases f:ws.getD k 0|||laid=laid
   ·rw[if_pos f];refine(q l<|d.trans c).2 k (find_some a ?_ hk);unfold ready;rw[b,cc f];rfl
   ·rw[if_neg f];refine next ?_;unfold ready;rw[b,dt f];rfl
 ·rintro σ H1 ⟨d,a,p,r,rfl⟩;cbv;rw[ah]at a;exact(q H1 d).1 (find_none a)
def yj(D:Def K mg "laid_out" kK)(ko:Fn P w K mg base 1 "first_ready" ["web","laid"] (LR K)):Fn P w K mg base 2 "laid_out" ["web"] (Qh K):=by
 have zY:DS (aj kK) ["web","order","laid","i"] ["web"] ["first_ready"]:=aK;walk_at"hH";obtain⟨w,b,rfl,A,p,q⟩:=h;refine zW _ ⟨_,(ae (aZ S 1<|dM bw)
   (ae (aZ S 2 ax)
   (ae (aZ S 3<|cE S 0 ko hr<|ak (kv S 0)<|aa<|kv S 2)
   (ae (uD hxe (aM xb (kv S 3) pd<|ao _) (ae (fC<|kY rr oq pS cu rfl (kv S 1)<|aa<|kv S 3)
   (ae (aZ S 2<|aQ BO (kv S 2)<|aQ bW ax<|kv S 3)
   (ai<|aZ S 3<|cE S 0 ko hr<|ak (kv S 0)<|aa<|kv S 2))))
   (ai<|aH<|kv S 1))))),?_⟩
 cbv;refine⟨a_,λl t=>?_⟩
 have v:=ag.new t<|.lst [];have u:∀(laid:Nat) (H1:Hp) (R:q_),ag H H1->(∀d,ag H1 d->R (Oj b laid) d)->LR X.K [.ref w,.int laid] H1 R E0:=λlaid H1 R z x=>by
  refine⟨w,b,laid,rfl,z.aP A,p,λd a=>⟨λe=>?_,λi e=>?_⟩⟩
  ·have:=x d a
   unfold Oj at this;rw[e]at this;exact this
  ·have:=x d a
   unfold Oj at this;rw[e]at this;exact this
 refine u 0 _ _ v λH1 n=>?_;cbv;refine uP (SU H w l b) (b.length+1) ⟨[],0,rfl,v.trans n,n _ _ af,Laid.nil b,rfl,by simp⟩ ?_
 rintro f σ d ⟨order,laid,rfl,a,g,r,c,o⟩;have y:=cI r.nd r.lt
 cases e:bR b laid with
 |none=>
  have s:Oj b laid=.bE:=by unfold Oj;rw[e]
  rw[s];cbv;refine q l d a t ?_;rw[<-c,w8 e];exact g
 |some i=>
  have s:Oj b laid=.int i:=by unfold Oj;rw[e]
  obtain⟨hi,_⟩:=iP e;rw[s];cbv;refine uQ ?_;cbv;refine⟨.inl ⟨rfl,_,aw.of g⟩,?_⟩;refine⟨l,_,.int i,rfl,rfl,g,by rw[b5,ah];exact aB (by omega),?_⟩
  cbv;refine⟨dY (by omega),?_⟩
  have j:=a.set t<|.lst<|(au order).map V.int++[.int i];refine u _ _ _ j λB m=>?_;cbv
  match f,c,o with
  |0,_,o=>exact absurd o (by omega)
  |f+1,c,o=>
   refine⟨f,Wd f,order++[i],_,rfl,j.trans m,?_,r.put e,?_,?_⟩
   ·rw[m _ _ af,cN,hU];rfl
   ·rw[<-c,w6 e]
   ·rw[eR];show b.length<f+(order.length+1);omega
def rj(B:Bn mg)(D:Def K mg "first_seen" iG)(Bu:Fn P w K mg base 1 "sees" ["web","i","j"] (uR K)):Fn P w K mg base 2 "first_seen" ["web","i","people"] (Qi K):=by
 have zY:DS (aj iG) ["web","i","people"] ["web","i","people"] []:=aK;walk_at"hH";obtain⟨w,l,d,left,i,rfl,u,v,hi,F,⟨z,n,m⟩,q⟩:=h;refine zW _ ⟨_,(ai (aH (jL (bh rfl) (f9 S hc hsc (bA (kv S 2) rfl) (N:=["j","web","i"]) (W:=["j"]) (G:=["sees"]) (fv:=[none,some 0,some 1]) Dk0 λy C E s H f=>⟨(kg f 0),(c7<|mj<|cE f 0 Bu hr<|ak (kv f 1)<|ak (kv f 2)<|aa<|kv f 0),(kv f 0)⟩) ax λ_ _=>rfl))),?_⟩
 cbv;refine He (λk=>cF d i<|left.getD k 0) (λk=>((left.getD k 0:Nat):Int)) v (by rw[ah];exact aB (by omega)) ?_ ?_
 ·intro k H1 A I hk j p x;rw[ah]at hk;rw[aA];cbv;refine⟨w,d,i,left.getD k 0,rfl,j.aP u,hi,?_⟩;cbv
  by_cases c:cF d i (left.getD k 0)=true
  ·rw[c];cbv;exact p c _<|ag.refl _
  ·have c:cF d i (left.getD k 0)=false:=by simpa using c
   rw[c];cbv;exact x c _<|ag.refl _
 ·intro r H1 hn j g;have b:0<((List.range (au left).length).filter λk=>cF d i<|left.getD k 0).length:=by
   obtain⟨k,hk,e⟩:=qN n;refine length_pos_of_mem (a:=k) (j5.mpr ⟨fO.mpr (by rw[ah];exact hk),?_⟩)
   rw[b3,b4 hk,e];exact m
  refine aN (k:=0) (aw.of g) rfl (by rw[b5];exact b) ?_
  have hm:((List.range (au left).length).filter λk=>cF d i<|left.getD k 0)[0]∈(List.range (au left).length).filter λk=>cF d i (left.getD k 0):=kf b;obtain⟨h1,t⟩:=j5.mp hm;rw[b3,ed,b4 b];refine q H1 _ j ?_ t;have o:=Nat.lt_of_lt_of_eq (fO.mp h1)<|ah left;rw[b3,b4 o];exact kf o
def qk(B:Bn mg)(D:Def K mg "sight_ring" iH)(kU:Fn P w K mg base 2 "laid_out" ["web"] (Qh K))(vW:Fn P w K mg base 2 "first_seen" ["web","i","people"] (Qi K)):Fn P w K mg base 3 "sight_ring" ["web"] (CG K):=by
 have zY:DS (aj iH) ["web","order","left","path","i"] ["web"] ["laid_out","range","len","first_seen","tuple"]:=aK;walk_at"hH";obtain⟨w,f,rfl,hw,hl8,bq,q⟩:=h;have hL8:=Hv f;refine zW _ ⟨_,(ae (aZ S 1<|cE S 0 kU hr<|aa<|kv S 0)
   (ae (Ku (i:=2) S hc hsc (fj S 1 B.range<|aa<|cq S 2 (av rfl) B.len kb<|aa<|kv S 0) (N:=["i","order"]) (W:=["i"]) (G:=[]) (fv:=[none,some 1]) Dk0 (λcl C fp s H S2=>⟨(kg S2 0),(c7 (aM (dD rfl) (kv S2 0) (kv S2 1) (by with_unfolding_all rfl))),(kv S2 0)⟩) (by rw[hsc];decide +kernel) (by rw[dw,hsc];rfl))
   (ae (cM (aM (dz hu rfl) (kv S 2) (dM bw)<|ao _) (ai<|aH pd) az)
   (ae (aZ S 3<|dM bw)
   (ae (aZ S 4<|fL<|kv S 2)
   (ae (uD hxe (aM (dD rfl) (kv S 4) (kv S 3) (by with_unfolding_all rfl)) (ae (fC<|kY rr oq pS cu rfl (kv S 3)<|aa<|kv S 4)
   (ai<|aZ S 4<|cE S 3 vW hr<|ak (kv S 0)<|ak (kv S 4)<|aa<|kv S 2)))
   (ai<|aH<|jM S 4 (pI rfl) B.tuple boot_tuple<|aa<|qP (c5 rfl) (kv S 3) (bK<|kY rr slot_list_index type_list_index (DT rfl) rfl (kv S 3)<|aa<|kv S 4) bJ))))))),?_⟩
 cbv;refine⟨w,f,rfl,hw,hl8,λl H1 Q _ hl=>?_⟩;cbv;refine aI (.inr<|Q.aP hw) ?_;rw[b5,ah];refine LD f.length (λi=>!decide (i∈laidOut f)) (λi=>(i:Int)) rfl (by omega) ?_ ?_
 ·intro k H2 A B' hk hS hA hB;cbv;refine pw (.inl<|aw.of<|hS _ _ hl) ?_;cbv
  by_cases c:k∈laidOut f
  ·rw[cc c];cbv;exact hB (by rw[cc c];rfl) _<|ag.refl _
  ·rw[dt c];cbv;exact hA (by rw[dt c];rfl) _<|ag.refl _
 intro O H2 hn2 hS2 n;have n:H2 O=some (.lst<|(au<|cV f).map V.int):=n;have p:=Q.trans hS2;cbv;refine⟨a_,λe he=>?_⟩
 have Z:=ag.new he<|.lst [];refine⟨_,_,.lst (aw.of<|Z _ _ n)<|cG.ints _,.lst (aw.of af) .nil,bg _,a_,?_⟩
 rw[show([]:List PyData)=([]:e_).map PyData.int from rfl,lB]
 cbv;refine bT (λc=>?_) λc=>?_
 ·have:cV f=[]:=LQ.mp c
  exact(q _<|p.trans Z).1 (xg.mp this)
 ·have ab:cV f≠[]:=λz=>c (by rw[z];rfl)
  have hlt:(laidOut f).length<f.length:=nc λz=>ab<|xg.mpr z;refine⟨a_,λJ y=>?_⟩
  have sp:=Z.trans<|ag.new y<|.lst [];have u:0<(cV f).length:=Fh.mpr ab;refine aN (k:=0) (aw.of<|sp _ _ n) rfl (by rw[ah];exact u) ?_
  rw[aA];have h0:(cV f).getD 0 0∈cV f:=by
   rw[b3,b4 u];exact kf u
  cbv;have M:H J=none:=(p.trans Z).free y;have v:∀j∈cV f,j<f.length:=λj hj=>(jd.mp hj).1;refine uP (SW X.K H w l O J f) _ ⟨[],_,rfl,p.trans sp,aw.of<|sp _ _ n,af,Path.nil h0,rfl⟩ ?_;rintro m σ H3 ⟨a,i,rfl,U,Y,d,I,rfl⟩;have hplen:=cI I.nd λj hj=>v j<|I.sub j hj;cbv;refine pw (.inl<|aw.of d) ?_;cbv
  by_cases T:i∈a
  ·rw[cc T];cbv;refine⟨.inl ⟨rfl,_,aw.of d⟩,J,au a,i,rfl,rfl,aw.of d,ou.mpr T,?_⟩;cbv;refine LF (a.idxOf i) (aw.of d) (by rw[Cg]) λb hb=>?_
   rw[pv];have sb:=ag.new hb<|.lst<|(au<|a.drop<|a.idxOf i).map V.int;refine⟨b,_,rfl,aw.of af,λt o ht hoc hod=>?_⟩;exact(q _<|(U.trans sb).trans<|ag.new ht _).2 hlt t _ o af hoc hod (I.ring bq v T)
  ·rw[dt T];cbv;refine uQ ?_;have hi:=v i I.here;obtain⟨j,hj1,hj2,hj3⟩:=DR bq hi (jd.mp I.here).2;cbv;refine⟨.inl ⟨rfl,_,aw.of d⟩,?_⟩;refine⟨J,_,.int i,rfl,rfl,d,by rw[b5,ah];exact aB (by omega),?_⟩
   have L:=U.set M<|.lst<|(au a).map V.int++[.int i];have r:aw X.K (upd H3 J<|.lst<|(au a).map V.int++[.int i]) O ((au<|cV f).map V.int):=by
    have R:O≠J:=aO (Z _ _ n) y
    rcases Y with (z|⟨o,z⟩)|z
    ·exact .inl (.inl (by rw[aC R];exact z))
    ·exact .inl (.inr ⟨o,by rw[aC R];exact z⟩)
    ·exact .inr z
   refine⟨w,O,f,cV f,i,rfl,L.aP hw,r,hi,by omega,⟨j,jd.mpr ⟨hj1,hj3⟩,hj2⟩,λH5 k E hk hks=>?_⟩
   cbv;have x:=I.put T hk hks;have g:=cI x.nd λj hj=>v j<|x.sub j hj;rw[eR]at g;refine⟨f.length-(a++[i]).length,?_,a++[i],k,rfl,L.trans E,E.seq r,?_,x,rfl⟩
   ·rw[eR];simp at g ⊢;omega
   ·rw[E _ _ af,cN,hU];rfl
def ql(B:Bn mg)(D:Def K mg "sight_order" gN)(kU:Fn P w K mg base 2 "laid_out" ["web"] (Qh K)):Fn P w K mg base 3 "sight_order" ["web"] (SV K):=by
 have zY:DS (aj gN) ["web","order"] ["web"] ["laid_out","len","tuple"]:=aK;walk_at"hH";obtain⟨w,g,rfl,d,b,q⟩:=h;refine zW _ ⟨_,(ae (aZ S 1<|cE S 0 kU hr<|aa<|kv S 0)
   (ae (cM (aM iZ (cq S 1 (av rfl) B.len kb<|aa<|kv S 1) (cq S 1 (av rfl) B.len kb<|aa<|kv S 0)<|ao _) (ai<|aH pd) az)
   (ai<|aH<|jM S 2 (eB rfl) B.tuple boot_tuple<|aa<|kv S 1))),?_⟩
 cbv;refine⟨w,g,rfl,d,b,λl H1 a _ e=>?_⟩;cbv;refine aI (.inl<|aw.of e) ?_;refine aI (.inr<|a.aP d) ?_;rw[b5,b5,ah,ah];cbv;refine bT (λc=>?_) λc=>?_
 ·exact(q H1 a).1 (by omega)
 ·exact⟨l,_,rfl,.inl ⟨aw.of e,λp f=>(q _<|a.trans<|ag.new f _).2 (by omega) p af⟩⟩
def EO(B:Bn mg)(D:Def K mg "sights_from" gR):Fn P w K mg base 1 "sights_from" ["web","people"] (QV K):=by
 have zY:DS (aj gR) ["web","people"] ["web","people"] ["tuple","enumerate"]:=aK;walk_at"hH";obtain⟨w,p,d,l,rfl,u,o,E,r,q⟩:=h;refine zW _ ⟨_,(ai (aH (jM S 0 (eB rfl) B.tuple boot_tuple (aa (f9 S hc hsc (Jt false S 1 B.enumerate rfl<|aa<|kv S 0) (N:=["i","mask","people"]) (W:=["i","mask"]) (G:=[]) (fv:=[none,none,some 1]) Dk0 (λz C F s H f=>⟨(pf rfl (K:=X.K) (n:=2) rfl<|aV (kg f 0)<|aV (kg f 1) dN),aY,(Vb (aM (zB rfl) (kv f 0) (kv f 2) (by with_unfolding_all rfl)) (kv f 1) ax)⟩)))))),?_⟩
 cbv;refine T3 (λ_=>true) (λi=>(((kD d l).getD i 0:Nat):Int)) u (by rw[ah];exact aB (by omega)) ?_ ?_
 ·intro i H1 A I hi m g _;rw[ah]at hi;rw[aA];have e:=pW (l:=l) hi;cbv;refine pw (a:=l) (.inl<|m.seq o) ?_
  by_cases c:i∈l
  ·rw[if_pos c]at e;rw[cc c];cbv;rw[<-e];exact g rfl _<|ag.refl _
  ·rw[if_neg c]at e;rw[dt c];cbv
   have:=g rfl _<|ag.refl _
   rw[e]at this;exact this
 ·intro j H1 y x b;rw[bz,ah]at b;have e:((List.range d.length).map λi=>(((kD d l).getD i 0:Nat):Int))=au (kD d l):=by
   unfold au;rw[<-fR d l]
   conv=>rhs;rw[<-nK (kD d l),k6]
   rfl
  rw[e]at b;exact⟨j,_,rfl,.inl ⟨aw.of b,λt v=>q t _ (x.trans<|ag.new v _)<|aL.of af⟩⟩
def Ug{n:Nat}(h:n<=8):2 ^ n<=256:=gr (oD a_ h) a_
def Kc{cs:e_}{ws r:d_}{m:Nat}(hn:ws.length=cs.length)(h:Ring (kD ws<|AA cs<|aq m) r):GG cs ws m (true,r):=by
 have a:∀x∈r,x<ws.length:=λx hx=>by have:=h.lt x hx;rwa [fR]at this
 have sees:∀k,k<r.length->cF (kD ws<|AA cs<|aq m) (r.getD k 0) (r.getD ((k+1)%r.length) 0)=true:=λk hk=>by
  by_cases c:k+1=r.length
  ·rw[c,mod_self]
   have:=h.last
   rw[show r.length-1=k by omega]at this
   exact this
  ·rw[v8 (by omega)]
   exact h.next k (by omega)
 have two:∀x∈r,x∈AA cs (aq m):=λx hx=>by
  obtain⟨k,hk,e⟩:=qN hx
  have:=sees k hk
  rw[b3,b4 hk]at this;rw[show(some r[k]).getD 0=r[k]from rfl,e,oE<|a x hx,gc,kc]at this
  exact this.1
 have b:=h.two;refine⟨⟨λx hx=>by rw[<-hn];exact a x hx,h.nd,λ_=>⟨h.two,λx hx=>?_,λk hk=>?_⟩,(λe=>nomatch e)⟩,λz=>?_,(λe=>nomatch e),λx hx=>?_⟩
 ·have:=(j5.mp<|two x hx).2
  exact ot this
 ·have:=sees k hk
  rw[oE (a _<|fN hk),gc]at this;exact this.2
 ·have z:r=[]:=z;rw[z]at b;simp at b
 ·exact bc.mp (j5.mp<|two x hx).1
def rk(B:Bn mg)(D:Def K mg "lone_group" iJ)(qt:Fn P w K mg base 1 "places" ["mask"] pC)(jE:Fn P w K mg base 1 "is_circle" ["web","people"] (LW K))(iN:Fn P w K mg base 3 "sight_ring" ["web"] (CG K))(rC:Fn P w K mg base 1 "sights_from" ["web","people"] (QV K)):Fn P w K mg base 4 "lone_group" ["counts","web","crowd"] (QX K):=by
 have zY:DS (aj iJ) ["counts","web","crowd","people","twos","ring"] ["counts","web","crowd"] ["tuple","places","is_circle","sight_ring","sights_from"]:=aK;walk_at"hH";obtain⟨c,w,n,R,m,rfl,hcq,E,y,hn,bq,hm0,hm,q⟩:=h;have h8:=y.len;have hmb:m<256:=g4 hm<|Ug h8;have f:∀x∈aq m,x<n.length:=λx hx=>eE hm<|bc.mp hx;have Y:(aq m).length<=8:=gr (cI (ck m) f) h8;refine zW _ ⟨_,(ae (aZ S 3<|jM S 0 (pI rfl) B.tuple boot_tuple<|aa<|cE S 1 qt hr<|aa<|kv S 2)
   (ae (cM (mj<|cE S 2 jE hr<|ak (kv S 1)<|aa<|kv S 3) (ai<|aH<|uB<|aa<|uB<|ak br<|aa<|kv S 3) az)
   (ae (Ku (i:=4) S hc hsc (fB (kv S 3) rfl) (N:=["i","counts"]) (W:=["i"]) (G:=[]) (fv:=[none,some 0]) Dk0 (λcl C fp s H O=>⟨(kg O 0),(c7<|aM aR (jL (fE rfl) (kv O 1) (kv O 0) λ_ _=>rfl) ax<|ao _),(kv O 0)⟩) (by rw[hsc];decide +kernel) (by rw[dw,hsc];rfl))
   (ae (aZ S 5<|cE S 3 iN hr<|aa<|cE S 4 rC hr<|ak (kv S 1)<|aa<|kv S 4)
   (ae (cM (aM oo (kv S 5) pd<|ao _) (ai<|aH<|uB bw) az)
   (ai<|aH<|uB<|aa<|uB<|ak br<|aa<|kv S 5)))))),?_⟩
 cbv;refine⟨m,rfl,by omega,λl H1 s1 _ hl=>?_⟩
 refine⟨l,_,rfl,aw.of hl,λp o hp hoc Z=>?_⟩;have s2:=s1.trans<|ag.new hp<|.kZ o<|.tup<|(au<|aq m).map V.int;have d:upd H1 p (.kZ o<|.tup<|(au<|aq m).map V.int) p=some (.kZ o<|.tup<|(au<|aq m).map V.int):=af;generalize upd H1 p (.kZ o<|.tup<|(au<|aq m).map V.int)=H2 at s2 d ⊢;cbv;refine⟨w,p,R,aq m,rfl,s2.aP E,aL.kZ d,by omega,ck m,λi hi=>by rw[hn];exact f i hi,λH3 s3=>?_⟩
 have v:=s3 _ _ d;have u:=s2.trans s3;have hne:aq m≠[]:=λz=>by
  have:=jR m
  rw[z]at this
  have:0=m:=this
  omega
 cases cb:bY R (aq m)with
 |true=>
  cbv;refine⟨a_,λz1 h1=>⟨a_,λX U=>?_⟩⟩
  have M:=ag.new h1<|.tup [.str "circle",.ref p];have I:=ag.new U<|.tup [.ref z1];have a:=M.trans I;refine q X [.ref z1] [(false,aq m)] _ (u.trans a) (aL.of af) ⟨⟨z1,p,rfl,I.aP<|aL.of af,aL.kZ<|a _ _ v,.inr ⟨_,_,a _ _ v,hoc,Z⟩⟩,trivial⟩ ?_;have e:(([(false,aq m)]:B0L).map<|iT n).sum=gH n (aq m):=by
   show iT n (false,aq m)+0=_;rw[pV,Int.add_zero]
  rw[e];refine⟨⟨λg T=>?_,List.pairwise_singleton _ _,e,gJ y.pos f⟩,dy _,⟨λ_=>rfl,(λz=>by rw[cb]at z;cases z),gJ y.pos f⟩⟩
  rw[eG.mp T];exact⟨⟨f,ck m,(λe=>nomatch e),λ_=>Az cb⟩,hne,λ_=>eV m,λx hx=>bc.mp hx⟩
 |false=>
  cbv;refine UM (λj=>decide<|n.getD ((aq m).getD j 0) 0=2) (λj=>(((aq m).getD j 0:Nat):Int)) (aL.kZ v) (by rw[ah];exact aB (by omega)) ?_ ?_
  ·intro j H4 A B' hj hS hA hB;rw[ah]at hj;rw[aA];cbv;refine dP ((u.trans hS).aP hcq) rfl (f _<|aX hj) ?_;cbv
   by_cases Q:n.getD ((aq m).getD j 0) 0=2
   ·rw[if_pos Q];exact hA (cc Q) _<|ag.refl _
   ·rw[if_neg Q];exact hB (dt Q) _<|ag.refl _
  intro L H4 _ s4 b;rw[jk (aq m) (λx=>decide<|n.getD x 0=2)]at b;have b:H4 L=some (.lst<|(au<|AA n<|aq m).map V.int):=b;cbv;refine⟨w,L,R,AA n<|aq m,rfl,(u.trans s4).aP E,aw.of b,by omega,gr (x6 _ _) Y,λt H5 s5 ht=>?_⟩
  refine⟨t,_,rfl,ht,by rw[fR];omega,MD bq,λH6 s6=>⟨λnf=>?_,λhlt2 p2 r o2 d J F hR=>?_⟩⟩
  ·cbv;refine⟨a_,λz h1=>?_⟩
   have M:=ag.new h1<|.tup [];refine q z [] [] _ (u.trans<|s4.trans<|s5.trans<|s6.trans M) (aL.of af) trivial ⟨vw n R m,zero_le _,⟨(λz=>by rw[cb]at z;cases z),λ_ nr=>absurd (xk nf) nr,Wq _⟩⟩
  ·cbv;refine⟨a_,λz1 h1=>⟨a_,λX U=>?_⟩⟩
   have M:=ag.new h1<|.tup [.str "ring",.ref p2];have I:=ag.new U<|.tup [.ref z1];have a:=M.trans I;refine q X [.ref z1] [(true,r)] _ (u.trans<|s4.trans<|s5.trans<|s6.trans a) (aL.of af) ⟨⟨z1,p2,rfl,I.aP<|aL.of af,aL.kZ<|a _ _ d,.inr ⟨_,_,a _ _ d,J,F⟩⟩,trivial⟩ ?_;have e:(([(true,r)]:B0L).map<|iT n).sum=1:=rfl;rw[e];refine⟨⟨λg T=>?_,List.pairwise_singleton _ _,e,(by show(0:Int)<=1;omega)⟩,dy _,⟨(λz=>by rw[cb]at z;cases z),λ_ _=>rfl,(by show(0:Int)<=1;omega)⟩⟩
   rw[eG.mp T];exact Kc hn hR
def Uh(K:Frag)(H0:Hp)(c w l:Addr)(cs:e_)(ws:d_)(i:Nat)(σ:L2.St)(H:Hp):Prop:=∃(us:u_) (fl:List mJ) (y1 y2:v_),σ=[some (.ref c),some<|.ref w,some<|.ref l,y1,y2]/\ag H0 H/\H l=some (.lst us)/\mK K H us fl/\fl.length=1+i/\∀k,k<1+i->mL cs ws k (fl.getD k (0,[]))
def nV(B:Bn mg)(D:Def K mg "lone_choices" fU)(vX:Fn P w K mg base 4 "lone_group" ["counts","web","crowd"] (QX K))(jF:Fn P w K mg base 5 "made_sure" ["counts","groups"] (uZ K)):Fn P w K mg base 6 "lone_choices" ["counts","web"] (IW K):=by
 have zY:DS (aj fU) ["counts","web","choices","crowd","groups"] ["counts","web"] ["range","lone_group","len","made_sure"]:=aK;walk_at"hH";obtain⟨c,w,a,R,rfl,v,x,o,hn,bq,q⟩:=h;have h8:=o.len;have hpow:=Ug h8;have hpos:0<2 ^ a.length:=r4 _;refine zW _ ⟨_,(ae (aZ S 2<|dM<|aa<|uB<|ak ax<|aa<|uB bw)
   (ae (dq hxe hc (Lx S 0 B.range<|ak ax<|aa<|aQ bW ax<|cq S 2 (av rfl) B.len kb<|aa<|kv S 1) (kg S 3) (ae (aZ S 4<|cE S 1 vX hr<|ak (kv S 0)<|ak (kv S 1)<|aa<|kv S 3)
   (ai<|fC<|kY rr oq pS cu rfl (kv S 2)<|aa<|uB<|ak (cE S 3 jF hr<|ak (kv S 0)<|aa<|kv S 4)<|aa<|kv S 4)))
   (ai<|aH<|kv S 2))),?_⟩
 cbv;refine⟨a_,λm h0=>⟨a_,λz1 h1=>⟨a_,λl hl=>?_⟩⟩⟩
 have t0:=ag.new h0<|.tup [];have Z:=ag.new h1<|.tup [.int 0,.ref m];have I:=ag.new hl<|.lst [.ref z1];have y:H l=none:=(t0.trans Z).IK hl;have T:=t0.trans<|Z.trans I;have A:upd (upd (upd H m<|.tup []) z1<|.tup [.int 0,.ref m]) l (.lst [.ref z1]) l=some (.lst [.ref z1]):=af;have t:mK X.K (upd (upd (upd H m<|.tup []) z1<|.tup [.int 0,.ref m]) l<|.lst [.ref z1]) [.ref z1] [(0,[])]:=⟨⟨z1,m,[],rfl,I.aP<|aL.of af,(Z.trans I).aP<|aL.of af,trivial⟩,trivial⟩;generalize upd (upd (upd H m<|.tup []) z1<|.tup [.int 0,.ref m]) l (.lst [.ref z1])=H1 at T A t ⊢;refine aI (.inr<|T.aP x) ?_;rw[b5,ah,hn];cbv;refine⟨dY (by omega),?_⟩
 refine HL (lo:=1) (n:=2 ^ a.length-1) (Uh X.K H c w l a R) rfl (by rw[show 1+(2 ^ a.length-1)=2 ^ a.length by omega]) (by omega) ⟨_,_,_,_,rfl,T,A,t,rfl,λk hk=>?_⟩ ?_ ?_
 ·have:k=0:=by omega
  subst this;exact Ej a R
 ·walk_at"fo";rintro k σ J hk ⟨G,U,y1,y2,rfl,r,f,i,d,W⟩;walk_at"fg";cbv;refine⟨c,w,a,R,1+k,rfl,r.aP v,r.aP x,o,hn,bq,by omega,by omega,λg u L H2 s2 hg hG s=>?_⟩
  cbv;have Y:=s.1.len;have hlL:L.length<=8:=by
   have:L.length<=a.length:=s.1.len
   omega
  refine⟨.inl ⟨rfl,_,aw.of<|s2 _ _ f⟩,?_⟩;refine⟨c,g,a,u,L,rfl,(r.trans s2).aP v,hg,hG.gl,o,λE p=>⟨(s.1.each E p).ok.lt,gr (cI (s.1.each E p).ok.nd (s.1.each E p).ok.lt) h8⟩,by omega,λH3 s3=>?_⟩
  refine⟨a_,λz hz=>?_⟩
  have sz:=ag.new hz<|.tup [.int ((L.map<|iT a).sum),.ref g];have M:=s2.trans<|s3.trans sz;have N:aL X.K (upd H3 z<|.tup [.int ((L.map<|iT a).sum),.ref g]) z [.int ((L.map<|iT a).sum),.ref g]:=aL.of af;have C:=(s3.trans sz).aP hg;have Q:=hG.mono<|s3.trans sz;have b:=M _ _ f;have O:=i.mono M;refine⟨l,_,_,rfl,rfl,b,aB (by rw[i.length];omega),?_⟩
  refine⟨G++[.ref z],U++[((L.map<|iT a).sum,L)],_,_,rfl,(r.trans M).set y _,af,(O.gD b).append ⟨⟨z,g,u,rfl,N.gD b,C.gD b,Q.gD b⟩,trivial⟩,by rw[eR,d];rfl,λj hj=>?_⟩
  by_cases e:j=1+k
  ·subst e;rw[b3,qz (by omega),d,Wr]
   exact s
  ·rw[b3,A5 (by omega),<-b3]
   exact W j (by omega)
 ·rintro σ J ⟨G,U,y1,y2,rfl,r,f,i,d,W⟩;cbv;exact q l G U J r y f i (by omega) (λk hk=>W k (by omega))
def Ui(H0:Hp)(pl:Addr)(m:Nat)(k:Nat)(σ:L2.St)(H:Hp):Prop:=∃(l:Addr) (ps:d_) (y:v_),σ=[some (.int (m:Int)),some<|.ref l,y]/\ag H0 H/\H0 l=none/\H l=some (.lst<|(au ps).map V.int)/\H pl=some (.lst<|(au<|aq m).map V.int)/\ps.length=2 ^ k/\∀q,q∈ps↔(Sub q m/\∀j,q.testBit j=true->j∈(aq m).take k)
def vO{m q:Nat}:(Sub q m/\∀j,q.testBit j=true->j∈(aq m).take 0)↔q∈[0]:=by
 rw[eG]
 constructor
 ·rintro⟨_,b⟩
  apply DK
  intro j;rw[Wu]
  cases e:q.testBit j with
  |false=>rfl
  |true=>have:=b j e;simp at this
 ·rintro rfl;exact⟨(λj hj=>by rw[Wu]at hj;cases hj),(λj hj=>by rw[Wu]at hj;cases hj)⟩
def yk(B:Bn mg)(D:Def K mg "parts_of" kM)(qt:Fn P w K mg base 1 "places" ["mask"] pC):Fn P w K mg base 2 "parts_of" ["crowd"] TL:=by
 have zY:DS (aj kM) ["crowd","parts","i"] ["crowd"] ["places"]:=aK;walk_at"hH";obtain⟨m,rfl,hm,q⟩:=h;have F:∀x∈aq m,x<8:=λx hx=>eE (n:=8) hm<|bc.mp hx;have L:(aq m).length<=8:=cI (ck m) F;refine zW _ ⟨_,(ae (aZ S 1<|dM<|aa ax)
   (ae (dq hxe hc (bA (cE S 0 qt hr<|aa<|kv S 0) rfl) (kg S 2) (ai (aZ S 1 (aQ (cR rfl) (kv S 1) (f9 S hc hsc (bA (kv S 1) rfl) (N:=["part","i"]) (W:=["part"]) (G:=[]) (fv:=[none,some 2]) Dk0 λcl C fp s H Q=>⟨(kg Q 0),aY,(aQ aW (kv Q 0)<|aQ bW ax<|kv Q 1)⟩)))))
   (ai<|aH<|kv S 1))),?_⟩
 cbv;refine⟨a_,λl X=>?_⟩
 have Y:=ag.new X<|.lst [.int 0];refine⟨m,rfl,by omega,λpl H2 r _ u=>?_⟩
 have R:=r _ _<|af (H:=H) (a:=l) (o:=.lst [.int 0]);refine forL (Ui H pl m) (aw.of u) ⟨l,[0],_,rfl,Y.trans r,X,R,u,rfl,λq=>vO.symm⟩ (λi σ J h=>by obtain⟨_,_,_,_,_,_,_,h,_⟩:=h;exact aw.of h) ?_ ?_
 ·walk_at"fo";rintro k σ J hk ⟨l,f,y,rfl,I,z,g,v,c,b⟩;walk_at"fg";rw[ah]at hk;rw[aA];have O:=F _<|fN hk;have ay:2 ^ k<=256:=gr (oD a_ (show k<=8 by omega)) a_
  have E:=AD hk rfl b;generalize (aq m).getD k 0=i at O E ⊢;cbv;refine He (λ_=>true) (λt=>(((f.getD t 0+2 ^ i:Nat)):Int)) (aw.of g) (by rw[ah];exact aB (by omega)) ?_ ?_
  ·intro t J2 A B' ht hS M _;rw[aA];cbv;refine⟨dY (by omega),?_⟩
   rw[<-natCast_add];exact M rfl _<|ag.refl _
  ·intro ab J2 Z r d;rw[bz,ah]at d;have e:((List.range f.length).map λt=>(((f.getD t 0+2 ^ i:Nat)):Int))=au (f.map λx=>x+2 ^ i):=by
    unfold au;rw[k6]
    conv=>rhs;rw[<-nK f,k6]
    rfl
   rw[e]at d;refine jN (aw.of<|r _ _ g) (aw.of d) (ie (by rw[ah,ah,b5];omega)) λp T=>?_
   have U:=ag.new T<|.lst<|(au f++au (f.map λx=>x+2 ^ i)).map V.int;refine⟨p,f++f.map (λx=>x+2 ^ i),_,rfl,I.trans<|r.trans U,(I.trans r).IK T,?_,(r.trans U) _ _ v,by rw[eR,b5,c,Nat.pow_succ];omega,E⟩
   rw[cN];exact af
 ·rintro σ J ⟨l,f,y,rfl,I,z,g,v,c,b⟩;rw[ah]at c b;cbv;refine q l f J I z g (λq=>?_) ?_
  ·rw[b q,vr<|dy _];exact⟨λh=>h.1,λh=>⟨h,λj hj=>bc.mpr<|h j hj⟩⟩
  ·rw[c];exact gr (oD a_ L) a_
def Uj(K:Frag)(H0:Hp)(lo be:Addr)(cs:e_)(ws:d_)(ul ub:u_)(fl fb:List mJ)(m i:Nat)(pp:Addr)(ps:d_)(k:Nat)(σ:L2.St)(H:Hp):Prop:=∃(v:V) (x:mJ) (y6 y7 y8:v_),σ=[some (.ref lo),some<|.ref be,some<|.int (m:Int),some<|.int ((2 ^ i:Nat):Int),some<|.int ((m-2 ^ i:Nat):Int),some v,y6,y7,y8]/\ag H0 H/\aw K H pp ((au ps).map V.int)/\Ch K H v x/\yU cs ws m x/\(fb.getD (m-2 ^ i) (0,[])).1<=x.1/\∀t,t<k->(fl.getD (2 ^ i+ps.getD t 0) (0,[])).1+(fb.getD ((m-2 ^ i)-ps.getD t 0) (0,[])).1<=x.1
def Nn{m:Nat}(h:0<m):Builtin.bitAnd (m:Int) (-(m:Int))=((m-(m&&& (m-1)):Nat):Int):=by
 have e:-(m:Int)=Builtin.bitNot ((m-1:Nat):Int):=by unfold Builtin.bitNot;omega
 rw[e,uM]
def ER{a m:Nat}(h:Sub a m):Sub (m-a) m:=λj hj=>by
 rw[gm h,gc]at hj;exact hj.1
def Uk(K:Frag)(H0:Hp)(lo be:Addr)(cs:e_)(ws:d_)(fb:List mJ)(m i:Nat)(σ:L2.St)(H:Hp):Prop:=∃(v:V) (x:mJ),σ=[some (.ref lo),some<|.ref be,some<|.int (m:Int),some<|.int ((2 ^ i:Nat):Int),some<|.int ((m-2 ^ i:Nat):Int),some v,none,none,none]/\H=H0/\Ch K H0 v x/\yU cs ws m x/\(fb.getD (m-2 ^ i) (0,[])).1<=x.1
def qm(B:Bn mg)(D:Def K mg "best_choice" gS)(Bv:Fn P w K mg base 2 "parts_of" ["crowd"] TL):Fn P w K mg base 3 "best_choice" ["lone","best","crowd"] (QY K):=by
 have zY:DS (aj gS) ["lone","best","crowd","first","others","found","part","group","rest"] ["lone","best","crowd"] ["parts_of"]:=aK;walk_at"hH";obtain⟨lo,be,cs,ws,ul,ub,s,f,m,rfl,Q,u,cl,cb,U,hn,hfl,hfb,L,hm,hL,hB,q⟩:=h;have h8:=U.len;have hpow:2 ^ cs.length<=256:=gr (oD a_ h8) a_
 obtain⟨i,hi,W⟩:=MC m L;have hile:=(eQ hi).le;have hip:0<2 ^ i:=r4 i;have g:Sub (m-2 ^ i) m:=λj hj=>by rw[bU hi,gc]at hj;exact hj.1
 refine zW _ ⟨_,(ae (aZ S 3<|aQ eA (kv S 2)<|N8 iX<|kv S 2)
   (ae (aZ S 4<|aQ cK (kv S 2)<|kv S 3)
   (ae (aZ S 5<|fI (kv S 0)<|kv S 2)
   (ae (cM (aM r8 (mT<|fI (kv S 1)<|kv S 4) (mT<|kv S 5)<|ao _) (ai<|aZ S 5<|fI (kv S 1)<|kv S 4) az)
   (ae (dq hxe hc (bA (cE S 0 Bv hr<|aa<|kv S 4) rfl) (kg S 6) (ae (aZ S 7<|fI (kv S 0)<|aQ aW (kv S 3)<|kv S 6)
   (ae (aZ S 8<|fI (kv S 1)<|aQ cK (kv S 4)<|kv S 6)
   (ai<|cM (aM r8 (aQ aW (mT<|kv S 7)<|mT<|kv S 8) (mT<|kv S 5)<|ao _) (ai<|aZ S 5<|uB<|ak (aQ aW (mT<|kv S 7)<|mT<|kv S 8)<|aa<|aQ (i7 rfl) (mT<|kv S 7)<|mT<|kv S 8) az))))
   (ai<|aH<|kv S 5)))))),?_⟩
 walk_at"h";rw[Nn L,W];walk_at"h";rw[show((m:Int)-((2 ^ i:Nat):Int))=((m-2 ^ i:Nat):Int) by omega]
 obtain⟨v0,ev0,c0⟩:=cl.get (i:=m) (by omega)
 obtain⟨v1,F,c1⟩:=cb.get (i:=m-2 ^ i) (by omega)
 have hLm:=(hL m hm).1;have hB1:=(hB (m-2 ^ i) (by omega)).1
 walk_at"h";refine aD Q (jI ev0) ?_;lia;refine Vn (Uk X.K H lo be cs ws f m i) (λσ J h=>?_) (λR hR=>?_)
 rotate_left
 ·lia;cbv;refine aD u (jI F) ?_;obtain⟨r1,g1,us1,rfl,h11,h12,h13⟩:=id c1;obtain⟨r0,g0,us0,rfl,h01,h02,h03⟩:=id c0;refine bB h11 rfl ?_;refine bB h01 rfl ?_;cbv;refine bT (λhlt=>?_) λhge=>?_
  ·refine aD u (jI F) ?_;exact hR _ _ ⟨_,_,rfl,rfl,c1,hB1.mono g,Wq _⟩
  ·exact hR _ _ ⟨_,_,rfl,rfl,c0,hLm,by omega⟩
 obtain⟨v,x,rfl,eJ,C,E,hx⟩:=h;rw[eJ];clear eJ J;walk_at"h";refine⟨m-2 ^ i,rfl,by omega,λpp A J sJ _ M Y hp256=>?_⟩
 refine forL (Uj X.K H lo be cs ws ul ub s f m i pp A) (aw.of M) ⟨v,x,_,_,_,rfl,sJ,aw.of M,C.mono sJ,E,hx,λt T=>absurd T<|sU t⟩ (λi σ J h=>by obtain⟨_,_,_,_,_,_,_,h,_⟩:=h;exact h) ?_ ?_
 ·walk_at"fo";rintro k σ J2 hk ⟨v,x,y6,y7,y8,rfl,n,d,C,E,hx,di⟩;walk_at"fg";rw[ah]at hk;rw[aA];have c:=(Y _).mp<|fN hk;generalize hq:A.getD k 0=a at c;have hle:=c.le;obtain⟨va,eva,ca⟩:=cl.get (i:=2 ^ i+a) (by omega)
  obtain⟨vb,evb,r⟩:=cb.get (i:=(m-2 ^ i)-a) (by omega)
  have ga:=(hL (2 ^ i+a) (by omega)).1
  have gb:=(hB ((m-2 ^ i)-a) (by omega)).1
  cbv;refine aD (n.seq Q) (v:=va) (by rw[show(((2 ^ i:Nat):Int)+(a:Int))=((2 ^ i+a:Nat):Int) by omega];exact jI eva) ?_
  refine aD (n.seq u) (v:=vb) (by rw[show(((m-2 ^ i:Nat):Int)-(a:Int))=((m-2 ^ i-a:Nat):Int) by omega];exact jI evb) ?_
  have ca:=ca.mono n;have r:=r.mono n;obtain⟨ra,g1,ua,rfl,p,ha2,Z⟩:=id ca;obtain⟨rb,g2,I,rfl,o,hb2,O⟩:=id r;obtain⟨rv,gv,uv,rfl,hv1,hv2,hv3⟩:=id C;refine bB p rfl ?_;refine bB o rfl ?_;cbv;refine bB hv1 rfl ?_;cbv;have b:∀y:Int,x.1<=y->(s.getD (2 ^ i+a) (0,[])).1+(f.getD ((m-2 ^ i)-a) (0,[])).1<=y->∀t,t<k+1->(s.getD (2 ^ i+A.getD t 0) (0,[])).1+(f.getD ((m-2 ^ i)-A.getD t 0) (0,[])).1<=y:=λy h1 h2 t T=>by
   by_cases e:t=k
   ·rw[e,hq];exact h2
   ·have:=di t (by omega)
    omega
  refine bT (λhlt=>?_) λhge=>?_
  ·refine bB p rfl ?_;refine bB o rfl ?_;cbv;refine bB p rfl ?_;refine bB o rfl ?_;have la:=ga.len;have lb:=gb.len;refine⟨g1,g2,ua,I,rfl,rfl,ha2,hb2,c8 (by rw[Z.length,O.length];omega),λg3 J3 s3 hg3=>?_⟩
   refine⟨a_,λz hz=>?_⟩
   have sz:=ag.new hz<|.tup [.int ((s.getD (2 ^ i+a) (0,[])).1+(f.getD ((m-2 ^ i)-a) (0,[])).1),.ref g3];have s4:=s3.trans sz;have N:Sub (2 ^ i+a) m:=((CF (l:=[]) hi c ⟨(λ_ h=>nomatch h),.nil⟩).1 _ fA);have dis:IL (2 ^ i+a) (m-2 ^ i-a):=λj hj=>by
    rw[gm c,bU hi];rw[vt (λj' G=>?_)]at hj
    ·rw[GE,FM,kc]at hj
     rcases hj with hj|hj
     ·rw[hj];simp
     ·rw[hj];simp
    ·rw[FM,kc]at G
     cases e:a.testBit j' with
     |false=>rfl
     |true=>have:=c j' e;rw[bU hi,G]at this;simp at this
   refine⟨.ref z,((s.getD (2 ^ i+a) (0,[])).1+(f.getD ((m-2 ^ i)-a) (0,[])).1,(s.getD (2 ^ i+a) (0,[])).2++(f.getD ((m-2 ^ i)-a) (0,[])).2),_,_,_,rfl,n.trans s4,s4.seq d,⟨z,g3,ua++I,rfl,aL.of af,sz.aP hg3,(Z.mono s4).append<|O.mono s4⟩,ga.add gb dis N<|(ER c).trans g,?_,?_⟩
   ·show(f.getD (m-2 ^ i) (0,[])).1<=(s.getD (2 ^ i+a) (0,[])).1+(f.getD ((m-2 ^ i)-a) (0,[])).1
    omega
   ·exact b _ (by omega)<|Wq _
  ·exact⟨_,x,_,_,_,rfl,n,d,C,E,hx,b x.1 (Wq _) (by omega)⟩
 ·rintro σ J2 ⟨v,x,y6,y7,y8,rfl,n,d,C,E,hx,di⟩;rw[ah]at di;lia;cbv;refine q v x J2 n C<|El U.pos hn hm hi hL hB E hx λa hp=>?_;obtain⟨t,T,e⟩:=qN<|(Y a).mpr hp
  have:=di t T
  rw[b3 (l:=A),b4 T,show(some A[t]).getD 0=A[t]from rfl,e]at this
  exact this
def Ul(K:Frag)(H0:Hp)(c w lo l:Addr)(cs:e_)(ws:d_)(i:Nat)(σ:L2.St)(H:Hp):Prop:=∃(us:u_) (fb:List mJ) (y1:v_),σ=[some (.ref c),some<|.ref w,some<|.ref lo,some<|.ref l,y1]/\ag H0 H/\H l=some (.lst us)/\mK K H us fb/\fb.length=1+i/\∀k,k<1+i->iy cs ws k (fb.getD k (0,[]))
def qo(B:Bn mg)(D:Def K mg "best_groups" gT)(qu:Fn P w K mg base 6 "lone_choices" ["counts","web"] (IW K))(rD:Fn P w K mg base 3 "best_choice" ["lone","best","crowd"] (QY K)):Fn P w K mg base 7 "best_groups" ["counts","web"] (QZ K):=by
 have zY:DS (aj gT) ["counts","web","lone","best","crowd"] ["counts","web"] ["lone_choices","range","len","best_choice"]:=aK;walk_at"hH";obtain⟨c,w,f,G,rfl,N,O,p,hn,bq,q⟩:=h;have h8:=p.len;have hpow:2 ^ f.length<=256:=gr (oD a_ h8) a_
 have hpos:0<2 ^ f.length:=r4 _;refine zW _ ⟨_,(ae (aZ S 2<|cE S 0 qu hr<|ak (kv S 0)<|aa<|kv S 1)
   (ae (aZ S 3<|dM<|aa<|uB<|ak ax<|aa<|uB bw)
   (ae (dq hxe hc (Lx S 1 B.range<|ak ax<|aa<|cq S 2 (av rfl) B.len kb<|aa<|kv S 2) (kg S 4)<|ai<|fC<|kY rr oq pS cu rfl (kv S 3)<|aa<|cE S 3 rD hr<|ak (kv S 2)<|ak (kv S 3)<|aa<|kv S 4)
   (ai<|aH<|mT<|fI (kv S 3)<|N8 iX ax)))),?_⟩
 cbv;refine⟨c,w,f,G,rfl,N,O,p,hn,bq,λlo ul fl H1 s1 hlo0 t cl A hL=>?_⟩;cbv;refine⟨a_,λm h0=>⟨a_,λz1 h1=>⟨a_,λl hl=>?_⟩⟩⟩
 have t0:=ag.new h0<|.tup [];have Y:=ag.new h1<|.tup [.int 0,.ref m];have L:=ag.new hl<|.lst [.ref z1];have R:H1 l=none:=(t0.trans Y).IK hl;have s2:=t0.trans<|Y.trans L;have E:upd (upd (upd H1 m<|.tup []) z1<|.tup [.int 0,.ref m]) l (.lst [.ref z1]) l=some (.lst [.ref z1]):=af;have y:mK X.K (upd (upd (upd H1 m<|.tup []) z1<|.tup [.int 0,.ref m]) l<|.lst [.ref z1]) [.ref z1] [(0,[])]:=⟨⟨z1,m,[],rfl,L.aP<|aL.of af,(Y.trans L).aP<|aL.of af,trivial⟩,trivial⟩;generalize upd (upd (upd H1 m<|.tup []) z1<|.tup [.int 0,.ref m]) l (.lst [.ref z1])=H2 at s2 E y ⊢;refine aI (.inl<|aw.of<|s2 _ _ t) ?_;rw[cl.length,A];cbv;refine HL (lo:=1) (n:=2 ^ f.length-1) (Ul X.K H1 c w lo l f G) rfl (by omega) (by omega) ⟨_,_,_,rfl,s2,E,y,rfl,λk hk=>?_⟩ ?_ ?_
 ·have:k=0:=by omega
  subst this;exact Ek f G
 ·walk_at"fo";rintro k σ J hk ⟨o,Q,y1,rfl,u,d,b,a,I⟩;walk_at"fg";cbv;refine⟨.inl ⟨rfl,_,aw.of d⟩,?_⟩;refine⟨lo,l,f,G,ul,o,fl,Q,1+k,rfl,aw.of<|u _ _ t,aw.of d,cl.mono u,b,p,hn,A,a,by omega,by omega,hL,I,λv x H3 Z T hx=>?_⟩
  have s:=Z _ _ d;refine⟨l,_,_,rfl,rfl,s,aB (by rw[b.length];omega),?_⟩
  refine⟨o++[v],Q++[x],_,rfl,(u.trans Z).set R _,af,((b.mono Z).gD s).append ⟨T.gD s,trivial⟩,by rw[eR,a];rfl,λj hj=>?_⟩
  by_cases e:j=1+k
  ·subst e;rw[b3,qz (by omega),a,Wr]
   exact hx
  ·rw[b3,A5 (by omega),<-b3]
   exact I j (by omega)
 ·rintro σ J ⟨o,Q,y1,rfl,u,d,b,a,I⟩;cbv;obtain⟨v,ev,T⟩:=b.get (i:=2 ^ f.length-1) (by omega)
  have hb:=I (2 ^ f.length-1) (by omega)
  have C:=b.length;refine aD (aw.of d) (v:=v) ?_ ?_
  ·have W:o=o.dropLast++[v]:=by
    have h1:o≠[]:=λz=>by rw[z]at C;simp at C;omega
    have H:=List.dropLast_concat_getLast h1;have U:o.getLast h1=v:=by
     rw[List.getLast_eq_getElem];rw[show 2 ^ f.length-1=o.length-1 by omega,b4 (by omega)]at ev
     exact o6 ev
    rw[U]at H;exact H.symm
   rw[W];exact Gg _ _
  obtain⟨r,g,M,rfl,h1,H,U⟩:=T;refine bB h1 rfl ?_;refine q g M _ J (s1.trans u) H U ?_;have e:=hb.1.sum;rw[e];exact hb
def all_map{α:Type}(l:List α)(p:α->Bool):(l.map p).all id=l.all p:=by rw[F8];rfl
def any_map{α:Type}(l:List α)(p:α->Bool):(l.map p).any id=l.any p:=by rw[List.any_map];rfl
def range_getD{α:Type}(l:e_)(f:Int->α):(List.range l.length).map (λk=>f<|l.getD k 0)=l.map f:=by
 apply ext_getElem
 ·simp
 ·intro i h1 a
  simp at h1 a
  simp[h1]
def VC{a:Addr}{ns:e_}{te:TE}{rest:L2.St}{Q:VK}{H1:Hp}(f:Int->Bool)(h:aL K H1 a (ns.map V.int))(hn:ns.length<=1000)
  (step:∀(i:Int) H (A:q_),i∈ns->ag H1 H->(∀H',ag H H'->A (.bl<|f i) H')->te (some (.int i)::rest) H A)
  (fin:∀B_ H,H1 B_=none->ag H1 H->H B_=some (.lst<|(ns.map f).map V.bl)->Q (.ref B_) H):
  ∃b,V.ref a=.ref b/\(∃xs,aL K H1 b xs)/\sN (bF 0) gZ te (none::rest) Q (Fu K b) H1:=by
 refine⟨a,rfl,⟨_,h⟩,wu (i6 h) (λ_=>true) (λi=>.bl<|f<|ns.getD i 0) (by rw[b5];exact aB hn) ?_ ?_⟩
 ·intro i H A j hi d e _;rw[b5]at hi;rw[getD_ints hi];simp only[gA,wY,j4];exact step _ H A (L2.getD_mem hi) d λH' g=>e rfl _ g
 ·intro B_ H hn d c;rw[bz,b5]at c;refine fin B_ H hn d ?_;rw[c,<-range_getD ns f,k6];rfl
def Kd(B:Bn mg)(D:Def K mg "rises" vK):Fn P w K mg base 1 "rises" ["people"] (u9 K):=by
 have zY:DS (aj vK) ["people"] ["people"] ["all","zip"]:=aK;walk_at"hH";obtain⟨p,l,rfl,g,h1,j,q⟩:=h;refine zW _ ⟨_,(ai (aH (cq S 0 (cU hc rfl) B.all boot_all (aa (f9 S hc hsc (UP false false S 1 B.zip rfl<|ak (kv S 0)<|aa<|qP (jK rfl) (kv S 0) (bK ax) bJ) (N:=["i","j"]) (W:=["i","j"]) (G:=[]) (fv:=[none,none]) Dk0 λu C v s H d=>⟨(pf rfl (K:=X.K) (n:=2) rfl<|aV (kg d 0)<|aV (kg d 1) dN),aY,(fi iZ (kv d 0) (kv d 1)<|ao _)⟩))))),?_⟩
 cbv;refine uF 0 g rfl (by rw[ah];omega) λa o=>?_
 have i:=ag.new o<|.tup<|((au l).drop<|0+1).map V.int;refine Q2 (ns:=au l) (ms:=(au l).drop<|0+1) _ (λk=>.bl<|decide<|l.getD k 0<l.getD (k+1) 0) (i.aP g) (aL.of af) (by rw[nt,ah];omega) (dy _) (.inr<|dy _) (by rw[nt,ah];exact aB (by omega)) ?_ ?_
 ·intro k r A hk c t;rw[nt,ah]at hk;rw[aA,show((au l).drop<|0+1).getD k 0=((l.getD (k+1) 0:Nat):Int) by rw[<-aA,b3,getElem?_drop,b3];congr 2;omega]
  cbv;have e:decide (((l.getD k 0:Nat):Int)<((l.getD (k+1) 0:Nat):Int))=decide (l.getD k 0<l.getD (k+1) 0):=by
   rw[WA];omega
  rw[e];exact t _<|ag.refl _
 ·intro f r m c b;rw[nt,ah]at b;refine⟨f,(List.range<|l.length-(0+1)).map λk=>decide<|l.getD k 0<l.getD (k+1) 0,rfl,aw.of (by rw[b,k6];rfl),?_⟩
  rw[all_map];exact q _<|i.trans c
def Rk(B:Bn mg)(D:Def K mg "is_group" kL)(NA:Fn P w K mg base 1 "rises" ["people"] (u9 K))(jE:Fn P w K mg base 1 "is_circle" ["web","people"] (LW K))(Fe:Fn P w K mg base 2 "is_ring" ["web","people"] (Qj K)):Fn P w K mg base 3 "is_group" ["counts","web","kind","people"] (HJ K):=by
 have zY:DS (aj kL) ["counts","web","kind","people"] ["counts","web","kind","people"] ["len","all","rises","is_circle","is_ring"]:=aK;walk_at"hH";obtain⟨c,w,p,f,t,⟨b,a⟩,rfl,E,T,n,I,h8,u,q⟩:=h;have n:aL X.K H p (a.map V.int):=n;have u:a.length<=90:=u;refine zW _ ⟨_,(ae (cM (wt (Lw (aM iZ (cq S 0 (av rfl) B.len kb<|aa<|kv S 3) ax<|ao _) (uC (qR (mj (cq S 1 (cU hc rfl) B.all boot_all (aa (f9 S hc hsc (fB (kv S 3) rfl) (N:=["i","counts"]) (W:=["i"]) (G:=["len"]) (fv:=[none,some 0]) Dk0 λY C Z s H o=>⟨(kg o 0),aY,(zC k9 iZ ax (kv o 0)<|cq o 0 (av rfl) B.len kb<|aa<|kv o 1)⟩)))))))) (ai<|aH wW) az)
   (ae (cM (aM aR (kv S 2) br<|ao _) (ai<|aH<|ku (cE S 2 NA hr<|aa<|kv S 3)<|pe<|cE S 3 jE hr<|ak (kv S 1)<|aa<|kv S 3) az)
   (ai (aH (ku (fi aR (kv S 2) br<|ao _) (ku (cE S 4 Fe hr<|ak (kv S 1)<|aa<|kv S 3) (pe (cq S 1 (cU hc rfl) B.all boot_all (aa (f9 S hc hsc (fB (kv S 3) rfl) (N:=["i","counts"]) (W:=["i"]) (G:=[]) (fv:=[none,some 0]) Dk0 λY C Z s H o=>⟨(kg o 0),aY,(fi aR (jL (fE rfl) (kv o 1) (kv o 0) λ_ _=>rfl) ax<|ao _)⟩)))))))))),?_⟩
 cbv;refine aI (.inr n) ?_;rw[b5];cbv;refine bT (λR=>?_) λR=>?_
 ·have e:Fz f t (b,a)=false:=by unfold Fz;rw[dt (show ¬1<=a.length by omega),qs]
  rw[e]at q;exact q _<|ag.refl _
 refine VC (λi=>decide (0<=i)&&decide (i<(f.length:Int))) n (by omega) ?_ ?_
 ·intro i H1 A hi L y;cbv
  by_cases J:0<=i
  ·rw[if_pos J];refine aI (.inr<|L.aP E) ?_;rw[b5];cbv;rw[cc J,nq]at y;exact y _<|ag.refl _
  ·rw[if_neg J];rw[dt J,qs]at y;exact y _<|ag.refl _
 intro O H1 hn1 j z;refine⟨O,_,rfl,aw.of z,?_⟩;rw[all_map,show(a.all λi=>decide (0<=i)&&decide (i<(f.length:Int)))=Kw f.length a from rfl]
 cbv
 by_cases d:Kw f.length a=true
 ·rw[d];obtain⟨en,v⟩:=Mf d;have hnl:(nats a).length=a.length:=by unfold nats;rw[b5]
  have M:Fz f t (b,a)=D6 f t b (nats a):=by
   unfold Fz;rw[cc (show 1<=a.length by omega),nq]
   show(Kw f.length a&&_)=_;rw[d,nq]
  rw[M]at q;generalize nats a=l at *;subst en;rw[ah]at R u;have e:decide (kd b="ring")=b:=uX b;have e2:decide (kd b="circle")=!b:=by cases b<;>decide
  cbv
  (try simp only[sP,wU])
  (try simp only[e,e2])
  (try simp only[show(kd b=("circle":Str))=(b=false)from propext ⟨λh=>by cases b<;>first|rfl|exact absurd h a_,λh=>by rw[h];rfl⟩,show(kd b=("ring":Str))=(b=true)from propext ⟨λh=>by cases b<;>first|rfl|exact absurd h a_,λh=>by rw[h];rfl⟩])
  cases b with
  |false=>
   (try simp only[Bool.not_false,if_true])
   refine⟨p,l,rfl,j.aP n,by omega,by omega,λH2 m=>?_⟩
   unfold D6 at q;simp only[Bool.false_eq_true,if_false]at q;cbv
   cases g:pJ l with
   |true=>
    rw[g,nq]at q;cbv;exact⟨w,p,t,l,rfl,(j.trans m).aP T,(j.trans m).aP n,by omega,xp g,λx hx=>by rw[I];exact v x hx,λU Q=>q _<|(j.trans m).trans Q⟩
   |false=>
    rw[g,qs]at q;cbv;exact q _<|j.trans m
  |true=>
   (try simp only[Bool.not_true,Bool.true_eq_false,Bool.false_eq_true,if_false,if_true])
   unfold D6 at q;simp only[if_true]at q;cbv
   try simp only[sP,wU,e,if_true]
   refine⟨w,p,t,l,rfl,j.aP T,j.aP n,by omega,by omega,λx hx=>by rw[I];exact v x hx,λH2 m=>?_⟩
   cbv
   cases g:j8 t l with
   |true=>
    rw[g,nq]at q;cbv;refine VC (λi=>decide<|f.getD i.toNat 0=2) ((j.trans m).aP n) (by rw[ah];omega) ?_ ?_
    ·intro i U A hi L y;obtain⟨x,hx,rfl⟩:=gh.mp hi;cbv;refine dP (((j.trans m).trans L).aP E) rfl (v x hx) ?_;cbv;exact y _<|ag.refl _
    ·intro F U ab Q r;refine⟨F,_,rfl,aw.of r,?_⟩;rw[all_map,show((au l).all λi=>decide<|f.getD i.toNat 0=2)=l.all (λx=>decide<|f.getD x 0=2) by unfold au;rw[F8];rfl]
     exact q _<|(j.trans m).trans Q
   |false=>
    rw[g,qs]at q;cbv;exact q _<|j.trans m
 ·have d:Kw f.length a=false:=by simpa using d
  have M:Fz f t (b,a)=false:=by
   unfold Fz;show(_&&(Kw f.length a&&_))=false;rw[d,qs,KE]
  rw[d];rw[M]at q;cbv;exact q _ j
def Um(K:Frag)(H0:Hp)(c w g:Addr)(cs:e_)(ws:d_)(L:List (Bool × List Int))(k:Nat)(σ:L2.St)(H:Hp):Prop:=∃(d:Addr) (gone:e_) (y1 y2 y3 y4:v_),σ=[some (.ref c),some<|.ref w,some<|.ref g,some<|.ref d,y1,y2,y3,y4]/\ag H0 H/\H0 d=none/\HH H d gone/\gone.length<=30*k/\FA cs ws [] 0 L=FA cs ws gone k (L.drop k)
def Rl(H0:Hp)(c w g d p:Addr)(k:Nat)(y2:V)(gone ns:e_)(j:Nat)(σ:L2.St)(H:Hp):Prop:=∃(y4:v_),σ=[some (.ref c),some<|.ref w,some<|.ref g,some<|.ref d,some<|.int (k:Int),some y2,some<|.ref p,y4]/\ag H0 H/\HH H d (gone++ns.take j)
def ES(B:Bn mg)(D:Def K mg "group_fault" gP)(Bw:Fn P w K mg base 3 "is_group" ["counts","web","kind","people"] (HJ K)):Fn P w K mg base 4 "group_fault" ["counts","web","groups"] (pK K):=by
 have zY:DS (aj gP) ["counts","web","groups","taken","place","group","people","i"] ["counts","web","groups"] ["enumerate","any","is_group"]:=aK;walk_at"hH";obtain⟨c,w,g,Y,ws,us,L,rfl,ay,hw,hg,hL,U,h8,h90,hL90,q⟩:=h;refine zW _ ⟨_,(ae (aZ S 3 Oo)
   (ae (dq hxe hc (Jt false S 0 B.enumerate rfl<|aa<|kv S 2) (pf hc (K:=X.K) (n:=2) rfl<|aV (kg S 4)<|aV (kg S 5) dN) (ae (aZ S 6<|mT<|kv S 5)
   (ae (cM (wt (Lw (qR<|mj<|cE S 2 Bw hr<|ak (kv S 0)<|ak (kv S 1)<|ak (mT<|kv S 5)<|aa<|kv S 6) (uC (mj (cq S 1 (D0 hc rfl) B.any boot_any (aa (f9 S hc hsc (fB (kv S 6) rfl) (N:=["i","taken"]) (W:=["i"]) (G:=[]) (fv:=[none,some 3]) Dk0 (λcl C fp s H O=>⟨(kg O 0),aY,(Te (u1 hu) (kv O 0) (kv O 1) (by with_unfolding_all rfl))⟩)))))))) (ai<|aH<|kv S 4) az)
   (ai<|dq hxe hc (fB (kv S 6) rfl) (kg S 7)<|ai<|Oq (u1 hu) wW (kv S 3)<|kv S 7))))
   (ai<|aH pd))),?_⟩
 cbv;intro d hd;have sd:=ag.new hd<|.dK [];refine Jv false (Um X.K H c w g Y ws L) (sd.aP hg) ⟨d,[],_,_,_,_,rfl,sd,hd,HH.nil af,zero_le _,rfl⟩ (λk σ H' h=>by obtain⟨d,gone,y1,y2,y3,x,_,s,_⟩:=h;exact s.aP hg) ?_ ?_
 ·rintro k v σ H1 H2 hv ⟨d,gone,y1,y2,y3,x,rfl,I,t,hD,T,a⟩ s2;have b:=I.trans s2;obtain⟨l,r,p,m,rfl,Q,u⟩:=hL.get hv;have y:=b.aP Q;have hp:=b.aP u;have J:k<L.length:=by have:=ls.mp m;exact this.1
  have M:L.drop k=l::L.drop (k+1):=by
   rw[List.drop_eq_getElem_cons J]
   congr 1
   have:=ls.mp m
   exact this.2
  rw[M,FA]at a;have g90:=h90 l<|ih m;cbv;refine bB (i:=1) y rfl ?_;refine bB (i:=0) y rfl ?_;refine⟨c,w,p,Y,ws,l,rfl,b.aP ay,b.aP hw,hp,U,h8,by omega,λH3 E=>?_⟩
  cbv
  cases hG:Fz Y ws l with
  |false=>
   rw[hG,qs,if_neg a_]at a
   cbv
   have:=q _<|b.trans E
   rw[a]at this;exact this
  |true=>
   rw[hG,nq]at a;cbv;have ab:=b.trans E;refine VC (λi=>decide<|i∈gone) (E.aP hp) (by omega) ?_ ?_
   ·intro i H4 A hi e F;cbv;exact Qs ((hD.same s2).same<|E.trans e)<|F _<|ag.refl _
   intro B_ H4 hn4 s4 z;refine⟨B_,_,rfl,aw.of z,?_⟩;rw[any_map];have e:=ab.trans s4
   cases F:l.2.any (λi=>decide<|i∈gone)with
   |true=>
    rw[F,Bool.not_true,if_neg a_]at a
    cbv
    have:=q _ e
    rw[a]at this;exact this
   |false=>
    rw[F,Bool.not_false,if_pos rfl]at a;cbv;refine LC (Rl H c w g d p k (.ref r) gone l.2) (e.aP u) ⟨_,rfl,e,by rw[take_zero,append_nil];exact(hD.same s2).same (E.trans s4)⟩ (λj σ H' h=>by obtain⟨x,_,s,_⟩:=h;exact s.aP u) ?_ ?_
    ·walk_at"fo";rintro j σ H5 hj ⟨x,rfl,R,f⟩;walk_at"fg";cbv;refine Me f (aB (by rw[eR,ri];omega)) λo Z=>⟨_,rfl,R.set t _,?_⟩
     rw[take_snoc 0 hj,<-qE];exact Z
    ·rintro σ H5 ⟨x,rfl,R,f⟩;rw[sC]at f;exact⟨d,gone++l.2,_,_,_,_,rfl,R,t,f,by rw[eR];omega,a⟩
 ·rintro σ H1 ⟨d,gone,y1,y2,y3,x,rfl,I,t,hD,T,a⟩;rw[hL.length,List.drop_length,FA]at a;cbv
  have:=q _ I
  rw[a]at this;exact this
def Uo(D:Def K mg "ring_guess" iF):Fn P w K mg base 1 "ring_guess" ["many","i","seen"] S7:=by
 have zY:DS (aj iF) ["many","i","seen"] ["many","i","seen"] []:=aK;walk_at"hH";obtain⟨n,i,s,rfl,hn,q⟩:=h;refine zW _ ⟨_,(ae (cM (aM aR (kv S 1) (aQ cK (kv S 0) ax)<|ao _) (ai<|aH<|kv S 2) az)
   (ai<|aH<|aQ cK ax<|kv S 2)),?_⟩
 cbv;unfold rg at q;refine bT (λc=>?_) λc=>?_
 ·rw[if_pos (by omega)]at q;exact q
 ·rw[if_neg (by omega)]at q;exact q
def Bh(D:Def K mg "product" mU):Fn P w K mg base 1 "product" ["counts"] (Hj K):=by
 have zY:DS (aj mU) ["counts","whole","count"] ["counts"] []:=aK;walk_at"hH";obtain⟨p,d,rfl,c,a,q⟩:=h;refine zW _ ⟨_,(ae (aZ S 1 ax)
   (ae (dq hxe hc (fB (kv S 0) rfl) (kg S 2)<|ai<|aZ S 1<|aQ dv (kv S 1)<|kv S 2)
   (ai<|aH<|kv S 1))),?_⟩
 cbv;refine LC (SM H p d) c ⟨rfl,none,rfl⟩ (λi σ e h=>by rw[h.1];exact c) ?_ ?_
 ·rintro i σ e hi ⟨b,y,rfl⟩;rw[b];cbv;refine⟨(a.take i).uH.ok (a.get hi).bt (by omega),rfl,some<|.int<|d.getD i 0,?_⟩
  rw[take_snoc 0 hi,ic]
 ·rintro σ e ⟨b,y,rfl⟩;rw[b,sC];cbv;exact q
def Up(B:Bn mg)(D:Def K mg "circle_guess" fT)(Ff:Fn P w K mg base 1 "product" ["counts"] (Hj K)):Fn P w K mg base 2 "circle_guess" ["counts","hats","i"] (Qc K):=by
 have zY:DS (aj fT) ["counts","hats","i","wheel","arc","start","seen","lacking"] ["counts","hats","i"] ["product","sum","range","len"]:=aK;walk_at"hH";obtain⟨p,h,b,R,i,rfl,n,hh,a,r,hi,q⟩:=h;refine zW _ ⟨_,(ae (aZ S 3<|cE S 0 Ff hr<|aa<|kv S 0)
   (ae (aZ S 4<|aQ ba (kv S 3)<|RK (kv S 0)<|kv S 2)
   (ae (aZ S 5 (cq S 1 (cw hc rfl) B.sum boot_sum (aa (f9 S hc hsc (fB (qP (jK rfl) (kv S 0) bJ<|bK<|kv S 2) rfl) (N:=["count","wheel"]) (W:=["count"]) (G:=[]) (fv:=[none,some 3]) Dk0 λF C I s H d=>⟨(kg d 0),aY,(aQ ba (kv d 1)<|kv d 0)⟩))))
   (ae (aZ S 6 (cq S 1 (cw hc rfl) B.sum boot_sum (aa (f9 S hc hsc (fj S 2 B.range<|aa<|cq S 3 (av rfl) B.len kb<|aa<|kv S 0) (N:=["j","i","hats","wheel","counts"]) (W:=["j"]) (G:=[]) (fv:=[none,some 2,some 1,some 3,some 0]) Dk0 λF C I s H d=>⟨(kg d 0),(c7<|aM iY (kv d 0) (kv d 1)<|ao _),(aQ dv (jL (fE rfl) (kv d 2) (kv d 0) λ_ _=>rfl)<|aQ ba (kv d 3)<|jL (fE rfl) (kv d 4) (kv d 0) λ_ _=>rfl)⟩))))
   (ae (aZ S 7<|aQ dk (aQ cK (kv S 5)<|kv S 6)<|kv S 3)
   (ai<|aH<|aQ dk (aQ ba (aQ cK (aQ aW (kv S 7)<|kv S 4) ax)<|kv S 4)<|RK (kv S 0)<|kv S 2)))))),?_⟩
 cbv;refine⟨p,b,rfl,n,a,?_⟩;cbv;refine dP n rfl hi ?_;have z:=Hl a hi;cbv;refine⟨z,?_⟩;refine uE i n rfl hi λs x=>?_;have t:ag H (upd H s<|.tup<|(b.take i).map V.int):=ag.new x _;refine UM (λ_=>true) (λj=>pr b / (b.take i).getD j 0) (aL.of af) (aB (by have:=(a.take i).len;omega)) ?_ ?_
 ·intro j Q A O hj y u _;cbv;exact⟨Hl (a.take i) hj,u rfl _<|ag.refl _⟩
 intro J H1 hn y g;rw[bz,L2.map_getD (b.take i) λc=>pr b / c]at g;refine i9 (aw.of g) ?_;rw[show((b.take i).map λc=>pr b / c).sum=bQ (pr b) (b.take i)from rfl]
 have m:=t.trans y;cbv;refine aI (.inr<|m.aP n) ?_;rw[b5];refine LD b.length (λj=>decide<|¬j=i) (λj=>R.getD j 0*(pr b / b.getD j 0)) rfl (by have:=a.len;omega) ?_ ?_
 ·intro j Q A O hj v u T;cbv;rw[Qd]
  by_cases f:j=i
  ·rw[dt (not_not_intro f)];cbv;exact T (by rw[dt (not_not_intro f)]) _<|ag.refl _
  ·rw[cc f];cbv;have e:=m.trans v;refine dP (e.aP hh) rfl (by rw[r.len];exact hj) ?_
   refine dP (e.aP n) rfl hj ?_;cbv;exact⟨Hl a hj,(r.bt j hj).ok (Of a hj) a_,u (cc f) _<|ag.refl _⟩
 intro E M L e l;refine i9 (aw.of l) ?_;cbv;have o:=m.trans e;have U:=zI a.pos hi;refine⟨by have:=a.g7;omega,⟨by omega,(Of a hi).log (by omega) a_⟩,?_⟩
 refine dP (o.aP n) rfl hi ?_;cbv;exact⟨z.1,q M o⟩
def Uq(B:Bn mg)(D:Def K mg "group_guess" gQ)(vY:Fn P w K mg base 1 "ring_guess" ["many","i","seen"] S7)(lU:Fn P w K mg base 1 "picked" ["values","people"] (lD K))(qv:Fn P w K mg base 2 "circle_guess" ["counts","hats","i"] (Qc K)):Fn P w K mg base 3 "group_guess" ["counts","groups","hats","i"] (Qr K):=by
 have zY:DS (aj gQ) ["counts","groups","hats","i","kind","people","place"] ["counts","groups","hats","i"] ["circle_guess","ring_guess","picked","len"]:=aK;walk_at"hH";obtain⟨c,g,hb,v,y,ws,us,L,i,rfl,C,M,O,hh,r,hn,go,hi,q⟩:=h;refine zW _ ⟨_,(ae (dq hxe hc (fB (kv S 1) rfl) (pf hc (K:=X.K) (n:=2) rfl<|aV (kg S 4)<|aV (kg S 5) dN) (ai (cM (aM (zB rfl) (kv S 3) (kv S 5) (by with_unfolding_all rfl)) (ae (aZ S 6<|VH PySem.F.plainAttrs_tuple slot_tuple_index PySem.F.type_tuple_index (Ac rfl) rfl (kv S 5)<|aa<|kv S 3)
   (ae (cM (aM aR (kv S 4) br<|ao _) (ai<|aH<|cE S 1 vY hr<|ak (cq S 3 (av rfl) B.len kb<|aa<|kv S 5)<|ak (kv S 6)<|aa<|RK (kv S 2)<|RK (kv S 5)<|aQ dk (aQ aW (kv S 6) ax)<|cq S 3 (av rfl) B.len kb<|aa<|kv S 5) az)
   (ai<|aH<|cE S 0 qv hr<|ak (cE S 2 lU hr<|ak (kv S 0)<|aa<|kv S 5)<|ak (cE S 2 lU hr<|ak (kv S 2)<|aa<|kv S 5)<|aa<|kv S 6))) az)))
   (ai<|aH ax)),?_⟩
 cbv;refine Qq (Tc X.K H c g hb L i) M O ⟨ag.refl _,λt N=>absurd N<|sU t,_,_,_,rfl⟩ (λk σ H' h=>⟨h.1.aP M,O.mono h.1⟩) ?_ ?_
 ·rintro k u p σ H1 hk o z ⟨j,f,y1,Z,R,rfl⟩;have s:=go.each u<|ih hk;have d:u.2.length<=8:=gr (cI s.nd s.lt) r.len;cbv;refine pw (a:=u.2) (.inr o) ?_
  by_cases hm:i∈u.2
  ·have Y:=Ae f hk hm;have eq:ip v L y i=Cm v y u i:=by unfold ip;rw[Y]
   rw[eq]at q;obtain⟨b,l⟩:=u;have hm:i∈l:=hm;have G:=r3 hm;rw[cc hm];cbv;refine⟨⟨p,rfl,z⟩,p,au l,(i:Int),rfl,rfl,o,ou.mpr hm,?_⟩;rw[Cg];cbv;have e:decide (kd b="ring")=b:=uX b
   (try simp only[sP,wU])
   (try simp only[e])
   (try simp only[show(kd b=("ring":Str))=(b=true)from propext ⟨λh=>by cases b<;>first|rfl|exact absurd h a_,λh=>by rw[h];rfl⟩])
   cases b with
   |true=>
    simp only[if_true];cbv;refine aI (.inr o) ?_;refine aI (.inr o) ?_;rw[b5,ah];cbv;refine⟨by omega,?_⟩
    have m:(l.idxOf i+1)%l.length<l.length:=mod_lt _ (by omega)
    have I:l.getD ((l.idxOf i+1)%l.length) 0<v.length:=s.lt _<|aX m;refine dP (k:=(l.idxOf i+1)%l.length) o (by rw[natCast_emod,natCast_add];rfl) (by rw[ah];exact m) ?_
    rw[aA];refine dP (j.aP hh) rfl (by rw[hn.1];exact I) ?_
    exact⟨l.length,l.idxOf i,_,rfl,by omega,q H1 j⟩
   |false=>
    simp only[Bool.false_eq_true,if_false];cbv;refine⟨c,p,v,l,rfl,j.aP C,o,s.lt,d,λt1 H2 J E=>?_⟩;refine⟨hb,p,y,l,rfl,(j.trans J).aP hh,J.aP o,λx hx=>by rw[hn.1];exact s.lt x hx,d,λT H3 Q A=>?_⟩
    refine⟨t1,T,pk v l,pk y l,l.idxOf i,rfl,aL.of<|Q _ _ E,aL.of A,HE r (g:=(false,l)) ⟨s.lt,d⟩,Md r hn s.lt,by rw[jg];exact G,λW U=>?_⟩
    exact q W<|j.trans<|J.trans<|Q.trans U
  ·rw[dt hm];cbv;refine⟨j,λt N x hx=>?_,_,_,_,rfl⟩
   by_cases e:t=k
   ·subst e;rw[hk]at hx
    cases hx
    exact hm
   ·exact f t (by omega) x hx
 ·rintro σ H1 ⟨j,f,y1,Z,R,rfl⟩;cbv
  have:=q H1 j
  unfold ip at this;rw[Ad f]at this;exact this
def Bi(B:Bn mg)(D:Def K mg "are_hats" kN):Fn P w K mg base 1 "are_hats" ["counts","hats"] (IG K):=by
 have zY:DS (aj kN) ["counts","hats"] ["counts","hats"] ["all","len","zip"]:=aK;walk_at"hH";obtain⟨c,hb,i,a,rfl,d,hh,r,q⟩:=h;refine zW _ ⟨_,(ai (aH (ku (fi aR (cq S 1 (av rfl) B.len kb<|aa<|kv S 1) (cq S 1 (av rfl) B.len kb<|aa<|kv S 0)<|ao _) (pe (cq S 0 (cU hc rfl) B.all boot_all (aa (f9 S hc hsc (UP false false S 2 B.zip rfl<|ak (kv S 1)<|aa<|kv S 0) (N:=["colour","count"]) (W:=["colour","count"]) (G:=[]) (fv:=[none,none]) Dk0 λo C p s H f=>⟨(pf rfl (K:=X.K) (n:=2) rfl<|aV (kg f 0)<|aV (kg f 1) dN),aY,(zC k9 iZ ax (kv f 0)<|kv f 1)⟩))))))),?_⟩
 cbv;refine aI (.inr hh) ?_;refine aI (.inr d) ?_;rw[b5,b5];simp only[B0,wU]
 by_cases e:a.length=i.length
 ·rw[e,cc rfl];cbv;refine Q2 _ (λk=>.bl<|decide (0<=a.getD k 0)&&decide (a.getD k 0<i.getD k 0)) hh d (dy _) (Nat.le_of_eq e) (.inl<|dy _) (aB (by omega)) ?_ ?_
  ·intro k H1 A hk l m;cbv
   have:=m H1<|ag.refl _
   by_cases g:0<=a.getD k 0
   ·rw[cc g,nq]at this;rw[if_pos g];exact this
   ·rw[dt g,qs]at this;rw[if_neg g];exact this
  ·intro j H1 hn l b;refine⟨j,(List.range a.length).map λk=>decide (0<=a.getD k 0)&&decide (a.getD k 0<i.getD k 0),rfl,aw.of (by rw[b,k6];rfl),?_⟩
   have:=q H1 l
   unfold iR at this;rw[cc e,nq]at this;rw[F8,e];exact this
 ·rw[dt (by omega)]
  cbv
  have:=q H<|ag.refl _
  unfold iR at this;rw[dt e,qs]at this;exact this
variable{ay:Addr}
def Ke(B:Bn mg)(aS:eU K mg "Hall" ay ["counts","groups","worn"])(D:qX K ay "__init__" "Hall.__init__" fu)(rE:Fn P w K mg base 4 "group_fault" ["counts","web","groups"] (pK K)):qY P w K mg base 5 ay "__init__" ["self","counts","web","groups"] (xX K ay):=by
 have zY:DS (aj fu) ["self","counts","web","groups"] ["self","counts","web","groups"] ["group_fault","NoGroups","len"]:=aK;walk_at"hH";obtain⟨x,a,c,w,g,r,H,J,L,rfl,u,i,Q,G,N,y,M,s,A,O,q⟩:=h;refine zW _ ⟨_,(ae (cM (aM xb (cE S 0 rE hr<|ak (kv S 1)<|ak (kv S 2)<|aa<|kv S 3) pd<|ao _) (ai iQ) az)
   (ae (RH aS (kv S 0)<|kv S 1)
   (ae (RH aS (kv S 0)<|kv S 3)
   (ai<|RH aS (kv S 0)<|aQ (IB rfl) (uB<|aa ax)<|cq S 2 (av rfl) B.len kb<|aa<|kv S 1)))),?_⟩
 cbv;refine⟨c,w,g,r,H,J,L,rfl,i,Q,G,N,y,M,s,A,λH1 j=>?_⟩
 cases E:FA r H [] 0 L with
 |some k=>
  show pq (.int (k:Int)) .bE H1 _;cbv;exact O (by rw[E];exact λz=>nomatch z) H1 j
 |none=>
  show pq .bE .bE H1 _;cbv;have b:=j _ _ u;have e:=j.aP i;refine⟨x,a,[],rfl,b,a_,x,a,OG c,rfl,af,by show 1<_;decide,a_,λp o=>?_⟩
  rw[Eh,Ei,Kz]at o ⊢;have f:upd H1 x (.ins ay a<|FC c g) x=some (.ins ay a<|FC c g):=af;have v:Off x H1 (upd H1 x<|.ins ay a<|FC c g):=Off.upd;have l:=e.dS v b;generalize upd H1 x (.ins ay a<|FC c g)=H2 at o f v l ⊢;have C:=ag.new o<|.tup [.int 0];refine aI (.inr<|C.aP l) ?_;rw[b5];refine⟨p,r.length,_,rfl,rfl,aL.of af,by omega,λn t F hn=>?_⟩
  have m:=F _ _<|C _ _ f;refine⟨x,a,_,rfl,m,by show 2<_;decide,?_⟩
  rw[MA];have I:Off x t (upd t x<|.ins ay a<|yS c g n):=Off.upd;have d:Off x H1 (upd t x<|.ins ay a<|yS c g n):=v.trans<|(C.trans F).ke.trans I;refine q E _ (j.ke.trans d) ⟨⟨a,n,af,?_⟩,e.dS d b,(j.aP G).dS d b⟩;rw[List.map_replicate];exact hn.dS I m
def Bj(B:Bn mg)(aS:eU K mg "Hall" ay ["counts","groups","worn"])(D:qX K ay "put_all" "Hall.put_all" fY)(Bx:Fn P w K mg base 1 "are_hats" ["counts","hats"] (IG K)):qY P w K mg base 2 ay "put_all" ["self","hats"] (tN K ay):=by
 have zY:DS (aj fY) ["self","hats"] ["self","hats"] ["are_hats","NoHats"]:=aK;walk_at"hH";obtain⟨a,hb,c,g,j,r,m,t,rfl,i,hh,f,s,q⟩:=h;obtain⟨e,n,l,hn⟩:=i.ex;refine zW _ ⟨_,(ae (cM (qR<|mj<|cE S 0 Bx hr<|ak (xN aS<|kv S 0)<|aa<|kv S 1) (ai iQ) az)
   (ai<|RH aS (kv S 0)<|kv S 1)),?_⟩
 cbv;refine⟨a,e,_,_,rfl,l,mI,c,hb,j,m,rfl,i.RN,hh,f,λH1 d=>?_⟩;cbv
 cases p:iR j m with
 |false=>
  cbv;exact s p H1 d
 |true=>
  cbv;have b:=d _ _ l;refine⟨a,e,_,rfl,b,by show 3<_;decide,?_⟩
  rw[IH];have o:Off a H1 (upd H1 a<|.ins ay e<|yS c g hb):=Off.upd;exact q p _ (d.ke.trans o)<|i.off (d.ke.trans o) ⟨e,af⟩<|(d.aP hh).dS o b
def Np(B:Bn mg)(aS:eU K mg "Hall" ay ["counts","groups","worn"])(D:qX K ay "put" "Hall.put" kQ)(qw:qY P w K mg base 2 ay "put_all" ["self","hats"] (tN K ay)):qY P w K mg base 3 ay "put" ["self","i","colour"] (CJ K ay):=by
 have zY:DS (aj kQ) ["self","i","colour"] ["self","i","colour"] ["NoName","len"]:=aK;walk_at"hH";obtain⟨a,c,g,A,b,J,i,d,rfl,r,Q,v,F,E,q⟩:=h;obtain⟨m,n,l,hn⟩:=r.ex;refine zW _ ⟨_,(ae (cM (qR<|zD k9 iZ ax (kv S 1)<|cq S 1 (av rfl) B.len kb<|aa<|xN aS<|kv S 0) (ai iQ) az)
   (ai<|fC<|ID aS qw gj hr (kv S 0)<|aa<|aQ (i7 rfl) (aQ (i7 rfl) (qP (jK rfl) (xN aS<|kv S 0) bJ<|bK<|kv S 1)<|uB<|aa<|kv S 2)<|qP (jK rfl) (xN aS<|kv S 0) (bK<|aQ aW (kv S 1) ax) bJ)),?_⟩
 cbv;refine bT (λj=>?_) λj=>F (λz=>j z.1) H<|ag.refl _;refine⟨a,m,_,_,rfl,l,mI,?_⟩;refine aI (.inr r.RN) ?_;rw[b5];cbv
 by_cases h1:i<(A.length:Int)
 ·rw[cc h1];cbv;obtain⟨k,rfl⟩:∃k:Nat,i=(k:Int):=⟨i.toNat,by omega⟩
  have hk:k<b.length:=by omega
  rw[k4]at E q;refine⟨a,m,_,rfl,l,xO,a,m,_,_,rfl,l,oC,?_⟩;refine uE k hn rfl (by omega) λZ s=>?_
  have O:=ag.new s<|.tup<|(b.take k).map V.int;cbv;refine⟨a_,λX p=>?_⟩
  have G:=ag.new p<|.tup [.int d];refine uG (ns:=b.take k) (ms:=[d]) (aL.of<|G _ _ af) (aL.of af) (c8 (by rw[ri];show _+1<=100;omega)) λY H3 U R=>?_
  have e:=O.trans<|G.trans U;have x:=e _ _ l;refine⟨a,m,_,_,rfl,x,oC,?_⟩;refine uF k (e.aP hn) (by omega) (by omega) λt4 o=>?_
  have C:=ag.new o<|.tup<|(b.drop<|k+1).map V.int;refine uG (ns:=b.take k++[d]) (ms:=b.drop<|k+1) (C.aP R) (aL.of af) (c8 (by rw[eR,ri,nt];show _+1+_<=100;omega)) λM W T y=>?_
  have f:=e.trans<|C.trans T;have L:b.take k++[d]++b.drop (k+1)=b.set k d:=by
   rw[List.set_eq_take_append_cons_drop,if_pos hk,qE];rfl
  rw[L]at y;exact⟨a,M,c,g,A,b,b.set k d,J,rfl,r.mono f,y,v,λz u N=>E ⟨j,h1⟩ z u<|f.trans N,λz u I t=>q ⟨j,h1⟩ z u (f.ke.trans I) t⟩
 ·rw[dt h1];cbv;exact F (λz=>h1 z.2) H<|ag.refl _
def ET(B:Bn mg)(aS:eU K mg "Hall" ay ["counts","groups","worn"])(D:qX K ay "guess" "Hall.guess" iL)(rF:Fn P w K mg base 3 "group_guess" ["counts","groups","hats","i"] (Qr K)):qY P w K mg base 4 ay "guess" ["self","i"] (lJ K ay):=by
 have zY:DS (aj iL) ["self","i"] ["self","i"] ["group_guess"]:=aK;walk_at"hH";obtain⟨a,c,g,l,p,r,m,L,i,rfl,d,s,f,o,j,hi,q⟩:=h;obtain⟨e,n,b,hn⟩:=d.ex;refine zW _ ⟨_,(ai<|aH<|cE S 0 rF hr<|ak (xN aS<|kv S 0)<|ak (xN aS<|kv S 0)<|ak (xN aS<|kv S 0)<|aa<|kv S 1),?_⟩;cbv;exact⟨a,e,_,_,rfl,b,mI,a,e,_,_,rfl,b,tL,a,e,_,_,rfl,b,oC,c,g,n,l,p,r,m,L,i,rfl,d.RN,d.UE,s,hn,f,o,j,hi,q⟩
def tX(K:Frag)(C:Addr):Sp:=λb H Q _=>∃(a c g:Addr) (cs hs:e_) (ws:d_) (us:u_) (L:B0L),b=[.ref a]/\cW K C H a c g cs us hs/\GF K H us L/\cj cs/\HN cs hs cs.length/\jV cs ws L/\∀(l:Addr) (H':Hp),ag H H'->H l=none->H' l=some (.lst<|(au<|cS cs hs L).map V.int)->Q (.ref l) H'
def EU(B:Bn mg)(aS:eU K mg "Hall" ay ["counts","groups","worn"])(D:qX K ay "right" "Hall.right" iM)(iO:qY P w K mg base 4 ay "guess" ["self","i"] (lJ K ay)):qY P w K mg base 5 ay "right" ["self"] (tX K ay):=by
 have zY:DS (aj iM) ["self"] ["self"] ["enumerate"]:=aK;walk_at"hH";obtain⟨a,c,g,o,j,I,F,L,rfl,u,J,f,l,z,q⟩:=h;obtain⟨y,n,x,hn⟩:=u.ex;refine zW _ ⟨_,(ai (aH (f9 S hc hsc (Jt false S 0 B.enumerate rfl<|aa<|xN aS<|kv S 0) (N:=["i","colour","self"]) (W:=["i","colour"]) (G:=[]) (fv:=[none,none,some 0]) Dk0 λQ C R s H d=>⟨(pf rfl (K:=X.K) (n:=2) rfl<|aV (kg d 0)<|aV (kg d 1) dN),(c7<|aM aR (ID aS iO gj hr (kv d 2)<|aa<|kv d 0) (kv d 1)<|ao _),(kv d 0)⟩))),?_⟩
 cbv;refine⟨a,y,_,_,rfl,x,oC,?_⟩;refine T3 (λi=>decide<|ip o L j i=j.getD i 0) (λi=>(i:Int)) hn (by rw[l.1];exact aB (by have:=f.len;omega)) ?_ ?_
 ·intro i H1 A T hi m p O;rw[l.1]at hi;cbv;refine⟨a,y,_,rfl,m _ _ x,xO,a,c,g,o,j,I,F,L,i,rfl,u.mono m,J.mono m,f,l,z,hi,λv t=>?_⟩;cbv
  by_cases e:ip o L j i=j.getD i 0
  ·rw[if_pos e];exact p (cc e) v t
  ·rw[if_neg e];exact O (dt e) v t
 ·intro r H1 E M b;rw[l.1]at b;exact q r H1 M E b
def Nq(D:Def K mg "fits" Be)(hX:Fn P w K mg base 1 "is_name" ["word"] lF)(kS:Fn P w K mg base 1 "is_count" ["word"] mB):Fn P w K mg base 2 "fits" ["part","word"] Jk:=by
 have zY:DS (aj Be) ["part","word"] ["part","word"] ["is_name","is_count"]:=aK;walk_at"hH";obtain⟨p,z,rfl,hz,q⟩:=h;unfold tM at q;refine zW _ ⟨_,(ae (cM (aM aR (kv S 0) br<|ao _) (ai<|aH<|cE S 0 hX hr<|aa<|kv S 1) az)
   (ai<|aH<|V2 (fi aR (kv S 1) br<|ao _)<|pe<|cE S 1 kS hr<|aa<|kv S 1)),?_⟩
 cbv;refine bT (λc=>?_) λc=>?_
 ·rw[if_pos c]at q;exact⟨z,rfl,hz,q⟩
 ·rw[if_neg c]at q;refine bT (λa=>?_) λa=>?_
  ·rw[cc a,Bool.true_or]at q;exact q H<|ag.refl _
  ·rw[dt a,Bool.false_or]at q;exact⟨z,rfl,hz,q⟩
variable{aF:Addr}{eF:Nat->Addr}
def Kf(B:Bn mg)(FT:vx P w K mg aF eF)(D:Def K mg "is_ask" qi)(Rw:Fn P w K mg base 2 "fits" ["part","word"] Jk):Fn P w K mg base 3 "is_ask" ["words"] (vA K eF):=by
 have zY:DS (aj qi) ["words","form","behind"] ["words"] ["FORMS","all","len","zip"]:=aK;walk_at"hH";obtain⟨p,x,g,f,b,rfl,l,o,hx,r,L,hz,t,d,q⟩:=h;refine zW _ ⟨_,(ae (cM (TR FT.RL (fL<|kv S 0) (TN S 0 FT.gl) (by with_unfolding_all rfl)) (ai<|aH wW) az)
   (ae (aZ S 1<|TQ FT.RL (TN S 0 FT.gl)<|fL<|kv S 0)
   (ae (aZ S 2<|qP (c5 rfl) (kv S 0) (bK ax) bJ)
   (ai (aH (ku (fi aR (cq S 2 (av rfl) B.len kb<|aa<|kv S 2) (cq S 2 (av rfl) B.len kb<|aa<|kv S 1)<|ao _) (pe (cq S 1 (cU hc rfl) B.all boot_all (aa (f9 S hc hsc (UP false true S 3 B.zip rfl<|ak (kv S 1)<|aa<|kv S 2) (N:=["part","word"]) (W:=["part","word"]) (G:=["fits"]) (fv:=[none,none]) Dk0 λJ C M s H e=>⟨(pf rfl (K:=X.K) (n:=2) rfl<|aV (kg e 0)<|aV (kg e 1) dN),aY,(cE e 0 Rw hr<|ak (kv e 0)<|aa<|kv e 1)⟩)))))))))),?_⟩
 cbv;refine aD (i:=((0:Nat):Int)) l (aG rfl) ?_;refine⟨.inr g,trivial,rfl,?_⟩;rw[o];cbv;rw[if_neg (by simp)]
 refine aD (i:=((0:Nat):Int)) l (aG rfl) ?_;refine⟨.inr g,_,trivial,rfl,o,?_⟩;refine⟨p,_,rfl,l,λa E=>?_⟩;rw[show(some (1:Int))=some ((1:Nat):Int)from rfl,dE,<-Wo]
 have z:=ag.new E<|.lst<|b.map V.str;refine aI (.inl<|aw.of af) ?_;refine aI (.inr<|d _) ?_;rw[b5,b5];simp only[B0,wU];rw[if_pos (cc (by show((b.length:Nat):Int)=_;rw[r]))]
 refine Vu (λ_=>.bl true) (d _) (aw.of af) (by rw[b5,b5];exact r.symm) (by rw[b5];exact aB (by omega)) ?_ ?_
 ·intro i H1 A hi I u;rw[b5]at hi;have j:i<((g::b).drop 1).length:=by show i<b.length;omega
  rw[show(f.map V.str).getD i .bE=.str (f.getD i bo) by rw[b3,bb hi];rfl,show(((g::b).drop 1).map V.str).getD i .bE=.str (b.getD i bo) by rw[b3,bb j];rfl]
  cbv;refine⟨_,_,rfl,hz _ (getD_memS (show i<b.length by omega)),λy F=>?_⟩
  rw[t i hi];exact u y F
 ·intro m H1 hn v c;refine⟨m,(List.range (f.map V.str).length).map λ_=>true,rfl,aw.of (by rw[c,k6];rfl),?_⟩
  rw[show((List.range (f.map V.str).length).map λ_=>true).all id=true from ka.mpr λx hx=>by obtain⟨_,_,rfl⟩:=gh.mp hx;rfl]
  exact q H1<|z.trans v
def Rm(B:Bn mg)(D:Def K mg "number_of" jx):Fn P w K mg base 1 "number_of" ["names","name"] (Jm K):=by
 have zY:DS (aj jx) ["names","name"] ["names","name"] ["NoName"]:=aK;walk_at"hH";obtain⟨p,c,z,rfl,a,b,d,q⟩:=h;refine zW _ ⟨_,(ae (cM (aM (dD rfl) (kv S 1) (kv S 0) (by with_unfolding_all rfl)) (ai iQ) az)
   (ai<|aH<|VH PySem.F.plainAttrs_tuple slot_tuple_index PySem.F.type_tuple_index (AE rfl) rfl (kv S 0)<|aa<|kv S 1)),?_⟩
 cbv;refine vh (neg:=true) (.inr a) ?_
 by_cases m:z∈c
 ·rw[if_pos rfl,cc m];cbv;exact⟨⟨p,rfl,b⟩,p,c,z,rfl,rfl,a,m,q m H<|ag.refl _⟩
 ·rw[if_pos rfl,dt m];cbv;exact d m H<|ag.refl _
def EV(B:Bn mg)(D:Def K mg "named" lS):Fn P w K mg base 1 "named" ["names","people"] (p0 K):=by
 have zY:DS (aj lS) ["names","people"] ["names","people"] ["len"]:=aK;walk_at"hH";obtain⟨p,f,v,l,rfl,m,J,g,q⟩:=h;refine zW _ ⟨_,(ae (cM (wt<|Lw (aM oo (kv S 1) pd<|ao _)<|uC<|aM aR (cq S 0 (av rfl) B.len kb<|aa<|kv S 1) ax<|ao _) (ai<|aH<|dM bw) az)
   (ai (aH (dM (aa (kY yP SC Wh (cJ rfl) rfl br (aa (f9 S hc hsc (fB (kv S 1) rfl) (N:=["i","names"]) (W:=["i"]) (G:=[]) (fv:=[none,some 0]) Dk0 λO C Q s H o=>⟨(kg o 0),aY,(jL (fE rfl) (kv o 1) (kv o 0) λ_ _=>rfl)⟩)))))))),?_⟩
 rcases J with ⟨rfl,rfl⟩|⟨a,rfl,r⟩
 ·cbv;refine⟨a_,λt d=>?_⟩
  exact q t _ (ag.new d _) d af
 ·cbv;refine aI (.inr r) ?_;rw[b5,ah];cbv;refine bT (λc=>?_) λc=>?_
  ·have e:l=[]:=FS.mp (by omega)
   subst e;refine⟨a_,λt d=>?_⟩
   exact q t _ (ag.new d _) d af
  ·have e:l≠[]:=λz=>c (by rw[z];rfl)
   cbv;refine⟨rfl,a,rfl,⟨_,r⟩,wu (i6 r) (λ_=>true) (λi=>.str<|f.getD (l.getD i 0) bo) (by rw[b5,ah];exact aB (by have:=g.fJ;omega)) ?_ ?_⟩
   ·intro i H1 A R hi E L _;rw[b5,ah]at hi;rw[jQ hi];cbv;refine bB (E.aP m) (aG<|bb<|g.lt _<|g9 hi) ?_;exact L rfl _<|ag.refl _
   intro n H1 hn x b;rw[bz,b5,ah,c9 λj=>V.str<|f.getD j bo,show(l.map λj=>V.str<|f.getD j bo)=(l.map λj=>f.getD j bo).map V.str by rw[k6];rfl]at b
   have y:=namesW g;have I:=g.fJ;have h1:=fK 32 12 _ y;have M:=jj 12 _ y;rw[b5]at h1 M;have u:(1000:Nat)<=sizeLine:=by decide
   refine⟨_,n,l.map λj=>f.getD j bo,rfl,rfl,aw.of b,?_,?_,?_⟩
   ·rw[cA];show((l.map λj=>f.getD j bo).map λz=>z.length+1).sum<=_
    omega
   ·rw[cA];omega
   rw[cA];refine⟨a_,λt d=>?_⟩
   refine q t _ (x.trans<|ag.new d _) (x.free d) ?_;rw[af];unfold dI;rw[if_neg e];rfl
def EW(B:Bn mg)(D:Def K mg "named" lS):Fn P w K mg base 1 "named" ["names","people"] (p4 K):=by
 have zY:DS (aj lS) ["names","people"] ["names","people"] ["len"]:=aK;walk_at"hH";obtain⟨p,a,d,l,rfl,m,r,g,q⟩:=h;refine zW _ ⟨_,(ae (cM (wt<|Lw (aM oo (kv S 1) pd<|ao _)<|uC<|aM aR (cq S 0 (av rfl) B.len kb<|aa<|kv S 1) ax<|ao _) (ai<|aH<|dM bw) az)
   (ai (aH (dM (aa (kY yP SC Wh (cJ rfl) rfl br (aa (f9 S hc hsc (bA (kv S 1) rfl) (N:=["i","names"]) (W:=["i"]) (G:=[]) (fv:=[none,some 0]) Dk0 λL C M s H o=>⟨(kg o 0),aY,(jL (fE rfl) (kv o 1) (kv o 0) λ_ _=>rfl)⟩)))))))),?_⟩
 cbv;refine aI (.inl r) ?_;rw[b5,ah];cbv;refine bT (λc=>?_) λc=>?_
 ·have e:l=[]:=FS.mp (by omega)
  subst e;refine⟨a_,λt f=>?_⟩
  exact q t _ (ag.new f _) f af
 ·have e:l≠[]:=λz=>c (by rw[z];rfl)
  cbv;refine⟨rfl,a,rfl,⟨_,r⟩,wu (df r) (λ_=>true) (λi=>.str<|d.getD (l.getD i 0) bo) (by rw[b5,ah];exact aB (by have:=g.fJ;omega)) ?_ ?_⟩
  ·intro i H1 A O hi y I _;rw[b5,ah]at hi;rw[jQ hi];cbv;refine bB (y.aP m) (aG<|bb<|g.lt _<|g9 hi) ?_;exact I rfl _<|ag.refl _
  intro n H1 hn v b;rw[bz,b5,ah,c9 λj=>V.str<|d.getD j bo,show(l.map λj=>V.str<|d.getD j bo)=(l.map λj=>d.getD j bo).map V.str by rw[k6];rfl]at b
  have x:=namesW g;have E:=g.fJ;have h1:=fK 32 12 _ x;have J:=jj 12 _ x;rw[b5]at h1 J;have u:(1000:Nat)<=sizeLine:=by decide
  refine⟨_,n,l.map λj=>d.getD j bo,rfl,rfl,aw.of b,?_,?_,?_⟩
  ·rw[cA];show((l.map λj=>d.getD j bo).map λz=>z.length+1).sum<=_
   omega
  ·rw[cA];omega
  rw[cA];refine⟨a_,λt f=>?_⟩
  refine q t _ (v.trans<|ag.new f _) (v.free f) ?_;rw[af];unfold dI;rw[if_neg e];rfl
def Nr(D:Def K mg "shown_share" gX)(vU:Fn P w K mg base 2 "share" ["counts"] (uJ K)):Fn P w K mg base 3 "shown_share" ["counts"] (Jl K):=by
 have zY:DS (aj gX) ["counts","told","over","under"] ["counts"] ["share"]:=aK;walk_at"hH";obtain⟨p,b,rfl,e,a,q⟩:=h;refine zW _ ⟨_,(ae (aZ S 1<|cE S 0 vU hr<|aa<|kv S 0)
   (ae (aZ S 2<|mT<|kv S 1)
   (ae (aZ S 3<|mT<|kv S 1)
   (ai<|aH<|TF<|vp (TC<|kv S 2)<|vp br<|vp (TC<|kv S 3) QM)))),?_⟩
 cbv;refine⟨p,b,rfl,e,a,λt H1 j d=>?_⟩;refine bB (i:=((0:Nat):Int)) (aL.of d) (aG rfl) ?_;refine bB (i:=((1:Nat):Int)) (aL.of d) (aG rfl) ?_;obtain⟨l,f⟩:=cO (zM a) (zN a) a_
 obtain⟨m,g⟩:=cO (show 0<=Kv b by have:=ph a;omega) (uI a) a_
 have c:(1000:Nat)<=sizeLine:=by decide
 have n:("/":Str).length=1:=by decide +kernel
 have le:∀i,(Str.ofString<|toString i)=cX i:=λ_=>rfl;cbv;refine .inr ⟨_,rfl,f,_,rfl,?_,?_⟩
 ·rw[le,empty_app];omega
 cbv;refine⟨_,rfl,?_,?_⟩
 ·rw[le,empty_app,aT];omega
 refine .inr ⟨_,rfl,g,_,rfl,?_,?_⟩
 ·rw[le,le,empty_app,aT,aT];omega
 cbv;refine⟨?_,?_⟩
 ·rw[le,le,empty_app,aT,aT];omega
 rw[le,le,empty_app];exact q H1 j
def rn:DS (aj iK) ["book","names","rows","i","mask","seen"] ["book"] ["zip","enumerate","places"]:=aK
def EX(D:Def K mg "shown_book" iK):Fn P w K mg base 2 "shown_book" ["book"] (λ_ _ _ _=>False):=by
 refine D.gq rn (λ_ _ _ _ _ _ e d=>by obtain⟨_,rfl⟩:=Q0 d;rfl) (λa H Q E h=>?_) ?_
 ·exact h.elim
 intro X S i e2 l j g hc b c f hu H a Q E h;exact h.elim
def EY(B:Bn mg)(D:Def K mg "told_of" m7)(jF:Fn P w K mg base 5 "made_sure" ["counts","groups"] (uZ K))(rG:Fn P w K mg base 3 "shown_share" ["counts"] (Jl K))(oQ:Fn P w K mg base 1 "named" ["names","people"] (p0 K))(iN:Fn P w K mg base 3 "sight_ring" ["web"] (CG K))(rH:Fn P w K mg base 3 "sight_order" ["web"] (SV K))(vZ:Fn P w K mg base 2 "shown_book" ["book"] (λ_ _ _ _=>False))(nh:Fn P w K mg base 1 "rows_of" ["text"] Ap):Fn P w K mg base 6 "told_of" ["book","groups","ask"] (vD K):=by
 have zY:DS (aj m7) ["book","groups","ask","names","counts","web"] ["book","groups","ask"] ["str","made_sure","shown_share","named","sight_ring","sight_order","rows_of","shown_book"]:=aK;walk_at"hH";obtain⟨b,g,x,v,E,N,L,hs,k,rfl,n,hb,y,R,D,q⟩:=h;obtain⟨X,Z,Y,A,h1,O,H,I⟩:=id hb;have P:=D.Br;have u:=P.p5;have G:=P.nm.fJ;refine zW _ ⟨_,(ae (aZ S 3<|mT<|kv S 0)
   (ae (aZ S 4<|mT<|kv S 0)
   (ae (aZ S 5<|mT<|kv S 0)
   (ae (cM (aM aR (kv S 2) br<|ao _) (ai<|aH<|dM<|aa<|jM S 0 bX B.str boot_str<|aa<|cE S 1 jF hr<|ak (kv S 4)<|aa<|kv S 1) az)
   (ae (cM (aM aR (kv S 2) br<|ao _) (ai<|aH<|dM<|aa<|cE S 2 rG hr<|aa<|kv S 4) az)
   (ae (cM (aM aR (kv S 2) br<|ao _) (ai iQ) az)
   (ae (cM (aM aR (kv S 2) br<|ao _) (ai<|aH<|cE S 3 oQ hr<|ak (kv S 3)<|aa<|cE S 4 iN hr<|aa<|kv S 5) az)
   (ae (cM (aM aR (kv S 2) br<|ao _) (ai<|aH<|cE S 3 oQ hr<|ak (kv S 3)<|aa<|cE S 5 rH hr<|aa<|kv S 5) az)
   (ai<|aH<|cE S 6 nh hr<|aa<|cE S 7 vZ hr<|aa<|kv S 0))))))))),?_⟩
 walk_at"i";refine bB (i:=((0:Nat):Int)) A (aG rfl) ?_;walk_at"i";refine bB (i:=((1:Nat):Int)) A (aG rfl) ?_;walk_at"i";refine bB (i:=((2:Nat):Int)) A (aG rfl) ?_;lia;have T:∀g∈L,HD (au v).length g:=λg y=>⟨(D.best.1.each g y).ok.lt,D.g8 g y⟩;have M:=D.fJ
 cases k with
 |sure=>
  walk_at"h";rw[if_pos (show qF .sure=("sure":Str)from rfl)]
  refine⟨_,_,_,N,L,rfl,H,y,R.gl,u,T,by omega,λH1 d=>?_⟩
  have F:=D.best.1.sum;have C:0<=(L.map<|iT<|au v).sum:=D.best.1.nn;have Q:(L.map<|xn<|au v).sum=(L.map<|iT<|au v).sum:=rfl;rw[Q];lia;obtain⟨W,U⟩:=cO C (D.CK) a_
  refine⟨_,rfl,U,?_⟩;lia;refine⟨a_,λt s=>?_⟩
  exact q t _ _ (d.trans<|ag.new s _) (d.free s) af rfl
 |share=>
  walk_at"h";rw[if_neg (show ¬qF .share=("sure":Str) by decide)]
  walk_at"h";rw[if_pos (show qF .share=("share":Str)from rfl)]
  refine⟨_,_,rfl,H,u,λH1 d=>?_⟩;lia;refine⟨a_,λt s=>?_⟩
  exact q t _ _ (d.trans<|ag.new s _) (d.free s) af rfl
 |groups=>exact(show False from n).elim
 |ring=>
  walk_at"h";rw[if_neg (show ¬qF .ring=("sure":Str) by decide)]
  walk_at"h";rw[if_neg (show ¬qF .ring=("share":Str) by decide)]
  walk_at"h";rw[if_neg (show ¬qF .ring=("groups":Str) by decide)]
  walk_at"h";rw[if_pos (show qF .ring=("ring":Str)from rfl)]
  refine⟨_,E,rfl,I,by rw[P.lw];exact G,P.OK,λH1 d=>⟨λc=>?_,λc r J o l oc od p=>?_⟩⟩
  ·exact⟨_,x,_,[],rfl,d.aP h1,.inl ⟨rfl,rfl⟩,⟨P.OL,(λ_ z=>nomatch z),zero_le _⟩,λa j f m e=>q a _ j (d.trans f) (d.free m) e<|.inl ⟨c,rfl⟩⟩
  ·exact⟨_,x,_,J,rfl,d.aP h1,.inr ⟨r,rfl,.inl<|.inr ⟨o,l⟩⟩,CL P p,λa j f m e=>q a _ j (d.trans f) (d.free m) e<|.inr ⟨c,J,p,rfl⟩⟩
 |order=>
  walk_at"h";rw[if_neg (show ¬qF .order=("sure":Str) by decide)]
  walk_at"h";rw[if_neg (show ¬qF .order=("share":Str) by decide)]
  walk_at"h";rw[if_neg (show ¬qF .order=("groups":Str) by decide)]
  walk_at"h";rw[if_neg (show ¬qF .order=("ring":Str) by decide)]
  walk_at"h";rw[if_pos (show qF .order=("order":Str)from rfl)]
  refine⟨_,E,rfl,I,by rw[P.lw];exact G,λH1 d=>⟨λc=>?_,λc r l=>?_⟩⟩
  ·exact⟨_,x,_,[],rfl,d.aP h1,.inl ⟨rfl,rfl⟩,⟨P.OL,(λ_ z=>nomatch z),zero_le _⟩,λa j f m e=>q a _ j (d.trans f) (d.free m) e<|.inl ⟨c,rfl⟩⟩
  ·exact⟨_,x,_,laidOut E,rfl,d.aP h1,.inr ⟨r,rfl,aL.of l⟩,kF P,λa j f m e=>q a _ j (d.trans f) (d.free m) e<|.inr ⟨c,rfl⟩⟩
 |book=>exact(show False from n).elim
def m9:DS (aj bS) ["self","text","counts","web"] ["self","text"] ["read_book","Hall","best_groups"]:=aK
def ng:bindM "__init__" "Desk.__init__" bS "self" "text":=λT kV a b d c ct u v=>⟨⟨_,by with_unfolding_all rfl,λ_=>by with_unfolding_all rfl⟩,⟨_,by with_unfolding_all rfl,λ_=>by with_unfolding_all rfl⟩⟩
variable{aE:Addr}
def Kg(B:Bn mg)(aS:eU K mg "Hall" ay ["counts","groups","worn"])(bp:eU K mg "Desk" aE ["book","hall"])(D:xU K aE "__init__" "Desk.__init__" bS "")(yy:Fn P w K mg base 4 "read_book" ["text"] (vz K))(rJ:Fn P w K mg base 7 "best_groups" ["counts","web"] (QZ K))(nW:qY P w K mg base 5 ay "__init__" ["self","counts","web","groups"] (xX K ay)):MG P w K mg base 8 aE "__init__" "self" "text" "" (oI K ay aE):=by
 refine D.gq m9 ng (by walk_at"hL") ?_
 walk_at"hI";obtain⟨x,l,M,ns,d,G,rfl,hx,hM,Z,hb,P,q⟩:=h;refine zW _ ⟨_,(ae (RH bp (kv S 0)<|cE S 0 yy hr<|aa<|kv S 1)
   (ae (aZ S 2<|mT<|xN bp<|kv S 0)
   (ae (aZ S 3<|mT<|xN bp<|kv S 0)
   (ai<|RH bp (kv S 0)<|V5 S 1 aS nW gj hr<|ak (kv S 2)<|ak (kv S 3)<|aa<|cE S 2 rJ hr<|ak (kv S 2)<|aa<|kv S 3)))),?_⟩
 walk_at"i";refine⟨M,_,rfl,hM,Z,hb,λt H1 F ht=>?_⟩;have p:=F _ _ hx;lia;refine⟨x,l,[],rfl,p,a_,?_⟩
 rw[MJ];have s:Off x H1 (upd H1 x<|.ins aE l<|xV t):=Off.upd;have a:upd H1 x (.ins aE l<|xV t) x=some (.ins aE l<|xV t):=af;have o:=ht.dS s p;generalize upd H1 x (.ins aE l<|xV t)=H2 at s a o ⊢;obtain⟨a1,a2,a3,h0,h1,h1t,h2,h3⟩:=id o;walk_at"i";refine tQ (a) xW ?_;refine bB (i:=((1:Nat):Int)) h0 (aG rfl) ?_;walk_at"i";refine tQ (a) xW ?_;refine bB (i:=((2:Nat):Int)) h0 (aG rfl) ?_;lia;have r:=P.p5;have A:G.length=(au d).length:=by rw[P.lw,P.len]
 refine⟨_,_,au d,G,rfl,h2,h3,r,A,P.OK,λg Q L J N hg hL hB=>?_⟩;intro y m hy W Y;have h8:=P.nm.fJ;have D:bD ns d G L (List.replicate d.length 0):=by
  refine⟨P,hB,?_⟩;rw[show(List.replicate d.length (0:Int))=List.replicate (au d).length 0 by rw[ah]]
  exact HN.QP r.pos
 have v:ag J (upd (upd J m<|.own y) y<|.ins ay m []):=(ag.new W _).trans (ag.new (by rw[aC (Ne.symm Y)];exact hy) _)
 have f:upd (upd J m<|.own y) y (.ins ay m []) y=some (.ins ay m []):=af;generalize upd (upd J m<|.own y) y (.ins ay m [])=H4 at v f ⊢;have c:=N.trans v;refine⟨y,m,_,_,g,au d,G,Q,gI L,rfl,f,c.aP h2,c.aP h3,v.aP hg,(hL.mono v).gi,A,by rw[P.len];exact h8,?_,by rw[QQ];have:=D.fJ;omega,λz=>absurd (Jn hB.1) z,λ_ E I hH=>⟨rfl,?_⟩⟩
 ·intro z hz;unfold gI at hz;obtain⟨g0,T,rfl⟩:=gh.mp hz
  have:=D.g8 g0 T
  show(au g0.2).length<=30;rw[ah];omega
 have ab:=c _ _ a;have yx:y≠x:=λe=>by
  have:=N _ _ a
  rw[<-e,hy]at this;cases this
 have j:=I x _ yx.symm ab;refine⟨x,l,_,rfl,j,by show 1<_;decide,?_⟩
 rw[MK];have C:Off x E (upd E x<|.ins aE l<|MI t y):=Off.upd;have hbk:=((o.mono c).dS I f).dS C j;have U:=((hL.mono v).dS I f).dS C j;have o16:Off x H (upd E x<|.ins aE l<|MI t y):=λb u n e=>by
  have e4:=c _ _<|s b u n<|F _ _ e;have O:b≠y:=λz=>by
   have:=N _ _<|s b u n<|F _ _ e
   rw[z,hy]at this;cases this
  exact C b u n<|I b u O e4
 have R:cW X.K ay E y a2 g (au d) Q (List.replicate d.length 0):=by rw[ah]at hH;exact hH
 have hyH:H y=none:=by
  cases e:H y with
  |none=>rfl
  |some u=>
   have:=N _ _<|s y u yx<|F _ _ e
   rw[hy]at this;cases this
 exact q _ y L o16 hyH ⟨⟨l,t,af,hbk⟩,_,g,Q,R.Vv C j yx,U⟩ D
def Rn(B:Bn mg)(aS:eU K mg "Hall" ay ["counts","groups","worn"])(bp:eU K mg "Desk" aE ["book","hall"])(FT:vx P w K mg aF eF)(D:qX K aE "ask" "Desk.ask" kR)(Kp:Fn P w K mg base 3 "is_ask" ["words"] (vA K eF))(nP:Fn P w K mg base 1 "number_of" ["names","name"] (Jm K))(By:qY P w K mg base 3 ay "put" ["self","i","colour"] (CJ K ay))(iO:qY P w K mg base 4 ay "guess" ["self","i"] (lJ K ay))(v5:qY P w K mg base 5 ay "right" ["self"] (tX K ay))(oQ:Fn P w K mg base 1 "named" ["names","people"] (p4 K))(Fg:Fn P w K mg base 6 "told_of" ["book","groups","ask"] (vD K)):qY P w K mg base 7 aE "ask" ["self","line"] (iC K ay aE):=by
 have zY:DS (aj kR) ["self","line","words","names"] ["self","line"] ["is_ask","NoAsk","number_of","int","str","named","told_of"]:=aK;walk_at"hH";obtain⟨d,I,r,N,ws,L,Z,a,rfl,hD,D,a5,q⟩:=h;have ha:=MP a5;have P:=D.Br;have h8:=P.nm.fJ;have A:=P.p5;obtain⟨w1,w2,w3⟩:=Et P ha;obtain⟨⟨dx,b,hd,hb⟩,c,g,U,hH,hL⟩:=id hD;obtain⟨a1,a2,a3,h0,h1,a0,h2,h3⟩:=id hb;have R:=eD 32 w1 λx hx=>(w2 x hx).1;have hjl:=fK 32 30 _ λx hx=>(w2 x hx).2;have hj3:(jZ r a).length*31<=3*31:=AC _ w3;have hbig:(1000:Nat)<=sizeLine:=by decide
 refine zW _ ⟨_,(ae (aZ S 2<|kY yP KF type_str_split dh rfl (kv S 1)<|aa br)
   (ae (cM (qR<|mj<|cE S 0 Kp hr<|aa<|kv S 2) (ai iQ) az)
   (ae (aZ S 3<|mT<|xN bp<|kv S 0)
   (ae (cM (aM aR (fL<|kv S 2) br<|ao _) (ae (fC<|ID aS By gj hr (xN bp<|kv S 0)<|ak (cE S 2 nP hr<|ak (kv S 3)<|aa<|fL<|kv S 2)<|aa<|jM S 3 iq B.int boot_int<|aa<|fL<|kv S 2)
   (ai<|aH<|dM bw)) az)
   (ae (cM (aM aR (fL<|kv S 2) br<|ao _) (ai<|aH<|dM<|aa<|jM S 4 bX B.str boot_str<|aa<|ID aS iO gj hr (xN bp<|kv S 0)<|aa<|cE S 2 nP hr<|ak (kv S 3)<|aa<|fL<|kv S 2) az)
   (ae (cM (aM aR (fL<|kv S 2) br<|ao _) (ai<|aH<|cE S 5 oQ hr<|ak (kv S 3)<|aa<|Vm aS v5 gj hr<|xN bp<|kv S 0) az)
   (ai<|aH<|cE S 6 Fg hr<|ak (xN bp<|kv S 0)<|ak (xN aS<|xN bp<|kv S 0)<|aa<|fL<|kv S 2))))))),?_⟩
 walk_at"i";rw[cA];refine⟨rfl,_,_,rfl,rfl,a_,by omega,by rw[R];omega,λp hp0=>?_⟩
 rw[R];have s1:=ag.new hp0<|.lst<|(jZ r a).map V.str;have y:upd H p (.lst<|(jZ r a).map V.str) p=some (.lst<|(jZ r a).map V.str):=af;generalize upd H p (.lst<|(jZ r a).map V.str)=H1 at s1 y ⊢;walk_at"i";obtain⟨fx,w0,ff,fb,ew,hv,f1,f2,f3,f4,f5⟩:=Jp FT P ha;refine⟨p,fx,w0,ff,fb,rfl,aw.of (by rw[y,ew]),hv,f5 _,f1,f2,f3,f4,f5,λH2 s2=>?_⟩
 have f:=s1.trans s2;have hD2:=hD.mono f;have s:=f _ _ hd;have m:aw X.K H2 p ((jZ r a).map V.str):=aw.of<|s2 _ _ y;have J:=hH.mono f;obtain⟨hdx,n,hh,hn⟩:=J.ex;clear y hv f1 f2 f3 f4 f5 ew R hjl hj3 w1 w2 w3;walk_at"i";refine tQ (s) CI ?_;refine bB (i:=((0:Nat):Int)) (f.aP h0) (aG rfl) ?_;walk_at"i";have zK:=zH
 cases a with
 |told k=>
  have zH:=zK;obtain⟨n1,n2,n3,_,_⟩:=AI k;refine aD (i:=((0:Nat):Int)) m (aG rfl) ?_;lia;rw[if_neg n1];walk_at"h";refine aD (i:=((0:Nat):Int)) m (aG rfl) ?_;lia;rw[if_neg n2];walk_at"h";refine aD (i:=((0:Nat):Int)) m (aG rfl) ?_;lia;rw[if_neg n3];lia;refine⟨d,dx,_,_,rfl,s,CI,d,dx,_,_,rfl,s,oF,I,hdx,_,_,rfl,hh,tL,?_⟩;refine aD (i:=((0:Nat):Int)) m (aG rfl) ?_;exact⟨b,g,r,N,ws,U,L,Z,k,rfl,a5,hb.mono f,J.UE,hL.mono f,D,λl W H3 C a4 G v=>q l W H3 (f.trans C) (f.free a4) G v⟩
 |right=>
  have zH:=zK;refine aD (i:=((0:Nat):Int)) m (aG rfl) ?_;lia;rw[if_neg a_]
  walk_at"h";refine aD (i:=((0:Nat):Int)) m (aG rfl) ?_;lia;rw[if_neg a_]
  walk_at"h";refine aD (i:=((0:Nat):Int)) m (aG rfl) ?_;lia;refine tQ (s) oF<|kl (hh) xO ?_;refine⟨I,_,g,au N,Z,ws,U,L,rfl,J,hL.mono f,A,D.f7,D.AG,λl H3 C a4 G=>?_⟩;have j:=f.trans C;exact⟨_,l,r,_,rfl,j.aP h1,aw.of G,tO P,λa T s4 ha0 ha1=>q a T (j.trans s4) (j.free ha0) ha1⟩
 |fD i=>
  have zH:=zK;have hi:i<r.length:=ha;have Q:i<(au N).length:=by rw[P.len];exact hi
  have hm:r.getD i bo∈r:=getD_memS hi;have M:r.idxOf (r.getD i bo)=i:=by
   rw[b3,b4 hi];exact P.nm.nd.idxOf_getElem i hi
  refine aD (i:=((0:Nat):Int)) m (aG rfl) ?_;lia;rw[if_neg a_]
  walk_at"h";refine aD (i:=((0:Nat):Int)) m (aG rfl) ?_;lia;refine tQ (s) oF<|kl (hh) xO ?_;refine aD (i:=((1:Nat):Int)) m (aG rfl) ?_;refine⟨_,r,_,rfl,f.aP h1,a0.mono f,λz=>absurd hm z,λ_ H3 C=>?_⟩;rw[M];have j:=f.trans C;refine⟨I,_,g,au N,Z,ws,U,L,i,rfl,hH.mono j,hL.mono j,A,D.f7,D.AG,Q,λT s4=>?_⟩;obtain⟨g1,g2⟩:=Q4 A D.f7 D.AG Q;refine⟨_,rfl,(cO g1 g2 a_).2,?_⟩
  lia;refine⟨a_,λt v=>?_⟩
  have a6:=j.trans s4;exact q t _ (a6.trans<|ag.new v _) (a6.free v) af
 |put i E=>
  have zH:=zK;obtain⟨hi,Y⟩:i<r.length/\E<10 ^ 30:=ha;have Q:i<(au N).length:=by rw[P.len];exact hi
  have hm:r.getD i bo∈r:=getD_memS hi;have M:r.idxOf (r.getD i bo)=i:=by
   rw[b3,b4 hi];exact P.nm.nd.idxOf_getElem i hi
  obtain⟨_,c2,_,c4⟩:=jn Y;refine aD (i:=((0:Nat):Int)) m (aG rfl) ?_;walk_at"i";refine tQ (s) oF<|kl (hh) xO ?_;refine aD (i:=((1:Nat):Int)) m (aG rfl) ?_;refine⟨_,r,_,rfl,f.aP h1,a0.mono f,λz=>absurd hm z,λ_ H3 C=>?_⟩;rw[M];have j:=f.trans C;refine aD (i:=((2:Nat):Int)) (C.seq m) (aG rfl) ?_;refine⟨_,_,rfl,c2,by omega,?_⟩
  refine⟨I,c,g,au N,Z,U,(i:Int),(E:Int),rfl,hH.mono j,D.f7.1,by have:=A.len;omega,λz=>absurd ⟨Int.natCast_nonneg i,by omega⟩ z,λ_ z T s4=>?_,λ_ z T o4 O=>?_⟩
  ·rw[k4]at z;rw[q.1]at z;cases z
  ·rw[k4]at z O;lia;refine⟨a_,λt v=>?_⟩
   obtain⟨hx0,n0,hh0,_⟩:=hH.ex;have ab:=j _ _ hh0;obtain⟨hx4,n4,hh4,_⟩:=O.ex;have hdn:=hD.ne;have st:=ag.new v<|.lst [];have o:Off I H T:=λb u ne e=>o4 b u ne<|j _ _ e;have htn:H t=none:=by
    cases e:H t with
    |none=>rfl
    |some u=>
     by_cases z:t=I
     ·rw[z,hh4]at v;cases v
     ·rw[o t u z e]at v;cases v
   have hD4:bZ X.K ay aE T d I r N ws L (Z.set i (E:Int)):=⟨⟨dx,b,o d _ hdn hd,(hb.mono j).dS o4 ab⟩,c,g,U,O,(hL.mono j).dS o4 ab⟩;exact q.2 t _ (λb u ne e=>st _ _<|o b u ne e) htn af<|hD4.mono st
def EZ(B:Bn mg)(D:Def K mg "_law_draws" jy):Fn P w K mg base 1 "_law_draws" ["cell","count"] lG:=by
 have zY:DS (aj jy) ["cell","count","number","drawn","k"] ["cell","count"] ["range"]:=aK;walk_at"hH";obtain⟨e,n,rfl,hn,q⟩:=h;refine zW _ ⟨_,(ae (aZ S 2<|b9<|Cc<|aQ aW (b9<|kv S 0) ax)
   (ae (aZ S 3<|dM bw)
   (ae (dq hxe hc (fj S 0 B.range<|aa<|kv S 1) (kg S 4) (ae (aZ S 2<|b9<|Cc<|kv S 2)
   (ai<|fC<|kY rr oq pS cu rfl (kv S 3)<|aa<|Cb<|b9<|aQ dv (kv S 2)<|kv S 2)))
   (ai<|aH<|kv S 3)))),?_⟩
 cbv;refine⟨a_,λl i=>?_⟩
 refine forR n (Tn H e n l) rfl (by omega) ⟨_,[],_,rfl,ag.new i _,af,rfl,(λx hx=>nomatch hx)⟩ ?_ ?_
 ·walk_at"fo";rintro k σ H1 hk ⟨c,g,y,rfl,f,b,a,d⟩;walk_at"fg";cbv;have j:=Fo (c*45742) (show(2147483543:Int)≠0 by decide)
  have h1:=wh (c*45742) (show(0:Int)<2147483543 by decide)
  generalize c*45742%2147483543=nm at j h1 ⊢;refine⟨.inl ⟨rfl,_,aw.of b⟩,uy (by omega) (by omega),?_⟩
  refine⟨l,_,_,rfl,rfl,b,by rw[b5];exact aB (by omega),?_⟩
  refine⟨_,g++[nm*nm%2147483579 / 7],_,rfl,f.set i _,by rw[af,hU];rfl,by rw[eR,a];rfl,λx hx=>?_⟩
  rcases j6.mp hx with z|z
  ·exact d x z
  ·rw[eG.mp z];omega
 ·rintro σ H1 ⟨c,g,y,rfl,f,b,a,d⟩;cbv;exact q l g H1 f i b a d
def Kh(B:Bn mg)(D:Def K mg "_law_fresh" jz):Fn P w K mg base 1 "_law_fresh" ["number","size"] Cr:=by
 have zY:DS (aj jz) ["number","size","letters","name","k"] ["number","size"] ["range"]:=aK;walk_at"hH";obtain⟨b,n,rfl,hn,q⟩:=h;refine zW _ ⟨_,(ae (aZ S 2 br)
   (ae (aZ S 3 br)
   (ae (dq hxe hc (fj S 0 B.range<|aa<|kv S 1) (kg S 4) (ae (aZ S 0<|b9<|aQ aW (Cc<|kv S 0) ax)
   (ai<|aZ S 3<|aQ bu (kv S 3)<|jL zo (kv S 2) (b9<|Cb<|kv S 0) λ_ _=>rfl)))
   (ai<|aH<|kv S 3)))),?_⟩
 cbv;refine forR n (To H n) rfl (by omega) ⟨_,_,_,rfl,rfl,rfl,(λc hc=>nomatch hc)⟩ ?_ ?_
 ·walk_at"fo";rintro k σ H1 hk ⟨b,z,y,rfl,rfl,hz,a⟩;walk_at"fg";cbv;obtain⟨c,e,d⟩:=Ia (i:=(b*48271+11)%2147483647 / 23%26) (by omega) (by omega)
  refine⟨my,_,c,rfl,rfl,Dk0,e,?_⟩
  refine⟨_,_,rfl,rfl,?_,?_⟩
  ·show z.length+1<=sizeLine
   have:(100:Nat)<=sizeLine:=by decide
   omega
  ·exact⟨_,z++⟨#[c]⟩,_,rfl,rfl,by rw[aT,hz];rfl,a.append d⟩
 ·rintro σ H1 ⟨b,z,y,rfl,rfl,hz,a⟩;cbv;exact q z hz a
def Bl{A B:TS}{D:Ends}{σ:L2.St}{H:Hp}(I:L2.St->r_)(h2:∀σ' H',I σ' H'->B D σ' H')(h1:∀R:L2.St->r_,(∀σ' H',I σ' H'->R σ' H')->A {D with nx:=R} σ H):oS A B D σ H:=h1 (B D) h2
def ee{dn:e_}{H:Hp}{dr:Addr}{i:Int}{m:Nat}{Q:VK}(hd:H dr=some (.lst<|dn.map V.int))(hl:dn.length=m)(hnn:∀x∈dn,0<=x)(h0:0<=i)(h1:i<m)(q:∀x:Int,0<=x->Q (.int x) H):wL K (.ref dr) (.int i) H Q:=by
 obtain⟨m,rfl⟩:=rV h0;have hm:m<dn.length:=by omega
 exact aD (aw.of hd) (aG (by rw[ed,b4 hm];rfl))<|q _<|hnn _<|kf hm
def Ki(H0:Hp)(cell:Int)(n:Nat)(sm dr:Addr)(base:Str)(a:Nat)(l:Addr)(dn:e_)(k:Nat)(σ:L2.St)(H:Hp):Prop:=∃(ns:f_) (name:Str) (y3 y4:v_),σ=[some (.int cell),some<|.int n,some<|.str my,some<|.ref sm,some<|.ref dr,some<|.str base,some<|.int a,some<|.ref l,some<|.int k,some<|.str name,y3,y4]/\ag H0 H/\H l=some (.lst<|ns.map V.str)/\H sm=some (.lst<|nL.map V.str)/\H dr=some (.lst<|dn.map V.int)/\Mm ns k/\(1<=k->ns≠[])/\bI name=true
theorem Nt{ns:f_}{k:Nat}{x:Str}(h:Mm ns k)(hx:bI x=true)(hn:x∉ns):Mm (ns++[x]) (k+1) where
 fJ:=by rw[eR];have:=h.fJ;simp;omega
 nd:=We.mpr ⟨h.nd,by simp,λa c b hb=>by rw[eG.mp hb];rintro rfl;exact hn c⟩
 nm:=λy hy=>by
  rcases j6.mp hy with z|z
  ·exact h.nm y z
  ·rw[eG.mp z];exact hx
def qp{ns:f_}{k m:Nat}(h:Mm ns k)(hk:k<=m):Mm ns m:=⟨gr h.fJ hk,h.nd,h.nm⟩
def FD:Str:="abcdefghijkl"
def Kj:jW FD:=by
 have h:∀c∈cz FD,HX c=true:=by decide +kernel
 exact h
def vP:FD.length=12:=by decide +kernel
def Kk(B:Bn mg)(D:Def K mg "_law_names" jA)(de:Fn P w K mg base 1 "_law_draws" ["cell","count"] lG)(nQ:Fn P w K mg base 1 "_law_fresh" ["number","size"] Cr):Fn P w K mg base 2 "_law_names" ["cell","size"] xY:=by
 have zY:DS (aj jA) ["cell","size","letters","some","drawn","base","at","names","k","name","sign","width"] ["cell","size"] ["_law_draws","_law_fresh","len","range"]:=aK;walk_at"hH";obtain⟨s,n,rfl,hn,q⟩:=h;refine zW _ ⟨_,(ae (aZ S 2 br)
   (ae (aZ S 3 (dM (Lv (ns:=["hat","sees","put","guess","right","ring","order","book","sure","share","groups"]) Dk0)))
   (ae (aZ S 3<|aQ (cR rfl) (kv S 3)<|dM<|ak br<|aa br)
   (ae (aZ S 4<|cE S 0 de hr<|ak (kv S 0)<|aa ax)
   (ae (aZ S 5<|cE S 1 nQ hr<|ak (fL<|kv S 4)<|aa<|aQ aW ax<|b9<|fL<|kv S 4)
   (ae (aZ S 6<|aQ dk (fL<|kv S 4)<|cq S 2 ib B.len kb<|aa<|kv S 5)
   (ae (aZ S 7<|dM bw)
   (ae (dq hxe hc (fj S 3 B.range<|aa<|kv S 1) (kg S 8) (ae (aZ S 9<|cE S 1 nQ hr<|ak (fI (kv S 4)<|aQ aW ax<|kv S 8)<|aa<|aQ aW ax<|b9<|fI (kv S 4)<|aQ aW ax<|kv S 8)
   (ae (cM (aM iZ (b9<|fL<|kv S 4) ax<|ao _) (ae (aZ S 10 (jL zo (kv S 2) (b9 (aQ aW (fL<|kv S 4) (aQ dv (kv S 8) (fI (dM (Cd (ns:=[1,3,5,7,9,11]) Dk0))<|b9<|fL<|kv S 4)))) λ_ _=>rfl))
   (ai<|aZ S 9<|aQ bu (aQ bu (qP vc (kv S 5) bJ<|bK<|kv S 6)<|kv S 10)<|qP vc (kv S 5) (bK<|aQ aW (kv S 6) ax) bJ)) az)
   (ae (cM (aM aR (b9<|fL<|kv S 4) ax<|ao _) (ai<|aZ S 9<|fI (kv S 3)<|b9<|aQ aW (fL<|kv S 4)<|N7<|kv S 8) az)
   (ae (cM (aM aR (b9<|fL<|kv S 4) ax<|ao _) (ae (aZ S 11<|aQ aW ax<|b9<|aQ aW (N7<|kv S 8)<|fL<|kv S 4)
   (ai<|aZ S 9<|fI (dM<|ak (qP vc (aQ bu (kv S 5) br) bJ<|bK<|kv S 11)<|aa<|qP vc (aQ bu br<|kv S 5) (bK<|N8 iX<|kv S 11) bJ)<|b9<|fL<|kv S 4)) az)
   (ai (cM (aM (dD rfl) (kv S 9) (kv S 7) (by with_unfolding_all rfl)) (ai<|fC<|kY rr oq pS cu rfl (kv S 7)<|aa<|kv S 9) az)))))))
   (ai<|aH<|kv S 7))))))))),?_⟩
 walk_at"i";walk_at"i";refine⟨a_,λs0 hs0=>?_⟩
 have a0:=ag.new hs0<|.lst [V.str "hat",V.str "sees",V.str "put",V.str "guess",V.str "right",V.str "ring",V.str "order",V.str "book",V.str "sure",V.str "share",V.str "groups"];walk_at"i";refine⟨a_,λs1 hs1=>?_⟩
 have a1:=ag.new hs1<|.lst [V.str "circle",V.str "hats"];refine⟨s0,s1,_,_,rfl,rfl,aw.of<|a1 _ _ af,aw.of af,a_,λsm hsm=>?_⟩
 have a2:=ag.new hsm<|.lst<|nL.map V.str;walk_at"i";have b0:=a0.trans<|a1.trans a2;have hsm':upd (upd (upd H s0<|.lst [V.str "hat",V.str "sees",V.str "put",V.str "guess",V.str "right",V.str "ring",V.str "order",V.str "book",V.str "sure",V.str "share",V.str "groups"]) s1<|.lst [V.str "circle",V.str "hats"]) sm (.lst<|nL.map V.str) sm=some (.lst<|nL.map V.str):=af;refine⟨s,40,rfl,a_,λdr dn H1 t1 hdr0 L hdn j=>?_⟩
 have b1:=b0.trans t1;have O:=t1 _ _ hsm';walk_at"i";refine ee L rfl j a_ (by omega) λx0 hx0=>?_
 refine ee L rfl j a_ (by omega) λx1 hx1=>?_
 lia;obtain⟨m,hm⟩:=rV (show 0<=1+x1%12 by omega)
 refine⟨x0,m,by rw[hm],by omega,λbase hbl J=>?_⟩
 walk_at"i";refine ee L rfl j a_ (by omega) λx2 hx2=>?_
 lia;refine⟨_,rfl,ox (by omega),?_⟩
 lia;refine⟨by omega,?_⟩
 have Q:=Fo x2 (show((base.length:Nat):Int)≠0 by omega)
 have X:=wh x2 (show(0:Int)<((base.length:Nat):Int) by omega)
 generalize x2%((base.length:Nat):Int)=am at Q X ⊢;obtain⟨a,rfl⟩:=rV Q;walk_at"i";refine⟨a_,λl hl=>?_⟩
 walk_at"i";have sl:=ag.new hl<|.lst [];refine forR n (Tp H s n sm dr base a l dn) rfl (by omega) ⟨[],_,_,_,_,rfl,b1.trans sl,af,sl _ _ O,sl _ _ L,⟨by simp,by simp,λx hx=>nomatch hx⟩,λz=>absurd z a_⟩ ?_ ?_
 ·walk_at"fo";rintro k σ H2 hk ⟨ns,y1,y2,y3,y4,rfl,I,f,d,b,g,r⟩;walk_at"fg";walk_at"i";refine ee b rfl j (by omega) (by omega) λx3 hx3=>?_
  lia;refine ee b rfl j (by omega) (by omega) λx4 hx4=>?_
  lia;obtain⟨m4,hm4⟩:=rV (show 0<=1+x4%12 by omega)
  refine⟨x3,m4,by rw[hm4],by omega,λp hbl' U=>?_⟩
  have G:=oy U (by omega) (by omega)
  lia;refine Bl (Ki H s n sm dr base a l dn k) ?_ (λR M=>?_)
  rotate_left
  ·lia;refine ee b rfl j a_ (by omega) λx5 hx5=>?_
   lia;refine bT (λc=>?_) λc=>M _ _ ⟨ns,p,_,_,rfl,I,f,d,b,g,r,G⟩;walk_at"i";refine ee b rfl j a_ (by omega) λZ hx6=>?_
   lia;refine⟨a_,λo ho=>?_⟩
   have A:=ag.new ho<|.lst [V.int 1,V.int 3,V.int 5,V.int 7,V.int 9,V.int 11];refine ee (A _ _ b) rfl j a_ (by omega) λx7 hx7=>?_
   lia;refine ee (dn:=[1,3,5,7,9,11]) (m:=6) af rfl a_ (by omega) (by omega) λx8 hx8=>?_
   lia;refine⟨uy (by omega) (by omega),?_⟩
   obtain⟨c',ec,hlc⟩:=Ia (i:=(Z+(k:Int)*x8)%26) (by omega) (by omega)
   refine⟨my,_,c',rfl,rfl,Dk0,ec,?_⟩
   lia;have h100:(1000:Nat)<=sizeLine:=by decide
   obtain⟨u,t⟩:∃u,StrLaws.sliceText base none (some (a:Int))=u:=⟨_,rfl⟩;obtain⟨v,E⟩:∃v,StrLaws.sliceText base (some ((a+1:Nat):Int)) none=v:=⟨_,rfl⟩;have y:=xA (x:=base) (k:=a) (by omega)
   have C:=Ai (x:=base) (k:=a+1) (by omega)
   rw[t]at y;rw[E]at C;have W:u.length=a:=by rw[aJ,y,ri,<-aJ];omega
   have hvl:v.length=base.length-(a+1):=by rw[aJ,C,nt,<-aJ]
   refine⟨base,rfl,by rw[t];omega,?_⟩
   rw[t];lia;refine⟨_,_,rfl,rfl,by rw[W];show a+1<=_;omega,?_⟩
   refine⟨base,rfl,by rw[show((a:Int)+1)=((a+1:Nat):Int)from rfl,E];omega,?_⟩
   rw[show((a:Int)+1)=((a+1:Nat):Int)from rfl,E]
   have Y:(u++(⟨#[c']⟩:Str)).length=a+1:=by rw[aT,W];rfl
   refine⟨_,_,rfl,rfl,by rw[Y];omega,?_⟩
   exact M _ _ ⟨ns,_,_,_,rfl,I.trans A,A _ _ f,A _ _ d,A _ _ b,g,r,oy (((xB J y).append hlc).append<|xC J C) (by rw[aT,Y];omega) (by rw[aT,Y];omega)⟩
  rintro σ3 H3 ⟨ns,p,y3,y4,rfl,I,f,d,b,g,r,G⟩;refine Bl (Ki H s n sm dr base a l dn k) ?_ (λR M=>?_)
  rotate_left
  ·lia;refine ee b rfl j a_ (by omega) λx5 hx5=>?_
   lia;refine bT (λc=>?_) λc=>M _ _ ⟨ns,p,_,_,rfl,I,f,d,b,g,r,G⟩;lia;refine ee b rfl j a_ (by omega) λZ hx6=>?_
   lia;obtain⟨m6,hm6⟩:=rV (show 0<=(Z+5*(k:Int))%13 by omega)
   have N:m6<nL.length:=by have:nL.length=13:=rfl;omega
   rw[hm6];refine aD (aw.of d) (aG<|bb N) ?_;exact M _ _ ⟨ns,_,_,_,rfl,I,f,d,b,g,r,Ib _<|getD_memS N⟩
  rintro σ3 H3 ⟨ns,p,y3,y4,rfl,I,f,d,b,g,r,G⟩;refine Bl (Ki H s n sm dr base a l dn k) ?_ (λR M=>?_)
  rotate_left
  ·lia;refine ee b rfl j a_ (by omega) λx5 hx5=>?_
   lia;refine bT (λc=>?_) λc=>M _ _ ⟨ns,p,_,_,rfl,I,f,d,b,g,r,G⟩;walk_at"i";refine ee b rfl j a_ (by omega) λZ hx6=>?_
   lia;have h0:0<=(5*(k:Int)+Z)%12:=by omega
   have h1:(5*(k:Int)+Z)%12<12:=by omega
   generalize (5*(k:Int)+Z)%12=wd at h0 h1 ⊢;obtain⟨T,rfl⟩:=rV h0;rw[show(1+(T:Int))=((1+T:Nat):Int)from rfl]
   have h100:(1000:Nat)<=sizeLine:=by decide
   have hb1:(base++FD).length=base.length+12:=by rw[aT,vP]
   have hb2:(FD++base).length=12+base.length:=by rw[aT,vP]
   obtain⟨u,t⟩:∃u,StrLaws.sliceText (base++FD) none (some ((1+T:Nat):Int))=u:=⟨_,rfl⟩;obtain⟨v,E⟩:∃v,StrLaws.sliceText (FD++base) (some (-((1+T:Nat):Int))) none=v:=⟨_,rfl⟩;have y:=xA (x:=base++FD) (k:=1+T) (by omega)
   have C:=Aj (x:=FD++base) (k:=1+T) (by omega) (by omega)
   rw[t]at y;rw[E]at C;have W:u.length=1+T:=by rw[aJ,y,ri,<-aJ];omega
   have hvl:v.length=1+T:=by rw[aJ,C,nt,<-aJ];omega
   refine⟨_,_,rfl,rfl,by rw[show("abcdefghijkl":Str)=FD from rfl,vP];omega,?_⟩
   refine⟨_,rfl,by rw[show("abcdefghijkl":Str)=FD from rfl,t];omega,?_⟩
   rw[show("abcdefghijkl":Str)=FD from rfl,t]
   lia;refine⟨_,_,rfl,rfl,by rw[vP];omega,?_⟩
   lia;refine⟨_,rfl,by rw[E];omega,?_⟩
   rw[E];lia;refine⟨a_,λo ho=>?_⟩
   have A:=ag.new ho<|.lst [V.str u,V.str v];refine ee (A _ _ b) rfl j a_ (by omega) λx7 hx7=>?_
   lia;have okU:=oy (xB (J.append Kj) y) (by omega) (by omega)
   have okV:=oy (xC (Kj.append J) C) (by omega) (by omega)
   rcases(show x7%2=0∨x7%2=1 by omega)with e|e
   ·rw[e];refine aD (i:=((0:Nat):Int)) (aw.of af) (aG rfl) ?_;exact M _ _ ⟨ns,_,_,_,rfl,I.trans A,A _ _ f,A _ _ d,A _ _ b,g,r,okU⟩
   ·rw[e];refine aD (i:=((1:Nat):Int)) (aw.of af) (aG rfl) ?_;exact M _ _ ⟨ns,_,_,_,rfl,I.trans A,A _ _ f,A _ _ d,A _ _ b,g,r,okV⟩
  rintro σ3 H3 ⟨ns,p,y3,y4,rfl,I,f,d,b,g,r,G⟩;lia;refine vh (.inl<|aw.of f) ?_;lia
  by_cases c:p∈ns
  ·rw[cc c];lia;exact⟨ns,_,_,_,_,rfl,I,f,d,b,qp g (by omega),λ_ z=>by rw[z]at c;exact nomatch c⟩
  ·rw[dt c];lia;refine⟨.inl ⟨rfl,_,aw.of f⟩,?_⟩;refine⟨l,_,_,rfl,rfl,f,by rw[b5];exact c8 (by have:=g.fJ;omega),?_⟩
   have hl0:H l=none:=b1.free hl;have ne1:sm≠l:=aO O hl;have ne2:dr≠l:=aO L hl;exact⟨ns++[p],_,_,_,_,rfl,I.set hl0 _,by rw[af,hU];rfl,by rw[aC ne1];exact d,by rw[aC ne2];exact b,Nt g G c,λ_=>by simp⟩
 ·rintro σ H2 ⟨ns,y1,y2,y3,y4,rfl,I,f,d,b,g,r⟩;lia;exact q l ns H2 I (b1.free hl) f g
def Ur{a b:Prop}[Decidable a][Decidable b]{x t:Prop}(hx:a->b->x)(ht:t):if a then(if b then x else t)else t:=by
 split
 ·split
  ·exact hx ‹_› ‹_›
  ·exact ht
 ·exact ht
def Kl(k:Nat):(1:Int)*2 ^ ((k:Nat):Int).toNat=((2 ^ k:Nat):Int):=by
 rw[WC,k4];exact(natCast_pow 2 k).symm
def yl{x i n:Nat}(h:i<n):x&&& (2 ^ i-1)<2 ^ n/\(x&&& (2 ^ i-1)).testBit i=false:=by
 rw[Nat.and_two_pow_sub_one_eq_mod];have h1:=mod_lt x<|r4 i;exact⟨Nat.lt_trans h1 (KM a_ h),Nat.testBit_lt_two_pow h1⟩
def Bm(B:Bn mg)(D:Def K mg "_law_sight" jC):Fn P w K mg base 1 "_law_sight" ["drawn","many","kind","i"] vC:=by
 have zY:DS (aj jC) ["drawn","many","kind","i","every","half","few"] ["drawn","many","kind","i"] []:=aK;walk_at"hH";obtain⟨a,v,b,s,i,rfl,f,g,d,h1,z,hi,q⟩:=h;refine zW _ ⟨_,(ae (aZ S 4<|aQ cK (aQ cK (aQ bW ax<|kv S 1) ax)<|aQ bW ax<|kv S 3)
   (ae (aZ S 5<|Cb<|kv S 1)
   (ae (cM (aM aR (kv S 2) ax<|ao _) (ai<|aH<|kv S 4) az)
   (ae (cM (aM aR (kv S 2) ax<|ao _) (ae (aZ S 6<|aQ eA (aQ eA (fI (kv S 0)<|kv S 3)<|fI (kv S 0)<|aQ aW ax<|kv S 3)<|fI (kv S 0)<|aQ aW ax<|kv S 3)
   (ai<|aH<|aQ eA (aQ BO (aQ bW ax<|aQ dk (aQ aW (kv S 3) ax)<|kv S 1)<|kv S 6)<|kv S 4)) az)
   (ae (cM (aM aR (kv S 2) ax<|ao _) (ai<|aH<|aQ eA (fI (kv S 0)<|kv S 3)<|aQ cK (aQ bW ax<|kv S 3) ax) az)
   (ae (cM (wt<|qQ (aM aR (kv S 2) ax<|ao _)<|lr<|aM iZ (kv S 3) (kv S 5)<|ao _) (ai<|aH<|aQ cK (aQ cK (aQ bW ax<|kv S 5) ax)<|aQ bW ax<|kv S 3) az)
   (ae (cM (aM aR (kv S 2) ax<|ao _) (ai<|aH<|aQ eA (aQ bW ax<|aQ aW (kv S 5)<|aQ dk (aQ aW (aQ cK (kv S 3)<|kv S 5) ax)<|aQ cK (kv S 1)<|kv S 5)<|kv S 4) az)
   (ae (cM (aM aR (kv S 2) ax<|ao _) (ai<|aH<|aQ eA (aQ eA (fI (kv S 0)<|kv S 3)<|fI (kv S 0)<|aQ aW ax<|kv S 3)<|kv S 4) az)
   (ai<|aH<|aQ eA (aQ BO (fI (kv S 0)<|kv S 3)<|fI (kv S 0)<|aQ aW ax<|kv S 3)<|kv S 4))))))))),?_⟩
 walk_at"i";refine⟨dY (by omega),dY (by omega),?_⟩
 rw[CN hi];obtain⟨l,m⟩:=AJ hi;have j:∀x:Nat,Q (.int ((x&&& (2 ^ b-1-2 ^ i):Nat):Int)) H:=λx=>q _ (CO l m).1 (CO l m).2;have r:=q _ l m;generalize 2 ^ b-1-2 ^ i=ev at r j ⊢;clear l m;walk_at"h";walk_at"h";refine bT (λ_=>r) λ_=>?_;walk_at"h";refine bT (λ_=>?_) λ_=>?_
 ·walk_at"h";refine da f g d (by omega) (by omega) λo=>?_
  refine da f g d (by omega) (by omega) λp=>?_
  lia;refine da f g d (by omega) (by omega) λA=>?_
  lia;rw[show((i:Int)+1)%(b:Int)=(((i+1)%b:Nat):Int) by rw[natCast_emod];rfl,Kl]
  have hm:(i+1)%b<b:=mod_lt _ h1;refine⟨by omega,dY (by omega),?_⟩
  rw[Vg,LH];exact j _
 walk_at"h";refine bT (λ_=>?_) λ_=>?_
 ·refine da f g d (by omega) (by omega) λo=>?_
  refine⟨dY (by omega),?_⟩
  rw[show((2 ^ i:Nat):Int)-1=((2 ^ i-1:Nat):Int) by have:=r4 i;omega]
  lia;exact q _ (yl hi).1 (yl hi).2
 walk_at"h";have e2:(b:Int) / 2=((b / 2:Nat):Int):=rfl;rw[e2]at *;refine Ur (λ_ c=>?_) ?_
 ·have c:i<b / 2:=by omega
  refine⟨dY (by omega),dY (by omega),?_⟩
  rw[Kl,CN c];have t:2 ^ (b / 2)<=2 ^ b:=oD a_<|Nat.div_le_self _ _
  exact q _ (g4 (AJ c).1 t) (AJ c).2
 walk_at"h";refine bT (λ_=>?_) λ_=>?_
 ·have e:(0:Int)<(b:Int)-((b / 2:Nat):Int):=by omega
  have u:=Fo ((i:Int)-((b / 2:Nat):Int)+1) (show(b:Int)-((b / 2:Nat):Int)≠0 by omega)
  have y:=wh ((i:Int)-((b / 2:Nat):Int)+1) e;obtain⟨n,hn⟩:=rV (show 0<=((b / 2:Nat):Int)+((i:Int)-((b / 2:Nat):Int)+1)%((b:Int)-((b / 2:Nat):Int)) by omega)
  refine⟨e,?_⟩;rw[hn,Kl,LH];exact⟨dY (by omega),j _⟩
 walk_at"h";refine bT (λ_=>?_) λ_=>?_
 ·refine da f g d (by omega) (by omega) λo=>?_
  refine da f g d (by omega) (by omega) λp=>?_
  lia;exact j _
 lia;refine da f g d (by omega) (by omega) λo=>?_
 refine da f g d (by omega) (by omega) λp=>?_
 lia;exact j _
def vQ:DS (aj jB) ["cell","k","drawn","kind"] ["cell","k"] ["_law_draws"]:=aK
def E7(D:Def K mg "_law_count" jB):Fn P w K mg base 2 "_law_count" ["cell","k"] (λ_ _ _ _=>False):=by
 refine D.gq vQ (λ_ _ _ _ _ _ e d=>by obtain⟨_,_,rfl⟩:=Q1 d;rfl) (λa H Q E h=>?_) ?_
 ·exact h.elim
 intro X S i e2 l j g hc b c f hu H a Q E h;exact h.elim
def Nu(B:Bn mg)(D:Def K mg "_law_hat_count" fo)(yz:Fn P w K mg base 2 "_law_count" ["cell","k"] (λ_ _ _ _=>False)):Fn P w K mg base 3 "_law_hat_count" ["drawn","kind","i"] qf:=by
 have zY:DS (aj fo) ["drawn","kind","i"] ["drawn","kind","i"] ["_law_count"]:=aK;walk_at"hH";obtain⟨a,n,f,i,rfl,c,d,b,hi,m,j,q⟩:=h;refine zW _ ⟨_,(ae (cM (aM aR (kv S 1) ax<|ao _) (ai<|aH ax) az)
   (ae (cM (aM aR (kv S 1) ax<|ao _) (ai<|aH<|aQ aW ax<|b9<|fI (kv S 0)<|kv S 2) az)
   (ae (cM (aM aR (kv S 1) ax<|ao _) (ai (aH (fI (dM (Cd (ns:=[2,2,3,2,4,1]) Dk0))<|b9<|fI (kv S 0)<|kv S 2))) az)
   (ai<|aH<|cE S 0 yz hr<|ak (fI (kv S 0)<|kv S 2)<|aa<|kv S 2)))),?_⟩
 cbv;refine bT (λ_=>q 2 H (ag.refl _) a_ a_) λo=>?_
 refine bT (λ_=>?_) λr=>?_
 ·refine da c d b (by omega) (by omega) λx=>?_
  cbv;exact q (1+x%6) H (ag.refl _) (by omega) (by omega)
 refine bT (λ_=>?_) λl=>?_
 ·refine⟨a_,λp g=>?_⟩
  have e:=ag.new g<|.lst [V.int 2,V.int 2,V.int 3,V.int 2,V.int 4,V.int 1];refine da (e _ _ c) d b (by omega) (by omega) λx=>?_
  cbv;have hm:x%6 < [2,2,3,2,4,1].length:=by show x%6<6;omega
  have hb:∀x∈[2,2,3,2,4,1],0<x/\x<=6:=by decide +kernel
  refine aD (i:=((x%6:Nat):Int)) (aw.of af) (aG (show((au [2,2,3,2,4,1]).map V.int)[x%6]?=some (.int (([2,2,3,2,4,1][x%6]'hm:Nat):Int)) by unfold au;rw[ed,ed,b4 hm];rfl)) ?_
  exact q _ _ e (hb _<|kf hm).1 (hb _<|kf hm).2
 ·refine da c d b (by omega) (by omega) λx=>?_
  exact absurd j (by omega)
def Us(H0:Hp)(a:Addr)(most kinds:Nat)(dr nm:Addr)(ns:f_)(ht:Addr)(x35:Nat)(ca sg wa tu o se:Addr)(k:Nat)(σ:L2.St)(H:Hp):Prop:=∃(ws:d_) (y14 y15 y16:v_),σ=[some (.ref a),some<|.int (most:Int),some<|.int (kinds:Int),some<|.ref dr,some<|.ref nm,some<|.int (ns.length:Int),some<|.ref ht,some<|.int<|(x35:Int)%6,some<|.ref ca,some<|.ref sg,some<|.ref wa,some<|.ref tu,some<|.ref o,some<|.ref se,y14,y15,y16]/\ag H0 H/\H se=some (.lst<|(au ws).map V.int)/\ws.length=k/\∀j,j<k->ws.getD j 0<2 ^ ns.length/\(ws.getD j 0).testBit j=false
def Bo(B:Bn mg)(D:Def K mg "_law_house" jD)(de:Fn P w K mg base 1 "_law_draws" ["cell","count"] lG)(yA:Fn P w K mg base 2 "_law_names" ["cell","size"] xY)(nX:Fn P w K mg base 3 "_law_hat_count" ["drawn","kind","i"] qf)(yB:Fn P w K mg base 1 "_law_sight" ["drawn","many","kind","i"] vC):Fn P w K mg base 4 "_law_house" ["cells","most","kinds"] (mS K):=by
 have zY:DS (aj jD) ["cells","most","kinds","drawn","names","many","hats","kind","counts","sights","web","turned","order","seen","i","mask","some"] ["cells","most","kinds"] ["_law_draws","_law_names","len","range","max","list","sum"]:=aK;walk_at"hH";obtain⟨a,xs,most,r,rfl,ha,hx3,m1,m8,k1,k3,q⟩:=h;obtain⟨c0,c1,c2,rfl⟩:∃c0 c1 c2,xs=[c0,c1,c2]:=by
  match xs,hx3 with
  | [c0,c1,c2],_=>exact⟨c0,c1,c2,rfl⟩
 refine zW _ ⟨_,(ae (aZ S 3<|cE S 0 de hr<|ak (fL<|kv S 0)<|aa ax)
   (ae (aZ S 4<|dM bw)
   (ae (cM (aM r8 (b9<|fL<|kv S 3) ax<|ao _) (ai<|aZ S 4<|cE S 1 yA hr<|ak (Cb<|fL<|kv S 0)<|aa<|aQ aW ax<|aQ dk (fL<|kv S 3)<|kv S 1) az)
   (ae (aZ S 5<|cq S 2 (av rfl) B.len kb<|aa<|kv S 4)
   (ae (aZ S 6<|cE S 0 de hr<|ak (fL<|kv S 0)<|aa ax)
   (ae (aZ S 7<|aQ dk (fL<|kv S 3)<|kv S 2)
   (ae (Ku (i:=8) S hc hsc (fj S 3 B.range<|aa<|kv S 5) (N:=["i","hats","kind"]) (W:=["i"]) (G:=["_law_hat_count"]) (fv:=[none,some 6,some 7]) Dk0 (λcl C fp s H f=>⟨(kg f 0),aY,(cE f 0 nX hr<|ak (kv f 1)<|ak (kv f 2)<|aa<|kv f 0)⟩) (by rw[hsc];decide +kernel) (by rw[dw,hsc];rfl))
   (ae (aZ S 9<|cE S 0 de hr<|ak (fL<|kv S 0)<|aa ax)
   (ae (aZ S 7<|b9<|fL<|kv S 3)
   (ae (Ku (i:=10) S hc hsc (fj S 3 B.range<|aa<|kv S 5) (N:=["i","sights","many","kind"]) (W:=["i"]) (G:=["_law_sight"]) (fv:=[none,some 9,some 5,some 7]) Dk0 (λcl C fp s H f=>⟨(kg f 0),aY,(cE f 0 yB hr<|ak (kv f 1)<|ak (kv f 2)<|ak (kv f 3)<|aa<|kv f 0)⟩) (by rw[hsc];decide +kernel) (by rw[dw,hsc];rfl))
   (ae (aZ S 11<|dM<|ak (aQ dk (fL<|kv S 3)<|cq S 4 (mi hc) B.max boot_max<|ak ax<|aa<|kv S 5)<|aa<|b9<|fL<|kv S 3)
   (ae (aZ S 12<|jM S 5 (dg hc) B.list boot_list<|aa<|jM S 3 fF B.range boot_range<|aa<|kv S 5)
   (ae (aZ S 12<|aQ (cR rfl) (qP (c5 rfl) (kv S 12) (bK<|fL<|kv S 11) bJ)<|qP (c5 rfl) (kv S 12) bJ<|bK<|fL<|kv S 11)
   (ae (cM (aM aR (fL<|kv S 11) ax<|ao _) (ai<|aZ S 12<|Ql (kv S 12) (N8 iX ax) rfl) az)
   (ae (aZ S 13<|dM bw)
   (ae (dq hxe hc (fj S 3 B.range<|aa<|kv S 5) (kg S 14) (ae (aZ S 15<|fI (kv S 10)<|fI (kv S 12)<|kv S 14)
   (ae (Ku (i:=16) S hc hsc (fj S 3 B.range<|aa<|kv S 5) (N:=["j","mask","order"]) (W:=["j"]) (G:=[]) (fv:=[none,some 15,some 12]) Dk0 (λcl C fp s H f=>⟨(kg f 0),(c7<|aM aR (b9<|aQ ba (kv f 1)<|aQ bW ax<|jL (bh rfl) (kv f 2) (kv f 0) λ_ _=>rfl) ax<|ao _),(kv f 0)⟩) (by rw[hsc];decide +kernel) (by rw[dw,hsc];rfl))
   (ai (fC (kY rr oq pS cu rfl (kv S 13) (aa (cq S 6 (cw hc rfl) B.sum boot_sum (aa (f9 S hc hsc (bA (kv S 16) rfl) (N:=["j"]) (W:=["j"]) (G:=[]) (fv:=[none]) Dk0 λcl C fp s H f=>⟨(kg f 0),aY,(aQ bW ax<|kv f 0)⟩))))))))))
   (ai<|aH<|dM<|ak (kv S 4)<|ak (kv S 8)<|aa<|kv S 13))))))))))))))))),?_⟩
 walk_at"i";refine aD (i:=((0:Nat):Int)) ha (aG rfl) ?_;refine⟨_,40,rfl,a_,λdr dn H1 s1 hdr0 hdr J I=>?_⟩
 walk_at"i";refine⟨a_,λe0 he0=>?_⟩
 have s2:=s1.trans<|ag.new he0<|.lst [];have n:=ag.new he0 (.lst []) _ _ hdr;have he2:upd H1 e0 (.lst []) e0=some (.lst []):=af;generalize upd H1 e0 (.lst [])=H2 at s2 n he2 ⊢;lia;refine Bl (λσ' H'=>∃(nm:Addr) (d:f_),σ'=[some (.ref a),some<|.int (most:Int),some<|.int (r:Int),some<|.ref dr,some<|.ref nm,none,none,none,none,none,none,none,none,none,none,none,none]/\ag H2 H'/\H' nm=some (.lst<|d.map V.str)/\Mm d most) ?_ ?_
 rotate_left
 ·intro R hR;lia;refine da n J I a_ a_ λx=>?_
  lia;refine bT (λ_=>?_) λ_=>hR _ _ ⟨e0,[],rfl,ag.refl _,he2,⟨zero_le _,.nil,(λ_ z=>nomatch z)⟩⟩;refine aD (i:=((0:Nat):Int)) (s2.seq ha) (aG rfl) ?_;lia;refine da n J I a_ a_ λy=>?_
  lia;have hy:y%most<most:=mod_lt _ m1;refine⟨by omega,_,1+y%most,by rw[natCast_add,natCast_emod];rfl,by omega,λl d H3 s3 hl0 hl1 hN=>hR _ _ ⟨l,d,rfl,s3,hl1,qp hN (by omega)⟩⟩
 rintro σ3 H3 ⟨nm,d,rfl,s3,hnm,hN⟩;have hn8:=hN.fJ;have s13:=s2.trans s3;have t:=s3 _ _ n;clear n he2 he0 s2 s3 hdr0 hdr s1;walk_at"i";refine aI (.inl<|aw.of hnm) ?_;rw[b5];walk_at"i";refine aD (i:=((1:Nat):Int)) (s13.seq ha) (aG rfl) ?_;refine⟨_,8,rfl,a_,λht hn H4 s4 _ hht hhl hhn=>?_⟩
 have s14:=s13.trans s4;walk_at"i";refine da (s4 _ _ t) J I a_ a_ λx34=>?_
 refine⟨_,_,rfl,rfl,by omega,?_⟩
 walk_at"i";refine lcAny d.length rfl (by omega) (λc=>0<c/\c<=6) ?_ ?_
 ·intro i H5 A hi hS hA;lia;exact⟨ht,hn,_,i,rfl,hS _ _ hht,hhl,hhn,by omega,Fo _ (by omega),Int.lt_of_lt_of_le (wh _ (by omega)) (by omega),λc H' s' h0 h1=>hA c H' s' ⟨h0,h1⟩⟩
 intro ca cs H5 aF s5 hca hcl M;have nmca:nm≠ca:=aO (s4 _ _ hnm) aF;have s15:=s14.trans s5;walk_at"i";refine aD (i:=((2:Nat):Int)) (s15.seq ha) (aG rfl) ?_;refine⟨_,24,rfl,a_,λsg sn H6 s6 _ hsg hsl hsn=>?_⟩
 have s16:=s15.trans s6;have s36:=(s4.trans s5).trans s6;walk_at"i";refine da (s36 _ _ t) J I a_ a_ λx35=>?_
 lia;walk_at"i";refine Hz d.length rfl (by omega) (λi x=>∃m:Nat,x=(m:Int)/\m<2 ^ d.length/\m.testBit i=false) ?_ ?_
 ·intro i H7 A hi hS hA;lia;exact⟨sg,sn,d.length,_,i,rfl,hS _ _ hsg,hsl,hsn,by omega,by omega,hi,λm h0 h1=>hA _ _ (ag.refl _) ⟨m,rfl,h0,h1⟩⟩
 intro wa row H7 hwa0 s7 hwa hrl hrow;have s17:=s16.trans s7;have s37:=s36.trans s7;walk_at"i";refine da (s37 _ _ t) J I a_ a_ λx36=>?_
 have hmx:(0:Int)<(if(d.length:Int)>1 then(d.length:Int)else 1):=by split<;>omega
 refine⟨_,_,rfl,rfl,hmx,?_⟩;obtain⟨T,hr0⟩:=rV<|Fo (x36:Int)<|Int.ne_of_gt hmx;refine da (s37 _ _ t) J I a_ a_ λx37=>?_
 lia;rw[hr0];refine⟨a_,λtu htu0=>?_⟩
 generalize p:upd H7 tu _=H8;obtain⟨st,htu⟩:=iS htu0 p;clear p htu0;walk_at"i";refine⟨d.length,rfl,by omega,λrg hrg=>?_⟩
 generalize p:upd H8 rg _=H9;obtain⟨srg,hrg9⟩:=iS hrg p;refine⟨rg,d.length,rfl,hrg9,by omega,λo ho=>?_⟩
 clear p;generalize p:upd H9 o _=H10;obtain⟨so,L⟩:=iS ho p;clear p;have L:H10 o=some (.lst<|(au<|List.range d.length).map V.int):=L;have s8o:=srg.trans so;have s79:=st.trans s8o;have v:=s8o _ _ htu;walk_at"i";refine aD (i:=((0:Nat):Int)) (aw.of v) (aG rfl) ?_;lia;refine MO T (aw.of L) λo1 H11 t1 _ ho1=>?_;refine aD (i:=((0:Nat):Int)) (aw.of<|t1 _ _ v) (aG rfl) ?_;lia;refine CM T (aw.of<|t1 _ _ L) λo2 H12 t2 _ ho2=>?_;have hol:((au<|List.range d.length).map V.int).length=d.length:=by rw[b5,ah,h7]
 refine⟨o1,o2,_,_,rfl,rfl,aw.of<|t2 _ _ ho1,aw.of ho2,?_,λo3 ho3=>?_⟩
 ·rw[nt,ri,hol];exact c8 (by omega)
 generalize p:upd H12 o3 _=H13;obtain⟨t3,g⟩:=iS ho3 p;clear p;have g:H13 o3=some (.lst<|(au<|(List.range d.length).drop T++(List.range d.length).take T).map V.int):=by
  rw[g];unfold au;rw[<-Wo,<-Wo,<-Wy,<-Wy,<-hU,<-hU]
 have t13:=(t1.trans t2).trans t3;have s7e:=s79.trans t13;have Z:((List.range d.length).drop T++(List.range d.length).take T).Perm (List.range d.length):=by
  have:=List.perm_append_comm (l₁:=(List.range d.length).drop T) (l₂:=(List.range d.length).take T)
  rwa [SL]at this
 have Q:=t13 _ _ v;generalize (List.range d.length).drop T++(List.range d.length).take T=od0 at g Z;clear hol ho1 ho2 ho3 L v t1 t2 t3 t13 s79;lia;refine Bl (λσ' H'=>∃(o:Addr) (E:d_),σ'=[some (.ref a),some<|.int (most:Int),some<|.int (r:Int),some<|.ref dr,some<|.ref nm,some<|.int (d.length:Int),some<|.ref ht,some<|.int<|(x35:Int)%6,some<|.ref ca,some<|.ref sg,some<|.ref wa,some<|.ref tu,some<|.ref o,none,none,none,none]/\ag H7 H'/\H' o=some (.lst<|(au E).map V.int)/\E.Perm (List.range d.length)) ?_ ?_
 rotate_left
 ·intro R hR;lia;refine aD (i:=((1:Nat):Int)) (aw.of Q) (aG rfl) ?_;lia;refine bT (λc=>?_) λc=>hR _ _ ⟨o3,od0,rfl,s7e,g,Z⟩;refine⟨trivial,o3,_,rfl,aw.of g,λo4 ho4=>?_⟩;have so4:=ag.new ho4<|.lst ((au od0).map V.int).reverse;refine hR _ _ ⟨o4,od0.reverse,rfl,s7e.trans so4,?_,(reverse_perm _).trans Z⟩;rw[af];unfold au;rw[<-Wn,<-Wn]
 clear Q g Z s7e;rintro σ4 H14 ⟨o,E,rfl,s8,ho,hod⟩;have hodl:E.length=d.length:=by rw[hod.length_eq,h7]
 have hodn:E.Nodup:=hod.nodup_iff.mpr Wj;have aE:∀k,k<d.length->E.getD k 0<d.length:=λk hk=>fO.mp (hod.mem_iff.mp (fN (by omega)))
 walk_at"i";refine⟨a_,λse u=>?_⟩
 generalize p:upd H14 se _=H15;obtain⟨t5,hse⟩:=iS u p;clear p;have s9:=s8.trans t5;have hseN:=s8.free u;walk_at"i";refine forR d.length (Us H14 a most r dr nm d ht x35 ca sg wa tu o se) rfl (by omega) ⟨[],_,_,_,rfl,t5,hse,rfl,λ_ z=>absurd z<|sU _⟩ ?_ ?_
 ·walk_at"fo";rintro k σ H16 hk ⟨ws,y14,y15,y16,rfl,u0,O,ab,X⟩;walk_at"fg";walk_at"i";have hoA:=u0 _ _ ho;have hwA:=u0 _ _<|s8 _ _ hwa;have bq:=aE k hk;refine aN (aw.of hoA) rfl (by rw[ah];omega) ?_
  rw[aA];refine aN (aw.of hwA) rfl (by omega) ?_
  obtain⟨m,hm,hm2,hmb⟩:=hrow _ bq;rw[hm];walk_at"i";refine LD d.length (λj=>m.testBit<|E.getD j 0) (λj=>((j:Nat):Int)) rfl (by omega) ?_ ?_
  ·intro j H17 A B' hj hS hA hB;lia;refine aN (aw.of<|hS _ _ hoA) rfl (by rw[ah];omega) ?_
   rw[aA];have hjo:=aE j hj;generalize E.getD j 0=oj at hA hB hjo ⊢;lia;have hpj:0<2 ^ oj:=r4 oj;have hj8:2 ^ oj<=2 ^ 8:=oD a_ (by omega)
   refine⟨dY (by omega),⟨by omega,?_⟩,?_⟩
   ·rw[Da];exact(log2_lt (by omega)).mpr (m2 hj8 (KM a_ a_))
   refine bT (λc=>hA c _<|ag.refl _) (λc=>hB (by simpa using c) _<|ag.refl _)
  intro sm H17 hsm0 u1 Y;have hnd:((List.range d.length).filter λj=>m.testBit<|E.getD j 0).Nodup:=Wj.sublist Wm;have ay:∀j∈(List.range d.length).filter (λj=>m.testBit<|E.getD j 0),j<d.length/\m.testBit (E.getD j 0)=true:=λj hj=>⟨fO.mp (j5.mp hj).1,(j5.mp hj).2⟩;have hsml:((List.range d.length).filter λj=>m.testBit<|E.getD j 0).length<=8:=by
   refine gr (x6 _ _) ?_;rw[h7];omega
  have Y:H17 sm=some (.lst<|(au<|(List.range d.length).filter λj=>m.testBit<|E.getD j 0).map V.int):=Y;generalize (List.range d.length).filter (λj=>m.testBit<|E.getD j 0)=l at Y hnd ay hsml;lia;have aS:=u1 _ _ O;refine⟨.inl ⟨rfl,_,aw.of aS⟩,?_⟩;refine He (λ_=>true) (λi=>((2 ^ l.getD i 0:Nat):Int)) (aw.of Y) (by rw[ah];exact aB (by omega)) ?_ ?_
  ·intro i H18 A B' hi hS hA _;rw[ah]at hi;rw[aA]
   have:=(ay _<|fN hi).1
   lia;exact⟨dY (by omega),hA rfl _<|ag.refl _⟩
  intro ac H18 hac0 u2 hac;rw[bz,ah]at hac;have u02:=u0.trans<|u1.trans u2;have esum:((List.range l.length).map λi=>((2 ^ l.getD i 0:Nat):Int)).sum=((mask l:Nat):Int):=by
   have:=Cj l
   rwa [ah]at this
  refine i9 (aw.of hac) ?_;rw[esum];refine⟨se,_,_,rfl,rfl,u2 _ _ aS,by rw[b5,ah];exact c8 (by omega),?_⟩
  rw[pP];refine⟨_,_,_,_,rfl,u02.set u _,af,by rw[eR,ab];rfl,λj hj=>?_⟩
  by_cases e:j<k
  ·rw[b3,A5 (by omega),<-b3]
   exact X j e
  ·obtain rfl:j=k:=by omega
   rw[b3,qz (by omega),ab,Wr]
   refine⟨uU hnd λi hi=>(ay i hi).1,?_⟩;show(mask l).testBit j=false;rw[bC hnd];exact dt λz=>by
    have:=(ay j z).2
    rw[hmb]at this;cases this
 rintro σ H16 ⟨ws,y14,y15,y16,rfl,u0,O,ab,X⟩;lia;have s1e:=s17.trans<|s8.trans u0;have s3e:=s37.trans<|s8.trans u0;have s5e:=(s6.trans s7).trans<|s8.trans u0;refine⟨a_,λb hb=>?_⟩
 generalize p:upd H16 b _=H17;obtain⟨t6,hb'⟩:=iS hb p;have seca:se≠ca:=(aO (((s6.trans s7).trans s8) _ _ hca) u).symm;refine q b nm ca se d cs ws _ (s1e.trans t6) (s14.free aF) hb' (t6 _ _<|s3e _ _ hnm) (t6 _ _<|s5e _ _ hca) (t6 _ _ O) nmca seca ⟨qp hN m8,hcl,ab,λc U=>⟨(M c U).1,m2 (M c U).2 a_⟩,λj hj=>(X j (by omega)).1,λj hj=>?_⟩ hn8 λc U=>(M c U).2
 have:=(X j (by omega)).2
 rw[oi]at this
 have:=of_decide_eq_false this
 omega
def Km(B:Bn mg)(D:Def K mg "_law_mixed_lines" dU):Fn P w K mg base 1 "_law_mixed_lines" ["book","drawn"] (lM K):=by
 have zY:DS (aj dU) ["book","drawn","names","counts","web","lines","k","order","i","some","at","hats","first"] ["book","drawn"] ["range","len","str","list","max"]:=aK;walk_at"hH";obtain⟨b,dr,ns,f,ws,dn,rfl,⟨a1,a2,a3,hb,h1,h2,h3⟩,P,ay,hdn,a6,q⟩:=h;have h8:=P.nm.fJ;refine zW _ ⟨_,(ae (DI (kv S 0)<|QF hc (K:=X.K) (n:=3) rfl<|aV (kg S 2)<|aV (kg S 3)<|aV (kg S 4) dN)
   (ae (aZ S 5<|dM bw)
   (ae (dq hxe hc (fj S 0 B.range<|aa<|cq S 1 (av rfl) B.len kb<|aa<|kv S 2) (kg S 6)<|ai<|fC<|kY rr oq pS cu rfl (kv S 5)<|aa<|aQ bu (aQ bu (aQ bu br<|fI (kv S 2)<|kv S 6) br)<|jM S 2 bX B.str boot_str<|aa<|fI (kv S 3)<|kv S 6)
   (ae (aZ S 7<|jM S 3 (dg hc) B.list boot_list<|aa<|jM S 0 fF B.range boot_range<|aa<|cq S 1 (av rfl) B.len kb<|aa<|kv S 2)
   (ae (cM (aM aR (b9<|fL<|kv S 1) ax<|ao _) (ai<|aZ S 7<|Ql (kv S 7) (N8 iX ax) rfl) az)
   (ae (dq hxe hc (bA (kv S 7) rfl) (kg S 8) (ae (Ku (i:=9) S hc hsc (fj S 0 B.range<|aa<|cq S 1 (av rfl) B.len kb<|aa<|kv S 2) (N:=["j","web","i"]) (W:=["j"]) (G:=[]) (fv:=[none,some 4,some 8]) Dk0 (λcl C fp s H r=>⟨(kg r 0),(c7<|aM aR (b9<|aQ ba (jL (bh rfl) (kv r 1) (kv r 2) λ_ _=>rfl)<|aQ bW ax<|kv r 0) ax<|ao _),(kv r 0)⟩) (by rw[hsc];decide +kernel) (by rw[dw,hsc];rfl))
   (ai (cM (aM (mh hu rfl) (kv S 9) (dM bw)<|ao _) (ae (aZ S 10<|aQ dk (fI (kv S 1)<|aQ aW ax<|kv S 8)<|cq S 1 (av rfl) B.len kb<|aa<|kv S 9)
   (ae (aZ S 9<|aQ (cR rfl) (qP (c5 rfl) (kv S 9) (bK<|kv S 10) bJ)<|qP (c5 rfl) (kv S 9) bJ<|bK<|kv S 10)
   (ae (cM (aM aR (b9<|fI (kv S 1)<|aQ aW ax<|kv S 8) ax<|ao _) (ai<|aZ S 9<|Ql (kv S 9) (N8 iX ax) rfl) az)
   (ae (Ku (i:=11) S hc hsc (bA (aQ (cR rfl) (kv S 9)<|dM<|aa<|kv S 8) rfl) (N:=["j","names","counts"]) (W:=["j"]) (G:=["str"]) (fv:=[none,some 2,some 3]) Dk0 (λcl C fp s H r=>⟨(kg r 0),aY,(aQ bu (aQ bu (aQ bu br<|jL (bh rfl) (kv r 1) (kv r 0) λ_ _=>rfl) br)<|jM r 0 bX B.str boot_str<|aa<|jL (bh rfl) (kv r 2) (kv r 0) λ_ _=>rfl)⟩) (by rw[hsc];decide +kernel) (by rw[dw,hsc];rfl))
   (ae (aZ S 12 (aQ aW ax (cq S 4 (zX hc rfl) B.max boot_max (aa (f9 S hc hsc (bA (kv S 11) rfl) (N:=["hat","lines"]) (W:=["hat"]) (G:=[]) (fv:=[none,some 5]) Dk0 λcl C fp s H r=>⟨(kg r 0),aY,(kY rr slot_list_index type_list_index (mD rfl) rfl (kv r 1)<|aa<|kv r 0)⟩)))))
   (ae (aZ S 10<|aQ aW (kv S 12)<|aQ dk (fI (kv S 1)<|aQ aW ax<|kv S 8)<|aQ aW (aQ cK (cq S 1 (av rfl) B.len kb<|aa<|kv S 5)<|kv S 12) ax)
   (ai (fC (kY rr PySem.F.slot_list_insert PySem.F.type_list_insert Ee rfl (kv S 5) (ak (kv S 10) (aa (kY yP SC Wh (cJ rfl) rfl br (aa (aQ (cR rfl) (dM<|ak br<|aa<|fI (kv S 2)<|kv S 8) (f9 S hc hsc (bA (kv S 9) rfl) (N:=["j","names"]) (W:=["j"]) (G:=[]) (fv:=[none,some 2]) Dk0 λcl C fp s H r=>⟨(kg r 0),aY,(jL (bh rfl) (kv r 1) (kv r 0) λ_ _=>rfl)⟩))))))))))))))) az))))
   (ai<|aH<|kv S 5))))))),?_⟩
 walk_at"i";refine⟨b,_,rfl,aw.of hb,rfl,?_⟩;refine⟨_,_,rfl,⟨_,_,rfl,⟨_,_,rfl,⟨rfl,?_⟩⟩⟩⟩;lia;have h1000:(1000:Nat)<=sizeLine:=by decide
 have el:("hat ":Str).length=4:=by decide +kernel
 have a5:(" ":Str).length=1:=by decide +kernel
 have b1:∀k,k<ns.length->bI (ns.getD k bo)=true/\(ns.getD k bo).length<=12/\(Str.ofString<|toString ((f.getD k 0:Nat):Int)).length<=30/\((f.getD k 0:Nat):Int).natAbs.log2<1920:=λk hk=>by
  have bq:bI (ns.getD k bo)=true/\0<f.getD k 0/\f.getD k 0<10 ^ 30:=Aq P hk;refine⟨bq.1,(ir bq.1).2.2,mC (fQ bq.2.1 bq.2.2).1,?_⟩;rw[Da];exact(log2_lt (by omega)).mpr (Nat.lt_trans bq.2.2 Dk0)
 walk_at"h";refine⟨a_,λl hl=>?_⟩
 have sl:=ag.new hl<|.lst [];walk_at"h";refine aI (.inl<|aw.of<|sl _ _ h1) ?_;rw[b5];refine forR ns.length (Tu H b dr a1 a2 a3 l ns f) rfl (by omega) ⟨_,_,_,_,_,_,_,rfl,sl,af⟩ ?_ ?_
 ·walk_at"fo";rintro k σ H2 hk ⟨y6,y7,y8,y9,J,I,E,rfl,hS,Z⟩;walk_at"fg";lia;refine⟨.inl ⟨rfl,_,aw.of Z⟩,?_⟩;obtain⟨f1,f2,f3,f4⟩:=b1 k hk;refine aD (aw.of<|hS _ _ h1) (aG<|bb hk) ?_;refine⟨_,_,rfl,rfl,by rw[el];omega,?_⟩
  refine⟨_,_,rfl,rfl,by rw[aT,el,a5];omega,?_⟩
  refine aN (aw.of<|hS _ _ h2) rfl (by rw[ah,P.lc];exact hk) ?_
  rw[aA];refine⟨_,rfl,f4,?_⟩;refine⟨_,_,rfl,rfl,by rw[aT,aT,el,a5];omega,?_⟩
  rw[xD];refine⟨l,_,_,rfl,rfl,Z,by rw[b5,b5,b5,h7];exact c8 (by omega),?_⟩
  refine⟨_,_,_,_,_,_,_,rfl,hS.set hl _,?_⟩;rw[af,u5,hU,hU,hU];rfl
 rintro σ2 H2 ⟨y6,y7,y8,y9,J,I,E,rfl,hS2,Z⟩;walk_at"i";refine aI (.inl<|aw.of<|hS2 _ _ h1) ?_;rw[b5];refine⟨ns.length,rfl,by omega,λrg hrg=>?_⟩
 have srg:=ag.new hrg<|.Ny 0 ns.length;refine⟨rg,ns.length,rfl,af,by omega,λo ho=>?_⟩
 have lo3:l≠o:=aO (srg _ _ Z) ho;have so:=ag.new ho<|.lst<|((List.range ns.length).map λi=>((i:Nat):Int)).map V.int;have s2o:=srg.trans so;have ho':upd (upd H2 rg<|.Ny 0 ns.length) o (.lst<|((List.range ns.length).map λi=>((i:Nat):Int)).map V.int) o=some (.lst<|(au<|List.range ns.length).map V.int):=af;have aF:=s2o _ _ Z;have aS:=hS2.trans s2o;generalize upd (upd H2 rg<|.Ny 0 ns.length) o (.lst<|((List.range ns.length).map λi=>((i:Nat):Int)).map V.int)=H3 at ho' aF aS ⊢;lia;refine Bl (Tw H b dr a1 a2 a3 l ns f) ?_ (λR hR=>?_)
 rotate_left
 ·lia;refine ee (aS _ _ ay) rfl a6 a_ (by omega) λx0 hx0=>?_
  lia;refine bT (λc=>?_) λc=>hR _ _ ⟨o,_,_,_,_,_,_,_,rfl,aS,aF,ho',List.Perm.refl _,lo3⟩;refine⟨trivial,o,_,rfl,aw.of ho',λo2 ho2=>?_⟩;have so2:=ag.new ho2<|.lst ((au<|List.range ns.length).map V.int).reverse;refine hR _ _ ⟨o2,(List.range ns.length).reverse,_,_,_,_,_,_,rfl,aS.trans so2,so2 _ _ aF,?_,reverse_perm _,aO aF ho2⟩;rw[af];unfold au;rw[<-Wn,<-Wn]
 rintro σ4 H4 ⟨o,od,y6,y8,y9,J,I,E,rfl,hS4,hl4,ho4,a0,lo⟩;have hodl:od.length=ns.length:=by rw[a0.length_eq,h7]
 have hodn:od.Nodup:=a0.nodup_iff.mpr Wj;walk_at"h";have M0:=dH.start (ns:=ns) (ws:=ws);refine forL (Tv H b dr a1 a2 a3 l o ns f ws od) (aw.of ho4) ⟨_,_,_,_,_,_,_,rfl,hS4,ho4,hl4,⟨M0.ok,M0.f7,M0.nd,M0.pm,λi=>by rw[M0.al i,take_zero];exact⟨λz=>z.1.elim,(λz=>nomatch z.1)⟩⟩,by rw[b5,h7];omega⟩ (λk σ H' h=>by obtain⟨M,y6,y8,y9,J,I,E,_,_,h,_⟩:=h;exact aw.of h) ?_ ?_
 ·walk_at"fo";rintro k σ H5 hk ⟨M,y6,y8,y9,J,I,E,rfl,ab,ho5,hl5,L,hMl⟩;walk_at"fg";rw[ah]at hk;rw[aA];have hi:od.getD k 0<ns.length:=by
   have:od.getD k 0∈od:=by rw[b3,b4 hk];exact kf _
   exact fO.mp<|a0.mem_iff.mp this
  have hnd:=Iu hodn hk;have htd:=Ef hk;generalize od.getD k 0=i at hi hnd htd ⊢;walk_at"i";refine aI (.inl<|aw.of<|ab _ _ h1) ?_;rw[b5];refine LD ns.length (λj=>decide<|ws.getD i 0 / 2 ^ j%2=1) (λj=>((j:Nat):Int)) rfl (by omega) ?_ ?_
  ·intro j H6 A B' hj hS6 hA hB;lia;refine aN (aw.of<|hS6 _ _<|ab _ _ h3) rfl (by rw[ah,P.lw];exact hi) ?_
   rw[aA];lia;have hpj:0<2 ^ j:=Nat.pow_pos a_
   have hj8:2 ^ j<=2 ^ 8:=oD a_ (by omega)
   refine⟨dY (by omega),⟨by omega,?_⟩,?_⟩
   ·rw[Da];exact(log2_lt (by omega)).mpr (m2 hj8 (KM a_ a_))
   refine bT (λc=>?_) λc=>?_
   ·exact hA (by rw[<-oi];exact c) _<|ag.refl _
   ·exact hB (by rw[<-oi];exact Gc.mpr c) _<|ag.refl _
  intro sa H6 hsa0 s6 a4;have a4:H6 sa=some (.lst<|(au<|pU ns.length<|ws.getD i 0).map V.int):=a4;have hpm:(pU ns.length<|ws.getD i 0).Perm (pU ns.length<|ws.getD i 0):=List.Perm.refl _;have hS6:=ab.trans s6;have ho6:=s6 _ _ ho5;have hl6:=s6 _ _ hl5;lia;refine⟨a_,λz hz=>?_⟩
  have sz:=ag.new hz<|.lst [];refine⟨_,_,.lst (aw.of<|sz _ _ a4)<|cG.ints _,.lst (aw.of af) .nil,bg _,a_,?_⟩
  rw[jP];have ho7:=sz _ _ ho6;have hl7:=sz _ _ hl6;have U:=hS6.trans sz;have u:=sz _ _ a4;generalize upd H6 z (.lst [])=H7 at ho7 hl7 U u ⊢
  by_cases c0:pU ns.length (ws.getD i 0)=[]
  ·rw[cc (show(au<|pU ns.length<|ws.getD i 0).map PyData.int=[] by rw[c0];rfl)]
   lia;exact⟨M,_,_,_,_,_,_,rfl,U,ho7,hl7,L.skip c0 htd,by omega⟩
  rw[dt (show ¬(au<|pU ns.length<|ws.getD i 0).map PyData.int=[]from λz=>c0<|q5.mp<|q5.mp z)]
  lia;generalize hbt:pU ns.length (ws.getD i 0)=bt at c0 u ⊢;have hbl:0<bt.length:=Fh.mpr c0;have hbl8:bt.length<=ns.length:=by
   rw[<-hbt];unfold pU
   have:=x6 (λj=>decide<|ws.getD i 0 / 2 ^ j%2=1)<|List.range ns.length
   rw[h7]at this;exact this
  walk_at"h";refine ee (U _ _ ay) rfl a6 (by omega) (by omega) λx1 hx1=>?_
  refine aI (.inl<|aw.of u) ?_;rw[b5,ah];lia;refine⟨by omega,?_⟩
  obtain⟨d,hat1,eat1⟩:∃a:Nat,a<bt.length/\x1%(bt.length:Int)=(a:Int):=by
   have h0:=Fo x1 (show(bt.length:Int)≠0 by omega)
   have h1:=wh x1 (show(0:Int)<(bt.length:Int) by omega)
   exact⟨(x1%(bt.length:Int)).toNat,by omega,by omega⟩
  rw[eat1];walk_at"h";refine⟨sa,_,rfl,aw.of u,λc1 hc1=>?_⟩;rw[dE,<-Wo];have sc1:=ag.new hc1<|.lst<|((au bt).drop d).map V.int;refine⟨sa,_,rfl,aw.of<|sc1 _ _ u,λc2 hc2=>?_⟩;rw[ml,<-Wy];have sc2:=ag.new hc2<|.lst<|((au bt).take d).map V.int;refine jN (ns:=(au bt).drop d) (ms:=(au bt).take d) (aw.of<|sc2 _ _ af) (aw.of af) (c8 (by rw[nt,ri,ah];omega)) λc3 hc3=>?_
  have sc3:=ag.new hc3<|.lst<|((au bt).drop d++(au bt).take d).map V.int;have x:=sc1.trans<|sc2.trans sc3;have e3:(au bt).drop d++(au bt).take d=au (bt.drop d++bt.take d):=by unfold au;rw[hU,Wo,Wy]
  rw[e3];have hp3:(bt.drop d++bt.take d).Perm bt:=by
   have:=List.perm_append_comm (l₁:=bt.drop d) (l₂:=bt.take d)
   rw[SL]at this;exact this
  lia;refine Bl (Tx H7 b dr a1 a2 a3 l o i bt) ?_ (λR hR=>?_)
  rotate_left
  ·lia;rw[e3]at x;refine ee (x _ _<|U _ _ ay) rfl a6 (by omega) (by omega) λx2 hx2=>?_
   lia;refine bT (λc=>?_) λc=>hR _ _ ⟨c3,_,_,_,_,_,rfl,x,af,hp3⟩;refine⟨trivial,c3,_,rfl,aw.of af,λc4 hc4=>?_⟩;have sc4:=ag.new hc4<|.lst ((au<|bt.drop d++bt.take d).map V.int).reverse;refine hR _ _ ⟨c4,(bt.drop d++bt.take d).reverse,_,_,_,_,rfl,x.trans sc4,?_,(reverse_perm _).trans hp3⟩;rw[af];unfold au;rw[Wn,Wn]
  rintro σ8 H8 ⟨s,e,y6,J,I,E,rfl,s8,hs8,hsm⟩;have hS8:=U.trans s8;have hl8:=s8 _ _ hl7;have ho8:=s8 _ _ ho7;have bl:e.length=bt.length:=hsm.length_eq;have b2:∀j∈e,j<ns.length:=λj hj=>by
   have:=hsm.mem_iff.mp hj
   rw[<-hbt]at this;exact(Cw.mp this).1
  walk_at"h";refine⟨a_,λp hp=>?_⟩
  have sp:=ag.new hp<|.lst [V.int (i:Int)];refine jN (ns:=au e) (ms:=[(i:Int)]) (aw.of<|sp _ _ hs8) (aw.of af) (c8 (by rw[ah];show _+1<=100;omega)) λp2 hp2=>?_
  have e4:au e++[(i:Int)]=au (e++[i]):=by unfold au;rw[hU];rfl
  rw[e4];have sp2:=ag.new hp2<|.lst<|(au<|e++[i]).map V.int;have aE:∀j∈e++[i],j<ns.length:=λj hj=>by
   rcases j6.mp hj with z|z
   ·exact b2 j z
   ·rw[eG.mp z];exact hi
  have hlenh:(e++[i]).length<=9:=by rw[eR];show _+1<=9;omega
  have O:0<(e++[i]).length:=by rw[eR];show 0<_+1;omega
  have bp:=sp.trans sp2;refine⟨p2,rfl,⟨_,aw.of af⟩,wu (df<|aw.of af) (λ_=>true) (λt=>.str<|hZ ns f<|.e9<|(e++[i]).getD t 0) (by rw[b5,ah];exact aB (by omega)) ?_ ?_⟩
  ·intro t H9 A B' ht hS9 hA _;rw[b5,ah]at ht;rw[jQ ht];have hj:=aE _<|g9 ht;generalize (e++[i]).getD t 0=j at hj hA ⊢;have s9:ag H H9:=hS8.trans<|bp.trans hS9;lia;obtain⟨f1,f2,f3,f4⟩:=b1 j hj;refine aD (aw.of<|s9 _ _ h1) (aG<|bb hj) ?_;refine⟨_,_,rfl,rfl,by rw[el];omega,?_⟩
   refine⟨_,_,rfl,rfl,by rw[aT,el,a5];omega,?_⟩
   refine aN (aw.of<|s9 _ _ h2) rfl (by rw[ah,P.lc];exact hj) ?_
   rw[aA];refine⟨_,rfl,f4,?_⟩;refine⟨_,_,rfl,rfl,by rw[aT,aT,el,a5];omega,?_⟩
   rw[xD];exact hA rfl _<|ag.refl _
  intro ht H9 hht0 s9 Y;rw[bz,b5,ah,c9 λj=>V.str<|hZ ns f<|.e9 j]at Y;have Y:H9 ht=some (.lst<|((e++[i]).map λj=>hZ ns f<|.e9 j).map V.str):=by rw[Y,k6];rfl
  have a8:=bp.trans s9;have hl9:=a8 _ _ hl8;have ho9:=a8 _ _ ho8;have hS9:=hS8.trans a8;have hs9:=a8 _ _ hs8;walk_at"i";refine⟨ht,rfl,⟨_,aw.of Y⟩,wu (df<|aw.of Y) (λ_=>true) (λt=>.int (((M.map<|hZ ns f).idxOf (hZ ns f<|.e9<|(e++[i]).getD t 0):Nat):Int)) (by rw[b5,b5];exact aB (by omega)) ?_ ?_⟩
  ·intro t H10 A B' v g hA _;rw[b5,b5]at v;have e5:(((e++[i]).map λj=>hZ ns f<|.e9 j).map V.str).getD t .bE=.str (hZ ns f<|.e9<|(e++[i]).getD t 0):=by
    rw[b3,ed,ed,b4 v,b3,b4 v];rfl
   rw[e5];lia;refine⟨.inl ⟨rfl,_,aw.of<|g _ _ hl9⟩,?_⟩;exact⟨l,_,_,rfl,rfl,aw.of<|g _ _ hl9,(L.idx P<|aE _<|g9 v).1,hA rfl _<|ag.refl _⟩
  intro ix H10 hix0 a9 hix;rw[bz,b5,b5,c9 λj=>V.int (((M.map<|hZ ns f).idxOf (hZ ns f<|.e9 j):Nat):Int)]at hix;have T:=a9 _ _ hl9;have ho10:=a9 _ _ ho9;have g:=hS9.trans a9;have bN:=a9 _ _ hs9;refine⟨ix,(e++[i]).map λj=>(((M.map<|hZ ns f).idxOf (hZ ns f<|.e9 j):Nat):Int),rfl,.inl (aw.of (by rw[hix,k6];rfl)),by intro z;have:=q5.mp z;rw[this]at O;exact absurd O a_,λm hm hmax=>?_⟩
  obtain⟨jm,hjm,rfl⟩:=gh.mp hm;have hmlt:=(L.idx P<|aE jm hjm).2.1;have hmx:∀j∈e++[i],(M.map<|hZ ns f).idxOf (hZ ns f<|.e9 j)<=(M.map<|hZ ns f).idxOf (hZ ns f<|.e9 jm):=λj hj=>by
   have:=hmax _<|gh.mpr ⟨j,hj,rfl⟩
   exact Int.ofNat_le.mp this
  generalize (M.map<|hZ ns f).idxOf (hZ ns f<|.e9 jm)=mm at hmlt hmx ⊢;walk_at"i";refine ee (g _ _ ay) rfl a6 (by omega) (by omega) λx3 hx3=>?_
  refine aI (.inl<|aw.of T) ?_;rw[b5,b5];lia;refine⟨by omega,?_⟩
  lia;refine⟨.inl ⟨rfl,_,aw.of T⟩,rfl,?_⟩;refine aD (aw.of<|g _ _ h1) (aG<|bb hi) ?_;refine⟨a_,λp7 hp7=>?_⟩
  have a7:=ag.new hp7<|.lst [V.str ("sees":Str),V.str<|ns.getD i bo];refine⟨s,rfl,⟨_,aw.of<|a7 _ _ bN⟩,wu (df<|aw.of<|a7 _ _ bN) (λ_=>true) (λt=>.str<|ns.getD (e.getD t 0) bo) (by rw[b5,ah];exact aB (by omega)) ?_ ?_⟩
  ·intro t H11 A B' v hS11 hA _;rw[b5,ah]at v;rw[jQ v];lia;have hj:=b2 _<|g9 v;refine aD (aw.of<|hS11 _ _<|a7 _ _<|g _ _ h1) (aG<|bb hj) ?_;exact hA rfl _<|ag.refl _
  intro nl H11 hnl0 s11 hnl;rw[bz,b5,ah,c9 λj=>V.str<|ns.getD j bo]at hnl;have s711:=a7.trans s11;refine⟨p7,nl,_,_,rfl,rfl,aw.of<|s11 _ _ af,aw.of hnl,by rw[b5];exact c8 (by show 2+_<=100;omega),λp8 hp8=>?_⟩
  have sp8:=ag.new hp8<|.lst<|[V.str ("sees":Str),V.str<|ns.getD i bo]++e.map λj=>V.str<|ns.getD j bo;have e8:([V.str ("sees":Str),V.str<|ns.getD i bo]++e.map λj=>V.str<|ns.getD j bo)=(xI<|tJ ns f<|.sees i e).map V.str:=by
   show _=[V.str ("sees":Str),V.str<|ns.getD i bo]++(e.map λj=>ns.getD j bo).map V.str;rw[k6];rfl
  have b0:e≠[]:=λz=>by rw[z]at bl;exact absurd bl (by show ¬0=_;omega)
  have hsp:e.Perm (pU ns.length<|ws.getD i 0):=by rw[hbt];exact hsm
  have Q:=Cz P hi hsp b0;have hlw:=kA Q;have hlt:=oB Q;have hsum:=jj 30 (xI<|tJ ns f<|.sees i e) λy hy=>(hlw.1 y hy).2.2;have h41:(xI<|tJ ns f<|.sees i e).length*31<=41*31:=AC _ hlw.2.1;have h2000:(2000:Nat)<=sizeLine:=by decide
  refine⟨_,p8,xI<|tJ ns f<|.sees i e,rfl,rfl,aw.of (by rw[af,e8]),?_,?_,?_⟩
  ·rw[cA];show((xI<|tJ ns f<|.sees i e).map λz=>z.length+1).sum<=_
   omega
  ·rw[cA]
   have:(oA<|tJ ns f<|.sees i e).length=(Str.join ⟨#[32]⟩<|xI<|tJ ns f<|.sees i e).length:=rfl
   omega
  rw[cA];obtain⟨qq,hq1,hq2,eqq⟩:∃a:Nat,mm<a/\a<=M.length/\1+(mm:Int)+x3%((M.length:Int)-(1+(mm:Int))+1)=(a:Int):=by
   have h0:=Fo x3 (show((M.length:Int)-(1+(mm:Int))+1)≠0 by omega)
   have h1:=wh x3 (show(0:Int)<((M.length:Int)-(1+(mm:Int))+1) by omega)
   exact⟨(1+(mm:Int)+x3%((M.length:Int)-(1+(mm:Int))+1)).toNat,by omega,by omega,by omega⟩
  rw[eqq];have sA:=s711.trans sp8;refine⟨l,_,qq,_,rfl,rfl,sA _ _ T,by rw[b5,b5];omega,by rw[b5,b5];exact hq2,?_⟩
  have hln:H l=none:=hl;refine⟨dG M qq<|.sees i e,_,_,_,_,_,_,rfl,(g.trans sA).set hln _,by rw[aC lo.symm];exact sA _ _ ho10,?_,?_,?_⟩
  ·rw[af,Cy,Cy];rfl
  ·refine L.ins hi hnd hsp b0 (λj hj=>?_) htd;have hj':j∈e++[i]:=by
    rcases gg.mp hj with z|z
    ·exact j6.mpr<|.inr<|eG.mpr z
    ·exact j6.mpr<|.inl z
   exact(L.idx P<|aE j hj').2.2 qq (m2 (hmx j hj') hq1)
  ·unfold dG;rw[eR,mo,ri,nt]
   omega
 rintro σ5 H5 ⟨M,y6,y8,y9,J,I,E,rfl,ab,ho5,hl5,L,hMl⟩;rw[ah]at L hMl;lia;refine q l M H5 ab hl5 ⟨L.ok,L.f7,L.nd,L.pm,λi=>?_⟩ (by omega)
 rw[L.al i,sC]
 have:i∈od↔i<ns.length:=by rw[a0.mem_iff,fO]
 rw[this]
def OO(K:Frag)(H0:Hp)(w y r:Addr)(ws way rest:d_)(n:Nat)(k:Nat)(σ:L2.St)(H:Hp):Prop:=ag H0 H/\(∃z,σ=[some (.ref w),some<|.ref y,some<|.ref r,z])/\∀t,t<k->(cF ws (way.getLastD 0) (rest.getD t 0)&&dB ws n (way++[rest.getD t 0]) (rest.filter λx=>decide<|x≠rest.getD t 0))=false
def vR:DS (aj eZ) ["web","way","rest","j"] ["web","way","rest"] ["_law_rings"]:=aK
def tY(B:Bn mg)(D:Def K mg "_law_rings" eZ){n m:Nat}{sp:Sp}(jG:Fn P w K mg base (m+1) "_law_rings" ["web","way","rest"] sp)(hF:n=0∨∃n',n=n'+1/\sp=lQ K n'):Fn P w K mg base (m+2) "_law_rings" ["web","way","rest"] (lQ K n):=by
 have zY:DS (aj eZ) ["web","way","rest","j"] ["web","way","rest"] ["_law_rings"]:=aK;walk_at"hH";obtain⟨w,y,r,d,b,rest,rfl,hw,hy,l,hw8,i,g,f,M,hn,h8,q⟩:=h;have hl:b.getLastD 0<d.length:=by
  refine g _ ?_;rw[List.getLastD_eq_getLast?,List.getLast?_eq_some_getLast i];exact List.getLast_mem i
 have l0:0<b.length:=Fh.mpr i;have ea:wq ((au b).map V.int) (-1)=some (.int ((b.getLastD 0:Nat):Int)):=by
  obtain⟨a,x,e⟩:∃a x,b=a++[x]:=⟨b.dropLast,b.getLast i,(List.dropLast_concat_getLast i).symm⟩;rw[e,cN,hU,show(au [x]).map V.int=[V.int (x:Int)]from rfl,DY]
  simp
 refine zW _ ⟨_,(ae (cM (aM (dz hu rfl) (kv S 2) (dM bw)<|ao _) (ai<|aH<|fi aR (b9<|aQ ba (fI (kv S 0)<|fI (kv S 1)<|N8 iX ax)<|aQ bW ax<|fL<|kv S 1) ax<|ao _) az)
   (ae (dq hxe hc (bA (kv S 2) rfl) (kg S 3) (ai (cM (wt (qQ (aM aR (b9<|aQ ba (fI (kv S 0)<|fI (kv S 1)<|N8 iX ax)<|aQ bW ax<|kv S 3) ax<|ao _) (lr (mj (cE S 0 jG hr (ak (kv S 0) (ak (aQ (cR rfl) (kv S 1)<|dM<|aa<|kv S 3) (aa (f9 S hc hsc (bA (kv S 2) rfl) (N:=["k","j"]) (W:=["k"]) (G:=[]) (fv:=[none,some 3]) Dk0 λcl C fp s H U=>⟨(kg U 0),(c7<|aM iY (kv U 0) (kv U 1)<|ao _),(kv U 0)⟩)))) (hk:=dy _)))))) (ai<|aH wW) az)))
   (ai<|aH wW))),?_⟩
 walk_at"h";refine⟨a_,λu hu1=>?_⟩
 have E:=ag.new hu1<|.lst [];refine⟨_,_,.lst (E.seq l)<|cG.ints _,.lst (aw.of af) .nil,bg _,a_,?_⟩
 rw[jP]
 by_cases T:rest=[]
 ·subst T;rw[cc (show(au []).map PyData.int=[]from rfl)]
  lia;refine aD (E.seq hy) ea ?_;lia;refine aN (E.seq hw) rfl (by rw[ah];exact hl) ?_
  rw[aA];lia;refine aN (k:=0) (E.seq hy) rfl (by rw[ah];exact l0) ?_
  rw[aA];lia;have h0:=g (b.getD 0 0)<|aX l0;refine kH (by omega) ?_
  have:Q (.bl<|cF d (b.getLastD 0)<|b.headD 0) _:=q _ E
  unfold cF at this;rw[show b.headD 0=b.getD 0 0 by cases b<;>rfl]at this
  exact this
 rw[dt (show ¬(au rest).map PyData.int=[]from λz=>T<|q5.mp<|q5.mp z)]
 lia;obtain⟨n1,rfl,rfl⟩:=hF.resolve_left λz=>T (FS.mp (by omega))
 obtain⟨n',Z⟩:∃n',rest.length=n'+1:=⟨rest.length-1,by have:=Fh.mpr T;omega⟩
 rw[Z]at q;walk_at"h";refine forL (ns:=au rest) (OO X.K H w y r d b rest n') (E.seq l) ⟨E,⟨_,rfl⟩,λt L=>absurd L<|sU t⟩ (λk σ J h=>h.1.seq l) ?_ ?_
 ·walk_at"fo";rintro k σ J hk ⟨v,⟨z,rfl⟩,di⟩;walk_at"fg";rw[ah]at hk;rw[aA];have hj:=f _<|aX hk;have I:=aX hk;generalize hx:rest.getD k 0=j at hj I;lia;refine aD (v.seq hy) ea ?_;lia;refine aN (v.seq hw) rfl (by rw[ah];exact hl) ?_
  rw[aA];lia;refine kH (by omega) ?_
  have nx:∀Y,ag J Y->(cF d (b.getLastD 0) j&&dB d n' (b++[j]) (rest.filter λx=>decide<|x≠j))=false->OO X.K H w y r d b rest n' (k+1) [some (.ref w),some<|.ref y,some<|.ref r,some<|.int (j:Int)] Y:=λY s e=>⟨v.trans s,⟨_,rfl⟩,λt L=>by
   by_cases et:t=k
   ·rw[et,hx];exact e
   ·exact di t (by omega)⟩
  refine bT (λc=>?_) λc=>?_
  ·refine⟨a_,λp hp=>?_⟩
   have s1:=ag.new hp<|.lst [V.int (j:Int)];refine jN (ns:=au b) (ms:=[(j:Int)]) ((v.trans s1).seq hy) (aw.of af) (ie (by rw[ah];show b.length+1<=1000;omega)) λp2 hp2=>?_
   have s2:=ag.new hp2<|.lst<|(au b++[(j:Int)]).map V.int;have sA:=v.trans<|s1.trans s2;refine He (λt=>decide<|rest.getD t 0≠j) (λt=>((rest.getD t 0:Nat):Int)) (sA.seq l) (by rw[ah];exact aB (by omega)) ?_ ?_
   ·intro t J2 A B' L hS hA hB;rw[ah]at L;rw[aA];lia
    by_cases R:rest.getD t 0=j
    ·rw[cc (by rw[R]:((rest.getD t 0:Nat):Int)=(j:Int))]
     lia;exact hB (dt λz=>z R) _<|ag.refl _
    ·rw[dt (λz=>R (Wi z):¬((rest.getD t 0:Nat):Int)=(j:Int))];lia;exact hA (cc R) _<|ag.refl _
   intro B_ J3 _ s3 o;rw[jk rest (λx=>decide<|x≠j)]at o;have O:J3 p2=some (.lst<|(au<|b++[j]).map V.int):=by rw[cN];exact s3 _ _ af
   have lw:=gw M I;refine⟨w,p2,B_,d,b++[j],rest.filter λx=>decide<|x≠j,rfl,(sA.trans s3).seq hw,aw.of O,aw.of o,hw8,by simp,λx F=>?_,λx F=>f x (j5.mp F).1,M.filter _,by omega,by rw[eR];show b.length+1+_<=8;omega,λY sH=>?_⟩
   ·rcases j6.mp F with z|z
    ·exact g x z
    ·rw[eG.mp z];exact hj
   have sE:=s1.trans<|s2.trans<|s3.trans sH;rw[show(rest.filter λx=>decide<|x≠j).length=n' by omega]
   cases cr:dB d n' (b++[j]) (rest.filter λx=>decide<|x≠j)with
   |true=>
    lia
    have:=q _<|v.trans sE
    unfold dB at this;rw[show(rest.any λj=>cF d (b.getLastD 0) j&&dB d n' (b++[j]) (rest.filter λk=>decide<|k≠j))=true from Wz.mpr ⟨j,I,by rw[show cF d (b.getLastD 0) j=true from c,cr];rfl⟩]at this
    exact this
   |false=>
    lia;exact nx _ sE (by rw[cr,KE])
  ·exact nx _ (ag.refl _) (by rw[show cF d (b.getLastD 0) j=false from Gc.mpr c];rfl)
 ·rintro σ J ⟨v,⟨z,rfl⟩,di⟩;lia
  have:=q _ v
  unfold dB at this;rw[show(rest.any λj=>cF d (b.getLastD 0) j&&dB d n' (b++[j]) (rest.filter λk=>decide<|k≠j))=false from List.any_eq_false.mpr λx hx=>?_]at this
  ·exact this
  ·obtain⟨t,L,e⟩:=qN hx;have e:rest.getD t 0=x:=by rw[T9 L];exact e
   have:=di t (by rw[ah];exact L)
   rw[e]at this;rw[this];decide
theorem ym(B:Bn mg)(D:Def K mg "_law_rings" eZ):∀n,Fn P w K mg base (n+2) "_law_rings" ["web","way","rest"] (lQ K n)
 |0=>by
  have F:Fn P w K mg base 1 "_law_rings" ["web","way","rest"] (λ_ _ _ _=>False):=by
   refine D.gq vR (λ_ _ _ _ _ _ e d=>by obtain⟨_,_,_,rfl⟩:=ME d;rfl) (λa H Q E h=>?_) ?_
   ·exact h.elim
   intro X S i e2 l j g hc b c f hu H a Q E h;exact h.elim
  exact tY B D F<|.inl rfl
 |n+1=>tY B D (ym B D n)<|.inr ⟨n,rfl,rfl⟩
noncomputable def Dc(ws l:d_)(i:Nat):Bool:=l.all λj=>decide (j=i)||cF ws i j
def Ut(H0:Hp)(c w p:Addr)(cs:e_)(l:d_)(k:Nat)(σ:L2.St)(H:Hp):Prop:=H=H0/\∃y,σ=[some (.ref c),some<|.ref w,some<|.ref p,some<|.int<|pr<|(pk cs l).take k,y,none]
def Uu(H0:Hp)(c w p:Addr)(cs:e_)(ws l:d_)(k:Nat)(σ:L2.St)(H:Hp):Prop:=ag H0 H/\∃y,σ=[some (.ref c),some<|.ref w,some<|.ref p,some<|.int<|pr<|pk cs l,y,some<|.int<|if(l.take k).all (Dc ws l)=true then gH cs l else 0]
def Kn(B:Bn mg)(D:Def K mg "_law_part_sure" fq)(jG:Fn P w K mg base 6 "_law_rings" ["web","way","rest"] (lQ K 4)):Fn P w K mg base 7 "_law_part_sure" ["counts","web","people"] (MW K 4):=by
 have zY:DS (aj fq) ["counts","web","people","whole","i","most"] ["counts","web","people"] ["sum","_law_rings","max","len"]:=aK;walk_at"hH";obtain⟨c,w,p,cs,ws,m,rfl,R,X,v,j,hn,hm,hl5,q⟩:=h;have rc:=EB (cs:=cs) (ws:=ws) (m:=m);have hnd:=ck m;have g:∀x∈aq m,x<cs.length:=λx hx=>eE hm<|bc.mp hx;have h8:=j.len;have hci:eI cs ws m=if bY ws (aq m)=true then gH cs (aq m)else 0:=rfl
 generalize aq m=l at *;have go:HD cs.length (false,l):=⟨g,by show l.length<=8;omega⟩
 have F:cj (pk cs l):=HE j go;have hP:1<=pr (pk cs l):=F.g7;refine zW _ ⟨_,(ae (aZ S 3 ax)
   (ae (dq hxe hc (bA (kv S 2) rfl) (kg S 4)<|ai<|aZ S 3<|aQ dv (kv S 3)<|fI (kv S 0)<|kv S 4)
   (ae (aZ S 5 (aQ ba (cq S 0 (cw hc rfl) B.sum boot_sum (aa (f9 S hc hsc (bA (kv S 2) rfl) (N:=["i","whole","counts"]) (W:=["i"]) (G:=[]) (fv:=[none,some 3,some 0]) Dk0 λcl C fp s H f=>⟨(kg f 0),aY,(aQ ba (kv f 1)<|jL (bh rfl) (kv f 2) (kv f 0) λ_ _=>rfl)⟩)))<|kv S 3))
   (ae (dq hxe hc (bA (kv S 2) rfl) (kg S 4) (ai (cM (aM (mh hu rfl) (f9 S hc hsc (bA (kv S 2) rfl) (N:=["j","i","web"]) (W:=["j"]) (G:=[]) (fv:=[none,some 4,some 1]) Dk0 λcl C fp s H f=>⟨(kg f 0),(c7<|wt<|qQ (aM iY (kv f 0) (kv f 1)<|ao _)<|lr<|aM aR (b9<|aQ ba (jL (bh rfl) (kv f 2) (kv f 1) λ_ _=>rfl)<|aQ bW ax<|kv f 0) ax<|ao _),(kv f 0)⟩) (dM bw)<|ao _) (ai<|aZ S 5 ax) az)))
   (ae (cM (wt (qQ (aM r8 (cq S 3 (av rfl) B.len kb<|aa<|kv S 2) ax<|ao _) (qQ (aM (dz hu rfl) (f9 S hc hsc (bA (kv S 2) rfl) (N:=["i","counts"]) (W:=["i"]) (G:=[]) (fv:=[none,some 0]) Dk0 λcl C fp s H f=>⟨(kg f 0),(c7<|aM iY (jL (bh rfl) (kv f 1) (kv f 0) λ_ _=>rfl) ax<|ao _),(kv f 0)⟩) (dM bw)<|ao _)<|lr<|mj<|cE S 1 jG hr<|ak (kv S 1)<|ak (dM<|aa<|fL<|kv S 2)<|aa<|qP (c5 rfl) (kv S 2) (bK ax) bJ))) (ai<|aZ S 5<|cq S 2 (mi hc) B.max boot_max<|ak ax<|aa<|kv S 5) az)
   (ai<|aH<|kv S 5)))))),?_⟩
 walk_at"h";walk_at"h";refine forL (ns:=au l) (Ut H c w p cs l) v ⟨rfl,_,rfl⟩ (λk σ H' h=>by rw[h.1];exact v) ?_ ?_
 ·walk_at"fo";rintro k σ H2 hk ⟨rfl,y,rfl⟩;walk_at"fg";rw[ah]at hk;rw[aA];have hj:=g _<|aX hk;lia;refine aN R rfl hj ?_;lia;have hk2:k<(pk cs l).length:=by rw[jg];exact hk
  refine⟨((F.take k).uH.ok (j.get hj).bt a_),rfl,some<|.int ((l.getD k 0:Nat):Int),?_⟩
  rw[take_snoc 0 hk2,ic,Aa hk]
 rintro σ H2 ⟨rfl,y,rfl⟩;rw[ah,<-jg (cs:=cs),sC];walk_at"i";refine He (λ_=>true) (λk=>pr (pk cs l) / (pk cs l).getD k 0) v (by rw[ah];exact aB (show l.length<=1000 by omega)) ?_ ?_
 ·intro k H3 A B' hk hS3 hA _;rw[ah]at hk;rw[aA];lia;refine aN (hS3.seq R) rfl (g _<|aX hk) ?_;lia;rw[<-Aa hk];exact⟨Hl F (by rw[jg];exact hk),hA rfl _<|ag.refl _⟩
 intro B_ H3 _ s3 L;rw[bz,ah,<-jg (cs:=cs),L2.map_getD (pk cs l) λc=>pr (pk cs l) / c]at L;refine i9 (aw.of L) ?_;rw[show((pk cs l).map λc=>pr (pk cs l) / c).sum=bQ (pr<|pk cs l) (pk cs l)from rfl]
 lia;refine⟨⟨by omega,F.uH.log (by omega) a_⟩,?_⟩
 walk_at"i";refine forL (ns:=au l) (Uu H2 c w p cs ws l) (s3.seq v) ⟨s3,_,rfl⟩ (λk σ J h=>h.1.seq v) ?_ ?_
 ·walk_at"fo";rintro k σ J hk ⟨I,y2,rfl⟩;walk_at"fg";rw[ah]at hk;rw[aA];have hi:=g _<|aX hk;have O:l.take (k+1)=l.take k++[l.getD k 0]:=take_snoc 0 hk;generalize hx:l.getD k 0=i at hi O;lia;refine He (λt=>!decide (l.getD t 0=i)&&!cF ws i (l.getD t 0)) (λt=>((l.getD t 0:Nat):Int)) (I.seq v) (by rw[ah];exact aB (by omega)) ?_ ?_
  ·intro t J2 A B' ht hS hA hB;rw[ah]at ht;rw[aA];lia;have hlt2:=g _<|aX ht
   by_cases n:l.getD t 0=i
   ·rw[cc (by rw[n]:((l.getD t 0:Nat):Int)=(i:Int))]
    lia;exact hB (by rw[cc n];rfl) _<|ag.refl _
   ·rw[dt (λz=>n (Wi z):¬((l.getD t 0:Nat):Int)=(i:Int))];lia;refine aN ((I.trans hS).seq X) rfl (by rw[ah,hn];exact hi) ?_
    rw[aA];lia;refine kH (by omega) ?_
    refine bT (λc2=>?_) λc2=>?_
    ·exact hA (by rw[dt n];exact c2) _<|ag.refl _
    ·exact hB (by rw[dt n];exact Gc.mpr c2) _<|ag.refl _
  intro Z J2 _ s2 d;rw[jk l (λx=>!decide (x=i)&&!cF ws i x)]at d;refine⟨a_,λu M=>?_⟩
  have U:=ag.new M<|.lst [];refine⟨_,_,.lst (aw.of<|U _ _ d)<|cG.ints _,.lst (aw.of af) .nil,bg _,a_,?_⟩
  rw[jP];have hg:(l.filter (λx=>!decide (x=i)&&!cF ws i x)=[])↔Dc ws l i=true:=by
   unfold Dc;rw[List.filter_eq_nil_iff,ka];refine forall_congr' λx=>forall_congr' λ_=>?_
   cases decide (x=i)<;>cases cF ws i x<;>decide
  have T:=I.trans<|s2.trans U
  by_cases E:l.filter (λx=>!decide (x=i)&&!cF ws i x)=[]
  ·rw[cc (by rw[E];rfl)]
   lia;refine⟨T,some<|.int ((i:Nat):Int),?_⟩;rw[O,List.all_append,WB,hg.mp E,List.all_nil,Bool.and_true,Bool.and_true]
  ·rw[dt (λz=>E (q5.mp<|q5.mp z):¬(au<|l.filter λx=>!decide (x=i)&&!cF ws i x).map PyData.int=[])];lia;refine⟨T,some<|.int ((i:Nat):Int),?_⟩;rw[O,List.all_append,WB,Gc.mpr λz=>E<|hg.mpr z,qs,KE]
   rfl
 rintro σ J ⟨I,y2,rfl⟩;rw[ah,sC,show l.all (Dc ws l)=bY ws l from rfl,<-hci]
 walk_at"i";have no:¬jl cs ws m->∀H',ag H2 H'->Q (.int<|eI cs ws m) H':=λe H' s=>by
  have:=x9 j.pos hm (b:=False) ⟨λz=>z.elim,e⟩
  rw[if_neg (λz=>z)]at this;rw[this];exact q _ s
 refine aI (.inl<|I.seq v) ?_;rw[b5,ah];lia
 by_cases h2:1<l.length
 ·rw[if_pos (by omega)]
  refine He (λt=>decide<|cs.getD (l.getD t 0) 0≠2) (λt=>((l.getD t 0:Nat):Int)) (I.seq v) (by rw[ah];exact aB (by omega)) ?_ ?_
  ·intro t J2 A B' ht hS hA hB;rw[ah]at ht;rw[aA];lia;refine aN ((I.trans hS).seq R) rfl (g _<|aX ht) ?_;lia
   by_cases n:cs.getD (l.getD t 0) 0=2
   ·rw[cc n];lia;exact hB (dt λz=>z n) _<|ag.refl _
   ·rw[dt n];lia;exact hA (cc n) _<|ag.refl _
  intro Z J2 _ s2 d;rw[jk l (λx=>decide<|cs.getD x 0≠2)]at d;refine⟨a_,λu M=>?_⟩
  have U:=ag.new M<|.lst [];refine⟨_,_,.lst (aw.of<|U _ _ d)<|cG.ints _,.lst (aw.of af) .nil,bg _,a_,?_⟩
  rw[jP];have T:=I.trans<|s2.trans U
  by_cases E:l.filter (λx=>decide<|cs.getD x 0≠2)=[]
  ·rw[cc (by rw[E];rfl)]
   have h22:∀x∈l,cs.getD x 0=2:=λx hx=>nc λz=>List.filter_eq_nil_iff.mp E x hx<|cc z;lia;refine aN (k:=0) (T.seq v) rfl (by rw[ah];omega) ?_
   rw[aA];refine⟨a_,λp2 hp2=>?_⟩
   have s4:=ag.new hp2<|.lst [V.int ((l.getD 0 0:Nat):Int)];have sF:=T.trans s4;refine LZ (r:=l) (sF.seq v) λp3 Y=>?_;have hd:Hx l (some 1) none=l.drop 1:=by
    unfold Hx HT.dW
    dsimp only
    rw[if_neg a_,show min (toNat 1) l.length=1 from Nat.min_eq_left (by omega),vr]
    rw[nt];exact dy _
   rw[hd];have s5:=ag.new Y<|.lst<|(au<|l.drop 1).map V.int;have hp3:=af (H:=upd (upd J2 u<|.lst []) p2<|.lst [V.int ((l.getD 0 0:Nat):Int)]) (a:=p3) (o:=.lst<|(au<|l.drop 1).map V.int);have sub:∀x∈l.drop 1,x∈l:=λx hx=>mem_of_mem_drop hx;refine⟨w,p2,p3,ws,[l.getD 0 0],l.drop 1,rfl,(sF.trans s5).seq X,aw.of<|s5 _ _ af,aw.of hp3,by omega,by simp,λx hx=>?_,λx hx=>by rw[hn];exact g x<|sub x hx,hnd.sublist<|drop_sublist _ _,by rw[nt];omega,by rw[nt];show 1+_<=8;omega,λH' sH=>?_⟩
   ·rw[eG.mp hx,hn];exact g _ (aX (by omega))
   have sG:=sF.trans<|s5.trans sH;rw[nt]
   cases cr:dB ws (l.length-1) [l.getD 0 0] (l.drop 1)with
   |true=>
    lia;have wo:=x9 j.pos hm (b:=True) ⟨λ_=>rc.mp ⟨h2,h22,cr⟩,λ_=>trivial⟩;rw[if_pos trivial]at wo
    have:=q _ sG
    rw[<-wo]at this;rw[show(if eI cs ws m>1 then eI cs ws m else 1)=max 1 (eI cs ws m) by omega]
    exact this
   |false=>
    lia;exact no (λz=>by have:=(rc.mpr z).2.2;rw[cr]at this;cases this) _ sG
  ·rw[dt (λz=>E (q5.mp<|q5.mp z):¬(au<|l.filter λx=>decide<|cs.getD x 0≠2).map PyData.int=[])];lia;refine no (λz=>E<|List.filter_eq_nil_iff.mpr λx hx=>?_) _ T;rw[(rc.mpr z).2.1 x hx];decide
 ·rw[if_neg (by omega)]
  lia;exact no (λz=>h2 (rc.mpr z).1) _ I
noncomputable def wv (cs:e_)(ws:d_)(m a:Nat)(l:d_)(k:Nat):Nat:=worth cs ws (2 ^ a+mask (bH l k))+most (worth cs ws) ((m-2 ^ a)-mask (bH l k))
def Uv(H0:Hp)(c w p:Addr)(cs:e_)(ws:d_)(m a:Nat)(l:d_)(k:Nat)(σ:L2.St)(H:Hp):Prop:=ag H0 H/\∃(b:Nat) (y1 y2 y3:v_),σ=[some (.ref c),some<|.ref w,some<|.ref p,some<|.int (b:Int),y1,y2,y3]/\(∀t,t<k->wv cs ws m a l t<=b)/\(b=0∨∃t,t<k/\b=wv cs ws m a l t)
def yn:DS (aj fW) ["counts","web","people","best","mask","some","rest"] ["counts","web","people"] ["range","max","len","_law_part_sure","_law_best"]:=aK
def tZ(B:Bn mg)(D:Def K mg "_law_best" fW)(cT:Fn P w K mg base 7 "_law_part_sure" ["counts","web","people"] (MW K 4)){n j:Nat}{sp:Sp}(kW:Fn P w K mg base (j+7) "_law_best" ["counts","web","people"] sp)(hF:n=0∨∃n',n=n'+1/\sp=lR K n'):Fn P w K mg base (j+8) "_law_best" ["counts","web","people"] (lR K n):=by
 have zY:DS (aj fW) ["counts","web","people","best","mask","some","rest"] ["counts","web","people"] ["range","max","len","_law_part_sure","_law_best"]:=aK;walk_at"hH";obtain⟨c,w,p,f,o,m,rfl,T,O,F,U,hn,hm,hl,E,q⟩:=h;have h0:=kC f o;refine zW _ ⟨_,(ae (cM (aM (dz hu rfl) (kv S 2) (dM bw)<|ao _) (ai<|aH ax) az)
   (ae (aZ S 3 ax)
   (ae (dq hxe hc (fj S 0 B.range<|aa<|aQ bW ax<|aQ cK (cq S 2 (av rfl) B.len kb<|aa<|kv S 2) ax) (kg S 4) (ae (aZ S 5 (aQ (cR rfl) (dM<|aa<|fL<|kv S 2) (f9 S hc hsc (Lx S 0 B.range<|ak ax<|aa<|cq S 2 (av rfl) B.len kb<|aa<|kv S 2) (N:=["k","mask","people"]) (W:=["k"]) (G:=[]) (fv:=[none,some 4,some 2]) Dk0 λcl C fp s H e=>⟨(kg e 0),(c7<|aM aR (b9<|aQ ba (kv e 1)<|aQ bW ax<|aQ cK (kv e 0) ax) ax<|ao _),(jL (bh rfl) (kv e 2) (kv e 0) λ_ _=>rfl)⟩)))
   (ae (Ku (i:=6) S hc hsc (bA (kv S 2) rfl) (N:=["i","some"]) (W:=["i"]) (G:=[]) (fv:=[none,some 5]) Dk0 (λcl C fp s H e=>⟨(kg e 0),(c7 (aM (dD rfl) (kv e 0) (kv e 1) (by with_unfolding_all rfl))),(kv e 0)⟩) (by rw[hsc];decide +kernel) (by rw[dw,hsc];rfl))
   (ai (aZ S 3 (cq S 1 (mi hc) B.max boot_max (ak (kv S 3) (aa (aQ aW (cE S 3 cT hr (ak (kv S 0)<|ak (kv S 1)<|aa<|kv S 5) (hk:=by omega))<|cE S 4 kW hr (ak (kv S 0)<|ak (kv S 1)<|aa<|kv S 6) (hk:=dy _))))))))))
   (ai<|aH<|kv S 3)))),?_⟩
 walk_at"h";refine⟨a_,λu hu1=>?_⟩
 have Z:=ag.new hu1<|.lst [];refine⟨_,_,.lst (Z.seq F)<|cG.ints _,.lst (aw.of af) .nil,bg _,a_,?_⟩
 rw[jP]
 by_cases M:aq m=[]
 ·rw[cc (by rw[M];rfl)]
  lia;have m0:m=0:=by rw[<-jR m,M];rfl
  have:=q _ Z
  rw[m0,dZ.uniq (lP h0 0)<|dZ.zero h0]at this;exact this
 rw[dt (show ¬(au<|aq m).map PyData.int=[]from λz=>M<|q5.mp<|q5.mp z)]
 lia;obtain⟨n',rfl,rfl⟩:=hF.resolve_left λz=>M (FS.mp (by omega))
 obtain⟨a,l,y⟩:∃a l,aq m=a::l:=by cases h:aq m with|nil=>exact absurd h M|cons a l=>exact⟨a,l,rfl⟩
 rw[y]at F hl E;have E:l.length+1<=5:=E;have hl:l.length+1<=n'+1:=hl;have hlt:∀x∈a::l,x<f.length:=λx hx=>eE hm (bc.mp (by rw[y];exact hx))
 walk_at"h";walk_at"h";refine aI (.inl<|Z.seq F) ?_;rw[b5,ah];lia;have e1:((l.length+1:Nat):Int)-1=(l.length:Nat):=by omega
 rw[e1];have hp2:2 ^ l.length<=2 ^ 5:=oD a_ (by omega)
 refine⟨dY (by omega),?_⟩
 refine forR (2 ^ l.length) (Uv H c w p f o m a l) (by rw[k4,WC];exact(natCast_pow 2 l.length).symm) (by omega) ⟨Z,0,_,_,_,rfl,λt I=>absurd I<|sU t,.inl rfl⟩ ?_ ?_
 ·walk_at"fo";rintro k σ J hk ⟨sJ,b,y1,y2,y3,rfl,up,at_⟩;walk_at"fg";walk_at"i";refine aN (k:=0) (sJ.seq F) rfl (by rw[ah];exact succ_pos _) ?_
  rw[aA];refine⟨a_,λp1 hp1=>?_⟩
  have s1:=ag.new hp1<|.lst [V.int (((a::l).getD 0 0:Nat):Int)];have sA:=sJ.trans s1;refine aI (.inl<|sA.seq F) ?_;rw[b5,ah];lia;refine Vy (lo:=1) (n:=l.length) (λt=>k.testBit t) (λt=>((l.getD t 0:Nat):Int)) rfl (by show((l.length+1:Nat):Int)=_;omega) (by omega) ?_ ?_
  ·intro t J2 A B' I hS hA hB;lia;rw[show((1+t:Nat):Int)-1=((t:Nat):Int) by omega]
   lia;refine kH (by omega) ?_
   refine bT (λc2=>?_) λc2=>?_
   ·refine aN (k:=1+t) ((sA.trans hS).seq F) rfl (by rw[ah];show 1+t<l.length+1;omega) ?_
    rw[aA,Nat.add_comm 1 t];exact hA (by rw[oi];exact cc (by omega)) _<|ag.refl _
   ·exact hB (by rw[oi];exact dt (by omega)) _<|ag.refl _
  intro B_ J2 _ s2 g;rw[show(((List.range l.length).filter λt=>k.testBit t).map λt=>((l.getD t 0:Nat):Int))=au (bH l k) by unfold bH au;rw[k6];rfl]at g
  have hpk:(bH l k).length<=l.length:=by unfold bH;rw[b5];exact gr (x6 _ _) (by rw[h7];exact dy _)
  refine L0 (r:=[a]) (q':=bH l k) (aw.of<|s2 _ _ af) (aw.of g) (by show 1+_<=1000;omega) λp2 X=>?_
  have s3:=ag.new X<|.lst<|(au<|[a]++bH l k).map V.int;have sB:=sA.trans<|s2.trans s3;have R:=MV y k;walk_at"i";refine He (λt=>decide ((a::l).getD t 0∉a::bH l k)) (λt=>(((a::l).getD t 0:Nat):Int)) (sB.seq F) (by rw[ah];exact aB (by show l.length+1<=1000;omega)) ?_ ?_
  ·intro t J3 A B' I hS hA hB;rw[ah]at I;rw[aA];lia;refine pw (a:=a::bH l k) (.inl<|aw.of<|hS _ _ af) ?_
   by_cases Y:(a::l).getD t 0∈a::bH l k
   ·rw[cc Y];lia;exact hB (dt λz=>z Y) _<|ag.refl _
   ·rw[dt Y];lia;exact hA (cc Y) _<|ag.refl _
  intro Q J3 _ s4 d;rw[jk (a::l) (λx=>decide (x∉a::bH l k))]at d;rw[CY y k]at d;lia;have L:=sB.trans s4;have le1:=(AV y k).le;have le2:=(eQ<|AU y).le;have hrl:(aq<|(m-2 ^ a)-mask (bH l k)).length<=l.length:=by
   rw[<-CY y k,List.filter_cons_of_neg (by simp)];exact x6 _ _
  refine⟨c,w,p2,f,o,2 ^ a+mask (bH l k),rfl,L.seq T,L.seq O,by rw[R];exact aw.of<|s4 _ _ af,U,hn,by omega,by rw[R];show(bH l k).length+1<=5;omega,λH5 s5=>?_⟩
  refine⟨c,w,Q,f,o,(m-2 ^ a)-mask (bH l k),rfl,(L.trans s5).seq T,(L.trans s5).seq O,aw.of<|s5 _ _ d,U,hn,m2 (gr (sub_le _ _)<|sub_le _ _) hm,by omega,by omega,λH6 s6=>?_⟩
  lia;have ev:((worth f o (2 ^ a+mask (bH l k)):Nat):Int)+((most (worth f o) ((m-2 ^ a)-mask (bH l k)):Nat):Int)=((wv f o m a l k:Nat):Int):=by unfold wv;omega
  rw[ev];generalize hv:wv f o m a l k=v;refine⟨L.trans<|s5.trans s6,max b v,_,_,_,by rw[show(if(v:Int)>(b:Int)then(v:Int)else(b:Int))=((max b v:Nat):Int) by split<;>omega],λt I=>?_,?_⟩
  ·by_cases et:t=k
   ·rw[et,hv];omega
   ·have:=up t (by omega);omega
  ·by_cases hb:b<v
   ·exact .inr ⟨k,by omega,by rw[hv];omega⟩
   ·rcases at_ with z|⟨t,I,z⟩
    ·exact .inl (by omega)
    ·exact .inr ⟨t,by omega,by omega⟩
 ·rintro σ J ⟨sJ,b,y1,y2,y3,rfl,up,at_⟩;lia;rw[EA y h0 up at_];exact q _ sJ
theorem yo(B:Bn mg)(D:Def K mg "_law_best" fW)(cT:Fn P w K mg base 7 "_law_part_sure" ["counts","web","people"] (MW K 4)):∀n,Fn P w K mg base (n+8) "_law_best" ["counts","web","people"] (lR K n)
 |0=>by
  have F:Fn P w K mg base 7 "_law_best" ["counts","web","people"] (λ_ _ _ _=>False):=by
   refine D.gq yn (λ_ _ _ _ _ _ e d=>by obtain⟨_,_,_,rfl⟩:=ME d;rfl) (λa H Q E h=>?_) ?_
   ·exact h.elim
   intro X S i e2 m l g hc b c f hu H a Q E h;exact h.elim
  exact tZ B D cT (j:=0) F<|.inl rfl
 |n+1=>tZ B D cT (j:=n+1) (yo B D cT n)<|.inr ⟨n,rfl,rfl⟩
def Ro(B:Bn mg)(D:Def K mg "_law_all_hats" fX):Fn P w K mg base 1 "_law_all_hats" ["counts"] (HC K):=by
 have zY:DS (aj fX) ["counts","found","count","longer","hats"] ["counts"] ["range"]:=aK;walk_at"hH";obtain⟨c,d,rfl,L,n,q⟩:=h;have h8:=n.len;refine zW _ ⟨_,(ae (aZ S 1<|dM<|aa<|dM bw)
   (ae (dq hxe hc (bA (kv S 0) rfl) (kg S 2) (ae (aZ S 3<|dM bw)
   (ae (dq hxe hc (bA (kv S 1) rfl) (kg S 4) (ai (aZ S 3 (aQ (cR rfl) (kv S 3) (f9 S hc hsc (fj S 0 B.range<|aa<|kv S 2) (N:=["colour","hats"]) (W:=["colour"]) (G:=[]) (fv:=[none,some 4]) Dk0 λcl C fp s H S2=>⟨(kg S2 0),aY,(aQ (cR rfl) (kv S2 1)<|dM<|aa<|kv S2 0)⟩)))))
   (ai<|aZ S 1<|kv S 3))))
   (ai<|aH<|kv S 1))),?_⟩
 cbv;refine⟨a_,λt ht=>⟨a_,λl hl=>?_⟩⟩
 have st:=ag.new ht<|.lst [];have sl:=st.trans<|ag.new hl<|.lst [.ref t];have I:t≠l:=aO af hl;refine forL (Ta H c d) (sl.seq L) ⟨l,l,[.ref t],_,_,_,rfl,sl,af,⟨⟨t,rfl,I,by rw[aC I];exact af⟩,trivial⟩⟩ (λi σ H' h=>by obtain⟨l,Z,Y,T,y2,y3,_,z,_⟩:=h;exact z.seq L) ?_ ?_
 ·walk_at"fo";rintro i σ H1 hi ⟨l,Z,Y,T,y2,y3,rfl,z,g,F⟩;walk_at"fg";have hb:=n.get hi;cbv;refine⟨a_,λm hm=>?_⟩
  have R:=ag.new hm<|.lst [];refine S8 (Tb H c l Z Y d i) (aw.of<|R _ _ g) (F.mono R) ⟨m,m,[],_,rfl,z.trans R,R _ _ g,F.mono R,af,trivial⟩ (λj σ H' h=>by obtain⟨m,ey,y,T,_,_,a,b,_⟩:=h;exact⟨aw.of a,b⟩) ?_ ?_
  ·rintro j r σ H2 hj ay ⟨m,ey,y,T,rfl,v,X,Q,p,f⟩;cbv;refine S9 (d.getD i 0).toNat (λx=>(gB<|d.take i).getD j []++[((x:Nat):Int)]) (by omega) (by omega) ?_ ?_
   ·intro x H3 A hx e hA;cbv;refine⟨a_,λu hu'=>?_⟩
    have su:=ag.new hu'<|.lst [.int ((x:Nat):Int)];refine jN (ns:=(gB<|d.take i).getD j []) (ms:=[((x:Nat):Int)]) (su.seq<|e.seq<|aw.of ay) (aw.of af) ?_ λa ha=>hA a _ (su.trans<|ag.new ha _) (su.free ha) af;have M:(gB<|d.take i).getD j []∈gB (d.take i):=DP hj
    have:=(wZ n.lo i (by omega) _ M).1
    exact c8 (by rw[this];show i+1<=100;omega)
   ·intro B_ zs H3 hn e E U;have ab:=e _ _ p;refine⟨m,B_,y,zs,rfl,rfl,aw.of ab,aw.of E,?_,λo ho=>?_⟩
    ·rw[f.length,U.length,uK,ri,b5,h7];have h1:=n.pre (i+1) (by omega)
     rw[dQ hi,uK]at h1;have h2:min j (gB<|d.take i).length*(d.getD i 0).toNat<=(gB<|d.take i).length*(d.getD i 0).toNat:=AC _ (by omega)
     exact ie (by omega)
    ·have so:=e.trans<|ag.new ho<|.lst<|y++zs;have J:=(f.mono e).to ho;have O:=U.to ho;refine⟨o,o,y++zs,_,rfl,v.trans so,so _ _ X,Q.mono so,af,?_⟩;rw[Hm hj];exact(J.append O).upd
  ·rintro σ H2 ⟨m,ey,y,T,rfl,v,X,Q,p,f⟩;cbv;refine⟨m,ey,y,_,_,_,rfl,v,p,?_⟩;rw[sC]at f;rw[dQ hi];exact f
 ·rintro σ H1 ⟨l,Z,Y,T,y2,y3,rfl,z,g,F⟩;cbv;rw[sC]at F;exact q l Z Y H1 z g F
def Uw(H0:Hp)(d nm ct f:Addr)(cs:d_)(L:B0L)(hs:e_)(k:Nat)(σ:L2.St)(H:Hp):Prop:=∃y1 y2:v_,σ=[some (.ref d),some<|.ref nm,some<|.ref ct,some<|.ref f,y1,y2]/\ag H0 H/\H f=some (.lst<|((List.range k).map λi=>ip (au cs) L hs i).map V.int)
def Bp(B:Bn mg)(aS:eU K mg "Hall" ay ["counts","groups","worn"])(bp:eU K mg "Desk" aE ["book","hall"])(D:Def K mg "_law_guesses" gY)(cp:qY P w K mg base 7 aE "ask" ["self","line"] (iC K ay aE)):Fn P w K mg base 8 "_law_guesses" ["desk","names","counts"] (jo K ay aE):=by
 have zY:DS (aj gY) ["desk","names","counts","found","i","rows"] ["desk","names","counts"] ["range","len","int"]:=aK;walk_at"hH";obtain⟨d,hl,t,ct,Z,n,ws,L,X,rfl,Y,D,p,u,x,q⟩:=h;have P:=D.Br;obtain⟨⟨ab,bk,hd,_⟩,_⟩:=id Y;have h8:=P.nm.fJ;have R:(1000:Nat)<=sizeLine:=by decide
 have eg:("guess ":Str).length=6:=by decide +kernel
 refine zW _ ⟨_,(ae (aZ S 3<|dM bw)
   (ae (dq hxe hc (fj S 0 B.range<|aa<|cq S 1 (av rfl) B.len kb<|aa<|kv S 1) (kg S 4) (ae (aZ S 5<|ID bp cp gj hr (kv S 0)<|aa<|aQ bu br<|fI (kv S 1)<|kv S 4)
   (ae (cM (wt (Lw (aM iY (cq S 1 (av rfl) B.len kb<|aa<|kv S 5) ax<|ao _) (uC (aM (dD rfl) (fL<|kv S 5) (f9 S hc hsc (fj S 0 B.range<|aa<|fI (kv S 2)<|kv S 4) (N:=["colour"]) (W:=["colour"]) (G:=["str"]) (fv:=[none]) Dk0 λcl C fp s H E=>⟨(kg E 0),aY,(jM E 0 bX B.str boot_str<|aa<|kv E 0)⟩) (by with_unfolding_all rfl))))) (ai<|aH pd) az)
   (ai<|fC<|kY rr oq pS cu rfl (kv S 3)<|aa<|jM S 2 iq B.int boot_int<|aa<|fL<|kv S 5))))
   (ai<|aH<|kv S 3))),?_⟩
 walk_at"h";refine⟨a_,λf m=>?_⟩
 have Q:=ag.new m<|.lst [];walk_at"i";refine aI (.inl<|Q.seq p) ?_;rw[b5];refine forR Z.length (Uw H d t ct f n L X) rfl (by omega) ⟨_,_,rfl,Q,af⟩ ?_ ?_
 ·walk_at"fo";rintro k σ J hk ⟨y1,y2,rfl,j,v⟩;walk_at"fg";have I:=P.nm.nm _<|getD_memS hk;have nl:=(ir I).2.2;walk_at"i";refine kl (j _ _ hd) pY ?_;refine aD (j.seq p) (aG<|bb hk) ?_;refine⟨_,_,rfl,rfl,by rw[eg];omega,?_⟩
  rw[AM];refine iD (.fD k) (Y.mono j) D hk λr H1 z _ b=>?_;walk_at"i";refine aI (.inl<|aw.of b) ?_;lia;have l:k<n.length:=by rw[P.lc];exact hk
  have y:n.getD k 0<=64:=x _<|aX l;rw[if_neg a_]
  refine aD (i:=0) (aw.of b) rfl ?_;refine aN (k:=k) ((j.trans z).seq u) rfl (by rw[ah];exact l) ?_
  rw[aA];refine⟨_,rfl,by omega,by omega,?_⟩
  rw[k4];refine wu kr (λ_=>true) (λi=>.str<|cX ((i:Nat):Int)) (m2 y a_) (λi H2 A B' hi hS hA hB=>?_) λB_ H2 _ O e=>?_
  ·rw[Int.zero_add];lia;exact⟨_,rfl,by rw[Da];exact m2 (log2_le_self i) (by omega),hA rfl _<|ag.refl _⟩
  rw[bz]at e;have T:=ow P.p5.pos D.f7 D.AG (i:=k) (by rw[ah];exact l)
  rw[aA]at T;obtain⟨g,o⟩:∃g:Nat,ip (au n) L X k=(g:Int):=⟨_,(Int.toNat_of_nonneg T.1).symm⟩;have M:g<n.getD k 0:=by omega
  rw[o]at b ⊢;have U:=jn (c:=g) (by omega)
  refine vh (a:=(List.range<|n.getD k 0).map λi=>cX ((i:Nat):Int)) (.inl (aw.of (by rw[k6];exact e))) ?_
  rw[cc (gh.mpr ⟨g,fO.mpr M,rfl⟩)];lia;rw[if_neg (by simp)]
  lia;have FC:=(z.trans O) _ _ v;refine⟨.inl ⟨rfl,_,aw.of FC⟩,?_⟩;refine aD (i:=0) (aw.of<|O _ _ b) rfl ?_;refine⟨_,_,rfl,U.2.1,gr U.2.2.2 a_,?_⟩
  refine Q6 FC (by rw[b5,b5,h7];omega) ?_
  refine⟨_,_,rfl,(j.trans<|z.trans O).set m _,?_⟩;rw[af,u5,hU,hU,<-o]
  rfl
 ·rintro σ J ⟨y1,y2,rfl,j,v⟩;lia;exact q f J j m v
def Ux(H0:Hp)(d ct wd:Addr)(cs:e_)(k:Nat)(σ:L2.St)(H:Hp):Prop:=H=H0/\∃y:v_,σ=[some (.ref d),some<|.ref ct,some<|.ref wd,some<|.int<|pr<|cs.take k,y,none,none]
def OP(H0:Hp)(d ct wd:Addr)(O W:Nat)(k:Nat)(σ:L2.St)(H:Hp):Prop:=H=H0/\∃(o w:Nat) (y z:v_),σ=[some (.ref d),some<|.ref ct,some<|.ref wd,some<|.int (w:Int),y,some<|.int (o:Int),z]/\(∃g,0<g/\O=g*o/\W=g*w)/\0<w/\∀p,2<=p->p<2+k->¬(p∣o/\p∣w)
def yp(B:Bn mg)(aS:eU K mg "Hall" ay ["counts","groups","worn"])(bp:eU K mg "Desk" aE ["book","hall"])(D:Def K mg "_law_share_told" eK)(cp:qY P w K mg base 7 aE "ask" ["self","line"] (iC K ay aE)):Fn P w K mg base 8 "_law_share_told" ["desk","counts"] (kG K ay aE):=by
 have zY:DS (aj eK) ["desk","counts","words","whole","count","over","k"] ["desk","counts"] ["sum","range","str"]:=aK;walk_at"hH";obtain⟨d,hl,ct,ns,f,ws,L,hs,rfl,hD,D,M,h6,q⟩:=h;have P:=D.Br;have t:=P.p5;obtain⟨⟨ddx,bk,hd,_⟩,_⟩:=id hD;refine zW _ ⟨_,(ae (aZ S 2<|kY yP KF type_str_split dh rfl (fL<|ID bp cp gj hr (kv S 0)<|aa br)<|aa br)
   (ae (aZ S 3 ax)
   (ae (dq hxe hc (bA (kv S 1) rfl) (kg S 4)<|ai<|aZ S 3<|aQ dv (kv S 3)<|kv S 4)
   (ae (aZ S 5 (cq S 0 (cw hc rfl) B.sum boot_sum (aa (f9 S hc hsc (bA (kv S 1) rfl) (N:=["count","whole"]) (W:=["count"]) (G:=[]) (fv:=[none,some 3]) Dk0 λcl C fp s H S2=>⟨(kg S2 0),aY,(aQ ba (kv S2 1)<|kv S2 0)⟩))))
   (ae (dq hxe hc (Lx S 1 B.range<|ak ax<|aa ax) (kg S 6) (ai (uD hxe (wt<|qQ (aM aR (aQ dk (kv S 5)<|kv S 6) ax<|ao _)<|lr<|aM aR (aQ dk (kv S 3)<|kv S 6) ax<|ao _) (ae (aZ S 5<|aQ ba (kv S 5)<|kv S 6)
   (ai<|aZ S 3<|aQ ba (kv S 3)<|kv S 6)))))
   (ae (cM (aM (dz hu rfl) (kv S 1) (dM bw)<|ao _) (ai<|aZ S 5 ax) az)
   (ai<|aH<|fi (dz hu rfl) (kv S 2) (dM<|ak (jM S 2 bX B.str boot_str<|aa<|kv S 5)<|aa<|jM S 2 bX B.str boot_str<|aa<|kv S 3)<|ao _))))))),?_⟩
 walk_at"h";refine kl hd pY ?_;rw[show("share":Str)=Str.join ⟨#[32]⟩ (jZ ns<|.told .share)from rfl]
 refine iD (.told .share) hD D trivial λr rows H1 s1 _ hr1 hT=>?_;have hT:rows=[kE (au f)]:=hT;subst hT;refine aD (i:=0) (aw.of hr1) rfl ?_;have o0:=zM t;have u1:=ph t;obtain⟨a,ea⟩:∃a:Nat,Oe (au f)=(a:Int):=⟨_,(toN o0).symm⟩;obtain⟨b,eb⟩:∃b:Nat,Kv (au f)=(b:Int):=⟨_,(toN (show 0<=Kv (au f) by omega)).symm⟩
 have esp:Txt.split (kE<|au f) ("/":Str)=[cX (a:Int),cX (b:Int)]:=by unfold kE;rw[ea,eb];exact ya
 have hla:(cX (a:Int)).length<=300:=by rw[<-ea];exact(cO o0 (zN t) a_).1
 have hlb:(cX (b:Int)).length<=300:=by rw[<-eb];exact(cO (by omega) (uI t) a_).1
 have hsz:(1000:Nat)<=sizeLine:=by decide
 have hls:(kE<|au f).length+2<=sizeLine:=by
  unfold kE;rw[ea,eb];rw[aJ]at hla hlb;rw[aJ,bO,bO,eR,eR,show(cz<|("/":Str)).length=1 by decide +kernel]
  omega
 refine⟨rfl,Jr Dk0 hls (by rw[esp];show 2<=sizeLine;omega) λT hw0=>?_⟩
 rw[esp];generalize eH:upd H1 T _=H2;obtain⟨s2,hwd⟩:=iS hw0 eH;clear eH;have sA:=s1.trans s2;walk_at"i";walk_at"h";refine forL (ns:=au f) (Ux H2 d ct T<|au f) (sA.seq M) ⟨rfl,_,rfl⟩ (λk σ E h=>by rw[h.1];exact sA.seq M) ?_ ?_
 ·walk_at"fo";rintro k σ J hk ⟨rfl,y,rfl⟩;walk_at"fg";lia;refine⟨((t.take k).uH.ok (t.get hk).bt a_),rfl,some<|.int<|(au f).getD k 0,?_⟩
  rw[take_snoc 0 hk,ic]
 rintro σ J ⟨rfl,y,rfl⟩;rw[sC];walk_at"i";refine He (λ_=>true) (λk=>pr (au f) / (au f).getD k 0) (sA.seq M) (by rw[ah];exact aB (by have:=P.nm.fJ;have:=P.lc;omega)) ?_ ?_
 ·intro k H3 A B' hk hS3 hA _;lia;exact⟨Hl t hk,hA rfl _<|ag.refl _⟩
 intro B_ H3 _ s3 R;rw[bz,L2.map_getD (au f) λc=>pr (au f) / c]at R;refine i9 (aw.of R) ?_;rw[show((au f).map λc=>pr (au f) / c).sum=bQ (pr<|au f) (au f)from rfl]
 walk_at"i";obtain⟨W,eW⟩:∃W:Nat,pr (au f)=(W:Int):=⟨_,(toN (show 0<=pr (au f) by have:=t.g7;omega)).symm⟩
 obtain⟨O,eO⟩:∃O:Nat,bQ (pr<|au f) (au f)=(O:Int):=⟨_,(toN t.RF).symm⟩;have hW:0<W:=by have:=t.g7;omega
 rw[eW]at eO ⊢;rw[eO];refine HL (lo:=2) (n:=5) (OP H3 d ct T O W) rfl rfl a_ ⟨rfl,O,W,_,_,rfl,⟨1,a_,by omega,by omega⟩,hW,λp h1 h2=>by omega⟩ ?_ ?_
 ·walk_at"fo";rintro k σ J hk ⟨rfl,o,w,y1,z1,rfl,Z,hw,v⟩;walk_at"fg";have U:0<2+k:=by omega
  generalize hp:2+k=p at U v;lia;refine uP (λm σ E=>E=J/\∃o w:Nat,m=w/\σ=[some (.ref d),some<|.ref ct,some<|.ref T,some<|.int (w:Int),y1,some<|.int (o:Int),some<|.int (p:Int)]/\(∃g,0<g/\O=g*o/\W=g*w)/\0<w/\∀I,2<=I->I < p->¬(I∣o/\I∣w)) w ⟨rfl,o,w,rfl,rfl,Z,hw,v⟩ ?_;rintro m σ E ⟨rfl,o,w,rfl,rfl,Z,hw,v⟩;lia;have dn:¬(p∣o/\p∣m)->OP E d ct T O W (k+1) [some (.ref d),some<|.ref ct,some<|.ref T,some<|.int (m:Int),y1,some<|.int (o:Int),some<|.int (p:Int)] E:=λz=>⟨rfl,o,m,_,_,rfl,Z,hw,λI h1 h2=>by
   by_cases e:I=p
   ·rw[e];exact z
   ·exact v I h1 (by omega)⟩
  refine⟨by omega,bT (λc1=>⟨by omega,bT (λc2=>?_) λc2=>?_⟩) λc1=>?_⟩
  ·have d1:p∣o:=Nat.dvd_of_mod_eq_zero<|Wi<|show((o%p:Nat):Int)=((0:Nat):Int)from c1
   have d2:p∣m:=Nat.dvd_of_mod_eq_zero<|Wi<|show((m%p:Nat):Int)=((0:Nat):Int)from c2
   have hlt:m / p<m:=Nat.div_lt_self hw (by omega)
   have hm1:0<m / p:=Nat.div_pos (Nat.le_of_dvd hw d2) U;have hlg:((p:Nat):Int).natAbs.log2<9000:=by rw[Da];exact m2 (log2_le_self p) (by omega)
   refine uQ ?_;walk_at"h";refine⟨⟨by omega,hlg⟩,?_⟩
   lia;refine⟨⟨by omega,hlg⟩,?_⟩
   exact⟨m / p,hlt,trivial,o / p,m / p,rfl,rfl,AH.Jy Z d1 d2 U,hm1,λI h1 h2=>AH.Jz (v I h1 h2) d1 d2⟩
  ·exact dn λz=>c2<|BA ofNat<|Nat.mod_eq_zero_of_dvd z.2
  ·exact dn λz=>c1<|BA ofNat<|Nat.mod_eq_zero_of_dvd z.1
 ·rintro σ J ⟨rfl,o,w,y1,z1,rfl,Z,hw,v⟩;walk_at"i";obtain⟨g,hg0,gO,gW⟩:=Z;have epr:=vG f;have eWp:W=AH.cC f:=by rw[epr]at eW;exact(Wi eW).symm
  have hone:∀c∈f,1<=c/\c<=6:=λc hc'=>⟨by have:=t.pos (c:Int)<|gh.mpr ⟨c,hc',rfl⟩;omega,h6 c hc'⟩
  obtain⟨Y,le2⟩:=AH.MU hone gO (by rw[<-eWp];exact gW) hg0 (v 2 a_ a_) (v 3 a_ a_) (v 5 a_ a_)
  have hgC:gC (au f)=Nat.gcd O (AH.cC f):=by
   unfold gC;rw[show bQ (pr<|au f) (au f)=(O:Int) by rw[eW];exact eO,eW,k4,k4,eWp]
  have eao:a=o:=by
   have:Oe (au f)=((O / Nat.gcd O (AH.cC f):Nat):Int):=by
    unfold Oe;rw[hgC,show bQ (pr<|au f) (au f)=(O:Int) by rw[eW];exact eO];rfl
   rw[ea,<-Y]at this;exact Wi this
  have ebw:b=w:=by
   have:Kv (au f)=((AH.cC f / Nat.gcd O (AH.cC f):Nat):Int):=by
    unfold Kv;rw[hgC,epr];rfl
   rw[eb,<-le2]at this;exact Wi this
  subst eao ebw;have sB:=sA.trans s3;have la:((a:Nat):Int).natAbs.log2<1920:=by rw[<-ea];exact(cO o0 (zN t) a_).2
  have lb:((b:Nat):Int).natAbs.log2<1920:=by rw[<-eb];exact(cO (by omega) (uI t) a_).2
  have ch:∀x∈[cX (a:Int),cX (b:Int)],rh x:=λx hx=>by
   rcases gg.mp hx with rfl|hx
   ·exact rh.cX (by omega)
   ·rw[eG.mp hx];exact rh.cX (by omega)
  have fin:∀E,ag J E->∃i,[V.int (a:Int)]=[V.int i]/\i.natAbs.log2<1920/\∃j,[V.int (b:Int)]=[V.int j]/\j.natAbs.log2<1920/\2<=sizeLine/\∀p,E p=none->P7 X.K (.ref T) (.ref p) (upd E p<|.lst [.str (Str.ofString<|toString i),.str<|Str.ofString<|toString j]) Q:=λE s=>
   ⟨_,rfl,la,_,rfl,lb,a_,λp hp'=>iA (l:=[cX (a:Int),cX (b:Int)]) (m:=[cX (a:Int),cX (b:Int)]) (aw.of<|(s.trans<|ag.new hp' _) _ _<|s3 _ _ hwd) (aw.of af) ch ch (by rw[cc rfl];exact q _<|sB.trans<|s.trans<|ag.new hp' _)⟩
  refine⟨a_,λu hu1=>?_⟩
  have su:=ag.new hu1<|.lst [];refine⟨_,_,.lst ((sB.trans su).seq M)<|cG.ints _,.lst (aw.of af) .nil,bg _,a_,?_⟩
  rw[jP]
  by_cases ce:f=[]
  ·rw[cc (by rw[ce];rfl)]
   lia;have a0:a=0:=by
    have:O=0:=by rw[ce]at eO;exact(Wi eO).symm
    rw[this]at Y;rw[Y,Nat.zero_div]
   have:=fin _ su
   rw[a0]at this;exact this
  ·rw[dt (show ¬(au f).map PyData.int=[]from λz=>ce<|q5.mp<|q5.mp z)]
   lia;exact fin _ su
def Uy(H0:Hp)(pre:L2.St)(_:Nat)(σ:L2.St)(H:Hp):Prop:=ag H0 H/\∃y:v_,σ=pre++[y]
def yq(B:Bn mg)(aS:eU K mg "Hall" ay ["counts","groups","worn"])(bp:eU K mg "Desk" aE ["book","hall"])(D:Def K mg "_law_sight_told" eL)(cp:qY P w K mg base 7 aE "ask" ["self","line"] (iC K ay aE)):Fn P w K mg base 8 "_law_sight_told" ["desk","names","web"] (kJ K ay aE):=by
 have zY:DS (aj eL) ["desk","names","web","ring","order","way","sights","k"] ["desk","names","web"] ["range","len","set","sorted","list"]:=aK;walk_at"hH";obtain⟨d,hl,nm,w,Q,cs,ws,L,hs,rfl,hD,D,f,hw,q⟩:=h;have P:=D.Br;have T:=P.nm.nm;have h8:=P.nm.fJ;obtain⟨⟨dx,bk,hd,_⟩,_⟩:=id hD;refine zW _ ⟨_,(ae (aZ S 3<|kY yP KF type_str_split dh rfl (kY yP SC Wh (cJ rfl) rfl br<|aa<|ID bp cp gj hr (kv S 0)<|aa br)<|aa br)
   (ae (aZ S 4<|kY yP KF type_str_split dh rfl (kY yP SC Wh (cJ rfl) rfl br<|aa<|ID bp cp gj hr (kv S 0)<|aa br)<|aa br)
   (ae (cM (aM (dz hu rfl) (kv S 1) (dM bw)<|ao _) (ai<|aH<|ku (fi (dz hu rfl) (kv S 3) (dM<|aa br)<|ao _)<|pe<|fi (dz hu rfl) (kv S 4) (dM<|aa br)<|ao _) az)
   (ae (cM (wt (Lw (aM aR (fi (dz hu rfl) (kv S 3) (dM<|aa br)<|ao _) (fi (dz hu rfl) (kv S 4) (dM<|aa br)<|ao _)<|ao _) (uC (aM (mh hu rfl) (f9 S hc hsc (bA (aQ (cR rfl) (kv S 3)<|kv S 4) rfl) (N:=["word","names"]) (W:=["word"]) (G:=[]) (fv:=[none,some 1]) Dk0 (λcl C fp s H n=>⟨(kg n 0),(c7 (aM (dD rfl) (kv n 0) (aQ (cR rfl) (kv n 1)<|dM<|aa br) (by with_unfolding_all rfl))),(kv n 0)⟩)) (dM bw)<|ao _)))) (ai<|aH wW) az)
   (ae (cM (aM (dz hu rfl) (kv S 4) (dM<|aa br)<|ao _) (ae (aZ S 5 (f9 S hc hsc (bA (kv S 3) rfl) (N:=["word","names"]) (W:=["word"]) (G:=[]) (fv:=[none,some 1]) Dk0 λcl C fp s H n=>⟨(kg n 0),aY,(kY rr slot_list_index type_list_index (mD rfl) rfl (kv n 1)<|aa<|kv n 0)⟩) (hs:=by rw[dw,hsc];rfl))
   (ae (Ku (i:=6) S hc hsc (fj S 0 B.range<|aa<|cq S 1 (av rfl) B.len kb<|aa<|kv S 5) (N:=["k","web","way"]) (W:=["k"]) (G:=["len"]) (fv:=[none,some 2,some 5]) Dk0 (λcl C fp s H n=>⟨(kg n 0),aY,(b9<|aQ ba (jL (bh rfl) (kv n 1) (jL (bh rfl) (kv n 2) (kv n 0) λ_ _=>rfl) λ_ _=>rfl)<|aQ bW ax<|jL (bh rfl) (kv n 2) (aQ dk (aQ aW (kv n 0) ax)<|cq n 0 (av rfl) B.len kb<|aa<|kv n 2) λ_ _=>rfl)⟩) (by rw[hsc];decide +kernel) (by rw[dw,hsc];rfl))
   (ai<|aH<|ku (fi aR (cq S 1 nG B.len kb<|aa<|jM S 2 (sS hc rfl) B.set boot_set<|aa<|kv S 5) (cq S 1 (av rfl) B.len kb<|aa<|kv S 5)<|ao _)<|ku (fi r8 (cq S 1 (av rfl) B.len kb<|aa<|kv S 5) ax<|ao _)<|pe<|fi (dz hu rfl) (kv S 6) (aQ zr (dM<|aa ax)<|cq S 1 (av rfl) B.len kb<|aa<|kv S 5)<|ao _))) az)
   (ae (aZ S 5 (f9 S hc hsc (bA (kv S 4) rfl) (N:=["word","names"]) (W:=["word"]) (G:=[]) (fv:=[none,some 1]) Dk0 λcl C fp s H n=>⟨(kg n 0),aY,(kY rr slot_list_index type_list_index (mD rfl) rfl (kv n 1)<|aa<|kv n 0)⟩) (hs:=by rw[dw,hsc];rfl))
   (ae (dq hxe hc (fj S 0 B.range<|aa<|cq S 1 (av rfl) B.len kb<|aa<|kv S 5) (kg S 7) (ai (cM (aM (mh hu rfl) (f9 S hc hsc (fj S 0 B.range<|aa<|cq S 1 (av rfl) B.len kb<|aa<|kv S 1) (N:=["j","web","way","k"]) (W:=["j"]) (G:=[]) (fv:=[none,some 2,some 5,some 7]) Dk0 (λcl C fp s H n=>⟨(kg n 0),(c7 (wt (qQ (aM aR (b9<|aQ ba (jL (bh rfl) (kv n 1) (jL (bh rfl) (kv n 2) (kv n 3) λ_ _=>rfl) λ_ _=>rfl)<|aQ bW ax<|kv n 0) ax<|ao _) (lr (aM (dD rfl) (kv n 0) (qP (c5 rfl) (kv n 2) bJ<|bK<|kv n 3) (by with_unfolding_all rfl)))))),(kv n 0)⟩)) (dM bw)<|ao _) (ai<|aH wW) az)))
   (ai<|aH<|fi (dz hu rfl) (cq S 3 (uN rfl) B.sorted boot_sorted<|aa<|kv S 5) (jM S 4 (dg hc) B.list boot_list<|aa<|jM S 0 fF B.range boot_range<|aa<|cq S 1 (av rfl) B.len kb<|aa<|kv S 1)<|ao _)))))))),?_⟩
 walk_at"h";refine⟨rfl,kl hd pY ?_⟩;refine iD (.told .ring) hD D trivial λl1 r1 H1 s1 _ hl1 T1=>?_;obtain⟨a,ea,R,ca⟩:=Uc P T1;refine yc T R ea hl1 (λ_=>rfl) λt1 ht1=>?_;generalize e:upd H1 t1 _=H2;obtain⟨s2,o⟩:=iS ht1 e;clear e T1 hl1;have M:=s1.trans s2;clear s1 s2 ht1;walk_at"i";refine⟨rfl,kl (M _ _ hd) pY ?_⟩;refine iD (.told .order) (hD.mono M) D trivial λl2 r2 H3 s3 _ hl2 T2=>?_;obtain⟨b,eb,U,cb⟩:=Ud P T2;refine yc T U eb hl2 (λ_=>rfl) λt2 ht2=>?_;generalize e:upd H3 t2 _=H4;obtain⟨s4,E⟩:=iS ht2 e;clear e T2 hl2;have o:=(s3.trans s4) _ _ o;have I:=M.trans<|s3.trans s4;clear M s3 s4 ht2;have cases3:=JL P ca cb;clear ca cb;have cha:=JM T R;have chb:=JM T U;have ce:∀x∈[("":Str)],rh x:=λx hx=>by rw[eG.mp hx];exact λc hc=>nomatch hc
 have f:=I.seq f;have hw:=I.seq hw;walk_at"i";refine⟨a_,λn5 O=>?_⟩
 generalize e:upd H4 n5 _=H5;obtain⟨s5,hn5⟩:=iS O e;clear e;refine iA (m:=[]) (s5.seq f) (aw.of hn5) (λx hx=>rh.low (ir<|T x hx).1) (λ_ z=>nomatch z) ?_
 rcases cases3 with ⟨z,rfl,rfl⟩|c3
 ·rw[cc z];lia;rw[oO]at o E;refine⟨a_,λn6 Y=>?_⟩
  generalize e:upd H5 n6 _=H6;obtain⟨s6,hn6⟩:=iS Y e;clear e;refine iA (l:=[("":Str)]) (m:=[("":Str)]) (aw.of<|(s5.trans s6) _ _ o) (aw.of hn6) ce ce ?_;rw[cc rfl];lia;refine⟨a_,λn7 Z=>?_⟩
  generalize e:upd H6 n7 _=H7;obtain⟨s7,hn7⟩:=iS Z e;clear e;refine iA (l:=[("":Str)]) (m:=[("":Str)]) (aw.of<|(s5.trans<|s6.trans s7) _ _ E) (aw.of hn7) ce ce ?_;rw[cc rfl];exact q _<|I.trans<|s5.trans<|s6.trans s7
 have hns:Q≠[]:=c3.elim (λz=>z.1) λz=>z.1;rw[dt hns];walk_at"i";have AB:decide (decide (vI Q a=[("":Str)])=decide (vI Q b=[("":Str)]))=false:=by
  rcases c3 with ⟨_,z1,z2,_⟩|⟨_,z1,z2,_⟩
  ·rw[dt (A8 T R z1),z2,oO,cc rfl];rfl
  ·rw[dt (A8 T U z2),z1,oO,cc rfl];rfl
 refine⟨a_,λn6 Y=>?_⟩
 generalize e:upd H5 n6 _=H6;obtain⟨s6,hn6⟩:=iS Y e;clear e;refine iA (m:=[("":Str)]) (aw.of<|(s5.trans s6) _ _ o) (aw.of hn6) cha ce ?_;refine⟨a_,λn7 Z=>?_⟩
 generalize e:upd H6 n7 _=H7;obtain⟨s7,hn7⟩:=iS Z e;clear e;refine iA (m:=[("":Str)]) (aw.of<|(s5.trans<|s6.trans s7) _ _ E) (aw.of hn7) chb ce ?_;lia;rw[if_neg (of_decide_eq_false AB)];have ab:=s5.trans<|s6.trans s7;have o:=ab _ _ o;have E:=ab _ _ E;have f:=ab.seq f;have hw:=ab.seq hw;have s17:=I.trans ab;clear AB hn5 hn6 hn7 s5 s6 s7 I ab O Y Z;have la:=C8 R;have lb:=C8 U;have hsz:(1000:Nat)<=sizeLine:=by decide
 refine⟨t1,t2,_,_,rfl,rfl,aw.of o,aw.of E,by rw[b5,b5];omega,λp hp0=>?_⟩
 rw[<-hU];generalize e:upd H7 p _=H8;obtain⟨s8,hp⟩:=iS hp0 e;clear e;have inW:∀x∈vI Q a++vI Q b,x∈Q++[("":Str)]:=by
  have one:∀l,cB Q l->∀x∈vI Q l,x∈Q++[("":Str)]:=λl ok x hx=>by
   unfold vI at hx
   split at hx
   ·exact q7 _ hx
   ·obtain⟨i,hi,rfl⟩:=gh.mp hx;exact Wc _<|getD_memS<|ok.lt i hi
  exact λx hx=>(j6.mp hx).elim (one a R x)<|one b U x
 refine⟨p,rfl,⟨_,aw.of hp⟩,wu (df<|aw.of hp) (λ_=>false) (λ_=>.bE) (by rw[b5,eR];omega) ?_ ?_⟩
 ·intro i J A B' hi hS _ hB;rw[b5]at hi;have itm:((vI Q a++vI Q b).map V.str).getD i .bE=.str ((vI Q a++vI Q b).getD i bo):=by rw[b3,bb hi];rfl
  rw[itm];lia;refine⟨a_,λu hu0=>?_⟩
  generalize e:upd J u _=J1;obtain⟨v1,hu1⟩:=iS hu0 e;clear e;refine⟨nm,u,_,_,rfl,rfl,(s8.trans<|hS.trans v1).seq f,aw.of hu1,by rw[b5];show Q.length+1<=_;omega,λu2 hu2=>?_⟩
  have v2:=ag.new hu2<|.lst<|Q.map V.str++[V.str ("":Str)];refine vh (neg:=true) (a:=Q++[("":Str)]) (.inl (aw.of (by rw[hU];exact af))) ?_
  rw[if_pos rfl,cc<|inW _<|getD_memS hi];lia;exact hB rfl _<|v1.trans v2
 intro B_ H9 _ s9 t;have t:H9 B_=some (.lst []):=by rw[t,xh];rfl
 refine⟨a_,λn10 O=>?_⟩
 generalize e:upd H9 n10 _=H10;obtain⟨s10,hn10⟩:=iS O e;clear e;refine oK (l:=[]) (m:=[]) (aw.of<|s10 _ _ t) (aw.of hn10) (λ_ z=>nomatch z) (λ_ z=>nomatch z) ?_;have aF:=s8.trans<|s9.trans s10;have o:=aF _ _ o;have E:=aF _ _ E;have f:=aF.seq f;have hw:=aF.seq hw;have s110:=s17.trans aF;clear inW t hn10 s8 s9 s10 aF s17 O hp hp0;walk_at"i";refine⟨a_,λn11 O=>?_⟩
 generalize e:upd H10 n11 _=H11;obtain⟨X,hn11⟩:=iS O e;clear e;refine iA (m:=[("":Str)]) (aw.of<|X _ _ E) (aw.of hn11) chb ce ?_;have o:=X _ _ o;have E:=X _ _ E;have f:=X.seq f;have hw:=X.seq hw;have s111:=s110.trans X;clear X s110 hn11 O;have wlen:=P.lw
 rcases c3 with ⟨_,za,zb,hR⟩|⟨_,za,zb,el,cl⟩
 ·rw[zb,oO,cc rfl];walk_at"i";refine JN P.nm.nd za R o f λy H12 _ M hy=>?_;walk_at"i";have a8:=R.fJ;have two:=hR.two;refine aI (.inl<|aw.of hy) ?_;rw[b5,ah];refine LD a.length (λ_=>true) (λ_=>1) rfl (by omega) ?_ ?_
  ·intro k J A B' hk hS hA _;have hk1:(k+1)%a.length<a.length:=mod_lt _ (by omega)
   have h0:=R.lt _<|fN hk;have h1:=R.lt _<|fN hk1;lia;refine aN (aw.of<|hS _ _ hy) rfl (by rw[ah];exact hk) ?_
   rw[aA];refine aN ((M.trans hS).seq hw) rfl (by rw[ah];omega) ?_
   rw[aA];refine aI (.inl<|aw.of<|hS _ _ hy) ?_;rw[b5,ah];lia;refine⟨by omega,?_⟩
   refine aN (k:=(k+1)%a.length) (aw.of<|hS _ _ hy) rfl (by rw[ah];exact hk1) ?_
   rw[aA];lia;refine kH (by omega) ?_
   have e1:=M9<|ED hR hk;generalize ws.getD (a.getD k 0) 0 / 2 ^ a.getD ((k+1)%a.length) 0=N at e1 ⊢;rw[show(N:Int)%2=1 by omega]
   exact hA rfl _<|ag.refl _
  intro sg H13 _ a3 hsg;rw[bz,A9]at hsg;lia;refine⟨y,au a,rfl,.inl<|aw.of<|a3 _ _ hy,by rw[ah];omega,λl hl0=>?_⟩
  generalize e:upd H13 l _=H14;obtain⟨I,hl⟩:=iS hl0 e;clear e;refine⟨l,_,_,rfl,hl,?_⟩;have hy14:=(a3.trans I) _ _ hy;refine aI (.inl<|aw.of hy14) ?_;rw[b5,sV<|mq hR.nd,ah];lia;refine aI (.inl<|aw.of hy14) ?_;rw[b5,ah];lia;rw[if_pos (by omega)]
  refine⟨a_,λu hu0=>?_⟩
  generalize e:upd H14 u _=H15;obtain⟨a0,hu1⟩:=iS hu0 e;clear e;refine aI (.inl<|aw.of<|a0 _ _ hy14) ?_;rw[b5,ah];refine⟨u,_,_,rfl,rfl,hu1,by omega,by omega,by rw[k4];show 1*a.length<=_;omega,λv hv0=>?_⟩
  rw[k4,qc];generalize e:upd H15 v _=H16;obtain⟨s16,hv⟩:=iS hv0 e;clear e;refine⟨_,_,.lst (aw.of<|(I.trans<|a0.trans s16) _ _ hsg)<|cG.ints _,.lst (aw.of hv)<|cG.ints _,bg _,bg _,?_⟩;rw[lB,cc rfl];exact q _<|s111.trans<|M.trans<|a3.trans<|I.trans<|a0.trans s16
 ·rw[dt (A8 T U zb)];walk_at"i";refine JN P.nm.nd zb U E f λy H12 _ M hy=>?_;have f:=M.seq f;have hw:=M.seq hw;have s112:=s111.trans M;clear s111 M;subst el;obtain⟨m,hL,_⟩:=dR ws;have hll:(laidOut ws).length=ws.length:=by
   have:=vB hL.nd hL.lt
   omega
  walk_at"i";refine aI (.inl<|aw.of hy) ?_;rw[b5,ah];refine forR (laidOut ws).length (Uy H12 [some (.ref d),some<|.ref nm,some<|.ref w,some<|.ref t1,some<|.ref t2,some<|.ref y,none]) rfl (by omega) ⟨ag.refl _,_,rfl⟩ ?_ ?_
  ·walk_at"fo";rintro k σ J hk ⟨sJ,z,rfl⟩;walk_at"fg";have hx:=U.lt _<|fN hk;lia;refine aI (.inl<|sJ.seq f) ?_;rw[b5];refine LD Q.length (λ_=>false) (λ_=>0) rfl (by omega) ?_ ?_
   ·intro j J2 A B' hj hS _ hB;lia;refine aN (aw.of<|(sJ.trans hS) _ _ hy) rfl (by rw[ah];exact hk) ?_
    rw[aA];refine aN ((sJ.trans hS).seq hw) rfl (by rw[ah];omega) ?_
    rw[aA];lia;refine kH (by omega) ?_
    refine bT (λc=>?_) λ_=>hB rfl _<|ag.refl _;refine CM k (aw.of<|(sJ.trans hS) _ _ hy) λp J3 s3 _ hp=>?_;rw[<-Wy,show(au<|laidOut ws).take k=au ((laidOut ws).take k)from Wy.symm]at hp
    refine pw (neg:=true) (.inl<|aw.of hp) ?_;rw[if_pos rfl,cc<|hL.ok k hk j c];lia;exact hB rfl _ s3
   intro B_ J3 _ s3 t;have t:J3 B_=some (.lst []):=by rw[t,xh];rfl
   refine⟨a_,λn13 O=>?_⟩
   generalize e:upd J3 n13 _=J4;obtain⟨s4,hn13⟩:=iS O e;clear e;refine oK (l:=[]) (m:=[]) (aw.of<|s4 _ _ t) (aw.of hn13) (λ_ z=>nomatch z) (λ_ z=>nomatch z) ?_;lia;exact⟨sJ.trans<|s3.trans s4,_,rfl⟩
  rintro σ J ⟨sJ,z,rfl⟩;lia;refine⟨y,au<|laidOut ws,rfl,.inl<|aw.of<|sJ _ _ hy,by rw[ah];omega,λs ms hs0 hperm hsort=>?_⟩
  generalize e:upd J s _=J1;obtain⟨a3,hs⟩:=iS hs0 e;clear e;refine aI (.inl<|(sJ.trans a3).seq f) ?_;rw[b5];lia;refine⟨Q.length,rfl,by omega,λg hg0=>?_⟩
  generalize e:upd J1 g _=J2;obtain⟨I,hg⟩:=iS hg0 e;clear e;refine⟨g,Q.length,rfl,hg,by omega,λr hr0=>?_⟩
  generalize e:upd J2 r _=J3;obtain⟨a0,hr15⟩:=iS hr0 e;clear e;refine⟨_,_,.lst (aw.of<|(I.trans a0) _ _ hs)<|cG.ints ms,.lst (aw.of hr15)<|cG.ints<|au<|List.range Q.length,bg _,bg _,?_⟩;rw[lB,cc (show ms=au (List.range Q.length)from uS hperm hsort (by rw[<-wlen];exact LS hL.nd hll hL.lt))]
  exact q _<|s112.trans<|sJ.trans<|a3.trans<|I.trans a0
def Uz(K:Frag)(cH cD:Addr)(PP:Program)(ww:World)(H0:Hp)(d bk nm ct wb ev kn to hl:Addr)(ns:f_)(cs ws:d_)(L:B0L)(k:Nat)(σ:L2.St)(H:Hp):Prop:=∃(nw:Addr) (hs:e_) (least:Nat) (y1 y2 y3 y4 y5:v_),σ=[some (.ref d),some<|.ref bk,some<|.int (L.map<|iT<|au cs).sum,some<|.ref nm,some<|.ref ct,some<|.ref wb,some<|.ref ev,some<|.ref nw,some<|.ref kn,some<|.ref to,some<|.int (least:Int),y1,y2,y3,y4,y5,none]/\Off hl H0 H/\bZ K cH cD H d hl ns cs ws L hs/\bD ns cs ws L hs/\H0 nw=some (.lst<|hs.map V.int)/\fS PP ww (Ba cs ws L) H kn (k*ns.length)/\H to=some (.lst<|(hV cs L k 0 ns.length).map V.int)/\(L.map<|iT<|au cs).sum<=(least:Int)/\∀j,j<k->least<=AH.iE cs.length (L2.vE cs L) ((AH.lex cs).getD j [])
def UA(K:Frag)(cH cD:Addr)(H0:Hp)(pre post:L2.St)(d hl:Addr)(ns:f_)(cs ws:d_)(L:B0L)(a b:e_)(i:Nat)(σ:L2.St)(H:Hp):Prop:=∃y:v_,σ=pre++y::post/\Off hl H0 H/\bZ K cH cD H d hl ns cs ws L (j2 a b i)/\bD ns cs ws L (j2 a b i)
def UB(PP:Program)(ww:World)(H0:Hp)(pre mid:L2.St)(kn to:Addr)(n:Nat)(cs ws:d_)(L:B0L)(k i:Nat)(σ:L2.St)(H:Hp):Prop:=∃y y':v_,σ=pre++y::mid++[y',none]/\gL to kn H0 H/\fS PP ww (Ba cs ws L) H kn (k*n+i)/\H to=some (.lst<|(hV cs L k i n).map V.int)
def Bq(B:Bn mg)(aS:eU K mg "Hall" ay ["counts","groups","worn"])(bp:eU K mg "Desk" aE ["book","hall"])(D:Def K mg "_law_hats_told" ft)(cp:qY P w K mg base 7 aE "ask" ["self","line"] (iC K ay aE))(qx:Fn P w K mg base 1 "_law_all_hats" ["counts"] (HC K))(rK:Fn P w K mg base 8 "_law_guesses" ["desk","names","counts"] (jo K ay aE)):Fn P w K mg base 9 "_law_hats_told" ["desk","book","most"] (mR K ay aE):=by
 have zY:DS (aj ft) ["desk","book","most","names","counts","web","every","now","known","totals","least","hats","i","guesses","good","seen","floor"] ["desk","book","most"] ["_law_all_hats","len","range","_law_guesses","min","int","tuple","str","sum"]:=aK;walk_at"hH";obtain⟨d,hl,bk,Q,a,ws,L,rfl,hD,D,⟨nm,ct,wb,hb,O,hct,hwb⟩,h64,q⟩:=h;have P:=D.Br;have h8:=P.nm.fJ;have hlc:=P.lc;have hbig:(1000:Nat)<=sizeLine:=by decide
 have epr:=vG a;have tb:xl (au a):=⟨P.p5.pos,by rw[ah];omega,by rw[epr];omega⟩
 refine zW _ ⟨_,(ae (DI (kv S 1)<|QF hc (K:=X.K) (n:=3) rfl<|aV (kg S 3)<|aV (kg S 4)<|aV (kg S 5) dN)
   (ae (aZ S 6<|cE S 0 qx hr<|aa<|kv S 4)
   (ae (aZ S 7<|aQ zr (dM<|aa ax)<|cq S 1 (av rfl) B.len kb<|aa<|kv S 3)
   (ae (aZ S 8 Rg)
   (ae (aZ S 9<|aQ zr (dM<|aa ax)<|cq S 1 (av rfl) B.len kb<|aa<|kv S 3)
   (ae (aZ S 10<|cq S 1 (av rfl) B.len kb<|aa<|kv S 3)
   (ae (dq hxe hc (bA (kv S 6) rfl) (kg S 11) (ae (dq hxe hc (fj S 2 B.range<|aa<|cq S 1 (av rfl) B.len kb<|aa<|kv S 3) (kg S 12)<|ai<|cM (wt<|qQ (aM iY (fI (kv S 11)<|kv S 12) (fI (kv S 7)<|kv S 12)<|ao _)<|lr<|aM (mh hu rfl) (ID bp cp gj hr (kv S 0)<|aa<|aQ bu (aQ bu (aQ bu br<|fI (kv S 3)<|kv S 12) br)<|jM S 7 bX B.str boot_str<|aa<|fI (kv S 11)<|kv S 12) (dM bw)<|ao _) (ai<|aH wW) az)
   (ae (aZ S 7<|kv S 11)
   (ae (aZ S 13<|cE S 3 rK hr<|ak (kv S 0)<|ak (kv S 3)<|aa<|kv S 4)
   (ae (cM (aM oo (kv S 13) pd<|ao _) (ai<|aH wW) az)
   (ae (Ku (i:=14) S hc hsc (fj S 2 B.range<|aa<|cq S 1 (av rfl) B.len kb<|aa<|kv S 3) (N:=["i","guesses","hats"]) (W:=["i"]) (G:=[]) (fv:=[none,some 13,some 11]) Dk0 (λcl C fp s H M=>⟨(kg M 0),(c7<|aM aR (jL (bh rfl) (kv M 1) (kv M 0) λ_ _=>rfl) (jL (bh rfl) (kv M 2) (kv M 0) λ_ _=>rfl)<|ao _),(kv M 0)⟩) (by rw[hsc];decide +kernel) (by rw[dw,hsc];rfl))
   (ae (cM (aM iY (kY yP SC Wh (cJ rfl) rfl br<|aa<|ID bp cp gj hr (kv S 0)<|aa br) (kY yP SC Wh (cJ rfl) rfl br (aa (f9 S hc hsc (bA (kv S 14) rfl) (N:=["i","names"]) (W:=["i"]) (G:=[]) (fv:=[none,some 3]) Dk0 λcl C fp s H M=>⟨(kg M 0),aY,(jL (bh rfl) (kv M 1) (kv M 0) λ_ _=>rfl)⟩)))<|ao _) (ai<|aH wW) az)
   (ae (aZ S 10<|cq S 4 (Dq hc) B.min boot_min<|ak (kv S 10)<|aa<|cq S 1 (av rfl) B.len kb<|aa<|kv S 14)
   (ai (dq hxe hc (fj S 2 B.range<|aa<|cq S 1 (av rfl) B.len kb<|aa<|kv S 3) (kg S 12) (ae (DI (aQ aW (fI (kv S 9)<|kv S 12) (jM S 5 Dr B.int boot_int (aa (fi (zB rfl) (kv S 12) (kv S 14) (by with_unfolding_all rfl)))))<|P8 (kv S 9) (kv S 12) set_list)
   (ae (aZ S 15 (uB (ak (kv S 12) (aa (jM S 6 (eB rfl) B.tuple boot_tuple (aa (f9 S hc hsc (fj S 2 B.range<|aa<|cq S 1 (av rfl) B.len kb<|aa<|kv S 3) (N:=["j","web","i","hats"]) (W:=["j"]) (G:=[]) (fv:=[none,some 5,some 12,some 11]) Dk0 λcl C fp s H M=>⟨(kg M 0),(c7<|aM aR (b9<|aQ ba (jL (bh rfl) (kv M 1) (kv M 2) λ_ _=>rfl)<|aQ bW ax<|kv M 0) ax<|ao _),(jL (bh rfl) (kv M 3) (kv M 0) λ_ _=>rfl)⟩)))))))
   (ae (cM (aM iY (Rh hu (kv S 8) (kv S 15)<|fI (kv S 13)<|kv S 12) (fI (kv S 13)<|kv S 12)<|ao _) (ai<|aH wW) az)
   (ai<|Ri hu (fI (kv S 13)<|kv S 12) (kv S 8)<|kv S 15))))))))))))))
   (ae (aZ S 16 (aQ ba (cq S 8 (cw hc rfl) B.sum boot_sum (aa (f9 S hc hsc (bA (kv S 4) rfl) (N:=["count","every"]) (W:=["count"]) (G:=["len"]) (fv:=[none,some 6]) Dk0 λcl C fp s H M=>⟨(kg M 0),aY,(aQ ba (cq M 0 (av rfl) B.len kb<|aa<|kv M 1)<|kv M 0)⟩)))<|cq S 1 (av rfl) B.len kb<|aa<|kv S 6))
   (ai (aH (ku (zC k9 k9 (kv S 2) (kv S 10)<|kv S 16) (pe (fi (dz hu rfl) (kv S 9) (f9 S hc hsc (bA (kv S 4) rfl) (N:=["count","every"]) (W:=["count"]) (G:=["len"]) (fv:=[none,some 6]) Dk0 λcl C fp s H M=>⟨(kg M 0),aY,(aQ ba (cq M 0 (av rfl) B.len kb<|aa<|kv M 1)<|kv M 0)⟩)<|ao _))))))))))))),?_⟩
 walk_at"h";refine⟨bk,_,rfl,aw.of hb,rfl,?_⟩;refine⟨_,_,rfl,⟨_,_,rfl,⟨_,_,rfl,⟨rfl,?_⟩⟩⟩⟩;walk_at"i";refine⟨ct,au a,rfl,aw.of hct,tb,λev ex us H1 s1 hev hLL=>?_⟩;rw[JE]at hLL;walk_at"i";refine⟨a_,λu hu0=>?_⟩
 generalize R:upd H1 u _=H2;obtain⟨s2,hu1⟩:=iS hu0 R;clear R;refine aI (.inl<|aw.of<|(s1.trans s2) _ _ O) ?_;rw[b5];refine⟨u,_,_,rfl,rfl,hu1,by omega,by omega,by rw[k4];show 1*Q.length<=_;omega,λnw hnw0=>?_⟩
 rw[k4,qc];generalize R:upd H2 nw _=H3;obtain⟨s3,hnw⟩:=iS hnw0 R;clear R;walk_at"i";refine⟨Ba a ws L,λkn hkn0=>?_⟩;have k0:fS X.prog X.w (Ba a ws L) (upd H3 kn<|.ext<|MY X.prog X.w (Ba a ws L) kn []) kn 0:=⟨[],af,dy _,λ_ z=>nomatch z⟩;generalize R:upd H3 kn _=H4 at k0 ⊢;have s4:ag H3 H4:=(iS hkn0 R).1;clear R;walk_at"i";refine⟨a_,λu2 hu20=>?_⟩
 generalize R:upd H4 u2 _=H5;obtain⟨s5,hu2⟩:=iS hu20 R;clear R;have s15:=(s1.trans s2).trans<|s3.trans<|s4.trans s5;refine aI (.inl<|aw.of<|s15 _ _ O) ?_;rw[b5];refine⟨u2,_,_,rfl,rfl,hu2,by omega,by omega,by rw[k4];show 1*Q.length<=_;omega,λto T=>?_⟩
 rw[k4,qc];generalize R:upd H5 to _=H6;obtain⟨s6,hto⟩:=iS T R;clear R;have k0:=k0.mono<|s5.trans s6;have T:H3 to=none:=(s4.trans s5).free T;have s36:=s4.trans<|s5.trans s6;have s03:=(s1.trans s2).trans s3;clear hu1 hu2 hu0 hu20 hnw0 s4 s5 s6 s15;have hD:=hD.mono s03;have O:=s03 _ _ O;have hct:=s03 _ _ hct;have hwb:=s03 _ _ hwb;have hev:=(s2.trans s3) _ _ hev;have hLL:=hLL.mono<|s2.trans s3;clear s1 s2 s3 s03 hb;walk_at"i";refine aI (.inl<|aw.of<|s36 _ _ O) ?_;rw[b5];walk_at"i";obtain⟨ch,dxh,fsh,iB⟩:=hD.iB;have Gok:=D.AG;have bN:∀c∈a,1<=c:=λc hc'=>(P.UQ c hc').1;have c64:∀c∈a,c<=64:=λc hc'=>gr (Nd bN c hc') h64;have JX:=P.JX;have lex64:(AH.lex a).length<=64:=by rw[AH.lN];exact h64
 have Y:us.length=(AH.lex a).length:=by rw[hLL.length,b5]
 refine S3 (Uz X.K ay aE X.prog X.w H3 d bk nm ct wb ev kn to hl Q a ws L) (aw.of<|s36 _ _ hev) ⟨nw,_,Q.length,_,_,_,_,_,rfl,s36.ke,hD.mono s36,D,by rw[hnw,hlc],k0.le<|zero_le _,by rw[EH];exact hto,D.Nf,λj hj=>absurd hj<|sU j⟩ (λk σ H' h=>by obtain⟨_,_,_,_,_,_,_,_,_,o,_⟩:=h;exact aw.of<|o.jr iB hev) ?_ ?_
 ·walk_at"fo";rintro k v σ Hk hv ⟨nw,hs,E,y1,y2,y3,y4,y5,rfl,oH,hDk,Dk,hnwk,nk,I,aF,p⟩;walk_at"fg";obtain⟨hk,r,rfl,a3⟩:=hLL.get hv;rw[b5]at hk;rw[JW]at a3;have hm:(AH.lex a).getD k []∈AH.lex a:=by rw[b3,b4 hk];exact kf _
  generalize eh:(AH.lex a).getD k []=h at a3 hm;obtain⟨hlen,hlt⟩:=AH.oM.mp hm;have e4:("put ":Str).length=4:=by decide +kernel
  have e1:(" ":Str).length=1:=by decide +kernel
  have hsl:hs.length=a.length:=by have:=Dk.f7.1;rw[this,ah]
  have ab:(au h).length=hs.length:=by rw[ah];omega
  lia
  try clear z_C
  walk_at"h";refine aI (.inl<|aw.of<|oH.jr iB O) ?_;rw[b5];refine forR Q.length (UA X.K ay aE Hk [some (.ref d),some<|.ref bk,some<|.int (L.map<|iT<|au a).sum,some<|.ref nm,some<|.ref ct,some<|.ref wb,some<|.ref ev,some<|.ref nw,some<|.ref kn,some<|.ref to,some<|.int (E:Int),some<|.ref r] [y3,y4,y5,none] d hl Q a ws L (au h) hs) rfl (by omega) ⟨_,rfl,Off.refl,by rw[tV];exact hDk,by rw[tV];exact Dk⟩ ?_ ?_
  ·walk_at"fo";rintro i σ J hi ⟨y,rfl,oJ,t,DJ⟩;walk_at"fg";have f:=oH.trans oJ;have hih:i<(au h).length:=by rw[ah];omega
   lia;refine aN (aw.of<|f.jr iB a3) rfl hih ?_;refine aN (aw.of<|f.jr iB hnwk) rfl (by omega) ?_
   rw[aA];lia
   by_cases c:((h.getD i 0:Nat):Int)=hs.getD i 0
   ·rw[cc c];lia;have e:=EF ab hih (by rw[aA];exact c)
    exact⟨_,rfl,oJ,by rw[e];exact t,by rw[e];exact DJ⟩
   rw[dt c];lia;obtain⟨⟨_,_,hd,_⟩,_⟩:=id t;have nl:=P.OL _<|getD_memS hi;have hlti:=hlt i (by omega)
   have ci:=c64 _ (aX (show i<a.length by omega))
   have cf:=jn (c:=h.getD i 0) (by omega)
   refine kl hd pY ?_;refine aD (aw.of<|f.jr iB O) (aG<|bb hi) ?_;refine⟨_,_,rfl,rfl,by rw[e4];omega,?_⟩
   refine⟨_,_,rfl,rfl,by rw[aT,e4,e1];omega,?_⟩
   refine aN (aw.of<|f.jr iB a3) rfl hih ?_;rw[aA];refine⟨_,rfl,by rw[Da];exact m2 (log2_le_self _) (by omega),?_⟩
   refine⟨_,_,rfl,rfl,by rw[aT,aT,e4,e1];have:(Str.ofString<|toString ((h.getD i 0:Nat):Int)).length<=30:=cf.2.2.2;omega,?_⟩
   refine JS t DJ hi hlti (by omega) λl1 J1 o1 _ hl1 hD1 D1=>?_
   refine⟨a_,λn2 hn0=>?_⟩
   generalize R:upd J1 n2 _=J2;obtain⟨Z,hn2⟩:=iS hn0 R;clear R;refine oK (l:=[]) (m:=[]) (aw.of<|Z _ _ hl1) (aw.of hn2) (λ_ z=>nomatch z) (λ_ z=>nomatch z) ?_;lia;have e:=tW ab hih;rw[aA]at e;exact⟨_,rfl,oJ.trans<|o1.trans Z.ke,by rw[e];exact hD1.mono Z,by rw[e];exact D1⟩
  rintro σ J ⟨y,rfl,oJ,t,DJ⟩;have eM:j2 (au h) hs Q.length=au h:=by
   have:=JP ab
   rw[ah,hlen,hlc]at this;exact this
  rw[eM]at t DJ;have f:=oH.trans oJ;have⟨ch1,dx1,fs1,hinsk⟩:=hDk.iB;have nk:=nk.off oJ hinsk;have I:=oJ.jr hinsk I;have hr:=f.jr iB a3;clear hDk Dk hnwk oH oJ eM ab hsl hinsk;walk_at"i";walk_at"h";refine⟨d,hl,nm,ct,Q,a,ws,L,au h,rfl,t,DJ,aw.of<|f.jr iB O,aw.of<|f.jr iB hct,c64,λg J1 v1 hg0 hg=>?_⟩;have gto:g≠to:=(aO I hg0).symm;clear hg0;have t:=t.mono v1;have f:=f.trans v1.ke;have nk:=nk.mono v1;have I:=v1 _ _ I;have hr:=v1 _ _ hr;clear v1;walk_at"i";walk_at"h";refine aI (.inl<|aw.of<|f.jr iB O) ?_;rw[b5];refine LD Q.length (λi=>decide<|ip (au a) L (au h) i=(au h).getD i 0) (λi=>(i:Int)) rfl (by omega) ?_ ?_
  ·intro i J2 A B' hi hS hA hB;lia;refine aN (aw.of<|hS _ _ hg) rfl (by rw[b5,h7];exact hi) ?_
   refine aN (aw.of<|hS _ _ hr) rfl (by rw[ah];omega) ?_
   rw[yg _ hi];lia;refine bT (λc=>hA (cc c) _<|ag.refl _) λc=>hB (dt c) _<|ag.refl _
  intro gd J2 hgd0 Z U;have gdto:gd≠to:=(aO I hgd0).symm;clear hgd0;have U:J2 gd=some (.lst<|(au<|cS (au a) (au h) L).map V.int):=by
   rw[U];unfold cS;rw[ah,hlc];rfl
  have rok:cB Q (cS (au a) (au h) L):=tO P;have hrt:(cS (au a) (au h) L).length=AH.iE a.length (L2.vE a L) h:=by
   unfold cS AH.iE;rw[ah,List.countP_eq_length_filter]
   congr 1
   refine Ww λi hi=>?_;rw[aA]
   have:=vF bN Gok (fO.mp hi) hm
   exact WA.mpr ⟨λz=>by rw[show ip (au a) L (au h) i=_ from this.symm]at z;omega,λz=>by rw[show ip (au a) L (au h) i=_ from this.symm];omega⟩
  have rmem:∀i,i<Q.length->(decide (i∈cS (au a) (au h) L)=decide (L2.vE a L i h=h.getD i 0)):=λi hi=>by
   have hic:i<a.length:=by omega
   have:=vF bN Gok hic hm
   refine WA.mpr ?_;unfold cS;rw[j5,ah,fO,kc,aA];exact⟨λz=>by have z:=z.2;rw[show ip (au a) L (au h) i=_ from this.symm]at z;omega,λz=>⟨hic,by rw[show ip (au a) L (au h) i=_ from this.symm];omega⟩⟩
  have t:=t.mono Z;have f:=f.trans Z.ke;have nk:=nk.mono Z;have I:=Z _ _ I;have hr:=Z _ _ hr;have hg:=Z _ _ hg;clear Z;obtain⟨⟨_,_,hd,_⟩,_⟩:=id t;walk_at"i";refine⟨rfl,kl hd pY ?_⟩;rw[AL Q];refine iD .right t DJ trivial λr1 J3 v3 _ hr1=>?_;generalize er:cS (au a) (au h) L=gl at hr1 rok U rmem hrt;have nj:=qd rok;rw[cA];refine CQ (aw.of hr1) (JY rok) (by rw[yf];omega) ?_
  rw[yf];have U:=v3 _ _ U;have g8:=rok.fJ;refine⟨rfl,gd,rfl,⟨_,aw.of U⟩,wu (df<|aw.of U) (λ_=>true) (λi=>.str<|Q.getD (gl.getD i 0) bo) (by rw[b5,ah];exact aB (by omega)) ?_ ?_⟩
  ·intro i J4 A B' hi hS hA _;rw[b5,ah]at hi;have itm:((au gl).map V.int).getD i .bE=.int ((gl.getD i 0:Nat):Int):=by
    rw[b3,ed,au,ed,b4 hi,b3,b4 hi];rfl
   rw[itm];lia;refine aD (aw.of<|hS _ _<|v3 _ _<|f.jr iB O) (aG<|bb<|rok.lt _<|fN hi) ?_;exact hA rfl _<|ag.refl _
  intro wl J4 _ v4 hwl;rw[bz,b5,ah,c9 λj=>V.str<|Q.getD j bo,show(gl.map λj=>V.str<|Q.getD j bo)=(gl.map λj=>Q.getD j bo).map V.str by rw[k6];rfl]at hwl
  refine CQ (aw.of hwl) nj.1 (by omega) ?_
  lia;have a0:=v3.trans v4;have t:=t.mono a0;have f:=f.trans a0.ke;have nk:=nk.mono a0;have I:=a0 _ _ I;have hr:=a0 _ _ hr;have hg:=a0 _ _ hg;have U:=v4 _ _ U;clear a0 v3 v4 hwl hr1 hd nj;walk_at"h";refine aI (.inl<|aw.of U) ?_;rw[b5,ah];refine⟨_,_,rfl,?_⟩;lia;refine aI (.inl<|aw.of<|f.jr iB O) ?_;rw[b5];obtain⟨lt',z_⟩:∃m:Nat,(if(gl.length:Int)<(E:Int)then(gl.length:Int)else(E:Int))=(m:Int):=⟨min gl.length E,by split<;>omega⟩
  rw[z_];obtain⟨_,hkx,_,_⟩:=id nk;have nmto:nm≠to:=aO O T;have wbto:wb≠to:=aO hwb T;have rto:r≠to:=aO a3 T;refine forR Q.length (UB X.prog X.w J4 [some (.ref d),some<|.ref bk,some<|.int (L.map<|iT<|au a).sum,some<|.ref nm,some<|.ref ct,some<|.ref wb,some<|.ref ev,some<|.ref r,some<|.ref kn,some<|.ref to,some<|.int (lt':Int),some<|.ref r] [some (.ref g),some<|.ref gd] kn to Q.length a ws L k) rfl (by omega) ⟨_,_,rfl,gL.refl,nk,I⟩ ?_ ?_
  ·walk_at"fo";rintro i σ N hi ⟨y,y',rfl,oN,nkN,htN⟩;walk_at"fg";have lk:∀ {x:Addr} {xs:u_},x≠to->J4 x=some (.lst xs)->N x=some (.lst xs):=λn e=>oN _ _ n (dj e hkx λz=>nomatch z) e;have hic:i<a.length:=by omega
   lia
   try clear z_C
   walk_at"h";refine aN (aw.of htN) rfl (by rw[js];exact hi) ?_
   rw[JU hi];refine pw (.inl<|aw.of<|lk gdto U) ?_;rw[if_neg a_,rmem i hi]
   refine .inr ⟨_,rfl,?_⟩;lia;refine⟨to,_,_,i,rfl,rfl,htN,uL (by rw[b5,js];exact hi),?_⟩
   have ecn:((cntK a L k i:Nat):Int)+(if L2.vE a L i h=h.getD i 0 then 1 else 0)=((cntK a L (k+1) i:Nat):Int):=by
    rw[EG hk,eh]
    by_cases c:L2.vE a L i h=h.getD i 0
    ·rw[if_pos c,if_pos c];rfl
    ·rw[if_neg c,if_neg c];rfl
   dsimp only
   rw[ecn,<-List.map_set,JV hi];have o1:gL to kn J4 (upd N to<|.lst<|(hV a L k (i+1) Q.length).map V.int):=oN.trans gL.VA;have n1:=nkN.gD (o:=.lst<|(hV a L k (i+1) Q.length).map V.int) htN;have t1:upd N to (.lst<|(hV a L k (i+1) Q.length).map V.int) to=_:=af;generalize upd N to _=N1 at o1 n1 t1 ⊢;clear oN nkN htN lk ecn;have lk:∀ {x:Addr} {xs:u_},x≠to->J4 x=some (.lst xs)->N1 x=some (.lst xs):=λn e=>o1 _ _ n (dj e hkx λz=>nomatch z) e;have hnm1:=lk nmto<|f.jr iB O;have hwb1:=lk wbto<|f.jr iB hwb;have hr1:=lk rto hr;have hg1:=lk gto hg;clear lk;walk_at"i";refine aI (.inl<|aw.of hnm1) ?_;rw[b5];refine LD Q.length (λj=>cF ws i j) (λj=>(au h).getD j 0) rfl (by omega) ?_ ?_
   ·intro j N2 A B' hj hS hA hB;lia;refine aN (aw.of<|hS _ _ hwb1) rfl (by rw[ah,P.lw];exact hi) ?_
    rw[aA];lia;refine kH (by omega) ?_
    refine bT (λc=>?_) λc=>hB (Gc.mpr c) _<|ag.refl _;refine aN (aw.of<|hS _ _ hr1) rfl (by rw[ah];omega) ?_
    exact hA c _<|ag.refl _
   intro ac N2 _ Z hac;refine Q5 (aw.of hac) λtp htp0=>?_;generalize R:upd N2 tp _=N3;obtain⟨v3,htp⟩:=iS htp0 R;clear R;lia;refine⟨a_,λsn hsn0=>?_⟩
   generalize R:upd N3 sn _=N4;obtain⟨v4,hsn⟩:=iS hsn0 R;clear R;have v14:=Z.trans<|v3.trans v4;have key:eY N4 ((i:Int),(yd ws a.length i).map λj=>(au h).getD j 0) sn:=⟨tp,hsn,by rw[hlc];exact v4 _ _ htp⟩
   have gk:=Nc (i:=i) Gok (show(au h).length=a.length by rw[ah];exact hlen)
   have n4:=n1.mono v14;have hg4:=v14 _ _ hg1;have t4:=v14 _ _ t1;have o4:gL to kn J4 N4:=o1.trans<|gL.same v14;clear o1 n1 t1 Z v3 v4 v14 hac htp htp0 hsn hsn0 hnm1 hwb1 hr1 hg1;walk_at"i";have gi:(((List.range Q.length).map λi=>ip (au a) L (au h) i)).getD i 0=ip (au a) L (au h) i:=yg _ hi;refine⟨kn,_,_,rfl,n4,?_⟩;refine aN (aw.of hg4) rfl (by rw[b5,h7];exact hi) ?_
   rw[gi];refine⟨_,sn,n4,rfl,key,by rw[gk],?_⟩
   refine aN (aw.of hg4) rfl (by rw[b5,h7];exact hi) ?_
   rw[gi];lia;refine aN (aw.of hg4) rfl (by rw[b5,h7];exact hi) ?_
   rw[gi];have tkn:to≠kn:=by obtain⟨_,e,_,_⟩:=n4;exact dj t4 e λz=>nomatch z
   have hkn:k*Q.length<=64*8:=Nat.mul_le_mul (by omega) h8
   exact⟨kn,_,_,_,sn,rfl,n4,rfl,key,by rw[gk],by omega,λφ nφ=>⟨_,_,rfl,o4.trans gL.VB,nφ,by rw[aC tkn];exact t4⟩⟩
  rintro σ N ⟨y,y',rfl,oN,nkN,htN⟩;have kp:=oN.kp I hkx;refine⟨r,au h,lt',_,_,_,_,_,rfl,λb o n e=>?_,t.kp kp,DJ,a3,by rw[succ_mul];exact nkN,by rw[<-JT];exact htN,?_,λj hj=>?_⟩
  ·have n1:b≠to:=λz=>by rw[z,T]at e;cases e
   have n2:b≠kn:=λz=>by rw[z,hkn0]at e;cases e
   exact oN b o n1 n2<|f b o n e
  ·rw[<-z_]
   split
   ·rw[hrt];exact JC bN Gok JX hm
   ·exact aF
  ·have hl1:lt'<=E/\lt'<=gl.length:=by
    have:=z_
    split at this<;>omega
   by_cases c:j=k
   ·rw[c,eh,<-hrt];exact hl1.2
   ·exact gr hl1.1 (p j (by omega))
 rintro σ J ⟨nw,hs,E,y1,y2,y3,y4,y5,rfl,oH,hDk,Dk,hnwk,nk,I,aF,p⟩;rw[Y]at p I;have hne:=p;have hN:0<(AH.lex a).length:=CU bN;have hfl:=Ey bN Gok JX (k:=E) λh hm=>by
  obtain⟨j,hj,e⟩:=qN hm
  have:=p j hj
  rw[b3,b4 hj]at this;rw[<-e];exact this
 have htot:=JZ bN Gok JX;rw[hlc]at htot;have hevJ:=oH.jr iB hev;have hctJ:=oH.jr iB hct;have cst:∀i,i<(au a).length->0<(au a).getD i 0/\((au a).getD i 0).natAbs.log2<9000:=λi hi=>by
  rw[ah]at hi;have h1:=bN _<|aX hi;have h2:=c64 _<|aX hi;rw[aA];exact⟨by omega,by rw[Da];exact m2 (log2_le_self _) (by omega)⟩
 clear hne p k0 hto hD D hDk Dk;generalize eN:(AH.lex a).length=N at *;walk_at"i";refine He (λ_=>true) (λk=>(N:Int) / (au a).getD k 0) (aw.of hctJ) (by rw[ah];exact aB (by omega)) ?_ ?_
 ·intro i J1 A B' hi hS hA _;lia;refine aI (.inl<|aw.of<|hS _ _ hevJ) ?_;rw[Y];lia;exact⟨cst i hi,hA rfl _<|ag.refl _⟩
 intro a1 J1 _ v1 ha1;rw[bz,L2.map_getD (au a) λc=>(N:Int) / c]at ha1;refine i9 (aw.of ha1) ?_;refine aI (.inl<|aw.of<|v1 _ _ hevJ) ?_;rw[Y,Ng];lia;refine⟨⟨by omega,by rw[Da];exact m2 (log2_le_self _) (by omega)⟩,?_⟩
 lia;rw[if_pos aF,if_pos (by rw[<-natCast_ediv];exact Int.ofNat_le.mpr hfl)]
 refine He (λ_=>true) (λk=>(N:Int) / (au a).getD k 0) (aw.of<|v1 _ _ hctJ) (by rw[ah];exact aB (by omega)) ?_ ?_
 ·intro i J2 A B' hi hS hA _;lia;refine aI (.inl<|aw.of<|(v1.trans hS) _ _ hevJ) ?_;rw[Y];lia;exact⟨cst i hi,hA rfl _<|ag.refl _⟩
 intro a2 J2 _ Z ha2;rw[bz,L2.map_getD (au a) λc=>(N:Int) / c]at ha2;refine⟨_,_,.lst (aw.of<|(v1.trans Z) _ _ I)<|cG.ints _,.lst (aw.of ha2)<|cG.ints _,bg _,bg _,?_⟩;rw[lB,cc htot];exact q _
def Fb{H H':Hp}{x dx:Addr}{o:HO}(hx:H x=none)(hd:H dx=none)(hne:dx≠x)(s:Off x (L2.upd (L2.upd H dx<|.own x) x o) H'):ag H H':=λb u e=>by
 have h1:b≠x:=λz=>by rw[z,hx]at e;cases e
 have a:b≠dx:=λz=>by rw[z,hd]at e;cases e
 exact s b u h1 (by rw[aC h1,aC a];exact e)
def Nv{cH cD b dr:Addr}{H:Hp}{R:Addr->r_}{E E':XK}{ns:f_}{cs ws:d_}{dn:e_}(P:iU ns cs ws)(hb:Io H b ns cs ws)(hdr:H dr=some (.lst<|dn.map V.int))(hdn:26<=dn.length)(hnn:∀x∈dn,0<=x)
  (q:∀x l L H',ag H H'->H x=none->H l=none->bZ K cH cD H' x l ns cs ws L (List.replicate cs.length 0)->bD ns cs ws L (List.replicate cs.length 0)->R x H'):
  lM K [.ref b,.ref dr] H (λv H1=>rJoin K (.str<|("\n":Str)) [v] H1 λz H2=>∀x dx,H2 x=none->H2 dx=none->dx≠x->oI K cH cD [.ref x,z] (L2.upd (L2.upd H2 dx<|.own x) x<|.ins cD dx []) (λu H3=>u=.bE/\R x H3) E') E:=by
 refine⟨b,dr,ns,cs,ws,dn,rfl,hb,P,hdr,hdn,hnn,λl M O A p s t=>?_⟩;have n:("\n":Str)=⟨#[10]⟩:=by decide +kernel
 have c:=s.Tt P;have m:M.map (hZ ns cs)=(M.map<|tJ ns cs).map oA:=by rw[k6];rfl
 have d:(M.map<|tJ ns cs).length<=100:=by rw[b5];omega
 have F:=tH c d;have g:=jj 1271 (M.map<|hZ ns cs) λy hy=>by
  obtain⟨x,hx,rfl⟩:=gh.mp hy;exact oB<|s.Ar P x hx
 rw[b5]at g;have J:M.length*1272<=16*1272:=AC _ t;have B:(1000000:Nat)<=sizeLine:=by decide
 have h:Str.join ⟨#[10]⟩ (M.map<|hZ ns cs)=lI (M.map<|tJ ns cs):=by rw[m];rfl
 refine⟨_,l,M.map<|hZ ns cs,rfl,rfl,aw.of p,?_,?_,?_⟩
 ·rw[n];show((M.map<|hZ ns cs).map λz=>z.length+1).sum<=_
  omega
 ·rw[n,h];omega
 rw[n,h];intro x dx j f w;refine⟨x,dx,M.map<|tJ ns cs,ns,cs,ws,rfl,af,c,d,s.book P λi hi=>hi,P,λI o L C a N D=>⟨rfl,?_⟩⟩;have r:=Fb j f w C;refine q x o L I (A.trans r) (A.free j) (A.free ?_) N D;have h1:o≠x:=λe=>by rw[e,af]at a;cases a
 rw[aC h1]at a;have G:o≠dx:=λe=>by rw[e,af]at a;cases a
 rw[aC G]at a;exact a
def UC(H0:Hp)(a b nm ct wb:Addr)(n k:Nat)(σ:L2.St)(H:Hp):Prop:=∃(cs:d_) (y:v_),σ=[some (.ref a),some<|.ref b,some<|.ref nm,some<|.ref ct,some<|.ref wb,some<|.int ((AH.cC (cs.take k):Nat):Int),y,none,none]/\Off ct H0 H/\H ct=some (.lst<|(au cs).map V.int)/\cs.length=n/\(∀c∈cs,1<=c/\c<=6)/\AH.cC (cs.take k)<=64 / 2 ^ (n-k)
def Rp:DS (aj lT) ["script","book","names","counts","web","whole","i","desk","best"] ["script"] ["_law_house","sum","range","len","Desk","_law_mixed_lines","_law_draws","_law_best","list","_law_share_told","str","_law_sight_told","_law_hats_told"]:=aK
def Rq(B:Bn mg)(aS:eU K mg "Hall" ay ["counts","groups","worn"])(bp:eU K mg "Desk" aE ["book","hall"]){f:Addr}{fd:FuncData}(FL:Kt K "law" "law" lT f fd)(yC:Fn P w K mg base 4 "_law_house" ["cells","most","kinds"] (mS K))(de:Fn P w K mg base 1 "_law_draws" ["cell","count"] lG)(lV:Fn P w K mg base 1 "_law_mixed_lines" ["book","drawn"] (lM K))(nY:MG P w K mg base 8 aE "__init__" "self" "text" "" (oI K ay aE))(cp:qY P w K mg base 7 aE "ask" ["self","line"] (iC K ay aE))(kW:Fn P w K mg base 14 "_law_best" ["counts","web","people"] (lR K 6))(ni:Fn P w K mg base 8 "_law_share_told" ["desk","counts"] (kG K ay aE))(nu:Fn P w K mg base 8 "_law_sight_told" ["desk","names","web"] (kJ K ay aE))(nZ:Fn P w K mg base 9 "_law_hats_told" ["desk","book","most"] (mR K ay aE)):fM P w K mg base DD 15 f fd ["script"] (Cf K):=by
 refine FL.gq Rp (λvs H Q E h=>?_) ?_
 ·obtain⟨a,v,rfl,_⟩:=h;rfl
 walk_at"hI";obtain⟨a,xs,rfl,ha,hl,q⟩:=h;refine zW _ ⟨_,(ae (aZ S 1 (cE S 0 yC hr (ak (f9 S hc hsc (fj S 2 B.range<|aa ax) (N:=["k","script"]) (W:=["k"]) (G:=["sum"]) (fv:=[none,some 0]) Dk0 λcl C fp s H S2=>⟨(kg S2 0),aY,(cq S2 0 (cw rfl rfl) B.sum boot_sum<|aa<|Iw (kv S2 1) (kv S2 0) ax rfl)⟩)<|ak ax<|aa ax)))
   (ae (DI (kv S 1)<|QF hc (K:=X.K) (n:=3) rfl<|aV (kg S 2)<|aV (kg S 3)<|aV (kg S 4) dN)
   (ae (aZ S 5 ax)
   (ae (dq hxe hc (fj S 2 B.range<|aa<|cq S 3 (av rfl) B.len kb<|aa<|kv S 3) (kg S 6) (ae (cM (aM r8 (aQ dv (kv S 5)<|fI (kv S 3)<|kv S 6) (aQ ug ax<|aQ cK (aQ cK (cq S 3 (av rfl) B.len kb<|aa<|kv S 3) ax)<|kv S 6)<|ao _) (ai<|DI ax<|P8 (kv S 3) (kv S 6) set_list) az)
   (ai<|aZ S 5<|aQ dv (kv S 5)<|fI (kv S 3)<|kv S 6)))
   (ae (aZ S 7<|Vr S 4 bp nY gj hr<|aa<|kY yP SC Wh (cJ rfl) rfl br<|aa<|cE S 5 lV hr<|ak (kv S 1)<|aa<|cE S 6 de hr<|ak (aQ aW (cq S 1 (cw hc rfl) B.sum boot_sum<|aa<|Iw (kv S 0) ax ax rfl)<|Cc<|cq S 1 (cw hc rfl) B.sum boot_sum<|aa<|Iw (kv S 0) ax ax rfl)<|aa ax)
   (ae (aZ S 8<|cE S 7 kW hr<|ak (kv S 3)<|ak (kv S 4)<|aa<|jM S 8 (dg hc) B.list boot_list<|aa<|jM S 2 fF B.range boot_range<|aa<|cq S 3 (av rfl) B.len kb<|aa<|kv S 2)
   (ae (cM (wt<|Lw (aM (mh hu rfl) (ID bp cp gj hr (kv S 7)<|aa br) (dM<|aa<|jM S 10 bX B.str boot_str<|aa<|kv S 8)<|ao _)<|uC<|qR<|mj<|cE S 9 ni hr<|ak (kv S 7)<|aa<|kv S 3) (ai<|aH wW) az)
   (ai<|aH<|ku (cE S 11 nu hr<|ak (kv S 7)<|ak (kv S 2)<|aa<|kv S 4)<|pe<|cE S 12 nZ hr<|ak (kv S 7)<|ak (kv S 1)<|aa<|kv S 8)))))))),?_⟩
 walk_at"i";refine Hz 3 rfl a_ (λ_ _=>True) ?_ ?_
 ·intro i H1 A hi hS hA;lia;refine⟨_,rfl,_,rfl,a,_,rfl,hS.seq ha,a_,λR p hp hfit=>?_⟩
  rw[mG];exact⟨p,_,rfl,aw.of af,hA _ _ (ag.new hp _) trivial⟩
 intro cl row H1 hcl0 s1 hcl hrow _;lia;refine⟨cl,row,4,3,rfl,aw.of hcl,hrow,a_,a_,a_,a_,λb nm ct wb v cs ws H2 s2 hct0 hb hnm hct hwb nmct wbct P hn4 c6=>?_⟩
 have ha1:=s1.seq ha;clear hcl hcl0 hrow s1 ha;have bct:b≠ct:=dj hb hct λz=>by
  injection z with z
  match hm:au cs,z with
  | [],z=>cases z
  |x::r,z=>injection z with z;cases z
 walk_at"i";refine⟨b,_,rfl,aw.of hb,rfl,?_⟩;refine⟨_,_,rfl,⟨_,_,rfl,⟨_,_,rfl,⟨rfl,?_⟩⟩⟩⟩;walk_at"i";walk_at"h";refine aI (.inl<|aw.of hct) ?_;rw[b5,ah,P.lc];refine forR v.length (UC H2 a b nm ct wb v.length) rfl (by omega) ⟨cs,_,rfl,Off.refl,hct,P.lc,λc O=>⟨(P.UQ c O).1,c6 c O⟩,?_⟩ ?_ ?_
 ·have:v.length=0∨v.length=1∨v.length=2∨v.length=3∨v.length=4:=by omega
  show 1<=64 / 2 ^ (v.length-0)
  rcases this with e|e|e|e|e<;>rw[e]<;>decide
 ·walk_at"fo";rintro k σ J hk ⟨j,y,rfl,oJ,u,l1,c1,p1⟩;walk_at"fg";have hk1:k<j.length:=by omega
  have nk:v.length-k=(v.length-1-k)+1:=by omega
  have nk2:v.length-(k+1)=v.length-1-k:=by omega
  rw[nk]at p1;have w64:AH.cC (j.take k)<=64:=gr p1<|Nat.div_le_self _ _;have bt:∀ {x:Nat},x<=1000->Bt 10 ((x:Nat):Int):=λh=>by unfold Bt;rw[Da];omega
  have gt6:∀ {l:d_},(∀c∈l,1<=c/\c<=6)->k<l.length->l.getD k 0<=6:=λh hl=>(h _<|aX hl).2;walk_at"i";have rest:∀M J2,Off ct H2 J2->J2 ct=some (.lst<|(au M).map V.int)->M.length=v.length->(∀c∈M,1<=c/\c<=6)->M.take k=j.take k->AH.cC (j.take k)*M.getD k 0<=64 / 2 ^ (v.length-1-k)->zR [some (V.ref a),some<|V.ref b,some<|V.ref nm,some<|V.ref ct,some<|V.ref wb,some<|V.int ((AH.cC (j.take k):Nat):Int),some<|V.int (k:Int),none,none] J2:=λM J2 o2 h2 l2 c2 e2 p2=>by
   have hk2:k<M.length:=by omega
   lia;refine aN (aw.of h2) rfl (by rw[ah];exact hk2) ?_
   rw[aA];lia;refine⟨(bt (by omega)).ok (bt (by have:=gt6 c2 hk2;omega)) a_,?_⟩
   have e3:AH.cC (M.take<|k+1)=AH.cC (j.take k)*M.getD k 0:=by rw[take_snoc 0 hk2,Bb,e2]
   exact⟨M,_,by rw[e3];rfl,o2,h2,l2,c2,by rw[e3,nk2];exact p2⟩
  refine aN (aw.of u) rfl (by rw[ah];exact hk1) ?_
  rw[aA];lia;have g6:=gt6 c1 hk1;have cap:=AH.JA (c:=j.getD k 0) p1 (by omega)
  refine⟨(bt (by omega)).ok (bt (by omega)) a_,?_⟩
  refine aI (.inl<|aw.of u) ?_;rw[b5,ah,l1];lia;rw[show(v.length:Int)-1-(k:Int)=((v.length-1-k:Nat):Int) by omega,Rj]
  refine⟨by omega,?_⟩
  refine bT (λc=>?_) λc=>?_
  ·rw[if_pos (show _>_ from Int.ofNat_lt.mp (by rw[natCast_mul];exact c))]at cap
   refine⟨ct,_,_,k,rfl,rfl,u,uL (by rw[b5,ah];exact hk1),?_⟩
   refine rest (j.set k 2) _ (oJ.trans Off.upd) (by rw[af];unfold au;rw[List.map_set,List.map_set];rfl) (by rw[length_set];exact l1) (λc O=>?_) (by rw[List.take_set_of_le (dy _)]) (by rw[b3,List.getElem?_set_self hk1];exact cap)
   rcases List.mem_or_eq_of_mem_set O with z|z
   ·exact c1 c z
   ·rw[z];decide
  ·rw[if_neg (λz=>c (by have z:=Int.ofNat_lt.mpr z;rw[natCast_mul]at z;exact z))]at cap
   exact rest j J oJ u l1 c1 rfl cap
 rintro σ J ⟨j,y,rfl,oJ,u,l1,c1,p1⟩;have P1:iU v j ws:=⟨P.nm,l1,P.lw,λc O=>⟨(c1 c O).1,m2 (c1 c O).2 a_⟩,P.UW,P.De⟩
 have h64:AH.cC j<=64:=by
  rw[<-l1,sC,Wr]at p1;exact p1
 have sJ:=s2.off hct0 oJ;have haJ:=sJ.seq ha1;have I:=oJ _ _ bct hb;have o:=oJ _ _ nmct hnm;have t:=oJ _ _ wbct hwb;clear P hct hb hnm hwb c6 sJ oJ p1;rw[<-l1,sC];walk_at"i";refine⟨rfl,_,rfl,_,rfl,a,_,rfl,haJ,a_,λR p hp hfit=>?_⟩
 rw[mG];generalize T:upd J p _=J1;obtain⟨s3,hp3⟩:=iS hp T;clear T;refine⟨p,_,rfl,aw.of hp3,?_⟩;refine⟨_,rfl,_,rfl,a,_,rfl,s3.seq haJ,a_,λR2 p2 hp2 hfit2=>?_⟩
 rw[mG];generalize T:upd J1 p2 _=J2;obtain⟨s4,hp4⟩:=iS hp2 T;clear T;refine⟨p2,_,rfl,aw.of hp4,?_⟩;lia;refine⟨_,26,rfl,a_,λdr dn J3 s5 _ hdr hdn hnn=>?_⟩
 have Y:=s3.trans<|s4.trans s5;refine Nv P1 ⟨nm,ct,wb,Y _ _ I,Y _ _ o,Y _ _ u,Y _ _ t⟩ hdr (by omega) hnn λd l L J4 s6 hd0 hl0 hD D=>?_
 have Z:=Y.trans s6;have I:=Z _ _ I;have o:=Z _ _ o;have t:=Z _ _ t;have u:=Z _ _ u;clear s3 s4 s5 s6 Y Z hp hp2 hp3 hp4 hdr hdn hnn hfit hfit2 haJ hd0 hl0;walk_at"i";refine aI (.inl<|aw.of o) ?_;rw[b5];lia;refine⟨v.length,rfl,by omega,λg hg0=>?_⟩
 generalize T:upd J4 g _=J5;obtain⟨s7,hg⟩:=iS hg0 T;clear T;refine⟨g,v.length,rfl,hg,by omega,λr hr0=>?_⟩
 generalize T:upd J5 r _=J6;obtain⟨s8,hr8⟩:=iS hr0 T;clear T;have s78:=s7.trans s8;have eb:=HB v.length;have aF:(aq<|2 ^ v.length-1).length=v.length:=by rw[eb,h7]
 have bm:=EI P1.p5.pos D.best;rw[P1.len]at bm;refine⟨ct,wb,r,au j,ws,2 ^ v.length-1,rfl,aw.of<|s78 _ _ u,aw.of<|s78 _ _ t,aw.of (by rw[eb];exact hr8),P1.p5,by rw[P1.len,P1.lw],by rw[P1.len];exact Nat.sub_lt (r4 _) a_,by rw[aF];omega,by rw[aF];omega,λJ7 s9=>?_⟩
 rw[bm];have U:=s78.trans s9;have hD:=hD.mono U;have I:=U _ _ I;have o:=U _ _ o;have t:=U _ _ t;have u:=U _ _ u;clear s7 s8 s9 s78 U hg hg0 hr0 hr8 bm eb aF;obtain⟨⟨_,_,hd,_⟩,_⟩:=id hD;walk_at"i";refine kl hd pY ?_;refine iD (.told .sure) hD D trivial λr1 R1 J8 s8 _ hr1 T1=>?_;have T1:R1=_:=T1;subst T1;obtain⟨t1,t2⟩:=cO D.best.1.nn D.CK a_
 lia;refine⟨_,rfl,t2,a_,λp hp0=>?_⟩
 generalize T:upd J8 p _=J9;obtain⟨s9,hp9⟩:=iS hp0 T;clear T;have ci:∀x∈[cX (L.map<|iT<|au j).sum],rh x:=λx hx=>by rw[eG.mp hx];exact rh.cX D.best.1.nn
 refine oK (l:=[cX (L.map<|iT<|au j).sum]) (m:=[cX (L.map<|iT<|au j).sum]) (aw.of<|s9 _ _ hr1) (aw.of hp9) ci ci ?_;rw[cc rfl];lia;have a0:=s8.trans s9;have hD:=hD.mono a0;have I:=a0 _ _ I;have o:=a0 _ _ o;have t:=a0 _ _ t;have u:=a0 _ _ u;refine⟨d,l,ct,v,j,ws,L,_,rfl,hD,D,aw.of u,λc O=>(c1 c O).2,λJ10 a3=>?_⟩;lia;have hD:=hD.mono a3;have I:=a3 _ _ I;have o:=a3 _ _ o;have t:=a3 _ _ t;have u:=a3 _ _ u;refine⟨d,l,nm,wb,v,j,ws,L,_,rfl,hD,D,aw.of o,aw.of t,λJ11 ab=>?_⟩;lia;exact⟨d,l,b,v,j,ws,L,rfl,hD.mono ab,D,⟨nm,ct,wb,ab _ _ I,ab _ _ o,ab _ _ u,ab _ _ t⟩,h64,λH'=>q H'⟩
def all_mk{l:PySem.W.OpenLaw}{h:Heap}{fa f33 f61:Addr}(X:K.In h)(G:h.Ns mainGlobals mg)(hfa:mg "law"=some (.ref fa))
  {od33 an33 od61 an61:h_} {sl33 sl61:Array (g_)} {oc33 kV33 dc33 pm33 cd33 ct33 oc61 kV61 dc61 pm61 cd61 ct61:Value}
  (d0:DQ K "greatest_divisor" dC)
  (d1:DQ K "share" vJ)
  (d2:DQ K "sure" Bc)
  (d3:DQ K "product" mU)
  (d4:DQ K "circle_guess" fT)
  (d5:DQ K "ring_guess" iF)
  (d6:DQ K "places" qg)
  (d7:DQ K "sees" Bd)
  (d8:DQ K "is_circle" jt)
  (d9:DQ K "is_ring" mV)
  (d10:DQ K "first_ready" gM)
  (d11:DQ K "laid_out" kK)
  (d12:DQ K "sight_order" gN)
  (d13:DQ K "first_seen" iG)
  (d14:DQ K "sight_ring" iH)
  (d15:DQ K "rises" vK)
  (d16:DQ K "is_group" kL)
  (d17:DQ K "group_fault" gP)
  (d18:DQ K "picked" qh)
  (d19:DQ K "group_sure" iI)
  (d20:DQ K "made_sure" ju)
  (d21:DQ K "group_guess" gQ)
  (d22:DQ K "sights_from" gR)
  (d23:DQ K "lone_group" iJ)
  (d24:DQ K "lone_choices" fU)
  (d25:DQ K "parts_of" kM)
  (d26:DQ K "best_choice" gS)
  (d27:DQ K "best_groups" gT)
  (d28:DQ K "are_hats" kN)
  (d29:DQ K "is_name" mW)
  (d30:DQ K "is_count" kP)
  (d31:DQ K "is_hat_line" gU)
  (d32:DQ K "is_sees_line" fV)
  {T33:Addr} {t33:Tok} {o33:Obj} {m33:Nat} (a33:nsIn K mainGlobals "read_line"=some (some<|.ref f33)) (l33:K.lookup f33=some ⟨oc33,od33,.func<|fnOf "read_line" "read_line" (bx dc) (aU dc) (aj dc) (.ref T33) kV33 dc33 pm33 an33 cd33 ct33,sl33⟩) (c33:codeIn K cd33 "read_line"=true) (k33:keepIn K (.ref f33)=true) (lt33:K.lookup T33=some o33) (ld33:o33.data=.seq #[.int 0 t33] m33)
  (d34:DQ K "add_hat" mY)
  (d35:DQ K "add_sight" jv)
  (d36:DQ K "rows_of" mZ)
  (d37:DQ K "read_book" jw)
  (d38:DQ K "shown_book" iK)
  (d39:DQ K "fits" Be)
  (d40:DQ K "is_ask" qi)
  (d41:DQ K "number_of" jx)
  (d42:DQ K "named" lS)
  (d43:DQ K "shown_share" gX)
  (d44:DQ K "told_of" m7)
  (d45:DQ K "_law_draws" jy)
  (d46:DQ K "_law_fresh" jz)
  (d47:DQ K "_law_names" jA)
  (d48:DQ K "_law_count" jB)
  (d49:DQ K "_law_mixed_lines" dU)
  (d50:DQ K "_law_sight" jC)
  (d51:DQ K "_law_hat_count" fo)
  (d52:DQ K "_law_house" jD)
  (d53:DQ K "_law_part_sure" fq)
  (d54:DQ K "_law_rings" eZ)
  (d55:DQ K "_law_best" fW)
  (d56:DQ K "_law_all_hats" fX)
  (d57:DQ K "_law_share_told" eK)
  (d58:DQ K "_law_sight_told" eL)
  (d59:DQ K "_law_guesses" gY)
  (d60:DQ K "_law_hats_told" ft)
  (a61:nsIn K mainGlobals "law"=some (some<|.ref f61)) (l61:K.lookup f61=some ⟨oc61,od61,.func<|fnOf "law" "law" (bx lT) (aU lT) (aj lT) .none kV61 dc61 pm61 an61 cd61 ct61,sl61⟩) (c61:codeIn K cd61 "law"=true) (k61:keepIn K (.ref f61)=true)
  (z0:nsIn K mainGlobals "range"=some none)
  (z1:nsIn K mainGlobals "len"=some none)
  (z2:nsIn K mainGlobals "sum"=some none)
  (z3:nsIn K mainGlobals "max"=some none)
  (z4:nsIn K mainGlobals "isinstance"=some none)
  (z5:nsIn K mainGlobals "int"=some none)
  (z6:nsIn K mainGlobals "bool"=some none)
  (z7:nsIn K mainGlobals "str"=some none)
  (z8:nsIn K mainGlobals "tuple"=some none)
  (z9:nsIn K mainGlobals "list"=some none)
  (z10:nsIn K mainGlobals "sorted"=some none)
  (z11:nsIn K mainGlobals "set"=some none)
  (z12:nsIn K mainGlobals "all"=some none)
  (z13:nsIn K mainGlobals "any"=some none)
  (z14:nsIn K mainGlobals "zip"=some none)
  (z15:nsIn K mainGlobals "enumerate"=some none)
  (z16:nsIn K mainGlobals "min"=some none)
  {u0:Tok} (q0:nsIn K mainGlobals "LETTERS"=some (some<|.str "abcdefghijklmnopqrstuvwxyz" u0))
  {u1:Tok} (q1:nsIn K mainGlobals "FIGURES"=some (some<|.str "0123456789" u1))
  {u2:Tok} (q2:nsIn K mainGlobals "LONGEST_NAME"=some (some<|.int 12 u2))
  {u3:Tok} (q3:nsIn K mainGlobals "LONGEST_COUNT"=some (some<|.int 30 u3))
  {u4:Tok} (q4:nsIn K mainGlobals "MOST_PEOPLE"=some (some<|.int 8 u4))
  {fe0 fe1 fe2 fe3 fe4 fe5 fe6 fe7 fe8:Addr} {ft0 ft1 ft2 ft3 ft4 ft5 ft6 ft7 ft8 fu0 fu1 fu2:Tok} {fep fn0 fn1 fn2 fn3 fn4 fn5 fn6 fn7 fn8:Nat} {fd0 fd1 fd2 fd3 fd4 fd5 fd6 fd7 fd8:h_} {fs0 fs1 fs2 fs3 fs4 fs5 fs6 fs7 fs8:Array (g_)} (fa0:nsIn K mainGlobals "FORMS"=some (some<|.ref aF)) (fhs:(aF==sysModules)=false)
  (fa1:K.lookup aF=some ⟨.type "dict",none,.dict #[⟨PyData.keyHash w.params "sure",.str "sure" ft0,.ref fe0⟩,⟨PyData.keyHash w.params "share",.str "share" ft1,.ref fe1⟩,⟨PyData.keyHash w.params "groups",.str "groups" ft2,.ref fe2⟩,⟨PyData.keyHash w.params "ring",.str "ring" ft3,.ref fe3⟩,⟨PyData.keyHash w.params "order",.str "order" ft4,.ref fe4⟩,⟨PyData.keyHash w.params "put",.str "put" ft5,.ref fe5⟩,⟨PyData.keyHash w.params "guess",.str "guess" ft6,.ref fe6⟩,⟨PyData.keyHash w.params "right",.str "right" ft7,.ref fe7⟩,⟨PyData.keyHash w.params "book",.str "book" ft8,.ref fe8⟩] fep,#[]⟩)
  (fl0:K.lookup fe0=some ⟨.type "tuple",fd0,.seq #[] fn0,fs0⟩) (fl1:K.lookup fe1=some ⟨.type "tuple",fd1,.seq #[] fn1,fs1⟩) (fl2:K.lookup fe2=some ⟨.type "tuple",fd2,.seq #[] fn2,fs2⟩) (fl3:K.lookup fe3=some ⟨.type "tuple",fd3,.seq #[] fn3,fs3⟩) (fl4:K.lookup fe4=some ⟨.type "tuple",fd4,.seq #[] fn4,fs4⟩) (fl5:K.lookup fe5=some ⟨.type "tuple",fd5,.seq #[.str "name" fu0,.str "colour" fu1] fn5,fs5⟩) (fl6:K.lookup fe6=some ⟨.type "tuple",fd6,.seq #[.str "name" fu2] fn6,fs6⟩) (fl7:K.lookup fe7=some ⟨.type "tuple",fd7,.seq #[] fn7,fs7⟩) (fl8:K.lookup fe8=some ⟨.type "tuple",fd8,.seq #[] fn8,fs8⟩)
  (caHall:nsIn K mainGlobals "Hall"=some (some<|.ref ay)) (cokHall:CA K "Hall" ay ["counts","groups","worn"]=true)
  (caDesk:nsIn K mainGlobals "Desk"=some (some<|.ref aE)) (cokDesk:CA K "Desk" aE ["book","hall"]=true)
  (md0:MQ K ay "__init__" "Hall.__init__" fu)
  (md1:MQ K ay "put_all" "Hall.put_all" fY)
  (md2:MQ K ay "put" "Hall.put" kQ)
  (md3:MQ K ay "guess" "Hall.guess" iL)
  (md4:MQ K ay "right" "Hall.right" iM)
  {mT5:Addr} {mu5:Tok} {mO5:Obj} {mN5:Nat} {mf5:Addr} {md5 mn5:h_} {ms5:Array (g_)} {mo5 mk5 me5 mp5 mc5 mt5:Value} (ma5:findIn K (.ref aE) "__init__"=some (some<|.ref mf5)) (ml5:K.lookup mf5=some ⟨mo5,md5,.func<|fnOf "__init__" "Desk.__init__" (bx bS) (aU bS) (aj bS) (.ref mT5) mk5 me5 mp5 mn5 mc5 mt5,ms5⟩) (mq5:codeIn K mc5 "Desk.__init__"=true) (mw5:keepIn K (.ref mf5)=true) (mi5:isFn K (.ref mf5)=true) (mlt5:K.lookup mT5=some mO5) (mld5:mO5.data=.seq #[.str "" mu5] mN5)
  (md6:MQ K aE "ask" "Desk.ask" kR)
  : ∃fd:FuncData,(∀(s:Shared) (v:Value),BindsTo s fd ⟨[v],[]⟩ [("script",v)])/\∀base:Heap,K.In base->base.Ns mainGlobals mg->fM l.prog w K mg base DD 15 fa fd ["script"] (Cf K):=by
 have e:=hfa.symm.trans<|mg_of X G a61
 cases e
 have kX:=d0.def X G;have NB:=d1.def X G;have Rx:=d2.def X G;have R:=d3.def X G;have qy:=d4.def X G;have v7:=d5.def X G;have Kq:=d6.def X G;have Ry:=d7.def X G;have yD:=d8.def X G;have Fi:=d9.def X G;have rL:=d10.def X G;have Y:=d11.def X G;have rM:=d12.def X G;have O:=d13.def X G;have v9:=d14.def X G;have NC:=d15.def X G;have N:=d16.def X G;have rN:=d17.def X G;have Kr:=d18.def X G;have we:=d19.def X G;have yE:=d20.def X G;have rO:=d21.def X G;have rQ:=d22.def X G;have wg:=d23.def X G;have T:=d24.def X G;have H:=d25.def X G;have rR:=d26.def X G;have rS:=d27.def X G;have BC:=d28.def X G;have Fj:=d29.def X G;have BD:=d30.def X G;have I:=d31.def X G;have qA:=d32.def X G;have yF:HS K mg "read_line" dc 0:=Mj X G a33 l33 c33 k33 lt33 ld33;have J:=d34.def X G;have yG:=d35.def X G;have Fp:=d36.def X G;have yH:=d37.def X G;have wj:=d38.def X G;have Rz:=d39.def X G;have Ks:=d40.def X G;have yI:=d41.def X G;have q:=d42.def X G;have rW:=d43.def X G;have Fq:=d44.def X G;have yJ:=d45.def X G;have yK:=d46.def X G;have yL:=d47.def X G;have yM:=d48.def X G;have lW:=d49.def X G;have yN:=d50.def X G;have n9:=d51.def X G;have yO:=d52.def X G;have oa:=d53.def X G;have Z:=d54.def X G;have BE:=d55.def X G;have qB:=d56.def X G;have nv:=d57.def X G;have ny:=d58.def X G;have rX:=d59.def X G;have og:=d60.def X G;have B:Bn mg:=⟨Fk X G z0,Fk X G z1,Fk X G z2,Fk X G z3,Fk X G z4,Fk X G z5,Fk X G z6,Fk X G z7,Fk X G z8,Fk X G z9,Fk X G z10,Fk X G z11,Fk X G z12,Fk X G z13,Fk X G z14,Fk X G z15,Fk X G z16⟩;have a:=CB X G cokHall;have c:=CB X G cokDesk;have oh:=md0.def;have qC:=md1.def;have BF:=md2.def;have wk:=md3.def;have wm:=md4.def;have L:xU K aE "__init__" "Desk.__init__" bS "":=Jf ma5 ml5 mq5 mw5 mi5 mlt5 mld5;have BG:=md6.def;have z:=Je (P:=l.prog) (w:=w) X G fa0 fhs fa1 fl0 fl1 fl2 fl3 fl4 fl5 fl6 fl7 fl8;have d:Cs mg:=⟨⟨_,mg_of X G q0⟩,⟨_,mg_of X G q1⟩,⟨_,mg_of X G q2⟩,⟨_,mg_of X G q3⟩,⟨_,mg_of X G q4⟩⟩;refine⟨fnOf "law" "law" (bx lT) (aU lT) (aj lT) .none kV61 dc61 pm61 an61 cd61 ct61,λs v=>.of_eq rfl,λbase _ _=>?_⟩;have FL:=zt (st:=lT) l61 c61 k61;have j:=EJ (P:=l.prog) (w:=w) (base:=base) B d Fj;have F:=Bf (P:=l.prog) (w:=w) (base:=base) B d BD;have F3:=J0 B I j F;have F4:=EK B qA j;have F5:=Nh B yF F3 F4;have F6:=EL (P:=l.prog) (w:=w) (base:=base) B d J;have F7:=yi (P:=l.prog) (w:=w) (base:=base) B yG;have u:=Ni (P:=l.prog) (w:=w) (base:=base) B Fp;have F9:=Nj B yH u F5 F6 F7;have W1:=EM (P:=l.prog) (w:=w) (base:=base) B Kq;have A:=Nk (P:=l.prog) (w:=w) (base:=base) Ry;have r:=vN (P:=l.prog) (w:=w) (base:=base) B yD;have i:=Bg B Fi A;have C1:=Ue (P:=l.prog) (w:=w) (base:=base) kX;have C:=Ka NB C1;have C3:=Nl Rx C;have x:=EN (P:=l.prog) (w:=w) (base:=base) B Kr;have C5:=Kb we x C3;have t:=Nm B yE C5;have W4:=qj (P:=l.prog) (w:=w) (base:=base) B rL;have D:=yj Y W4;have W6:=rj B O A;have E:=qk B v9 D W6;have m:=ql B rM D;have W8:=EO (P:=l.prog) (w:=w) (base:=base) B rQ;have M:=rk B wg W1 r E W8;have o:=nV B T M t;have n:=yk B H W1;have g:=qm B rR n;have p:=qo B rS o g;have G1:=Kd (P:=l.prog) (w:=w) (base:=base) B NC;have G2:=Rk B N G1 r i;have G3:=ES B rN G2;have G4:=Uo (P:=l.prog) (w:=w) (base:=base) v7;have G5:=Bh (P:=l.prog) (w:=w) (base:=base) R;have G6:=Up B qy G5;have G7:=Uq B rO G4 x G6;have A1:=Bi (P:=l.prog) (w:=w) (base:=base) B BC;have A2:=Ke B a oh G3;have A3:=Bj B a qC A1;have A4:=Np B a BF A3;have y:=ET B a wk G7;have A6:=EU B a wm y;have E1:=Nq Rz j F;have E2:=Kf B z Ks E1;have Q:=Rm (P:=l.prog) (w:=w) (base:=base) B yI;have S:=EV (P:=l.prog) (w:=w) (base:=base) B q;have E5:=EW (P:=l.prog) (w:=w) (base:=base) B q;have E6:=Nr rW C;have E9:=Kg B a c L F9 p A2;have f:=EZ (P:=l.prog) (w:=w) (base:=base) B yJ;have L2:=Kh (P:=l.prog) (w:=w) (base:=base) B yK;have L3:=Kk B yL f L2;have L5:=Km (P:=l.prog) (w:=w) (base:=base) B lW;have L7:=Bm (P:=l.prog) (w:=w) (base:=base) B yN;have SB:=EX (P:=l.prog) (w:=w) (base:=base) wj;have E8:=EY B Fq t E6 S E m SB u;have b:=Rn B a c z BG E2 Q A4 y A6 E5 E8;have L4:=E7 (P:=l.prog) (w:=w) (base:=base) yM;have L8:=Nu B n9 L4;have U:=Bo B yO f L3 L8 L7;have M1:=ym (P:=l.prog) (w:=w) (base:=base) B Z 4;have M2:=Kn B oa M1;have M3:=yo B BE M2 6;have M4:=Ro (P:=l.prog) (w:=w) (base:=base) B qB;have M5:=Bp B a c rX b;have M6:=yp B a c nv b;have M7:=yq B a c ny b;have M8:=Bq B a c og b M4 M5;exact Rq B a c FL U f L5 E9 b M3 M6 M7 M8
def walk{l:PySem.W.OpenLaw}{q:Program}{loose:f_}{XP:(b_)->Heap->Prop}{YP:World->Heap->Prop}{d:DefRec}{K:Params->Frag}(hn:l.most=some 63)(hdf:d.params.defaults=[])
  (hY:∀(w:World) (h:Heap),YP w h->(K w.params).In h)
  (F:∀(w:World) (mg:b_) (fa:Addr) (h:Heap),(K w.params).In h->h.Ns mainGlobals mg->mg d.name=some (.ref fa)->
   ∃fd:FuncData,(∀(s:Shared) (u:Value),BindsTo s fd ⟨[u],[]⟩ [("script",u)])/\∀base:Heap,(K w.params).In base->base.Ns mainGlobals mg->fM l.prog w (K w.params) mg base DD 15 fa fd ["script"] (Cf<|K w.params)):
  PySem.W.WalkO q loose XP YP l.row.toRowW d [] (λf vs=>PySem.call f vs):=
 L2.Ld (n:=63) (k:=15) (x:="script") (CX:=λ_=>DD) (sp:=λw=>Cf<|K w.params) hn a_ hdf ⟨rfl,a_,a_⟩ hY F (λ_ _ a c e _ b=>⟨a,c,rfl,b,e,λ_=>rfl⟩) λ_ _ _ _ _ z=>z
end K78
local macro_rules | `(tactic| walk_at"q") => `(tactic| exact ⟨_, _, _, _, _, _, _, _, _, _, by k_is, by k_is, by k_is, by k_is⟩)
def D_{p:Prop}(h:p:=by walk_at"q"):p:=h
local macro_rules | `(tactic| walk_at"m") => `(tactic| exact ⟨_, _, _, _, _, _, _, _, _, _, by k_is, by k_is, by k_is, by k_is, by k_is⟩)
namespace PySem.W.Fast
open PySem PySem.W PyProof.Rows
abbrev J:=True
def tw7980123661828988144:=J
def tw6759481538593632329:=J
def tw17290534927004057357:=J
def tw3270320589467520615:=J
def tw139227565295346485:=J
def tw6026350148516189378:=J
def tw9768781897580032719:=J
def tw17113846534003024996:=J
def tw6001750211143527198:=J
def tw14822628576883740781:=J
def tw8845553931170429060:=J
def tw13954987861994634013:=J
def tw6900757850806951659:=J
def tw7697585776129379658:=J
def tw11682643686939107977:=J
def tw10542777016552282306:=J
def tw230613809382813190:=J
def tw8227296914694611379:=J
def tw12200167079923655183:=J
def tw12169739278884143052:=J
def tw2017914518840580339:=J
def tw3847590578690340826:=J
def tw414093181415394042:=J
def tw10715186423424546749:=J
def tw11615586498005950022:=J
def tw5936995939396703284:=J
def tw13240664742856920033:=J
def tw16628750968621846494:=J
def tw14204641782138432153:=J
def tw15211156511432943128:=J
def tw14668869094997354188:=J
def tw4549524587565018673:=J
def tw6850870346013464628:=J
def tw6651196106110191432:=J
def tw11944262569606644876:=J
def tw3902542975348842909:=J
def tw7757506116680964905:=J
def tw5440180098095040425:=J
def tw14013682237064542122:=J
def tw1095942714157764701:=J
def tw2029635142855400176:=J
def tw15480273085683050563:=J
def tw11485870088124315202:=J
def tw4146782828355615597:=J
def tw9503710826727222079:=J
def tw10489638889268959132:=J
def tw11009160236886493502:=J
def tw15920745370959041302:=J
def tw13145743472098877335:=J
def tw4096802045011052896:=J
def tw14777228942561621118:=J
def tw5578480562370301469:=J
def tw3601555111970033737:=J
def tw490497357333390865:=J
def tw12959672076006569365:=J
def tw13962596066358286057:=J
def tw128192755395955146:=J
def tw10938611502780678109:=J
def tw8335059136889851663:=J
def tw10546537159397741881:=J
def tw15946637067208452713:=J
def tw9596243772476715609:=J
def tw3428842644494172867:=J
def tw17655174043119372603:=J
def tw2681883738005163032:=J
def tw11841836840906439111:=J
def tw14148569958021377966:=J
def tw4649672198622350336:=J
def tw6660445443615991415:=J
def tw13338861045684098952:=J
def tw9815240148970569359:=J
def tw4925497980940587188:=J
def tw8476336421280515579:=J
def tw7926859449827995673:=J
def tw4404069932282409244:=J
def tw11111760762873156505:=J
def tw16861821688490709449:=J
def tw6532848991236816581:=J
def tw15980919896027400290:=J
def tw3323234394304664453:=J
def tw12431018741203827555:=J
def tw12277564387154901592:=J
def tw1149487099311790110:=J
def tw12277371616377354424:=J
def tw6933260744882208538:=J
def tw3795174137841708290:=J
def tw17213780976716320937:=J
def tw8384693892163696691:=J
def tw4618341904536079237:=J
def tw8724316264335148736:=J
def tw4702555302327066024:=J
def tw14898577726760470518:=J
def tw3586288875530389320:=J
def tw9861870655881947674:=J
def tw15430947049584120884:=J
def tw9722740761391663291:=J
def tw11319656911423165451:=J
def tw10454515964160707457:=J
def tw10193420351971121087:=J
def tw2199389508159860188:=J
def tw5762897842198473148:=J
def tw6452648643049735060:=J
def tw418357971737502598:=J
def tw828050321544206499:=J
def tw8959384197042003512:=J
def tw1865174225301056118:=J
def tw6649033802004878683:=J
def tw11717832395934882326:=J
def tw12547094248833633644:=J
def tw1948795185127466596:=J
def tw1292370138951052942:=J
def tw9909641539818818681:=J
def tw3016960438282186760:=J
def tw16659703858362818626:=J
def tw10975137210543300467:=J
def tw3052315764426784963:=J
def tw12453158684001511633:=J
def tw2081618736237538115:=J
def tw8621739603908110789:=J
def tw9026447103959554732:=J
def tw12026660186347773458:=J
def tw4837597409901105793:=J
def tw4227158982155794999:=J
def tw17908304436575542967:=J
def tw15490849623694818116:=J
def tw13472731886889896410:=J
def tw6124374077278371816:=J
def tw17303869349609684447:=J
def tw7667018875675250096:=J
def tw3196570679404633926:=J
def tw3820987451228306881:=J
def tw4691270458446327604:=J
def tw4270649442564291678:=J
def tw11777077653144631595:=J
def tw13761641666006056251:=J
def tw7404019274187349622:=J
def tw9142359701723831176:=J
def tw5338696609387567449:=J
def tw10515469597119639356:=J
def tw6584451498297591167:=J
def tw17576506411934891488:=J
def tw6583653403193646157:=J
def tw10553169659284455451:=J
def tw9110029436362205002:=J
def tw9073690420626499546:=J
def tw121538417265917077:=J
def tw15129056969554054607:=J
def tw2690863383397325431:=J
def tw11370394181205041309:=J
def tw10999189586173051823:=J
def tw15614466143867990203:=J
def tw4119347728582210352:=J
def tw13465326393365438388:=J
def tw6601846526370340789:=J
def tw3444721828689187126:=J
def tw5951403608904759355:=J
def tw3757690983866551065:=J
def tw4874470842991176592:=J
def tw9886655169738693408:=J
def tw3157156442583153627:=J
def tw3011039668225437047:=J
def tw3693350170794056139:=J
def tw10627094503262506681:=J
def tw2264655549817275349:=J
def tw1623802422287940764:=J
def tw1853800625189322455:=J
def tw14162443491245608870:=J
def tw288960118330177562:=J
def tw11410594895314963524:=J
def tw13020276669536926654:=J
def tw16781608023268929562:=J
def tw14275748762415883320:=J
def tw346361454030503702:=J
def tw1511142341412722767:=J
def tw1774158982693589100:=J
def tw7554997463833623761:=J
def tw17629236685689774782:=J
def tw13851894944422379642:=J
def tw16792076326466904096:=J
def tw16297551029199586805:=J
def tw2047971029016584714:=J
def tw5920792366982701276:=J
def tw9217952824456288335:=J
def tw11116395502674462912:=J
def tw2329501383734473964:=J
def tw1309483064298425099:=J
def tw5377880658678869898:=J
def tw16335716439704033401:=J
def tw5241109674128815362:=J
def tw754196181293673901:=J
def tw18117875337375025684:=J
def tw1409732007976537033:=J
def tw4528508949406248925:=J
def tw15835757446015939761:=J
def tw5760962574831712067:=J
def tw9956431371712465711:=J
def tw4075410019968763828:=J
def tw6940380884938237346:=J
def tw8188904513444682109:=J
def tw5539119108872045015:=J
def tw8330956179300495623:=J
def tw12349822598073136117:=J
def tw13904555276757160198:=J
def tw3626487357255631024:=J
def tw11617744431202154147:=J
def tw11684443673557653733:=J
def tw18173396736505985449:=J
def tw6945710163532120096:=J
def tw3082184213082790664:=J
def tw2170248208748493949:=J
def tw6118082849996064191:=J
def tw8358199606971207383:=J
def tw7795185655431745958:=J
def tw17725568293170101023:=J
def tw17881832750846429040:=J
def tw8043534502616240351:=J
def tw8278115410873302609:=J
def tw16034296297119325705:=J
def tw15485734841962468772:=J
def tw2160458528560200620:=J
def tw9275623446195916287:=J
def tw4619189518331751850:=J
def tw4143546691907236315:=J
def tw3535432556650117308:=J
def tw9048579838291384150:=J
def tw831454400999110715:=J
def tw5783948522895606801:=J
def tw4351889242154984416:=J
def tw13015610008339203125:=J
def tw10253262822451474009:=J
def tw11024033328181921068:=J
def tw3089785507647339288:=J
def tw2987798077605877844:=J
def tw8564871677622636935:=J
def tw13631557250955118692:=J
def tw16613879531063966838:=J
def tw3973461555092200170:=J
def tw15319078323293885771:=J
def tw12033376320906552054:=J
def tw667063249104902688:=J
def tw13455722635903439316:=J
def tw6050582242084565013:=J
def tw2124944379685317140:=J
def tw16498218042563186361:=J
def tw17373361288994429902:=J
def tw6705310636596353942:=J
def tw11452689978504006719:=J
def tw8405330876290273745:=J
def tw5350698113363221882:=J
def tw7552506160344740318:=J
def tw17863700363440138361:=J
def tw4725699126963811281:=J
def tw15350315148602847110:=J
def tw10576982832626590844:=J
def tw10334241821853066570:=J
def tw12711068520160084073:=J
def tw12983362979849116585:=J
def tw3264557517684170971:=J
def tw11462366590355658071:=J
def tw13040370026564994599:=J
def tw16178656143563745111:=J
def tw4478670806420108282:=J
def tw7208059838035650453:=J
def tw12187465420402633199:=J
def tw8292564853863228463:=J
def tw10242167525309482288:=J
def tw14513410061258590388:=J
def tw10447214842457202122:=J
def tw10406532236994615419:=J
def tw3745924191944887091:=J
def tw3318732549650890185:=J
def tw6798348037684631222:=J
def tw11692348491322797564:=J
def tw9015957316626017092:=J
def tw9129876066428492545:=J
def tw458048482468878949:=J
def tw5908996957043597395:=J
def tw10674089519451378363:=J
def tw1513205984295835866:=J
def tw6363708922697236681:=J
def tw7920805690110857772:=J
def tw3424283900989595639:=J
def tw11458156831839163866:=J
def tw15387676506767820447:=J
def tw3342252600956666738:=J
def tw15977505762588808405:=J
def tw6478972262785270454:=J
def tw6287616820422458061:=J
def tw10266732069780160131:=J
def tw16769450172747069960:=J
def tw17936453680859632020:=J
def tw13201024052510691674:=J
def tw8294650489263458076:=J
def tw4511558789862824148:=J
def tw11540592459148602997:=J
def tw5908227855328741231:=J
def tw780828664618704735:=J
def tw4506414356958664229:=J
def tw3466412102546878924:=J
def tw18248498120842155873:=J
def tw8062670648068371820:=J
def tw1375907957195485151:=J
def tw13859989917529239456:=J
def tw197746091220437957:=J
def tw15675876617756128632:=J
def tw7290369645989903962:=J
def tw2106848008161725634:=J
def tw5925265197846476660:=J
def tw10549650928273904252:=J
def tw262626102746718498:=J
def tw2926871452318101841:=J
def tw16993605115286122985:=J
def tw6618312141947737563:=J
def tw14543890344139830040:=J
def tw11046349884947849383:=J
def tw14782995539436733150:=J
def tw16145146276527373132:=J
def tw15919681235861336775:=J
def tw11473126021683270778:=J
def tw13836072576875214640:=J
def tw10793424150223631949:=J
def tw17294283606221008084:=J
def tw1915219749131904025:=J
def tw16391347768291426695:=J
def tw1006351721654696463:=J
def tw18210748861916950066:=J
def tw16089612204737403656:=J
def tw6139781114152518634:=J
def tw15094798722035407909:=J
def tw411936772189879488:=J
def tw2612628402733226605:=J
def tw12930653646184884739:=J
def tw3885575497849453418:=J
def tw1895290633683028579:=J
def tw18382431077722810353:=J
def tw2419733390263441740:=J
def tw16967898371343845403:=J
def tw11911553516580586799:=J
def tw1917446153003344416:=J
def tw517823145827878930:=J
def tw16409256579424242008:=J
def tw17991324865559161046:=J
def tw12622800866854483703:=J
def tw11664267913143453265:=J
def tw14202463819164574401:=J
def tw15550575441889421594:=J
def tw10999309943569631390:=J
def tw11928807945964797180:=J
def tw5684310494344430125:=J
def tw5333432928135147287:=J
def tw18382141756770324000:=J
def tw15654293160499595973:=J
def tw4809391178935224925:=J
def tw15450480088865269783:=J
def tw5237752645637503613:=J
def tw14923303289369128011:=J
def tw17913323169658481248:=J
def tw7774499652732839829:=J
def tw12187998971328699828:=J
def tw8281620259362156544:=J
def tw1973178217694199555:=J
def tw3305413228988353602:=J
def tw14610090606600977683:=J
def tw645564014428037438:=J
def tw12700400243495350940:=J
end PySem.W.Fast
set_option maxRecDepth 100000 in
set_option maxHeartbeats 0 in
open PySem PySem.W PyProof.Rows
theorem PySem.Challenge.cw_hatsight_k78_whole_from_text_holds : PySem.Challenge.rw_hatsight_k78_whole_from_text.Holds := by
 w_on;o_law;k_head;(case hw=>w_witness2)
 k_fill
 refine K78.walk (l:=PySem.Challenge.rw_hatsight_k78_whole_from_text) rfl rfl (fun w h Y=>kIn_of Y) ?F
 case F=>
  intro w mg fa h KX G hmg;refine' K78.all_mk KX G hmg D_ D_ D_ D_ D_ D_ D_ D_ D_ D_ D_ D_ D_ D_ D_ D_ D_ D_ D_ D_ D_ D_ D_ D_ D_ D_ D_ D_ D_ D_ D_ D_ D_ ?a33 ?l33 ?c33 ?k33 ?lt33 ?ld33 D_ D_ D_ D_ D_ D_ D_ D_ D_ D_ D_ D_ D_ D_ D_ D_ D_ D_ D_ D_ D_ D_ D_ D_ D_ D_ D_ ?a61 ?l61 ?c61 ?k61 ?z0 ?z1 ?z2 ?z3 ?z4 ?z5 ?z6 ?z7 ?z8 ?z9 ?z10 ?z11 ?z12 ?z13 ?z14 ?z15 ?z16 ?q0 ?q1 ?q2 ?q3 ?q4 ?fa0 ?fhs ?fa1 ?fl0 ?fl1 ?fl2 ?fl3 ?fl4 ?fl5 ?fl6 ?fl7 ?fl8 ?caHall ?cokHall ?caDesk ?cokDesk ?md0 ?md1 ?md2 ?md3 ?md4 ?ma5 ?ml5 ?mq5 ?mw5 ?mi5 ?mlt5 ?mld5 ?md6
  (case a33=>k_is);(case l33=>k_is);(case c33=>k_is);(case k33=>k_is)
  (case lt33=>k_is);(case ld33=>rfl)
  (case a61=>k_is);(case l61=>k_is);(case c61=>k_is);(case k61=>k_is)
  (case q0=>k_is)
  (case q1=>k_is)
  (case q2=>k_is)
  (case q3=>k_is)
  (case q4=>k_is)
  (case fa0=>k_is);(case fhs=>rfl);(case fa1=>k_is);(case fl0=>k_is);(case fl1=>k_is);(case fl2=>k_is);(case fl3=>k_is);(case fl4=>k_is);(case fl5=>k_is);(case fl6=>k_is);(case fl7=>k_is);(case fl8=>k_is)
  (case caHall=>k_is)
  (case caDesk=>k_is)
  (case md0=>walk_at"m")
  (case md1=>walk_at"m")
  (case md2=>walk_at"m")
  (case md3=>walk_at"m")
  (case md4=>walk_at"m")
  (case ma5=>k_is);(case ml5=>k_is);(case mq5=>k_is);(case mw5=>k_is);(case mi5=>k_is);(case mlt5=>k_is);(case mld5=>rfl)
  (case md6=>walk_at"m")
  (case cokHall=>kernel_rfl)
  (case cokDesk=>kernel_rfl)
  (case z0=>k_is)
  (case z1=>k_is)
  (case z2=>k_is)
  (case z3=>k_is)
  (case z4=>k_is)
  (case z5=>k_is)
  (case z6=>k_is)
  (case z7=>k_is)
  (case z8=>k_is)
  (case z9=>k_is)
  (case z10=>k_is)
  (case z11=>k_is)
  (case z12=>k_is)
  (case z13=>k_is)
  (case z14=>k_is)
  (case z15=>k_is)
  (case z16=>k_is)
