import PyProof.Rows.All
import Wide.All
import OpenK.AllK
import Wide.FinOn
import Lean
import PyProof.EqAt
import PyProof.EqKinds
import PyProof.TupleCall
import PyProof.AttrMissHeap
import PyProof.DictRoadsH
import KE.KDictOf
import PyProof.P3In
import PySem.Challenge.RW_stayprice_k69_whole_alike_for_every_stay
set_option maxHeartbeats 0
set_option linter.all false
set_option Elab.async false
def zI9:=@PySem.wpAny_bind
def zJ0:=@PySem.Heap.get?_push_of_some
def zJ1:=@PySem.wpAny_pure
def zJ2:=@List.getElem?_eq_getElem
def zJ3:=@List.length_map
def zJ4:=@Nat.lt_of_lt_of_le
def zJ5:=@Nat.le_refl
def zJ6:=@List.mem_cons
def zJ7:=@List.getD_eq_getElem?_getD
def zJ8:=@List.mem_cons_of_mem
def zJ9:=@PyProof.Rows.wpS_bind
def zK0:=@Nat.le_trans
def zK1:=@List.getElem?_eq_some_iff
def zK2:=@PySem.Heap.get?_push_size
def zK3:=@PySem.Heap.lt_size
def zK4:=@List.size_toArray
def zK5:=@List.mem_cons_self
def zK6:=@PyProof.Rows.wpS_pure
def zK7:=@Nat.zero_le
def zK8:=@List.getElem?_map
def zK9:=@Nat.ne_of_lt
def zL0:=@Nat.le_of_eq
def zL1:=@List.not_mem_nil
def zL2:=@Nat.le_add_right
def zL3:=@List.mem_append_right
def zL4:=@Nat.lt_of_le_of_lt
def zL5:=@Bool.false_ne_true
def zL6:=@List.mem_append
def zL7:=@List.take_append_drop
def zL8:=@List.length_cons
def zL9:=@List.mem_singleton
def zM0:=@decide_eq_false
def zM1:=@List.append_assoc
def zM2:=@Option.map_eq_some_iff
def zM3:=@List.length_take
def zM4:=@PySem.W.mg_none_of
def zM5:=@Array.toList_append
def zM6:=@List.mem_append_left
def zM7:=@List.pairwise_append
def zM8:=@decide_eq_true
def zM9:=@List.length_append
def zN0:=@Nat.add_lt_add_left
def zN1:=@Bool.and_eq_true
def zN2:=@Option.some.inj
def zN3:=@getElem?_pos
def zN4:=@PySem.wpAny_ite_split
def zN5:=@Nat.le_of_lt
def zN6:=@List.drop_eq_getElem_cons
def zN7:=@List.map_cons
def zN8:=@Nat.le_of_ble_eq_true
def zN9:=@Ne.symm
def zO0:=@or_false
def zO1:=@PySem.W.mg_of
def zO2:=@PySem.Heap.get?_update_other
def zO3:=@List.mem_of_getElem?
def zO4:=@List.length_set
def zO5:=@Nat.lt_or_ge
def zO6:=@List.getElem_mem
def zO7:=@List.Perm.append_left
def zO8:=@PySem.wpAny_mono
def zO9:=@PySem.wpAny_holding
def zP0:=@PySem.wpAny_newObj_type
def zP1:=@Nat.lt_irrefl
def zP2:=@Nat.lt_succ_self
def zP3:=@List.lookup_cons
def zP4:=@List.getElem?_set_ne
def zP5:=@List.getElem?_append_left
def zP6:=@PySem.sizeLine_eq
def zP7:=@PySem.wpAny_call_entry
def zP8:=@PyProof.Rows.wpS_forRange
def zP9:=@Array.length_toList
def zQ0:=@PySem.mem_of_lookup
def zQ1:=@PyProof.Rows.callWith_type1
def zQ2:=@PySem.wpAny_callSpecial?_slot
def zQ3:=@List.append_nil
def zQ4:=@PySem.wpAny_setField_rec
def zQ5:=@List.pairwise_iff_getElem
def zQ6:=@PySem.Heap.size_push
def zQ7:=@PySem.W.kia_one
def zQ8:=@List.find?_cons
def zQ9:=@Nat.lt_add_of_pos_right
def zR0:=@List.getElem?_replicate
def zR1:=@List.mem_of_mem_take
def zR2:=@List.getElem?_append_right
def zR3:=@List.getElem?_set_self
def zR4:=@Int.le_refl
def zR5:=@PySem.wpAny_truthy_bool
def zR6:=@Nat.lt_succ_of_lt
def zR7:=@Int.toNat_natCast
def zR8:=@PySem.wpAny_rule
def zR9:=@Array.getElem?_eq_getElem
def zS0:=@PySem.F.slot_zip_next
def zS1:=@List.perm_append_comm
def zS2:=@List.length_drop
def zS3:=@List.take_length
def zS4:=@PySem.wpAny_field
def zS5:=@PySem.wpAny_seqItems
def zS6:=@PySem.Around.under_plainId
def zS7:=@List.mem_of_mem_drop
def zS8:=@Nat.le_of_lt_succ
def zS9:=@of_decide_eq_true
def zT0:=@Nat.le_antisymm
def zT1:=@Array.Perm.refl
def zT2:=@PySem.wpAny_nextOf_list_item
def zT3:=@Nat.le_of_not_lt
def zT4:=@Array.getElem?_toList
def zT5:=@Bool.false_eq_true
def zT6:=@List.getElem?_eq_none
def zT7:=@PySem.F.plain_extend_loop
def zT8:=@Nat.le_succ
def zT9:=@Nat.ne_of_gt
def zU0:=@PyProof.Rows.get?_update_seq
def zU1:=@List.mem_iff_getElem
def zU2:=@PySem.codeAny_builtin
def zU3:=@PyProof.Rows.wpS_mono
def zU4:=@Bool.and_eq_true_iff
def zU5:=@List.take_sublist
def zU6:=@decide_eq_true_eq
def zU7:=@List.take_add_one
def zU8:=@List.drop_sublist
def zU9:=@PySem.wpAny_setState_of
def zV0:=@Array.toList_push
def zV1:=@PySem.wpAny_attempt
def zV2:=@PySem.Heap.SameBut.update
def zV3:=@List.drop_length
def zV4:=@PySem.wpAny_askSetting
def zV5:=@List.Perm.append_right
def zV6:=@Int.le_trans
def zV7:=@PySem.Heap.get?_update_self
def zV8:=@List.map_append
def zV9:=@PySem.wpAny_updateSeq
def zW0:=@List.extract_eq_take_drop
def zW1:=@PyProof.Rows.wpS_modify
def zW2:=@Array.toList_reverse
def zW3:=@Nat.lt_trans
def zW4:=@Int.le_of_lt
def zW5:=@List.getElem?_take_of_lt
def zW6:=@List.filter_cons
def zW7:=@PySem.F.called_set
def zW8:=@beq_eq_false_iff_ne
def zW9:=@PySem.wpAny_setEntries_of
def zX0:=@PyProof.Rows.slot_tuple_getitem
def zX1:=@PySem.F.plainAttrs_list
def zX2:=@List.length_eq_zero_iff
def zX3:=@PySem.plainId_quiet
def zX4:=@List.sum_cons
def zX5:=@PySem.wpAny_Call_Name_kw
def zX6:=@PySem.wpAny_of_eq
def zX7:=@PySem.wpAny_pyIter_list
def zX8:=@PySem.codeAny_mono
def zX9:=@if_true
def zY0:=@Nat.succ_pos
def zY1:=@PySem.builtinLookup_eq_fast
def zY2:=@beq_iff_eq
def zY3:=@if_false
def zY4:=@List.all_eq_true
def zY5:=@List.cons_append
def zY6:=@Nat.mul_le_mul_right
def zY7:=@Array.toList_extract
def zY8:=@Array.perm_iff_toList_perm
def zY9:=@PyProof.Rows.listUpdate_at
def zZ0:=@List.filterMap_cons
def zZ1:=@List.length_reverse
def zZ2:=@List.getElem_of_mem
def zZ3:=@List.reverse_append
def zZ4:=@List.mem_filter
def zZ5:=@PySem.wpAny_passesOwn
def zZ6:=@List.nodup_cons
def zZ7:=@Bool.or_eq_true
def zZ8:=@List.nil_append
def zZ9:=@Nat.div_add_mod
def z00:=@PySem.PassesOwn.never
def z01:=@PyProof.Rows.assignInOrder_cons
def z02:=@List.mem_map
def z03:=@Int.emod_lt_of_pos
def z04:=@Bool.false_and
def z05:=@PySem.wpAny_newTuple
def z06:=@List.getElem?_cons_succ
def z07:=@Int.eq_ofNat_of_zero_le
def z08:=@decide_eq_false_iff_not
def z09:=@PySem.F.args_zip_next_1
def z21:=@List.pairwise_singleton
def z22:=@PySem.Heap.get?_push_ne
def z23:=@PySem.fits_of_scanBound
def z24:=@PySem.F.entry_zip_next
def z25:=@PySem.wpAny_standAt
def z26:=@List.any_cons
def z27:=@PySem.strLen_append
def z28:=@List.take_add
def z29:=@Nat.min_le_right
def z30:=@List.ext_getElem
def z31:=@PySem.Heap.size_update
def z32:=@PySem.wpAny_isInstance
def z33:=@PySem.W.methodCall_KW
def z34:=@Bool.eq_iff_iff
def z35:=@PySem.wpAny_loadPart'
def z36:=@Int.not_le
def z37:=@List.forIn_cons
def z38:=@PySem.wpAny_specialOf
def z39:=@PySem.typeLookup_type
def z40:=@Nat.not_lt_zero
def z41:=@Nat.min_eq_left
def z42:=@Int.emod_nonneg
def z43:=@PySem.W.plainGet_of
def z44:=@List.mem_range
def z45:=@List.take_take
def z46:=@PySem.W.callWith_K
def z47:=@Int.lt_of_lt_of_le
def z48:=@List.forIn_toArray
def z49:=@of_decide_eq_false
def z50:=@List.all_cons
section
variable {a b c d e f g A B C D E F G H I J K L:Nat}{p q r s t u v w P Q R S T U V W:Int}
theorem om0 (h:a<b):b-(a+1)<b-a:=by lia
theorem om5 (h:0=a-b)(i:b<=a):b=a:=by lia
theorem om6 (h:a+1=b-c):c<b:=by omega
theorem om7 (h:a+b=c-d):a=c-(d+b):=by omega
theorem om9 (h:(a:Int)<(b:Int)):a<b:=by omega
theorem zH9 :min a b+(b-a+c)=b+c:=by lia
theorem zG6 (h:a+64<b):a+1<b:=(zW3 (zN0 (by decide) a) h)
theorem zG3 (h:a<=1000):((min b a:Nat):Int)<=1000:=by lia
theorem jW (h:a<64):a<=16777216:=(zN5 (zW3 h (by decide:(64:Nat)<(16777216:Nat))))
theorem zG0 :p+(q+r)=p+q+r:=by lia
theorem zF7 (h:p<=q)(i:r<=s):p+r<=s+q:=by lia
theorem zI1 (h:a+b<=c)(i:d<b):a+d<c:=by lia
theorem zA8 (h:a<=b)(i:c<=b):max a c<=b:=by lia
theorem zk5 (h:a<=7):a+1<=8:=(zL4 h (by decide:(7:Nat)<(8:Nat)))
theorem zi3 (h:a+b<=c)(i:d<=e+b)(j:e<=a):d<=c:=by lia
theorem zA5 (h:a+1+1<2):False:=by lia
theorem zi0 (h:2<=a)(i:a=b):0<b:=(zJ4 (by decide:(0:Nat)<(2:Nat)) (zK0 h (zL0 i)))
theorem kY (h:a+(b+c)<=d):a+c+b<=d:=by lia
theorem dY (h:a<b+1)(i:¬a=b):a<b:=by lia
theorem zw8 :a+(b+c)=a+c+b:=by lia
theorem zD3 (h:p<=q):p+(((q-p).toNat:Nat):Int)=q:=by omega
theorem zi7 (h:a+b<=c):min b (c-a)=b:=by lia
theorem zy5 (h:a<b):((c+a:Nat):Int)<(c:Int)+(b:Int):=by omega
theorem zB5 (h:a+b<=c)(i:d=c):min b (d-a)=b:=by lia
theorem zz2 (h:a<b-c):c+a<b:=by omega
theorem ze9 (h:p+q=r+s+t):q=s+(t-(p-r)):=by lia
theorem zh9 (h:a<b)(i:b<=c):b-1<c:=by omega
theorem zi6 (h:(a:Int)=(b:Int)):b=a:=by lia
theorem ze7 (h:a+max b c<d):a+c<d:=by lia
theorem zx5 (h:a+b+c=d+b+e):a+c=d+e:=by lia
theorem zE2 (h:a+b=a+c):¬c<b:=by lia
theorem zv9 (h:0+a=b+1+c):c<a:=by lia
theorem zE0 (h:a+b=0+c):¬c<b:=by lia
theorem zE3 (h:a=b)(i:c=d):b+c=d+a:=by lia
theorem zA2 (h:a-b=0)(i:b<=a):b=a:=by omega
theorem zx2 (h:a-b=c+1):b<a:=by omega
theorem zA6 (h:a-b=c+d):a-(b+d)=c:=by omega
theorem pL (h:a<b):b-1<b:=by lia
theorem zz6 (h:a<=b):(a:Int)-(b:Int)<=0:=by lia
theorem zB0 (h:a=16777216)(i:b<=a):¬(b:Int)≥2^63:=by lia
theorem zv7 (h:a=16777216)(i:b<=a):b<=1099511627776:=(zN5 (zL4 i (zL4 (zL0 h) (by decide:(16777216:Nat)<(1099511627776:Nat)))))
theorem dN (h:a=16777216)(i:b=c)(j:b<=a):(c:Int)<2^63:=by lia
theorem zi1 (h:a+3*(b+c)+d<e):a+c+3*b+d<e:=by lia
theorem zf8 (h:a+16*(b+c)+200<d):a+c+16*b+200<d:=by lia
theorem zz8 (h:a=b)(i:b<=c):a+(c-a)=c:=by lia
theorem fP (h:a<2^63)(i:p<(b:Int))(j:b<=a):p<2^63:=by lia
theorem cA (h:(-(a:Int))<=p)(i:a<=b)(j:b<2^63):(-(2^63))<=p:=by lia
theorem zg1 (h:p<0):max 0 (min (p+q) q)=(((p+q).toNat:Nat):Int):=by lia
theorem zg3 :max 0 (min p (a:Int))=((min p.toNat a:Nat):Int):=by lia
theorem zh2 (h:a<2^63)(i:b=c)(j:b<=a):(c:Int)<2^63:=by lia
theorem zg6 (h:a+b<=c)(i:a=d)(j:b=e):d+e<=c:=by lia
theorem zd3 (h:a<=b)(i:¬a=b):a<=b-1:=by lia
theorem zj1 (h:a<1)(i:b<=a):b=0:=by lia
theorem zj3 (h:a<1):a=0:=by lia
theorem jd (h:a<=b+c+d):a<=b+(d+c):=by lia
theorem zk0 (h:a<b):b<=b-c+b-1-a+c:=by omega
theorem zf3 (h:a<b)(i:c<=a):c+b-1-a<b:=by omega
theorem zd7 (h:a-b<=c):a<=c+b:=by lia
theorem zf5 :¬(a<=b/\b<b):=by lia
theorem qv (h:a+1<=b+(0+1))(i:b<a+1):b=a:=by omega
theorem zj2 (h:a+b<=c+(d+b)):a<=c+d:=by lia
theorem zk3 :a<=a-b+(c+b):=by omega
theorem zd8 (h:a<b):0+b-1-c<b:=by omega
theorem fj (h:a<=b+(c-b))(i:b<=c):a<=c:=by omega
theorem zi9 (h:a<b):a<=b-1:=by omega
theorem zj8 (h:a>1):a-1<a:=by lia
theorem lY (h:a<b)(i:b<=c)(j:d<=1+(b-1)):d<=c:=by lia
theorem zh8 (h:a<b+1)(i:c<a):a-1<b:=by lia
theorem zz3 (h:a<=1000):a<=16777216:=(zN5 (zL4 h (by decide:(1000:Nat)<(16777216:Nat))))
theorem dF :a<a+5\/a+5<a:=(.inl (zQ9 (by decide)))
theorem zf6 :a+4<a\/a<a+4:=(.inr (zQ9 (by decide)))
theorem gA :a+4<a+5\/a+5<a+4:=(.inl (zN0 (by decide) a))
theorem fZ :a+1<a+5\/a+5<a+1:=(.inl (zN0 (by decide) a))
theorem dz :a+1<a+4\/a+4<a+1:=(.inl (zN0 (by decide) a))
theorem zk6 :a+4<a+1\/a+1<a+4:=(.inr (zN0 (by decide) a))
theorem ee :a+2<a+5\/a+5<a+2:=(.inl (zN0 (by decide) a))
theorem zf9 :a+2<a\/a<a+2:=(.inr (zQ9 (by decide)))
theorem dW :a+2<a+4\/a+4<a+2:=(.inl (zN0 (by decide) a))
theorem ze8 :a+2<a+1\/a+1<a+2:=(.inr (zN0 (by decide) a))
theorem zg5 :a+4<a+2\/a+2<a+4:=(.inr (zN0 (by decide) a))
theorem gk :a+5<a+4\/a+4<a+5:=(.inr (zN0 (by decide) a))
theorem zh1 :a+5<a+2\/a+2<a+5:=(.inr (zN0 (by decide) a))
theorem zj5 :a+5<a+1\/a+1<a+5:=(.inr (zN0 (by decide) a))
theorem zj9 :a+5<a\/a<a+5:=(.inr (zQ9 (by decide)))
theorem gQ :a<a+4\/a+4<a:=(.inl (zQ9 (by decide)))
theorem zj7 :a<a+2\/a+2<a:=(.inl (zQ9 (by decide)))
theorem zh0 :a+1<a+2\/a+2<a+1:=(.inl (zN0 (by decide) a))
theorem cN :a+3<a+5\/a+5<a+3:=(.inl (zN0 (by decide) a))
theorem ze1 :a+3<a\/a<a+3:=(.inr (zQ9 (by decide)))
theorem zf0 :a+3<a+1\/a+1<a+3:=(.inr (zN0 (by decide) a))
theorem ze0 :a+3<a+2\/a+2<a+3:=(.inr (zN0 (by decide) a))
theorem ze3 (h:(-(2^62))<=p):(-(2^63))<=p:=by lia
theorem zg9 (h:p<2^62):p<2^63:=by lia
end
set_option maxRecDepth 100000
namespace L2
open PySem PySem.Spec PyProof.Rows
abbrev Key :=Sum Int Str
def rT :Key->Value->Bool
 |.inl k,v=>Value.isInt k v
 |.inr x,v=>Value.isStrOf x v
def zI3 (w:World):Key->Int
 |.inl k=>hashInt k
 |.inr x=>hashStr w x
theorem zU :∀{k:Key}{v:Value},rT k v=true->(∃i t,k=Sum.inl i/\v=Value.int i t)\/(∃x t,k=Sum.inr x/\v=Value.str x t)
 |.inl i,v,h=>by
  obtain⟨t,e⟩:=Value.isInt_shape (k:=i) (v:=v) h;exact .inl ⟨i,t,rfl,e⟩
 |.inr x,v,h=>by
  obtain⟨t,e⟩:=Value.isStrOf_shape (x:=x) (v:=v) h;exact .inr ⟨x,t,rfl,e⟩
theorem jV (i:Int)(t:Tok):rT (.inl i) (.int i t)=true:=by simp[rT,Value.isInt]
theorem iV (x:Str)(t:Tok):rT (.inr x) (.str x t)=true:=by simp[rT,Value.isStrOf]
theorem zo2 (a b:Int):decide ((Sum.inl a:Key)=Sum.inl b)=(a == b):=by
 by_cases e:a=b
 ·subst e;simp
 ·have h:¬(Sum.inl a:Key)=Sum.inl b:=λq=>e (Sum.inl.inj q);rw[zM0 h];exact(zW8.mpr e).symm
theorem zl5 (a b:Str):decide ((Sum.inr a:Key)=Sum.inr b)=decide (a=b):=by
 by_cases e:a=b
 ·subst e;simp
 ·have h:¬(Sum.inr a:Key)=Sum.inr b:=λq=>e (Sum.inr.inj q);rw[zM0 h,zM0 e]
theorem zl8 (a:Int)(b:Str):decide ((Sum.inl a:Key)=Sum.inr b)=false:=zM0 (λq=>nomatch q)
theorem zn6 (a:Str)(b:Int):decide ((Sum.inr a:Key)=Sum.inl b)=false:=zM0 (λq=>nomatch q)
def yB (prog:Program)(w:World):PySem.KeyKind prog w Key where
 is:=rT
 hash:=zI3 w
 inj:=λv a b ha hb=>by
  rcases zU ha with⟨i,t,rfl,rfl⟩|⟨x,t,rfl,rfl⟩
  ·rcases zU hb with⟨j,u,rfl,e⟩|⟨y,u,rfl,e⟩
   ·injection e with e1 _;rw[e1]
   ·exact nomatch e
  ·rcases zU hb with⟨j,u,rfl,e⟩|⟨y,u,rfl,e⟩
   ·exact nomatch e
   ·injection e with e1 _;rw[e1]
 byValue:=λk v h=>by
  rcases zU h with⟨i,t,rfl,rfl⟩|⟨x,t,rfl,rfl⟩<;>rfl
 pyHash:=λc h=>by
  rcases zU c with⟨i,t,rfl,rfl⟩|⟨x,t,rfl,rfl⟩
  ·exact wpAny_pyHash_int h
  ·exact wpAny_pyHash_str h
 eqBool:=λd c h=>by
  rcases zU d with⟨i,t,rfl,rfl⟩|⟨x,t,rfl,rfl⟩
  ·rcases zU c with⟨j,u,rfl,rfl⟩|⟨y,u,rfl,rfl⟩
   ·rw[zo2]at h;exact wpAny_eqBool_int h
   ·rw[zl8]at h;exact SeqAt.EqAt.int_str i t y u _ _ _ _ h
  ·rcases zU c with⟨j,u,rfl,rfl⟩|⟨y,u,rfl,rfl⟩
   ·rw[zn6]at h;exact SeqAt.EqAt.str_int x t j u _ _ _ _ h
   ·rw[zl5]at h;exact wpAny_eqBool_str h
 «strs»:=λk x t v h=>by
  rcases zU h with⟨i,u,rfl,e⟩|⟨y,u,rfl,e⟩
  ·exact nomatch e
  ·injection e with e1 _;subst e1;cases v<;>rfl
theorem oF (prog:Program)(w:World)(i:Int)(t:Tok):(yB prog w).is (.inl i) (.int i t)=true:=jV i t
theorem oA (prog:Program)(w:World)(x:Str)(t:Tok):(yB prog w).is (.inr x) (.str x t)=true:=iV x t
inductive V where
 |non|bl (b:Bool)|int (i:Int)|str (x:Str)|byt (b:Array UInt8)|flt (b:UInt64)|ref (a:Addr)|ty (n:String)
 deriving DecidableEq
def RelV :V->Value->Prop
 |.non,u=>u=Value.none
 |.bl b,u=>u=Value.bool b
 |.int i,u=>∃t,u=Value.int i t
 |.str x,u=>∃t,u=Value.str x t
 |.byt b,u=>∃t,u=Value.bytes b t
 |.flt b,u=>∃t,u=Value.float b t
 |.ref a,u=>u=Value.ref a
 |.ty n,u=>u=Value.type n
abbrev Vals :List V->List Value->Prop:=Paired RelV
theorem Vals.length {xs:List V}{us:List Value}(r:Vals xs us):xs.length=us.length:=Paired.length r
theorem Vals.get :∀{xs:List V}{us:List Value}{i:Nat}{x:V},Vals xs us->xs[i]?=some x->∃u,us[i]?=some u/\RelV x u
 |_,_,_,_,.nil,e=>by simp at e
 |_,_,0,_,.cons r _,e=>by simp at e;subst e;exact⟨_,rfl,r⟩
 |_,_,i+1,x,.cons _ t,e=>by
  obtain⟨u,b,a⟩:=Vals.get (i:=i) (x:=x) t (by simpa using e);exact⟨u,by simpa using b,a⟩
theorem Vals.set {x:V}{u:Value}(r:RelV x u):∀{xs:List V}{us:List Value} (i:Nat),Vals xs us->Vals (xs.set i x) (us.set i u)
 |_,_,_,.nil=>.nil
 |_,_,0,.cons _ t=>.cons r t
 |_,_,i+1,.cons q t=>.cons q (Vals.set r i t)
theorem Vals.append {xs ys:List V}{us ws:List Value}(h:Vals xs us)(s:Vals ys ws):Vals (xs++ys) (us++ws):=by
 induction h with
 |nil=>exact s
 |cons r _ a=>exact .cons r a
theorem Vals.take :∀{xs:List V}{us:List Value} (n:Nat),Vals xs us->Vals (xs.take n) (us.take n)
 |_,_,0,_=>.nil
 |_,_,_+1,.nil=>.nil
 |_,_,n+1,.cons r t=>.cons r (Vals.take n t)
theorem Vals.drop :∀{xs:List V}{us:List Value} (n:Nat),Vals xs us->Vals (xs.drop n) (us.drop n)
 |_,_,0,r=>r
 |_,_,_+1,.nil=>.nil
 |_,_,n+1,.cons _ t=>Vals.drop n t
def vf :Option V->Option Value->Prop
 |some v,some u=>RelV v u
 |none,none=>True
 |_,_=>False
def KV {a:Type}:List (a×V)->List (a×Value)->Prop:=Paired λ(p:a×V) (q:a×Value)=>p.1=q.1/\RelV p.2 q.2
def kV :Key->V
 |.inl i=>.int i
 |.inr x=>.str x
inductive HO where
  |lst (xs:List V)
  |tup (xs:List V)
  |dK (kvs:List (Key×V))|dT (kvs:List (List Key×V))
  |set (S:Int->Bool) (n:Nat)
  |ins (C dx:Addr) (fs:List (Str×V))
  |own (x:Addr)
  |xd (fs:List (Str×V))
  |met (f x:Addr)
  |rng (lo hi:Int)
  |frz (o:Obj) (u:HO)
  |tbl (ps:Array Value)
  |ext (φ:Heap->Prop)
abbrev Hp :=Addr->Option HO
def upd (H:Hp)(a:Addr)(o:HO):Hp:=λb=>if b=a then some o else H b
theorem zl {H:Hp}{a:Addr}{o:HO}:upd H a o a=some o:=by unfold upd;rw[if_pos rfl]
theorem zg {H:Hp}{a b:Addr}{o:HO}(h:b≠a):upd H a o b=H b:=by unfold upd;rw[if_neg h]
theorem qG {H:Hp}{a:Addr}{o u:HO}:upd (upd H a o) a u=upd H a u:=by funext b;unfold upd;split<;>rfl
theorem zm {H:Hp}{a b:Addr}{o:HO}(h:H a=some o)(h':H b=none):a≠b:=by intro e;subst e;rw[h]at h';cases h'
section
variable (P:Program)(w:World)
def zP (H:Hp)(h:Heap)(a:Addr):HO->Prop
 |.lst xs=>xs.length<=sizeLine/\∃(its:List Value) (n:Nat),Vals xs its/\h.get? a=some {cls:=.type "list",data:=.seq its.toArray n}
 |.tup xs=>xs.length<=sizeLine/\∃its:List Value,Vals xs its/\IsTup h a its.toArray
 |.dK kvs=>kvs.length<=sizeLine/\(a == sysModules)=false/\∃vs,KV kvs vs/\h.DictOf (yB P w) a vs
 |.dT kvs=>kvs.length<=sizeLine/\(a == sysModules)=false/\∃xs:List (List Key×Addr×Value),
   Paired (λ(p:List Key×V) (q:List Key×Addr×Value)=>p.1=q.1/\H q.2.1=some (.tup (p.1.map kV))/\RelV p.2 q.2.2) kvs xs/\
   ∃o es ep,h.get? a=some o/\o.ExactDict/\o.data=.dict es ep/\es.toList=xs.map (entryOfKey (tupleKind (yB P w)))/\(xs.map (·.1)).Nodup
 |.set S n=>h.SetOf (intKind P w) a S n
 |.ins C dx fs=>H dx=some (.own a)/\fs.length<=1000/\dx≠a/\h.get? a=some (PySem.W.instObj C dx)/\
   ∃mA,h.Ns1 dx mA/\(∀f,vf (fs.lookup f) (mA f))/\PySem.Within mA (fs.map (·.1))
 |.own _=>∃o,h.get? a=some o
 |.xd fs=>∃mA,h.Ns1 a mA/\∀f,vf (fs.lookup f) (mA f)
 |.rng lo hi=>∃t u v,h.get? a=some {cls:=.type "range",data:=.fields #[.int lo t,.int hi u,.int 1 v]}
 |.frz o u=>h.get? a=some o/\zP H h a u
 |.tbl ps=>h.get? a=some {cls:=.none,data:=.fields ps}
 |.met f x=>h.get? a=some (PySem.W.methodObj (.ref f) (.ref x))
 |.ext φ=>φ h/\(∃o,h.get? a=some o)/\∀b c:Heap,φ b->(∀o,b.get? a=some o->c.get? a=some o)->φ c
def HOk (H:Hp)(h:Heap):Prop:=∀a o,H a=some o->zP P w H h a o
end
section
variable {P:Program}{w:World}{H H':Hp}{h h':Heap}{a:Addr}{o:HO}
theorem zP.lt (x:zP P w H h a o):a<h.objs.size:=by
 cases o with
 |lst xs=>obtain⟨_,_,_,_,e⟩:=x;exact zK3 e
 |tup xs=>obtain⟨_,_,_,p⟩:=x;exact p.lt
 |dK kvs=>obtain⟨_,_,_,_,o,_,_,e,_⟩:=x;exact zK3 e
 |dT kvs=>obtain⟨_,_,_,_,o,_,_,e,_⟩:=x;exact zK3 e
 |set S n=>obtain⟨o,_,_,_,e,_⟩:=x;exact zK3 e
 |ins C dx fs=>obtain⟨_,_,_,e,_⟩:=x;exact zK3 e
 |own y=>obtain⟨_,e⟩:=x;exact zK3 e
 |xd fs=>obtain⟨_,⟨_,_,_,e,_⟩,_⟩:=x;exact zK3 e
 |rng lo hi=>obtain⟨_,_,_,e⟩:=x;exact zK3 e
 |frz ob u=>obtain⟨e,_⟩:=x;exact zK3 e
 |tbl ps=>exact zK3 (show h.get? a=some _ from x)
 |met f y=>exact zK3 (show h.get? a=some _ from x)
 |ext φ=>obtain⟨_,⟨_,e⟩,_⟩:=x;exact zK3 e
theorem Paired.mapP {α β:Type}{F G:α->β->Prop}{c:List α}{d:List β}(h:Paired F c d)(f:∀a b,F a b->G a b):Paired G c d:=by
 induction h with
 |nil=>exact .nil
 |cons r _ e=>exact .cons (f _ _ r) e
theorem zP.stay (x:zP P w H h a o)(k:∀b u,(b=a\/H b=some (.own a))->h.get? b=some u->h'.get? b=some u)
  (g:∀b,H b=some (.own a)->H' b=some (.own a)) (l:∀b xs,H b=some (.tup xs)->H' b=some (.tup xs)):zP P w H' h' a o:=by
 induction o with
 |lst xs=>obtain⟨z,its,n,r,e⟩:=x;exact⟨z,its,n,r,k _ _ (.inl rfl) e⟩
 |tup xs=>obtain⟨z,its,r,ob,e,c⟩:=x;exact⟨z,its,r,ob,k _ _ (.inl rfl) e,c⟩
 |dK kvs=>obtain⟨z,y,vs,r,ob,es,ep,e,c⟩:=x;exact⟨z,y,vs,r,ob,es,ep,k _ _ (.inl rfl) e,c⟩
 |dT kvs=>
  obtain⟨z,y,xs,r,ob,es,ep,e,c⟩:=x;exact⟨z,y,xs,Paired.mapP r λp q z=>⟨z.1,l _ _ z.2.1,z.2.2⟩,ob,es,ep,k _ _ (.inl rfl) e,c⟩
 |set S n=>obtain⟨ob,es,ep,t,e,c⟩:=x;exact⟨ob,es,ep,t,k _ _ (.inl rfl) e,c⟩
 |ins C dx fs=>
  obtain⟨d,z,ne,e,mA,⟨od,es,ep,j,c⟩,r⟩:=x;exact⟨g _ d,z,ne,k _ _ (.inl rfl) e,mA,⟨od,es,ep,k _ _ (.inr d) j,c⟩,r⟩
 |own y=>obtain⟨ob,e⟩:=x;exact⟨ob,k _ _ (.inl rfl) e⟩
 |xd fs=>obtain⟨mA,⟨od,es,ep,e,c⟩,r⟩:=x;exact⟨mA,⟨od,es,ep,k _ _ (.inl rfl) e,c⟩,r⟩
 |rng lo hi=>obtain⟨t,u,v,e⟩:=x;exact⟨t,u,v,k _ _ (.inl rfl) e⟩
 |frz ob u i=>obtain⟨e,q⟩:=x;exact⟨k _ _ (.inl rfl) e,i q⟩
 |tbl ps=>
  have e:h.get? a=some {cls:=.none,data:=.fields ps}:=x;show h'.get? a=some {cls:=.none,data:=.fields ps};exact k a _ (.inl rfl) e
 |met f y=>
  have e:h.get? a=some (PySem.W.methodObj (.ref f) (.ref y)):=x;show h'.get? a=some (PySem.W.methodObj (.ref f) (.ref y));exact k a _ (.inl rfl) e
 |ext φ=>obtain⟨p,⟨o,e⟩,st⟩:=x;exact⟨st _ _ p λo q=>k _ _ (.inl rfl) q,⟨o,k _ _ (.inl rfl) e⟩,st⟩
theorem HOk.lt (x:HOk P w H h)(e:H a=some o):a<h.objs.size:=(x a o e).lt
theorem HOk.fresh (x:HOk P w H h)(e:h.objs.size<=a):H a=none:=by
 cases q:H a with
 |none=>rfl
 |some u=>exact absurd (zJ4 (x.lt q) e) (zP1 _)
theorem HOk.kept (x:HOk P w H h)(k:∀b u,h.get? b=some u->h'.get? b=some u):HOk P w H h':=λa o e=>
 (x a o e).stay (λb u _ q=>k b u q) (λ_ q=>q) λ_ _ q=>q
theorem HOk.laid (x:HOk P w H h)(k:∀b u,h.get? b=some u->h'.get? b=some u)(d:h.objs.size<=a)(new:zP P w (upd H a o) h' a o):HOk P w (upd H a o) h':=λb u e=>by
 have hn:=x.fresh d;by_cases hb:b=a
 ·subst hb;rw[zl]at e;cases e;exact new
 ·rw[zg hb]at e;exact(x b u e).stay (λc v _ q=>k c v q) (λc q=>by rw[zg (zm q hn)];exact q) λc xs q=>by rw[zg (zm q hn)];exact q
end
def Rd (H:Hp)(a:Addr)(u:HO):Prop:=H a=some u\/∃o,H a=some (.frz o u)
theorem Rd.ok {P:Program}{w:World}{H:Hp}{h:Heap}{a:Addr}{u:HO}(r:Rd H a u)(x:HOk P w H h):zP P w H h a u:=by
 rcases r with r|⟨o,r⟩
 ·exact x a u r
 ·obtain⟨_,q⟩:=x a _ r;exact q
def Mut :Option HO->Prop
 |some (.lst _)=>True
 |some (.dK _)=>True
 |some (.dT _)=>True
 |some (.set _ _)=>True
 |some (.ins _ _ _)=>True
 |some (.ext _)=>True
 |_=>False
section
variable {P:Program}{w:World}{H:Hp}{h h':Heap}{x e:Addr}{o':HO}
theorem HOk.write (ok:HOk P w H h)(g:Mut (H x))(he:e=x\/H e=some (.own x))(k:∀b u,b≠e->h.get? b=some u->h'.get? b=some u)(j:∃u,h'.get? e=some u)
  (new:zP P w (upd H x o') h' x o'):HOk P w (upd H x o') h':=λb u q=>by
 have d:∀c y,H c=some (.own y)->c≠x:=λc y r z=>by subst z;rw[r]at g;exact g
 have f:∀c xs,H c=some (.tup xs)->c≠x:=λc xs r z=>by subst z;rw[r]at g;exact g
 by_cases hb:b=x
 ·subst hb;rw[zl]at q;cases q;exact new
 ·rw[zg hb]at q;by_cases a:b=e
  ·have l:H b=some (.own x):=by
    rcases he with z|z
    ·exact absurd (a.trans z) hb
    ·rw[a];exact z
   rw[q]at l;cases l;obtain⟨v,m⟩:=j;exact⟨v,by rw[a];exact m⟩
  ·refine(ok b u q).stay (λc v i r=>k c v ?_ r) (λc r=>by rw[zg (d c b r)];exact r) λc xs r=>by rw[zg (f c xs r)];exact r
   rcases i with rfl|i
   ·exact a
   ·rintro rfl;rcases he with z|z
    ·exact d c b i z
    ·rw[i]at z;cases z;exact hb rfl
end
structure Un (fs ex:List Addr)(H H':Hp)(h h':Heap):Prop where
 keep:∀b o,h.get? b=some o->H b=none->b∉fs->b∉ex->h'.get? b=some o
 slot:∀b o,h.get? b=some o->H b=none->b∈fs->b∉ex->∃sl,h'.get? b=some {o with slots:=sl}
 free:∀b o,h.get? b=some o->H b=none->b∉ex->H' b=none
 there:∀b o,h.get? b=some o->b∉ex->∃o',h'.get? b=some o'
 tups:∀b xs,H b=some (.tup xs)->H' b=some (.tup xs)
 frzs:∀b o u,H b=some (.frz o u)->H' b=some (.frz o u)
 tbls:∀b ps,H b=some (.tbl ps)->∃more,H' b=some (.tbl (ps++more))
section
variable {fs fs' ex ex':List Addr}{H H1 H2:Hp}{h h1 h2 h':Heap}{a x e:Addr}{o:HO}
theorem Un.any (u:Un fs ex H H1 h h1){b:Addr}{ob:Obj}(q:h.get? b=some ob)(n:H b=none)(c:b∉ex):∃sl,h1.get? b=some {ob with slots:=sl}:=by
 by_cases hb:b∈fs
 ·exact u.slot b ob q n hb c
 ·exact⟨ob.slots,u.keep b ob q n hb c⟩
theorem Un.kept (k:∀b u,h.get? b=some u->h'.get? b=some u):Un fs ex H H h h':=
 ⟨λb ob q _ _ _=>k b ob q,λb ob q _ _ _=>⟨ob.slots,k b ob q⟩,λ_ _ _ n _=>n,λb ob q _=>⟨ob,k b ob q⟩,λ_ _ q=>q,λ_ _ _ q=>q,λ_ ps q=>⟨#[],by rw[q];simp⟩⟩
theorem Un.refl :Un fs ex H H h h:=Un.kept λ_ _ q=>q
theorem Un.laid (k:∀b u,h.get? b=some u->h'.get? b=some u)(c:h.objs.size<=a)(hn:H a=none):Un fs ex H (upd H a o) h h' where
 keep:=λb u q _ _ _=>k b u q
 slot:=λb u q _ _ _=>⟨u.slots,k b u q⟩
 free:=λb u q n _=>by rw[zg (zK9 (zJ4 (zK3 q) c))];exact n
 there:=λb u q _=>⟨u,k b u q⟩
 tups:=λb xs q=>by rw[zg (zm q hn)];exact q
 frzs:=λb u xs q=>by rw[zg (zm q hn)];exact q
 tbls:=λb ps q=>⟨#[],by rw[zg (zm q hn),q];simp⟩
theorem Un.write (d:Mut (H x))(he:e=x\/H e=some (.own x))(k:∀b u,b≠e->h.get? b=some u->h'.get? b=some u)(f:∃u,h'.get? e=some u):Un fs ex H (upd H x o) h h':=by
 have g:∀b,H b=none->b≠x:=λb n z=>by subst z;rw[n]at d;exact d
 have hb:∀b,H b=none->b≠e:=λb n z=>by
  subst z;rcases he with r|r
  ·exact g b n r
  ·rw[n]at r;cases r
 have hm:∀b u,H b=some u->¬Mut (some u)->b≠x:=λb u q nm z=>by subst z;rw[q]at d;exact nm d
 refine⟨λb u q n _ _=>k b u (hb b n) q,λb u q n _ _=>⟨u.slots,k b u (hb b n) q⟩,λb u q n _=>by rw[zg (g b n)];exact n,λb u q _=>?_,
  λb xs q=>by rw[zg (hm b _ q λz=>z)];exact q,λb u xs q=>by rw[zg (hm b _ q λz=>z)];exact q,λb ps q=>⟨#[],by rw[zg (hm b _ q λz=>z),q];simp⟩⟩
 by_cases c:b=e
 ·subst c;exact f
 ·exact⟨u,k b u c q⟩
end
def trk (h:Heap)(H:Hp):List Addr:=(List.range h.objs.size).filter λa=>(H a).isSome
def rB (h:Heap)(H:Hp):Heap:=PySem.W.hideAll h (trk h H)
theorem iX (h:Heap)(H:Hp):(rB h H).objs.size=h.objs.size:=PySem.W.hideAll_size _ _
theorem gJ {h:Heap}{H:Hp}{b:Addr}{o:Obj}(e:h.get? b=some o)(n:H b=none):(rB h H).get? b=some o:=
 PySem.W.hideAll_get _ e λhm=>by
  have q:(H b).isSome=true:=(zZ4.mp hm).2;rw[n]at q;simp at q
theorem bV {h:Heap}{H:Hp}{b:Addr}{o:Obj}(e:(rB h H).get? b=some o):h.get? b=some o/\H b=none:=by
 have a:h.get? b=some o:=PySem.W.of_hideAll (trk h H) e;refine⟨a,?_⟩;cases q:H b with
 |none=>rfl
 |some x=>
  have hm:b∈trk h H:=zZ4.mpr ⟨z44.mpr (zK3 a),by simp[q]⟩;have z:(rB h H).get? b=none:=PySem.W.hideAll_none (trk h H) hm;rw[z]at e;cases e
structure Mod (K:PySem.W.Frag)(mg:Str->Option Value)(base:Heap):Prop where
 kin:K.In base
 glob:base.Ns mainGlobals mg
 blt:∃mb,base.Ns builtinsNs mb/\∀x:Str,x≠"__name__"->mb x=bootBuiltins x
 nolimit:base.NoLimit
structure Cx where
 prog:Program
 w:World
 K:PySem.W.Frag
 mg:Str->Option Value
 base:Heap
 A:Around
 N:List Str
 s₀:Shared
 H₀:Hp
 env:Env
 outer:List Env
 stack:List Env
 ex:List Addr
 fn:Str->Bool
 calm:Bool
 pn:List (Addr×Obj)
 xe:Value->Shared->Prop
def frs (l:List Env):List Addr:=l.filterMap (·.frame)
abbrev Cx.fs (X:Cx):List Addr:=frs X.outer
def Vis (sc:Scope)(x:Str):Prop:=sc.names.lookup x=some .local\/sc.names.lookup x=some .cell\/sc.names.lookup x=some .free
def Loc (sc:Scope)(x:Str):Prop:=sc.names.lookup x=some .local\/sc.names.lookup x=some .cell
def Look (env:Env)(h:Heap)(m:Str->Option Value)(x:Str)(u:Value):Prop:=
 (env.kindOf x=some .local/\m x=some u)\/((env.kindOf x=some .cell\/env.kindOf x=some .free)/\∃c,env.cells.lookup x=some c/\h.IsCell c (some u))
structure Cx.Ok (X:Cx):Prop where
 mod:Mod X.K X.mg X.base
 kind:X.env.scope.kind=.function
 glob:X.env.globals=mainGlobals
 blt:X.env.builtins=builtinsNs
 above:X.s₀.heap.objs.size<=X.env.locals
 inj:∀x y c,X.env.cells.lookup x=some c->X.env.cells.lookup y=some c->x=y
 has:∀x,(X.env.kindOf x=some .cell\/X.env.kindOf x=some .free)->∃c,X.env.cells.lookup x=some c
 cab:∀x c,X.fn x=true->X.env.cells.lookup x=some c->X.s₀.heap.objs.size<=c
 hd:X.calm=true->X.A.handled=none
 frames:X.A.frames=some X.stack
 stk:X.stack=X.outer\/(X.stack=X.env::X.outer/\X.env.frame=some X.env.locals)
 exf:∀b∈X.ex,b≠X.env.locals/\∀x c,X.env.cells.lookup x=some c->c≠b
 bs:∀b o,X.base.get? b=some o->X.s₀.heap.get? b=some o/\X.H₀ b=none
 bsz:X.base.objs.size<=X.s₀.heap.objs.size
 noex:∀b o,X.base.get? b=some o->b∉X.ex
 exfs:∀b∈X.ex,b∉X.fs
 funs:X.s₀.heap.FunFrames X.base X.outer
 frf:∀b∈X.fs,X.H₀ b=none
structure Inv (X:Cx)(pins:List (Addr×Obj))(σ:List (Option V))(H:Hp)(s:Shared):Prop where
 ok:X.Ok
 os:s.os=X.s₀.os
 bare:AllBare s.gens
 base:Un X.fs X.ex X.H₀ H X.s₀.heap s.heap
 loc:∃m,s.heap.Ns X.env.locals m/\∀(i:Nat) (x:Str) (v:V),X.N[i]?=some x->σ[i]?=some (some v)->Vis X.env.scope x->∃u,RelV v u/\Look X.env s.heap m x u
 cell:∀x c,X.env.cells.lookup x=some c->∃v,s.heap.IsCell c v
 free:H X.env.locals=none
 freeC:∀x c,X.env.cells.lookup x=some c->H c=none
 pin:∀p∈X.pn++pins,s.heap.get? p.1=some p.2/\H p.1=none/\p.1≠X.env.locals/\p.1∉X.fs/\∀v,p.2.data≠.cell v
 hok:HOk X.prog X.w H s.heap
 len:σ.length=X.N.length
section
variable {X:Cx}{pins:List (Addr×Obj)}{σ:List (Option V)}{H H':Hp}{s:Shared}{h':Heap}
theorem Cx.Ok.nofr (ok:X.Ok){b:Addr}{o:Obj}(e:X.base.get? b=some o):b∉X.fs:=λhb=>by
 have:=(ok.funs.mem hb).1;rw[e]at this;cases this
theorem Inv.bs (I:Inv X pins σ H s):∀b o,X.base.get? b=some o->s.heap.get? b=some o/\H b=none:=λb o e=>
 ⟨I.base.keep b o (I.ok.bs b o e).1 (I.ok.bs b o e).2 (I.ok.nofr e) (I.ok.noex b o e),I.base.free b o (I.ok.bs b o e).1 (I.ok.bs b o e).2 (I.ok.noex b o e)⟩
theorem Inv.bk (I:Inv X pins σ H s):∀b o,X.base.get? b=some o->s.heap.get? b=some o:=λb o e=>(I.bs b o e).1
theorem Inv.mod (I:Inv X pins σ H s):Mod X.K X.mg X.base:=I.ok.mod
theorem Inv.kIn (I:Inv X pins σ H s):X.K.In s.heap:=I.ok.mod.kin.keeps I.bk
theorem Inv.lt (I:Inv X pins σ H s):X.env.locals<s.heap.objs.size:=let⟨_,hn,_⟩:=I.loc;hn.lt
theorem Inv.sz (I:Inv X pins σ H s):X.s₀.heap.objs.size<=s.heap.objs.size:=zK0 I.ok.above (zN5 I.lt)
theorem Inv.nofs (I:Inv X pins σ H s){a:Addr}(h:s.heap.objs.size<=a):a∉X.fs:=λhb=>by
 obtain⟨_,o,b,_⟩:=I.ok.funs.mem hb;exact absurd (zJ4 (zK3 b) (zK0 I.sz h)) (zP1 _)
theorem Inv.cne (I:Inv X pins σ H s):∀x c,X.env.cells.lookup x=some c->c≠X.env.locals:=λx c e z=>by
 obtain⟨v,o,d,hd⟩:=I.cell x c e;obtain⟨m,⟨o',es,ep,b,a,_⟩,_⟩:=I.loc;rw[z,b]at d;cases d;rw[a]at hd;cases hd
theorem Inv.funs (I:Inv X pins σ H s):s.heap.FunFrames X.base X.outer:=by
 have all:∀(l:List Env),(∀b∈frs l,b∈X.fs)->X.s₀.heap.FunFrames X.base l->s.heap.FunFrames X.base l:=by
  intro l
  induction l with
  |nil=>intro _ _;trivial
  |cons env r g=>
   intro c d;obtain⟨hk,⟨L,o,hf,hn,f,hd⟩,hr⟩:=d;have a:L∈X.fs:=c L (by unfold frs;rw[zZ0,hf];exact zK5);obtain⟨sl,e⟩:=I.base.slot L o f (I.ok.frf L a) a λz=>I.ok.exfs L z a;exact⟨hk,⟨L,_,hf,hn,e,hd⟩,g (λb hb=>c b (by unfold frs;rw[zZ0,hf];exact zJ8 _ hb)) hr⟩
 exact all X.outer (λ_ hb=>hb) I.ok.funs
theorem Inv.stack (I:Inv X pins σ H s):s.heap.FunFrames X.base X.stack:=by
 rcases I.ok.stk with e|⟨e,hf⟩
 ·rw[e];exact I.funs
 ·rw[e];obtain⟨m,hn,_⟩:=I.loc;refine .cons (by rw[I.ok.kind];decide) hf hn ?_ I.funs;exact Heap.get?_none_of_le (zK0 I.ok.bsz I.ok.above)
theorem Inv.stkSub (I:Inv X pins σ H s):∀b∈frs X.stack,b∈X.env.locals::X.fs:=λb hb=>by
 rcases I.ok.stk with e|⟨e,hf⟩
 ·rw[e]at hb;exact zJ8 _ hb
 ·rw[e]at hb;unfold frs at hb;rw[zZ0,hf]at hb;exact hb
theorem Inv.stkFree (I:Inv X pins σ H s):∀b∈frs X.stack,H b=none:=λb hb=>by
 rcases zJ6.mp (I.stkSub b hb)with e|hb
 ·rw[e];exact I.free
 ·obtain⟨_,o,a,_⟩:=I.ok.funs.mem hb;exact I.base.free b o a (I.ok.frf b hb) λz=>I.ok.exfs b z hb
theorem Inv.step {g':Array GenState}{t':Nat}{d':Drawn}{ch:List Addr}(I:Inv X pins σ H s)
  (g:∀b∈ch,(b∈X.ex\/X.s₀.heap.objs.size<=b)/\b≠X.env.locals/\(∀x c,X.env.cells.lookup x=some c->c≠b)/\∀p∈X.pn++pins,p.1≠b)
  (keep:∀b o,b≠X.env.locals->b∉X.fs->b∉ch->s.heap.get? b=some o->H b=none->h'.get? b=some o)
  (slot:∀b o,b≠X.env.locals->b∈X.fs->b∉ch->s.heap.get? b=some o->H b=none->∃sl,h'.get? b=some {o with slots:=sl}) (free:∀b o,b∉ch->s.heap.get? b=some o->H b=none->H' b=none)
  (there:∀b o,b∉ch->s.heap.get? b=some o->∃o',h'.get? b=some o')
  (tups:∀b xs,H b=some (.tup xs)->H' b=some (.tup xs)) (frzs:∀b o u,H b=some (.frz o u)->H' b=some (.frz o u)) (tbls:∀b ps,H b=some (.tbl ps)->∃more,H' b=some (.tbl (ps++more)))
  (ns:∀m,s.heap.Ns X.env.locals m->h'.Ns X.env.locals m) (hok:HOk X.prog X.w H' h') (hg:AllBare g'):
  Inv X pins σ H' {s with heap:=h',gens:=g',drawn:=d',toks:=t'}:=by
 have y:∀b o,X.s₀.heap.get? b=some o->b≠X.env.locals:=λb o e=>zK9 (zJ4 (zK3 e) I.ok.above);have h:∀b o,X.s₀.heap.get? b=some o->b∉X.ex->b∉ch:=λb o e a hb=>by
  rcases(g b hb).1 with z|z
  ·exact a z
  ·exact absurd (zJ4 (zK3 e) z) (zP1 _)
 have cellK:∀x c,X.env.cells.lookup x=some c->∀v,s.heap.IsCell c v->h'.IsCell c v:=λx c e v A=>by
  obtain⟨o,j,hd⟩:=A;have f:c∉ch:=λz=>(g c z).2.2.1 x c e rfl;by_cases D:c∈X.fs
  ·obtain⟨sl,q⟩:=slot c o (I.cne x c e) D f j (I.freeC x c e);exact⟨_,q,hd⟩
  ·exact⟨o,keep c o (I.cne x c e) D f j (I.freeC x c e),hd⟩
 refine⟨I.ok,I.os,hg,⟨λb o e n hb a=>?_,λb o e n hb a=>?_,λb o e n a=>?_,λb o e a=>?_,λb xs e=>tups b xs (I.base.tups b xs e),λb o xs e=>frzs b o xs (I.base.frzs b o xs e),λb ps e=>?_⟩,?_,λx c e=>?_,?_,λx c e=>?_,λp C=>?_,hok,I.len⟩
 ·exact keep b o (y b o e) hb (h b o e a) (I.base.keep b o e n hb a) (I.base.free b o e n a)
 ·obtain⟨sl,e1⟩:=I.base.slot b o e n hb a;obtain⟨B,t⟩:=slot b _ (y b o e) hb (h b o e a) e1 (I.base.free b o e n a);exact⟨B,t⟩
 ·obtain⟨o',e1⟩:=I.base.there b o e a;exact free b o' (h b o e a) e1 (I.base.free b o e n a)
 ·obtain⟨o',e1⟩:=I.base.there b o e a;exact there b o' (h b o e a) e1
 ·obtain⟨m1,e1⟩:=I.base.tbls b ps e;obtain⟨m2,t⟩:=tbls b _ e1;exact⟨m1++m2,by rw[t,Array.append_assoc]⟩
 ·obtain⟨m,hn,F⟩:=I.loc;refine⟨m,ns m hn,λi x v e1 t E=>?_⟩;obtain⟨u,r,l⟩:=F i x v e1 t E;refine⟨u,r,?_⟩;rcases l with l|⟨k,c,e,z⟩
  ·exact .inl l
  ·exact .inr ⟨k,c,e,cellK x c e _ z⟩
 ·obtain⟨v,z⟩:=I.cell x c e;exact⟨v,cellK x c e v z⟩
 ·obtain⟨m,⟨o,_,_,j,_⟩,_⟩:=I.loc;exact free _ o (λz=>(g _ z).2.1 rfl) j I.free
 ·obtain⟨v,o,j,hd⟩:=I.cell x c e;exact free c o (λz=>(g c z).2.2.1 x c e rfl) j (I.freeC x c e)
 ·obtain⟨e,n,ne,nf,d⟩:=I.pin p C;have f:p.1∉ch:=λz=>(g p.1 z).2.2.2 p C rfl;exact⟨keep p.1 p.2 ne nf f e n,free p.1 p.2 f e n,ne,nf,d⟩
theorem Inv.un {t':Nat}(I:Inv X pins σ H s)(u:Un X.fs [] H H' s.heap h')(hok:HOk X.prog X.w H' h'):Inv X pins σ H' {s with heap:=h',toks:=t'}:=by
 obtain⟨m,⟨o,es,ep,d,r⟩,_⟩:=id I.loc;obtain⟨sl,f⟩:=u.any d I.free (by simp);exact I.step (g':=s.gens) (d':=s.drawn) (ch:=[]) (λ_ z=>nomatch z) (λb o _ hb _ e n=>u.keep b o e n hb (by simp)) (λb o _ hb _ e n=>u.slot b o e n hb (by simp)) (λb o _ e n=>u.free b o e n (by simp)) (λb o _ e=>u.there b o e (by simp)) u.tups u.frzs u.tbls (λh hm=>by
  obtain⟨o',es',c,a,g⟩:=hm;rw[d]at a;cases a;exact⟨_,es',c,f,g⟩) hok I.bare
theorem Inv.call {g':Array GenState}{t':Nat}{d':Drawn}{ch:List Addr}(I:Inv X pins σ H s)(u:Un (frs X.stack) ch H H' s.heap h')(hok:HOk X.prog X.w H' h')(hg:AllBare g')
  (f:∀b∈ch,(b∈X.ex\/X.s₀.heap.objs.size<=b)/\b≠X.env.locals/\(∀x c,X.env.cells.lookup x=some c->c≠b)/\∀p∈X.pn++pins,p.1≠b):
  Inv X pins σ H' {s with heap:=h',gens:=g',drawn:=d',toks:=t'}:=by
 obtain⟨m,⟨o,es,ep,i,r⟩,_⟩:=id I.loc;obtain⟨sl,h⟩:=u.any i I.free λz=>(f _ z).2.1 rfl;exact I.step (ch:=ch) f (λb o h hb a e n=>u.keep b o e n (λz=>(zJ6.mp (I.stkSub b z)).elim h hb) a) (λb o _ _ a e n=>u.any e n a) (λb o a e n=>u.free b o e n a) (λb o a e=>u.there b o e a) u.tups u.frzs u.tbls (λk hm=>by
  obtain⟨o',es',g,d,j⟩:=hm;rw[i]at d;cases d;exact⟨_,es',g,h,j⟩) hok hg
theorem Inv.turned {t':Nat}{it:Addr}(I:Inv X pins σ H s)(k:∀b o,b≠it->s.heap.get? b=some o->h'.get? b=some o)(hn:H it=none)(f:it≠X.env.locals)
  (i:it∈X.ex\/X.s₀.heap.objs.size<=it) (h:∀x c,X.env.cells.lookup x=some c->c≠it) (g:∀p∈X.pn++pins,p.1≠it):Inv X pins σ H {s with heap:=h',toks:=t'}:=by
 have d:∀b u,H b=some u->b≠it:=λb u e z=>by rw[z,hn]at e;cases e
 refine I.step (g':=s.gens) (d':=s.drawn) (ch:=[it]) (λb hb=>?_) (λb o _ _ a e _=>k b o (λz=>a (by simp[z])) e) (λb o _ _ a e _=>⟨o.slots,k b o (λz=>a (by simp[z])) e⟩) (λ_ _ _ _ n=>n)
  (λb o a e=>⟨o,k b o (λz=>a (by simp[z])) e⟩) (λ_ _ e=>e) (λ_ _ _ e=>e) (λb ps e=>⟨#[],by rw[e];simp⟩) (λm hm=>?_) (λb u e=>?_) I.bare
 ·have e:b=it:=by simpa using hb
  subst e;exact⟨i,f,h,g⟩
 ·obtain⟨o,es,ep,j,r⟩:=hm;exact⟨o,es,ep,k _ o (zN9 f) j,r⟩
 ·refine(I.hok b u e).stay (λc v a q=>k c v ?_ q) (λ_ q=>q) λ_ _ q=>q;rcases a with z|z
  ·rw[z];exact d b u e
  ·exact d c _ z
theorem Inv.tok (I:Inv X pins σ H s)(t:Nat):Inv X pins σ H {s with toks:=t}:=I.un (h':=s.heap) (t':=t) Un.refl I.hok
theorem Inv.kept {t':Nat}(I:Inv X pins σ H s)(k:∀b u,s.heap.get? b=some u->h'.get? b=some u):Inv X pins σ H {s with heap:=h',toks:=t'}:=I.un (Un.kept k) (I.hok.kept k)
theorem Inv.laid {a:Addr}{o:HO}{t':Nat}(I:Inv X pins σ H s)(k:∀b u,s.heap.get? b=some u->h'.get? b=some u)(c:s.heap.objs.size<=a)(new:zP X.prog X.w (upd H a o) h' a o):
  Inv X pins σ (upd H a o) {s with heap:=h',toks:=t'}:=I.un (Un.laid k c (I.hok.fresh c)) (I.hok.laid k c new)
theorem Inv.write {x e:Addr}{o:HO}{t':Nat}(I:Inv X pins σ H s)(c:Mut (H x))(he:e=x\/H e=some (.own x))(k:∀b u,b≠e->s.heap.get? b=some u->h'.get? b=some u)(a:∃u,h'.get? e=some u)
  (new:zP X.prog X.w (upd H x o) h' x o):Inv X pins σ (upd H x o) {s with heap:=h',toks:=t'}:=I.un (Un.write c he k a) (I.hok.write c he k a new)
theorem Inv.pins_of {a:List (Addr×Obj)}(I:Inv X pins σ H s)(h:∀p∈a,s.heap.get? p.1=some p.2/\H p.1=none/\p.1≠X.env.locals/\p.1∉X.fs/\∀v,p.2.data≠.cell v):Inv X a σ H s:=
 ⟨I.ok,I.os,I.bare,I.base,I.loc,I.cell,I.free,I.freeC,λp b=>(zL6.mp b).elim (λz=>I.pin p (zM6 _ z)) (h p),I.hok,I.len⟩
theorem pZ {N:List Str}(d:N.Nodup){i j:Nat}{x:Str}(a:N[i]?=some x)(b:N[j]?=some x):i=j:=by
 obtain⟨f,e1⟩:=zK1.mp a;obtain⟨e,c⟩:=zK1.mp b;exact(List.getElem_inj d).mp (e1.trans c.symm)
theorem qz {M:Model}{A:Around}{E:Value->Shared->Prop}{i:Nat}{x:Str}{v:V}{u:Value}{Q:Unit->Shared->Prop}(I:Inv X pins σ H s)(hN:X.N.Nodup)(hi:X.N[i]?=some x)(l:Loc X.env.scope x)(r:RelV v u)
  (h:∀s',Inv X pins (σ.set i (some v)) H s'->(∃a,Heap.SameBut a s.heap s'.heap/\(a=X.env.locals\/X.env.cells.lookup x=some a))->Q () s') (hf:X.fn x=true\/X.env.scope.names.lookup x=some .local:=by first|exact .inl rfl|exact .inr rfl|assumption):wpAny M A (storeName X.env x u) Q E s:=by
 obtain⟨m,hn,hl⟩:=id I.loc;have J:(X.env.scope.kind == .class||(X.env.scope.kind == .module&&X.env.locals != X.env.globals))=false:=by rw[I.ok.kind];rfl
 have C:i<σ.length:=by rw[I.len];exact(zK1.mp hi).1
 have cne:=I.cne;have tracked:∀{a:Addr} {h':Heap},(∃o,s.heap.get? a=some o/\H a=none)->Heap.SameBut a s.heap h'->HOk X.prog X.w H h':=λ{a h'} ha f b ob e=>by
  obtain⟨_,_,t⟩:=ha;refine(I.hok b ob e).stay (λc P g q=>(f.2 c ?_).trans q) (λ_ q=>q) λ_ _ q=>q;rintro rfl;rcases g with rfl|g
  ·rw[t]at e;cases e
  ·rw[t]at g;cases g
 rcases l with hk|hk
 ·refine wpAny_storeName_local hk hn (λh' W f=>?_) J;obtain⟨oL,_,_,Y,_⟩:=id hn;refine h _ ⟨I.ok,I.os,I.bare,⟨λb o e n hb l=>?_,λb o e n hb l=>?_,I.base.free,λb o e l=>?_,I.base.tups,I.base.frzs,I.base.tbls⟩,⟨_,W,λj y R e1 B Z=>?_⟩,λy c e=>?_,I.free,I.freeC,λp S=>?_,tracked ⟨oL,Y,I.free⟩ f,by simpa using I.len⟩ ⟨_,f,.inl rfl⟩
  ·exact(f.2 b (zK9 (zJ4 (zK3 e) I.ok.above))).trans (I.base.keep b o e n hb l)
  ·obtain⟨sl,e1⟩:=I.base.slot b o e n hb l;exact⟨sl,(f.2 b (zK9 (zJ4 (zK3 e) I.ok.above))).trans e1⟩
  ·obtain⟨o',e1⟩:=I.base.there b o e l;exact⟨o',(f.2 b (zK9 (zJ4 (zK3 e) I.ok.above))).trans e1⟩
  ·by_cases D:j=i
   ·subst D;rw[hi]at e1;cases e1;rw[zR3 C]at B;cases B;exact⟨u,r,.inl ⟨hk,by simp⟩⟩
   ·rw[zP4 (zN9 D)]at B;obtain⟨U,T,q⟩:=hl j y R e1 B Z;refine⟨U,T,?_⟩;rcases q with⟨k,e⟩|⟨k,c,e,z⟩
    ·refine .inl ⟨k,?_⟩;have:y≠x:=λe=>D (pZ hN e1 (e▸hi));simp[this,e]
    ·exact .inr ⟨k,c,e,z.sameBut f (cne y c e)⟩
  ·obtain⟨P,z⟩:=I.cell y c e;exact⟨P,z.sameBut f (cne y c e)⟩
  ·obtain⟨e,n,ne,nf,d⟩:=I.pin p S;exact⟨(f.2 p.1 ne).trans e,n,ne,nf,d⟩
 ·have F:X.fn x=true:=by
   rcases hf with z|z
   ·exact z
   ·rw[z]at hk;cases hk
  obtain⟨c,g⟩:=I.ok.has x (.inl hk);obtain⟨P,z⟩:=I.cell x c g;refine wpAny_storeName_cell I.ok.kind hk g z (λh' K f=>?_);obtain⟨oc,G,O⟩:=id z;refine h {s with heap:=h'} ⟨I.ok,I.os,I.bare,⟨λb o e n hb l=>?_,λb o e n hb l=>?_,I.base.free,λb o e l=>?_,I.base.tups,I.base.frzs,I.base.tbls⟩,⟨m,hn.sameBut f (zN9 (cne x c g)),λj y R e1 B Z=>?_⟩,λy c' e=>?_,I.free,I.freeC,λp S=>?_,tracked ⟨oc,G,I.freeC x c g⟩ f,by simpa using I.len⟩ ⟨c,f,.inr g⟩
  ·exact(f.2 b (zK9 (zJ4 (zK3 e) (I.ok.cab x c F g)))).trans (I.base.keep b o e n hb l)
  ·obtain⟨sl,e1⟩:=I.base.slot b o e n hb l;exact⟨sl,(f.2 b (zK9 (zJ4 (zK3 e) (I.ok.cab x c F g)))).trans e1⟩
  ·obtain⟨o',e1⟩:=I.base.there b o e l;exact⟨o',(f.2 b (zK9 (zJ4 (zK3 e) (I.ok.cab x c F g)))).trans e1⟩
  ·by_cases D:j=i
   ·subst D;rw[hi]at e1;cases e1;rw[zR3 C]at B;cases B;exact⟨u,r,.inr ⟨.inl hk,c,g,K⟩⟩
   ·rw[zP4 (zN9 D)]at B;obtain⟨U,T,q⟩:=hl j y R e1 B Z;refine⟨U,T,?_⟩;rcases q with q|⟨k,c',e,z'⟩
    ·exact .inl q
    ·refine .inr ⟨k,c',e,z'.sameBut f ?_⟩;rintro rfl;exact D (pZ hN e1 (I.ok.inj _ _ _ e g▸hi))
  ·by_cases L:c'=c
   ·subst L;exact⟨_,K⟩
   ·obtain⟨w2,z2⟩:=I.cell y c' e;exact⟨w2,z2.sameBut f L⟩
  ·obtain⟨e,n,ne,nf,d⟩:=I.pin p S;refine⟨(f.2 p.1 ?_).trans e,n,ne,nf,d⟩;intro q;rw[q,G]at e;have q':oc=p.2:=zN2 e;exact d P (by rw[<-q'];exact O)
theorem wt {M:Model}{A:Around}{E:Value->Shared->Prop}{i:Nat}{x:Str}{v:V}{u:Value}{Q:Unit->Shared->Prop}(I:Inv X pins σ H s)(c:X.N.Nodup)(hi:X.N[i]?=some x)(a:Loc X.env.scope x)(r:RelV v u)
  (h:∀s',Inv X pins (σ.set i (some v)) H s'->Q () s') (hf:X.fn x=true\/X.env.scope.names.lookup x=some .local:=by first|exact .inl rfl|exact .inr rfl|assumption):wpAny M A (storeName X.env x u) Q E s:=
 qz I c hi a r (λs' b _=>h s' b) hf
theorem Inv.call' {s':Shared}{ch:List Addr}(I:Inv X pins σ H s)(d:s'.os=s.os)(u:Un (frs X.stack) ch H H' s.heap s'.heap)(hok:HOk X.prog X.w H' s'.heap)(hg:AllBare s'.gens)
  (a:∀b∈ch,(b∈X.ex\/X.s₀.heap.objs.size<=b)/\b≠X.env.locals/\(∀x c,X.env.cells.lookup x=some c->c≠b)/\∀p∈X.pn++pins,p.1≠b):Inv X pins σ H' s':=by
 obtain⟨h',g',d',t',o'⟩:=s';have e:o'=s.os:=d;subst e;exact I.call (g':=g') (t':=t') (d':=d') u hok hg a
end
abbrev XK :=Value->Option Addr->Hp->Prop
abbrev St :=List (Option V)
abbrev VK :=V->Hp->Prop
abbrev TE :=St->Hp->VK->Prop
abbrev TT :=St->Hp->(Bool->Hp->Prop)->Prop
abbrev TA :=St->Hp->(List V->Hp->Prop)->Prop
structure Ends where
 nx:St->Hp->Prop
 rt:VK
 bk:St->Hp->Prop:=λ_ _=>False
 ct:St->Hp->Prop:=λ_ _=>False
abbrev TS :=Ends->St->Hp->Prop
def EP (X:Cx)(pins:List (Addr×Obj))(σ:St)(Q:VK)(u:Value)(s':Shared):Prop:=∃v H',Inv X pins σ H' s'/\RelV v u/\Q v H'
def TP (X:Cx)(pins:List (Addr×Obj))(σ:St)(Q:Bool->Hp->Prop)(b:Bool)(s':Shared):Prop:=∃H',Inv X pins σ H' s'/\Q b H'
def AP (X:Cx)(pins:List (Addr×Obj))(σ:St)(Q:List V->Hp->Prop)(us:List Value)(s':Shared):Prop:=∃vs H',Inv X pins σ H' s'/\Vals vs us/\Q vs H'
def SP (X:Cx)(pins:List (Addr×Obj))(D:Ends)(f:Flow)(s':Shared):Prop:=
 match f with
 |.next=>∃a H',Inv X pins a H' s'/\D.nx a H'
 |.brk=>∃a H',Inv X pins a H' s'/\D.bk a H'
 |.cont=>∃a H',Inv X pins a H' s'/\D.ct a H'
 |.ret u=>∃v a H',Inv X pins a H' s'/\RelV v u/\D.rt v H'
def PE (X:Cx)(e:Expr)(t:TE):Prop:=
 ∀(pins:List (Addr×Obj)) (s:Shared) (σ:St) (H:Hp) (Q:VK),Inv X pins σ H s->t σ H Q->wpAny (model X.prog X.w) X.A (eval e X.env) (EP X pins σ Q) X.xe s
def PT (X:Cx)(e:Expr)(t:TT):Prop:=
 ∀(pins:List (Addr×Obj)) (s:Shared) (σ:St) (H:Hp) (Q:Bool->Hp->Prop),Inv X pins σ H s->t σ H Q->wpAny (model X.prog X.w) X.A (isTrue e X.env (eval e X.env)) (TP X pins σ Q) X.xe s
def PW (X:Cx)(e:Expr)(t:TT):Prop:=
 ∀(whole:Sem Value) (pins:List (Addr×Obj)) (s:Shared) (σ:St) (H:Hp) (Q:Bool->Hp->Prop),Inv X pins σ H s->t σ H Q->wpAny (model X.prog X.w) X.A (isTrue e X.env whole) (TP X pins σ Q) X.xe s
theorem PW.pt {X:Cx}{e:Expr}{t:TT}(h:PW X e t):PT X e t:=h _
def PA (X:Cx)(es:List Expr)(t:TA):Prop:=
 ∀(pos:Pos) (pins:List (Addr×Obj)) (s:Shared) (σ:St) (H:Hp) (Q:List V->Hp->Prop),Inv X pins σ H s->t σ H Q->wpAny (model X.prog X.w) X.A (spliced (backTo pos (starEach es X.env))) (AP X pins σ Q) X.xe s
def PS (X:Cx)(st:Stmt)(t:TS):Prop:=
 ∀(pins:List (Addr×Obj)) (s:Shared) (σ:St) (H:Hp) (D:Ends),Inv X pins σ H s->t D σ H->wpAny (model X.prog X.w) X.A (exec st X.env) (SP X pins D) X.xe s
def PSs (X:Cx)(st:List Stmt)(t:TS):Prop:=
 ∀(pins:List (Addr×Obj)) (s:Shared) (σ:St) (H:Hp) (D:Ends),Inv X pins σ H s->t D σ H->wpAny (model X.prog X.w) X.A (execs st X.env) (SP X pins D) X.xe s
theorem thn {α:Type}{t:Sem α}{Q Q':α->Shared->Prop}{M:Model}{A:Around}{E:Value->Shared->Prop}{s:Shared}(h:wpAny M A t Q E s)(b:∀a s,Q a s->Q' a s):wpAny M A t Q' E s:=zO8 h b λ_ _ x=>x
section
variable {X:Cx}
def gE (i:Nat):TE:=λσ H Q=>∃v,σ[i]?=some (some v)/\Q v H
def tC (v:V):TE:=λ_ H Q=>Q v H
theorem yt {i:Nat}{x:Str}{pos:Pos}(j:X.N[i]?=some x)(f:Vis X.env.scope x)(hd:(x == ("__debug__":Str))=false:=by decide)(b:(x == ("__classdict__":Str))=false:=by decide):PE X (.Name x pos) (gE i):=by
 intro pins s σ H Q I h;obtain⟨v,e,h⟩:=h;obtain⟨m,hn,g⟩:=I.loc;obtain⟨u,r,l⟩:=g i x v j e f;have fin:EP X pins σ Q u s:=⟨v,H,I,r,h⟩;rcases l with⟨hk,hm⟩|⟨hk,c,d,a⟩
 ·exact wpAny_Name (wpAny_loadName_local I.ok.kind hk hn hm fin) hd
 ·rcases hk with hk|hk
  ·exact wpAny_Name (wpAny_loadName_cell I.ok.kind hk d a fin) hd
  ·exact wpAny_Name (wpAny_loadName_free I.ok.kind hk d a fin b) hd
theorem zX {i j pos}:PE X (.Constant (.int i) j pos) (tC (.int i)):=λ_ _ _ H _ I h=>wpAny_Constant_int ⟨.int i,H,I.tok _,⟨_,rfl⟩,h⟩
theorem zA4 {b j pos}:PE X (.Constant (.bool b) j pos) (tC (.bl b)):=λ_ _ _ H _ I h=>Constant_bool ⟨.bl b,H,I,rfl,h⟩
theorem cF {j pos}:PE X (.Constant .none j pos) (tC .non):=λ_ _ _ H _ I h=>Constant_none ⟨.non,H,I,rfl,h⟩
theorem zt2 {x j pos}:PE X (.Constant (.str x) j pos) (tC (.str x)):=λ_ _ _ H _ I h=>Calls.Constant_str ⟨.str x,H,I.tok _,⟨_,rfl⟩,h⟩
def Gl (X:Cx)(x:Str):Prop:=X.env.kindOf x=some .globalImplicit
theorem tE {E:Value->Shared->Prop}{pins:List (Addr×Obj)}{s:Shared}{σ:St}{H:Hp}{x:Str}{u:Value}{pos:Pos}{Q:Value->Shared->Prop}(I:Inv X pins σ H s)(hg:Gl X x)(hm:X.mg x=some u)(h:Q u s)
  (hd:(x == ("__debug__":Str))=false:=by decide):wpAny (model X.prog X.w) X.A (eval (.Name x pos) X.env) Q E s:=
 Calls.Name_function_global I.ok.kind hg (Calls.loadGlobal_global (by rw[I.ok.glob];exact I.mod.glob.keeps I.bk) hm h) hd
theorem xt {E:Value->Shared->Prop}{pins:List (Addr×Obj)}{s:Shared}{σ:St}{H:Hp}{x:Str}{u:Value}{pos:Pos}{Q:Value->Shared->Prop}(I:Inv X pins σ H s)(hg:Gl X x)(hm:X.mg x=none)(c:bootBuiltins x=some u)(h:Q u s)
  (hn:x≠"__name__":=by decide) (hd:(x == ("__debug__":Str))=false:=by decide):wpAny (model X.prog X.w) X.A (eval (.Name x pos) X.env) Q E s:=by
 obtain⟨mb,b,a⟩:=I.mod.blt;exact Calls.Name_function_global I.ok.kind hg (Calls.loadGlobal_builtin (by rw[I.ok.glob];exact I.mod.glob.keeps I.bk) hm (by rw[I.ok.blt];exact b.keeps I.bk) ((a x hn).trans c) h) hd
theorem aM {x:Str}{v:V}{u:Value}{pos:Pos}(hg:Gl X x)(hm:X.mg x=some u)(r:RelV v u)(hd:(x == ("__debug__":Str))=false:=by decide):PE X (.Name x pos) (tC v):=
 λ_ _ _ H _ I h=>tE I hg hm ⟨v,H,I,r,h⟩ hd
theorem bo {x:Str}{v:V}{u:Value}{pos:Pos}(hg:Gl X x)(hm:X.mg x=none)(a:bootBuiltins x=some u)(r:RelV v u)(hn:x≠"__name__":=by decide)(hd:(x == ("__debug__":Str))=false:=by decide):PE X (.Name x pos) (tC v):=
 λ_ _ _ H _ I h=>xt I hg hm a ⟨v,H,I,r,h⟩ hn hd
variable {a b:Expr}{ta tb:TE}{pos:Pos}
def tB (t:TE):TT:=λσ H Q=>t σ H λx H1=>∃c,x=.bl c/\Q c H1
theorem zs3 {e:Expr}{t:TE}(h:PE X e t)(he:∀whole,isTrue e X.env whole=(do let v <-whole;standAt e.pos;holding [v] (truthy v)):=by intro _;rfl):PT X e (tB t):=by
 intro pins s σ H Q I hw;refine isTrue_plain (thn (h pins s σ H _ I hw) λv s1 c=>?_) (he _);obtain⟨x,H1,g,i,f⟩:=c;obtain⟨d,rfl,q⟩:=f;cases i;exact zR5 ⟨H1,g,q⟩
variable {tA tB':TT}{rest:List Expr}
def zI2 (t u:TT):TT:=λσ H Q=>t σ H λc H1=>if c=true then u σ H1 Q else Q false H1
def tOr (t u:TT):TT:=λσ H Q=>t σ H λc H1=>if c=true then Q true H1 else u σ H1 Q
def zH4 (t:TT):TT:=λσ H Q=>t σ H λc H1=>Q (!c) H1
theorem bx (ha:PT X a tA):PW X (.BoolOp .And [a] pos) tA:=by
 intro d pins s σ H Q I h;refine isTrue_and (thn (ha pins s σ H Q I h) λc s1 e=>?_);cases c with
 |true=>exact isTrue_and_nil e
 |false=>exact e
theorem zo1 (ha:PT X a tA):PW X (.BoolOp .Or [a] pos) tA:=by
 intro d pins s σ H Q I h;refine isTrue_or (thn (ha pins s σ H Q I h) λc s1 e=>?_);cases c with
 |false=>exact isTrue_or_nil e
 |true=>exact e
theorem zv4 (ha:PT X a tA)(hb:PW X (.BoolOp .And (b::rest) pos) tB'):PW X (.BoolOp .And (a::b::rest) pos) (zI2 tA tB'):=by
 intro g pins s σ H Q I h;refine isTrue_and (thn (ha pins s σ H _ I h) λc s1 d=>?_);obtain⟨H1,f,e⟩:=d;cases c with
 |true=>exact hb g pins s1 σ H1 Q f e
 |false=>exact⟨H1,f,e⟩
theorem zC6 (ha:PT X a tA)(hb:PW X (.BoolOp .Or (b::rest) pos) tB'):PW X (.BoolOp .Or (a::b::rest) pos) (tOr tA tB'):=by
 intro g pins s σ H Q I h;refine isTrue_or (thn (ha pins s σ H _ I h) λc s1 d=>?_);obtain⟨H1,f,e⟩:=d;cases c with
 |true=>exact⟨H1,f,e⟩
 |false=>exact hb g pins s1 σ H1 Q f e
theorem zp6 (ha:PT X a tA):PT X (.UnaryOp .Not a pos) (zH4 tA):=by
 intro pins s σ H Q I h;exact isTrue_not (ha pins s σ H (λc H1=>Q (!c) H1) I h)
def zx0 (ta tb:TE):TE:=λσ H Q=>ta σ H λx H1=>∃c,x=.bl c/\if c=true then tb σ H1 Q else Q (.bl false) H1
def zG5 (ta tb:TE):TE:=λσ H Q=>ta σ H λx H1=>∃c,x=.bl c/\if c=true then Q (.bl true) H1 else tb σ H1 Q
def zD5 (ta:TE):TE:=λσ H Q=>ta σ H λx H1=>∃c,x=.bl c/\Q (.bl (!c)) H1
theorem zu8 {op}{t:TE}(h:PE X a t):PE X (.BoolOp op [a] pos) t:=λpins s σ H Q I hw=>BoolOp_one (h pins s σ H Q I hw)
theorem zp3 (ha:PE X a ta)(hb:PE X (.BoolOp .And (b::rest) pos) tb):PE X (.BoolOp .And (a::b::rest) pos) (zx0 ta tb):=by
 intro pins s σ H Q I h;refine BoolOp_and (thn (ha pins s σ H _ I h) λv s1 d=>?_);obtain⟨x,H1,f,g,e⟩:=d;obtain⟨c,rfl,e⟩:=e;cases g;refine zR5 ?_;cases c with
 |true=>exact hb pins s1 σ H1 Q f e
 |false=>exact⟨.bl false,H1,f,rfl,e⟩
theorem zB9 (ha:PE X a ta)(hb:PE X (.BoolOp .Or (b::rest) pos) tb):PE X (.BoolOp .Or (a::b::rest) pos) (zG5 ta tb):=by
 intro pins s σ H Q I h;refine BoolOp_or (thn (ha pins s σ H _ I h) λv s1 d=>?_);obtain⟨x,H1,f,g,e⟩:=d;obtain⟨c,rfl,e⟩:=e;cases g;refine zR5 ?_;cases c with
 |false=>exact hb pins s1 σ H1 Q f e
 |true=>exact⟨.bl true,H1,f,rfl,e⟩
theorem zm3 (ha:PE X a ta):PE X (.UnaryOp .Not a pos) (zD5 ta):=by
 intro pins s σ H Q I h;refine UnaryOp_ (thn (ha pins s σ H _ I h) λv s1 d=>?_);obtain⟨x,H1,g,f,e⟩:=d;obtain⟨c,rfl,e⟩:=e;cases f;exact not_of (zR5 ⟨.bl (!c),H1,g,rfl,e⟩)
def tIf (t:TT)(ta tb:TE):TE:=λσ H Q=>t σ H λc H1=>if c=true then ta σ H1 Q else tb σ H1 Q
theorem cI {c:Expr}(i:PT X c tA)(ha:PE X a ta)(hb:PE X b tb):PE X (.IfExp c a b pos) (tIf tA ta tb):=by
 intro pins s σ H Q I h;refine wpAny_IfExp (thn (i pins s σ H _ I h) λd s1 e=>?_);obtain⟨H1,g,f⟩:=e;cases d with
 |true=>exact ha pins s1 σ H1 Q g f
 |false=>exact hb pins s1 σ H1 Q g f
end
def SqL (K:PySem.W.Frag)(H:Hp)(a:Addr)(xs:List V):Prop:=
 Rd H a (.lst xs)\/
  ∃(o:Obj) (its:Array Value) (n:Nat),K.lookup a=some o/\o.cls=.type "list"/\o.dict=none/\o.data=.seq its n/\its.size<=sizeLine/\Vals xs its.toList
def SqT (K:PySem.W.Frag)(H:Hp)(a:Addr)(xs:List V):Prop:=
 Rd H a (.tup xs)\/
  ∃(o:Obj) (its:Array Value) (n:Nat),K.lookup a=some o/\o.cls=.type "tuple"/\o.data=.seq its n/\its.size<=sizeLine/\Vals xs its.toList
def zI4 :Value->Option V
 |.none=>some .non
 |.bool b=>some (.bl b)
 |.int i _=>some (.int i)
 |.str x _=>some (.str x)
 |.bytes b _=>some (.byt b)
 |.float b _=>some (.flt b)
 |.ref a=>some (.ref a)
 |.type n=>some (.ty n)
 |_=>none
theorem RelV.abs {x:V}{u:Value}(r:RelV x u):zI4 u=some x:=by
 cases x with
 |non=>cases r;rfl
 |bl _=>cases r;rfl
 |int _=>obtain⟨t,rfl⟩:=r;rfl
 |str _=>obtain⟨t,rfl⟩:=r;rfl
 |byt _=>obtain⟨t,rfl⟩:=r;rfl
 |flt _=>obtain⟨t,rfl⟩:=r;rfl
 |ref _=>cases r;rfl
 |ty _=>cases r;rfl
theorem RelV.inj {x y:V}{u:Value}(r:RelV x u)(q:RelV y u):x=y:=zN2 (r.abs.symm.trans q.abs)
theorem Vals.inj {xs ys:List V}{us:List Value}(h:Vals xs us)(k:Vals ys us):xs=ys:=by
 induction h generalizing ys with
 |nil=>cases k;rfl
 |cons r _ a=>cases k with
  |cons b t'=>rw[r.inj b,a t']
section
variable {X:Cx}{pins:List (Addr×Obj)}{σ:St}{H:Hp}{s:Shared}{a:Addr}{xs ys:List V}
theorem SqL.of {K:PySem.W.Frag}(h:H a=some (.lst xs)):SqL K H a xs:=.inl (.inl h)
theorem SqT.of {K:PySem.W.Frag}(h:H a=some (.tup xs)):SqT K H a xs:=.inl (.inl h)
theorem Inv.list (I:Inv X pins σ H s)(h:SqL X.K H a xs):∃its:List Value,Vals xs its/\PlainL s.heap a its.toArray/\xs.length<=sizeLine:=by
 rcases h with h|⟨o,its,n,hk,c,hd,b,hz,r⟩
 ·obtain⟨z,its,n,r,e⟩:=h.ok I.hok;exact⟨its,r,⟨_,n,e,rfl,rfl,rfl⟩,z⟩
 ·refine⟨its.toList,r,⟨o,n,I.kIn a o hk,c,hd,by simpa using b⟩,?_⟩;have e:=r.length;simp only[zP9]at e;exact zK0 (zL0 e) hz
theorem Inv.tuple (I:Inv X pins σ H s)(h:SqT X.K H a xs):∃its:List Value,Vals xs its/\IsTup s.heap a its.toArray/\xs.length<=sizeLine:=by
 rcases h with h|⟨o,its,n,hk,c,b,hz,r⟩
 ·obtain⟨z,its,r,p⟩:=h.ok I.hok;exact⟨its,r,p,z⟩
 ·refine⟨its.toList,r,⟨o,I.kIn a o hk,c,n,by simpa using b⟩,?_⟩;have e:=r.length;simp only[zP9]at e;exact zK0 (zL0 e) hz
theorem Inv.list_inj (I:Inv X pins σ H s)(h:SqL X.K H a xs)(h':SqL X.K H a ys):xs=ys:=by
 obtain⟨its,r,⟨o,n,e,_,_,d⟩,_⟩:=I.list h;obtain⟨its',f,⟨o',g,b,_,_,d'⟩,_⟩:=I.list h';rw[e]at b;cases b;rw[d]at d';injection d' with c _;have:its=its':=by simpa using congrArg Array.toList c
 subst this;exact r.inj f
end
abbrev Cx.wish (X:Cx)(E:Value->Shared->Prop):Cx:={X with xe:=E}
abbrev Cx.nox (X:Cx):Cx:=X.wish λ_ _=>False
theorem Cx.Ok.wish {X:Cx}(ok:X.Ok)(E:Value->Shared->Prop):(X.wish E).Ok:=
 ⟨ok.mod,ok.kind,ok.glob,ok.blt,ok.above,ok.inj,ok.has,ok.cab,ok.hd,ok.frames,ok.stk,ok.exf,ok.bs,ok.bsz,ok.noex,ok.exfs,ok.funs,ok.frf⟩
theorem Cx.Ok.unwish {X:Cx}{E:Value->Shared->Prop}(ok:(X.wish E).Ok):X.Ok:=
 ⟨ok.mod,ok.kind,ok.glob,ok.blt,ok.above,ok.inj,ok.has,ok.cab,ok.hd,ok.frames,ok.stk,ok.exf,ok.bs,ok.bsz,ok.noex,ok.exfs,ok.funs,ok.frf⟩
section
variable {X:Cx}{pins:List (Addr×Obj)}{σ:St}{H:Hp}{s:Shared}{E:Value->Shared->Prop}
theorem Inv.wish (I:Inv X pins σ H s)(E:Value->Shared->Prop):Inv (X.wish E) pins σ H s:=⟨I.ok.wish E,I.os,I.bare,I.base,I.loc,I.cell,I.free,I.freeC,I.pin,I.hok,I.len⟩
theorem Inv.unwish (I:Inv (X.wish E) pins σ H s):Inv X pins σ H s:=⟨I.ok.unwish,I.os,I.bare,I.base,I.loc,I.cell,I.free,I.freeC,I.pin,I.hok,I.len⟩
theorem SP.unwish {D:Ends}{f:Flow}{s':Shared}(h:SP (X.wish E) pins D f s'):SP X pins D f s':=by
 cases f with
 |next=>obtain⟨a,H',I,q⟩:=h;exact⟨a,H',I.unwish,q⟩
 |brk=>obtain⟨a,H',I,q⟩:=h;exact⟨a,H',I.unwish,q⟩
 |cont=>obtain⟨a,H',I,q⟩:=h;exact⟨a,H',I.unwish,q⟩
 |ret u=>obtain⟨v,a,H',I,r,q⟩:=h;exact⟨v,a,H',I.unwish,r,q⟩
theorem PSs.nox {st:List Stmt}{t:TS}(h:PSs X.nox st t):PSs X st t:=λpins s σ H D I hw=>
 zO8 (h pins s σ H D (I.wish _) hw) (λ_ _ q=>q.unwish) λ_ _ z=>False.elim z
end
section
variable {X:Cx}{st:Stmt}{rest:List Stmt}{t u:TS}{e:Expr}{te:TE}{pos:Pos}
def zx7 :TS:=λD σ H=>D.nx σ H
def zB4 (t u:TS):TS:=λD σ H=>t {D with nx:=u D} σ H
theorem lL :PSs X [] zx7:=λ_ _ σ H _ I h=>wpAny_execs_nil ⟨σ,H,I,h⟩
theorem zy (c:PS X st t)(b:PSs X rest u):PSs X (st::rest) (zB4 t u):=by
 intro pins s σ H D I h;refine wpAny_execs_cons (thn (c pins s σ H {D with nx:=u D} I h) λf s1 q=>?_);cases f with
 |next=>
  obtain⟨a,H',d,q⟩:=q;exact b pins s1 a H' D d q
 |ret v=>exact q
 |brk=>exact q
 |cont=>exact q
theorem tm (a:PS X st t):PSs X [st] t:=by
 intro pins s σ H D I h;refine wpAny_execs_cons (thn (a pins s σ H D I h) λf s1 q=>?_);cases f with
 |next=>exact wpAny_execs_nil q
 |ret v=>exact q
 |brk=>exact q
 |cont=>exact q
theorem Inv.quiet {pins:List (Addr×Obj)}{σ:St}{H:Hp}{s:Shared}(I:Inv X pins σ H s):interactive X.env=false:=by simp[interactive,I.ok.kind]
def zB2 (te:TE):TS:=λD σ H=>te σ H λ_ H1=>D.nx σ H1
theorem tI (he:PE X e te)(c:swapsWith e none pos.line X.env=pure false:=by rfl):PS X (.Expr e pos) (zB2 te):=by
 intro pins s σ H D I h;exact wpAny_Expr_any (thn (he pins s σ H _ I h) λv s1 a=>by obtain⟨x,H1,d,f,b⟩:=a;exact⟨σ,H1,d,b⟩) I.quiet c
def zG4 (te:TE):TS:=λD σ H=>te σ H D.rt
theorem sq (he:PE X e te):PS X (.Return (some e) pos) (zG4 te):=by
 intro pins s σ H D I h;exact wpAny_Return_some (thn (he pins s σ H _ I h) λv s1 a=>by obtain⟨x,H1,d,c,b⟩:=a;exact⟨x,σ,H1,d,c,b⟩)
def zG8 (c:TT)(t u:TS):TS:=λD σ H=>c σ H λb H1=>if b=true then t D σ H1 else u D σ H1
theorem zc9 {c:Expr}{a b:List Stmt}{i:TT}(k:PT X c i)(ha:PSs X a t)(hb:PSs X b u):PS X (.If c a b pos) (zG8 i t u):=by
 intro pins s σ H D I h;refine wpAny_If (thn (k pins s σ H _ I h) λd s1 f=>?_);obtain⟨H1,j,g⟩:=f;cases d with
 |true=>exact ha pins s1 σ H1 D j g
 |false=>exact hb pins s1 σ H1 D j g
end
abbrev TG :=V->St->Hp->(St->Hp->Prop)->Prop
abbrev TGs :=List V->St->Hp->(St->Hp->Prop)->Prop
def PG (X:Cx)(target:Expr)(t:TG):Prop:=
 ∀(pins:List (Addr×Obj)) (s:Shared) (σ:St) (H:Hp) (v:V) (u:Value) (Q:St->Hp->Prop),Inv X pins σ H s->RelV v u->t v σ H Q->
  wpAny (model X.prog X.w) X.A (assign target X.env u) (λ_ s'=>∃a H',Inv X pins a H' s'/\Q a H') X.xe s
def PGs (X:Cx)(b:List Expr)(t:TGs):Prop:=
 ∀(pins:List (Addr×Obj)) (s:Shared) (σ:St) (H:Hp) (vs:List V) (us:List Value) (Q:St->Hp->Prop),Inv X pins σ H s->Vals vs us->t vs σ H Q->
  wpAny (model X.prog X.w) X.A (assignInOrder ((assignEach b X.env).map (·.2)) us) (λ_ s'=>∃a H',Inv X pins a H' s'/\Q a H') X.xe s
abbrev zs6 :=V->V->V->Hp->(Hp->Prop)->Prop
def zz4 (X:Cx)(t:zs6):Prop:=
 ∀(pins:List (Addr×Obj)) (s:Shared) (σ:St) (H:Hp) (o i v:V) (b a u:Value) (Q:Hp->Prop),Inv X pins σ H s->RelV o b->RelV i a->RelV v u->t o i v H Q->
  wpAny (model X.prog X.w) X.A (setItem b a u) (λ_ s'=>∃H',Inv X pins σ H' s'/\Q H') X.xe s
section
variable {X:Cx}{pos:Pos}
def sj (i:Nat):TG:=λv σ H Q=>Q (σ.set i (some v)) H
theorem zD {i:Nat}{x:Str}(b:X.N.Nodup)(hi:X.N[i]?=some x)(c:Loc X.env.scope x)(hf:X.fn x=true\/X.env.scope.names.lookup x=some .local:=by first|exact .inl rfl|exact .inr rfl|assumption):PG X (.Name x pos) (sj i):=by
 intro pins s σ H v u Q I r h;exact wpAny_assign_Name (wt I b hi c r (λs' a=>⟨_,H,a,h⟩) hf)
def zc8 :TGs:=λvs σ H Q=>vs=[]/\Q σ H
def qt (t:TG)(u:TGs):TGs:=λvs σ H Q=>∃v r,vs=v::r/\t v σ H λa H'=>u r a H' Q
theorem xT :PGs X [] zc8:=by
 intro pins s σ H vs us Q I r h;obtain⟨e,h⟩:=h;subst e;cases r;exact assignInOrder_nil ⟨σ,H,I,h⟩
theorem zT {e:Expr}{es:List Expr}{t:TG}{u:TGs}(g:PG X e t)(d:PGs X es u)
  (i:(assignEach (e::es) X.env).map (·.2)=assign e X.env::(assignEach es X.env).map (·.2):=by rfl):PGs X (e::es) (qt t u):=by
 intro pins s σ H vs us Q I r h;obtain⟨v,k,e1,h⟩:=h;subst e1;cases r with
 |cons r j=>
  rw[i];refine z01 (thn (g pins s σ H _ _ _ I r h) λ_ s1 a=>?_);obtain⟨b,H1,f,c⟩:=a;exact d pins s1 b H1 _ _ Q f j c
def ff (K:PySem.W.Frag)(n:Nat)(t:TGs):TG:=λv σ H Q=>∃a xs,v=.ref a/\SqT K H a xs/\xs.length=n/\t xs σ H Q
theorem dE {es:List Expr}{k:Nat}{t:TGs}{n:Nat}(l:X.calm=true)(h:PGs X es t)
  (hn:(assignEach es X.env).length=n:=by rfl) (c:(assignEach es X.env).findIdx? (·.1)=none:=by rfl):PG X (.Tuple es k pos) (ff X.K n t):=by
 intro pins s σ H v u Q I r hw;obtain⟨a,xs,e1,hq,j,hw⟩:=hw;subst e1;cases r;obtain⟨its,d,i,hz⟩:=I.tuple hq;refine assign_Tuple_tuple (I.ok.hd l) i (by simp[hn,<-j,d.length]) c λh' g=>?_;have f:Inv X pins σ H {s with heap:=h'}:=I.kept (t':=s.toks) λb o e=>g b o (zK9 (zK3 e)) e;exact h pins _ σ H xs _ Q f (by simpa using d) hw
def bY (to ti:TE)(t:zs6):TG:=λv σ H Q=>to σ H λo H1=>ti σ H1 λi b=>t o i v b λa=>Q σ a
theorem sP {o i:Expr}{to ti:TE}{t:zs6}(m:PE X o to)(hi:PE X i ti)(k:zz4 X t)
  (ha:∀v,assign (.Subscript o i pos) X.env v=(do
   let a <-holding [v] (eval o X.env)
   let d <-holding [v,a] (eval i X.env)
   standAt pos
   holding [v,a,d] (setItem a d v)
   release [v,a,d] []):=by intro _;rfl):PG X (.Subscript o i pos) (bY to ti t):=by
 intro pins s σ H v u Q I r h;rw[ha];refine zI9 (zO9 (thn (m pins s σ H _ I h) λa s1 b=>?_));obtain⟨x,H1,g,l,f⟩:=b;refine zI9 (zO9 (thn (hi pins s1 σ H1 _ g f) λd s2 e=>?_));obtain⟨y,n,A,j,p⟩:=e;refine zI9 (z25 (zI9 (zO9 (thn (k pins s2 σ n x y v a d u _ A l j r p) λ_ s3 c=>?_))));obtain⟨q,z,w⟩:=c;exact wpAny_release ⟨σ,q,z,w⟩
def zm8 (a:TE)(g:TG):TS:=λD σ H=>a σ H λx H1=>g x σ H1 D.nx
theorem sv {tg e:Expr}{b:TE}{g:TG}(he:PE X e b)(hg:PG X tg g)(i:swapsWithSole [tg] e pos.line X.env=pure false:=by rfl)(hw:swappedStores [tg] e X.env=pure none:=by rfl)
  (f:(assignEach [tg] X.env).map (·.2)=[assign tg X.env]:=by rfl):PS X (.Assign [tg] e pos) (zm8 b g):=by
 intro pins s σ H D I h;refine wpAny_Assign_stores (thn (he pins s σ H _ I h) λv s1 a=>?_) i hw;obtain⟨x,H1,d,j,c⟩:=a;rw[f];exact thn (hg pins s1 σ H1 x v _ d j c) λ_ s2 q=>q
theorem pD {i:Nat}{x:Str}{e:Expr}{b:TE}{pos':Pos}(l:X.N.Nodup)(hi:X.N[i]?=some x)(f:Loc X.env.scope x)(he:PE X e b)(g:swapsWith e (some (.Name x pos')) pos.line X.env=pure false:=by rfl)(hf:X.fn x=true\/X.env.scope.names.lookup x=some .local:=by first|exact .inl rfl|exact .inr rfl|assumption):
  PS X (.Assign [.Name x pos'] e pos) (zm8 b (sj i)):=by
 intro pins s σ H D I h;refine wpAny_Assign_Name (thn (he pins s σ H _ I h) λv s1 a=>?_) g;obtain⟨y,H1,d,j,c⟩:=a;exact wt d l hi f j (λs2 k=>⟨_,H1,k,c⟩) hf
end
section
variable {X:Cx}{pos:Pos}
end
structure It where
 go:Nat->Hp->Prop
 yld:Nat->Hp->V->Hp->Prop
 stop:Nat->Hp->Prop
def yT (X:Cx)(pins:List (Addr×Obj))(H:Hp)(b:Addr):Prop:=
 H b=none/\b≠X.env.locals/\b∉X.fs/\(b∈X.ex\/X.s₀.heap.objs.size<=b)/\(∀x c,X.env.cells.lookup x=some c->c≠b)/\∀p∈X.pn++pins,p.1≠b
theorem Inv.fpOk {X:Cx}{pins:List (Addr×Obj)}{σ:St}{H H':Hp}{s:Shared}{b:Addr}(I:Inv X pins σ H s)(hb:s.heap.objs.size<=b)(hn:H' b=none):yT X pins H' b:=by
 refine⟨hn,zT9 (zJ4 I.lt hb),I.nofs hb,.inr (zK0 I.sz hb),λx c e z=>?_,λp a z=>?_⟩
 ·obtain⟨v,q⟩:=I.cell x c e;exact absurd (zJ4 q.lt (by rw[z];exact hb)) (zP1 _)
 ·exact absurd (zJ4 (zK3 (I.pin p a).1) (by rw[z];exact hb)) (zP1 _)
structure Turn (P:Program)(w:World)(K:PySem.W.Frag)(tg:Expr)(J:It)(fp:List Addr)(it:Addr)(tn:Nat->Heap->Prop):Prop where
 mem:it∈fp
 obj:∀i h,tn i h->∀b∈fp,∃o,h.get? b=some o/\∀v,o.data≠.cell v
 keep:∀i h h',tn i h->(∀b∈fp,∀o,h.get? b=some o->h'.get? b=some o)->tn i h'
 item:∀(X:Cx),X.prog=P->X.w=w->X.K=K->X.calm=true->∀(i:Nat) (pins:List (Addr×Obj)) (s:Shared) (σ:St) (H:Hp) (E:Value->Shared->Prop),Inv X pins σ H s->(∀b∈fp,yT X pins H b)->tn i s.heap->J.go i H->
  wpAny (model P w) X.A (pyNext (.ref it)) (λr s1=>∃u,r=some u/\
   wpAny (model P w) X.A (letOwnedTupleGo tg (.ref it) u) (λ_ s2=>∃x H',Inv X pins σ H' s2/\RelV x u/\J.yld i H x H'/\tn (i+1) s2.heap/\∀b∈fp,H' b=none) E s1) E s
 done:∀(X:Cx),X.prog=P->X.w=w->X.K=K->X.calm=true->∀(i:Nat) (pins:List (Addr×Obj)) (s:Shared) (σ:St) (H:Hp) (E:Value->Shared->Prop),Inv X pins σ H s->(∀b∈fp,yT X pins H b)->tn i s.heap->J.stop i H->
  wpAny (model P w) X.A (pyNext (.ref it)) (λr s1=>r=none/\Inv X pins σ H s1) E s
 self:∀(A:Around) (i:Nat) (s:Shared) (Q:Value->Shared->Prop) (E:Value->Shared->Prop),tn i s.heap->Q (.ref it) s->wpAny (model P w) A (pyIter (.ref it)) Q E s
abbrev TI :=St->Hp->(It->Hp->Prop)->Prop
def PIE (X:Cx)(pins:List (Addr×Obj))(σ:St)(tg:Expr)(R:It->Hp->Prop)(a:Value)(s2:Shared):Prop:=
 ∃(it:Addr) (fp:List Addr) (tn:Nat->Heap->Prop) (J:It) (H':Hp),a=.ref it/\Inv X pins σ H' s2/\Turn X.prog X.w X.K tg J fp it tn/\tn 0 s2.heap/\(∀b∈fp,yT X pins H' b)/\R J H'
def PI (X:Cx)(tg iter:Expr)(a:TI):Prop:=
 ∀(pins:List (Addr×Obj)) (s:Shared) (σ:St) (H:Hp) (R:It->Hp->Prop),Inv X pins σ H s->a σ H R->
  wpAny (model X.prog X.w) X.A (eval iter X.env) (λv s1=>wpAny (model X.prog X.w) X.A (pyIter v) (PIE X pins σ tg R) X.xe s1) X.xe s
theorem df {M:Model}{A:Around}{E:Value->Shared->Prop}{s:Shared}{tg:Expr}{it:Addr}{u:Value}{o:Obj}{n:String}{vs:Array Value}{Q:Unit->Shared->Prop}(c:s.heap.get? it=some o)(b:o.cls=.type n)(hd:o.data=.fields vs)
  (hn:["enumerate","zip","dict_itemiterator","dict_reverseitemiterator","odict_iterator","itertools.zip_longest","itertools.pairwise"].contains n=false) (a:Q () s):wpAny M A (letOwnedTupleGo tg (.ref it) u) Q E s:=by
 unfold letOwnedTupleGo;cases tg<;>first
  |exact zJ1 a
  |(cases u<;>first
    |exact zJ1 a
    |(refine zI9 (wpAny_load c ?_)
      rw[b,hd];show wpAny M A (if(["enumerate","zip","dict_itemiterator","dict_reverseitemiterator","odict_iterator","itertools.zip_longest","itertools.pairwise"].contains n&&vs[0]? == some (rawInt _))=true then _ else _) Q E s;rw[if_neg (by intro h;rw[hn,z04]at h;cases h)];exact zJ1 a))
def Itl (K:PySem.W.Frag)(a:Addr):It:=
 ⟨λi H=>∃xs x,SqL K H a xs/\xs[i]?=some x,λi H x H'=>H'=H/\∀xs,SqL K H a xs->xs[i]?=some x,λi H=>∃xs,SqL K H a xs/\xs.length<=i⟩
def Itr (lo:Int)(n:Nat):It:=⟨λi _=>i<n,λi H x H'=>H'=H/\x=.int (lo+i),λi _=>n<=i⟩
theorem iO {P:Program}{w:World}{K:PySem.W.Frag}{tg:Expr}(a it:Addr):Turn P w K tg (Itl K a) [it] it (λi h=>h.IsListIter it a i) where
 mem:=by simp
 obj:=λi h st b hb=>by
  have e:b=it:=by simpa using hb
  subst e;obtain⟨o,e,c,d⟩:=st;exact⟨o,e,λv z=>by rw[d]at z;cases z⟩
 keep:=λi h h' st k=>st.at λo e=>k it (by simp) o e
 item:=by
  intro X j hw g q i pins s σ H E I hf st hg;subst j hw g;obtain⟨xs,x,hq,f⟩:=hg;obtain⟨its,m,p,hz⟩:=I.list hq;obtain⟨u,r,B⟩:=m.get f;obtain⟨f0,f1,f2,l,f4,n⟩:=hf it (by simp);refine wpAny_pyNext_list_item st p.isList (x:=u) (by simpa using r) λh' st' sb=>?_;have t:Inv X pins σ H {s with heap:=h'}:=I.turned (t':=s.toks) (λb o hb e=>(sb.2 b hb).trans e) f0 f1 l f4 n;obtain⟨o,e,c,d⟩:=id st';exact⟨u,rfl,df (s:={s with heap:=h'}) e c d (by decide) ⟨x,H,t,B,⟨rfl,λys hy=>by rw[I.list_inj hy hq];exact f⟩,st',λb hb=>(hf b hb).1⟩⟩
 done:=by
  intro X j hw g q i pins s σ H E I hf st hg;subst j hw g;obtain⟨xs,hq,f⟩:=hg;obtain⟨its,m,p,hz⟩:=I.list hq;obtain⟨f0,f1,f2,l,f4,n⟩:=hf it (by simp);have A:=m.length;exact wpAny_pyNext_list_end (I.ok.hd q) st p.isList (by simp;exact zK0 (zL0 A.symm) f) λh' y=>⟨rfl,I.turned (t':=s.toks) (λb o hb e=>y b o hb e) f0 f1 l f4 n⟩
 self:=λ_ _ _ _ _ st h=>wpAny_pyIter_listiter st h
theorem ml {P:Program}{w:World}{K:PySem.W.Frag}{tg:Expr}(it:Addr)(lo:Int)(n:Nat):Turn P w K tg (Itr lo n) [it] it (λi h=>IsRangeIter h it (lo+(i:Nat)*1) ((n:Int)-(i:Nat)) 1) where
 mem:=by simp
 obj:=λi h st b hb=>by
  have e:b=it:=by simpa using hb
  subst e;exact⟨_,st,λv z=>by
   have l:Data.fields _=Data.cell v:=z;cases l⟩
 keep:=λi h h' st k=>k it (by simp) _ st
 item:=by
  intro X d hw a g i pins s σ H E I hf st hg;subst d hw a;obtain⟨f0,f1,f2,c,f4,f⟩:=hf it (by simp);have W:=Walks.range (prog:=X.prog) (w:=X.w) (I.ok.hd g) it lo 1 n;refine W.item i s _ _ hg st λv h' tk q st' m=>?_;obtain⟨t,rfl⟩:=q;have j:Inv X pins σ H {s with heap:=h',toks:=tk}:=I.turned (λb o hb e=>m b o (by simpa using hb) e) f0 f1 c f4 f;refine⟨_,rfl,df (s:={s with heap:=h',toks:=tk}) (n:="range_iterator") st' rfl rfl (by decide) ⟨.int (lo+i),H,j,⟨t,?_⟩,⟨rfl,rfl⟩,st',λb hb=>(hf b hb).1⟩⟩;rw[Int.mul_one]
 done:=by
  intro X d hw a g i pins s σ H E I hf st hg;subst d hw a;obtain⟨f0,f1,f2,c,f4,f⟩:=hf it (by simp);exact wpAny_pyNext_range_end (I.ok.hd g) st (by have:n<=i:=hg;exact zz6 this) λh' p=>⟨rfl,I.turned (t':=s.toks) (λb o hb e=>p b o hb e) f0 f1 c f4 f⟩
 self:=λ_ _ _ _ _ st h=>wpAny_pyIter_rangeiter st h
section
variable {X:Cx}{tg:Expr}
def zw3 (K:PySem.W.Frag)(b:TE):TI:=λσ H R=>b σ H λx H1=>∃a,x=.ref a/\(∃xs,SqL K H1 a xs)/\R (Itl K a) H1
theorem kh {l:Expr}{f:TE}(j:PE X l f):PI X tg l (zw3 X.K f):=by
 intro pins s σ H R I h;refine thn (j pins s σ H _ I h) λv s1 c=>?_;obtain⟨x,H1,d,i,g⟩:=c;obtain⟨a,e,⟨xs,hq⟩,q⟩:=g;subst e;cases i;obtain⟨its,k,p,hz⟩:=d.list hq;refine zX7 p.isList ?_;refine⟨s1.heap.objs.size,[s1.heap.objs.size],_,_,H1,rfl,d.kept (t':=s1.toks) λb o e=>zJ0 _ e,iO a _,⟨_,zK2 _ rfl,rfl,rfl⟩,λb hb=>?_,q⟩;have e:b=s1.heap.objs.size:=by simpa using hb
 subst e;exact d.fpOk (zJ5 _) (d.hok.fresh (zJ5 _))
theorem pO {pins:List (Addr×Obj)}{σ:St}{H:Hp}{s:Shared}{R:It->Hp->Prop}{E:Value->Shared->Prop}{lo hi:Int}{t u v:Tok}{tk:Nat}(I:Inv X pins σ H s)(g:-(2 ^ 62)<=lo)(d:lo<2 ^ 62)(c:-(2 ^ 62)<=hi)(f:hi<2 ^ 62)
  (q:R (Itr lo (hi-lo).toNat) H):wpAny (model X.prog X.w) X.A (pyIter (.ref s.heap.objs.size)) (PIE X pins σ tg R) E {s with heap:=s.heap.push {cls:=.type "range",data:=.fields #[.int lo t,.int hi u,.int 1 v]},toks:=tk}:=by
 refine wpAny_pyIter_range (IsRange.new ..) (small_one g d c f) ?_;have a:Inv X pins σ H {s with heap:=s.heap.push {cls:=.type "range",data:=.fields #[.int lo t,.int hi u,.int 1 v]},toks:=tk}:=I.kept λb o e=>zJ0 _ e;refine⟨(s.heap.push {cls:=.type "range",data:=.fields #[.int lo t,.int hi u,.int 1 v]}).objs.size,[(s.heap.push {cls:=.type "range",data:=.fields #[.int lo t,.int hi u,.int 1 v]}).objs.size],_,_,H,rfl,
  a.kept (t':=tk) λb o e=>zJ0 _ e,ml _ lo (hi-lo).toNat,?_,λb hb=>?_,q⟩
 ·have e1:lo+((0:Nat):Int)*1=lo:=by simp
  have h:(((hi-lo).toNat:Nat):Int)-((0:Nat):Int)=Builtin.Range.rangeSize lo hi 1:=by rw[rangeSize_one];split<;>lia
  show IsRangeIter _ _ (lo+((0:Nat):Int)*1) ((((hi-lo).toNat:Nat):Int)-((0:Nat):Int)) 1;rw[e1,h];exact zK2 _ rfl
 ·have e:b=(s.heap.push {cls:=.type "range",data:=.fields #[.int lo t,.int hi u,.int 1 v]}).objs.size:=by simpa using hb
  subst e;exact a.fpOk (zJ5 _) (a.hok.fresh (zJ5 _))
def zz7 (a:TA):TI:=λσ H R=>a σ H λvs H1=>∃j:Int,vs=[.int j]/\-(2 ^ 62)<=j/\j<2 ^ 62/\R (Itr 0 j.toNat) H1
def zy8 (a:TA):TI:=λσ H R=>a σ H λvs H1=>∃i j:Int,vs=[.int i,.int j]/\(-(2 ^ 62)<=i/\i<2 ^ 62/\-(2 ^ 62)<=j/\j<2 ^ 62)/\R (Itr i (j-i).toNat) H1
theorem iA {a:Expr}{d:TA}{p pos:Pos}(hg:Gl X "range")(hm:X.mg "range"=none)(ha:PA X [a] d)(i:starEach [a] X.env=[(false,eval a X.env)]:=by rfl):PI X tg (.Call (.Name "range" p) [a] [] pos) (zz7 d):=by
 intro pins s σ H R I h;refine Call_ (xt I hg hm boot_range (zQ1 (thn (ha pos pins s σ H _ I h) λus s1 b=>?_) i rfl));obtain⟨vs,H1,f,k,c⟩:=b;obtain⟨j,e,c,g,q⟩:=c;subst e;cases k with
 |cons r l=>
  cases l;obtain⟨t,rfl⟩:=r;exact call_range_1 (pO f (by decide) (by decide) c g (by simpa using q))
theorem jR {a b:Expr}{g:TA}{p pos:Pos}(hg:Gl X "range")(hm:X.mg "range"=none)(ha:PA X [a,b] g)(m:starEach [a,b] X.env=[(false,eval a X.env),(false,eval b X.env)]:=by rfl)(c:starEach [b] X.env=[(false,eval b X.env)]:=by rfl):
  PI X tg (.Call (.Name "range" p) [a,b] [] pos) (zy8 g):=by
 intro pins s σ H R I h;refine Call_ (xt I hg hm boot_range (zQ1 (thn (ha pos pins s σ H _ I h) λus s1 ⟨vs,H1,k,n,d⟩=>?_) (by rw[m,c]) (by rw[c];rfl)));obtain⟨i,j,e,⟨d,o,v,l⟩,q⟩:=d;subst e;cases n with
 |cons r f=>
  cases f with
  |cons u f=>
   cases f;obtain⟨t,rfl⟩:=r;obtain⟨t',rfl⟩:=u;exact call_range_2 (pO k d o v l q)
def zF3 (c:TI)(g:TG)(d:TS):TS:=λD σ H=>c σ H λJ H1=>∃W:Nat->Nat->St->Hp->Prop,(∃m,W 0 m σ H1)/\∀i m σ H,W i m σ H->
 (J.stop i H/\D.nx σ H)\/(J.go i H/\∃N:St->Hp->Prop,(∀a H',N a H'->∃b,b<m/\W (i+1) b a H')/\∀x H',J.yld i H x H'->g x σ H' λσ2 e=>d {D with nx:=N,ct:=N,bk:=D.nx} σ2 e)
def su (fp:List Addr)(h:Heap):List (Addr×Obj):=fp.filterMap λb=>(h.get? b).map λo=>(b,o)
theorem xX {fp:List Addr}{h:Heap}{b:Addr}{o:Obj}(hb:b∈fp)(e:h.get? b=some o):(b,o)∈su fp h:=List.mem_filterMap.mpr ⟨b,hb,by rw[e];rfl⟩
theorem jj {fp:List Addr}{h:Heap}{p:Addr×Obj}(a:p∈su fp h):p.1∈fp/\h.get? p.1=some p.2:=by
 obtain⟨b,hb,e⟩:=List.mem_filterMap.mp a;cases q:h.get? b with
 |none=>rw[q]at e;cases e
 |some o=>
  rw[q]at e;have c:(b,o)=p:=zN2 e;subst c;exact⟨hb,q⟩
theorem Inv.pinned {pins:List (Addr×Obj)}{σ:St}{H:Hp}{s:Shared}{fp:List Addr}(I:Inv X pins σ H s)(hf:∀b∈fp,yT X pins H b)(f:∀b∈fp,∃o,s.heap.get? b=some o/\∀v,o.data≠.cell v):Inv X (pins++su fp s.heap) σ H s:=
 I.pins_of λp c=>(zL6.mp c).elim (λz=>I.pin p (zL3 _ z)) λz=>by
  obtain⟨hb,e⟩:=jj z;obtain⟨f0,f1,f2,_⟩:=hf p.1 hb;obtain⟨o,a,d⟩:=f p.1 hb;rw[e]at a;cases a;exact⟨e,f0,f1,f2,d⟩
theorem Inv.unpinned {pins pl:List (Addr×Obj)}{σ:St}{H:Hp}{s:Shared}(I:Inv X (pins++pl) σ H s):Inv X pins σ H s:=I.pins_of λp a=>I.pin p (zL3 _ (zM6 _ a))
theorem eu {iter:Expr}{body:List Stmt}{V:TI}{g:TG}{Y:TS}{pos:Pos}(z:PassesOwn (model X.prog X.w) X.A X.env X.xe)(Z:X.calm=true)(hi:PI X tg iter V)(hg:PG X tg g)(hb:PSs X body Y)
  (hs:∀x,foldedSetIterable iter X.env x=pure x:=by intro _;rfl):PS X (.For tg iter body [] pos) (zF3 V g Y):=by
 intro pins s σ H D I h;refine wpAny_For (thn (hi pins s σ H _ I h) λv s1 h1=>thn h1 λa0 s2 h2=>?_) hs;obtain⟨it,fp,tn,J,H2,e,I2,T,R,f2,W,⟨m0,w0⟩,turn⟩:=h2;subst e
 -- what stays true of the iterator's objects through the loop
 have k:∀{H':Hp},(∀b∈fp,H' b=none)->∀b∈fp,yT X pins H' b:=λhn b hb=>⟨hn b hb,(f2 b hb).2⟩;refine codeAny_forLoop_any (λn s'=>∃i j H',Inv X pins j H' s'/\tn i s'.heap/\(∀b∈fp,H' b=none)/\W i n j H') ?_ m0 ⟨0,σ,H2,I2,R,λb hb=>(f2 b hb).1,w0⟩;rintro n s3 ⟨i,l,L,U,F,E,w3⟩;rcases turn i n l L w3 with⟨stop,qn⟩|⟨go,N,hN,step⟩
 ·refine zZ5 z (thn (T.done X rfl rfl rfl Z i pins s3 l L X.xe U (k E) F stop) λr s4 C=>?_);obtain⟨hr,I4⟩:=C;subst hr;exact wpAny_execs_nil ⟨l,L,I4,qn⟩
 ·refine zZ5 z (thn (T.item X rfl rfl rfl Z i pins s3 l L X.xe U (k E) F go) λr s4 K=>?_);obtain⟨u,hr,h4⟩:=K;subst hr;refine zZ5 z (thn h4 λ_ s5 B=>?_);obtain⟨x,S,I5,r5,y5,t,M⟩:=B;have P:=I5.pinned (k M) (T.obj _ _ t);refine zZ5 z (thn (hg _ s5 l S x u _ P r5 (step x S y5)) λ_ s6 y=>?_);obtain⟨O,H6,I6,q6⟩:=y;refine zZ5 z (thn (hb _ s6 O H6 _ I6 q6) λf Q q=>?_);have again:∀{a:St} {c:Hp},Inv X (pins++su fp s5.heap) a c Q->N a c->∃m,m<n/\∃i j H',Inv X pins j H' Q/\tn i Q.heap/\(∀b∈fp,H' b=none)/\W i m j H':=λ{a c} p G=>by
   obtain⟨m',hm,w7⟩:=hN a c G;refine⟨m',hm,i+1,a,c,p.unpinned,T.keep _ _ _ t λb hb o e=>(p.pin (b,o) (zL3 _ (zL3 _ (xX hb e)))).1,λb hb=>?_,w7⟩;obtain⟨o,e,d⟩:=T.obj _ _ t b hb;exact(p.pin (b,o) (zL3 _ (zL3 _ (xX hb e)))).2.1
  cases f with
  |next=>obtain⟨a,c,p,G⟩:=q;exact again p G
  |cont=>obtain⟨a,c,p,G⟩:=q;exact again p G
  |brk=>obtain⟨a,c,p,q⟩:=q;exact⟨a,c,p.unpinned,q⟩
  |ret v=>obtain⟨x7,a,c,p,r7,q⟩:=q;exact⟨x7,a,c,p.unpinned,r7,q⟩
end
abbrev R2 :=V->V->Hp->VK->Prop
def OpR (X:Cx)(f:Value->Value->Sem Value)(r:R2):Prop:=
 ∀(pins:List (Addr×Obj)) (s:Shared) (σ:St) (H:Hp) (x y:V) (v u:Value) (Q:VK),Inv X pins σ H s->RelV x v->RelV y u->r x y H Q->
  wpAny (model X.prog X.w) X.A (f v u) (EP X pins σ Q) X.xe s
def UnR (X:Cx)(f:Value->Sem Value)(r:V->Hp->VK->Prop):Prop:=
 ∀(pins:List (Addr×Obj)) (s:Shared) (σ:St) (H:Hp) (x:V) (v:Value) (Q:VK),Inv X pins σ H s->RelV x v->r x H Q->
  wpAny (model X.prog X.w) X.A (f v) (EP X pins σ Q) X.xe s
def xm (X:Cx)(f:Value)(r:List V->Hp->VK->Prop):Prop:=
 ∀(pins:List (Addr×Obj)) (s:Shared) (σ:St) (H:Hp) (xs:List V) (us:List Value) (Q:VK),Inv X pins σ H s->Vals xs us->r xs H Q->
  wpAny (model X.prog X.w) X.A (call f us) (EP X pins σ Q) X.xe s
def zE8 (X:Cx)(r:V->Hp->(Bool->Hp->Prop)->Prop):Prop:=
 ∀(pins:List (Addr×Obj)) (s:Shared) (σ:St) (H:Hp) (x:V) (v:Value) (Q:Bool->Hp->Prop),Inv X pins σ H s->RelV x v->r x H Q->
  wpAny (model X.prog X.w) X.A (truthy v) (TP X pins σ Q) X.xe s
def tOp (r:R2)(c a:TE):TE:=λσ H Q=>c σ H λx H1=>a σ H1 λy b=>r x y b Q
def tUn (r:V->Hp->VK->Prop)(a:TE):TE:=λσ H Q=>a σ H λx H1=>r x H1 Q
def rI (C:Int->Int->Prop)(g:Int->Int->V):R2:=λx y H Q=>∃i j,x=.int i/\y=.int j/\C i j/\Q (g i j) H
def rI0 (g:Int->Int->V):R2:=λx y H Q=>∃i j,x=.int i/\y=.int j/\Q (g i j) H
def rU (g:Int->V):V->Hp->VK->Prop:=λx H Q=>∃i,x=.int i/\Q (g i) H
section
variable {X:Cx}{a b c:Expr}{ta tb tc:TE}{pos:Pos}
theorem zl1 (ha:PE X a ta)(hb:PE X b tb){pins:List (Addr×Obj)}{s:Shared}{σ:St}{H:Hp}{R:V->V->Hp->Prop}(I:Inv X pins σ H s)
  (h:ta σ H λx H1=>tb σ H1 λy d=>R x y d) {Q:Value->Shared->Prop} {f:Value->Value->Sem Value}
  (hf:∀v u s2 x y d,Inv X pins σ d s2->RelV x v->RelV y u->R x y d->wpAny (model X.prog X.w) X.A (f v u) Q X.xe s2):
  wpAny (model X.prog X.w) X.A (eval a X.env) (λv i=>wpAny (model X.prog X.w) X.A (eval b X.env) (λu g=>wpAny (model X.prog X.w) X.A (f v u) Q X.xe g) X.xe i) X.xe s:=by
 refine thn (ha pins s σ H _ I h) λv s1 j=>?_;obtain⟨x,H1,l,n,k⟩:=j;refine thn (hb pins s1 σ H1 _ l k) λu s2 e=>?_;obtain⟨y,d,o,m,p⟩:=e;exact hf v u s2 x y d o n m p
theorem yU {op:Operator}{r:R2}(e:OpR X (binaryOp op) r)(ha:PE X a ta)(hb:PE X b tb):PE X (.BinOp a op b pos) (tOp r ta tb):=by
 intro pins s σ H Q I h;exact wpAny_BinOp (zl1 ha hb I h λv u s2 x y f g d i q=>e pins s2 σ f x y v u Q g d i q)
theorem zd6 {op:UnaryOp}{r:V->Hp->VK->Prop}(i:UnR X (unaryOp op) r)(ha:PE X a ta):PE X (.UnaryOp op a pos) (tUn r ta):=by
 intro pins s σ H Q I h;exact UnaryOp_ (thn (ha pins s σ H _ I h) λv s1 d=>by obtain⟨x,H1,f,g,e⟩:=d;exact i pins s1 σ H1 x v Q f g e)
theorem opI {f:Value->Value->Sem Value}{C:Int->Int->Prop}{g:Int->Int->Int}
  (rule:∀(i j:Int) (t u:Tok) (s:Shared) (Q:Value->Shared->Prop) (E:Value->Shared->Prop),C i j->Q (.int (g i j) s.toks) {s with toks:=s.toks+1}->wpAny (model X.prog X.w) X.A (f (.int i t) (.int j u)) Q E s):
  OpR X f (rI C λi j=>.int (g i j)):=by
 intro pins s σ H x y v u Q I d k h;obtain⟨i,j,rfl,rfl,e,q⟩:=h;obtain⟨t,rfl⟩:=d;obtain⟨t',rfl⟩:=k;exact rule i j t t' s _ _ e ⟨.int (g i j),H,I.tok _,⟨_,rfl⟩,q⟩
theorem zD1 {f:Value->Value->Sem Value}{g:Int->Int->Int}
  (rule:∀(i j:Int) (t u:Tok) (s:Shared) (Q:Value->Shared->Prop) (E:Value->Shared->Prop),Q (.int (g i j) s.toks) {s with toks:=s.toks+1}->wpAny (model X.prog X.w) X.A (f (.int i t) (.int j u)) Q E s):
  OpR X f (rI0 λi j=>.int (g i j)):=by
 intro pins s σ H x y v u Q I d e h;obtain⟨i,j,rfl,rfl,q⟩:=h;obtain⟨t,rfl⟩:=d;obtain⟨t',rfl⟩:=e;exact rule i j t t' s _ _ ⟨.int (g i j),H,I.tok _,⟨_,rfl⟩,q⟩
theorem za6 {f:Value->Value->Sem Value}{g:Int->Int->Bool}
  (rule:∀(i j:Int) (t u:Tok) (s:Shared) (Q:Value->Shared->Prop) (E:Value->Shared->Prop),Q (.bool (g i j)) s->wpAny (model X.prog X.w) X.A (f (.int i t) (.int j u)) Q E s):
  OpR X f (rI0 λi j=>.bl (g i j)):=by
 intro pins s σ H x y v u Q I d e h;obtain⟨i,j,rfl,rfl,q⟩:=h;obtain⟨t,rfl⟩:=d;obtain⟨t',rfl⟩:=e;exact rule i j t t' s _ _ ⟨.bl (g i j),H,I,rfl,q⟩
def zp0 (i j:Int):Prop:=0<=j/\j<=1000000/\i.natAbs<2 ^ 64
def aF (i j:Int):Prop:=(-(2 ^ 64)<i/\i<2 ^ 64)\/(-(2 ^ 64)<j/\j<2 ^ 64)
theorem aF.ok {i j:Int}(h:aF i j):IntMulOk i j:=by
 rcases h with⟨d,e⟩|⟨d,e⟩
 ·exact .of_left (intBits_le_64 d e)
 ·exact .of_right (intBits_le_64 d e)
theorem qP :OpR X (binaryOp .Add) (rI0 λi j=>.int (i+j)):=zD1 λ_ _ _ _ _ _ _ q=>add_int q
theorem zs1 :OpR X (binaryOp .Sub) (rI0 λi j=>.int (i-j)):=zD1 λ_ _ _ _ _ _ _ q=>sub_int q
theorem qE :OpR X (binaryOp .Mult) (rI aF λi j=>.int (i*j)):=opI λ_ _ _ _ _ _ _ d q=>mul_int q d.ok
theorem sS :OpR X (binaryOp .Mod) (rI (λ_ j=>0<j) λi j=>.int (i % j)):=opI λi j _ _ _ _ _ d q=>by
 have e:(0:Int)<j:=d;exact mod_int' (Int.ne_of_gt d) (by rw[Int.fmod_eq_emod_of_nonneg i (zW4 d)];exact q)
theorem zo9 :OpR X (binaryOp .Pow) (rI zp0 λi j=>.int (i ^ j.toNat)):=opI λ_ _ _ _ _ _ _ d q=>pow_int_small d.1 d.2.1 d.2.2 q
theorem unI {f:Value->Sem Value}{g:Int->Int}
  (rule:∀(i:Int) (t:Tok) (s:Shared) (Q:Value->Shared->Prop) (E:Value->Shared->Prop),Q (.int (g i) s.toks) {s with toks:=s.toks+1}->wpAny (model X.prog X.w) X.A (f (.int i t)) Q E s):
  UnR X f (rU λi=>.int (g i)):=by
 intro pins s σ H x v Q I d h;obtain⟨i,rfl,q⟩:=h;obtain⟨t,rfl⟩:=d;exact rule i t s _ _ ⟨.int (g i),H,I.tok _,⟨_,rfl⟩,q⟩
theorem de :UnR X (unaryOp .USub) (rU λi=>.int (-i)):=unI λ_ _ _ _ _ q=>neg_int q
end
def zC9 :V->V->Bool
 |.non,.non=>true|.non,.int _=>true|.int _,.non=>true|.non,.bl _=>true|.bl _,.non=>true|.non,.str _=>true|.str _,.non=>true
 |.int _,.int _=>true|.bl _,.bl _=>true|.str _,.str _=>true|.byt _,.byt _=>true
 |.int _,.str _=>true|.str _,.int _=>true|.bl _,.str _=>true|.str _,.bl _=>true
 |_,_=>false
def rEq :R2:=λx y H Q=>zC9 x y=true/\Q (.bl (decide (x=y))) H
def rNe :R2:=λx y H Q=>zC9 x y=true/\Q (.bl (!decide (x=y))) H
theorem kC {i j:Int}:decide (V.int i=V.int j)=(i == j):=by
 rw[z34];simp
theorem hJ {i j:Bool}:decide (V.bl i=V.bl j)=(i == j):=by
 rw[z34];simp
theorem kX {i j:Str}:decide (V.str i=V.str j)=(i == j):=by
 rw[z34];simp
theorem je {i j:Array UInt8}:decide (V.byt i=V.byt j)=(i.toList == j.toList):=by
 rw[z34];cases i;cases j;simp
section
variable {X:Cx}{a b c:Expr}{ta tb tc:TE}{pos:Pos}
theorem zz {pins:List (Addr×Obj)}{σ:St}{H:Hp}{s:Shared}{Q:VK}{k d:Bool}(I:Inv X pins σ H s)(q:Q (.bl k) H)(e:k=d):EP X pins σ Q (.bool d) s:=by
 subst e;exact⟨.bl k,H,I,rfl,q⟩
theorem fg :OpR X (compareOp .Eq) rEq:=by
 intro pins s σ H x y v u Q I f d h;obtain⟨e,q⟩:=h;cases x with
 |non=>
  cases f;cases y with
  |non=>cases d;exact PySem.EqNone.eq_none_none (zz I q (by simp))
  |bl j=>cases d;exact PySem.EqNone.eq_none_bool (zz I q (by simp))
  |int j=>obtain⟨t',rfl⟩:=d;exact PySem.EqNone.eq_none_int (zz I q (by simp))
  |str j=>obtain⟨t',rfl⟩:=d;exact PySem.EqNone.eq_none_str (zz I q (by simp))
  |_=>exact absurd (show false=true from e) zL5
 |bl i=>
  cases f;cases y with
  |non=>cases d;exact PySem.EqNone.eq_bool_none (zz I q (by simp))
  |bl j=>cases d;exact eq_bool (zz I q hJ)
  |str j=>obtain⟨t',rfl⟩:=d;exact PySem.EqMixed.eq_bool_str (zz I q (by simp))
  |_=>exact absurd (show false=true from e) zL5
 |int i=>
  obtain⟨t,rfl⟩:=f;cases y with
  |non=>cases d;exact PySem.EqNone.eq_int_none (zz I q (by simp))
  |int j=>obtain⟨t',rfl⟩:=d;exact eq_int (zz I q kC)
  |str j=>obtain⟨t',rfl⟩:=d;exact PySem.EqMixed.eq_int_str (zz I q (by simp))
  |_=>exact absurd (show false=true from e) zL5
 |str i=>
  obtain⟨t,rfl⟩:=f;cases y with
  |non=>cases d;exact PySem.EqNone.eq_str_none (zz I q (by simp))
  |bl j=>cases d;exact PySem.EqMixed.eq_str_bool (zz I q (by simp))
  |int j=>obtain⟨t',rfl⟩:=d;exact PySem.EqMixed.eq_str_int (zz I q (by simp))
  |str j=>obtain⟨t',rfl⟩:=d;exact eq_str (zz I q kX)
  |_=>exact absurd (show false=true from e) zL5
 |byt i=>
  obtain⟨t,rfl⟩:=f;cases y with
  |byt j=>obtain⟨t',rfl⟩:=d;exact PySem.W.eq_bytes (zz I q je)
  |_=>exact absurd (show false=true from e) zL5
 |_=>cases y<;>exact absurd (show false=true from e) zL5
theorem zC4 :OpR X (compareOp .NotEq) rNe:=by
 intro pins s σ H x y v u Q I f d h;obtain⟨e,q⟩:=h;cases x with
 |non=>
  cases f;cases y with
  |non=>cases d;exact PySem.EqNone.ne_none_none (zz I q (by simp))
  |bl j=>cases d;exact PySem.EqNone.ne_none_bool (zz I q (by simp))
  |int j=>obtain⟨t',rfl⟩:=d;exact PySem.EqNone.ne_none_int (zz I q (by simp))
  |str j=>obtain⟨t',rfl⟩:=d;exact PySem.EqNone.ne_none_str (zz I q (by simp))
  |_=>exact absurd (show false=true from e) zL5
 |bl i=>
  cases f;cases y with
  |non=>cases d;exact PySem.EqNone.ne_bool_none (zz I q (by simp))
  |bl j=>cases d;exact ne_bool (zz I q (congrArg not hJ))
  |str j=>obtain⟨t',rfl⟩:=d;exact PySem.EqMixed.ne_bool_str (zz I q (by simp))
  |_=>exact absurd (show false=true from e) zL5
 |int i=>
  obtain⟨t,rfl⟩:=f;cases y with
  |non=>cases d;exact PySem.EqNone.ne_int_none (zz I q (by simp))
  |int j=>obtain⟨t',rfl⟩:=d;exact ne_int (zz I q (congrArg not kC))
  |str j=>obtain⟨t',rfl⟩:=d;exact PySem.EqMixed.ne_int_str (zz I q (by simp))
  |_=>exact absurd (show false=true from e) zL5
 |str i=>
  obtain⟨t,rfl⟩:=f;cases y with
  |non=>cases d;exact PySem.EqNone.ne_str_none (zz I q (by simp))
  |bl j=>cases d;exact PySem.EqMixed.ne_str_bool (zz I q (by simp))
  |int j=>obtain⟨t',rfl⟩:=d;exact PySem.EqMixed.ne_str_int (zz I q (by simp))
  |str j=>obtain⟨t',rfl⟩:=d;exact ne_str (zz I q (congrArg not kX))
  |_=>exact absurd (show false=true from e) zL5
 |byt i=>
  obtain⟨t,rfl⟩:=f;cases y with
  |byt j=>obtain⟨t',rfl⟩:=d;exact PySem.W.ne_bytes (zz I q (congrArg not je))
  |_=>exact absurd (show false=true from e) zL5
 |_=>cases y<;>exact absurd (show false=true from e) zL5
theorem zi2 :OpR X (compareOp .Lt) (rI0 λi j=>.bl (decide (i<j))):=za6 λ_ _ _ _ _ _ _ q=>lt_int q
theorem oK :OpR X (compareOp .LtE) (rI0 λi j=>.bl (decide (i<=j))):=za6 λ_ _ _ _ _ _ _ q=>le_int q
theorem zj0 :OpR X (compareOp .Gt) (rI0 λi j=>.bl (decide (j<i))):=za6 λ_ _ _ _ _ _ _ q=>gt_int q
theorem zy0 :OpR X (compareOp .GtE) (rI0 λi j=>.bl (decide (j<=i))):=za6 λ_ _ _ _ _ _ _ q=>ge_int q
theorem fu :OpR X (compareOp .Is) (λx y H Q=>y=.non/\Q (.bl (decide (x=.non))) H):=by
 intro pins s σ H x y v u Q I d e h;obtain⟨rfl,q⟩:=h;cases e;refine is_none_gen (zz I q ?_);cases x<;>first
  |(cases d;rfl)
  |(obtain⟨t,rfl⟩:=d;rfl)
theorem zb3 :OpR X (compareOp .IsNot) (λx y H Q=>y=.non/\Q (.bl (!decide (x=.non))) H):=by
 intro pins s σ H x y v u Q I d e h;obtain⟨rfl,q⟩:=h;cases e;refine isnot_none_gen (zz I q ?_);cases x<;>first
  |(cases d;rfl)
  |(obtain⟨t,rfl⟩:=d;rfl)
theorem yw (b:Expr){op:CmpOp}(h:op≠.In:=by decide)(e:op≠.NotIn:=by decide):behindInMarks op b=false:=by
 have e1:(op == CmpOp.In)=false:=by cases op<;>first|rfl|exact absurd rfl h
 have d:(op == CmpOp.NotIn)=false:=by cases op<;>first|rfl|exact absurd rfl e
 cases b<;>simp[behindInMarks,e1,d]
theorem pJ {op:CmpOp}{r:R2}(e:OpR X (compareOp op) r)(ha:PE X a ta)(hb:PE X b tb)(hm:behindInMarks op b=false):PE X (.Compare a [op] [b] pos) (tOp r ta tb):=by
 intro pins s σ H Q I h;exact wpAny_Compare1 (zl1 ha hb I h λv u s2 x y f g d i q=>e pins s2 σ f x y v u Q g d i q) hm
def zf4 (t:TE):TT:=λσ H Q=>t σ H λx H'=>∃k,x=.bl k/\Q k H'
theorem kn {op:CmpOp}{r:R2}(o:OpR X (compareOp op) r)(ha:PE X a ta)(hb:PE X b tb)(hm:behindInMarks op b=false):PT X (.Compare a [op] [b] pos) (zf4 (tOp r ta tb)):=by
 intro pins s σ H Q I h;refine wpAny_isTrue_Compare1 (thn (ha pins s σ H _ I h) λv s1 ⟨x,H1,g,n,d⟩=>thn (hb pins s1 σ H1 _ g d) λu s2 ⟨y,q,p,m,t⟩=>
  thn (o pins s2 σ q x y v u _ p n m t) λc s3 ⟨z,i,l,f,k,e,j⟩=>?_) hm
 subst e;cases f;exact zR5 ⟨i,l,j⟩
def cn (r h:R2)(ta tb tc:TE):TE:=λσ H Q=>ta σ H λx H1=>tb σ H1 λy f=>r x y f λz d=>∃k,z=.bl k/\
 (if k=true then tc σ d λe g=>h y e g Q else Q (.bl false) d)
theorem dX {op f:CmpOp}{r j:R2}(C:OpR X (compareOp op) r)(g:OpR X (compareOp f) j)(ha:PE X a ta)(hb:PE X b tb)(A:PE X c tc)
  (hm:lastMarks [op,f] [b,c]=false:=by with_unfolding_all rfl):PE X (.Compare a [op,f] [b,c] pos) (cn r j ta tb tc):=by
 intro pins s σ H Q I h;refine Compare_chain (thn (ha pins s σ H _ I h) λv s1 ⟨x,H1,p,B,o⟩=>chain_link (thn (hb pins s1 σ H1 _ p o) λu s2 ⟨y,D,K,i,E⟩=>
  thn (C pins s2 σ D x y v u _ K B i E) λd s3 ⟨z,l,n,F,k,e,m⟩=>?_)) hm
 subst e;cases F;refine zR5 ?_;cases k with
 |false=>exact ite_ff ⟨.bl false,l,n,rfl,m⟩
 |true=>exact ite_tt (chain_last (thn (A pins s3 σ l _ n m) λJ s4 ⟨t,q,L,G,w⟩=>g pins s4 σ q y t u J Q L i G w))
theorem ef {op f:CmpOp}{r j:R2}(G:OpR X (compareOp op) r)(g:OpR X (compareOp f) j)(ha:PE X a ta)(hb:PE X b tb)(C:PE X c tc)
  (hm:lastMarks [op,f] [b,c]=false:=by with_unfolding_all rfl):PT X (.Compare a [op,f] [b,c] pos) (zf4 (cn r j ta tb tc)):=by
 intro pins s σ H Q I h;refine isTrue_chain (thn (ha pins s σ H _ I h) λv s1 ⟨x,H1,q,D,o⟩=>test_link (thn (hb pins s1 σ H1 _ q o) λu s2 ⟨y,J,S,i,K⟩=>
  thn (G pins s2 σ J x y v u _ S D i K) λd s3 ⟨z,l,n,M,k,e,m⟩=>?_)) hm
 subst e;cases M;refine zR5 ?_;cases k with
 |false=>
  obtain⟨V,F,p⟩:=m;cases F;exact ite_ff ⟨l,n,p⟩
 |true=>
  refine ite_tt (test_last (thn (C pins s3 σ l _ n m) λP s4 ⟨w,t,T,N,A⟩=>thn (g pins s4 σ t y w u P _ T i N A) λd' s5 ⟨U,B,R,E,W,L,O⟩=>?_));subst L;cases E;exact zR5 ⟨B,R,O⟩
def zA0 (K:PySem.W.Frag)(x:V)(H:Hp)(k:Bool):Prop:=
 match x with
 |.non=>k=false
 |.bl b=>k=b
 |.int i=>k=(i != 0)
 |.str y=>y.length<=sizeLine/\k=((y.length:Int) != 0)
 |.byt y=>y.size<=sizeLine/\k=((y.size:Int) != 0)
 |.ref p=>(∃xs,SqL K H p xs/\k=!xs.isEmpty)\/(∃xs,SqT K H p xs/\k=!xs.isEmpty)\/∃kvs,H p=some (.dK kvs)/\k=!kvs.isEmpty
 |_=>False
theorem nW {d:Type}{kvs:List (d×V)}{vs:List (d×Value)}(r:KV kvs vs):(!vs.isEmpty)=!kvs.isEmpty:=by
 cases r<;>rfl
theorem sL {xs:List V}{its:List Value}(r:Vals xs its):(!its.toArray.isEmpty)=!xs.isEmpty:=by
 cases r<;>simp
theorem uF :(sizeLine:Nat)<2 ^ 63:=by rw[zP6];decide
theorem zs5 :zE8 X (λx H Q=>∃k,zA0 X.K x H k/\Q k H):=by
 intro pins s σ H x v Q I f h;obtain⟨k,e,q⟩:=h;have n:=uF;have j:sizeLine=16777216:=zP6;cases x with
 |non=>
  cases f;have d:k=false:=e;subst d;exact truthy_none ⟨H,I,q⟩
 |bl b=>
  cases f;have d:k=b:=e;subst d;exact zR5 ⟨H,I,q⟩
 |int i=>
  obtain⟨t,rfl⟩:=f;have d:k=(i != 0):=e;subst d;exact PySem.P.truthy_int ⟨H,I,q⟩
 |str y=>
  obtain⟨t,rfl⟩:=f;obtain⟨hy,d⟩:y.length<=sizeLine/\k=((y.length:Int) != 0):=e;subst d;exact PySem.P.truthy_str (zB0 j hy) ⟨H,I.tok _,q⟩
 |byt y=>
  obtain⟨t,rfl⟩:=f;obtain⟨hy,d⟩:y.size<=sizeLine/\k=((y.size:Int) != 0):=e;subst d;exact PySem.W.truthy_bytes (zv7 j hy) ⟨H,I.tok _,q⟩
 |ref p=>
  cases f;have d:(∃xs,SqL X.K H p xs/\k=!xs.isEmpty)\/(∃xs,SqT X.K H p xs/\k=!xs.isEmpty)\/∃kvs,H p=some (.dK kvs)/\k=!kvs.isEmpty:=e;rcases d with⟨xs,g,d⟩|⟨xs,g,d⟩|⟨kvs,g,d⟩
  ·subst d;obtain⟨its,r,pl,hz⟩:=I.list g;have hlen:=r.length;exact wpAny_truthy_list pl.isList (by simp only[zK4];exact dN j hlen hz) ⟨H,I.tok _,by rw[sL r];exact q⟩
  ·subst d;obtain⟨its,r,pl,hz⟩:=I.tuple g;have hlen:=r.length;exact truthy_tuple pl (by simp only[zK4];exact dN j hlen hz) ⟨H,I.tok _,by rw[sL r];exact q⟩
  ·subst d;obtain⟨hz,l,vs,r,m⟩:kvs.length<=sizeLine/\(p == sysModules)=false/\∃vs,KV kvs vs/\s.heap.DictOf (yB X.prog X.w) p vs:=I.hok p _ g;have hlen:kvs.length=vs.length:=Paired.length r;exact wpAny_truthy_dict l m (dN j hlen hz) ⟨H,I.tok _,by rw[nW r];exact q⟩
 |_=>exact(show False from e).elim
theorem eJ (ha:PE X a ta)(he:∀whole,isTrue a X.env whole=(do let v <-whole;standAt a.pos;holding [v] (truthy v))):
  PT X a (λσ H Q=>ta σ H λx H'=>∃k,zA0 X.K x H' k/\Q k H'):=by
 intro pins s σ H Q I h;exact isTrue_plain (thn (ha pins s σ H _ I h) λv s1 d=>by obtain⟨x,H1,f,g,e⟩:=d;exact zs5 pins s1 σ H1 x v Q f g e) (he _)
theorem vals1 {x:V}{us:List Value}(r:Vals [x] us):∃u,us=[u]/\RelV x u:=by
 cases r with
 |cons e d=>cases d;exact⟨_,rfl,e⟩
theorem vals2 {x y:V}{us:List Value}(r:Vals [x,y] us):∃u d,us=[u,d]/\RelV x u/\RelV y d:=by
 cases r with
 |cons f e=>
  cases e with
  |cons h g=>cases g;exact⟨_,_,rfl,f,h⟩
theorem iM (e:X.calm=true):xm X (.builtin "max") (λxs H Q=>∃i j,xs=[.int i,.int j]/\Q (.int (if j > i then j else i)) H):=by
 intro pins s σ H xs us Q I r h;obtain⟨i,j,rfl,q⟩:=h;obtain⟨u,f,rfl,⟨t,rfl⟩,⟨t',rfl⟩⟩:=vals2 r;refine max_two_ints (I.ok.hd e) λh' tk k=>⟨_,H,I.kept k,?_,q⟩;by_cases d:j > i
 ·rw[if_pos d,if_pos d];exact⟨_,rfl⟩
 ·rw[if_neg d,if_neg d];exact⟨_,rfl⟩
theorem ju (e:X.calm=true):xm X (.builtin "min") (λxs H Q=>∃i j,xs=[.int i,.int j]/\Q (.int (if j<i then j else i)) H):=by
 intro pins s σ H xs us Q I r h;obtain⟨i,j,rfl,q⟩:=h;obtain⟨u,f,rfl,⟨t,rfl⟩,⟨t',rfl⟩⟩:=vals2 r;refine min_two_ints (I.ok.hd e) λh' tk k=>⟨_,H,I.kept k,?_,q⟩;by_cases d:j<i
 ·rw[if_pos d,if_pos d];exact⟨_,rfl⟩
 ·rw[if_neg d,if_neg d];exact⟨_,rfl⟩
end
structure mq (h:Heap)(x dx C:Addr)(mA:Str->Option Value):Prop where
 obj:h.get? x=some (PySem.W.instObj C dx)
 ns:h.Ns1 dx mA
 ne:dx≠x
theorem iJ {h:Heap}{dx:Addr}{mA:Str->Option Value}(n:h.Ns1 dx mA):∃od,h.get? dx=some od/\∀name,PySem.W.lookIn name od=some (mA name):=by
 obtain⟨o,es,ep,c,hd,hk,_,hm⟩:=n;refine⟨o,c,λname=>?_⟩;have e:=hm name;unfold nsFind findBy at e;rw[<-Array.find?_toList]at e;unfold PySem.W.lookIn;rw[hd];dsimp only;split
 ·rename_i y q;rw[q]at e;exact congrArg some e
 ·rename_i q;rw[q]at e;have a:es.toList.any (·.refKey)=false:=by
   rw[List.any_eq_false];intro y hy;obtain⟨z,t,b⟩:=hk y (Array.mem_toList_iff.mp hy);simp[DictEntry.refKey,b]
  have d:¬es.toList.any (·.refKey)=true:=by rw[a];exact zL5
  rw[if_neg d];exact congrArg some e
theorem mq.look {h:Heap}{x dx C:Addr}{mA:Str->Option Value}(I:mq h x dx C mA):∃od,PySem.W.InstAt h x (PySem.W.instObj C dx) C (some od)/\∀name,PySem.W.lookIn name od=some (mA name):=
 let⟨od,ho,hl⟩:=iJ I.ns
 ⟨od,⟨I.obj,rfl,rfl,ho⟩,hl⟩
section
variable {prog:Program}{w:World}{A:Around}{E:Value->Shared->Prop}{s:Shared}{K:PySem.W.Frag}{x dx C f:Addr}{mA:Str->Option Value}{name:Str}{v:Value}
theorem get_map {expr:Bool}{Q:Value->Shared->Prop}(X:K.In s.heap)(I:mq s.heap x dx C mA)(hg:PySem.W.plainGet K C name=true)(d:PySem.W.hasDictIn K C=true)
  (ha:PySem.W.findIn K (.ref C) name=some none) (b:mA name=some v) (a:PySem.W.handedIn v=true) (h:Q v {s with toks:=s.toks+1}):
  wpAny (model prog w) A (getAttr (.ref x) name expr) Q E s:=by
 obtain⟨od,J,c⟩:=I.look;exact PySem.W.get_value X J (z43 hg).1 (PySem.W.findObj_own d ha rfl (by rw[c,b])) a h
theorem dO {pl:Sem Bool}{Q:Value×List Value->Shared->Prop}(X:K.In s.heap)(I:mq s.heap x dx C mA)(hg:PySem.W.plainGet K C name=true)
  (hf:PySem.W.findIn K (.ref C) name=some (some (.ref f))) (a:PySem.W.isFn K (.ref f)=true) (b:mA name=none) (h:Q (.ref f,[.ref x]) s):
  wpAny (model prog w) A (getMethod (.ref x) name pl) Q E s:=by
 obtain⟨od,J,c⟩:=I.look;exact PySem.W.method_fn X J (z43 hg).1 (z43 hg).2 hf (zY2.mp a) (by show(PySem.W.lookIn name od).map (·.isSome)=some false;rw[c,b];rfl) h
theorem aC {ns:List Str}{Q:Unit->Shared->Prop}(X:K.In s.heap)(I:mq s.heap x dx C mA)
  (p:PySem.W.findIn K (.ref C) "__setattr__"=some (some (.builtin "object.__setattr__"))) (o:PySem.W.plainOver K C=true) (t:PySem.W.takerIn K C name=some none) (m:PySem.W.hasDictIn K C=true)
  (hw:PySem.Within mA ns) (i:ns.length<=sizeLine)
  (h:∀h',mq h' x dx C (λy=>if y=name then some v else mA y)->Heap.SameBut dx s.heap h'->Q () {s with heap:=h',toks:=s.toks+2}):
  wpAny (model prog w) A (setAttr (.ref x) name v) Q E s:=by
 obtain⟨od,J,z⟩:=I.look;refine PySem.W.set_plain X J p (PySem.W.osa_open (s:={s with toks:=s.toks+1}) (r:=none) X J o t λb=>?_);obtain⟨cd,q,k⟩:=PySem.W.any_some m;have n:s.heap.get? x=some ⟨.ref C,some dx,.plain,#[]⟩:=I.obj;refine zI9 (zJ1 (zI9 (zI9 (wpAny_loadPart n (zI9 (PySem.W.Looks.here (s:={s with toks:=s.toks+1}) (PySem.W.looks_clsIn X q) ?_))))));rw[k];refine zJ1 (a:=some dx) (zI9 (zJ1 (zI9 ?_)));refine wpAny_nsSet1 (s:={s with toks:=s.toks+1}) I.ns λh' d c=>?_;obtain⟨oD,l,u,e,j,g⟩:=d.count (PySem.Within.cons name v hw);refine zI9 (wpAny_lookBehind e (by rw[j];exact pastItsLine_dict (zK0 g (by rw[zL8];exact Nat.add_le_add i (zJ5 _)))) ?_);exact zJ1 (h _ ⟨(c.2 _ (zN9 I.ne)).trans I.obj,d,I.ne⟩ c)
theorem dC {R:Result->Shared->Prop}{vs:List Value}{kw:List (Str×Value)}(X:K.In s.heap)(hm:PySem.W.makesIn K C=true)
  (hi:PySem.W.findIn K (.ref C) "__init__"=some (some (.ref f))) (hf:PySem.W.typeIn K (.ref f)=some (.type "function"))
  (h:codeAny (model prog w) (A.under (.builtin "type.__call__" ⟨.ref C::vs,kw⟩)) (.call (.ref f) ⟨.ref (s.heap.objs.size+1)::vs,kw⟩) (PySem.W.InitBack (s.heap.objs.size+1) R)
   {s with heap:=(s.heap.push PySem.W.emptyDict).push (PySem.W.instObj C s.heap.objs.size)}):
  codeAny (model prog w) A (.call (.ref C) ⟨vs,kw⟩) R s:=by
 obtain⟨a,g,d,t,os⟩:=s;exact PySem.W.make_core (PySem.W.makes_of X hm) (PySem.W.looks_findIn X hi) (λself=>PySem.W.bind_fn X self hf) (.inl rfl) h
end
def xu (f:Str)(v:V):List (Str×V)->List (Str×V)
 |[]=>[(f,v)]
 |(g,x)::r=>if g=f then(g,v)::r else(g,x)::xu f v r
theorem uS (f g:Str)(v:V):∀fs:List (Str×V),(xu f v fs).lookup g=if g=f then some v else fs.lookup g
 |[]=>by
  show List.lookup g [(f,v)]=_;by_cases h:g=f
  ·have hb:(g == f)=true:=zY2.mpr h;simp only[List.lookup,hb,if_pos h]
  ·have hb:(g == f)=false:=zW8.mpr h;simp only[List.lookup,hb,if_neg h]
 |(k,x)::r=>by
  have a:=uS f g v r;rw[show xu f v ((k,x)::r)=(if k=f then(k,v)::r else(k,x)::xu f v r)from rfl];by_cases hk:k=f
  ·rw[if_pos hk];by_cases h:g=k
   ·have hb:(g == k)=true:=zY2.mpr h;simp only[List.lookup,hb,if_pos (h.trans hk)]
   ·have hb:(g == k)=false:=zW8.mpr h;simp only[List.lookup,hb,if_neg (λe:g=f=>h (e.trans hk.symm))]
  ·rw[if_neg hk];by_cases h:g=k
   ·have hb:(g == k)=true:=zY2.mpr h;simp only[List.lookup,hb,if_neg (λe:g=f=>hk (h.symm.trans e))]
   ·have hb:(g == k)=false:=zW8.mpr h;simp only[List.lookup,hb];exact a
theorem uG (f:Str)(v:V):∀fs:List (Str×V),f∈(xu f v fs).map (·.1)/\∀g,g∈fs.map (·.1)->g∈(xu f v fs).map (·.1)
 |[]=>⟨by simp[xu],λg h=>by simp at h⟩
 |(k,x)::r=>by
  obtain⟨i1,i2⟩:=uG f v r;rw[show xu f v ((k,x)::r)=(if k=f then(k,v)::r else(k,x)::xu f v r)from rfl];by_cases hk:k=f
  ·rw[if_pos hk];subst hk;exact⟨by simp,λg h=>by simpa using h⟩
  ·rw[if_neg hk];refine⟨?_,λg h=>?_⟩
   ·rw[zN7];exact zJ8 _ i1
   ·rw[zN7]at h ⊢;rcases zJ6.mp h with e|e
    ·exact zJ6.mpr (.inl e)
    ·exact zJ8 _ (i2 g e)
theorem uO (f:Str)(v:V):∀fs:List (Str×V),(xu f v fs).length<=fs.length+1
 |[]=>by simp[xu]
 |(k,x)::r=>by
  have a:=uO f v r;rw[show xu f v ((k,x)::r)=(if k=f then(k,v)::r else(k,x)::xu f v r)from rfl];by_cases hk:k=f
  ·rw[if_pos hk,zL8,zL8];exact zL2 _ _
  ·rw[if_neg hk,zL8,zL8];exact Nat.add_le_add a (zJ5 _)
theorem vf.some_of {v:V}{o:Option Value}(r:vf (some v) o):∃u,o=some u/\RelV v u:=by
 cases o with
 |none=>exact(show False from r).elim
 |some u=>exact⟨u,rfl,r⟩
theorem vf.none_of {o:Option Value}(r:vf none o):o=none:=by
 cases o with
 |none=>rfl
 |some u=>exact(show False from r).elim
theorem jk {v:V}{u:Value}(r:RelV v u):PySem.W.handedIn u=true:=by
 cases v with
 |non=>cases(show u=Value.none from r);rfl
 |bl b=>cases(show u=Value.bool b from r);rfl
 |int i=>obtain⟨t,e⟩:=(show ∃t,u=Value.int i t from r);cases e;rfl
 |str x=>obtain⟨t,e⟩:=(show ∃t,u=Value.str x t from r);cases e;rfl
 |byt b=>obtain⟨t,e⟩:=(show ∃t,u=Value.bytes b t from r);cases e;rfl
 |flt b=>obtain⟨t,e⟩:=(show ∃t,u=Value.float b t from r);cases e;rfl
 |ref a=>cases(show u=Value.ref a from r);rfl
 |ty n=>cases(show u=Value.type n from r);rfl
section
variable {P:Program}{w:World}{H H':Hp}{h h':Heap}{a C dx:Addr}{fs fs':List (Str×V)}
theorem tu (hok:HOk P w H h)(e:H a=some (.ins C dx fs)):∃mA,mq h a dx C mA/\(∀f,vf (fs.lookup f) (mA f))/\PySem.Within mA (fs.map (·.1))/\fs.length<=1000/\H dx=some (.own a):=by
 obtain⟨d,z,ne,ob,mA,n,r,q⟩:=(show zP P w H h a (.ins C dx fs)from hok a _ e);exact⟨mA,⟨ob,n,ne⟩,r,q,z,d⟩
end
structure Cls (K:PySem.W.Frag)(C:Addr):Prop where
 pg:PySem.W.plainGet K C Str.empty=true
 hd:PySem.W.hasDictIn K C=true
 po:PySem.W.plainOver K C=true
 sa:PySem.W.findIn K (.ref C) "__setattr__"=some (some (.builtin "object.__setattr__"))
theorem Cls.get {K:PySem.W.Frag}{C:Addr}(c:Cls K C)(f:Str):PySem.W.plainGet K C f=true:=c.pg
def yu (K:PySem.W.Frag)(C:Addr)(f:Str):Prop:=PySem.W.findIn K (.ref C) f=some none
theorem yu.taker {K:PySem.W.Frag}{C:Addr}{f:Str}(n:yu K C f):PySem.W.takerIn K C f=some none:=by
 unfold PySem.W.takerIn;rw[show PySem.W.findIn K (.ref C) f=some none from n];rfl
structure Meth (K:PySem.W.Frag)(C:Addr)(m:Str)(f:Addr):Prop where
 at_:PySem.W.findIn K (.ref C) m=some (some (.ref f))
 fn:PySem.W.isFn K (.ref f)=true
 kp:PySem.W.keepIn K (.ref f)=true
section
variable {X:Cx}{pins:List (Addr×Obj)}{σ:St}{H:Hp}{s:Shared}{a C dx:Addr}{fs:List (Str×V)}{f:Str}{v:V}{A:Around}{E:Value->Shared->Prop}
theorem mE {b:Bool}{Q:Value->Shared->Prop}(I:Inv X pins σ H s)(e:H a=some (.ins C dx fs))(c:Cls X.K C)(n:yu X.K C f)(l:fs.lookup f=some v)
  (h:∀u s',Inv X pins σ H s'->RelV v u->Q u s'):wpAny (model X.prog X.w) A (getAttr (.ref a) f b) Q E s:=by
 obtain⟨mA,O,r,_,_,_⟩:=tu I.hok e;obtain⟨u,g,d⟩:=vf.some_of (v:=v) (o:=mA f) (by rw[<-l];exact r f);exact get_map I.kIn O (c.get f) c.hd n g (jk d) (h u _ (I.tok _) d)
theorem vH {m:Str}{g:Addr}{pl:Sem Bool}{Q:Value×List Value->Shared->Prop}(I:Inv X pins σ H s)(e:H a=some (.ins C dx fs))(c:Cls X.K C)(k:Meth X.K C m g)(l:fs.lookup m=none)
  (h:Q (.ref g,[.ref a]) s):wpAny (model X.prog X.w) A (getMethod (.ref a) m pl) Q E s:=by
 obtain⟨mA,O,r,_,_,_⟩:=tu I.hok e;have hn:mA m=none:=vf.none_of (by rw[<-l];exact r m);exact dO I.kIn O (c.get m) k.at_ k.fn hn h
theorem ll {y:V}{u:Value}{Q:Unit->Shared->Prop}(I:Inv X pins σ H s)(e:H a=some (.ins C dx fs))(c:Cls X.K C)(n:yu X.K C f)(k:fs.length<1000)(l:RelV y u)
  (h:∀s',Inv X pins σ (upd H a (.ins C dx (xu f y fs))) s'->Q () s'):wpAny (model X.prog X.w) A (setAttr (.ref a) f u) Q E s:=by
 obtain⟨mA,O,r,i,_,j⟩:=tu I.hok e;have hz:(fs.map (·.1)).length<=sizeLine:=by rw[zJ3,zP6];lia
 refine aC I.kIn O c.sa c.po n.taker c.hd i hz λh' d sb=>h _ ?_;have hd:∃o,h'.get? dx=some o:=let⟨o,_,_,e',_⟩:=d.ns;⟨o,e'⟩;refine I.write (x:=a) (e:=dx) (by rw[e];exact True.intro) (.inr j) (λb q hb z=>(sb.2 b hb).trans z) hd ?_;refine⟨by rw[zg O.ne];exact j,?_,O.ne,d.obj,_,d.ns,λg=>?_,λg hg=>?_⟩
 ·have:=uO f y fs;exact zK0 this k
 ·show vf ((xu f y fs).lookup g) (if g=f then some u else mA g);rw[uS];by_cases q:g=f
  ·rw[if_pos q,if_pos q];exact l
  ·rw[if_neg q,if_neg q];exact r g
 ·by_cases q:g=f
  ·rw[q];exact(uG f y fs).1
  ·refine(uG f y fs).2 g (i g λz=>hg ?_);show(if g=f then some u else mA g)=none;rw[if_neg q];exact z
theorem Inv.made (I:Inv X pins σ H s):Inv X pins σ (upd (upd H s.heap.objs.size (.own (s.heap.objs.size+1))) (s.heap.objs.size+1) (.ins C s.heap.objs.size []))
  {s with heap:=(s.heap.push PySem.W.emptyDict).push (PySem.W.instObj C s.heap.objs.size)}:=by
 have e1:(s.heap.push PySem.W.emptyDict).get? s.heap.objs.size=some PySem.W.emptyDict:=zK2 s.heap rfl;have c:((s.heap.push PySem.W.emptyDict).push (PySem.W.instObj C s.heap.objs.size)).get? (s.heap.objs.size+1)=some (PySem.W.instObj C s.heap.objs.size):=by
  have:=zK2 (s.heap.push PySem.W.emptyDict) (o:=PySem.W.instObj C s.heap.objs.size) rfl
  rwa [zQ6]at this
 have d:(s.heap.push PySem.W.emptyDict).Ns s.heap.objs.size (λ_=>none):=⟨PySem.W.emptyDict,#[],_,e1,rfl,(λe he=>absurd he (by simp)),λ_=>rfl⟩;have g:=I.laid (a:=s.heap.objs.size) (o:=.own (s.heap.objs.size+1)) (h':=s.heap.push PySem.W.emptyDict) (t':=s.toks) (λb u q=>zJ0 _ q) (zJ5 _) ⟨_,e1⟩;refine g.laid (a:=s.heap.objs.size+1) (o:=.ins C s.heap.objs.size []) (t':=s.toks) (λb u q=>zJ0 _ q) (zL0 (zQ6 _ _)) ?_;have ne:s.heap.objs.size≠s.heap.objs.size+1:=zK9 (zP2 _);refine⟨by rw[zg ne,zl],zK7 _,ne,c,λ_=>none,(Heap.Ns1.of_empty d).at λo q=>zJ0 _ q,λ_=>True.intro,λy hy=>absurd rfl hy⟩
theorem bR {prog:Program}{w:World}{env:Env}{e:Expr}{f:Str}{pos:Pos}{s:Shared}{Q:Value->Shared->Prop}(hb:attributeBase e f env (eval e env)=eval e env)
  (h:wpAny (model prog w) A (eval e env) (λo b=>wpAny (model prog w) A (getAttr o f true) Q E b) E s):wpAny (model prog w) A (eval (.Attribute e f pos) env) Q E s:=
 Attribute_any_ h (by rw[arm_eval_Attribute,hb])
end
def zG2 (K:PySem.W.Frag)(b:TE)(f:Str):TE:=λσ H Q=>b σ H λx H1=>∃a C dx fs v,x=.ref a/\H1 a=some (.ins C dx fs)/\Cls K C/\yu K C f/\fs.lookup f=some v/\Q v H1
def zF8 (K:PySem.W.Frag)(d c:TE)(f:Str):TS:=λD σ H=>c σ H λy H1=>d σ H1 λx b=>∃a C dx fs,x=.ref a/\b a=some (.ins C dx fs)/\Cls K C/\yu K C f/\fs.length<1000/\
 D.nx σ (upd b a (.ins C dx (xu f y fs)))
section
variable {X:Cx}{o e value:Expr}{f:Str}{pos pos' tpos:Pos}{ta tv:TE}
theorem zu4 (he:PE X e ta)(hb:attributeBase e f X.env (eval e X.env)=eval e X.env):PE X (.Attribute e f pos) (zG2 X.K ta f):=by
 intro pins s σ H Q I h;refine bR hb (thn (he pins s σ H _ I h) λu s1 b=>?_);obtain⟨x,H1,i,d,a,C,dx,fs,v,ex,j,c,n,l,q⟩:=b;subst ex;obtain rfl:u=Value.ref a:=d;exact mE i j c n l λm s2 k g=>⟨v,H1,k,g,q⟩
theorem pd (ha:PE X o ta)(p:PE X value tv)(m:swapsWith value (some (.Attribute o f pos')) pos.line X.env=pure false):PS X (.Assign [.Attribute o f pos'] value pos) (zF8 X.K ta tv f):=by
 intro pins s σ H D I h;refine plainObj_wpAny_Assign_Attribute (thn (p pins s σ H _ I h) λu s1 ⟨y,H1,d,r,q⟩=>thn (ha pins s1 σ H1 _ d q) λi s2 ⟨x,v,t,b,a,C,dx,fs,ex,g,c,n,l,j⟩=>?_) m;subst ex;obtain rfl:i=Value.ref a:=b;exact ll t g c n l r λs3 k=>⟨σ,_,k,j⟩
theorem zd9 {pl:Sem Bool}{m:Str}{apos:Pos}{args:List Expr}{pins:List (Addr×Obj)}{s:Shared}{σ:St}{H:Hp}{Q:Value->Shared->Prop}{i:TE}(he:PE X e i)(I:Inv X pins σ H s)
  (h:i σ H λx H1=>∃a C dx fs g,x=.ref a/\H1 a=some (.ins C dx fs)/\Cls X.K C/\Meth X.K C m g/\fs.lookup m=none/\
   ∀s1,Inv X pins σ H1 s1->wpAny (model X.prog X.w) X.A (callWith pos (.ref g) [.ref a] (backTo pos (starEach args X.env)) (backToKw pos (keywordEach [] X.env))) Q X.xe s1)
  (p:eval (.Call (.Attribute e m apos) args [] pos) X.env=(do
   let ov <-eval e X.env
   standAt apos.atName
   let(f,first) <-holding [ov] (getMethod ov m pl)
   callWith pos f first (backTo pos (starEach args X.env)) (backToKw pos (keywordEach [] X.env)))):
  wpAny (model X.prog X.w) X.A (eval (.Call (.Attribute e m apos) args [] pos) X.env) Q X.xe s:=by
 refine z33 (pl:=pl) (thn (he pins s σ H _ I h) λu s1 b=>?_) p;obtain⟨x,H1,d,j,a,C,dx,fs,g,ex,n,c,k,l,q⟩:=b;subst ex;obtain rfl:u=Value.ref a:=j;exact vH d n c k l (q s1 d)
end
section
variable {X:Cx}{pins:List (Addr×Obj)}{σ:St}{H:Hp}{s:Shared}{A:Around}{E:Value->Shared->Prop}{Q:Value->Shared->Prop}{c:Value}{b:Bool}
inductive vK (K:PySem.W.Frag)(H:Hp):V->Value->Prop where
 |non:vK K H .non (.type "NoneType")
 |bl (x:Bool):vK K H (.bl x) (.type "bool")
 |int (i:Int):vK K H (.int i) (.type "int")
 |str (x:Str):vK K H (.str x) (.type "str")
 |flt (x:UInt64):vK K H (.flt x) (.type "float")
 |lst {a:Addr}{xs:List V} (e:H a=some (.lst xs)):vK K H (.ref a) (.type "list")
 |frz {a:Addr}{o:Obj}{xs:List V} (e:H a=some (.frz o (.lst xs))):vK K H (.ref a) (.type "list")
 |tup {a:Addr}{xs:List V} (e:H a=some (.tup xs)):vK K H (.ref a) (.type "tuple")
 |dK {a:Addr}{kvs:List (Key×V)} (e:H a=some (.dK kvs)):vK K H (.ref a) (.type "dict")
 |dT {a:Addr}{kvs:List (List Key×V)} (e:H a=some (.dT kvs)):vK K H (.ref a) (.type "dict")
 |ins {a C dx:Addr}{fs:List (Str×V)} (e:H a=some (.ins C dx fs)) (cl:Cls K C) (ha:PySem.W.findIn K (.ref C) "__class__"=some (some (.builtin "object.__class__")))
   (hn:PySem.W.specialIn K (.builtin "object.__class__") "__get__"=some (some (.builtin "getset_descriptor.__get__"))) (htk:PySem.W.takesIn K (.builtin "object.__class__")=some true)
   (hm:PySem.W.mroIn K C (.type "object")=some true):vK K H (.ref a) (.ref C)
theorem iw {x:V}{u t:Value}(I:Inv X pins σ H s)(d:RelV x u)(ty:vK X.K H x t)(e:PySem.W.kitOne X.K t c=some b)(h:∀tk,Q (.bool b) {s with toks:=tk}):
  wpAny (model X.prog X.w) A (call (.builtin "isinstance") [u,c]) Q E s:=by
 cases ty with
 |non=>cases(show u=Value.none from d);exact zQ7 PySem.W.kitx_none I.kIn True.intro e (λz=>nomatch z) h
 |bl y=>cases(show u=Value.bool y from d);exact zQ7 PySem.W.kitx_bool I.kIn True.intro e (λz=>nomatch z) h
 |int i=>obtain⟨t,q⟩:=(show ∃t,u=Value.int i t from d);cases q;exact zQ7 PySem.W.kitx_int I.kIn True.intro e (λz=>nomatch z) h
 |str y=>obtain⟨t,q⟩:=(show ∃t,u=Value.str y t from d);cases q;exact zQ7 PySem.W.kitx_str I.kIn True.intro e (λz=>nomatch z) h
 |flt y=>obtain⟨t,q⟩:=(show ∃t,u=Value.float y t from d);cases q;exact zQ7 PySem.W.kitx_float I.kIn True.intro e (λz=>nomatch z) h
 |@lst a xs ea=>
  cases(show u=Value.ref a from d);obtain⟨_,_,n,_,f⟩:=(show zP X.prog X.w H s.heap a (.lst xs)from I.hok a _ ea);exact zQ7 PySem.W.kitx_list I.kIn ⟨_,f,rfl⟩ e (λz=>nomatch z) h
 |@frz a ob xs ea=>
  cases(show u=Value.ref a from d);obtain⟨_,_,_,n,_,f⟩:=(show zP X.prog X.w H s.heap a (.frz ob (.lst xs))from I.hok a _ ea);exact zQ7 PySem.W.kitx_list I.kIn ⟨_,f,rfl⟩ e (λz=>nomatch z) h
 |@tup a xs ea=>
  cases(show u=Value.ref a from d);obtain⟨_,_,_,p⟩:=(show zP X.prog X.w H s.heap a (.tup xs)from I.hok a _ ea);obtain⟨o,f,g,_⟩:=p;exact zQ7 PySem.W.kitx_tuple I.kIn ⟨o,f,g⟩ e (λz=>nomatch z) h
 |@dK a kvs ea=>
  cases(show u=Value.ref a from d);obtain⟨_,_,vs,_,p⟩:=(show zP X.prog X.w H s.heap a (.dK kvs)from I.hok a _ ea);obtain⟨o,es,ep,f,g,_⟩:=p;exact zQ7 PySem.W.kitx_dict I.kIn ⟨o,f,g.1⟩ e (λz=>nomatch z) h
 |@dT a kvs ea=>
  cases(show u=Value.ref a from d);obtain⟨_,_,xs,_,o,es,ep,f,g,_⟩:=(show zP X.prog X.w H s.heap a (.dT kvs)from I.hok a _ ea);exact zQ7 PySem.W.kitx_dict I.kIn ⟨o,f,g.1⟩ e (λz=>nomatch z) h
 |@ins a C dx fs ea cl ha hn htk hm=>
  cases(show u=Value.ref a from d);obtain⟨mA,O,_⟩:=tu I.hok ea;obtain⟨od,J,_⟩:=O.look;exact zQ7 (PySem.W.kitx_own (cl.get _) cl.hd ha hn htk hm) I.kIn J e (λz=>nomatch z) h
end
structure zK (k:Nat)(A:Around):Prop where
 hd:A.handled=none
 dp:A.depth+3*k+5<recursionLimit
 un:A.units+16*k+200<cLine
 gd:A.guards=some []
theorem zK.mono {j k:Nat}{A:Around}(r:zK k A)(h:j<=k):zK j A:=⟨r.hd,by have:=r.dp;lia,by have:=r.un;lia,r.gd⟩
theorem zK.deeper {k:Nat}{A:Around}(r:zK (k+1) A)(env:Env):zK k (A.deeper env):=
 ⟨r.hd,by have:=r.dp;show A.depth+1+3*k+5<_;exact zi1 this,by have:=r.un;show A.units+3+16*k+200<_;lia,r.gd⟩
theorem zK.in1 {k:Nat}{A:Around}(r:zK (k+1) A):zK k A.in1:=
 ⟨r.hd,by have:=r.dp;show A.depth+3*k+5<_;lia,by have:=r.un;show A.units+1+16*k+200<_;exact zf8 this,r.gd⟩
theorem ma {A:Around}{C:Addr}{us:List Value}{kw:List (Str×Value)}:(A.under (.builtin "type.__call__" ⟨.ref C::us,kw⟩)).depth=A.depth+1:=by
 first|rfl|simp[Around.under,Code.weight,Code.isCreation,Code.isGuard,Code.isCaller,Code.frames,Code.isFrame,guardIds]
theorem nY {A:Around}{C:Addr}{us:List Value}{kw:List (Str×Value)}:(A.under (.builtin "type.__call__" ⟨.ref C::us,kw⟩)).units=A.units+1:=by
 first|rfl|simp[Around.under,Code.cUnits,Code.frames,Code.isFrame]
theorem oU {A:Around}{C:Addr}{us:List Value}{kw:List (Str×Value)}:(A.under (.builtin "type.__call__" ⟨.ref C::us,kw⟩)).guards=A.guards:=by
 first|rfl|simp[Around.under,Code.guards,Code.isGuard,guardIds,pushGuards]
theorem zK.make {k:Nat}{A:Around}(r:zK (k+1) A)(C:Addr)(us:List Value)(kw:List (Str×Value)):zK k (A.under (.builtin "type.__call__" ⟨.ref C::us,kw⟩)):=
 ⟨r.hd,by have:=r.dp;rw[ma];exact zi1 this,by have:=r.un;rw[nY];exact zf8 this,(oU (A:=A)).trans r.gd⟩
theorem zK.depth {k:Nat}{A:Around}(r:zK k A):A.depth<recursionLimit:=by have:=r.dp;exact zL4 (zL2 _ _) (zL4 (zL2 _ _) this)
theorem zK.units {k:Nat}{A:Around}(r:zK k A):A.units+64<cLine:=by have:=r.un;lia
def zA7 :TA:=λ_ H Q=>Q [] H
def zC5 (b:TE)(tr:TA):TA:=λσ H Q=>b σ H λx H1=>tr σ H1 λxs a=>Q (x::xs) a
section
variable {X:Cx}{e:Expr}{es:List Expr}{te:TE}{t:TA}{pos:Pos}
theorem ye :PA X [] zA7:=λ_ _ _ _ H Q I h=>Calls.spliced_nil ⟨[],H,I,.nil,h⟩
theorem zB (ha:PE X e te)(hr:PA X es t)(i:starEach (e::es) X.env=(false,eval e X.env)::starEach es X.env:=by rfl):PA X (e::es) (zC5 te t):=by
 intro pos pins s σ H Q I h;rw[i];show wpAny _ _ (spliced ((false,eval e X.env)::backTo pos (starEach es X.env))) _ _ s;refine Calls.spliced_cons (thn (ha pins s σ H _ I h) λu s1 a=>?_);obtain⟨x,H1,d,j,c⟩:=a;exact thn (hr pos pins s1 σ H1 _ d c) λus s2 b=>by obtain⟨xs,l,k,g,f⟩:=b;exact⟨x::xs,l,k,.cons j g,f⟩
def zG9 (t:TA):TE:=λσ H Q=>t σ H λxs H1=>xs.length<=sizeLine/\∀p,H1 p=none->Q (.ref p) (upd H1 p (.tup xs))
def zG7 (t:TA):TE:=λσ H Q=>t σ H λxs H1=>xs.length<=sizeLine/\∀p,H1 p=none->Q (.ref p) (upd H1 p (.lst xs))
theorem cK {x1}(h:PA X es t):PE X (.Tuple es x1 pos) (zG9 t):=by
 intro pins s σ H Q I hq;refine wpAny_Tuple_spliced (thn (h pos pins s σ H _ I hq) λus s1 ⟨xs,H1,a,r,z,q⟩=>⟨by rw[<-r.length];exact z,?_⟩);have hf:H1 s1.heap.objs.size=none:=a.hok.fresh (zJ5 _);refine⟨.ref s1.heap.objs.size,upd H1 s1.heap.objs.size (.tup xs),a.laid (t':=s1.toks) (λb u e=>zJ0 _ e) (zJ5 _) ?_,rfl,q _ hf⟩;exact⟨z,us,r,⟨_,zK2 _ rfl,rfl,_,rfl⟩⟩
theorem gX (h:PA X es t):PE X (.List es pos) (zG7 t):=by
 intro pins s σ H Q I hq;refine wpAny_List_spliced (thn (h pos pins s σ H _ I hq) λus s1 ⟨xs,H1,a,r,z,q⟩=>⟨by rw[<-r.length];exact z,?_⟩);have hf:H1 s1.heap.objs.size=none:=a.hok.fresh (zJ5 _);refine⟨.ref s1.heap.objs.size,upd H1 s1.heap.objs.size (.lst xs),a.laid (t':=s1.toks) (λb u e=>zJ0 _ e) (zJ5 _) ?_,rfl,q _ hf⟩;exact⟨z,us,0,r,zK2 _ rfl⟩
end
abbrev Sp :=List V->Hp->VK->XK->Prop
abbrev CXT :=List Env->Hp->Shared->XK->Value->Shared->Prop
structure uq (P:Program)(w:World)(K:PySem.W.Frag)(mg:Str->Option Value)(base:Heap)(A:Around)(outer:List Env)(s:Shared)(H:Hp):Prop where
 frames:A.frames=some outer
 mod:Mod K mg base
 bs:∀b o,base.get? b=some o->s.heap.get? b=some o/\H b=none
 bsz:base.objs.size<=s.heap.objs.size
 funs:s.heap.FunFrames base outer
 frf:∀b∈frs outer,H b=none
 hok:HOk P w H s.heap
 bare:AllBare s.gens
def CE (outer:List Env)(P:Program)(w:World)(H:Hp)(s:Shared)(Q:VK)(u:Value)(s':Shared):Prop:=
 ∃v H',s'.os=s.os/\AllBare s'.gens/\Un (frs outer) [] H H' s.heap s'.heap/\HOk P w H' s'.heap/\RelV v u/\Q v H'
def CR (CX:CXT)(outer:List Env)(P:Program)(w:World)(H:Hp)(s:Shared)(Q:VK)(E:XK)(r:Result)(s':Shared):Prop:=
 match r with
 |.ok (.ret u)=>CE outer P w H s Q u s'
 |.ok _=>False
 |.error e=>CX outer H s E e s'
structure yD (P:Program)(w:World)(K:PySem.W.Frag)(mg:Str->Option Value)(base:Heap)(CX:CXT)(k:Nat)(f:Addr)(fd:FuncData)(ps:List Str)(sp:Sp):Prop where
 len:∀vs H Q E,sp vs H Q E->vs.length=ps.length
 run:∀(A:Around) (outer:List Env) (s:Shared) (H:Hp) (args:Args) (us:List Value) (vs:List V) (Q:VK) (E:XK),zK k A->uq P w K mg base A outer s H->BindsTo s fd args (ps.zip us)->Vals vs us->sp vs H Q E->
  codeAny (model P w) A (.call (.ref f) args) (CR CX outer P w H s Q E) s
theorem yD.imp {P:Program}{w:World}{K:PySem.W.Frag}{mg:Str->Option Value}{base:Heap}{CX:CXT}{k:Nat}{f:Addr}{fd:FuncData}{ps:List Str}{sp a:Sp}(F:yD P w K mg base CX k f fd ps sp)
  (h:∀vs H Q E,a vs H Q E->sp vs H Q E):yD P w K mg base CX k f fd ps a:=
 ⟨λvs H Q E q=>F.len vs H Q E (h _ _ _ _ q),λA outer s H args us vs Q E hr he hb c b=>F.run A outer s H args us vs Q E hr he hb c (h _ _ _ _ b)⟩
theorem uq.make {P:Program}{w:World}{K:PySem.W.Frag}{mg:Str->Option Value}{base:Heap}{A:Around}{outer:List Env}{s:Shared}{H:Hp}(e:uq P w K mg base A outer s H)(C:Addr)(us:List Value)(kw:List (Str×Value)):
  uq P w K mg base (A.under (.builtin "type.__call__" ⟨.ref C::us,kw⟩)) outer s H:=⟨by first|exact e.frames|(simpa[Around.under,Code.envs,Code.isFrame,pushEnvs]using e.frames),e.mod,e.bs,e.bsz,e.funs,e.frf,e.hok,e.bare⟩
theorem uq.in1 {P:Program}{w:World}{K:PySem.W.Frag}{mg:Str->Option Value}{base:Heap}{A:Around}{outer:List Env}{s:Shared}{H:Hp}(e:uq P w K mg base A outer s H):
  uq P w K mg base A.in1 outer s H:=⟨e.frames,e.mod,e.bs,e.bsz,e.funs,e.frf,e.hok,e.bare⟩
section
variable {X:Cx}{pins:List (Addr×Obj)}{σ:St}{H:Hp}{s s':Shared}
theorem Inv.env0 (I:Inv X pins σ H s):uq X.prog X.w X.K X.mg X.base X.A X.stack s H:=
 ⟨I.ok.frames,I.ok.mod,I.bs,zK0 I.ok.bsz I.sz,I.stack,I.stkFree,I.hok,I.bare⟩
theorem Inv.after {Q:VK}{u:Value}(I:Inv X pins σ H s)(h:CE X.stack X.prog X.w H s Q u s'):EP X pins σ Q u s':=by
 obtain⟨v,H',os,bare,un,hok,r,q⟩:=h;obtain⟨c,g,d,t,a⟩:=s';obtain rfl:a=s.os:=os;exact⟨v,H',I.call (h':=c) (g':=g) (d':=d) (t':=t) (ch:=[]) un hok bare (λb z=>absurd z (by simp)),r,q⟩
end
def zx9 (sp:Sp)(dvs:List V)(E:XK)(t:TA):TE:=λσ H Q=>t σ H λvs H1=>sp (vs++dvs) H1 Q E
def zi5 (C:Addr)(m:Str)(sp:Sp)(dvs:List V)(E:XK)(c:TE)(t:TA):TE:=λσ H Q=>c σ H λx H1=>∃a dx fs,x=.ref a/\H1 a=some (.ins C dx fs)/\fs.lookup m=none/\
 t σ H1 λvs b=>sp (x::(vs++dvs)) b Q E
def zC0 (C:Addr)(sp:Sp)(dvs:List V)(E:XK)(t:TA):TE:=λσ H Q=>t σ H λvs H1=>∀x dx,H1 x=none->H1 dx=none->dx≠x->
 sp (.ref x::(vs++dvs)) (upd (upd H1 dx (.own x)) x (.ins C dx [])) (λv a=>v=.non/\Q (.ref x) a) E
def Binds (K:PySem.W.Frag)(fd:FuncData)(ps:List Str)(ds:List Value):Prop:=
 ∀(s:Shared) (us:List Value),K.In s.heap->(us++ds).length=ps.length->BindsTo s fd ⟨us,[]⟩ (ps.zip (us++ds))
theorem Binds.all {K:PySem.W.Frag}{fd:FuncData}{ps:List Str}(h:∀us:List Value,us.length=ps.length->bindArgs fd ⟨us,[]⟩=pure (ps.zip us)):Binds K fd ps []:=λs us _ a=>by
 rw[zQ3]at a ⊢;exact .of_eq (h us a)
def Passes (CX:CXT)(X:Cx)(E:XK):Prop:=∀(pins:List (Addr×Obj)) (σ:St) (H:Hp) (s:Shared) (e:Value) (s':Shared),Inv X pins σ H s->CX X.stack H s E e s'->X.xe e s'
section
variable {X:Cx}{CX:CXT}{k:Nat}{f C:Addr}{fd:FuncData}{ps:List Str}{sp:Sp}{dvs:List V}{ds:List Value}{E:XK}{x m:Str}{p pos apos:Pos}{e o:Expr}{es:List Expr}{ta:TE}{t:TA}
theorem nL {pins:List (Addr×Obj)}{σ:St}{H:Hp}{s:Shared}{Q:VK}{us:List Value}{vs:List V}(F:yD X.prog X.w X.K X.mg X.base CX k f fd ps sp)(hr:zK k X.A)(hb:Binds X.K fd ps ds)(hd:Vals dvs ds)(b:Passes CX X E)
  (I:Inv X pins σ H s) (r:Vals vs us) (h:sp (vs++dvs) H Q E):wpAny (model X.prog X.w) X.A (call (.ref f) us) (EP X pins σ Q) X.xe s:=by
 have a:Vals (vs++dvs) (us++ds):=r.append hd;have c:(us++ds).length=ps.length:=by rw[<-a.length];exact F.len _ _ _ _ h
 refine wpAny_call (zX8 (F.run X.A X.stack s H ⟨us,[]⟩ (us++ds) (vs++dvs) Q E hr I.env0 (hb s us I.kIn c) a h) λr s' hq=>?_);cases r with
 |error e=>exact b pins σ H s e s' I hq
 |ok d=>
  cases d with
  |ret u=>exact I.after hq
  |next=>exact False.elim hq
  |brk=>exact False.elim hq
  |cont=>exact False.elim hq
theorem lH (F:yD X.prog X.w X.K X.mg X.base CX k f fd ps sp)(hr:zK k X.A)(hg:Gl X x)(hm:X.mg x=some (.ref f))(hk:PySem.W.keepIn X.K (.ref f)=true)(hb:Binds X.K fd ps ds)(hd:Vals dvs ds)(d:Passes CX X E)
  (ha:PA X (e::es) t) (b:(x == ("__debug__":Str))=false:=by decide) (he:starEach (e::es) X.env=(false,eval e X.env)::starEach es X.env:=by rfl) (hpl:(backTo pos (starEach es X.env)).any (·.1)=false:=by rfl):
  PE X (.Call (.Name x p) (e::es) [] pos) (zx9 sp dvs E t):=by
 intro pins s σ H Q I h;refine zX5 (tE I hg hm ?_ b);refine z46 (h₀:=X.base) I.ok.mod.kin hk (thn (ha pos pins s σ H _ I h) λus s1 a=>?_) he hpl;obtain⟨vs,H1,c,r,q⟩:=a;refine⟨c.kIn,?_⟩;exact nL F hr hb hd d c r q
theorem aZ {pl:Sem Bool}(he:PE X o ta)(c:Cls X.K C)(hm:Meth X.K C m f)(F:yD X.prog X.w X.K X.mg X.base CX k f fd ps sp)(hr:zK k X.A)(hb:Binds X.K fd ps ds)(hd:Vals dvs ds)(y:Passes CX X E)(ha:PA X (e::es) t)
  (g:starEach (e::es) X.env=(false,eval e X.env)::starEach es X.env:=by rfl) (hpl:(backTo pos (starEach es X.env)).any (·.1)=false:=by rfl)
  (B:eval (.Call (.Attribute o m apos) (e::es) [] pos) X.env=(do
   let ov <-eval o X.env
   standAt apos.atName
   let(f,first) <-holding [ov] (getMethod ov m pl)
   callWith pos f first (backTo pos (starEach (e::es) X.env)) (backToKw pos (keywordEach [] X.env))):=by rfl):
  PE X (.Call (.Attribute o m apos) (e::es) [] pos) (zi5 C m sp dvs E ta t):=by
 intro pins s σ H Q I h;refine z33 (pl:=pl) (thn (he pins s σ H _ I h) λu s1 d=>?_) B;obtain⟨x,H1,i,n,a,dx,fs,ex,v,l,q⟩:=d;subst ex;obtain rfl:u=Value.ref a:=n;refine vH i v c hm l ?_;refine z46 (first:=[.ref a]) (h₀:=X.base) I.ok.mod.kin hm.kp (thn (ha pos pins s1 σ H1 _ i q) λus s2 b=>?_) g hpl;obtain⟨vs,D,j,r,z⟩:=b;refine⟨j.kIn,?_⟩;exact nL (us:=.ref a::us) (vs:=.ref a::vs) F hr hb hd y j (.cons rfl r) z
theorem eV {pl:Sem Bool}(he:PE X o ta)(c:Cls X.K C)(hm:Meth X.K C m f)(F:yD X.prog X.w X.K X.mg X.base CX k f fd ps sp)(hr:zK k X.A)(hb:Binds X.K fd ps ds)(hd:Vals dvs ds)(j:Passes CX X E)
  (n:eval (.Call (.Attribute o m apos) [] [] pos) X.env=(do
   let ov <-eval o X.env
   standAt apos.atName
   let(f,first) <-holding [ov] (getMethod ov m pl)
   callWith pos f first (backTo pos (starEach [] X.env)) (backToKw pos (keywordEach [] X.env))):=by rfl):
  PE X (.Call (.Attribute o m apos) [] [] pos) (zi5 C m sp dvs E ta zA7):=by
 intro pins s σ H Q I h;refine z33 (pl:=pl) (thn (he pins s σ H _ I h) λu s1 b=>?_) n;obtain⟨x,H1,d,g,a,dx,fs,ex,i,l,q⟩:=b;subst ex;obtain rfl:u=Value.ref a:=g;refine vH d i c hm l ?_;exact PySem.W.callWith_K0 (first:=[.ref a]) d.kIn hm.kp (nL (us:=[.ref a]) (vs:=[.ref a]) F hr hb hd j d (.cons rfl .nil) q)
structure Mk (K:PySem.W.Frag)(C f:Addr):Prop where
 makes:PySem.W.makesIn K C=true
 init:PySem.W.findIn K (.ref C) "__init__"=some (some (.ref f))
 fn:PySem.W.isFn K (.ref f)=true
 kp:PySem.W.keepIn K (.ref C)=true
theorem fk {pins:List (Addr×Obj)}{σ:St}{H:Hp}{s:Shared}{Q:VK}{us:List Value}{vs:List V}(M:Mk X.K C f)(F:yD X.prog X.w X.K X.mg X.base CX k f fd ps sp)(hr:zK (k+1) X.A)(hb:Binds X.K fd ps ds)(hd:Vals dvs ds)
  (g:Passes CX X E) (I:Inv X pins σ H s) (r:Vals vs us)
  (h:∀x dx,H x=none->H dx=none->dx≠x->sp (.ref x::(vs++dvs)) (upd (upd H dx (.own x)) x (.ins C dx [])) (λv j=>v=.non/\Q (.ref x) j) E):
  wpAny (model X.prog X.w) X.A (call (.ref C) us) (EP X pins σ Q) X.xe s:=by
 have hq:=h (s.heap.objs.size+1) s.heap.objs.size (I.hok.fresh (zT8 _)) (I.hok.fresh (zJ5 _)) (zK9 (zP2 _));have b:=Inv.made (C:=C) I;have c:Vals (V.ref (s.heap.objs.size+1)::(vs++dvs)) (Value.ref (s.heap.objs.size+1)::(us++ds)):=.cons rfl (r.append hd);have i:(Value.ref (s.heap.objs.size+1)::us++ds).length=ps.length:=by
  have e:=c.length;rw[F.len _ _ _ _ hq]at e;exact e.symm
 refine wpAny_call (dC (f:=f) I.kIn M.makes M.init (zY2.mp M.fn) (zX8 (F.run _ X.stack _ _ ⟨Value.ref (s.heap.objs.size+1)::us,[]⟩ (Value.ref (s.heap.objs.size+1)::(us++ds)) _ _ E (hr.make C us [])
  (b.env0.make C us []) (hb _ (Value.ref (s.heap.objs.size+1)::us) b.kIn i) c hq) λr s' a=>?_))
 cases r with
 |error e=>exact g pins σ _ _ e s' b a
 |ok q=>
  cases q with
  |ret u=>
   obtain⟨v,H',n,d,ev,l⟩:=b.after a;subst ev;exact⟨d,⟨V.ref (s.heap.objs.size+1),H',n,rfl,l⟩⟩
  |next=>exact False.elim a
  |brk=>exact False.elim a
  |cont=>exact False.elim a
theorem bL (M:Mk X.K C f)(F:yD X.prog X.w X.K X.mg X.base CX k f fd ps sp)(hr:zK (k+1) X.A)(hg:Gl X x)(hm:X.mg x=some (.ref C))(hb:Binds X.K fd ps ds)(hd:Vals dvs ds)(d:Passes CX X E)
  (ha:PA X (e::es) t) (b:(x == ("__debug__":Str))=false:=by decide) (he:starEach (e::es) X.env=(false,eval e X.env)::starEach es X.env:=by rfl) (hpl:(backTo pos (starEach es X.env)).any (·.1)=false:=by rfl):
  PE X (.Call (.Name x p) (e::es) [] pos) (zC0 C sp dvs E t):=by
 intro pins s σ H Q I h;refine zX5 (tE I hg hm ?_ b);refine z46 (h₀:=X.base) I.ok.mod.kin M.kp (thn (ha pos pins s σ H _ I h) λus s1 a=>?_) he hpl;obtain⟨vs,H1,c,r,q⟩:=a;refine⟨c.kIn,?_⟩;exact fk M F hr hb hd d c r q
end
section
variable {X:Cx}{CX:CXT}{k:Nat}{f C:Addr}{fd:FuncData}{ps ks:List Str}{sp:Sp}{E:XK}{x m:Str}{p pos apos kpos:Pos}{e o:Expr}{es:List Expr}{kws:List Keyword}{te ta:TE}{t tk:TA}{nm:Option Str}
variable {g:List Value->List Value->List Value}{gV:List V->List V->List V}
end
structure zS (N P:List Str)(sc:Scope):Prop where
 kind:sc.kind=.function
 co:sc.isCoroutine=false
 gen:sc.isGenerator=false
 nd:N.Nodup
 pre:N.take P.length=P
 par:∀x∈P,sc.names.lookup x=some .local\/sc.names.lookup x=some .cell
 nofree:∀y∈sc.names,y.2≠.free
theorem qp {kindOf:Str->Option NameKind}{x:Str}:∀{binds:List (Str×Value)}{m:Str->Option Value},(∀v,(x,v)∉binds)->bindL kindOf binds m x=m x
 |[],_,_=>rfl
 |(n,v)::r,m,h=>by
  unfold bindL;rw[qp λw hw=>h w (zJ8 _ hw)];split
  ·have:x≠n:=by rintro rfl;exact h v zK5
   simp[this]
  ·rfl
theorem qk {kindOf:Str->Option NameKind}{x:Str}:∀{binds:List (Str×Value)}{m:Str->Option Value},(∀v,(x,v)∉binds)->bindC kindOf binds m x=m x
 |[],_,_=>rfl
 |(n,v)::r,m,h=>by
  unfold bindC;rw[qk λw hw=>h w (zJ8 _ hw)];split
  ·rfl
  ·have:x≠n:=by rintro rfl;exact h v zK5
   simp[this]
theorem rZ {kindOf:Str->Option NameKind}{x:Str}{v:Value}:∀{P:List Str}{vs:List Value}{i:Nat}{m:Str->Option Value},P.Nodup->P[i]?=some x->vs[i]?=some v->kindOf x=some .local->
  bindL kindOf (P.zip vs) m x=some v
 |[],_,_,_,_,h,_,_=>by simp at h
 |_::_,[],_,_,_,_,h,_=>by simp at h
 |p::P,w::vs,0,m,nd,b,a,hk=>by
  simp at b a;subst b;subst a;show bindL kindOf ((p,w)::P.zip vs) m p=_;unfold bindL;rw[qp λv c=>(zZ6.mp nd).1 (List.of_mem_zip c).1,if_pos hk];simp
 |p::P,w::vs,i+1,m,nd,b,a,hk=>by
  show bindL kindOf ((p,w)::P.zip vs) m x=_;unfold bindL;exact rZ (i:=i) (zZ6.mp nd).2 (by simpa using b) (by simpa using a) hk
theorem qm {kindOf:Str->Option NameKind}{x:Str}{v:Value}:∀{P:List Str}{vs:List Value}{i:Nat}{m:Str->Option Value},P.Nodup->P[i]?=some x->vs[i]?=some v->kindOf x≠some .local->
  bindC kindOf (P.zip vs) m x=some v
 |[],_,_,_,_,h,_,_=>by simp at h
 |_::_,[],_,_,_,_,h,_=>by simp at h
 |p::P,w::vs,0,m,nd,b,a,hk=>by
  simp at b a;subst b;subst a;show bindC kindOf ((p,w)::P.zip vs) m p=_;unfold bindC;rw[qk λv c=>(zZ6.mp nd).1 (List.of_mem_zip c).1,if_neg hk];simp
 |p::P,w::vs,i+1,m,nd,b,a,hk=>by
  show bindC kindOf ((p,w)::P.zip vs) m x=_;unfold bindC;exact qm (i:=i) (zZ6.mp nd).2 (by simpa using b) (by simpa using a) hk
def start (N:List Str)(vs:List V):St:=vs.map some++List.replicate (N.length-vs.length) none
def wo (CX:CXT)(P:Program)(w:World)(K:PySem.W.Frag)(mg:Str->Option Value)(base:Heap)(N:List Str)(qual:Str)(scope:Scope)(f:Addr)(cd:Value)(A:Around)(outer:List Env)(s:Shared)(H:Hp)(E:XK):Cx where
 prog:=P
 w:=w
 K:=K
 mg:=mg
 base:=base
 A:=A.deeper (envOfC qual scope s.heap.objs.size f cd)
 N:=N
 s₀:=s
 H₀:=H
 env:=envOfC qual scope s.heap.objs.size f cd
 outer:=outer
 stack:=envOfC qual scope s.heap.objs.size f cd::outer
 ex:=[]
 calm:=true
 fn:=λ_=>true
 pn:=[]
 xe:=λe s'=>wpAny (model P w) (A.deeper (envOfC qual scope s.heap.objs.size f cd)) (leaving (envOfC qual scope s.heap.objs.size f cd) e) (λ_ a=>CX outer H s E e a) (λb a=>CX outer H s E b a) s'
theorem pY {sc:Scope}{n:Nat}{x:Str}(h:sc.names.lookup x=some .cell):∃c,(cellsFrom n sc.names []).lookup x=some c:=by
 have q:=PySem.W.cellsFrom_some sc.names n [] (.inl h);exact Option.isSome_iff_exists.mp q
theorem jy {CX:CXT}{P:Program}{w:World}{K:PySem.W.Frag}{mg:Str->Option Value}{base:Heap}{N ps:List Str}{qual:Str}{scope:Scope}{f:Addr}{cd:Value}{A:Around}{outer:List Env}{s s1:Shared}{H:Hp}{E:XK}{us:List Value}{vs:List V}
  (S:zS N ps scope) (hd:A.handled=none) (g:uq P w K mg base A outer s H) (B:vs.length=ps.length) (r:Vals vs us)
  (x:InCallC s s.heap.objs.size (bindL (envOfC qual scope s.heap.objs.size f cd).kindOf (ps.zip us) λ_=>none) (cellsFrom (s.heap.objs.size+1) scope.names []) (bindC (envOfC qual scope s.heap.objs.size f cd).kindOf (ps.zip us) λ_=>none) s1):
  Inv (wo CX P w K mg base N qual scope f cd A outer s H E) [] (start N vs) H s1:=by
 have hpl:ps.length<=N.length:=by have:=congrArg List.length S.pre;rw[zM3]at this;exact zK0 (zL0 this.symm) (z29 _ _)
 obtain⟨o,tk,rfl,hk⟩:=x.done;have j:∀b:Addr,b∉(wo CX P w K mg base N qual scope f cd A outer s H E).ex:=λb z=>absurd (show b∈([]:List Addr)from z) (by simp);refine⟨⟨g.mod,S.kind,rfl,rfl,zJ5 _,λy z c o d=>?_,λy hy=>?_,λy c _ h=>?_,λ_=>hd,Around.frames_deeper g.frames,.inr ⟨rfl,rfl⟩,λb z=>absurd z (j b),g.bs,g.bsz,λb _ _=>j b,λb z=>absurd z (j b),g.funs,g.frf⟩,
  rfl,g.bare,Un.kept hk,⟨_,x.toInCall.ns,λi y v o d D=>?_⟩,λy c h=>⟨_,x.cell y c h⟩,g.hok.fresh (zJ5 _),λy c h=>?_,λp l=>absurd (show p∈([]:List (Addr×Obj))from l) (by simp),g.hok.kept hk,?_⟩
 ·exact name_of_addr x.apart (zQ0 o) (zQ0 d)
 ·have hy:scope.names.lookup y=some .cell\/scope.names.lookup y=some .free:=hy;rcases hy with hy|hy
  ·exact pY hy
  ·exact absurd rfl (S.nofree _ (zQ0 hy))
 ·exact zN5 (x.above y c (zQ0 h))
 ·have hi:i<vs.length:=by
   unfold start at d;by_cases hi:i<vs.length
   ·exact hi
   ·rw[zR2 (by simpa using hi)]at d;rw[zR0]at d;split at d<;>cases d
  have ha:vs[i]?=some v:=by
   unfold start at d;rw[zP5 (by simpa using hi),zK8]at d;cases e:vs[i]? with
   |none=>rw[e]at d;cases d
   |some a=>rw[e]at d;cases d;rfl
  obtain⟨u,t,C⟩:=r.get ha;have l:ps[i]?=some y:=by rw[<-S.pre,zW5 (zJ4 hi (zL0 B))];exact o
  have m:ps.Nodup:=by rw[<-S.pre];exact S.nd.sublist (zU5 _ _)
  refine⟨u,C,?_⟩;rcases S.par y (zO3 l)with k|k
  ·exact .inl ⟨k,rZ m l t k⟩
  ·obtain⟨c,e⟩:=pY (n:=s.heap.objs.size+1) k;refine .inr ⟨.inl k,c,e,?_⟩;have q:=x.cell y c e;rw[qm m l t (by show scope.names.lookup y≠_;rw[k];decide)]at q;exact q
 ·exact g.hok.fresh (zN5 (x.above y c (zQ0 h)))
 ·unfold start;show _=N.length;rw[zM9,zJ3,List.length_replicate];exact zz8 B hpl
theorem gc {CX:CXT}{P:Program}{w:World}{K:PySem.W.Frag}{mg:Str->Option Value}{base:Heap}{k:Nat}{f:Addr}{name qual:Str}{params:Arguments}{body:List Stmt}{scope:Scope}{dV kV doc pm cdv ct oc:Value}{an od:Option Addr}
  {osl:Array (Option Value)} {N ps:List Str} {sp:Sp} (D:K.lookup f=some ⟨oc,od,.func (PySem.W.fnOf name qual params body scope dV kV doc pm an cdv ct),osl⟩) (m:PySem.W.codeIn K cdv qual=true) (S:zS N ps scope)
  (len:∀vs H Q E,sp vs H Q E->vs.length=ps.length)
  (c:∀(A:Around) (outer:List Env) (s:Shared) (H:Hp) (vs:List V) (Q:VK) (E:XK),zK k (A.deeper (envOfC qual scope s.heap.objs.size f cdv))->sp vs H Q E->
   ∃t,PSs (wo CX P w K mg base N qual scope f cdv A outer s H E) body t/\t {nx:=λ_ H'=>Q .non H',rt:=Q} (start N vs) H):
  yD P w K mg base CX (k+1) f (PySem.W.fnOf name qual params body scope dV kV doc pm an cdv ct) ps sp:=by
 refine⟨len,λA outer s H args us vs Q E hr i hb r h=>?_⟩;have z:=len _ _ _ _ h;have p:K.In s.heap:=i.mod.kin.keeps λb o e=>(i.bs b o e).1;have lim:s.heap.NoLimit:=i.mod.nolimit.keeps λb o e=>(i.bs b o e).1;have d:∀y∈ps.zip us,scope.names.lookup y.1=some .local\/(scope.names.lookup y.1=some .cell/\((cellsFrom (s.heap.objs.size+1) scope.names []).lookup y.1).isSome=true):=λj hy=>by
  obtain⟨n,v⟩:=j;rcases S.par n (List.of_mem_zip hy).1 with q|q
  ·exact .inl q
  ·exact .inr ⟨q,PySem.W.cellsFrom_some _ _ _ (.inl q)⟩
 refine codeAny_call_function hr.depth (p _ _ D) rfl S.co S.gen rfl (PySem.W.codeRec_of p m) (hb _ _ _ _ ?_);refine wpAny_newFunctionEnv_cells S.kind d λenv he s1 x=>?_;subst he;refine⟨lim.keeps x.toInCall.keep,codeAny_func ?_⟩;obtain⟨t,B,hq⟩:=c A outer s H vs Q E (hr.deeper _) h;have I:Inv (wo CX P w K mg base N qual scope f cdv A outer s H E) [] (start N vs) H s1:=jy S hr.hd i z r x;refine zO8 (B [] s1 (start N vs) H _ I hq) (λC s' g=>?_) λe s' g=>g;have fin:∀{a:St} {H':Hp} {v:V} {u:Value},Inv (wo CX P w K mg base N qual scope f cdv A outer s H E) [] a H' s'->RelV v u->Q v H'->CE outer P w H s Q u s':=
  λ{a H' v u} J l q=>⟨v,H',J.os,J.bare,J.base,J.hok,l,q⟩
 cases C with
 |ret u=>
  obtain⟨v,a,H',J,l,q⟩:=g;exact fin J l q
 |next=>
  obtain⟨a,H',J,q⟩:=g;exact fin (v:=V.non) (u:=Value.none) J rfl q
 |brk=>
  obtain⟨_,_,_,q⟩:=g;exact False.elim q
 |cont=>
  obtain⟨_,_,_,q⟩:=g;exact False.elim q
section
variable {X:Cx}{x:Str}{p pos:Pos}{e:Expr}{es:List Expr}{t:TA}{id T:String}{r:List V->Hp->VK->Prop}
def tCB (r:List V->Hp->VK->Prop)(t:TA):TE:=λσ H Q=>t σ H λvs H1=>r vs H1 Q
theorem tX (f:xm X (.builtin id) r)(hg:Gl X x)(hm:X.mg x=none)(g:bootBuiltins x=some (.builtin id))(ha:PA X (e::es) t)(hn:x≠"__name__":=by decide)(b:(x == ("__debug__":Str))=false:=by decide)
  (he:starEach (e::es) X.env=(false,eval e X.env)::starEach es X.env:=by rfl) (hpl:(backTo pos (starEach es X.env)).any (·.1)=false:=by rfl):PE X (.Call (.Name x p) (e::es) [] pos) (tCB r t):=by
 intro pins s σ H Q I h;refine zX5 (xt I hg hm g ?_ hn b);exact PyProof.Rows.callWith_builtin1 (thn (ha pos pins s σ H _ I h) λus s1 a=>by obtain⟨vs,H1,d,i,c⟩:=a;exact f pins s1 σ H1 vs us Q d i c) he hpl
theorem wO (f:xm X (.type T) r)(hg:Gl X x)(hm:X.mg x=none)(g:bootBuiltins x=some (.type T))(ha:PA X (e::es) t)(hn:x≠"__name__":=by decide)(b:(x == ("__debug__":Str))=false:=by decide)
  (he:starEach (e::es) X.env=(false,eval e X.env)::starEach es X.env:=by rfl) (hpl:(backTo pos (starEach es X.env)).any (·.1)=false:=by rfl):PE X (.Call (.Name x p) (e::es) [] pos) (tCB r t):=by
 intro pins s σ H Q I h;refine zX5 (xt I hg hm g ?_ hn b);exact zQ1 (thn (ha pos pins s σ H _ I h) λus s1 a=>by obtain⟨vs,H1,d,i,c⟩:=a;exact f pins s1 σ H1 vs us Q d i c) he hpl
end
end L2
namespace HT
open PySem PyProof.Rows
section
open PySem.SeqAt
open PySem.AutoSeq1 (wpAny_loadPart')
open PySem.MeetsSeq PySem.MeetsSeq2 PySem.MeetsSeq3
end
section
variable {prog:Program}{w:World}{A:Around}{E:Value->Shared->Prop}{s:Shared}
def sIx (n d:Nat):Option Int->Nat
 |none=>d
 |some v=>if v<0 then(v+(n:Int)).toNat else min v.toNat n
theorem zo5 (n d:Nat)(hd:d<=n)(o:Option Int):sIx n d o<=n:=by
 cases o with
 |none=>exact hd
 |some v=>
  show(if v<0 then(v+(n:Int)).toNat else min v.toNat n)<=n;by_cases a:v<0
  ·rw[if_pos a];lia
  ·rw[if_neg a];exact z29 _ _
theorem lS (v:Int)(n d:Nat):(if v<0 then max (v+(n:Int)) 0 else min v (n:Int))=((sIx n d (some v):Nat):Int):=by
 show(if v<0 then max (v+(n:Int)) 0 else min v (n:Int))=(((if v<0 then(v+(n:Int)).toNat else min v.toNat n):Nat):Int);by_cases a:v<0
 ·simp only[if_pos a];lia
 ·simp only[if_neg a];lia
theorem lg (lo hi:Option Int)(n:Nat):Builtin.Slice.sliceAdjust lo hi 1 (n:Int)=(((sIx n 0 lo:Nat):Int),((sIx n n hi:Nat):Int)):=by
 have a:¬((1:Int)<0):=by decide
 unfold Builtin.Slice.sliceAdjust;simp only[a,zY3];refine Prod.ext ?_ ?_
 ·cases lo with
  |none=>rfl
  |some v=>exact lS v n 0
 ·cases hi with
  |none=>rfl
  |some v=>exact lS v n n
theorem nV (i j:Nat):Builtin.Slice.slicePlaces (i:Int) (j:Int) 1=j-i:=by
 unfold Builtin.Slice.slicePlaces;have a:(1:Int) > 0:=by decide
 simp only[a,zX9,Int.ediv_one];split<;>lia
theorem rh {v:Value}{o:Option Int}{Q:Option Int->Shared->Prop}(p:IsPart v o)(h:Q o s):wpAny (model prog w) A (Builtin.Slice.slicePartIndex v) Q E s:=by
 cases p with
 |none=>exact slicePart_none h
 |int i t=>exact slicePart_int h
theorem uA {sl:Addr}{c d:Value}{lo hi:Option Int}{n:Nat}{Q:Int×Int×Nat->Shared->Prop}(f:s.heap.IsSliceOf sl c d .none)(pl:IsPart c lo)(pu:IsPart d hi)
  (h:Q (((sIx n 0 lo:Nat):Int),1,sIx n n hi-sIx n 0 lo) s):wpAny (model prog w) A (Builtin.Slice.sliceApplied (.ref sl) (pure (n:Int))) Q E s:=by
 obtain⟨os,a,e,b⟩:=id f;unfold Builtin.Slice.sliceApplied Builtin.Slice.sliceFields;refine zI9 (zI9 (zS4 a b (x:=c) rfl (zI9 (zS4 a b (x:=d) rfl (zI9 (zS4 a b (x:=.none) rfl (zJ1 ?_)))))));refine zI9 (slicePart_none ?_);show wpAny _ _ (if((1:Int)==0)=true then _ else _) _ _ s;rw[if_neg (by decide)];refine zI9 (rh pl (zI9 (rh pu (zI9 (zJ1 ?_)))));show wpAny _ _ (match Builtin.Slice.sliceAdjust lo hi 1 (n:Int)with|(lo,hi)=>pure (lo,(1:Int),Builtin.Slice.slicePlaces lo hi 1)) _ _ s;rw[lg lo hi n];show wpAny _ _ (pure (((sIx n 0 lo:Nat):Int),(1:Int),Builtin.Slice.slicePlaces ((sIx n 0 lo:Nat):Int) ((sIx n n hi:Nat):Int) 1)) _ _ s;rw[nV];exact zJ1 h
theorem dD (xs:Array Value)(i k:Nat):((List.range k).filterMap λ(m:Nat)=>xs[((i:Int)+(m:Int)*1).toNat]?).toArray=((xs.toList.drop i).take k).toArray:=by
 have e:(λ(m:Nat)=>xs[((i:Int)+(m:Int)*1).toNat]?)=λm=>xs[i+m]?:=by
  funext m
  have:((i:Int)+(m:Int)*1).toNat=i+m:=by lia
  rw[this]
 rw[e];have:=pick_run xs i k;rw[List.filterMap_map]at this;have a:((λx=>xs[x]?)∘λx=>i+x)=λm=>xs[i+m]?:=rfl;rw[a]at this;rw[this]
theorem vY {t sl:Addr}{items:Array Value}{g j:Value}{lo hi:Option Int}{Q:Value->Shared->Prop}(b:IsTup s.heap t items)(i:s.heap.IsSliceOf sl g j .none)(pl:IsPart g lo)(pu:IsPart j hi)
  (hw:¬(sIx items.size 0 lo=0/\sIx items.size items.size hi=items.size))
  (h:Q (.ref s.heap.objs.size) {s with heap:=s.heap.push {cls:=.type "tuple",data:=.seq ((items.toList.drop (sIx items.size 0 lo)).take (sIx items.size items.size hi-sIx items.size 0 lo)).toArray}})
  (f:items.size<=sizeLine):wpAny (model prog w) A (getItem (.ref t) (.ref sl)) Q E s:=by
 have a:sizeOk (.seq ((items.toList.drop (sIx items.size 0 lo)).take (sIx items.size items.size hi-sIx items.size 0 lo)).toArray):=by
  show((items.toList.drop (sIx items.size 0 lo)).take (sIx items.size items.size hi-sIx items.size 0 lo)).toArray.size<=sizeLine;rw[zK4,zM3,zS2,zP9];exact zK0 (z29 _ _) (zK0 (Nat.sub_le _ _) f)
 have n:sIx items.size items.size hi<=items.size:=zo5 _ _ (zJ5 _) hi;obtain⟨os,c,e,k⟩:=id i;have d:s.TypeIs (.ref sl) "slice":=⟨os,c,e⟩;unfold getItem
 try with_reducible refine zO9 ?_
 first|refine zI9 (zJ1 ?_)|skip
 refine zI9 (wpAny_sequenceKey b.typeIs (by decide) ?_);refine zI9 (zQ2 (name:=Str.ofString "__getitem__") b.typeIs zX0
  (zP7 zX0 b.typeIs entry_tuple_getitem ?_ (args_tuple_getitem _ _)))
 show wpAny _ _ (Builtin.Tuple.tupleItemsOf (.ref t) >>= _) _ _ s;refine zI9 (tupleItemsOf_ b ?_);refine zI9 (wpAny_typeOf d ?_);rw[if_pos (by decide)];refine zI9 (uA i pl pu ?_);have hno:¬((((sIx items.size 0 lo:Nat):Int)==0&&(1:Int)==1&&(sIx items.size items.size hi-sIx items.size 0 lo)==items.size)=true):=by
  intro q;rw[zN1,zN1]at q;have l:((sIx items.size 0 lo:Nat):Int)=0:=eq_of_beq q.1.1;have o:sIx items.size items.size hi-sIx items.size 0 lo=items.size:=eq_of_beq q.2;exact hw ⟨by lia,by lia⟩
 show wpAny _ _ (if(((sIx items.size 0 lo:Nat):Int)==0&&(1:Int)==1&&(sIx items.size items.size hi-sIx items.size 0 lo)==items.size)=true then _ else _) _ _ s;rw[if_neg hno,dD]
 first
  |exact zI9 (m:=Builtin.Tuple.tupleExact _) (zP0 (zJ1 ⟨_,rfl,zJ1 h⟩) a)
  |exact zI9 (m:=Builtin.Tuple.tupleExact _) (zP0 (zI9 (zJ1 (zJ1 ⟨_,rfl,zJ1 h⟩))) a)
  |exact zI9 (zI9 (m:=Builtin.Tuple.tupleExact _) (zP0 (zJ1 (zJ1 ⟨_,rfl,zJ1 h⟩)) a))
  |exact zI9 (zI9 (m:=Builtin.Tuple.tupleExact _) (zP0 (zJ1 ⟨_,rfl,zJ1 h⟩) a))
end
end HT
namespace L2
open PySem PySem.Spec PyProof.Rows
abbrev TO :=St->Hp->(Option Int->Hp->Prop)->Prop
def PO (X:Cx)(e:Option Expr)(t:TO):Prop:=
 ∀(pins:List (Addr×Obj)) (s:Shared) (σ:St) (H:Hp) (Q:Option Int->Hp->Prop),Inv X pins σ H s->t σ H Q->
  wpAny (model X.prog X.w) X.A (evalPart e X.env) (λu s'=>∃o H',Inv X pins σ H' s'/\IsPart u o/\Q o H') X.xe s
def bh :TO:=λ_ H Q=>Q none H
def zy1 (t:TE):TO:=λσ H Q=>t σ H λx H1=>∃i,x=.int i/\Q (some i) H1
theorem intsAre_of {ns:List Int}:∀{us:List Value},Vals (ns.map V.int) us->IntsAre us ns:=by
 induction ns with
 |nil=>intro us r;rw[List.map_nil]at r;cases r;exact .nil
 |cons n ns c=>
  intro us r;rw[zN7]at r;cases r with
  |cons b a=>
   obtain⟨t,e⟩:=b;subst e;exact .cons n t (c a)
section
variable {X:Cx}{e:Expr}{te:TE}{lo hi:Option Expr}{tl th:TO}{pos p2:Pos}
theorem kl :PO X none bh:=by
 intro pins s σ H Q I h;rw[evalPart_none];exact zJ1 ⟨none,H,I,.none,h⟩
theorem kR (h:PE X e te):PO X (some e) (zy1 te):=by
 intro pins s σ H Q I hw;rw[evalPart_some];refine thn (h pins s σ H _ I hw) λu s1 a=>?_;obtain⟨x,H1,c,d,b⟩:=a;obtain⟨i,rfl,q⟩:=b;obtain⟨t,rfl⟩:=d;exact⟨some i,H1,c,.int i t,q⟩
def SlR (X:Cx)(r:V->Option Int->Option Int->Hp->VK->Prop):Prop:=
 ∀(pins:List (Addr×Obj)) (s:Shared) (σ:St) (H:Hp) (x:V) (v a b:Value) (lo hi:Option Int) (sl:Addr) (Q:VK),Inv X pins σ H s->RelV x v->s.heap.IsSliceOf sl a b .none->IsPart a lo->IsPart b hi->r x lo hi H Q->
  ∃T id,typeLookup (.type T) "__getitem__"=pure (some (.builtin id))/\s.TypeIs v T/\wpAny (model X.prog X.w) X.A (getItem v (.ref sl)) (EP X pins σ Q) X.xe s
def tSl (r:V->Option Int->Option Int->Hp->VK->Prop)(te:TE)(tl th:TO):TE:=λσ H Q=>te σ H λx H1=>tl σ H1 λl b=>th σ b λu a=>r x l u a Q
theorem oj {r:V->Option Int->Option Int->Hp->VK->Prop}(hr:SlR X r)(he:PE X e te)(k:PO X lo tl)(g:PO X hi th):PE X (.Subscript e (.Slice lo hi none p2) pos) (tSl r te tl th):=by
 intro pins s σ H Q I h;refine Subscript_ (thn (he pins s σ H _ I h) λv s1 ⟨x,H1,i,j,f⟩=>?_);refine wpAny_Slice (thn (k pins s1 σ H1 _ i f) λc s2 ⟨l,m,z,pl,o⟩=>thn (g pins s2 σ m _ z o) λa s3 ⟨u,d,t,pu,p⟩=>?_);rw[evalPart_none];refine zJ1 ?_;have B:Inv X pins σ d {s3 with heap:=s3.heap.push {cls:=.type "slice",data:=.fields #[c,a,.none]}}:=t.kept (t':=s3.toks) λb ob q=>zJ0 _ q;obtain⟨T,id,n,y,hg⟩:=hr pins {s3 with heap:=s3.heap.push {cls:=.type "slice",data:=.fields #[c,a,.none]}} σ d x v c a l u s3.heap.objs.size Q B j (Heap.IsSliceOf.new ..) pl pu p;show wpAny (model X.prog X.w) X.A (subscriptTail e (.Slice lo hi none p2) v (.ref s3.heap.objs.size)) (EP X pins σ Q) X.xe {s3 with heap:=s3.heap.push {cls:=.type "slice",data:=.fields #[c,a,.none]}};exact tail_any (ops:=[.ref s3.heap.objs.size,v]) y n hg (by with_unfolding_all rfl)
def tS (xs:List V)(lo hi:Option Int):List V:=(xs.drop (HT.sIx xs.length 0 lo)).take (HT.sIx xs.length xs.length hi-HT.sIx xs.length 0 lo)
theorem uX (xs:List V)(lo hi:Option Int):(tS xs lo hi).length<=xs.length:=by
 unfold tS;rw[zM3,zS2];exact zK0 (z29 _ _) (Nat.sub_le _ _)
def zF5 (K:PySem.W.Frag):V->Option Int->Option Int->Hp->VK->Prop:=λx lo hi H Q=>∃a xs,x=.ref a/\SqT K H a xs/\
 ¬(HT.sIx xs.length 0 lo=0/\HT.sIx xs.length xs.length hi=xs.length)/\∀p,H p=none->Q (.ref p) (upd H p (.tup (tS xs lo hi)))
theorem zl4 :SlR X (zF5 X.K):=by
 intro pins s σ H x v i j lo hi sl Q I d g pl pu h;obtain⟨a,xs,rfl,f,hw,q⟩:=h;cases d;obtain⟨its,r,c,hz⟩:=I.tuple f;have hlen:its.toArray.size=xs.length:=by rw[zK4];exact r.length.symm
 refine⟨"tuple",_,zX0.lookup,c.typeIs,?_⟩;refine HT.vY c g pl pu (by rw[hlen];exact hw) ?_ (by rw[hlen];exact hz);rw[hlen];refine⟨.ref s.heap.objs.size,_,I.laid (t':=s.toks) (o:=.tup (tS xs lo hi)) (λb ob q=>zJ0 _ q) (zJ5 _) ?_,rfl,q _ (I.hok.fresh (zJ5 _))⟩;exact⟨zK0 (uX xs lo hi) hz,_,(r.drop (HT.sIx xs.length 0 lo)).take (HT.sIx xs.length xs.length hi-HT.sIx xs.length 0 lo),IsTup.new _ _⟩
end
def ixN (n:Nat)(i:Int):Option Nat:=if 0<=i then(if i<n then some i.toNat else none)else if -(n:Int)<=i then some (i+n).toNat else none
def atI {α:Type}(xs:List α)(i:Int):Option α:=(ixN xs.length i).bind λj=>xs[j]?
theorem qC {n:Nat}{i:Int}{j:Nat}(h:ixN n i=some j):seqIndex? i n=some j/\j<n/\-(n:Int)<=i/\i<n:=by
 unfold ixN at h;by_cases h0:0<=i
 ·rw[if_pos h0]at h;by_cases a:i<n
  ·rw[if_pos a]at h;have e:i.toNat=j:=zN2 h;exact⟨by rw[seqIndex_of h0 a,e],by lia,by lia,a⟩
  ·rw[if_neg a]at h;cases h
 ·rw[if_neg h0]at h;by_cases a:-(n:Int)<=i
  ·rw[if_pos a]at h;have e:(i+n).toNat=j:=zN2 h;exact⟨by rw[seqIndex_neg (z36.1 h0) a,e],by lia,a,(z47 (z36.1 h0) (Int.natCast_nonneg _))⟩
  ·rw[if_neg a]at h;cases h
theorem qU {α:Type}{xs:List α}{i:Int}{v:α}(h:atI xs i=some v):∃j,seqIndex? i xs.length=some j/\xs[j]?=some v/\j<xs.length/\-(xs.length:Int)<=i/\i<xs.length:=by
 unfold atI at h;cases e:ixN xs.length i with
 |none=>rw[e]at h;cases h
 |some j=>
  rw[e]at h;obtain⟨d,b,a,c⟩:=qC e;exact⟨j,d,h,b,a,c⟩
theorem xR {α:Type}{xs:List α}{j:Nat}{v:α}(h:xs[j]?=some v):atI xs (j:Int)=some v:=by
 have a:j<xs.length:=(zK1.mp h).1;have e:ixN xs.length (j:Int)=some j:=by
  unfold ixN;rw[if_pos (Int.natCast_nonneg _),if_pos (Int.ofNat_lt.2 a)];simp
 unfold atI;rw[e];exact h
def pE (b:Expr):Prop:=∀o i,subscripted b false o i=operate [o,i] (getItem o i)
def IxR (X:Cx)(r:R2):Prop:=
 ∀(value slice:Expr) (pins:List (Addr×Obj)) (s:Shared) (σ:St) (H:Hp) (x y:V) (v u:Value) (Q:VK),Inv X pins σ H s->RelV x v->RelV y u->r x y H Q->
  subscripted slice false v u=operate [v,u] (getItem v u)->wpAny (model X.prog X.w) X.A (subscriptTail value slice v u) (EP X pins σ Q) X.xe s
def MtR (X:Cx)(id:String)(r:V->List V->Hp->VK->Prop):Prop:=
 ∀(pins:List (Addr×Obj)) (s:Shared) (σ:St) (H:Hp) (x:V) (xs:List V) (v:Value) (us:List Value) (Q:VK),Inv X pins σ H s->RelV x v->Vals xs us->r x xs H Q->
  wpAny (model X.prog X.w) X.A (call (.builtin id) (v::us)) (EP X pins σ Q) X.xe s
section
variable {X:Cx}{a b:Expr}{ta tb:TE}{pos:Pos}
theorem IxR.or {r d:R2}(h:IxR X r)(h':IxR X d):IxR X (λx y H Q=>r x y H Q\/d x y H Q):=by
 intro value slice pins s σ H x y v u Q I c f q e;rcases q with q|q
 ·exact h value slice pins s σ H x y v u Q I c f q e
 ·exact h' value slice pins s σ H x y v u Q I c f q e
theorem vm {r:R2}(hr:IxR X r)(ha:PE X a ta)(hb:PE X b tb)(d:pE b):PE X (.Subscript a b pos) (tOp r ta tb):=by
 intro pins s σ H Q I h;exact Subscript_ (zl1 ha hb I h λv u s2 x y e f c g q=>hr a b pins s2 σ e x y v u Q f c g q (d _ _))
def zE5 (K:PySem.W.Frag):R2:=λx y H Q=>∃p xs i v,x=.ref p/\y=.int i/\SqL K H p xs/\atI xs i=some v/\Q v H
def zn7 (K:PySem.W.Frag):R2:=λx y H Q=>∃p xs i v,x=.ref p/\y=.int i/\SqT K H p xs/\atI xs i=some v/\Q v H
def zA3 :R2:=λx y H Q=>∃z i c,x=.str z/\y=.int i/\z.length<=sizeLine/\atI z.cps.toList i=some c/\Q (.str ⟨#[c]⟩) H
theorem yV :IxR X (zE5 X.K):=by
 intro value slice pins s σ H x y v u Q I m A h f;obtain⟨p,xs,i,z,rfl,rfl,hq,he,q⟩:=h;cases m;obtain⟨t,rfl⟩:=A;obtain⟨its,r,pl,hz⟩:=I.list hq;obtain⟨j,c,o,B,k,g⟩:=qU he;obtain⟨w,l,e⟩:=r.get o;have n:=r.length;have hn:=uF;have fin:EP X pins σ Q w s:=⟨z,H,I,e,q⟩;by_cases h0:0<=i
 ·have d:i.toNat=j:=by
   rw[seqIndex_of h0 g]at c;exact zN2 c
  exact item_listR pl.isList h0 (fP hn g hz) (by rw[d];simpa using l) fin f
 ·have d:(i+(its.toArray.size:Int)).toNat=j:=by
   rw[seqIndex_neg (z36.1 h0) k]at c;rw[zK4,<-n];exact zN2 c
  exact subscriptTail_builtinR (x:=w) pl.isList.typeIs slot_list_getitem.lookup
   (wpAny_getItem_list_neg (Q:=λr s'=>r=w/\EP X pins σ Q r s') pl.isList (z36.1 h0) (by rw[zK4]<;>lia) (cA k hz hn) (by rw[d];simpa using l) ⟨rfl,fin⟩) f
theorem fo :IxR X (zn7 X.K):=by
 intro value slice pins s σ H x y v u Q I d o h f;obtain⟨p,xs,i,z,rfl,rfl,hq,he,q⟩:=h;cases d;obtain⟨t,rfl⟩:=o;obtain⟨its,r,pl,hz⟩:=I.tuple hq;obtain⟨j,e,k,A,m,l⟩:=qU he;obtain⟨w,n,c⟩:=r.get k;have g:=r.length;have hn:=uF;have fin:EP X pins σ Q w s:=⟨z,H,I,c,q⟩;exact subscriptTail_builtinR (x:=w) pl.typeIs slot_tuple_getitem.lookup
  (getItem_tuple (j:=j) (Q:=λr s'=>r=w/\EP X pins σ Q r s') pl (cA m hz hn) (fP hn l hz) (by rw[zK4,<-g];exact e) (by simpa using n) ⟨rfl,fin⟩) f
theorem zm9 :IxR X zA3:=by
 intro value slice pins s σ H x y v u Q I e o h l;obtain⟨z,i,c,rfl,rfl,hz,he,q⟩:=h;obtain⟨t,rfl⟩:=e;obtain⟨t',rfl⟩:=o;obtain⟨j,d,f,p,k,g⟩:=qU he;have n:z.cps.toList.length=z.length:=by simp[Str.length]
 rw[n]at d k g;have hn:=uF;exact tail_any (typeIs_str s z t) slot_str_getitem.lookup (getItem_str (c:=c) (by
  have e1:decide (i < -(2 ^ 63:Int))=false:=zM0 (by lia);have m:decide (i≥2 ^ 63)=false:=zM0 (by lia);rw[e1,m,Bool.or_false]) (by rw[d];simpa using f) ⟨.str ⟨#[c]⟩,H,I.tok _,⟨_,rfl⟩,q⟩) l
def rIx (K:PySem.W.Frag):R2:=λx y H Q=>zE5 K x y H Q\/zn7 K x y H Q\/zA3 x y H Q
theorem zu6 :IxR X (rIx X.K):=yV.or (fo.or zm9)
theorem mh (its:List Value)(n j:Nat)(u:Value):Obj.mapSeq (·.setIfInBounds j u) {cls:=.type "list",data:=.seq its.toArray n}={cls:=.type "list",data:=.seq (its.set j u).toArray n}:=by simp[Obj.mapSeq]
theorem Inv.lst {pins:List (Addr×Obj)}{σ:St}{H:Hp}{s:Shared}{p:Addr}{xs:List V}(I:Inv X pins σ H s)(h:H p=some (.lst xs)):
  ∃(its:List Value) (n:Nat),Vals xs its/\s.heap.get? p=some {cls:=.type "list",data:=.seq its.toArray n}/\xs.length<=sizeLine:=by
 obtain⟨z,its,n,r,e⟩:=I.hok p _ h;exact⟨its,n,r,e,z⟩
theorem Inv.lstUpd {pins:List (Addr×Obj)}{σ:St}{H:Hp}{s:Shared}{p:Addr}{xs ys:List V}{its its':List Value}{n c:Nat}{f:Obj->Obj}(I:Inv X pins σ H s)(h:H p=some (.lst xs))
  (d:s.heap.get? p=some {cls:=.type "list",data:=.seq its.toArray n}) (hf:f {cls:=.type "list",data:=.seq its.toArray n}={cls:=.type "list",data:=.seq its'.toArray c}) (r:Vals ys its') (hz:ys.length<=sizeLine) (t:Nat):
  Inv X pins σ (upd H p (.lst ys)) {s with heap:=s.heap.update p f,toks:=t}:=by
 have e:(s.heap.update p f).get? p=some {cls:=.type "list",data:=.seq its'.toArray c}:=by rw[zV7 f d (by rw[hf]<;>rfl),hf]
 refine I.write (x:=p) (e:=p) (by rw[h];trivial) (.inl rfl) (λb u hb q=>(zO2 _ _ (zN9 hb)).trans q) ⟨_,e⟩ ?_;exact⟨hz,its',c,r,e⟩
def lM :V->V->V->Hp->(Hp->Prop)->Prop:=λo i v H Q=>∃p xs k j,o=.ref p/\i=.int k/\H p=some (.lst xs)/\ixN xs.length k=some j/\Q (upd H p (.lst (xs.set j v)))
theorem set_list :zz4 X lM:=by
 intro pins s σ H o i v C B u Q I z y w h;obtain⟨p,xs,k,j,rfl,rfl,m,x,q⟩:=h;cases z;obtain⟨t,rfl⟩:=y;obtain⟨its,n,r,d,hz⟩:=I.lst m;obtain⟨c,A,f,g⟩:=qC x;have e:=r.length;have hn:=uF;have l:Inv X pins σ (upd H p (.lst (xs.set j v))) {s with heap:=s.heap.update p (Obj.mapSeq (·.setIfInBounds j u))}:=
  I.lstUpd m d (mh its n j u) (r.set w j) (by rw[zO4];exact hz) s.toks
 by_cases h0:0<=k
 ·have hk:k.toNat=j:=by
   rw[seqIndex_of h0 g]at c;exact zN2 c
  exact PySem.W.ki_setAt d h0 (fP hn g hz) (by rw[zK4,<-e];exact g) (by rw[hk];exact⟨_,l,q⟩)
 ·have hk:(k+(its.toArray.size:Int)).toNat=j:=by
   rw[seqIndex_neg (z36.1 h0) f]at c;rw[zK4,<-e];exact zN2 c
  exact PySem.W.ki_setBack d (z36.1 h0) (by rw[zK4,<-e];exact f) (cA f hz hn) (by rw[hk];exact⟨_,l,q⟩)
theorem qL (lo hi:Option Int)(n:Nat):(sliceBounds lo hi none n).1=((HT.sIx n 0 lo:Nat):Int)/\(sliceBounds lo hi none n).2.1=((HT.sIx n n hi:Nat):Int)/\(sliceBounds lo hi none n).2.2=1:=by
 refine⟨?_,?_,rfl⟩
 ·cases lo with
  |none=>simp[sliceBounds,HT.sIx]
  |some i=>
   simp only[sliceBounds,HT.sIx,Option.getD_none,show(1:Int) > 0 by decide,zX9];by_cases h:i<0
   ·simp only[h,zX9]<;>exact zg1 h
   ·simp only[h,zY3]<;>exact zg3
 ·cases hi with
  |none=>simp[sliceBounds,HT.sIx]
  |some i=>
   simp only[sliceBounds,HT.sIx,Option.getD_none,show(1:Int) > 0 by decide,zX9];by_cases h:i<0
   ·simp only[h,zX9]<;>exact zg1 h
   ·simp only[h,zY3]<;>exact zg3
theorem rD (its:List Value)(lo hi:Option Int):slicePick its.toArray lo hi none=((its.drop (HT.sIx its.length 0 lo)).take (HT.sIx its.length its.length hi-HT.sIx its.length 0 lo)).toArray:=by
 obtain⟨d,e,c⟩:=qL lo hi its.toArray.size;unfold slicePick;rw[d,e,c];simp only[sliceRange_one,pick_run,zK4]<;>rfl
def zH2 (K:PySem.W.Frag):V->Option Int->Option Int->Hp->VK->Prop:=λx lo hi H Q=>∃a xs,x=.ref a/\SqL K H a xs/\∀p,H p=none->Q (.ref p) (upd H p (.lst (tS xs lo hi)))
theorem zc2 :SlR X (zH2 X.K):=by
 intro pins s σ H x v g i lo hi sl Q I d f pl pu h;obtain⟨a,xs,rfl,e,q⟩:=h;cases d;obtain⟨its,r,c,hz⟩:=I.list e;have hlen:=r.length;refine⟨"list",_,slot_list_getitem.lookup,c.isList.typeIs,?_⟩;refine wpAny_getItem_list_slice c.isList f pl pu .none (by simp) ?_ (by rw[zK4]<;>exact zK0 (zL0 hlen.symm) hz);rw[rD,<-hlen];refine⟨.ref s.heap.objs.size,_,I.laid (t':=s.toks) (o:=.lst (tS xs lo hi)) (λb ob q=>zJ0 _ q) (zJ5 _) ?_,rfl,q _ (I.hok.fresh (zJ5 _))⟩;exact⟨zK0 (uX xs lo hi) hz,_,0,(r.drop (HT.sIx xs.length 0 lo)).take (HT.sIx xs.length xs.length hi-HT.sIx xs.length 0 lo),zK2 _ rfl⟩
def vp :V->Bool
 |.non=>true
 |.bl _=>true
 |.int _=>true
 |.str _=>true
 |_=>false
def eqV :V->V->Bool
 |.non,.non=>true
 |.bl a,.bl b=>a == b
 |.bl a,.int b=>(if a then 1 else 0)==b
 |.int a,.bl b=>a == (if b then 1 else 0)
 |.int a,.int b=>a == b
 |.str a,.str b=>a == b
 |_,_=>false
theorem zs7 {A:Around}{s:Shared}{y x:V}{u v:Value}(e:RelV y u)(c:RelV x v)(f:vp y=true)(d:vp x=true):SeqAt.EqAt A s u v (eqV y x):=by
 cases y with
 |non=>
  cases e;cases x with
  |non=>cases c;exact SeqAt.EqAt.same _
  |bl b=>cases c;exact SeqAt.EqAt.none_bool b
  |int b=>obtain⟨t,rfl⟩:=c;exact SeqAt.EqAt.none_int b t
  |str b=>obtain⟨t,rfl⟩:=c;exact SeqAt.EqAt.none_str b t
  |_=>exact absurd (show false=true from d) zL5
 |bl a=>
  cases e;cases x with
  |non=>cases c;exact SeqAt.EqAt.bool_none a
  |bl b=>cases c;exact SeqAt.EqAt.bool_bool a b
  |int b=>obtain⟨t,rfl⟩:=c;exact SeqAt.EqAt.bool_int a b t
  |str b=>obtain⟨t,rfl⟩:=c;exact SeqAt.EqAt.bool_str a b t
  |_=>exact absurd (show false=true from d) zL5
 |int a=>
  obtain⟨t',rfl⟩:=e;cases x with
  |non=>cases c;exact SeqAt.EqAt.int_none a t'
  |bl b=>cases c;exact SeqAt.EqAt.int_bool a t' b
  |int b=>obtain⟨t,rfl⟩:=c;exact SeqAt.EqAt.int_int a t' b t
  |str b=>obtain⟨t,rfl⟩:=c;exact SeqAt.EqAt.int_str a t' b t
  |_=>exact absurd (show false=true from d) zL5
 |str a=>
  obtain⟨t',rfl⟩:=e;cases x with
  |non=>cases c;exact SeqAt.EqAt.str_none a t'
  |bl b=>cases c;exact SeqAt.EqAt.str_bool a t' b
  |int b=>obtain⟨t,rfl⟩:=c;exact SeqAt.EqAt.str_int a t' b t
  |str b=>obtain⟨t,rfl⟩:=c;exact SeqAt.EqAt.str_str a t' b t
  |_=>exact absurd (show false=true from d) zL5
 |_=>exact absurd (show false=true from f) zL5
def eqU (x:V)(u:Value):Bool:=match u with
 |.none=>eqV .non x
 |.bool b=>eqV (.bl b) x
 |.int i _=>eqV (.int i) x
 |.str z _=>eqV (.str z) x
 |_=>false
theorem fX {x y:V}{u:Value}(r:RelV y u)(f:vp y=true):eqU x u=eqV y x:=by
 cases y with
 |non=>cases r;rfl
 |bl b=>cases r;rfl
 |int i=>obtain⟨t,rfl⟩:=r;rfl
 |str z=>obtain⟨t,rfl⟩:=r;rfl
 |_=>exact absurd (show false=true from f) zL5
theorem kU {x:V}{xs:List V}{us:List Value}(h:Vals xs us)(f:xs.all vp=true):us.any (eqU x)=xs.any λy=>eqV y x:=by
 induction h with
 |nil=>rfl
 |cons r _ c=>
  rw[z50,zN1]at f;rw[z26,z26,fX r f.1,c f.2]
theorem tV {A:Around}{s:Shared}{x:V}{v:Value}(d:RelV x v)(e:vp x=true):∀{xs:List V}{us:List Value},Vals xs us->xs.all vp=true->∀u∈us,SeqAt.EqAt A s u v (eqU x u)
 |_,_,.nil,_=>λu c=>by cases c
 |y::xs,u::us,.cons r t,f=>λg c=>by
  rw[z50,zN1]at f;rcases zJ6.mp c with rfl|c
  ·rw[fX r f.1];exact zs7 r d f.1 e
  ·exact tV d e t f.2 g c
def inV (x:V)(xs:List V):Bool:=xs.any λy=>eqV y x
def rIn (K:PySem.W.Frag)(neg:Bool):R2:=λx y H Q=>∃p xs,y=.ref p/\(SqL K H p xs\/SqT K H p xs)/\vp x=true/\xs.all vp=true/\Q (.bl (if neg then !inV x xs else inV x xs)) H
theorem iB :OpR X (compareOp .In) (rIn X.K false):=by
 intro pins s σ H x y v u Q I c e h;obtain⟨p,xs,rfl,hq,d,fs,q⟩:=h;cases e;rcases hq with hq|hq
 ·obtain⟨its,r,pl,hz⟩:=I.list hq;refine SeqAt.in_listAt (eqU x) pl.isList (λw hw=>tV c d r fs w (by simpa using hw)) ⟨.bl _,H,I,rfl,?_⟩;rw[show its.toArray.any (eqU x)=its.any (eqU x) by simp,kU r fs];exact q
 ·obtain⟨its,r,pl,hz⟩:=I.tuple hq;refine SeqAt.in_tupleAt (eqU x) pl (λw hw=>tV c d r fs w (by simpa using hw)) ⟨.bl _,H,I,rfl,?_⟩;rw[show its.toArray.any (eqU x)=its.any (eqU x) by simp,kU r fs];exact q
theorem pe :xm X (.builtin "len") (λxs H Q=>∃p ys,xs=[.ref p]/\(SqL X.K H p ys\/SqT X.K H p ys)/\Q (.int ys.length) H):=by
 intro pins s σ H xs us Q I r h;obtain⟨p,ys,rfl,hq,q⟩:=h;obtain⟨u,rfl,d⟩:=vals1 r;cases d;have hn:=uF;rcases hq with hq|hq
 ·obtain⟨its,c,pl,hz⟩:=I.list hq;have hlen:=c.length;exact Calls.call_len_list pl.isList (by simp only[zK4]<;>exact zh2 hn hlen hz) ⟨.int ys.length,H,I.tok _,⟨s.toks+1,by rw[zK4,hlen]⟩,q⟩
 ·obtain⟨its,c,pl,hz⟩:=I.tuple hq;have hlen:=c.length;exact len_tuple pl (by simp only[zK4]<;>exact zh2 hn hlen hz) ⟨.int ys.length,H,I.tok _,⟨s.toks+1,by rw[zK4,hlen]⟩,q⟩
theorem qX :xm X (.type "list") (λxs H Q=>∃p ys,xs=[.ref p]/\(SqL X.K H p ys\/SqT X.K H p ys)/\∀l,H l=none->Q (.ref l) (upd H l (.lst ys))):=by
 intro pins s σ H xs us Q I r h;obtain⟨p,ys,rfl,hq,q⟩:=h;obtain⟨u,rfl,g⟩:=vals1 r;cases g;have fin:∀(its:List Value),Vals ys its->ys.length<=sizeLine->∀(h':Heap) (c':Nat),(∀b o',s.heap.get? b=some o'->h'.get? b=some o')->
   h'.get? s.heap.objs.size=some {cls:=.type "list",dict:=none,data:=.seq its.toArray c',slots:=#[]}->EP X pins σ Q (.ref s.heap.objs.size) {s with heap:=h'}:=λits c hz h' c' kp e=>
  ⟨.ref s.heap.objs.size,_,I.laid (t':=s.toks) kp (zJ5 _) (show zP X.prog X.w _ h' _ (.lst ys)from⟨hz,its,c',c,e⟩),rfl,q _ (I.hok.fresh (zJ5 _))⟩
 rcases hq with hq|hq
 ·obtain⟨its,c,pl,hz⟩:=I.list hq;have hlen:=c.length;obtain⟨o,f,d,n,hd⟩:=pl.isList;exact call_list_seq p (.inl rfl) f d hd (λh' c' kp e=>fin its c hz h' c' kp e) (by simp only[zK4]<;>exact zK0 (zL0 hlen.symm) hz)
 ·obtain⟨its,c,pl,hz⟩:=I.tuple hq;have hlen:=c.length;obtain⟨o,f,d,n,hd⟩:=pl;exact call_list_seq p (.inr rfl) f d hd (λh' c' kp e=>fin its c hz h' c' kp e) (by simp only[zK4]<;>exact zK0 (zL0 hlen.symm) hz)
def tyV (K:PySem.W.Frag)(T:String)(x:V)(H:Hp):Prop:=match x with
 |.str _=>T="str"
 |.int _=>T="int"
 |.ref p=>(T="list"/\∃xs,SqL K H p xs)\/(T="tuple"/\∃o,K.lookup p=some o/\o.cls=.type "tuple"/\o.dict=none)\/
   (T="dict"/\((∃kvs,H p=some (.dK kvs))\/∃kvs,H p=some (.dT kvs)))\/(T="set"/\∃S n,H p=some (.set S n))
 |_=>False
theorem zl6 {pins:List (Addr×Obj)}{σ:St}{H:Hp}{s:Shared}{T:String}{x:V}{v:Value}(I:Inv X pins σ H s)(r:RelV x v)(ty:tyV X.K T x H):
  s.TypeIs v T/\∀a,v=.ref a->∃ob,s.heap.get? a=some ob/\ob.dict=none:=by
 cases x with
 |str z=>
  obtain⟨t,rfl⟩:=r;cases(show T="str" from ty);exact⟨typeIs_str s z t,λ_ e=>nomatch e⟩
 |int i=>
  obtain⟨t,rfl⟩:=r;cases(show T="int" from ty);exact⟨typeIs_int s i t,λ_ e=>nomatch e⟩
 |ref p=>
  cases r;rcases ty with⟨rfl,xs,hq⟩|⟨rfl,o,hk,f,hd⟩|⟨rfl,hk⟩|⟨rfl,S,n,hk⟩
  ·obtain⟨its,_,pl,_⟩:=I.list hq;refine⟨pl.isList.typeIs,λa e=>?_⟩;cases e;obtain⟨o,n,e,c,hd,_⟩:=pl;exact⟨o,e,hd⟩
  ·refine⟨⟨o,I.kIn p o hk,f⟩,λa e=>?_⟩;cases e;exact⟨o,I.kIn _ o hk,hd⟩
  ·have z:∃o,s.heap.get? p=some o/\o.ExactDict:=by
    rcases hk with⟨kvs,hk⟩|⟨kvs,hk⟩
    ·obtain⟨_,_,_,_,o,_,_,e,ex,_⟩:=I.hok p _ hk;exact⟨o,e,ex⟩
    ·obtain⟨_,_,_,_,o,_,_,e,ex,_⟩:=I.hok p _ hk;exact⟨o,e,ex⟩
   obtain⟨o,e,ex⟩:=z;refine⟨⟨o,e,ex.1⟩,λa d=>?_⟩;cases d;exact⟨o,e,ex.2.1⟩
  ·obtain⟨o,_,_,_,e,ex,_⟩:=I.hok p _ hk;refine⟨⟨o,e,ex.1⟩,λa d=>?_⟩;cases d;exact⟨o,e,ex.2.1⟩
 |_=>exact False.elim ty
def tBM (K:PySem.W.Frag)(T:String)(r:V->List V->Hp->VK->Prop)(to:TE)(t:TA):TE:=λσ H Q=>to σ H λx H1=>tyV K T x H1/\t σ H1 λxs c=>r x xs c Q
variable {o e:Expr}{es:List Expr}{to:TE}{t:TA}{name:Str}{apos cpos:Pos}{T id:String}{r:V->List V->Hp->VK->Prop}
theorem kE (q:PlainAttrs T)(slot:Slot T name id)(k:typeOf (.builtin id)=pure (.type "method_descriptor"))(hm:MtR X id r)(z:PE X o to)(ha:PA X (e::es) t)
  (f:attributeBase o name X.env (eval o X.env)=eval o X.env:=by rfl)
  (g:((backTo cpos (starEach (e::es) X.env)).all (λx=>!x.1)&&(backToKw cpos (keywordEach [] X.env)).all (λx=>x.1.isSome)
   &&decide ((e::es).length+([]:List Keyword).length+(if([]:List Keyword).isEmpty then 0 else 1)<30))=true:=by rfl)
  (d:(apos.endLine == cpos.line)=true:=by rfl) (y:starEach (e::es) X.env=(false,eval e X.env)::starEach es X.env:=by rfl) (c:(backTo cpos (starEach es X.env)).any (·.1)=false:=by rfl):
  PE X (.Call (.Attribute o name apos) (e::es) [] cpos) (tBM X.K T r to t):=by
 intro pins s σ H Q I h;refine wpAny_Call_method_late f g d rfl (thn (z pins s σ H _ I h) λv s1 i=>?_);obtain⟨x,H1,m,n,ty,p⟩:=i;obtain⟨u,C⟩:=zl6 m n ty;refine⟨T,id,q,slot,k,u,C,?_⟩;have l:=ha cpos pins s1 σ H1 _ m p;rw[y]at l ⊢;refine Calls.callWith_builtin (by show(false||(backTo cpos (starEach es X.env)).any (·.1))=false;rw[c]<;>rfl) (Calls.evalArgs_plain ?_);exact thn l λus s2 j=>by obtain⟨vs,A,D,w,B⟩:=j;exact hm pins s2 σ A x vs v us Q D n w B
/- xs.append(e),list.index on a module's tuple .. are MtR facts of 06m -/
end
def MtM (X:Cx)(id:String)(r:V->List V->Hp->VK->Prop):Prop:=
 ∀(pins:List (Addr×Obj)) (s:Shared) (σ:St) (H:Hp) (x:V) (xs:List V) (v:Value) (us:List Value) (Q:VK),Inv X pins σ H s->RelV x v->Vals xs us->r x xs H Q->
  wpAny (model X.prog X.w) X.A (call (.builtin id) (v::us)) (EP X pins σ Q) X.xe s
theorem Vals.one {x:V}{us:List Value}(h:Vals [x] us):∃u,us=[u]/\RelV x u:=by
 cases h with
 |cons r q=>cases q;exact⟨_,rfl,r⟩
theorem Vals.two {x y:V}{us:List Value}(h:Vals [x,y] us):∃u v,us=[u,v]/\RelV x u/\RelV y v:=by
 cases h with
 |cons r q=>
  cases q with
  |cons q z=>cases z;exact⟨_,_,rfl,r,q⟩
theorem Vals.eraseIdx :∀{xs:List V}{us:List Value} (i:Nat),Vals xs us->Vals (xs.eraseIdx i) (us.eraseIdx i)
 |_,_,_,.nil=>.nil
 |_,_,0,.cons _ t=>t
 |_,_,i+1,.cons r t=>.cons r (Vals.eraseIdx i t)
theorem qo {α:Type}:∀(l:List α) (i:Nat),(l.eraseIdx i).length<=l.length
 |[],_=>zJ5 _
 |_::_,0=>zT8 _
 |_::r,i+1=>Nat.succ_le_succ (qo r i)
section
variable {X:Cx}{pins:List (Addr×Obj)}{σ:St}{H:Hp}{s:Shared}{l b:Addr}{xs ys zs:List V}
theorem Inv.lset {its its':List Value}{n:Nat}{f:Array Value->Array Value}{t':Nat}(I:Inv X pins σ H s)(a:H l=some (.lst xs))
  (e:s.heap.get? l=some {cls:=.type "list",data:=.seq its.toArray n}) (hf:f its.toArray=its'.toArray) (d:Vals ys its') (hz:ys.length<=sizeLine):
  Inv X pins σ (upd H l (.lst ys)) {s with heap:=s.heap.update l (Obj.mapSeq f),toks:=t'}:=by
 have q:=PySem.IsL.update e f;rw[hf]at q;refine I.write (x:=l) (e:=l) (by rw[a];exact trivial) (.inl rfl) (λg u hb c=>(zO2 s.heap (Obj.mapSeq f) (zN9 hb)).trans c) ⟨_,q⟩ ?_;exact⟨hz,its',_,d,q⟩
theorem Inv.lnew {its:List Value}{t':Nat}(I:Inv X pins σ H s)(a:Vals ys its)(hz:ys.length<=sizeLine):
  Inv X pins σ (upd H s.heap.objs.size (.lst ys)) {s with heap:=s.heap.push {cls:=.type "list",data:=.seq its.toArray},toks:=t'}:=
 I.laid (λ_ _ q=>zJ0 _ q) (zJ5 _) ⟨hz,its,0,a,zK2 _ rfl⟩
theorem Inv.fresh (I:Inv X pins σ H s):H s.heap.objs.size=none:=I.hok.fresh (zJ5 _)
theorem Inv.lstM (I:Inv X pins σ H s)(a:H l=some (.lst xs)):xs.length<=sizeLine/\∃(its:List Value) (n:Nat),Vals xs its/\xs.length=its.length/\s.heap.get? l=some {cls:=.type "list",data:=.seq its.toArray n}:=by
 obtain⟨z,its,n,r,e⟩:=I.hok l _ a;exact⟨z,its,n,r,r.length,e⟩
theorem fV {n:Nat}(h:n<=sizeLine):Builtin.List.listTooLong n=false:=by
 unfold Builtin.List.listTooLong;exact zM0 (Nat.not_lt_of_le h)
end
section
variable {X:Cx}
def aW :V->List V->Hp->VK->Prop:=λx vs H Q=>∃l xs y,x=.ref l/\vs=[y]/\H l=some (.lst xs)/\xs.length<sizeLine/\Q .non (upd H l (.lst (xs++[y])))
theorem qw :MtM X "list.append" aW:=by
 intro pins s σ H x vs v us Q I b d h;obtain⟨l,xs,y,rfl,rfl,a,hz,q⟩:=h;cases b;obtain⟨u,rfl,c⟩:=d.one;obtain⟨z,its,n,r,f,e⟩:=I.lstM a;refine call_meets F.slot_list_append ⟨_,e,rfl⟩ F.entry_list_append (F.args_list_append_2 _ _) (PySem.list_append l its.toArray n u (by rw[zK4];exact zN5 (zL4 (zL0 f.symm) hz))) ⟨e,?_⟩;refine⟨.non,_,I.lset (its':=its++[u]) a e (by simp) (r.append (.cons c .nil)) ?_,rfl,q⟩;rw[zM9,List.length_singleton];exact hz
def zb0 :V->List V->Hp->VK->Prop:=λx vs H Q=>∃l b xs zs,x=.ref l/\vs=[.ref b]/\H l=some (.lst xs)/\H b=some (.lst zs)/\xs.length+zs.length<=sizeLine/\Q .non (upd H l (.lst (xs++zs)))
theorem jA :MtM X "list.extend" zb0:=by
 intro pins s σ H x vs v us Q I j k h;obtain⟨l,b,xs,zs,rfl,rfl,g,t,hz,q⟩:=h;cases j;obtain⟨u,rfl,p⟩:=k.one;cases p;obtain⟨z,its,n,r,i,e⟩:=I.lstM g;obtain⟨w,a,n2,m,f,o⟩:=I.lstM t;have d:its.toArray.size+a.toArray.size<=sizeLine:=by rw[zK4,zK4];exact zg6 hz i f
 have c:¬(!its.toArray.isEmpty&&Builtin.List.listTooLong (its.toArray.size+a.toArray.size))=true:=by
  rw[fV d,Bool.and_false];exact zL5
 refine call_meets F.slot_list_extend ⟨_,e,rfl⟩ F.entry_list_extend (F.args_list_extend_2 _ _)
  (AutoSeq1.list_extend_list_list_0 l its.toArray n b a.toArray n2 c (by rw[zK4];exact zK0 (zL0 i.symm) z) (zK0 d (zL2 _ _))) ⟨e,o,?_⟩
 refine⟨.non,_,I.lset (its':=its++a) g e (by simp) (r.append m) ?_,rfl,q⟩;rw[zM9];exact hz
def zr4 :V->List V->Hp->VK->Prop:=λx vs H Q=>∃l xs i k y,x=.ref l/\vs=[.int i]/\H l=some (.lst xs)/\-(2 ^ 63)<=i/\i<2 ^ 63/\seqIndex? i xs.length=some k/\xs[k]?=some y/\Q y (upd H l (.lst (xs.eraseIdx k)))
theorem dQ :MtM X "list.pop" zr4:=by
 intro pins s σ H x vs v us Q I d j h;obtain⟨l,xs,i,k,y,rfl,rfl,b,m,g,hk,hy,q⟩:=h;cases d;obtain⟨u,rfl,f⟩:=j.one;obtain⟨t,rfl⟩:=f;obtain⟨z,its,n,r,c,e⟩:=I.lstM b;obtain⟨w,hw,a⟩:=r.get hy;refine call_meets F.slot_list_pop ⟨_,e,rfl⟩ F.entry_list_pop (F.args_list_pop_2 _ _)
  (MeetsSeq.list_pop_at l its.toArray n i t k w (fitsIndex_both m g) (by rw[zK4,<-c];exact hk) (by rw[<-zT4];exact hw) (by rw[zK4];exact zK0 (zL0 c.symm) z)) ⟨e,?_⟩
 refine⟨y,_,I.lset (its':=its.eraseIdx k) b e ?_ (r.eraseIdx k) ?_,a,q⟩
 ·show its.toArray.eraseIdxIfInBounds k=(its.eraseIdx k).toArray;rw[List.eraseIdxIfInBounds_toArray]
 ·have:=qo xs k;exact zK0 this z
def zH8 :R2:=λx y H Q=>∃l b xs zs,x=.ref l/\y=.ref b/\H l=some (.lst xs)/\H b=some (.lst zs)/\xs.length+zs.length<=sizeLine/\∀p,H p=none->Q (.ref p) (upd H p (.lst (xs++zs)))
theorem dM :OpR X (binaryOp .Add) zH8:=by
 intro pins s σ H x y v u Q I d o h;obtain⟨l,b,xs,zs,rfl,rfl,g,k,hz,q⟩:=h;cases d;cases o;obtain⟨z,its,n,r,m,e⟩:=I.lstM g;obtain⟨p,a,n2,i,c,j⟩:=I.lstM k;refine PySem.P.add_list e j ?_ (by rw[zK4,zK4];exact zg6 hz m c);have f:its.toArray++a.toArray=(its++a).toArray:=by simp
 rw[f];exact⟨.ref _,_,I.lnew (t':=s.toks) (r.append i) (by rw[zM9];exact hz),rfl,q _ I.fresh⟩
end
section
variable {prog:Program}{w:World}{A:Around}{E:Value->Shared->Prop}{s:Shared}
end
section
variable {X:Cx}
end
end L2
namespace Att
open PySem PySem.W PySem.Calls PyProof.Rows
theorem tj {P:Params}{h:Heap}:∀(ns:List Int) (vs:List Value),WellAll P h vs (ns.map WData.int)->IntsAre vs ns:=by
 intro ns
 induction ns with
 |nil=>
  intro vs w;rw[List.map_nil]at w;cases w;exact .nil
 |cons n ns c=>
  intro vs w;rw[zN7]at w;cases w with
  |cons a b=>
   cases a;exact .cons _ _ (c _ b)
theorem iP {l:OpenLaw}{n:Nat}(hn:l.most=some n){P:Params}{h:Heap}{args:List WData}{vals:List Value}
  (b:l.row.toRowW.claim.pre args=true) (i:WellAll P h vals args):
  ∃a vs ns,vals=[Value.ref a]/\args=[WData.list (ns.map WData.int)]/\h.get? a=some {cls:=.type "list",data:=.seq vs.toArray}/\IntsAre vs ns/\ns.length<=n:=by
 have g:WShape.hasAll [] args [.list .int]=true:=(pre_splitW b).1;have j:l.pre.holds [] {args:=args}=true:=(pre_splitW b).2;obtain⟨d,r,rfl,s,o⟩:=hasAllW_cons g;obtain rfl:=hasAllW_nil o;obtain⟨xs,rfl,m⟩:=hasW_list s;obtain⟨ns,rfl⟩:=items_int m;have hlen:ns.length<=n:=by
  unfold OpenLaw.pre at j;have f:(WTm.not (.lt (.lit (.int (n:Int))) (.len (.arg 0)))).holds [] {args:=[.list (ns.map .int)]}=true:=by
   have f:=(holds_andW j).1;rw[hn]at f;exact f
  have e:=condW_of f (w_not (w_lt w_lit (w_len_list (w_arg rfl))));rw[zJ3]at e;refine zT3 λq=>?_;have k:(n:Int)<((ns.length:Nat):Int):=(Int.ofNat_lt.2 q)
  first
   |(rw[zM8 k]at e;exact absurd e (by decide))
   |(simp at e;omega)
 cases i with
 |cons t p=>
  cases p;cases t with
  |list u c=>exact⟨_,_,ns,rfl,rfl,u,tj ns _ c,hlen⟩
theorem jF (l:OpenLaw)(args:List WData):l.row.toRowW.claim.post args (.bool true) args=true:=
 postW_of (r:=l.row.toRowW) (X:=(true == true))
  (show WShape.has [] (.bool true) .bool=true by first|rfl|decide|simp[WShape.has,WShape.arms,WShape.armsAll])
  (show(WTm.eq .res (.lit (.bool true))).value [] {args:=args,res:=some (.bool true),after:=args}=some (.bool (true == true))from w_eq_bool (w_res rfl) w_lit) rfl
theorem attach_call {l:OpenLaw}{n:Nat}{q:Program}{loose:List Str}{s:(Str->Option Value)->Heap->Prop}{k:World->Heap->Prop}{d:DefRec}
  (hn:l.most=some n) (hdf:d.params.defaults=[])
  (call:∀(w:World) (s₀ b:Shared) (mg mb:Str->Option Value) (c:Addr) (o:Obj) (pm cd doc:Value) (a:Addr) (vs:List Value) (ns:List Int),
   Ground q loose [] s w s₀ mg mb b.heap->k w b.heap->
   b.heap.get? c=some o->o.data=.func (docDef d.name d.params d.body d.scope pm cd doc)->b.heap.CodeRec cd d.name->mg d.name=some (.ref c)->
   b.heap.get? a=some {cls:=.type "list",data:=.seq vs.toArray}->IntsAre vs ns->ns.length<=n->b.gens=#[]->
   codeAny (model l.prog w) callerA (.call (.ref c) ⟨[.ref a],[]⟩) (λr s'=>r=.ok (.ret (.bool true))/\OldK b.heap s'.heap/\s'.os=b.os/\AllBare s'.gens) b):
  WalkO q loose s k l.row.toRowW d [] (λf vs=>PySem.call f vs):=by
 intro w s₀ b mg mb G Y c o pm cd doc dV kV t hd j m h hg args vals as e p x i y;obtain rfl:dV=.none:=Dflts.none m hdf;obtain rfl:kV=.none:=Dflts.noKw m;obtain⟨a,vs,ns,rfl,rfl,g,hints,hlen⟩:=iP hn e i;refine enter_call (zX8 (call w s₀ b mg mb c o pm cd doc a vs ns G Y t (fd_plain hd) j h g hints hlen hg) λr s' hq=>?_);obtain⟨rfl,v,u,z⟩:=hq;exact⟨.inl ⟨.bool true,.bool true,[],rfl,λ_=>rfl,.bool true,jF l _,λ_=>⟨List.Pairwise.nil,λ_ hm=>(nomatch hm)⟩⟩,v,u,z⟩
section
variable {prog:Program}{w:World}{A:Around}{E:Value->Shared->Prop}{s:Shared}{K:Frag}
end
end Att
namespace L2
open PySem PySem.Spec PyProof.Rows
theorem iL {vs:List Value}{ns:List Int}(h:IntsAre vs ns):Vals (ns.map V.int) vs:=by
 induction h with
 |nil=>exact .nil
 |cons n t _ a=>exact .cons ⟨t,rfl⟩ a
def inClass (s:Stmt)(j:Nat):Stmt:=match s with
 |.ClassDef _ _ _ body _ _ _ _ _ _ _=>body.getD j (.Pass ⟨0,0,0,0⟩)
 |_=>.Pass ⟨0,0,0,0⟩
def zJ (s:Stmt):Arguments:=match s with
 |.FunctionDef _ a _ _ _ _ _ _ _ _=>a
 |_=>{posonlyargs:=[],args:=[],vararg:=none,kwonlyargs:=[],kw_defaults:=[],kwarg:=none,defaults:=[]}
def zv (s:Stmt):List Stmt:=match s with
 |.FunctionDef _ _ b _ _ _ _ _ _ _=>b
 |_=>[]
def zf (s:Stmt):Scope:=match s with
 |.FunctionDef _ _ _ _ _ _ sc _ _ _=>sc
 |_=>{kind:=.function,names:=[],isGenerator:=false,isCoroutine:=false}
abbrev CX0 :CXT:=λ_ _ _ _ _ _=>False
abbrev E0 :XK:=λ_ _ _=>False
theorem oH {X:Cx}:Passes CX0 X E0:=λ_ _ _ _ _ _ _ h=>h.elim
structure Fun (K:PySem.W.Frag)(x qual:Str)(st:Stmt)(f:Addr)(fd:FuncData):Prop where
 ex:∃(oc:Value) (od:Option Addr) (kV doc pm:Value) (an:Option Addr) (cdv ct:Value) (osl:Array (Option Value)),
  fd=PySem.W.fnOf x qual (zJ st) (zv st) (zf st) .none kV doc pm an cdv ct/\K.lookup f=some ⟨oc,od,.func fd,osl⟩/\PySem.W.codeIn K cdv qual=true
 kp:PySem.W.keepIn K (.ref f)=true
section
variable {P:Program}{w:World}{K:PySem.W.Frag}{mg:Str->Option Value}{base:Heap}
theorem Fun.ok {x qual:Str}{st:Stmt}{f:Addr}{fd:FuncData}{N ps:List Str}{k:Nat}{sp:Sp}(F:Fun K x qual st f fd)(S:zS N ps (zf st))(len:∀vs H Q E,sp vs H Q E->vs.length=ps.length)
  (a:∀(cdv:Value) (A:Around) (outer:List Env) (s:Shared) (H:Hp) (vs:List V) (Q:VK) (E:XK),zK k (A.deeper (envOfC qual (zf st) s.heap.objs.size f cdv))->sp vs H Q E->
   ∃t,PSs (wo CX0 P w K mg base N qual (zf st) f cdv A outer s H E).nox (zv st) t/\t {nx:=λ_ H'=>Q .non H',rt:=Q} (start N vs) H):yD P w K mg base CX0 (k+1) f fd ps sp:=by
 obtain⟨oc,od,kV,doc,pm,an,cdv,ct,osl,rfl,d,c⟩:=F.ex;refine gc d c S len λA outer s H vs Q E hr b=>?_;obtain⟨t,h,q⟩:=a cdv A outer s H vs Q E hr b;exact⟨t,h.nox,q⟩
theorem Fun.binds {x qual:Str}{st:Stmt}{f:Addr}{fd:FuncData}{ps:List Str}(F:Fun K x qual st f fd)
  (h:∀(kV doc pm:Value) (an:Option Addr) (cdv ct:Value) (us:List Value),us.length=ps.length->bindArgs (PySem.W.fnOf x qual (zJ st) (zv st) (zf st) .none kV doc pm an cdv ct) ⟨us,[]⟩=pure (ps.zip us)):Binds K fd ps []:=by
 obtain⟨oc,od,kV,doc,pm,an,cdv,ct,osl,rfl,b,a⟩:=F.ex;exact .all (h kV doc pm an cdv ct)
theorem qM {x qual:Str}{st:Stmt}{f:Addr}{oc:Value}{od an:Option Addr}{osl:Array (Option Value)}{kV doc pm cdv ct:Value}(l:K.lookup f=some ⟨oc,od,.func (PySem.W.fnOf x qual (zJ st) (zv st) (zf st) .none kV doc pm an cdv ct),osl⟩)
  (c:PySem.W.codeIn K cdv qual=true) (k:PySem.W.keepIn K (.ref f)=true):Fun K x qual st f (PySem.W.fnOf x qual (zJ st) (zv st) (zf st) .none kV doc pm an cdv ct):=⟨⟨oc,od,kV,doc,pm,an,cdv,ct,osl,rfl,l,c⟩,k⟩
end
theorem yp {n:Nat}(h:n<=1000):n<sizeLine:=zL4 h (by decide)
section
variable {X:Cx}
theorem pv (i:Nat){x:Str}{pos:Pos}(c:X.N[i]?=some x:=by rfl)(b:Vis X.env.scope x:=by first|exact Or.inl rfl|exact Or.inr (Or.inl rfl)|exact Or.inr (Or.inr rfl))(hd:(x == ("__debug__":Str))=false:=by decide)
  (a:(x == ("__classdict__":Str))=false:=by decide):PE X (.Name x pos) (gE i):=yt c b hd a
end
theorem rE {A B:Prop}(h:B):if false=true then A else B:=by
 rw[if_neg zL5];exact h
theorem rK {A B:Prop}(h:A):if true=true then A else B:=by
 rw[if_pos rfl];exact h
theorem zH3 {c A B:Prop}[Decidable c](a:c->A)(b:¬c->B):if c then A else B:=by
 by_cases h:c
 ·rw[if_pos h];exact a h
 ·rw[if_neg h];exact b h
def zt (H H':Hp):Prop:=∀b o,H b=some o->H' b=some o
theorem zt.refl (H:Hp):zt H H:=λ_ _ h=>h
theorem zt.trans {H H1 d:Hp}(a:zt H H1)(b:zt H1 d):zt H d:=λc o h=>b c o (a c o h)
def vI (cells:List (Str×Addr)):List (Str×NameKind)->List (Str×Addr)->List (Str×Addr)
 |[],acc=>acc
 |(n,k)::r,acc=>vI cells r (if k=.free then(n,(cells.lookup n).getD 0)::acc else acc)
theorem vo {env:Env}{scope:Scope}(h:∀y∈scope.names,y.2=.free->∃c,env.cells.lookup y.1=some c):
  closureFor scope env=pure (vI env.cells scope.names []):=by
 have key:∀(ns:List (Str×NameKind)) (acc:List (Str×Addr)),(∀y∈ns,y.2=.free->∃c,env.cells.lookup y.1=some c)->
   (forIn ns acc λ(x:Str×NameKind) (r:List (Str×Addr))=>(if(x.2 == NameKind.free)=true then(do let a <-cellOf env x.1;pure (ForInStep.yield ((x.1,a)::r)))else pure (ForInStep.yield r):Sem (ForInStep (List (Str×Addr)))))=pure (vI env.cells ns acc):=by
  intro ns
  induction ns with
  |nil=>intro acc _;rfl
  |cons y r e=>
   intro acc hy;obtain⟨n,k⟩:=y;rw[z37];have hr:∀z∈r,z.2=.free->∃c,env.cells.lookup z.1=some c:=λz hz=>hy z (zJ8 _ hz);by_cases hk:k=.free
   ·subst hk;obtain⟨c,d⟩:=hy (n,.free) zK5 rfl;have e1:cellOf env n=pure c:=by
     unfold cellOf;rw[d]
    have b:((NameKind.free == NameKind.free)=true):=rfl;simp only[b,zX9,e1,pure_bind];rw[e _ hr];show _=pure (vI env.cells r (if NameKind.free=NameKind.free then(n,(env.cells.lookup n).getD 0)::acc else acc));rw[if_pos rfl,d];rfl
   ·have b:(k == NameKind.free)=false:=by simpa using hk
    simp only[b,zT5,zY3,pure_bind];rw[e _ hr];show _=pure (vI env.cells r (if k=NameKind.free then(n,(env.cells.lookup n).getD 0)::acc else acc));rw[if_neg hk]
 have q:=key scope.names [] h;unfold closureFor;simp only[]at q ⊢;rw[show(forIn scope.names ([]:List (Str×Addr)) λ(x:Str×NameKind) (r:List (Str×Addr))=>_)=_ from q];rfl
theorem pM {cells:List (Str×Addr)}:∀(ns:List (Str×NameKind)) (acc:List (Str×Addr)),(∀y∈ns,y.2=.free->∃c,cells.lookup y.1=some c)->
  ∀x c,(x,c)∈vI cells ns acc->(x,c)∈acc\/((x,NameKind.free)∈ns/\cells.lookup x=some c)
 |[],acc,_,x,c,h=>.inl h
 |(n,k)::r,acc,hy,x,c,h=>by
  have hr:∀z∈r,z.2=.free->∃c,cells.lookup z.1=some c:=λz hz=>hy z (zJ8 _ hz);have h':(x,c)∈vI cells r (if k=.free then(n,(cells.lookup n).getD 0)::acc else acc):=h;rcases pM r _ hr x c h' with q|⟨d,i⟩
  ·by_cases hk:k=.free
   ·rw[if_pos hk]at q;rcases zJ6.mp q with e|q
    ·obtain⟨c',g⟩:=hy (n,k) zK5 hk;have e1:x=n:=congrArg Prod.fst e;have b:c=(cells.lookup n).getD 0:=congrArg Prod.snd e;have a:cells.lookup n=some c':=g;rw[a]at b;have f:c=c':=b;subst e1 f hk;exact .inr ⟨zK5,a⟩
    ·exact .inl q
   ·rw[if_neg hk]at q;exact .inl q
  ·exact .inr ⟨zJ8 _ d,i⟩
theorem nG {cells:List (Str×Addr)}:∀(ns:List (Str×NameKind)) (acc:List (Str×Addr)) (p:Str×Addr),p∈acc->p∈vI cells ns acc
 |[],_,_,h=>h
 |(n,k)::r,acc,p,h=>by
  show p∈vI cells r (if k=.free then(n,(cells.lookup n).getD 0)::acc else acc);refine nG r _ p ?_;split
  ·exact zJ8 _ h
  ·exact h
theorem og {cells:List (Str×Addr)}:∀(ns:List (Str×NameKind)) (acc:List (Str×Addr)) (x:Str),(x,NameKind.free)∈ns->∃c,(x,c)∈vI cells ns acc
 |[],_,_,h=>by simp at h
 |(n,k)::r,acc,x,h=>by
  show ∃c,(x,c)∈vI cells r (if k=.free then(n,(cells.lookup n).getD 0)::acc else acc);rcases zJ6.mp h with e|h
  ·have e1:x=n:=congrArg Prod.fst e;have a:NameKind.free=k:=congrArg Prod.snd e;subst e1 a;rw[if_pos rfl];exact⟨_,nG r _ _ zK5⟩
  ·exact og r _ x h
theorem mem_lookup {x:Str}{c:Addr}:∀{l:List (Str×Addr)},(x,c)∈l->∃d,l.lookup x=some d
 |[],h=>by simp at h
 |(n,a)::r,h=>by
  rw[zP3];cases e:x == n with
  |true=>exact⟨a,rfl⟩
  |false=>
   rcases zJ6.mp h with q|q
   ·have e1:x=n:=congrArg Prod.fst q;rw[e1]at e;simp at e
   ·exact mem_lookup q
structure zF (XN:List Str)(xs:Scope)(N:List Str)(imp:List (Option Nat))(scope:Scope):Prop where
 kind:scope.kind=.function
 nd:N.Nodup
 nocell:∀y∈scope.names,y.2≠.cell
 locs:∀y∈scope.names,y.2=.local->scope.names.lookup y.1=some .local
 frees:∀y∈scope.names,y.2=.free->xs.names.lookup y.1=some .cell\/xs.names.lookup y.1=some .free
 len:imp.length=N.length
 impsB:((imp.zip N).all λp=>match p.1 with|none=>true|some j=>XN[j]? == some p.2&&scope.names.lookup p.2 == some .free)=true
theorem zF.imps {XN N:List Str}{xs scope:Scope}{imp:List (Option Nat)}(S:zF XN xs N imp scope):∀(i j:Nat),imp[i]?=some (some j)->∃x,N[i]?=some x/\XN[j]?=some x/\scope.names.lookup x=some .free:=by
 intro i j h;have hi:i<imp.length:=(zK1.mp h).1;have hn:i<N.length:=by rw[<-S.len];exact hi
 have b:N[i]?=some N[i]:=zJ2 hn;have hm:(some j,N[i])∈imp.zip N:=by
  have hz:(imp.zip N)[i]?=some (some j,N[i]):=by
   rw[List.getElem?_zip_eq_some];exact⟨h,b⟩
  exact zO3 hz
 have q:=zY4.mp S.impsB _ hm;have a:(XN[j]? == some N[i]&&scope.names.lookup N[i]==some .free)=true:=q;rw[zN1]at a;exact⟨N[i],b,eq_of_beq a.1,eq_of_beq a.2⟩
def xB (imp:List (Option Nat))(σ:St):St:=imp.map λo=>o.bind λj=>(σ[j]?).bind id
theorem jP {imp:List (Option Nat)}{σ:St}{i:Nat}{v:V}(h:(xB imp σ)[i]?=some (some v)):∃j,imp[i]?=some (some j)/\σ[j]?=some (some v):=by
 unfold xB at h;rw[zK8]at h;cases e:imp[i]? with
 |none=>rw[e]at h;cases h
 |some o=>
  rw[e]at h;have h':(o.bind λj=>(σ[j]?).bind id)=some v:=zN2 h;cases o with
  |none=>cases h'
  |some j=>
   have a:(σ[j]?).bind id=some v:=h';cases e2:σ[j]? with
   |none=>rw[e2]at a;cases a
   |some w=>
    rw[e2]at a;have b:w=some v:=a;exact⟨j,rfl,by rw[e2,b]⟩
def Cx.comp (X:Cx)(N:List Str)(scope:Scope)(C:Addr)(s2:Shared)(a:Hp)(fp:List Addr):Cx where
 prog:=X.prog
 w:=X.w
 K:=X.K
 mg:=X.mg
 base:=X.base
 A:=X.A
 N:=N
 s₀:=s2
 H₀:=a
 env:=compEnvC scope (vI X.env.cells scope.names []) C X.env
 outer:=X.stack
 stack:=X.stack
 ex:=fp
 fn:=λ_=>false
 calm:=X.calm
 pn:=[]
 xe:=λ_ _=>False
theorem uj {env:Env}:∀{names:List (Str×NameKind)}{x:Str},
  (names.map λ(n,k)=>if(k == NameKind.free&&env.scope.kind == .function&&env.kindOf n == some .cell)then(n,NameKind.cell)else(n,k)).lookup x=some .cell\/
  (names.map λ(n,k)=>if(k == NameKind.free&&env.scope.kind == .function&&env.kindOf n == some .cell)then(n,NameKind.cell)else(n,k)).lookup x=some .free->
  (∀y∈names,y.2≠.cell)->(x,NameKind.free)∈names
 |[],x,h,_=>by simp at h
 |(n,k)::r,x,h,hc=>by
  have f:=@uj env r x;rw[zN7]at h;dsimp only at h;by_cases d:x=n
  ·subst d;by_cases hk:k=.free
   ·subst hk;exact zK5
   ·have a:(k == NameKind.free)=false:=by simpa using hk
    simp only[a,z04,zT5,zY3,zP3,beq_self_eq_true,zX9]at h;rcases h with h|h
    ·have e:k=.cell:=zN2 h;exact absurd e (hc (x,k) zK5)
    ·have e:k=.free:=zN2 h;exact absurd e hk
  ·have c:(x == n)=false:=by simpa using d
   have step:∀(b:Bool) (l:List (Str×NameKind)),List.lookup x ((if b=true then(n,NameKind.cell)else(n,k))::l)=l.lookup x:=λb l=>by
    cases b<;>simp[zP3,c]
   rw[step]at h;exact zJ8 _ (f h λy hy=>hc y (zJ8 _ hy))
theorem uV {env:Env}:∀{names:List (Str×NameKind)}{x:Str},names.lookup x=some .free->
  (names.map λ(n,k)=>if(k == NameKind.free&&env.scope.kind == .function&&env.kindOf n == some .cell)then(n,NameKind.cell)else(n,k)).lookup x=some .cell\/
  (names.map λ(n,k)=>if(k == NameKind.free&&env.scope.kind == .function&&env.kindOf n == some .cell)then(n,NameKind.cell)else(n,k)).lookup x=some .free
 |[],x,h=>by simp at h
 |(n,k)::r,x,h=>by
  have a:=@uV env r x;rw[zN7];dsimp only;rw[zP3]at h;cases hx:x == n with
  |true=>
   rw[hx]at h;have e:k=.free:=zN2 h;subst e;by_cases hb:(NameKind.free == NameKind.free&&env.scope.kind == .function&&env.kindOf n == some .cell)=true
   ·left;rw[if_pos hb];simp[zP3,hx]
   ·right;rw[if_neg hb];simp[zP3,hx]
  |false=>
   rw[hx]at h;have step:∀(b:Bool) (l:List (Str×NameKind)),List.lookup x ((if b=true then(n,NameKind.cell)else(n,k))::l)=l.lookup x:=λb l=>by
    cases b<;>simp[zP3,hx]
   rw[step];exact a h
section
variable {X:Cx}{pins:List (Addr×Obj)}{σ:St}{H2 H':Hp}{s2 s':Shared}{fp:List Addr}{N:List Str}{imp:List (Option Nat)}{scope:Scope}{C acc:Addr}
theorem vw (I:Inv X pins σ H2 s2)(S:zF X.N X.env.scope N imp scope):∀y∈scope.names,y.2=.free->∃c,X.env.cells.lookup y.1=some c:=λy hy hk=>I.ok.has y.1 (S.frees y hy hk)
theorem yY (I:Inv X pins σ H2 s2)(S:zF X.N X.env.scope N imp scope){x:Str}{c:Addr}(h:(vI X.env.cells scope.names []).lookup x=some c):(x,NameKind.free)∈scope.names/\X.env.cells.lookup x=some c:=by
 rcases pM scope.names [] (vw I S) x c (zQ0 h)with q|q
 ·exact absurd q (by simp)
 ·exact q
theorem vO (I:Inv X pins σ H2 s2)(S:zF X.N X.env.scope N imp scope){x:Str}(h:(x,NameKind.free)∈scope.names):∃c,(vI X.env.cells scope.names []).lookup x=some c:=by
 obtain⟨c,a⟩:=og (cells:=X.env.cells) scope.names [] x h;exact mem_lookup a
theorem ba {f:Heap}{tk:Nat}{m:Str->Option Value}{J:Nat}(I:Inv X pins σ H2 s2)(S:zF X.N X.env.scope N imp scope)(hf:∀b∈fp,yT X pins H2 b)(R:∀b∈fp,∃o,s2.heap.get? b=some o)
  (a:acc=s2.heap.objs.size) (s:C=s2.heap.objs.size+1) (old:∀b o,s2.heap.get? b=some o->f.get? b=some o) (hn:f.Ns C m)
  (T:f.get? acc=some {cls:=.type "list",data:=.seq ([]:List Value).toArray J}):
  Inv (X.comp N scope C s2 H2 fp) [] (xB imp σ) (upd H2 acc (.lst [])) {s2 with heap:=f,toks:=tk}:=by
 have M:H2 acc=none:=I.hok.fresh (by rw[a];exact zJ5 _);have E:C≠acc:=by rw[s,a];exact Nat.succ_ne_self _
 have H:∀x c,X.env.cells.lookup x=some c->c<s2.heap.objs.size:=λx c e=>by
  obtain⟨v,q⟩:=I.cell x c e;exact q.lt
 refine⟨⟨I.ok.mod,S.kind,I.ok.glob,I.ok.blt,?above,?inj,?has,?cab,I.ok.hd,I.ok.frames,.inl rfl,?exf,λb o e=>I.bs b o e,zK0 I.ok.bsz I.sz,?noex,?exfs,I.stack,I.stkFree⟩,
  rfl,I.bare,Un.laid old (by rw[a];exact zJ5 _) M,⟨m,hn,?loc⟩,?cell,?free,?freeC,λp Q=>absurd (show p∈([]:List (Addr×Obj))from Q) (by simp),I.hok.laid old (by rw[a];exact zJ5 _) ⟨zK7 _,[],J,.nil,T⟩,?len⟩
 case above=>show s2.heap.objs.size<=C;rw[s];exact zT8 _
 case inj=>exact λx y c f Y=>I.ok.inj x y c (yY I S f).2 (yY I S Y).2
 case has=>exact λx P=>vO I S (uj (env:=X.env) P S.nocell)
 case cab=>exact λx c h _=>absurd h (by show ¬(false=true);simp)
 case exf=>
  intro b hb;obtain⟨o,t⟩:=R b hb;refine⟨?_,λx c e=>(hf b hb).2.2.2.2.1 x c (yY I S e).2⟩;show b≠C;rw[s];exact zK9 (zR6 (zK3 t))
 case noex=>
  intro b o e hb;rcases(hf b hb).2.2.2.1 with z|z
  ·exact I.ok.noex b o e z
  ·exact absurd (zJ4 (zK3 e) (zK0 I.ok.bsz z)) (zP1 _)
 case exfs=>
  intro b hb hz;rcases zJ6.mp (I.stkSub b hz)with e|e
  ·exact(hf b hb).2.1 e
  ·exact(hf b hb).2.2.1 e
 case loc=>
  intro i x v e1 V e3;obtain⟨j,O,U⟩:=jP V;obtain⟨y,n1,n2,F⟩:=S.imps i j O;have w:(X.comp N scope C s2 H2 fp).N[i]?=some y:=n1;rw[w]at e1;have B:y=x:=zN2 e1;subst B;have g:=S.frees (y,.free) (zQ0 F) rfl;obtain⟨Z,W,D⟩:=I.loc;obtain⟨u,r,l⟩:=D j y v n2 U (.inr g);refine⟨u,r,?_⟩;rcases l with⟨k,_⟩|⟨k,c,e,z⟩
  ·have L:X.env.scope.names.lookup y=some .local:=k;rcases g with z|z
   ·have n:X.env.scope.names.lookup y=some .cell:=z;rw[L]at n;cases n
   ·have n:X.env.scope.names.lookup y=some .free:=z;rw[L]at n;cases n
  ·obtain⟨d,hd⟩:=vO I S (zQ0 F);have hd2:=(yY I S hd).2;rw[e]at hd2;have A:c=d:=zN2 hd2;subst A;exact .inr ⟨uV (env:=X.env) F,c,hd,z.keeps old⟩
 case cell=>
  intro x c e;obtain⟨v,q⟩:=I.cell x c (yY I S e).2;exact⟨v,q.keeps old⟩
 case free=>
  show upd H2 acc _ C=none;rw[zg E];exact I.hok.fresh (by rw[s];exact zT8 _)
 case freeC=>
  intro x c e;have K:=(yY I S e).2;have G:=H x c K;show upd H2 acc _ c=none;rw[zg (by rw[a];exact zK9 G)];exact I.freeC x c K
 case len=>
  show(xB imp σ).length=N.length;unfold xB;rw[zJ3];exact S.len
theorem jO {pl:List (Addr×Obj)}{a:St}(I:Inv X pins σ H2 s2)(hf:∀b∈fp,yT X pins H2 b)(J:Inv (X.comp N scope C s2 H2 fp) pl a H' s'):Inv X pins σ H' s':=
 I.call' (ch:=fp) J.os J.base J.hok J.bare λb hb=>⟨(hf b hb).2.2.2.1,(hf b hb).2.1,(hf b hb).2.2.2.2.1,(hf b hb).2.2.2.2.2⟩
end
section
variable {prog:Program}{w:World}{A:Around}{R:Result->Shared->Prop}{s:Shared}
theorem qQ {elt target iter:Expr}{ifs:List Expr}{scope:Scope}{pos:Pos}{it acc:Value}{env:Env}(I:Nat->Shared->Prop)
  (turn:∀n s,I n s->wpAny (model prog w) A (pyNext it) (λr s1=>match r with
   |none=>R (.ok .next) s1
   |some v=>wpAny (model prog w) A (letOwnedTupleGo target it v) (λ_ s2=>wpAny (model prog w) A (assign target env v) (λ_ s3=>
     wpAny (model prog w) A (forIn ifs true λc r=>if r=true then do let ok <-isTrue c env (eval c env);pure (ForInStep.yield ok)else pure (ForInStep.yield r)) (λok s4=>
      if ok=true then wpAny (model prog w) A (eval elt env) (λx s5=>
       wpAny (model prog w) A (call (.builtin "list.append") [acc,x]) (λ_ a=>∃m,m<n/\I m a) (λ_ _=>False) s5) (λ_ _=>False) s4
      else ∃m,m<n/\I m s4) (λ_ _=>False) s3) (λ_ _=>False) s2) (λ_ _=>False) s1) (λ_ _=>False) s)
  (n:Nat) (h:I n s):codeAny (model prog w) A (.compLoop (.ListComp elt [⟨target,iter,ifs,0⟩] scope pos) 0 it acc env) R s:=by
 refine codeAny_loop rfl I (λn s e=>?_) n h;show wpAny _ A ((compTurn (.ListComp elt [⟨target,iter,ifs,0⟩] scope pos) 0 it acc env).onRaise (λx=>do noteFrame x env;theTreesLotGoes x)) _ _ s;refine wpAny_noted ?_;rw[compTurn_list];refine zI9 (z25 (zI9 (zO8 (turn n s e) (λr s1 b=>?_) λ_ _ h'=>False.elim h')));cases r with
 |none=>exact zJ1 b
 |some v=>
  refine zI9 (zO8 b (λ_ s2 g=>?_) λ_ _ h'=>False.elim h');refine zI9 (zO8 g (λ_ s3 f=>zI9 (zO8 f (λok s4 d=>?_) λ_ _ h'=>False.elim h')) λ_ _ h'=>False.elim h');cases ok with
  |false=>exact zJ1 ⟨rfl,d⟩
  |true=>
   exact zI9 (zI9 (zO8 d (λx s5 j=>zI9 (zO8 j (λ_ a i=>zJ1 (zJ1 ⟨rfl,i⟩)) λ_ _ h'=>False.elim h')) λ_ _ h'=>False.elim h'))
end
def wB (Y:Cx)(ifs:List Expr)(t:TT):Prop:=
 ∀(pins:List (Addr×Obj)) (s:Shared) (σ:St) (H:Hp) (Q:Bool->Hp->Prop),Inv Y pins σ H s->t σ H Q->
  wpAny (model Y.prog Y.w) Y.A (forIn ifs true λc r=>if r=true then do let ok <-isTrue c Y.env (eval c Y.env);pure (ForInStep.yield ok)else pure (ForInStep.yield r)) (TP Y pins σ Q) Y.xe s
def zI0 :TT:=λ_ H Q=>Q true H
theorem za3 {Y:Cx}:wB Y [] zI0:=λ_ _ _ H _ I h=>wpAny_tests_nil ⟨H,I,h⟩
theorem za2 {Y:Cx}{c:Expr}{t:TT}(h:PT Y c t):wB Y [c] t:=λpins s σ H Q I q=>wpAny_tests_one (h pins s σ H Q I q)
def lE (J:It)(acc:Addr)(g:TG)(tt:TT)(o:TE)(e:St)(H0:Hp)(Q:VK):Prop:=
 ∃W:Nat->Nat->List V->St->Hp->Prop,(∃m,W 0 m [] e H0)/\∀i m ys l d,W i m ys l d->
  (J.stop i d/\Q (.ref acc) d)\/(J.go i d/\∃N:List V->St->Hp->Prop,(∀b a H',N b a H'->∃k,k<m/\W (i+1) k b a H')/\
   ∀x f,J.yld i d x f->g x l f λτ2 n=>tt τ2 n λc j=>
    if c=true then o τ2 j λy h=>h acc=some (.lst ys)/\ys.length<sizeLine/\N (ys++[y]) τ2 (upd h acc (.lst (ys++[y])))else N ys τ2 j)
def gY (a:TI)(imp:List (Option Nat))(g:TG)(tt:TT)(b:TE):TE:=λσ H Q=>a σ H λJ H1=>∀acc,H1 acc=none->lE J acc g tt b (xB imp σ) (upd H1 acc (.lst [])) Q
section
variable {X:Cx}{pins:List (Addr×Obj)}{σ:St}{elt iter tg:Expr}{ifs:List Expr}{scope:Scope}{pos:Pos}{wi:TI}{g:TG}{tt:TT}{te:TE}{N:List Str}{imp:List (Option Nat)}
theorem tW {c:Hp}{s2:Shared}{it:Addr}{fp:List Addr}{tn:Nat->Heap->Prop}{J:It}{RR:Value->Addr->Result->Shared->Prop}{E:Value->Shared->Prop}{Q:VK}
  (hc:X.calm=true) (S:zF X.N X.env.scope N imp scope) (hg:∀C s2 c fp,PG (X.comp N scope C s2 c fp) tg g) (ht:∀C s2 c fp,wB (X.comp N scope C s2 c fp) ifs tt) (he:∀C s2 c fp,PE (X.comp N scope C s2 c fp) elt te)
  (Z:Inv X pins σ c s2) (T:Turn X.prog X.w X.K tg J fp it tn) (G:tn 0 s2.heap) (f2:∀b∈fp,yT X pins c b)
  (hW:∀acc,c acc=none->lE J acc g tt te (xB imp σ) (upd c acc (.lst [])) Q)
  (a6:∀a C H' s' m,Inv X pins σ H' s'->s'.heap.Ns C m->yT X pins H' C->Q (.ref a) H'->RR (.ref a) C (.ok .next) s'):
  wpAny (model X.prog X.w) X.A (newList []) (λacc s3=>wpAny (model X.prog X.w) X.A (newFunctionEnv scope X.env.globals (vI X.env.cells scope.names []) [] X.env.qual none .none (some X.env)) (λt s4=>
   codeAny (model X.prog X.w) X.A (.compStart (.ListComp elt [⟨tg,iter,ifs,0⟩] scope pos) 0 (.ref it) acc {t with scope:=relabel scope X.env}) (RR acc t.locals) s4) E s3) E s2:=by
 refine zP0 (wpAny_newFunctionEnv S.nocell (by intro y hy;simp at hy) (λh1 k j=>?_) S.kind);dsimp only at k j ⊢;generalize F:s2.heap.push {cls:=.type "list",dict:=none,data:=.seq ([]:List Value).toArray}=HH at k j ⊢;have L:HH.objs.size=s2.heap.objs.size+1:=by rw[<-F,zQ6]
 have U:s2.heap.objs.size≠HH.objs.size:=by rw[L];exact zK9 (zP2 _)
 have old:∀b o,s2.heap.get? b=some o->h1.get? b=some o:=λb o e=>j.extBut b o (by rw[L];exact zK9 (zR6 (zK3 e))) (zJ0 _ (F▸zJ0 _ e));have M:h1.get? s2.heap.objs.size=some {cls:=.type "list",data:=.seq ([]:List Value).toArray}:=j.extBut _ _ U (zJ0 _ (F▸zK2 _ rfl));obtain⟨W,⟨m0,w0⟩,turn⟩:=hW s2.heap.objs.size Z.fresh;generalize b6:HH.objs.size=C at k j L U ⊢;have ho:∀b∈fp,∃o,s2.heap.get? b=some o:=λb hb=>let⟨o,e,_⟩:=T.obj 0 _ G b hb;⟨o,e⟩;generalize f:s2.heap.objs.size=acc at *;have loop:∀s3:Shared,s3={s2 with heap:=h1,toks:=s2.toks+([]:List (Str×Value)).length}->
   codeAny (model X.prog X.w) X.A (.compLoop (.ListComp elt [⟨tg,iter,ifs,0⟩] scope pos) 0 (.ref it) (.ref acc) (X.comp N scope C s2 c fp).env) (RR (.ref acc) C) s3:=by
  rintro s3 rfl;have I3:Inv (X.comp N scope C s2 c fp) [] (xB imp σ) (upd c acc (.lst [])) {s2 with heap:=h1,toks:=s2.toks+([]:List (Str×Value)).length}:=
   ba Z S f2 ho f.symm (by rw[L,f]) old k M
  have a7:∀b∈fp,upd c acc (.lst []) b=none:=λb hb=>by
   obtain⟨o,e⟩:=ho b hb;rw[zg (by rw[<-f];exact zK9 (zK3 e))];exact(f2 b hb).1
  have l:∀{H':Hp},(∀b∈fp,H' b=none)->∀b∈fp,yT (X.comp N scope C s2 c fp) [] H' b:=λhn b hb=>by
   obtain⟨e1,e2⟩:=I3.ok.exf b hb;exact⟨hn b hb,e1,I3.ok.exfs b hb,.inl hb,e2,λp hp=>absurd (show p∈([]:List (Addr×Obj))from hp) (by simp)⟩
  refine qQ (λn s'=>∃i ys q H',Inv (X.comp N scope C s2 c fp) [] q H' s'/\tn i s'.heap/\(∀b∈fp,H' b=none)/\W i n ys q H') ?_ m0
   ⟨0,[],_,_,I3,T.keep _ _ _ G λb _ o e=>old b o e,a7,w0⟩
  rintro n s4 ⟨i,ys,q,Y,I4,I,P,w4⟩;rcases turn i n ys q Y w4 with⟨stop,qn⟩|⟨go,NN,hN,step⟩
  ·refine zO8 (T.done (X.comp N scope C s2 c fp) rfl rfl rfl hc i [] s4 q Y (λ_ _=>False) I4 (l P) I stop) (λr s5 a0=>?_) λ_ _ z=>z;obtain⟨hr,I5⟩:=a0;subst hr;obtain⟨m5,b1,_⟩:=id I5.loc;exact a6 acc C Y s5 m5 (jO Z f2 I5) b1 (Z.fpOk (by rw[L,f];exact zT8 _) I5.free) qn
  ·refine zO8 (T.item (X.comp N scope C s2 c fp) rfl rfl rfl hc i [] s4 q Y (λ_ _=>False) I4 (l P) I go) (λr s5 b5=>?_) λ_ _ z=>z;obtain⟨u,hr,h5⟩:=b5;subst hr;refine zO8 h5 (λ_ s6 a5=>?_) λ_ _ z=>z;obtain⟨x,H6,I6,r6,y6,D,b4⟩:=a5;have a8:=I6.pinned (l b4) (T.obj _ _ D);refine zO8 (hg C s2 c fp _ s6 q H6 x u _ a8 r6 (step x H6 y6)) (λ_ s7 b2=>?_) λ_ _ z=>z;obtain⟨h,H7,I7,q7⟩:=b2;refine zO8 (ht C s2 c fp _ s7 h H7 _ I7 q7) (λok s8 b0=>?_) λ_ _ z=>z;obtain⟨H8,I8,q8⟩:=b0;have again:∀{s:List V} {B:Hp} {H:Shared},Inv (X.comp N scope C s2 c fp) ([]++su fp s6.heap) h B H->NN s h B->∃m,m<n/\∃i ys q H',Inv (X.comp N scope C s2 c fp) [] q H' H/\tn i H.heap/\(∀b∈fp,H' b=none)/\W i m ys q H':=λ{s B H} R n9=>by
    obtain⟨m',hm,w9⟩:=hN s h B n9;refine⟨m',hm,i+1,s,h,B,R.unpinned,T.keep _ _ _ D λb hb o e=>(R.pin (b,o) (zL3 _ (zL3 _ (xX hb e)))).1,λb hb=>?_,w9⟩;obtain⟨o,e,d⟩:=T.obj _ _ D b hb;exact(R.pin (b,o) (zL3 _ (zL3 _ (xX hb e)))).2.1
   cases ok with
   |false=>
    have b3:NN ys h H8:=by
     have z:=q8;rw[if_neg zL5]at z;exact z
    rw[if_neg zL5];exact again I8 b3
   |true=>
    rw[if_pos rfl]at q8 ⊢;refine zO8 (he C s2 c fp _ s8 h H8 _ I8 q8) (λv H a3=>?_) λ_ _ z=>z;obtain⟨y,B,R,r9,a9,z9,q9⟩:=a3;refine zO8 (qw (X:=X.comp N scope C s2 c fp) _ H h B (.ref acc) [y] (.ref acc) [v] (λ_ O=>O=upd B acc (.lst (ys++[y]))) R rfl (.cons r9 .nil) ⟨acc,ys,y,rfl,rfl,a9,z9,rfl⟩) (λ_ b7 a2=>?_) λ_ _ z=>z;obtain⟨_,O,a4,_,a1⟩:=a2;subst a1;exact again a4 q9
 exact codeAny_compStart_list (loop _ rfl) (T.self X.A 0 _ _ _ (T.keep _ _ _ G λb _ o e=>old b o e) (loop _ rfl))
theorem zD2 (p:X.calm=true)(S:zF X.N X.env.scope N imp scope)(hi:PI X tg iter wi)(hg:∀C s2 c fp,PG (X.comp N scope C s2 c fp) tg g)(z:∀C s2 c fp,wB (X.comp N scope C s2 c fp) ifs tt)
  (he:∀C s2 c fp,PE (X.comp N scope C s2 c fp) elt te) (r:∀x,foldedSetIterable iter X.env x=pure x:=by intro _;rfl):
  PE X (.ListComp elt [⟨tg,iter,ifs,0⟩] scope pos) (gY wi imp g tt te):=by
 intro pins s σ H Q I h;rw[eval_ListComp];refine wpAny_comprehension_free (use:=none) rfl r (vo (vw I S)) S.kind S.locs (thn (hi pins s σ H _ I h) λv s1 l=>thn l λk s2 u=>?_);obtain⟨it,fp,tn,J,c,e,B,T,d,f2,t⟩:=u;subst e;refine tW (RR:=λacc C=>compPost (model X.prog X.w) X.A X.xe none (EP X pins σ Q) acc C) p S hg z he B T d f2 t λa C H' s' m n hn f q=>?_;refine⟨m,hn,λh' sb=>?_⟩;obtain⟨j,g1,g2,g3,y,i⟩:=f;exact⟨.ref a,H',n.turned (t':=s'.toks) (it:=C) (λb o hb e=>(sb.2 b hb).trans e) j g1 g3 y i,rfl,q⟩
theorem cS {i:Nat}{x:Str}{px:Pos}{c:Pos}(G:X.calm=true)(S:zF X.N X.env.scope N imp scope)(hi:PI X tg iter wi)(hg:∀C s2 d fp,PG (X.comp N scope C s2 d fp) tg g)(P:∀C s2 d fp,wB (X.comp N scope C s2 d fp) ifs tt)
  (he:∀C s2 d fp,PE (X.comp N scope C s2 d fp) elt te) (V:X.N.Nodup) (F:X.N[i]?=some x) (L:Loc X.env.scope x) (k:swapsWith (.ListComp elt [⟨tg,iter,ifs,0⟩] scope pos) (some (.Name x px)) c.line X.env=pure true:=by rfl)
  (hf:X.fn x=true\/X.env.scope.names.lookup x=some .local:=by first|exact .inl rfl|exact .inr rfl|assumption) (K:∀x,foldedSetIterable iter X.env x=pure x:=by intro _;rfl):
  PS X (.Assign [.Name x px] (.ListComp elt [⟨tg,iter,ifs,0⟩] scope pos) c) (zm8 (gY wi imp g tt te) (sj i)):=by
 intro pins s σ H D I h;rw[exec_Assign_Name_used _ _ _ _ k];refine zI9 (z25 (zI9 ?_));show wpAny _ X.A (do let _ <-comprehension (.ListComp elt [⟨tg,iter,ifs,0⟩] scope pos) scope X.env _ (newList []) false (eval iter X.env) (some (assign (.Name x px) X.env))) _ _ s;refine zI9 (zO8 (wpAny_comprehension_free (use:=some (assign (.Name x px) X.env)) (Q:=λ_ s'=>SP X pins D .next s') rfl K (vo (vw I S)) S.kind S.locs (thn (hi pins s σ H _ I h) λv s1 B=>thn B λz s2 O=>?_))
  (λ_ s' hq=>zJ1 (zJ1 hq)) λ_ _ e=>e)
 obtain⟨it,fp,tn,J,d,e,R,T,j,f2,M⟩:=O;subst e;refine tW (Q:=λx H1=>sj i x σ H1 D.nx) (RR:=λacc C=>compPost (model X.prog X.w) X.A X.xe (some (assign (.Name x px) X.env)) (λ_ s'=>SP X pins D .next s') acc C) G S hg P he R T j f2 M λa C H' s' m E hn f q=>?_;show wpAny _ X.A (assign (.Name x px) X.env (.ref a)) _ _ _;obtain⟨y,g1,g2,g3,t,u⟩:=f;refine wpAny_assign_Name (qz E V F L (show RelV (.ref a) (.ref a)from rfl) (λs4 U r=>?_) hf);obtain⟨ad,sb,l⟩:=r;have n:C≠ad:=by
  rcases l with e|e
  ·rw[e];exact g1
  ·exact(t x ad e).symm
 refine⟨m,hn.sameBut sb n,λh' p=>?_⟩;exact⟨_,H',U.turned (t':=s4.toks) (it:=C) (λb o hb e=>(p.2 b hb).trans e) y g1 g3 t u,q⟩
end
mutual
inductive DV (H:Hp):V->PyData->Prop where
 |non:DV H .non .none
 |bl (b:Bool):DV H (.bl b) (.bool b)
 |int (i:Int):DV H (.int i) (.int i)
 |str (x:Str):DV H (.str x) (.str x)
 |lst {a:Addr}{xs:List V}{ds:List PyData}:H a=some (.lst xs)->DVs H xs ds->DV H (.ref a) (.list ds)
 |tup {a:Addr}{xs:List V}{ds:List PyData}:H a=some (.tup xs)->DVs H xs ds->DV H (.ref a) (.tuple ds)
inductive DVs (H:Hp):List V->List PyData->Prop where
 |nil:DVs H [] []
 |cons {x:V}{xs:List V}{d:PyData}{ds:List PyData}:DV H x d->DVs H xs ds->DVs H (x::xs) (d::ds)
end
theorem zw4 {H:Hp}{m1:V->PyData->Prop}{m2:List V->List PyData->Prop}(l:m1 .non .none)(m:∀b,m1 (.bl b) (.bool b))(e:∀i,m1 (.int i) (.int i))(c:∀x,m1 (.str x) (.str x))
  (n:∀{a:Addr} {xs:List V} {ds:List PyData},H a=some (.lst xs)->m2 xs ds->m1 (.ref a) (.list ds)) (o:∀{a:Addr} {xs:List V} {ds:List PyData},H a=some (.tup xs)->m2 xs ds->m1 (.ref a) (.tuple ds)) (n2:m2 [] []) (p:∀{x:V} {xs:List V} {d:PyData} {ds:List PyData},m1 x d->m2 xs ds->m2 (x::xs) (d::ds)):
  (∀x d,DV H x d->m1 x d)/\∀xs ds,DVs H xs ds->m2 xs ds:=by
 let f:=λx d (_:DV H x d)=>m1 x d
 let M2:=λx d (_:DVs H x d)=>m2 x d
 have j:=λ{a} {xs} {ds} (q:H a=some (.lst xs)) (_:DVs H xs ds) (z:m2 xs ds)=>n (a:=a) q z;have k:=λ{a} {xs} {ds} (q:H a=some (.tup xs)) (_:DVs H xs ds) (z:m2 xs ds)=>o (a:=a) q z;have g:=λ{x} {xs} {d} {ds} (_:DV H x d) (_:DVs H xs ds) (y:m1 x d) (z:m2 xs ds)=>p y z;exact⟨λ_ _ h=>@DV.rec H f M2 l m e c j k n2 g _ _ h,λ_ _ h=>@DVs.rec H f M2 l m e c j k n2 g _ _ h⟩
section
variable {X:Cx}{pins:List (Addr×Obj)}{σ:St}{H:Hp}{s:Shared}
theorem bS (I:Inv X pins σ H s):(∀x d,DV H x d->∀u,RelV x u->∃as,Reads s.heap u d as)/\∀xs ds,DVs H xs ds->∀us,Vals xs us->∃as,ReadsAll s.heap us ds as:=by
 refine zw4 (m1:=λx d=>∀u,RelV x u->∃as,Reads s.heap u d as) (m2:=λxs ds=>∀us,Vals xs us->∃as,ReadsAll s.heap us ds as) ?_ ?_ ?_ ?_ ?_ ?_ ?_ ?_
 ·intro u r;cases(show u=Value.none from r);exact⟨_,.none⟩
 ·intro b u r;cases(show u=Value.bool b from r);exact⟨_,.bool b⟩
 ·intro i u r;obtain⟨t,rfl⟩:=(show ∃t,u=Value.int i t from r);exact⟨_,.int i t⟩
 ·intro x u r;obtain⟨t,rfl⟩:=(show ∃t,u=Value.str x t from r);exact⟨_,.str x t⟩
 ·intro a xs ds hq e u r;cases(show u=Value.ref a from r);obtain⟨its,f,p,hz⟩:=I.list (SqL.of hq);obtain⟨o,j,g,n,hd⟩:=p.isList;obtain⟨as,c⟩:=e _ f;exact⟨_,.list j g hd (by simpa using c)⟩
 ·intro a xs ds hq e u r;cases(show u=Value.ref a from r);obtain⟨its,f,p,hz⟩:=I.tuple (SqT.of hq);obtain⟨o,j,g,n,hd⟩:=p;obtain⟨as,c⟩:=e _ f;exact⟨_,.tuple j g hd (by simpa using c)⟩
 ·intro us r;cases r;exact⟨_,.nil⟩
 ·intro x xs d ds h e us r;cases r with
  |cons r rs=>
   obtain⟨as,c⟩:=h _ r;obtain⟨bs,k⟩:=e _ rs;exact⟨_,.cons c k⟩
theorem DV.reads (I:Inv X pins σ H s){x:V}{d:PyData}{u:Value}(h:DV H x d)(r:RelV x u):∃as,Reads s.heap u d as:=(bS I).1 _ _ h _ r
end
theorem zp4 {H H':Hp}(e:zt H H'):(∀x d,DV H x d->DV H' x d)/\∀xs ds,DVs H xs ds->DVs H' xs ds:=zw4 .non .bl .int .str (λq=>.lst (e _ _ q)) (λq=>.tup (e _ _ q)) .nil .cons
theorem DV.same {H H':Hp}(e:zt H H'){x:V}{d:PyData}(h:DV H x d):DV H' x d:=(zp4 e).1 _ _ h
def tyD :PyData->String
 |.none=>"NoneType"
 |.bool _=>"bool"
 |.int _=>"int"
 |.str _=>"str"
 |.list _=>"list"
 |.tuple _=>"tuple"
 |.dict _=>"dict"
theorem DV.ty {K:PySem.W.Frag}{H:Hp}{x:V}{d:PyData}(h:DV H x d):vK K H x (.type (tyD d)):=by
 cases h with
 |non=>exact .non
 |bl b=>exact .bl b
 |int i=>exact .int i
 |str x=>exact .str x
 |lst e _=>exact .lst e
 |tup e _=>exact .tup e
def isInt :PyData->Bool
 |.int _=>true
 |.bool _=>true
 |_=>false
def isBool :PyData->Bool
 |.bool _=>true
 |_=>false
def isStr :PyData->Bool
 |.str _=>true
 |_=>false
def isList :PyData->Bool
 |.list _=>true
 |_=>false
def aN :PyData->Bool
 |.tuple _=>true
 |_=>false
def bB (T:String)(d:PyData):Option Bool:=
 if T="int" then some (isInt d)else if T="bool" then some (isBool d)else if T="str" then some (isStr d)else if T="list" then some (isList d)else if T="tuple" then some (aN d)else none
def zn9 (t T:String):Option Bool:=if(Value.type t == Value.type T)=true then some true else if PySem.W.kitMeta T=true then(fastBuiltinMro t).map (·.contains (Value.type T))else none
theorem gq (K:PySem.W.Frag)(t T:String):PySem.W.kitOne K (.type t) (.type T)=zn9 t T:=rfl
theorem di :(["NoneType","bool","int","str","list","tuple"].all λt=>["int","bool","str","list","tuple"].all λT=>
  zn9 t T == some (if T="int" then t == "int"||t == "bool" else t == T))=true:=by decide +kernel
theorem zC3 (K:PySem.W.Frag){H:Hp}{x:V}{d:PyData}(h:DV H x d){T:String}{b:Bool}(e:bB T d=some b):PySem.W.kitOne K (.type (tyD d)) (.type T)=some b:=by
 rw[gq];have key:∀t∈["NoneType","bool","int","str","list","tuple"],∀T∈["int","bool","str","list","tuple"],zn9 t T=some (if T="int" then t == "int"||t == "bool" else t == T):=λt c T f=>
  eq_of_beq (zY4.mp (zY4.mp di t c) T f)
 have hd:tyD d∈["NoneType","bool","int","str","list","tuple"]:=by cases h<;>simp[tyD]
 unfold bB at e;split at e
 ·rename_i a;subst a;rw[key _ hd "int" (by decide)];cases e;cases h<;>rfl
 ·split at e
  ·rename_i a;subst a;rw[key _ hd "bool" (by decide)];cases e;cases h<;>rfl
  ·split at e
   ·rename_i a;subst a;rw[key _ hd "str" (by decide)];cases e;cases h<;>rfl
   ·split at e
    ·rename_i a;subst a;rw[key _ hd "list" (by decide)];cases e;cases h<;>rfl
    ·split at e
     ·rename_i a;subst a;rw[key _ hd "tuple" (by decide)];cases e;cases h<;>rfl
     ·cases e
section
variable {X:Cx}
def zv8 :R2:=λx y H Q=>∃d e,DV H x d/\DV H y e/\SeqAt.shaped d=true/\SeqAt.shaped e=true/\Q (.bl (PyData.eqv d e)) H
def zE4 :R2:=λx y H Q=>∃d e,DV H x d/\DV H y e/\SeqAt.shaped d=true/\SeqAt.shaped e=true/\Q (.bl (!PyData.eqv d e)) H
theorem zp7 (b:X.A.units+64<cLine):OpR X (compareOp .Eq) zv8:=by
 intro pins s σ H x y v u Q I a g h;obtain⟨d,e,hd,he,j,c,q⟩:=h;obtain⟨as,f⟩:=hd.reads I a;obtain⟨bs,i⟩:=he.reads I g;exact SeqAt.compareEq_shaped f i j c b ⟨.bl _,H,I,rfl,q⟩
theorem zp5 (b:X.A.units+64<cLine):OpR X (compareOp .NotEq) zE4:=by
 intro pins s σ H x y v u Q I a g h;obtain⟨d,e,hd,he,j,c,q⟩:=h;obtain⟨as,f⟩:=hd.reads I a;obtain⟨bs,i⟩:=he.reads I g;exact SeqAt.compareNe_shaped f i j c b ⟨.bl _,H,I,rfl,q⟩
theorem cj :xm X (.builtin "isinstance") (λxs H Q=>∃x T t b,xs=[x,.ty T]/\vK X.K H x t/\PySem.W.kitOne X.K t (.type T)=some b/\Q (.bl b) H):=by
 intro pins s σ H xs us Q I r h;obtain⟨x,T,t,b,rfl,ty,e,q⟩:=h;obtain⟨u,v,rfl,a,c⟩:=Vals.two r;cases(show v=Value.type T from c);exact iw I a ty e λtk=>⟨.bl b,H,I.tok tk,rfl,q⟩
theorem jH :xm X (.builtin "isinstance") (λxs H Q=>∃x T d b,xs=[x,.ty T]/\DV H x d/\bB T d=some b/\Q (.bl b) H):=by
 intro pins s σ H xs us Q I r h;obtain⟨x,T,d,b,e,hd,a,q⟩:=h;exact cj pins s σ H xs us Q I r ⟨x,T,_,b,e,hd.ty,zC3 X.K hd a,q⟩
def zg2 (i j:Int):Prop:=0<j/\j.natAbs.log2<9000
theorem sQ :OpR X (binaryOp .FloorDiv) (rI zg2 λi j=>.int (i / j)):=opI λi j _ _ _ _ _ a q=>by
 have b:(0:Int)<j:=a.1;refine floordiv_int (Int.ne_of_gt b) ?_ (.inl (PyProof.noPylong_of_log2 a.2));rw[Int.fdiv_eq_ediv_of_nonneg _ (zW4 b)];exact q
abbrev big :Int:=115792089237316195423570985008687907853269984665640564039457584007913129639936
theorem log2_small {j:Int}(h0:0<j)(h:j<big):j.natAbs.log2<9000:=by
 have hn:j.natAbs≠0:=by lia
 have a:j.natAbs<2 ^ 256:=by
  have e:(2:Nat) ^ 256=115792089237316195423570985008687907853269984665640564039457584007913129639936:=by decide +kernel
  rw[e];unfold big at h
  lia
 have b:j.natAbs.log2<256:=(Nat.log2_lt hn).mpr a
 lia
theorem oo :xm X (.type "range") (λxs H Q=>∃i j:Int,xs=[.int i,.int j]/\∀p,H p=none->Q (.ref p) (upd H p (.rng i j))):=by
 intro pins s σ H xs us Q I r h;obtain⟨i,j,rfl,q⟩:=h;obtain⟨u,v,rfl,⟨t,rfl⟩,⟨t',rfl⟩⟩:=Vals.two r;refine call_range_2 ⟨.ref s.heap.objs.size,_,I.laid (o:=.rng i j) (λb u e=>zJ0 _ e) (zJ5 _) ⟨t,t',s.toks,zK2 _ rfl⟩,rfl,q _ (I.hok.fresh (zJ5 _))⟩
def zq (lo:Int)(n:Nat):List Int:=(List.range n).map λi=>lo+(i:Nat)
theorem zc (lo:Int)(n:Nat):(zq lo n).length=n:=by simp[zq]
theorem yF {lo:Int}{n i:Nat}(h:i<n):(zq lo n)[i]?=some (lo+(i:Nat)):=by simp[zq,h]
theorem rJ {lo:Int}{n:Nat}{acc:Array Value}(h:ItemsOf (λi v=>∃t,v=.int (lo+i*1) t) acc n):Vals ((zq lo n).map V.int) acc.toList:=by
 obtain⟨d,e⟩:=h;have key:∀(xs:List V) (us:List Value),xs.length=us.length->(∀(i:Nat) (x:V) (u:Value),xs[i]?=some x->us[i]?=some u->RelV x u)->Vals xs us:=by
  intro xs
  induction xs with
  |nil=>intro us b _;cases us with|nil=>exact .nil|cons _ _=>simp at b
  |cons x xs k=>
   intro us b hr;cases us with
   |nil=>simp at b
   |cons u us=>exact .cons (hr 0 x u rfl rfl) (k us (by simpa using b) λi f g e1 a=>hr (i+1) f g (by simpa using e1) (by simpa using a))
 refine key _ _ ?_ λi x u e1 a=>?_
 ·rw[zJ3,zc];simp[d]
 ·rw[zK8]at e1;have hi:i<n:=by
   have:=(zK1.mp a).1;simp[d]at this;exact this
  rw[yF hi]at e1;have c:V.int (lo+(i:Nat))=x:=zN2 e1;subst c;obtain⟨t,j⟩:=e i u (by simpa using a);refine⟨t,?_⟩;rw[j,Int.mul_one]
theorem rC (i:X.calm=true):xm X (.type "list") (λxs H Q=>∃(p:Addr) (lo hi:Int),xs=[.ref p]/\H p=some (.rng lo hi)/\(-(2 ^ 62)<=lo/\lo<2 ^ 62/\-(2 ^ 62)<=hi/\hi<2 ^ 62)/\(hi-lo).toNat<=sizeLine/\(hi-lo).toNat<=2 ^ 24/\
  ∀l,H l=none->Q (.ref l) (upd H l (.lst ((zq lo (hi-lo).toNat).map V.int)))):=by
 intro pins s σ H xs us Q I r h;obtain⟨p,lo,hi,rfl,g,⟨k,v,f,d⟩,hz,b,q⟩:=h;obtain⟨u,rfl,c⟩:=Vals.one r;cases(show u=Value.ref p from c);obtain⟨t,t',m,e⟩:=(show zP X.prog X.w H s.heap p (.rng lo hi)from I.hok p _ g);refine call_list_range (I.ok.hd i) e (small_one k v f d) (n:=(hi-lo).toNat) (by rw[rangeSize_one];split<;>lia) b λh' tk a c' hk j hit=>?_;refine⟨.ref s.heap.objs.size,_,I.laid (o:=.lst ((zq lo (hi-lo).toNat).map V.int)) (t':=tk) hk (zJ5 _) ⟨by rw[zJ3,zc];exact hz,a.toList,c',rJ hit,by simpa using j⟩,rfl,q _ (I.hok.fresh (zJ5 _))⟩
end
def gG (X:Cx)(body:List Stmt):TS:=λD σ H=>∃t,PSs X body t/\t D σ H
theorem zI {X:Cx}{body:List Stmt}:PSs X body (gG X body):=λpins s σ H D I ⟨t,p,q⟩=>p pins s σ H D I q
theorem tH {X:Cx}{st:Stmt}{rest:List Stmt}{D:Ends}{σ:St}{H:Hp}(M:St->Hp->Prop)(g:∃t,PS X st t/\t {D with nx:=M} σ H)(k:∀a H',M a H'->∃t,PSs X rest t/\t D a H'):
  ∃t,PSs X (st::rest) t/\t D σ H:=by
 obtain⟨t1,p1,f⟩:=g;refine⟨λc a H'=>c=D/\a=σ/\H'=H,?_,rfl,rfl,rfl⟩;intro pins s a H' c I h;obtain⟨e1,j,n⟩:=h;subst e1 j n;have step:PSs X (st::rest) (zB4 t1 λd σ2 b=>d=c/\M σ2 b):=zy p1 λpins s σ2 b d l ⟨e,m⟩=>by
  subst e;obtain⟨o,p2,i⟩:=k σ2 b m;exact p2 pins s σ2 b _ l i
 refine step pins s _ _ _ I ?_;show t1 {c with nx:=λσ2 b=>c=c/\M σ2 b} _ _;have e:(λ(σ2:St) (b:Hp)=>c=c/\M σ2 b)=M:=by
  funext σ2 b
  exact propext ⟨λz=>z.2,λz=>⟨rfl,z⟩⟩
 rw[e];exact f
theorem at0 {α:Type}{x:α}{xs:List α}:atI (x::xs) 0=some x:=xR (j:=0) rfl
theorem cZ (ns:List Int)(lo hi:Option Int):∃ms:List Int,tS (ns.map V.int) lo hi=ms.map V.int/\ms.length<=ns.length:=by
 refine⟨(ns.drop (HT.sIx (ns.map V.int).length 0 lo)).take (HT.sIx (ns.map V.int).length (ns.map V.int).length hi-HT.sIx (ns.map V.int).length 0 lo),?_,?_⟩
 ·unfold tS;rw[List.map_take,List.map_drop]
 ·rw[zM3,zS2];omega
def zy4 (bs:List Int):Prop:=∃x y:Int,bs=[x,y]/\0<=y/\y<4294967296
structure yI (H:Hp)(t b c:Addr):Prop where
 ex:∃(n:Int) (bs cs:List Int),(b=t/\c=t)/\H t=some (.lst (bs.map V.int))/\H b=some (.lst (bs.map V.int))/\H c=some (.lst (cs.map V.int))/\zy4 bs/\n=0
def zp1 (t b:Addr)(H H':Hp):Prop:=∀a,a≠t->a≠b->H' a=H a
def dR :Sp:=λvs H Q _=>∃(t b c:Addr) (many:Int),vs=[.ref t,.int many]/\yI H t b c/\0<many/\many<big/\
 ∀(v:Int) (H':Hp),0<=v->v<many->yI H' t b c->zp1 t b H H'->Q (.int v) H'
theorem yI.free {H:Hp}{t b c l:Addr}(T:yI H t b c)(h:H l=none):l≠t/\l≠b/\l≠c:=by
 obtain⟨n,bs,cs,n1,e1,a,d,l1,l2⟩:=T.ex;exact⟨(zm e1 h).symm,(zm a h).symm,(zm d h).symm⟩
theorem yI.off {H H':Hp}{t b c:Addr}(T:yI H t b c)(h:∀a,a=t\/a=b\/a=c->H' a=H a):yI H' t b c:=by
 obtain⟨n,bs,cs,n1,e1,d,e,l1,l2⟩:=T.ex;exact⟨n,bs,cs,n1,by rw[h t (.inl rfl)];exact e1,by rw[h b (.inr (.inl rfl))];exact d,by rw[h c (.inr (.inr rfl))];exact e,l1,l2⟩
theorem fR {H:Hp}{t b c l:Addr}{o:HO}(T:yI H t b c)(h:l≠t/\l≠b/\l≠c):yI (upd H l o) t b c:=
 T.off λa ha=>zg (ha.elim (λe=>e▸h.1.symm) λha=>ha.elim (λe=>e▸h.2.1.symm) λe=>e▸h.2.2.symm)
theorem jD {H H':Hp}{t b c:Addr}(T:yI H t b c)(s:zt H H'):yI H' t b c:=by
 obtain⟨n,bs,cs,n1,e1,a,d,l1,l2⟩:=T.ex;exact⟨n,bs,cs,n1,s _ _ e1,s _ _ a,s _ _ d,l1,l2⟩
theorem zL {H:Hp}{p:Addr}{o:HO}(h:H p=none):zt H (upd H p o):=λb u e=>by rw[zg (zm e h)];exact e
def yc :Addr:=(147:Nat)
def xk :Str:="cheapest_first.<locals>.<lambda>"
def uU (x:Addr):Prop:=x=yc
def uL (c:Addr):HO:=.ext λh=>h.CodeRec (.ref c) xk
structure TabAt (H:Hp):Prop where
 ex:∃ps:Array Value,H yc=some (.tbl ps)/\TriplesOk ps.toList/\∀pos cv,codeAmong pos ps.toList=some cv->∃c,cv=.ref c/\H c=some (uL c)
theorem sH {H H':Hp}(T:TabAt H)(h:∀a o,(∀xs,o≠.lst xs)->H a=some o->H' a=some o):TabAt H':=by
 obtain⟨ps,e1,f,b⟩:=T.ex;refine⟨ps,h _ _ (λxs z=>nomatch z) e1,f,λpos cv e=>?_⟩;obtain⟨c,rfl,d⟩:=b pos cv e;exact⟨c,rfl,h _ _ (λxs z=>nomatch z) d⟩
def Plain (H:Hp)(l:Addr):Prop:=∀o,H l=some o->o≠uL l/\∀ps,o≠.tbl ps
theorem bH {H:Hp}{l:Addr}{o:HO}(T:TabAt H)(h:Plain H l):TabAt (upd H l o):=by
 obtain⟨ps,e1,d,e⟩:=T.ex;have n1:yc≠l:=λz=>by rw[z]at e1;exact(h _ e1).2 ps rfl
 refine⟨ps,by rw[zg n1];exact e1,d,λpos cv b=>?_⟩;obtain⟨c,rfl,a⟩:=e pos cv b;have n2:c≠l:=λz=>by subst z;exact(h _ a).1 rfl
 exact⟨c,rfl,by rw[zg n2];exact a⟩
theorem jB {ps:Array Value}:∀a,HO.tbl ps≠HO.tup a:=λ_ z=>by cases z
theorem tq {H:Hp}{x:Addr}(T:TabAt H)(h:uU x):∃o,H x=some o/\(∀a,o≠.tup a)/\∀xs,o≠.lst xs:=by
 obtain⟨ps,e1,_⟩:=T.ex;exact⟨_,by rw[h];exact e1,jB,λ_ z=>by cases z⟩
theorem qf {H:Hp}{l:Addr}{xs:List V}(h:H l=some (.lst xs)):Plain H l:=λo e=>by
 rw[h]at e;cases e;exact⟨(λz=>by cases z),λps z=>by cases z⟩
theorem gK {H:Hp}{l:Addr}{xs:List (Key×V)}(h:H l=some (.dK xs)):Plain H l:=λo e=>by
 rw[h]at e;cases e;exact⟨(λz=>by cases z),λps z=>by cases z⟩
theorem jq {H:Hp}{l C dx:Addr}{fs:List (Str×V)}(h:H l=some (.ins C dx fs)):Plain H l:=λo e=>by
 rw[h]at e;cases e;exact⟨(λz=>by cases z),λps z=>by cases z⟩
theorem vN {H:Hp}{l:Addr}(T:TabAt H)(h:H l=none):¬uU l:=λz=>by
 obtain⟨o,e,_⟩:=tq T z;rw[h]at e;cases e
theorem bU {H H':Hp}{t b:Addr}{xs ys:List V}(T:TabAt H)(c:H t=some (.lst xs))(hb:H b=some (.lst ys))(off:zp1 t b H H'):TabAt H':=sH T λa o no e=>by
 have n1:a≠t:=λz=>by rw[z,c]at e;cases e;exact no _ rfl
 have n2:a≠b:=λz=>by rw[z,hb]at e;cases e;exact no _ rfl
 rw[off a n1 n2];exact e
theorem zr2 {H H':Hp}(T:TabAt H)(h:zt H H'):TabAt H':=sH T λa o _ e=>h a o e
def pQ (K:PySem.W.Frag):Sp:=λvs H Q _=>∃(a:Addr) (ns:List Int),vs=[.ref a]/\SqL K H a (ns.map V.int)/\ns.length<=63/\TabAt H/\∀H',Q (.bl true) H'
structure zY (n:Nat)(d:PyData):Prop where
 shw:d.showable=true
 nod:d.hasDict=false
 dep:d.depth<=8
 len:d.shown.length<=n
 lay:d.canLay0=true
theorem zY.mono {m n:Nat}{d:PyData}(h:zY m d)(e:m<=n):zY n d:=⟨h.shw,h.nod,h.dep,zK0 h.len e,h.lay⟩
theorem uP :∀(a:List Str) (k:Nat) (acc:Str),(textFrom k acc a).length<=acc.length+piled a
 |[],_,acc=>by rw[piled_nil];exact zJ5 _
 |t::r,k,acc=>by
  have h:=uP r (k+1) (acc++(if k > 0 then ", " else "":String)++t);rw[piled_cons];have c:(Str.ofString (if k > 0 then ", " else "":String)).length<=2:=by
   split
   ·exact zL0 rfl
   ·exact zK7 _
  have d:=z27 (acc++Str.ofString (if k > 0 then ", " else "":String)) t;have b:=z27 acc (Str.ofString (if k > 0 then ", " else "":String));show(textFrom (k+1) (acc++Str.ofString (if k > 0 then ", " else "":String)++t) r).length<=_;have h':(textFrom (k+1) (acc++Str.ofString (if k > 0 then ", " else "":String)++t) r).length<=(acc++Str.ofString (if k > 0 then ", " else "":String)++t).length+piled r:=h
  lia
theorem ny (a:List Str):(listText a).length<=piled a+2:=by
 unfold listText;rw[z27];have h:=uP a 0 (Str.ofString "[");have e1:(Str.ofString "[").length=1:=rfl;have b:(Str.ofString "]").length=1:=rfl;show(textFrom 0 (Str.ofString "[") a).length+(Str.ofString "]").length<=_
 lia
theorem qZ (a:List Str):(tupleText a).length<=piled a+3:=by
 cases a with
 |nil=>decide +kernel
 |cons t r=>
  have h:=join_length_add (t::r) (by simp);unfold tupleText;rw[z27,z27];have e1:(Str.ofString "(").length=1:=rfl;have b:(Str.ofString (if(t::r).length == 1 then ",)" else ")":String)).length<=2:=by
   split
   ·exact zL0 rfl
   ·exact zN5 (show 1<2 by decide)
  show(Str.ofString "(").length+(Str.join ", " (t::r)).length+(Str.ofString (if(t::r).length == 1 then ",)" else ")":String)).length<=_
  lia
theorem wu {n:Nat}:∀(ds:List PyData),(∀d∈ds,zY n d)->piled (PyData.shownAll ds)<=ds.length*(n+2)
 |[],_=>zK7 _
 |d::r,h=>by
  have b:=(h d zK5).len;have a:=wu r λe he=>h e (zJ8 _ he);show piled (d.shown::PyData.shownAll r)<=_;rw[piled_cons,zL8,Nat.succ_mul]
  lia
structure zW (n:Nat)(ds:List PyData):Prop where
 all:∀d∈ds,zY n d
 dep:∀d∈ds,d.depth<=7
theorem zW.parts {n:Nat}:∀{ds:List PyData},zW n ds->PyData.showableAll ds=true/\PyData.hasDictAll ds=false/\PyData.depthAll ds<=7/\PyData.canLayAll0 ds=true
 |[],_=>⟨rfl,rfl,zK7 _,rfl⟩
 |d::r,h=>by
  obtain⟨a,b,c,e⟩:=zW.parts (ds:=r) ⟨λx f=>h.all x (zJ8 _ f),λx f=>h.dep x (zJ8 _ f)⟩;have hd:=h.all d zK5;have g:=h.dep d zK5;refine⟨?_,?_,?_,?_⟩
  ·simp only[PyData.showableAll,hd.shw,a,Bool.and_self]
  ·simp only[PyData.hasDictAll,hd.nod,b,Bool.or_self]
  ·simp only[PyData.depthAll];exact zA8 g c
  ·simp only[PyData.canLayAll0,hd.lay,e,Bool.and_self]
theorem zY.list {n m:Nat}{ds:List PyData}(h:zW n ds)(e:ds.length*(n+2)+2<=m):zY m (.list ds):=by
 obtain⟨a,b,c,f⟩:=h.parts;refine⟨by simp only[PyData.showable,a],by simp only[PyData.hasDict,b],by simp only[PyData.depth];exact zk5 c,?_,by simp only[PyData.canLay0,f]⟩;show(listText (PyData.shownAll ds)).length<=m;have g:=ny (PyData.shownAll ds);have d:=wu ds h.all;exact zi3 e g d
theorem zY.tuple {n m:Nat}{ds:List PyData}(h:zW n ds)(e:ds.length*(n+2)+3<=m):zY m (.tuple ds):=by
 obtain⟨a,b,c,f⟩:=h.parts;refine⟨by simp only[PyData.showable,a],by simp only[PyData.hasDict,b],by simp only[PyData.depth];exact zk5 c,?_,by simp only[PyData.canLay0,f]⟩;show(tupleText (PyData.shownAll ds)).length<=m;have g:=qZ (PyData.shownAll ds);have d:=wu ds h.all;exact zi3 e g d
theorem eB {i:Int}(h0:-big<i)(a:i<big):i.natAbs.log2<1920:=by
 by_cases hn:i.natAbs=0
 ·rw[hn];decide
 ·have b:i.natAbs<2 ^ 256:=by
   have e:(2:Nat) ^ 256=115792089237316195423570985008687907853269984665640564039457584007913129639936:=by decide +kernel
   rw[e];unfold big at h0 a
   lia
  have c:i.natAbs.log2<256:=(Nat.log2_lt hn).mpr b
  lia
theorem zY.int {i:Int}(h0:-big<i)(b:i<big):zY 2000 (.int i):=by
 have a:=eB h0 b;refine⟨by simp only[PyData.showable,zU6];exact a,rfl,zK7 _,?_,rfl⟩;have:=int_text_len_1921 a;show(Str.ofString (toString i)).length<=2000
 lia
theorem zY.none :zY 2000 .none:=⟨rfl,rfl,zK7 _,by decide +kernel,rfl⟩
theorem zY.bool (b:Bool):zY 2000 (.bool b):=⟨rfl,rfl,zK7 _,by cases b<;>decide +kernel,rfl⟩
theorem zY.shaped {n:Nat}{d:PyData}(h:zY n d):SeqAt.shaped d=true:=by
 unfold SeqAt.shaped;rw[h.lay,Bool.true_and,zU6];have:=h.dep
 lia
section
variable {X:Cx}
end
def zF4 :PyData->Bool
 |.int _=>true
 |_=>false
def yL (lo hi:Int):PyData->Bool
 |.int i=>decide (lo<=i)&&decide (i<=hi)
 |_=>false
def pairD :PyData->Bool
 |.tuple ds=>decide ((ds.length:Int)=2)
 |_=>false
abbrev iT :PyData->Bool:=yL 0 1000000
def zI8 :PyData->Bool
 |.tuple [a,b]=>iT a&&iT b
 |_=>false
def zt5 :PyData->Option Int
 |.tuple [.int a,.int b]=>if iT (.int a)&&iT (.int b)then some (b-a)else none
 |_=>none
def wF (d:PyData):Bool:=match zt5 d with
 |some k=>decide (0<=k)
 |none=>false
noncomputable def sub (p:Addr->Prop)(H:Hp):Hp:=λa=>open Classical in if p a then H a else none
theorem zi {p:Addr->Prop}{H:Hp}{a:Addr}{o:HO}(h:sub p H a=some o):p a/\H a=some o:=by
 unfold sub at h;split at h
 ·rename_i b;exact⟨b,h⟩
 ·cases h
theorem zG {p:Addr->Prop}{H:Hp}{a:Addr}{o:HO}(b:p a)(h:H a=some o):sub p H a=some o:=by
 unfold sub;rw[if_pos b];exact h
theorem zr {p q:Addr->Prop}{H H':Hp}(h:∀a o,p a->H a=some o->q a/\H' a=some o):zt (sub p H) (sub q H'):=λa o e=>by
 obtain⟨c,he⟩:=zi e;obtain⟨hq,b⟩:=h a o c he;exact zG hq b
theorem xh {p:Addr->Prop}{H:Hp}:zt (sub p H) H:=λ_ _ e=>(zi e).2
theorem zW.snoc {n:Nat}{ds:List PyData}{d:PyData}(h:zW n ds)(hd:zY n d)(a:d.depth<=7):zW n (ds++[d]):=
 ⟨λe he=>(zL6.mp he).elim (h.all e) λz=>by rw[zL9.mp z];exact hd,λe he=>(zL6.mp he).elim (h.dep e) λz=>by rw[zL9.mp z];exact a⟩
theorem zW.nil {n:Nat}:zW n []:=⟨λd hd=>by simp at hd,λd hd=>by simp at hd⟩
theorem zW.two {n:Nat}{d e:PyData}(hd:zY n d)(he:zY n e)(a:d.depth<=7)(b:e.depth<=7):zW n [d,e]:=(zW.nil.snoc hd a).snoc he b
section
variable {X:Cx}{e:Expr}{es:List Expr}
def uh (X:Cx)(e:Expr):TE:=λσ H Q=>∃t,PE X e t/\t σ H Q
theorem zh :PE X e (uh X e):=λpins s σ H Q I a=>by obtain⟨t,p,q⟩:=a;exact p pins s σ H Q I q
def zx6 (X:Cx)(e:Expr):TT:=λσ H Q=>∃t,PT X e t/\t σ H Q
theorem xo :PT X e (zx6 X e):=λpins s σ H Q I a=>by obtain⟨t,p,q⟩:=a;exact p pins s σ H Q I q
def zw9 (X:Cx)(es:List Expr):TA:=λσ H Q=>∃t,PA X es t/\t σ H Q
theorem yy :PA X es (zw9 X es):=λpos pins s σ H Q I a=>by obtain⟨t,p,q⟩:=a;exact p pos pins s σ H Q I q
end
def oq :Key->PyData
 |.inl i=>.int i
 |.inr x=>.str x
def xcO (a C:Addr)(d:Option Addr):HO:=.ext λh=>∃o vs,h.get? a=some o/\o.cls=.ref C/\o.dict=d/\o.data=.fields vs
mutual
inductive AV (H:Hp):V->PyData->Prop where
 |non:AV H .non .none
 |bl (b:Bool):AV H (.bl b) (.bool b)
 |int (i:Int):AV H (.int i) (.int i)
 |str (x:Str):AV H (.str x) (.str x)
 |lst {a:Addr}{xs:List V}{ds:List PyData}:H a=some (.lst xs)->AVs H xs ds->AV H (.ref a) (.list ds)
 |tup {a:Addr}{xs:List V}{ds:List PyData}:H a=some (.tup xs)->AVs H xs ds->AV H (.ref a) (.tuple ds)
 |ins {a C dx:Addr}{fs:List (Str×V)}{ds:List (PyData×PyData)}:H a=some (.ins C dx fs)->AVf H fs ds->AV H (.ref a) (.dict ((.int (C:Nat),.none)::ds))
 |dk {a:Addr}{o:Obj}{kvs:List (Key×V)}{ds:List (PyData×PyData)}:H a=some (.frz o (.dK kvs))->AVk H kvs ds->AV H (.ref a) (.dict ((.none,.none)::ds))
 |dt {a:Addr}{o:Obj}{kvs:List (List Key×V)}{ds:List (PyData×PyData)}:H a=some (.frz o (.dT kvs))->AVt H kvs ds->AV H (.ref a) (.dict ((.none,.bool true)::ds))
 |xc {a C dx:Addr}{fs:List (Str×V)}{ds:List (PyData×PyData)}:H a=some (xcO a C (some dx))->H dx=some (.xd fs)->AVf H fs ds->AV H (.ref a) (.dict ((.int (C:Nat),.bool true)::ds))
 |xn {a C:Addr}:H a=some (xcO a C none)->AV H (.ref a) (.dict [(.int (C:Nat),.bool false)])
inductive AVs (H:Hp):List V->List PyData->Prop where
 |nil:AVs H [] []
 |cons {x:V}{xs:List V}{d:PyData}{ds:List PyData}:AV H x d->AVs H xs ds->AVs H (x::xs) (d::ds)
inductive AVf (H:Hp):List (Str×V)->List (PyData×PyData)->Prop where
 |nil:AVf H [] []
 |cons {f:Str}{x:V}{fs:List (Str×V)}{d:PyData}{ds:List (PyData×PyData)}:AV H x d->AVf H fs ds->AVf H ((f,x)::fs) ((.str f,d)::ds)
inductive AVk (H:Hp):List (Key×V)->List (PyData×PyData)->Prop where
 |nil:AVk H [] []
 |cons {k:Key}{x:V}{fs:List (Key×V)}{d:PyData}{ds:List (PyData×PyData)}:AV H x d->AVk H fs ds->AVk H ((k,x)::fs) ((oq k,d)::ds)
inductive AVt (H:Hp):List (List Key×V)->List (PyData×PyData)->Prop where
 |nil:AVt H [] []
 |cons {k:List Key}{x:V}{fs:List (List Key×V)}{d:PyData}{ds:List (PyData×PyData)}:AV H x d->AVt H fs ds->AVt H ((k,x)::fs) ((.tuple (k.map oq),d)::ds)
end
theorem dH {H:Hp}{m1:V->PyData->Prop}{m2:List V->List PyData->Prop}{m3:List (Str×V)->List (PyData×PyData)->Prop}{m4:List (Key×V)->List (PyData×PyData)->Prop}{m5:List (List Key×V)->List (PyData×PyData)->Prop}
  (r:m1 .non .none) (n:∀b,m1 (.bl b) (.bool b)) (j:∀i,m1 (.int i) (.int i)) (s:∀x,m1 (.str x) (.str x))
  (Q:∀{a xs ds},H a=some (.lst xs)->m2 xs ds->m1 (.ref a) (.list ds)) (S:∀{a xs ds},H a=some (.tup xs)->m2 xs ds->m1 (.ref a) (.tuple ds))
  (L:∀{a C dx fs ds},H a=some (.ins C dx fs)->m3 fs ds->m1 (.ref a) (.dict ((.int (C:Nat),.none)::ds))) (R:∀{a o kvs ds},H a=some (.frz o (.dK kvs))->m4 kvs ds->m1 (.ref a) (.dict ((.none,.none)::ds)))
  (O:∀{a o kvs ds},H a=some (.frz o (.dT kvs))->m5 kvs ds->m1 (.ref a) (.dict ((.none,.bool true)::ds))) (K:∀{a C dx fs ds},H a=some (xcO a C (some dx))->H dx=some (.xd fs)->m3 fs ds->m1 (.ref a) (.dict ((.int (C:Nat),.bool true)::ds)))
  (e:∀{a C},H a=some (xcO a C none)->m1 (.ref a) (.dict [(.int (C:Nat),.bool false)]))
  (n2:m2 [] []) (T:∀{x xs d ds},m1 x d->m2 xs ds->m2 (x::xs) (d::ds)) (A:m3 [] []) (M:∀{f x fs d ds},m1 x d->m3 fs ds->m3 ((f,x)::fs) ((.str f,d)::ds))
  (F:m4 [] []) (U:∀{k x fs d ds},m1 x d->m4 fs ds->m4 ((k,x)::fs) ((oq k,d)::ds)) (E:m5 [] []) (P:∀{k x fs d ds},m1 x d->m5 fs ds->m5 ((k,x)::fs) ((.tuple (k.map oq),d)::ds)):
  (∀x d,AV H x d->m1 x d)/\(∀x d,AVs H x d->m2 x d)/\(∀x d,AVf H x d->m3 x d)/\(∀x d,AVk H x d->m4 x d)/\∀x d,AVt H x d->m5 x d:=by
 have m:=λ{a} {xs} {ds} (q:H a=some (.lst xs)) (_:AVs H xs ds) (z:m2 xs ds)=>Q q z;have J:=λ{a} {xs} {ds} (q:H a=some (.tup xs)) (_:AVs H xs ds) (z:m2 xs ds)=>S q z;have g:=λ{a C dx} {fs} {ds} (q:H a=some (.ins C dx fs)) (_:AVf H fs ds) (z:m3 fs ds)=>L q z;have D:=λ{a o} {fs} {ds} (q:H a=some (.frz o (.dK fs))) (_:AVk H fs ds) (z:m4 fs ds)=>R q z;have p:=λ{a o} {fs} {ds} (q:H a=some (.frz o (.dT fs))) (_:AVt H fs ds) (z:m5 fs ds)=>O q z;have c:=λ{a C dx} {fs} {ds} (q:H a=some (xcO a C (some dx))) (N:H dx=some (.xd fs)) (_:AVf H fs ds) (z:m3 fs ds)=>K q N z;have B:=λ{x} {xs} {d} {ds} (_:AV H x d) (_:AVs H xs ds) (y:m1 x d) (z:m2 xs ds)=>T y z;have l:=λ{f} {x} {fs} {d} {ds} (_:AV H x d) (_:AVf H fs ds) (y:m1 x d) (z:m3 fs ds)=>M (f:=f) y z;have w:=λ{k} {x} {fs} {d} {ds} (_:AV H x d) (_:AVk H fs ds) (y:m1 x d) (z:m4 fs ds)=>U (k:=k) y z;have G:=λ{k} {x} {fs} {d} {ds} (_:AV H x d) (_:AVt H fs ds) (y:m1 x d) (z:m5 fs ds)=>P (k:=k) y z
 let v:=λx d (_:AV H x d)=>m1 x d
 let M2:=λx d (_:AVs H x d)=>m2 x d
 let I:=λx d (_:AVf H x d)=>m3 x d
 let t:=λx d (_:AVk H x d)=>m4 x d
 let u:=λx d (_:AVt H x d)=>m5 x d
 exact⟨λ_ _ h=>@AV.rec H v M2 I t u r n j s m J g D p c e n2 B A l F w E G _ _ h,λ_ _ h=>@AVs.rec H v M2 I t u r n j s m J g D p c e n2 B A l F w E G _ _ h,λ_ _ h=>@AVf.rec H v M2 I t u r n j s m J g D p c e n2 B A l F w E G _ _ h,λ_ _ h=>@AVk.rec H v M2 I t u r n j s m J g D p c e n2 B A l F w E G _ _ h,λ_ _ h=>@AVt.rec H v M2 I t u r n j s m J g D p c e n2 B A l F w E G _ _ h⟩
theorem AVs.ind {H:Hp}{motive:(xs:List V)->(ds:List PyData)->AVs H xs ds->Prop}(nil:motive [] [] .nil)(cons:∀{x:V}{xs:List V}{d:PyData}{ds:List PyData} (a:AV H x d) (r:AVs H xs ds),motive xs ds r->motive (x::xs) (d::ds) (.cons a r)){xs:List V}{ds:List PyData}(h:AVs H xs ds):motive xs ds h:=
 ((dH (m1:=AV H) (m2:=λxs ds=>∃h:AVs H xs ds,motive xs ds h) (m3:=AVf H) (m4:=AVk H) (m5:=AVt H) .non .bl .int .str (λq z=>.lst q z.1) (λq z=>.tup q z.1) .ins .dk .dt .xc .xn ⟨.nil,nil⟩ (λa z=>⟨.cons a z.1,cons a z.1 z.2⟩) .nil .cons .nil .cons .nil .cons).2.1 _ _ h).2
theorem AVf.ind {H:Hp}{motive:(xs:List (Str×V))->(ds:List (PyData×PyData))->AVf H xs ds->Prop}(nil:motive [] [] .nil)(cons:∀{f:Str}{x:V}{fs:List (Str×V)}{d:PyData}{ds:List (PyData×PyData)} (a:AV H x d) (r:AVf H fs ds),motive fs ds r->motive ((f,x)::fs) ((.str f,d)::ds) (.cons a r)){xs:List (Str×V)}{ds:List (PyData×PyData)}(h:AVf H xs ds):motive xs ds h:=
 ((dH (m1:=AV H) (m2:=AVs H) (m3:=λxs ds=>∃h:AVf H xs ds,motive xs ds h) (m4:=AVk H) (m5:=AVt H) .non .bl .int .str .lst .tup (λq z=>.ins q z.1) .dk .dt (λq s z=>.xc q s z.1) .xn .nil .cons ⟨.nil,nil⟩ (λa z=>⟨.cons a z.1,cons a z.1 z.2⟩) .nil .cons .nil .cons).2.2.1 _ _ h).2
theorem gD {H H':Hp}(e:zt H H'):(∀x d,AV H x d->AV H' x d)/\(∀x d,AVs H x d->AVs H' x d)/\(∀x d,AVf H x d->AVf H' x d)/\(∀x d,AVk H x d->AVk H' x d)/\∀x d,AVt H x d->AVt H' x d:=by refine dH (m1:=λx d=>AV H' x d) (m2:=λx d=>AVs H' x d) (m3:=λx d=>AVf H' x d) (m4:=λx d=>AVk H' x d) (m5:=λx d=>AVt H' x d) .non .bl .int .str (λhq a=>.lst (e _ _ hq) a) (λhq a=>.tup (e _ _ hq) a) (λhq a=>.ins (e _ _ hq) a) (λhq a=>.dk (e _ _ hq) a) (λhq a=>.dt (e _ _ hq) a) (λhq hd a=>.xc (e _ _ hq) (e _ _ hd) a) (λhq=>.xn (e _ _ hq)) .nil .cons .nil .cons .nil .cons .nil .cons
theorem AV.same {H H':Hp}(e:zt H H'){x:V}{d:PyData}(h:AV H x d):AV H' x d:=(gD e).1 _ _ h
theorem AVs.same {H H':Hp}(e:zt H H'){xs:List V}{ds:List PyData}(h:AVs H xs ds):AVs H' xs ds:=(gD e).2.1 _ _ h
theorem AVk.same {H H':Hp}(e:zt H H'){fs:List (Key×V)}{ds:List (PyData×PyData)}(h:AVk H fs ds):AVk H' fs ds:=(gD e).2.2.2.1 _ _ h
theorem dv5 {H:Hp}:(∀x d,AV H x d->d.hasDict=false->DV H x d)/\(∀x d,AVs H x d->PyData.hasDictAll d=false->DVs H x d):=by
 have r:=dH (H:=H) (m1:=λx d=>d.hasDict=false->DV H x d) (m2:=λx d=>PyData.hasDictAll d=false->DVs H x d) (m3:=λ_ _=>True) (m4:=λ_ _=>True) (m5:=λ_ _=>True) (λ_=>.non) (λb _=>.bl b) (λi _=>.int i) (λx _=>.str x) (λhq a h=>.lst hq (a (by simpa only[PyData.hasDict]using h))) (λhq a h=>.tup hq (a (by simpa only[PyData.hasDict]using h))) (λ_ _ h=>by simp[PyData.hasDict]at h) (λ_ _ h=>by simp[PyData.hasDict]at h) (λ_ _ h=>by simp[PyData.hasDict]at h) (λ_ _ _ h=>by simp[PyData.hasDict]at h) (λ_ h=>by simp[PyData.hasDict]at h) (λ_=>.nil)
  (λh a e=>by
   simp only[PyData.hasDictAll,Bool.or_eq_false_iff]at e;exact .cons (h e.1) (a e.2)) trivial (λ_ _=>trivial) trivial (λ_ _=>trivial) trivial (λ_ _=>trivial)
 exact⟨r.1,r.2.1⟩
theorem AV.dv {H:Hp}{x:V}{d:PyData}(h:AV H x d)(e:d.hasDict=false):DV H x d:=dv5.1 _ _ h e
theorem AVs.length {H:Hp}{xs:List V}{ds:List PyData}(h:AVs H xs ds):xs.length=ds.length:=h.ind (motive:=λxs ds _=>xs.length=ds.length) rfl λ_ _ z=>congrArg (·+1) z
theorem AVs.append {H:Hp}{xs ys:List V}{ds es:List PyData}(h:AVs H xs ds)(k:AVs H ys es):AVs H (xs++ys) (ds++es):=h.ind (motive:=λxs ds _=>AVs H (xs++ys) (ds++es)) k λa _ z=>.cons a z
theorem AVs.get {H:Hp}{xs:List V}{ds:List PyData}{i:Nat}{d:PyData}(h:AVs H xs ds)(e:ds[i]?=some d):∃x,xs[i]?=some x/\AV H x d:=by
 induction h using AVs.ind generalizing i with
 |nil=>simp at e
 |cons a _ b=>
  cases i with
  |zero=>exact⟨_,rfl,zN2 e▸a⟩
  |succ i=>exact b (i:=i) e
theorem AVs.take {H:Hp}{xs:List V}{ds:List PyData}(n:Nat)(h:AVs H xs ds):AVs H (xs.take n) (ds.take n):=by
 induction h using AVs.ind generalizing n with
 |nil=>cases n<;>exact .nil
 |cons a _ b=>
  cases n with
  |zero=>exact .nil
  |succ n=>exact .cons a (b n)
theorem AVs.drop {H:Hp}{xs:List V}{ds:List PyData}(n:Nat)(h:AVs H xs ds):AVs H (xs.drop n) (ds.drop n):=by
 induction h using AVs.ind generalizing n with
 |nil=>cases n<;>exact .nil
 |cons a r b=>
  cases n with
  |zero=>exact .cons a r
  |succ n=>exact b n
theorem AVs.set {H:Hp}{x:V}{d:PyData}(a:AV H x d){xs:List V}{ds:List PyData}(i:Nat)(h:AVs H xs ds):AVs H (xs.set i x) (ds.set i d):=by
 induction h using AVs.ind generalizing i with
 |nil=>exact .nil
 |cons q r b=>
  cases i with
  |zero=>exact .cons a r
  |succ i=>exact .cons q (b i)
theorem AVs.atI {H:Hp}{xs:List V}{ds:List PyData}{i:Int}{d:PyData}(h:AVs H xs ds)(e:atI ds i=some d):∃x,L2.atI xs i=some x/\AV H x d:=by
 unfold L2.atI at e ⊢;rw[h.length];cases q:ixN ds.length i with
 |none=>rw[q]at e;cases e
 |some j=>
  rw[q]at e;exact h.get (i:=j) e
def cutD (ds:List PyData)(lo hi:Option Int):List PyData:=(ds.drop (HT.sIx ds.length 0 lo)).take (HT.sIx ds.length ds.length hi-HT.sIx ds.length 0 lo)
theorem AVs.cut {H:Hp}{xs:List V}{ds:List PyData}(h:AVs H xs ds)(lo hi:Option Int):AVs H (tS xs lo hi) (cutD ds lo hi):=by
 unfold tS cutD;rw[h.length];exact(h.drop _).take _
mutual
def noL :PyData->Bool
 |.list _=>false
 |.dict ((.none,_)::_)=>false
 |.dict kvs=>sX kvs
 |.tuple ds=>noLs ds
 |_=>true
def noLs :List PyData->Bool
 |[]=>true
 |d::r=>noL d&&noLs r
def sX :List (PyData×PyData)->Bool
 |[]=>true
 |(_,d)::r=>noL d&&sX r
end
def Ob :HO->Prop
 |.lst _=>True
 |.dK _=>True
 |.frz _ _=>True
 |_=>False
theorem zD9 {H H':Hp}(e:∀a o,¬Ob o->H a=some o->H' a=some o):(∀x d,AV H x d->noL d=true->AV H' x d)/\(∀x d,AVs H x d->noLs d=true->AVs H' x d)/\(∀x d,AVf H x d->sX d=true->AVf H' x d)/\(∀x d,AVk H x d->sX d=true->AVk H' x d):=by
 have r:=dH (H:=H) (m1:=λx d=>noL d=true->AV H' x d) (m2:=λx d=>noLs d=true->AVs H' x d) (m3:=λx d=>sX d=true->AVf H' x d) (m4:=λx d=>sX d=true->AVk H' x d) (m5:=λ_ _=>True) (λ_=>.non) (λb _=>.bl b) (λi _=>.int i) (λx _=>.str x) (λ_ _ h=>by simp[L2.noL]at h) (λhq c h=>.tup (e _ _ (λz=>z) hq) (c (by simpa only[L2.noL]using h))) (λhq c h=>.ins (e _ _ (λz=>z) hq) (c (by simpa[L2.noL,L2.sX]using h))) (λ_ _ h=>by simp[L2.noL]at h) (λ_ _ h=>by simp[L2.noL]at h) (λhq hd c h=>.xc (e _ _ (λz=>z) hq) (e _ _ (λz=>z) hd) (c (by simpa[L2.noL,L2.sX]using h))) (λhq _=>.xn (e _ _ (λz=>z) hq)) (λ_=>.nil)
  (λh c q=>by
   simp only[L2.noLs,zN1]at q;exact .cons (h q.1) (c q.2)) (λ_=>.nil)
  (λh c q=>by
   simp only[L2.sX,zN1]at q;exact .cons (h q.1) (c q.2)) (λ_=>.nil)
  (λh c q=>by
   simp only[L2.sX,zN1]at q;exact .cons (h q.1) (c q.2)) trivial (λ_ _=>trivial)
 exact⟨r.1,r.2.1,r.2.2.1,r.2.2.2.1⟩
theorem AV.noL {H H':Hp}(e:∀a o,¬Ob o->H a=some o->H' a=some o){x:V}{d:PyData}(h:AV H x d)(q:L2.noL d=true):AV H' x d:=(zD9 e).1 _ _ h q
theorem AVs.noL {H H':Hp}(e:∀a o,¬Ob o->H a=some o->H' a=some o){xs:List V}{ds:List PyData}(h:AVs H xs ds)(q:noLs ds=true):AVs H' xs ds:=(zD9 e).2.1 _ _ h q
structure Fr where
 H0:Hp
 O0:Addr->Prop
 tp:Option (Addr×Addr×Addr)
inductive A where
 |dat (d:PyData)
 |ow (c:PyData)
 |deep (d:PyData) (S:Addr->Prop)
 |tape
 |at(l:Addr)
 |exc (r:Fr) (q:PyData->Prop)
 |pin (l:Addr) (vs:List V) (ds:List PyData)
 |nst (l:Addr) (ls:List Addr) (dss:List (List PyData))
@[reducible] def A.own (ds:List PyData):A:=.ow (.list ds)
abbrev zc1 (ds:List (PyData×PyData)):PyData:=.dict ((.none,.none)::ds)
abbrev Ev :=List (Option A)
def wq (o:HO):Prop:=∀a,o≠.tup a
theorem xF {xs:List V}:wq (.lst xs):=λ_ z=>by cases z
theorem Ob.notup {o:HO}(h:Ob o):wq o:=λa z=>by subst z;exact h
def NT (F:Fr)(x:Addr):Prop:=(∀t b c,F.tp=some (t,b,c)->x≠t/\x≠b)/\¬uU x
def Kz (F:Fr)(H H':Hp):Prop:=∀x o,H x=some o->NT F x->H' x=some o
structure zC (F:Fr)(H:Hp):Prop where
 tab:TabAt H
 ot:∀x,uU x->F.O0 x
 all:∀t b c,F.tp=some (t,b,c)->yI H t b c/\F.O0 t/\F.O0 b/\F.O0 c
instance {F:Fr} {H:Hp}:CoeFun (zC F H) (λ_=>∀t b c,F.tp=some (t,b,c)->yI H t b c/\F.O0 t/\F.O0 b/\F.O0 c):=⟨zC.all⟩
theorem zC.to {F F':Fr}{H:Hp}(t:zC F H)(f:F'.tp=F.tp)(d:∀x,F.O0 x->F'.O0 x):zC F' H:=⟨t.tab,λx h=>d x (t.ot x h),λa b c e=>by
 obtain⟨k,i,g,j⟩:=t a b c (f▸e);exact⟨k,d _ i,d _ g,d _ j⟩⟩
theorem zC.re {F F':Fr}{H H':Hp}(t:zC F H)(t':zC F' H')(d:F'.tp=F.tp):zC F H':=⟨t'.tab,t.ot,λa b c e=>⟨(t' a b c (d▸e)).1,(t a b c e).2⟩⟩
theorem zC.upd {F:Fr}{H:Hp}{l:Addr}{o:HO}(t:zC F H)(h:∀a b c,F.tp=some (a,b,c)->l≠a/\l≠b/\l≠c)(d:Plain H l):zC F (upd H l o):=⟨bH t.tab d,t.ot,λa b c e=>⟨fR (t a b c e).1 (h a b c e),(t a b c e).2⟩⟩
theorem zC.updO {F:Fr}{H:Hp}{l:Addr}{o:HO}(t:zC F H)(h:¬F.O0 l)(d:Plain H l):zC F (L2.upd H l o):=t.upd (λa b c e=>⟨λz=>h (by rw[z];exact(t a b c e).2.1),λz=>h (by rw[z];exact(t a b c e).2.2.1),λz=>h (by rw[z];exact(t a b c e).2.2.2)⟩) d
def foot (s:Option V):A->Addr->Prop
 |.ow _,x=>s=some (.ref x)
 |.deep _ S,x=>S x
 |.nst l ls _,x=>x∈l::ls
 |_,_=>False
def Ow (F:Fr)(α:Ev)(σ:St)(x:Addr):Prop:=F.O0 x\/∃(i:Nat) (a:A) (s:Option V),α[i]?=some (some a)/\σ[i]?=some s/\foot s a x
noncomputable abbrev Gz (F:Fr)(α:Ev)(σ:St)(H:Hp):Hp:=sub (λx=>¬Ow F α σ x) H
noncomputable def mY (S:Addr->Prop)(G H:Hp):Hp:=λx=>open Classical in if S x then H x else match G x with
 |some (.lst _)=>none
 |o=>o
theorem uK {S:Addr->Prop}{G a H H':Hp}(h:zt G a)(b:∀x o,S x->H x=some o->H' x=some o):zt (mY S G H) (mY S a H'):=λx o e=>by
 unfold mY at e ⊢;by_cases z:S x
 ·rw[if_pos z]at e ⊢;exact b x o z e
 ·rw[if_neg z]at e ⊢;cases q:G x with
  |none=>rw[q]at e;cases e
  |some u=>
   rw[h _ _ q];rw[q]at e;exact e
theorem dP {S:Addr->Prop}{G H:Hp}{x:Addr}{o:HO}(h:mY S G H x=some o):(S x/\H x=some o)\/(¬S x/\G x=some o):=by
 unfold mY at h;by_cases z:S x
 ·rw[if_pos z]at h;exact .inl ⟨z,h⟩
 ·rw[if_neg z]at h;split at h
  ·cases h
  ·exact .inr ⟨z,h⟩
inductive yO (G:Hp):HO->PyData->Prop where
 |lst {xs:List V}{ds:List PyData}:AVs G xs ds->yO G (.lst xs) (.list ds)
 |dk {kvs:List (Key×V)}{ds:List (PyData×PyData)}:AVk G kvs ds->yO G (.dK kvs) (zc1 ds)
theorem yO.ob {G:Hp}{o:HO}{c:PyData}(h:yO G o c):Ob o:=by cases h<;>trivial
theorem yO.same {G a:Hp}{o:HO}{c:PyData}(h:yO G o c)(s:zt G a):yO a o c:=by
 cases h with
 |lst h=>exact .lst (h.same s)
 |dk h=>exact .dk (h.same s)
theorem yO.av {G:Hp}{o:HO}{ds:List PyData}{l:Addr}(h:yO G o (.list ds))(e:G l=some o):AV G (.ref l) (.list ds):=by
 cases h with
 |lst h=>exact .lst e h
theorem yO.lst_inv {G:Hp}{o:HO}{ds:List PyData}(h:yO G o (.list ds)):∃xs,o=.lst xs/\AVs G xs ds:=by cases h;exact⟨_,rfl,by assumption⟩
theorem yO.plain {G H:Hp}{o:HO}{c:PyData}{l:Addr}(h:yO G o c)(e:H l=some o):Plain H l:=by
 cases h with
 |lst h=>exact qf e
 |dk h=>exact gK e
structure Lnk (r F:Fr)(H:Hp):Prop where
 tp:r.tp=F.tp
 o:∀x,r.O0 x->F.O0 x
 ok:zC r H
 k:Kz r r.H0 H
def xI (G H:Hp):List Addr->List (List PyData)->Prop
 |[],[]=>True
 |a::ls,ds::dss=>(∃xs,H a=some (.lst xs)/\AVs G xs ds)/\xI G H ls dss
 |_,_=>False
theorem xI.same {G c H H':Hp}(g:zt G c):∀{ls:List Addr}{dss:List (List PyData)},(∀a∈ls,∀o,H a=some o->H' a=some o)->xI G H ls dss->xI c H' ls dss
 |[],[],_,_=>trivial
 |a::ls,ds::dss,h,⟨⟨xs,e,av⟩,r⟩=>⟨⟨xs,h a zK5 _ e,av.same g⟩,xI.same g (λb hb=>h b (zJ8 _ hb)) r⟩
 |[],_::_,_,z=>z.elim
 |_::_,[],_,z=>z.elim
theorem xI.obj {G H:Hp}:∀{ls:List Addr}{dss:List (List PyData)},xI G H ls dss->∀a∈ls,∃xs,H a=some (.lst xs)
 |[],_,_,_,h=>by cases h
 |b::ls,ds::dss,⟨⟨xs,e,_⟩,r⟩,a,h=>by
  rcases zJ6.mp h with z|z
  ·exact⟨xs,z▸e⟩
  ·exact xI.obj r a z
 |_::_,[],z,_,_=>z.elim
theorem xI.avs {G H:Hp}{p:Addr->Prop}(g:zt G (sub p H)):∀{ls:List Addr}{dss:List (List PyData)},(∀a∈ls,p a)->xI G H ls dss->AVs (sub p H) (ls.map .ref) (dss.map .list)
 |[],[],_,_=>.nil
 |a::ls,ds::dss,h,⟨⟨xs,e,av⟩,r⟩=>.cons (.lst (zG (h a zK5) e) (av.same g)) (xI.avs g (λb hb=>h b (zJ8 _ hb)) r)
 |[],_::_,_,z=>z.elim
 |_::_,[],_,z=>z.elim
def xr (G:Hp)(F:Fr)(H:Hp)(s:Option V):A->Prop
 |.dat d=>∃v,s=some v/\AV G v d
 |.ow c=>∃l o,s=some (.ref l)/\H l=some o/\yO G o c/\¬F.O0 l/\F.H0 l=none
 |.deep d S=>∃v,s=some v/\AV (mY S G H) v d/\∀x,S x->¬F.O0 x/\F.H0 x=none/\∃xs,H x=some (.lst xs)
 |.tape=>∃t b c,F.tp=some (t,b,c)/\s=some (.ref t)
 |.at l=>s=some (.ref l)
 |.exc r _=>Lnk r F H
 |.pin l vs ds=>s=some (.ref l)/\G l=some (.lst vs)/\AVs G vs ds
 |.nst l ls dss=>s=some (.ref l)/\H l=some (.lst (ls.map .ref))/\xI G H ls dss/\(l::ls).Nodup/\∀x∈l::ls,¬F.O0 x/\F.H0 x=none
structure M (F:Fr)(α:Ev)(σ:St)(H:Hp):Prop where
 len:α.length=σ.length
 ok:∀(i:Nat) (a:A) (s:Option V),α[i]?=some (some a)->σ[i]?=some s->xr (Gz F α σ H) F H s a
 dj:∀(i j:Nat) (a b:A) (s t:Option V) (x:Addr),α[i]?=some (some a)->α[j]?=some (some b)->σ[i]?=some s->σ[j]?=some t->foot s a x->foot t b x->i=j
 xd:∀(i:Nat) (r:Fr) (q:PyData->Prop),α[i]?=some (some (.exc r q))->∀(j:Nat) (a:A) (s:Option V) (x:Addr),α[j]?=some (some a)->σ[j]?=some s->foot s a x->r.H0 x=none
 tp:zC F H
 keep:Kz F F.H0 H
 oex:∀x,F.O0 x->∃o,H x=some o/\wq o
theorem M.at' {F:Fr}{α:Ev}{σ:St}{H:Hp}(m:M F α σ H){i:Nat}{a:Option A}(e:α[i]?=some a):∃s,σ[i]?=some s:=by
 have:i<σ.length:=by rw[<-m.len];exact(zK1.mp e).1
 exact⟨_,zJ2 this⟩
theorem pA {G:Hp}{F:Fr}{H:Hp}{s:Option V}{a:A}{x:Addr}(h:xr G F H s a)(f:foot s a x):¬F.O0 x/\F.H0 x=none/\∃o,H x=some o/\Ob o:=by
 cases a with
 |ow c=>
  obtain⟨l,o,i,j,b,m,k⟩:=h;have g:s=some (.ref x):=f;rw[g]at i;cases i;exact⟨m,k,o,j,b.ob⟩
 |deep d S=>
  obtain⟨v,i,j,b⟩:=h;obtain⟨p,n,xs,z3⟩:=b x f;exact⟨p,n,_,z3,trivial⟩
 |dat d=>exact f.elim
 |tape=>exact f.elim
 |«at» l=>exact f.elim
 |exc r q=>exact f.elim
 |pin l vs ds=>exact f.elim
 |nst l ls dss=>
  obtain⟨i,j,b,m,k⟩:=h;have g:x∈l::ls:=f;refine⟨(k x g).1,(k x g).2,?_⟩;rcases zJ6.mp g with z|z
  ·exact⟨.lst (ls.map .ref),z▸j,trivial⟩
  ·obtain⟨xs,e⟩:=b.obj x z;exact⟨.lst xs,e,trivial⟩
theorem Lnk.kz {r F:Fr}{H H':Hp}(l:Lnk r F H)(k:Kz F H H')(t:zC F H'):Lnk r F H':=⟨l.tp,l.o,l.ok.re t l.tp.symm,λx o e n=>k x o (l.k x o e n) ⟨λa b c z=>n.1 a b c (l.tp.trans z),n.2⟩⟩
theorem Lnk.none {r F:Fr}{H:Hp}(l:Lnk r F H){x:Addr}(h:H x=Option.none):r.H0 x=Option.none:=by
 cases q:r.H0 x with
 |none=>rfl
 |some o=>rw[l.k x o q ⟨λa b c e=>⟨((l.ok a b c e).1.free h).1,((l.ok a b c e).1.free h).2.1⟩,vN l.ok.tab h⟩]at h;cases h
def noX :A->Prop
 |.exc _ _=>False
 |_=>True
theorem xr.stay {G u:Hp}{F F':Fr}{H H':Hp}{s:Option V}{a:A}(h:xr G F H s a)(g:zt G u)(hf:∀x o,foot s a x->H x=some o->H' x=some o/\¬F'.O0 x/\F'.H0 x=none)(w:F'.tp=F.tp)(y:∀r q,a=.exc r q->Lnk r F H->Lnk r F' H'):xr u F' H' s a:=by
 cases a with
 |dat d=>obtain⟨v,f,i⟩:=h;exact⟨v,f,i.same g⟩
 |ow c=>
  obtain⟨l,o,f,i,j,p,B⟩:=h;obtain⟨n,k,z3⟩:=hf l o f i;exact⟨l,o,f,n,j.same g,k,z3⟩
 |deep d S=>
  obtain⟨v,f,i,j⟩:=h;refine⟨v,f,i.same (uK g λx o z e=>(hf x o z e).1),λx z=>?_⟩;obtain⟨_,_,xs,e⟩:=j x z;obtain⟨n,k,z3⟩:=hf x _ z e;exact⟨k,z3,xs,n⟩
 |tape=>obtain⟨t,b,c,e,z⟩:=h;exact⟨t,b,c,w.trans e,z⟩
 |«at» l=>exact h
 |exc r q=>exact y r q rfl h
 |pin l vs ds=>exact⟨h.1,g _ _ h.2.1,h.2.2.same g⟩
 |nst l ls dss=>
  obtain⟨f,i,j,p,B⟩:=h;refine⟨f,(hf l _ zK5 i).1,j.same g λa ha o e=>(hf a o (zJ8 _ ha) e).1,p,λx m=>?_⟩;rcases zJ6.mp m with z|z
  ·exact(hf x _ m (z▸i)).2
  ·obtain⟨xs,e⟩:=j.obj x z;exact(hf x _ m e).2
section
variable {F:Fr}{α:Ev}{σ:St}{H H' H'':Hp}
theorem M.dat (m:M F α σ H)(i:Nat)(d:PyData)(e:α[i]?=some (some (.dat d))):∃v,σ[i]?=some (some v)/\AV (Gz F α σ H) v d:=by
 obtain⟨s,a⟩:=m.at' e;obtain⟨v,rfl,h⟩:=m.ok i _ s e a;exact⟨v,a,h⟩
theorem M.owc (m:M F α σ H)(i:Nat)(c:PyData)(e:α[i]?=some (some (.ow c))):∃l o,σ[i]?=some (some (.ref l))/\H l=some o/\yO (Gz F α σ H) o c/\¬F.O0 l/\F.H0 l=none:=by
 obtain⟨s,a⟩:=m.at' e;obtain⟨l,o,rfl,h⟩:=m.ok i _ s e a;exact⟨l,o,a,h⟩
theorem M.own (m:M F α σ H)(i:Nat)(ds:List PyData)(e:α[i]?=some (some (.own ds))):∃l xs,σ[i]?=some (some (.ref l))/\H l=some (.lst xs)/\AVs (Gz F α σ H) xs ds/\¬F.O0 l/\F.H0 l=none:=by
 obtain⟨l,o,f,b,a,d⟩:=m.owc i _ e;obtain⟨xs,rfl,c⟩:=a.lst_inv;exact⟨l,xs,f,b,c,d⟩
theorem M.tvar (m:M F α σ H)(i:Nat)(e:α[i]?=some (some .tape)):∃t b c,F.tp=some (t,b,c)/\σ[i]?=some (some (.ref t)):=by
 obtain⟨s,a⟩:=m.at' e;obtain⟨t,b,c,h,rfl⟩:=m.ok i _ s e a;exact⟨t,b,c,h,a⟩
theorem M.lnk (m:M F α σ H){i:Nat}{r:Fr}{q:PyData->Prop}(e:α[i]?=some (some (.exc r q))):Lnk r F H:=by
 obtain⟨s,a⟩:=m.at' e;exact m.ok i _ s e a
theorem Kz.refl :Kz F H H:=λ_ _ e _=>e
theorem Kz.trans (h:Kz F H H')(k:Kz F H' H''):Kz F H H'':=λx o e n=>k x o (h x o e n) n
theorem Kz.of_same (h:zt H H'):Kz F H H':=λx o e _=>h x o e
theorem zC.same (t:zC F H)(h:zt H H'):zC F H':=⟨zr2 t.tab h,t.ot,λa b c e=>⟨jD (t a b c e).1 h,(t a b c e).2⟩⟩
theorem zC.nt (t:zC F H){x:Addr}(h:¬F.O0 x):NT F x:=⟨λa b c e=>⟨λz=>h (z▸(t a b c e).2.1),λz=>h (z▸(t a b c e).2.2.1)⟩,λz=>h (t.ot x z)⟩
theorem ow0 {x:Addr}(h:¬Ow F α σ x):¬F.O0 x:=λz=>h (.inl z)
theorem Kz.gz (k:Kz F H H')(t:zC F H):zt (Gz F α σ H) (Gz F α σ H'):=zr λa o h e=>⟨h,k a o e (t.nt (ow0 h))⟩
theorem M.oex' (t:zC F H')(k:Kz F H H')(h:∀x,F.O0 x->∃o,H x=some o/\wq o):∀x,F.O0 x->∃o,H' x=some o/\wq o:=λx i=>by
 by_cases n:NT F x
 ·obtain⟨o,d,hn⟩:=h x i;exact⟨o,k _ _ d n,hn⟩
 ·by_cases z:uU x
  ·obtain⟨o,d,hn,_⟩:=tq t.tab z;exact⟨o,d,hn⟩
  ·have:∃a b c,F.tp=some (a,b,c)/\¬(x≠a/\x≠b):=by
    refine Classical.byContradiction λq=>n ⟨λa b c e=>?_,z⟩;exact Classical.byContradiction λw=>q ⟨a,b,c,e,w⟩
   obtain⟨a,b,c,e,w⟩:=this;obtain⟨n,bs,cs,_,e1,j,l,_⟩:=(t a b c e).1.ex;by_cases f:x=a
   ·exact⟨_,f▸e1,xF⟩
   ·by_cases g:x=b
    ·exact⟨_,g▸j,xF⟩
    ·exact absurd ⟨f,g⟩ w
theorem M.kz (m:M F α σ H)(k:Kz F H H')(t:zC F H'):M F α σ H' where
 len:=m.len
 ok:=λi a s e1 b=>(m.ok i a s e1 b).stay (k.gz m.tp) (λx o hf e=>by
  obtain⟨c,d,_⟩:=pA (m.ok i a s e1 b) hf;exact⟨k x o e (m.tp.nt c),c,d⟩) rfl λr _ _ l=>l.kz k t
 dj:=m.dj
 xd:=m.xd
 tp:=t
 keep:=m.keep.trans k
 oex:=M.oex' t k m.oex
theorem M.ft (m:M F α σ H){i:Nat}{a:A}{s:Option V}{x:Addr}(e1:α[i]?=some (some a))(b:σ[i]?=some s)(f:foot s a x):¬F.O0 x/\F.H0 x=none/\∃o,H x=some o/\Ob o:=pA (m.ok i a s e1 b) f
theorem M.owEx (m:M F α σ H){x:Addr}(h:Ow F α σ x):∃o,H x=some o/\wq o:=by
 rcases h with z|⟨i,a,s,e1,b,f⟩
 ·exact m.oex x z
 ·obtain⟨_,_,o,c,hb⟩:=m.ft e1 b f;exact⟨o,c,hb.notup⟩
theorem M.fresh (m:M F α σ H){l:Addr}(h:H l=none):¬Ow F α σ l:=λz=>by
 obtain⟨o,a,_⟩:=m.owEx z;rw[h]at a;cases a
theorem M.fresh0 (m:M F α σ H){l:Addr}(h:H l=none):F.H0 l=none:=by
 cases q:F.H0 l with
 |none=>rfl
 |some o=>rw[m.keep l o q (m.tp.nt λz=>m.fresh h (.inl z))]at h;cases h
theorem M.old (m:M F α σ H):zt (sub (λx=>¬F.O0 x) F.H0) (Gz F α σ H):=λa o e=>by
 obtain⟨d,c⟩:=zi e;refine zG ?_ (m.keep a o c (m.tp.nt d));rintro(z|⟨i,b,s,e1,g,f⟩)
 ·exact d z
 ·obtain⟨_,z,_⟩:=m.ft e1 g f;rw[c]at z;cases z
noncomputable def Fr.up (F:Fr)(G:Hp):Fr:={F with H0:=λx=>(F.H0 x).or (G x)}
theorem qH {G:Hp}{x:Addr}{o:HO}(h:F.H0 x=some o):(F.up G).H0 x=some o:=by show(F.H0 x).or (G x)=some o;rw[h];rfl
theorem ji {G:Hp}{x:Addr}(h:(F.up G).H0 x=none):F.H0 x=none:=by
 cases q:F.H0 x with
 |none=>rfl
 |some o=>rw[qH q]at h;cases h
theorem M.up (m:M F α σ H):M (F.up (Gz F α σ H)) α σ H where
 len:=m.len
 ok:=λi a s e1 c=>(m.ok i a s e1 c).stay (λ_ _ e=>e) (λx o hf e=>by
  obtain⟨f,d,_⟩:=m.ft e1 c hf;refine⟨e,f,?_⟩;show(F.H0 x).or (Gz F α σ H x)=none;rw[d];show Gz F α σ H x=none;cases q:Gz F α σ H x with
  |none=>rfl
  |some o=>exact absurd (.inr ⟨i,a,s,e1,c,hf⟩) (zi q).1) rfl λr _ _ l=>⟨l.tp,l.o,l.ok,l.k⟩
 dj:=m.dj
 xd:=m.xd
 tp:=m.tp.to rfl λ_ z=>z
 keep:=λx o e n=>by
  have b:(F.H0 x).or (Gz F α σ H x)=some o:=e;cases q:F.H0 x with
  |none=>rw[q,Option.none_or]at b;exact(zi b).2
  |some o'=>rw[q]at b;cases b;exact m.keep x _ q n
 oex:=m.oex
theorem M.down {G:Hp}(m:M (F.up G) α σ H):M F α σ H where
 len:=m.len
 ok:=λi a s e1 b=>(m.ok i a s e1 b).stay (λ_ _ e=>e) (λx o hf e=>by
  obtain⟨d,c,_⟩:=m.ft e1 b hf;exact⟨e,d,ji c⟩) rfl λr _ _ l=>⟨l.tp,l.o,l.ok,l.k⟩
 dj:=m.dj
 xd:=m.xd
 tp:=m.tp.to rfl λ_ z=>z
 keep:=λx o e n=>m.keep x o (qH e) n
 oex:=m.oex
theorem M.upold {α0:Ev}{b:St}{H1:Hp}(m0:M F α0 b H1)(m:M (F.up (Gz F α0 b H1)) α σ H):zt (Gz F α0 b H1) (Gz F α σ H):=λa o e=>by
 obtain⟨c,f⟩:=zi e;have d:(F.up (Gz F α0 b H1)).H0 a=some o:=by
  show(F.H0 a).or (Gz F α0 b H1 a)=some o;cases q:F.H0 a with
  |none=>exact e
  |some o'=>
   have:=m0.keep a o' q (m0.tp.nt (ow0 c));rw[f]at this;cases this;rfl
 exact m.old a o (zG (p:=λx=>¬F.O0 x) (ow0 c) d)
end
def yG (F:Fr)(α:Ev)(σ:St)(H:Hp)(v:V)(H':Hp)(ds:List PyData):Prop:=
 ∃l xs,v=.ref l/\H l=none/\H' l=some (.lst xs)/\AVs (sub (λx=>¬Ow F α σ x/\x≠l) H') xs ds
def cu (F:Fr)(α:Ev)(σ:St)(H:Hp)(v:V)(H':Hp)(c:PyData):Prop:=
 ∃l o,v=.ref l/\H l=none/\H' l=some o/\yO (sub (λx=>¬Ow F α σ x/\x≠l) H') o c
theorem yG.c {F:Fr}{α:Ev}{σ:St}{H H':Hp}{v:V}{ds:List PyData}(h:yG F α σ H v H' ds):cu F α σ H v H' (.list ds):=by
 obtain⟨l,xs,e,b,a,d⟩:=h;exact⟨l,_,e,b,a,.lst d⟩
theorem yG.av {F:Fr}{α:Ev}{σ:St}{H H':Hp}{v:V}{ds:List PyData}(m:M F α σ H)(h:yG F α σ H v H' ds):AV (Gz F α σ H') v (.list ds):=by
 obtain⟨l,xs,rfl,d,c,b⟩:=h;exact .lst (zG (m.fresh d) c) (b.same (zr λa o h e=>⟨h.1,e⟩))
section
variable (X:Cx)(α:Ev)
def EvD (e:Expr)(Q:PyData->Prop):Prop:=∀(F:Fr) (σ:St) (H:Hp) (R:VK),M F α σ H->(∀d v H',Q d->zC F H'->Kz F H H'->AV (Gz F α σ H') v d->R v H')->uh X e σ H R
def EvL (e:Expr)(Q:List PyData->Prop):Prop:=∀(F:Fr) (σ:St) (H:Hp) (R:VK),M F α σ H->(∀ds v H',Q ds->zC F H'->Kz F H H'->yG F α σ H v H' ds->R v H')->uh X e σ H R
def EvT (e:Expr)(Q:Bool->Prop):Prop:=∀(F:Fr) (σ:St) (H:Hp) (R:Bool->Hp->Prop),M F α σ H->(∀b H',Q b->zC F H'->Kz F H H'->R b H')->zx6 X e σ H R
def iN (F:Fr)(G:Hp)(v:V):A->Prop
 |.dat d=>AV G v d
 |.tape=>∃t b c,F.tp=some (t,b,c)/\v=.ref t
 |_=>False
inductive ya (F:Fr)(G:Hp):List V->List A->Prop where
 |nil:ya F G [] []
 |cons {v:V}{vs:List V}{a:A}{as:List A}:iN F G v a->ya F G vs as->ya F G (v::vs) (a::as)
def EvA (es:List Expr)(Q:List A->Prop):Prop:=∀(F:Fr) (σ:St) (H:Hp) (R:List V->Hp->Prop),M F α σ H->(∀as vs H',Q as->zC F H'->Kz F H H'->ya F (Gz F α σ H') vs as->R vs H')->zw9 X es σ H R
end
theorem iN.to {F F':Fr}{G d:Hp}(s:zt G d)(f:F'.tp=F.tp){v:V}:∀{a:A},iN F G v a->iN F' d v a
 |.dat _,h=>AV.same s h
 |.tape,⟨t,b,c,e,z⟩=>⟨t,b,c,f.trans e,z⟩
 |.ow _,h=>h
 |.deep _ _,h=>h
 |.at _,h=>h
 |.exc _ _,h=>h
 |.pin _ _ _,h=>h
 |.nst _ _ _,h=>h
theorem ya.to {F F':Fr}{G a:Hp}(s:zt G a)(b:F'.tp=F.tp){vs:List V}{as:List A}(h:ya F G vs as):ya F' a vs as:=by
 induction h with
 |nil=>exact .nil
 |cons h _ c=>exact .cons (h.to s b) c
theorem ya.length {F:Fr}{G:Hp}:∀{vs:List V}{as:List A},ya F G vs as->vs.length=as.length
 |_,_,.nil=>rfl
 |_,_,.cons _ r=>by rw[zL8,zL8,ya.length r]
def A.d :A->PyData
 |.dat d=>d
 |.ow c=>c
 |.deep d _=>d
 |.nst _ _ dss=>.list (dss.map .list)
 |_=>.none
def aH (F:Fr)(v:V)(H':Hp):A->Prop
 |.dat d=>AV (sub (λx=>¬F.O0 x) H') v d
 |.ow c=>∃l xs ds,v=.ref l/\c=.list ds/\F.H0 l=none/\¬F.O0 l/\H' l=some (.lst xs)/\AVs (sub (λx=>¬F.O0 x/\x≠l) H') xs ds
 |.deep d S=>AV (mY S (sub (λx=>¬F.O0 x) H') H') v d/\∀x,S x->¬F.O0 x/\F.H0 x=none/\∃xs,H' x=some (.lst xs)
 |.nst l ls dss=>v=.ref l/\H' l=some (.lst (ls.map .ref))/\xI (sub (λx=>¬F.O0 x/\x∉l::ls) H') H' ls dss/\(l::ls).Nodup/\∀x∈l::ls,¬F.O0 x/\F.H0 x=none
 |_=>False
def wC (F:Fr)(v:V)(H':Hp)(a:A):Prop:=zC F H'/\Kz F F.H0 H'/\aH F v H' a
def spA (φ:List A->(A->Prop)->Prop):Sp:=λvs H b _=>∃(F:Fr) (as:List A) (Q:A->Prop),F.H0=H/\zC F H/\(∀x,F.O0 x->∃o,H x=some o/\wq o)/\ya F (sub (λx=>¬F.O0 x) H) vs as/\φ as Q/\∀a v H',Q a->wC F v H' a->b v H'
theorem aH.to {F F':Fr}{v:V}{H':Hp}{a:A}(r:aH F v H' a)(b:∀x,F'.O0 x->F.O0 x)(h0:∀x,F.H0 x=none->F'.H0 x=none):aH F' v H' a:=by
 have s:zt (sub (λx=>¬F.O0 x) H') (sub (λx=>¬F'.O0 x) H'):=zr λa o h e=>⟨λz=>h (b _ z),e⟩;cases a with
 |dat d=>exact AV.same s r
 |ow c=>
  obtain⟨l,xs,ds,f,p,g,j,k,i⟩:=r;exact⟨l,xs,ds,f,p,h0 _ g,λz=>j (b _ z),k,i.same (zr λa o h e=>⟨⟨λz=>h.1 (b _ z),h.2⟩,e⟩)⟩
 |deep d S=>
  obtain⟨f,g⟩:=r;refine⟨f.same (uK s λ_ _ _ e=>e),λx z=>?_⟩;obtain⟨q,n,z3⟩:=g x z;exact⟨λw=>q (b _ w),h0 _ n,z3⟩
 |tape=>exact r
 |«at» _=>exact r
 |exc _ _=>exact r
 |pin _ _ _=>exact r
 |nst l ls dss=>
  obtain⟨f,g,j,k,i⟩:=r;exact⟨f,g,j.same (zr λa o h e=>⟨⟨λz=>h.1 (b _ z),h.2⟩,e⟩) (λ_ _ _ e=>e),k,λx m=>⟨λz=>(i x m).1 (b _ z),h0 _ (i x m).2⟩⟩
structure yk where
 nx:Ev->Prop
 rt:A->Prop
 bk:Ev->Prop:=λ_=>False
 ct:Ev->Prop:=λ_=>False
structure rA (F:Fr)(E:yk)(D:Ends):Prop where
 nx:∀α σ H,M F α σ H->E.nx α->D.nx σ H
 rt:∀a v H,wC F v H a->E.rt a->D.rt v H
 bk:∀α σ H,M F α σ H->E.bk α->D.bk σ H
 ct:∀α σ H,M F α σ H->E.ct α->D.ct σ H
def SvS (X:Cx)(α:Ev)(a:List Stmt)(E:yk):Prop:=∀(F:Fr) (σ:St) (H:Hp) (D:Ends),M F α σ H->rA F E D->gG X a D σ H
theorem rA.up {F:Fr}{G:Hp}{E:yk}{D:Ends}(e:rA F E D):rA (F.up G) E D where
 nx:=λα σ H m q=>e.nx α σ H m.down q
 bk:=λα σ H m q=>e.bk α σ H m.down q
 ct:=λα σ H m q=>e.ct α σ H m.down q
 rt:=λa v H r q=>e.rt a v H (by
  obtain⟨t,k,r⟩:=r;exact⟨t.to rfl λ_ z=>z,λx o e n=>k x o (qH e) n,r.to (λ_ z=>z) λx z=>ji z⟩) q
section
variable {X:Cx}{α:Ev}{e a b c:Expr}{es:List Expr}{pos p q:Pos}{Q:PyData->Prop}
theorem EvL.d (h:EvL X α e (λds=>Q (.list ds))):EvD X α e Q:=λF σ H R m k=>h F σ H R m λds v H' q t z f=>k _ v H' q t z (f.av m)
theorem EvD.imp {Q':PyData->Prop}(h:EvD X α e Q')(k:∀d,Q' d->Q d):EvD X α e Q:=λF σ H R m r=>h F σ H R m λd v H' q=>r d v H' (k d q)
theorem EvT.imp {Q Q':Bool->Prop}(h:EvT X α e Q')(k:∀d,Q' d->Q d):EvT X α e Q:=λF σ H R m r=>h F σ H R m λd H' q=>r d H' (k d q)
theorem zb (i:Nat){x:Str}{d:PyData}(hi:α[i]?=some (some (.dat d)))(q:Q d)(j:X.N[i]?=some x:=by rfl)(h:Vis X.env.scope x:=by first|exact Or.inl rfl|exact Or.inr (Or.inl rfl)|exact Or.inr (Or.inr rfl))
  (hd:(x == ("__debug__":Str))=false:=by decide) (f:(x == ("__classdict__":Str))=false:=by decide):EvD X α (.Name x pos) Q:=λF σ H R m k=>by
 obtain⟨v,l,g⟩:=m.dat i d hi;exact⟨_,yt j h hd f,v,l,k d v H q m.tp Kz.refl g⟩
theorem zM {i:Int}{j:Nat}(q:Q (.int i)):EvD X α (.Constant (.int i) j pos) Q:=λF σ H R m k=>⟨_,zX,k _ _ H q m.tp Kz.refl (.int i)⟩
theorem gh {i:Bool}{j:Nat}(q:Q (.bool i)):EvD X α (.Constant (.bool i) j pos) Q:=λF σ H R m k=>⟨_,zA4,k _ _ H q m.tp Kz.refl (.bl i)⟩
theorem nR {j:Nat}(q:Q .none):EvD X α (.Constant .none j pos) Q:=λF σ H R m k=>⟨_,cF,k _ _ H q m.tp Kz.refl .non⟩
theorem vv {x:Str}{j:Nat}(q:Q (.str x)):EvD X α (.Constant (.str x) j pos) Q:=λF σ H R m k=>⟨_,zt2,k _ _ H q m.tp Kz.refl (.str x)⟩
theorem yA {x:Str}{i:Int}(hg:Gl X x)(hm:∃t,X.mg x=some (.int i t))(q:Q (.int i))(hd:(x == ("__debug__":Str))=false:=by decide):EvD X α (.Name x pos) Q:=λF σ H R m k=>by
 obtain⟨t,hm⟩:=hm;exact⟨_,aM hg hm (show RelV (.int i) (.int i t)from⟨t,rfl⟩) hd,k _ _ H q m.tp Kz.refl (.int i)⟩
theorem rg {f:TE->TE->TE}(hf:PE X e (f (uh X a) (uh X b)))(hr:∀σ H R,f (uh X a) (uh X b) σ H R↔uh X a σ H (λx H1=>uh X b σ H1 λy l=>f (tC x) (tC y) σ l R))
  (h:EvD X α a λx=>EvD X α b λy=>∀(F:Fr) (σ:St) (H:Hp) (g i:V) (R:VK),M F α σ H->AV (Gz F α σ H) g x->AV (Gz F α σ H) i y->(∀d v H',Q d->zC F H'->Kz F H H'->AV (Gz F α σ H') v d->R v H')->f (tC g) (tC i) σ H R):
  EvD X α e Q:=λF σ H R m k=>by
 refine⟨_,hf,(hr σ H R).mpr ?_⟩;refine h F σ H _ m λx g H1 o t1 n w=>?_;have m1:=m.kz n t1;refine o F σ H1 _ m1 λy i l z s j t=>?_;exact z F σ l g i R (m1.kz j s) (w.same (j.gz m1.tp)) t λd v H' A t3 u r=>k d v H' A t3 ((n.trans j).trans u) r
theorem AV.int_inv {H:Hp}{v:V}{i:Int}(h:AV H v (.int i)):v=.int i:=by cases h;rfl
theorem AV.bl_inv {H:Hp}{v:V}{i:Bool}(h:AV H v (.bool i)):v=.bl i:=by cases h;rfl
theorem AV.str_inv {H:Hp}{v:V}{i:Str}(h:AV H v (.str i)):v=.str i:=by cases h;rfl
theorem AV.tup_inv {H:Hp}{v:V}{ds:List PyData}(h:AV H v (.tuple ds)):∃a xs,v=.ref a/\H a=some (.tup xs)/\AVs H xs ds:=by cases h;exact⟨_,_,rfl,by assumption,by assumption⟩
theorem AV.lst_inv {H:Hp}{v:V}{ds:List PyData}(h:AV H v (.list ds)):∃a xs,v=.ref a/\H a=some (.lst xs)/\AVs H xs ds:=by cases h;exact⟨_,_,rfl,by assumption,by assumption⟩
theorem AV.non_inv {H:Hp}{v:V}(h:AV H v .none):v=.non:=by cases h;rfl
theorem AV.isnon {H:Hp}{v:V}{d:PyData}(h:AV H v d):decide (v=.non)=(match d with|.none=>true|_=>false):=by cases h<;>simp
theorem pG {op:Operator}{C:Int->Int->Prop}{g:Int->Int->V}{gd:Int->Int->PyData}(o:OpR X (binaryOp op) (rI C g))(hg:∀H i j,AV H (g i j) (gd i j))
  (h:EvD X α a λx=>EvD X α b λy=>∃i j,x=.int i/\y=.int j/\C i j/\Q (gd i j)):EvD X α (.BinOp a op b pos) Q:=by
 refine rg (f:=tOp (rI C g)) (yU o zh zh) (λ_ _ _=>Iff.rfl) (h.imp λx h=>h.imp λy d=>?_);obtain⟨i,j,e1,s,n,hq⟩:=d;subst e1 s;intro F σ H t u R m l r k;cases l.int_inv;cases r.int_inv;exact⟨i,j,rfl,rfl,n,k _ _ H hq m.tp Kz.refl (hg _ i j)⟩
theorem lC {op:Operator}{g:Int->Int->V}{gd:Int->Int->PyData}(n:OpR X (binaryOp op) (rI0 g))(hg:∀H i j,AV H (g i j) (gd i j))
  (h:EvD X α a λx=>EvD X α b λy=>∃i j,x=.int i/\y=.int j/\Q (gd i j)):EvD X α (.BinOp a op b pos) Q:=by
 refine rg (f:=tOp (rI0 g)) (yU n zh zh) (λ_ _ _=>Iff.rfl) (h.imp λx h=>h.imp λy d=>?_);obtain⟨i,j,e1,r,hq⟩:=d;subst e1 r;intro F σ H s t R m l o k;cases l.int_inv;cases o.int_inv;exact⟨i,j,rfl,rfl,k _ _ H hq m.tp Kz.refl (hg _ i j)⟩
theorem si (h:EvD X α a λx=>EvD X α b λy=>∃i j,x=.int i/\y=.int j/\Q (.int (i+j))):EvD X α (.BinOp a .Add b pos) Q:=lC (gd:=λi j=>.int (i+j)) qP (λ_ _ _=>.int _) h
theorem pC (h:EvD X α a λx=>EvD X α b λy=>∃i j,x=.int i/\y=.int j/\Q (.int (i-j))):EvD X α (.BinOp a .Sub b pos) Q:=lC (gd:=λi j=>.int (i-j)) zs1 (λ_ _ _=>.int _) h
theorem zr6 (h:EvD X α a λx=>EvD X α b λy=>∃i j,x=.int i/\y=.int j/\aF i j/\Q (.int (i*j))):EvD X α (.BinOp a .Mult b pos) Q:=pG (gd:=λi j=>.int (i*j)) qE (λ_ _ _=>.int _) h
theorem zn4 (h:EvD X α a λx=>EvD X α b λy=>∃i j,x=.int i/\y=.int j/\zp0 i j/\Q (.int (i ^ j.toNat))):EvD X α (.BinOp a .Pow b pos) Q:=pG (gd:=λi j=>.int (i ^ j.toNat)) zo9 (λ_ _ _=>.int _) h
theorem fh (h:EvD X α a λx=>EvD X α b λy=>∃i j,x=.int i/\y=.int j/\0<j/\Q (.int (i % j))):EvD X α (.BinOp a .Mod b pos) Q:=pG (gd:=λi j=>.int (i % j)) sS (λ_ _ _=>.int _) h
theorem aa (h:EvD X α a λx=>EvD X α b λy=>∃i j,x=.int i/\y=.int j/\zg2 i j/\Q (.int (i / j))):EvD X α (.BinOp a .FloorDiv b pos) Q:=pG (gd:=λi j=>.int (i / j)) sQ (λ_ _ _=>.int _) h
theorem um {i j r:Int}{p1 p2:Pos}{n1 n2:Nat}(d:zp0 i j)(hr:i ^ j.toNat=r)(q:Q (.int r)):EvD X α (.BinOp (.Constant (.int i) n1 p1) .Pow (.Constant (.int j) n2 p2) pos) Q:=
 zn4 (zM (zM ⟨i,j,rfl,rfl,d,hr▸q⟩))
theorem zm7 (h:EvD X α a λx=>∃i,x=.int i/\Q (.int (-i))):EvD X α (.UnaryOp .USub a pos) Q:=λF σ H R m k=>by
 refine⟨_,zd6 de zh,?_⟩;refine h F σ H _ m λx j H1 d t1 g f=>?_;obtain⟨i,rfl,q⟩:=d;cases f.int_inv;exact⟨i,rfl,k _ _ H1 q t1 g (.int _)⟩
theorem kW {op:CmpOp}{g:Int->Int->Bool}(o:OpR X (compareOp op) (rI0 λi j=>.bl (g i j)))(hm:behindInMarks op b=false)
  (h:EvD X α a λx=>EvD X α b λy=>∃i j,x=.int i/\y=.int j/\Q (.bool (g i j))):EvD X α (.Compare a [op] [b] pos) Q:=by
 refine rg (f:=tOp (rI0 λi j=>.bl (g i j))) (pJ o zh zh hm) (λ_ _ _=>Iff.rfl) (h.imp λx h=>h.imp λy d=>?_);obtain⟨i,j,e1,n,hq⟩:=d;subst e1 n;intro F σ H s t R m l r k;cases l.int_inv;cases r.int_inv;exact⟨i,j,rfl,rfl,k _ _ H hq m.tp Kz.refl (.bl _)⟩
theorem ze4 (h:EvD X α a λx=>EvD X α b λy=>∃i j,x=.int i/\y=.int j/\Q (.bool (decide (i<j)))):EvD X α (.Compare a [.Lt] [b] pos) Q:=kW zi2 (yw _) h
theorem zw2 (h:EvD X α a λx=>EvD X α b λy=>∃i j,x=.int i/\y=.int j/\Q (.bool (decide (i<=j)))):EvD X α (.Compare a [.LtE] [b] pos) Q:=kW oK (yw _) h
def xp :PyData->Bool
 |.none=>true
 |_=>false
theorem AV.non_iff {H:Hp}{v:V}{d:PyData}(h:AV H v d):decide (v=.non)=xp d:=by cases h<;>simp[xp]
theorem zr9 {j:Nat}(h:EvD X α a λx=>Q (.bool (xp x))):EvD X α (.Compare a [.Is] [.Constant .none j p] pos) Q:=λF σ H R m k=>by
 refine⟨_,pJ fu zh cF (yw _),?_⟩;refine h F σ H _ m λx i H1 d t1 g f=>⟨rfl,?_⟩;rw[f.non_iff];exact k _ _ H1 d t1 g (.bl _)
theorem fH {op d:CmpOp}{g g':Int->Int->Bool}(B:OpR X (compareOp op) (rI0 λi j=>.bl (g i j)))(f:OpR X (compareOp d) (rI0 λi j=>.bl (g' i j)))(hm:lastMarks [op,d] [b,c]=false)
  (h:EvD X α a λx=>EvD X α b λy=>∃i j,x=.int i/\y=.int j/\(if g i j=true then EvD X α c λz=>∃k,z=.int k/\Q (.bool (g' j k))else Q (.bool false))):EvD X α (.Compare a [op,d] [b,c] pos) Q:=λF σ H R m k=>by
 refine⟨_,dX B f zh zh zh hm,?_⟩;refine h F σ H _ m λx K H1 t t1 n A=>?_;have m1:=m.kz n t1;refine t F σ H1 _ m1 λy J r C s o u=>?_;obtain⟨i,j,e1,D,hq⟩:=C;subst e1 D;cases A.int_inv;cases u.int_inv;have m2:=m1.kz o s;refine⟨i,j,rfl,rfl,_,rfl,?_⟩;cases hg:g i j with
 |true=>
  rw[hg]at hq;refine rK ?_;refine(by simpa using hq:EvD X α c _) F σ r _ m2 λz L G I t3 w E=>?_;obtain⟨v,rfl,l⟩:=I;cases E.int_inv;exact⟨j,v,rfl,rfl,k _ _ G l t3 ((n.trans o).trans w) (.bl _)⟩
 |false=>
  rw[hg]at hq;exact rE (k _ _ r (by simpa using hq) s (n.trans o) (.bl _))
theorem cH {Q:Bool->Prop}(h:EvD X α e λx=>∃k,x=.bool k/\Q k)(he:∀whole,isTrue e X.env whole=(do let v <-whole;standAt e.pos;holding [v] (truthy v)):=by intro _;rfl):EvT X α e Q:=λF σ H R m k=>by
 refine⟨_,zs3 zh he,?_⟩;refine h F σ H _ m λx i H1 d t1 g f=>?_;obtain⟨b,rfl,q⟩:=d;cases f.bl_inv;exact⟨b,rfl,k b H1 q t1 g⟩
def Cmp (r:R2)(x y:PyData)(k:Bool):Prop:=∀(p:Addr->Prop) (H:Hp) (d f:V) (R:VK),AV (sub p H) d x->AV (sub p H) f y->R (.bl k) H->r d f H R
theorem xS {op:CmpOp}{r:R2}{Q:Bool->Prop}(u:OpR X (compareOp op) r)(hm:behindInMarks op b=false)(h:EvD X α a λx=>EvD X α b λy=>∃k,Cmp r x y k/\Q k):EvT X α (.Compare a [op] [b] pos) Q:=λF σ H R m k=>by
 refine⟨_,kn u zh zh hm,?_⟩;refine h F σ H _ m λx j H1 i t1 d t=>?_;have m1:=m.kz d t1;refine i F σ H1 _ m1 λy l g v n f o=>?_;obtain⟨b,s,q⟩:=v;exact s _ g j l _ (t.same (f.gz m1.tp)) o ⟨b,rfl,k b g q n (d.trans f)⟩
theorem ae {g:Int->Int->Bool}{i j:Int}:Cmp (rI0 λi j=>.bl (g i j)) (.int i) (.int j) (g i j):=λp H k l R d f h=>by
 cases d.int_inv;cases f.int_inv;exact⟨i,j,rfl,rfl,h⟩
theorem qN {op:CmpOp}{g:Int->Int->Bool}{Q:Bool->Prop}(k:OpR X (compareOp op) (rI0 λi j=>.bl (g i j)))(hm:behindInMarks op b=false)
  (h:EvD X α a λx=>EvD X α b λy=>∃i j,x=.int i/\y=.int j/\Q (g i j)):EvT X α (.Compare a [op] [b] pos) Q:=
 xS k hm (h.imp λx h=>h.imp λy d=>by obtain⟨i,j,e1,f,q⟩:=d;exact⟨_,by subst e1 f;exact ae,q⟩)
theorem zA9 {Q:Bool->Prop}(h:EvD X α a λx=>EvD X α b λy=>∃i j,x=.int i/\y=.int j/\Q (decide (i<j))):EvT X α (.Compare a [.Lt] [b] pos) Q:=qN zi2 (yw _) h
theorem ze2 {Q:Bool->Prop}(h:EvD X α a λx=>EvD X α b λy=>∃i j,x=.int i/\y=.int j/\Q (decide (j<i))):EvT X α (.Compare a [.Gt] [b] pos) Q:=qN zj0 (yw _) h
theorem zd5 {Q:Bool->Prop}(h:EvD X α a λx=>EvD X α b λy=>∃i j,x=.int i/\y=.int j/\Q (decide (j<=i))):EvT X α (.Compare a [.GtE] [b] pos) Q:=qN zy0 (yw _) h
theorem wy {j:Nat}{Q:Bool->Prop}(h:EvD X α a λx=>Q (xp x)):EvT X α (.Compare a [.Is] [.Constant .none j p] pos) Q:=
 xS fu (yw _) (h.imp λx h=>nR ⟨_,λp H g i R d f z=>⟨f.non_inv,by rw[d.non_iff];exact z⟩,h⟩)
theorem kP {j:Nat}{Q:Bool->Prop}(h:EvD X α a λx=>Q (!xp x)):EvT X α (.Compare a [.IsNot] [.Constant .none j p] pos) Q:=
 xS zb3 (yw _) (h.imp λx h=>nR ⟨_,λp H g i R d f z=>⟨f.non_inv,by rw[d.non_iff];exact z⟩,h⟩)
def zF0 :PyData->Option Bool
 |.none=>some false
 |.bool b=>some b
 |.int i=>some (i != 0)
 |.list ds=>some (!ds.isEmpty)
 |.tuple ds=>some (!ds.isEmpty)
 |_=>none
theorem AVs.isEmpty {H:Hp}{xs:List V}{ds:List PyData}(h:AVs H xs ds):xs.isEmpty=ds.isEmpty:=by cases h<;>rfl
theorem gB {Q:Bool->Prop}(h:EvD X α e λx=>∃k,zF0 x=some k/\Q k)(he:∀whole,isTrue e X.env whole=(do let v <-whole;standAt e.pos;holding [v] (truthy v)):=by intro _;rfl):EvT X α e Q:=λF σ H R m k=>by
 refine⟨_,eJ zh he,?_⟩;refine h F σ H _ m λx n H1 g t1 l j=>?_;obtain⟨b,hb,q⟩:=g;refine⟨b,?_,k b H1 q t1 l⟩;cases j with
 |non=>cases hb;rfl
 |bl z=>cases hb;rfl
 |int i=>cases hb;rfl
 |str s=>cases hb
 |lst d f=>cases hb;exact .inl ⟨_,SqL.of (zi d).2,by rw[f.isEmpty]⟩
 |tup d f=>cases hb;exact .inr (.inl ⟨_,SqT.of (zi d).2,by rw[f.isEmpty]⟩)
 |ins _ _=>cases hb
 |dk _ _=>cases hb
 |dt _ _=>cases hb
 |xc _ _ _=>cases hb
 |xn _=>cases hb
theorem gR {Q:Bool->Prop}(h:EvT X α a λk=>Q (!k)):EvT X α (.UnaryOp .Not a pos) Q:=λF σ H R m k=>by
 refine⟨_,zp6 xo,?_⟩;exact h F σ H _ m λb H1 d t1 f=>k _ H1 d t1 f
def EvW (X:Cx)(α:Ev)(e:Expr)(Q:Bool->Prop):Prop:=∀(F:Fr) (σ:St) (H:Hp) (R:Bool->Hp->Prop),M F α σ H->(∀b H',Q b->zC F H'->Kz F H H'->R b H')->∃t,PW X e t/\t σ H R
def zE9 (X:Cx)(e:Expr):TT:=λσ H Q=>∃t,PW X e t/\t σ H Q
theorem kQ :PW X e (zE9 X e):=λw pins s σ H Q I d=>by obtain⟨t,p,q⟩:=d;exact p w pins s σ H Q I q
theorem EvW.t {Q:Bool->Prop}(h:EvW X α e Q):EvT X α e Q:=λF σ H R m k=>by
 obtain⟨t,p,q⟩:=h F σ H R m k;exact⟨t,p.pt,q⟩
variable {rest:List Expr}
theorem qI {Q:Bool->Prop}(h:EvT X α a Q):EvW X α (.BoolOp .And [a] pos) Q:=λF σ H R m k=>⟨_,bx xo,h F σ H R m k⟩
theorem fA {Q:Bool->Prop}(h:EvT X α a Q):EvW X α (.BoolOp .Or [a] pos) Q:=λF σ H R m k=>⟨_,zo1 xo,h F σ H R m k⟩
theorem sE {Q:Bool->Prop}(h:EvT X α a λk=>if k=true then EvW X α (.BoolOp .And (b::rest) pos) Q else Q false):EvW X α (.BoolOp .And (a::b::rest) pos) Q:=λF σ H R m k=>by
 refine⟨_,zv4 xo kQ,?_⟩;refine h F σ H _ m λc H1 f t1 d=>?_;cases c with
 |true=>exact rK ((by simpa using f:EvW X α _ Q) F σ H1 R (m.kz d t1) λb j l g i=>k b j l g (d.trans i))
 |false=>exact rE (k _ H1 (by simpa using f) t1 d)
theorem fc {Q:Bool->Prop}(h:EvT X α a λk=>if k=true then Q true else EvW X α (.BoolOp .Or (b::rest) pos) Q):EvW X α (.BoolOp .Or (a::b::rest) pos) Q:=λF σ H R m k=>by
 refine⟨_,zC6 xo kQ,?_⟩;refine h F σ H _ m λc H1 f t1 d=>?_;cases c with
 |false=>exact rE ((by simpa using f:EvW X α _ Q) F σ H1 R (m.kz d t1) λb j l g i=>k b j l g (d.trans i))
 |true=>exact rK (k _ H1 (by simpa using f) t1 d)
theorem zv1 {op}(h:EvD X α a Q):EvD X α (.BoolOp op [a] pos) Q:=λF σ H R m k=>⟨_,zu8 zh,h F σ H R m k⟩
theorem zs8 (h:EvD X α a λx=>∃k,x=.bool k/\if k=true then EvD X α (.BoolOp .And (b::rest) pos) Q else Q (.bool false)):EvD X α (.BoolOp .And (a::b::rest) pos) Q:=λF σ H R m k=>by
 refine⟨_,zp3 zh zh,?_⟩;refine h F σ H _ m λx s H1 f t1 g l=>?_;obtain⟨c,rfl,f⟩:=f;cases l.bl_inv;refine⟨c,rfl,?_⟩;cases c with
 |true=>exact rK ((by simpa using f:EvD X α _ Q) F σ H1 R (m.kz g t1) λd v o r i n j=>k d v o r i (g.trans n) j)
 |false=>exact rE (k _ _ H1 (by simpa using f) t1 g (.bl _))
theorem zD8 (h:EvD X α a λx=>∃k,x=.bool k/\if k=true then Q (.bool true)else EvD X α (.BoolOp .Or (b::rest) pos) Q):EvD X α (.BoolOp .Or (a::b::rest) pos) Q:=λF σ H R m k=>by
 refine⟨_,zB9 zh zh,?_⟩;refine h F σ H _ m λx s H1 f t1 g l=>?_;obtain⟨c,rfl,f⟩:=f;cases l.bl_inv;refine⟨c,rfl,?_⟩;cases c with
 |false=>exact rE ((by simpa using f:EvD X α _ Q) F σ H1 R (m.kz g t1) λd v o r i n j=>k d v o r i (g.trans n) j)
 |true=>exact rK (k _ _ H1 (by simpa using f) t1 g (.bl _))
theorem zn5 (h:EvD X α a λx=>∃k,x=.bool k/\Q (.bool (!k))):EvD X α (.UnaryOp .Not a pos) Q:=λF σ H R m k=>by
 refine⟨_,zm3 zh,?_⟩;refine h F σ H _ m λx i H1 d t1 g f=>?_;obtain⟨c,rfl,q⟩:=d;cases f.bl_inv;exact⟨c,rfl,k _ _ H1 q t1 g (.bl _)⟩
theorem mM (h:EvT X α c λk=>if k=true then EvD X α a Q else EvD X α b Q):EvD X α (.IfExp c a b pos) Q:=λF σ H R m k=>by
 refine⟨_,cI xo zh zh,?_⟩;refine h F σ H _ m λx H1 o t1 f=>?_;cases x with
 |true=>exact rK ((by simpa using o:EvD X α _ Q) F σ H1 R (m.kz f t1) λd v l n g j i=>k d v l n g (f.trans j) i)
 |false=>exact rE ((by simpa using o:EvD X α _ Q) F σ H1 R (m.kz f t1) λd v l n g j i=>k d v l n g (f.trans j) i)
theorem yR (s:pE b)(h:EvD X α a λx=>EvD X α b λy=>∃ds i d,x=.tuple ds/\y=.int i/\atI ds i=some d/\Q d):EvD X α (.Subscript a b pos) Q:=by
 refine rg (f:=tOp (zn7 X.K)) (vm fo zh zh s) (λ_ _ _=>Iff.rfl) (h.imp λx h=>h.imp λy g=>?_);obtain⟨ds,i,d,e1,r,j,hq⟩:=g;subst e1 r;intro F σ H w z R m l u k;obtain⟨a,xs,rfl,o,n⟩:=l.tup_inv;cases u.int_inv;obtain⟨v,t,av⟩:=n.atI j;exact⟨a,xs,i,v,rfl,rfl,SqT.of (zi o).2,t,k d v H hq m.tp Kz.refl av⟩
def EvO (X:Cx)(α:Ev)(e:Option Expr)(Q:Option Int->Prop):Prop:=∀(F:Fr) (σ:St) (H:Hp) (R:Option Int->Hp->Prop),M F α σ H->(∀i H',Q i->zC F H'->Kz F H H'->R i H')->∃t,PO X e t/\t σ H R
def zF1 (X:Cx)(e:Option Expr):TO:=λσ H Q=>∃t,PO X e t/\t σ H Q
theorem kM {e:Option Expr}:PO X e (zF1 X e):=λpins s σ H Q I d=>by obtain⟨t,p,q⟩:=d;exact p pins s σ H Q I q
theorem aV {Q:Option Int->Prop}(q:Q none):EvO X α none Q:=λF σ H R m k=>⟨_,kl,k _ H q m.tp Kz.refl⟩
theorem af {Q:Option Int->Prop}(h:EvD X α a λx=>∃i,x=.int i/\Q (some i)):EvO X α (some a) Q:=λF σ H R m k=>by
 refine⟨_,kR zh,?_⟩;refine h F σ H _ m λx j H1 d t1 g f=>?_;obtain⟨i,rfl,q⟩:=d;cases f.int_inv;exact⟨i,rfl,k _ H1 q t1 g⟩
theorem M.lay {F:Fr}{σ:St}{H:Hp}{l:Addr}{xs:List V}{ds:List PyData}(m:M F α σ H)(d:H l=none)(h:AVs (Gz F α σ H) xs ds):zC F (upd H l (.lst xs))/\Kz F H (upd H l (.lst xs))/\yG F α σ H (.ref l) (upd H l (.lst xs)) ds:=by
 refine⟨m.tp.same (zL d),Kz.of_same (zL d),l,xs,rfl,d,zl,h.same (zr λa o ha e=>?_)⟩;have:=zm e d;exact⟨⟨ha,this⟩,by rw[zg this];exact e⟩
theorem yG.back {F:Fr}{σ:St}{H H1 H':Hp}{v:V}{ds:List PyData}(m:M F α σ H)(k:Kz F H H1)(t1:zC F H1)(h:yG F α σ H1 v H' ds):yG F α σ H v H' ds:=by
 obtain⟨f,d,e1,g,j,i⟩:=h;refine⟨f,d,e1,?_,j,i⟩;cases z:H f with
 |none=>rfl
 |some o=>rw[k f o z (m.tp.nt (ow0 ((m.kz k t1).fresh g)))]at g;cases g
theorem zu {Q:List A->Prop}(q:Q []):EvA X α [] Q:=λF σ H R m k=>⟨_,ye,k _ _ H q m.tp Kz.refl .nil⟩
theorem zk {Q:List A->Prop}(h:EvD X α e λd=>EvA X α es λas=>Q (.dat d::as))(n:starEach (e::es) X.env=(false,eval e X.env)::starEach es X.env:=by rfl):EvA X α (e::es) Q:=λF σ H R m k=>by
 refine⟨_,zB zh yy n,?_⟩;refine h F σ H _ m λd v H1 i t1 f o=>?_;have m1:=m.kz f t1;exact i F σ H1 _ m1 λas vs r s j g l=>k _ _ r s j (f.trans g) (.cons (o.same (g.gz m1.tp)) l)
theorem xU {Q:List A->Prop}(i:Nat){x:Str}(hi:α[i]?=some (some .tape))(h:EvA X α es λas=>Q (.tape::as))(u:X.N[i]?=some x:=by rfl)(o:Vis X.env.scope x:=by first|exact Or.inl rfl|exact Or.inr (Or.inl rfl)|exact Or.inr (Or.inr rfl))
  (hd:(x == ("__debug__":Str))=false:=by decide) (d:(x == ("__classdict__":Str))=false:=by decide) (n:starEach (.Name x pos::es) X.env=(false,eval (.Name x pos) X.env)::starEach es X.env:=by rfl):EvA X α (.Name x pos::es) Q:=λF σ H R m k=>by
 obtain⟨t,b,c,j,f⟩:=m.tvar i hi;refine⟨_,zB (yt u o hd d) yy n,.ref t,f,?_⟩;exact h F σ H _ m λas vs s v g r l=>k _ _ s v g r (.cons ⟨t,b,c,j,rfl⟩ l)
def datas :List A->Option (List PyData)
 |[]=>some []
 |.dat d::r=>(datas r).map (d::·)
 |_::_=>none
theorem ya.datas {F:Fr}{G:Hp}{vs:List V}{as:List A}{ds:List PyData}(h:ya F G vs as)(e:L2.datas as=some ds):AVs G vs ds:=by
 induction h generalizing ds with
 |nil=>cases e;exact .nil
 |@cons _ _ a as h _ ih=>
  cases a with
  |dat d=>
   obtain⟨es,e1,rfl⟩:=zM2.mp e;exact .cons h (ih e1)
  |tape=>cases e
  |_=>exact h.elim
theorem wc {n:Nat}(h:EvA X α es λas=>∃ds,datas as=some ds/\ds.length<=1000/\Q (.tuple ds)):EvD X α (.Tuple es n pos) Q:=λF σ H R m k=>by
 refine⟨_,cK yy,?_⟩;refine h F σ H _ m λas vs H1 g t1 f i=>?_;obtain⟨ds,e,j,q⟩:=g;have r:=i.datas e;have m1:=m.kz f t1;refine⟨by rw[r.length];exact zN5 (yp j),λp d=>?_⟩;refine k _ _ _ q (t1.same (zL d)) (f.trans (Kz.of_same (zL d))) (.tup (xs:=vs) (zG (m1.fresh d) zl) (r.same (zr λa o ha e=>⟨ha,by rw[zg (zm e d)];exact e⟩)))
theorem xZ {Q:List PyData->Prop}(h:EvA X α es λas=>∃ds,datas as=some ds/\ds.length<=1000/\Q ds):EvL X α (.List es pos) Q:=λF σ H R m k=>by
 refine⟨_,gX yy,?_⟩;refine h F σ H _ m λas vs H1 f t1 d i=>?_;obtain⟨ds,e,j,q⟩:=f;have r:=i.datas e;have m1:=m.kz d t1;refine⟨by rw[r.length];exact zN5 (yp j),λp g=>?_⟩;obtain⟨g1,g2,g3⟩:=m1.lay g r;exact k _ _ _ q g1 (d.trans g2) (g3.back m d t1)
theorem xK {Q:List PyData->Prop}(h:EvD X α a λx=>EvD X α b λy=>∃ds es,x=.list ds/\y=.list es/\ds.length+es.length<=1000/\Q (ds++es)):EvL X α (.BinOp a .Add b pos) Q:=λF σ H R m k=>by
 refine⟨_,yU dM zh zh,?_⟩;refine h F σ H _ m λx A H1 l t1 f s=>?_;have m1:=m.kz f t1;refine l F σ H1 _ m1 λy w z u i d o=>?_;have m2:=m1.kz d i;obtain⟨ds,es,rfl,rfl,t,q⟩:=u;obtain⟨a,xs,rfl,n,g⟩:=(s.same (d.gz m1.tp)).lst_inv;obtain⟨b,ys,rfl,v,j⟩:=o.lst_inv;refine⟨a,b,xs,ys,rfl,rfl,(zi n).2,(zi v).2,by rw[g.length,j.length];exact zN5 (yp t),λp r=>?_⟩;obtain⟨g1,g2,g3⟩:=m2.lay r (g.append j);exact k _ _ _ q g1 ((f.trans d).trans g2) (g3.back m (f.trans d) i)
theorem uc {id:String}{x:Str}{r:List V->Hp->VK->Prop}(n:xm X (.builtin id) r)(hg:Gl X x)(hm:X.mg x=none)(o:bootBuiltins x=some (.builtin id))
  (h:EvA X α (e::es) λas=>∀(F:Fr) (σ:St) (H:Hp) (vs:List V) (R:VK),M F α σ H->ya F (Gz F α σ H) vs as->(∀d v H',Q d->zC F H'->Kz F H H'->AV (Gz F α σ H') v d->R v H')->r vs H R)
  (hn:x≠"__name__":=by decide) (f:(x == ("__debug__":Str))=false:=by decide) (he:starEach (e::es) X.env=(false,eval e X.env)::starEach es X.env:=by rfl) (hpl:(backTo pos (starEach es X.env)).any (·.1)=false:=by rfl):
  EvD X α (.Call (.Name x p) (e::es) [] pos) Q:=λF σ H R m k=>by
 refine⟨_,tX n hg hm o yy hn f he hpl,?_⟩;refine h F σ H _ m λas vs H1 i t1 g s=>?_;exact i F σ H1 vs R (m.kz g t1) s λd v H' u j t l=>k d v H' u j (g.trans t) l
end
section
variable {X:Cx}{α:Ev}{e a b c:Expr}{es:List Expr}{pos p q:Pos}{Q:PyData->Prop}
theorem ya.one {F:Fr}{G:Hp}{vs:List V}{d:PyData}(h:ya F G vs [.dat d]):∃v,vs=[v]/\AV G v d:=by
 cases h with|cons h r=>cases r;exact⟨_,rfl,h⟩
theorem ya.two {F:Fr}{G:Hp}{vs:List V}{d e:PyData}(h:ya F G vs [.dat d,.dat e]):∃v u,vs=[v,u]/\AV G v d/\AV G u e:=by
 cases h with|cons h r=>obtain⟨u,rfl,f⟩:=r.one;exact⟨_,u,rfl,h,f⟩
def zH1 :PyData->Option Int
 |.list ds=>some ds.length
 |.tuple ds=>some ds.length
 |_=>none
theorem wJ (hg:Gl X "len")(hm:X.mg "len"=none)(h:EvD X α e λx=>∃n,zH1 x=some n/\Q (.int n))(he:starEach [e] X.env=(false,eval e X.env)::starEach [] X.env:=by rfl):
  EvD X α (.Call (.Name "len" p) [e] [] pos) Q:=by
 refine uc pe hg hm PySem.boot_len (zk (h.imp λx d=>?_) he) (he:=he);obtain⟨n,e1,q⟩:=d;refine zu ?_;intro F σ H vs R m i k;obtain⟨v,rfl,av⟩:=i.one;cases av with
 |lst g f=>cases e1;rw[<-f.length]at q;exact⟨_,_,rfl,.inl (SqL.of (zi g).2),k _ _ H q m.tp Kz.refl (.int _)⟩
 |tup g f=>cases e1;rw[<-f.length]at q;exact⟨_,_,rfl,.inr (SqT.of (zi g).2),k _ _ H q m.tp Kz.refl (.int _)⟩
 |_=>cases e1
theorem zk8 (n:X.calm=true)(hg:Gl X "max")(hm:X.mg "max"=none)(h:EvD X α a λx=>EvD X α b λy=>∃i j,x=.int i/\y=.int j/\Q (.int (if j > i then j else i)))
  (he:starEach [a,b] X.env=(false,eval a X.env)::starEach [b] X.env:=by rfl) (d:starEach [b] X.env=(false,eval b X.env)::starEach [] X.env:=by rfl) (hpl:(backTo pos (starEach [b] X.env)).any (·.1)=false:=by rfl):
  EvD X α (.Call (.Name "max" p) [a,b] [] pos) Q:=by
 refine uc (iM n) hg hm boot_max (zk (h.imp λx h=>zk (h.imp λy f=>?_) d) he) (he:=he) (hpl:=hpl);obtain⟨i,j,e1,o,q⟩:=f;refine zu ?_;intro F σ H vs R m l k;subst e1 o;obtain⟨v,u,rfl,av,g⟩:=l.two;cases av.int_inv;cases g.int_inv;exact⟨i,j,rfl,k _ _ H q m.tp Kz.refl (.int _)⟩
theorem zn2 (n:X.calm=true)(hg:Gl X "min")(hm:X.mg "min"=none)(h:EvD X α a λx=>EvD X α b λy=>∃i j,x=.int i/\y=.int j/\Q (.int (if j<i then j else i)))
  (he:starEach [a,b] X.env=(false,eval a X.env)::starEach [b] X.env:=by rfl) (d:starEach [b] X.env=(false,eval b X.env)::starEach [] X.env:=by rfl) (hpl:(backTo pos (starEach [b] X.env)).any (·.1)=false:=by rfl):
  EvD X α (.Call (.Name "min" p) [a,b] [] pos) Q:=by
 refine uc (ju n) hg hm boot_min (zk (h.imp λx h=>zk (h.imp λy f=>?_) d) he) (he:=he) (hpl:=hpl);obtain⟨i,j,e1,o,q⟩:=f;refine zu ?_;intro F σ H vs R m l k;subst e1 o;obtain⟨v,u,rfl,av,g⟩:=l.two;cases av.int_inv;cases g.int_inv;exact⟨i,j,rfl,k _ _ H q m.tp Kz.refl (.int _)⟩
theorem sT {T:String}{x:Str}{p1:Pos}(hg:Gl X "isinstance")(hm:X.mg "isinstance"=none)(f:Gl X x)(d:X.mg x=none)(r:bootBuiltins x=some (.type T))
  (h:EvD X α a λx=>∃k,x.hasDict=false/\bB T x=some k/\Q (.bool k)) (i:x≠"__name__":=by decide) (hdx:(x == ("__debug__":Str))=false:=by decide)
  (he:starEach [a,.Name x p1] X.env=(false,eval a X.env)::starEach [.Name x p1] X.env:=by rfl) (g:starEach [.Name x p1] X.env=(false,eval (.Name x p1) X.env)::starEach [] X.env:=by rfl) (hpl:(backTo pos (starEach [.Name x p1] X.env)).any (·.1)=false:=by rfl):
  EvD X α (.Call (.Name "isinstance" p) [a,.Name x p1] [] pos) Q:=λF σ H R m k=>by
 refine⟨_,tX jH hg hm boot_isinstance (zB zh (zB (bo f d r (show RelV (.ty T) (.type T)from rfl) i hdx) ye g) he) (he:=he) (hpl:=hpl),?_⟩;refine h F σ H _ m λx l H1 j t1 o n=>?_;obtain⟨b,hd,e,q⟩:=j;exact⟨l,T,x,b,rfl,(n.dv hd).same xh,e,k _ _ H1 q t1 o (.bl b)⟩
def xO :PyData->Option (List PyData)
 |.list ds=>some ds
 |.tuple ds=>some ds
 |_=>none
theorem pb {Q:List PyData->Prop}(hg:Gl X "list")(hm:X.mg "list"=none)(h:EvD X α e λx=>∃ds,xO x=some ds/\Q ds)(he:starEach [e] X.env=(false,eval e X.env)::starEach [] X.env:=by rfl):
  EvL X α (.Call (.Name "list" p) [e] [] pos) Q:=λF σ H R m k=>by
 refine⟨_,wO qX hg hm boot_list (zB zh ye he) (he:=he),?_⟩;refine h F σ H _ m λx o H1 i t1 g j=>?_;obtain⟨ds,e1,q⟩:=i;have m1:=m.kz g t1;have fin:∀{xs:List V},AVs (Gz F α σ H1) xs ds->∀l,H1 l=none->R (.ref l) (upd H1 l (.lst xs)):=λ{xs} d l n=>by
  obtain⟨g1,g2,g3⟩:=m1.lay n d;exact k _ _ _ q g1 (g.trans g2) (g3.back m g t1)
 cases j with
 |lst f d=>cases e1;exact⟨_,_,rfl,.inl (SqL.of (zi f).2),fin d⟩
 |tup f d=>cases e1;exact⟨_,_,rfl,.inr (SqT.of (zi f).2),fin d⟩
 |_=>cases e1
section
variable {k:Nat}{f:Addr}{fd:FuncData}{ps:List Str}{φ:List A->(A->Prop)->Prop}{x:Str}
theorem xM {F:Fr}{σ:St}{H:Hp}{vs:List V}{as:List A}{g:A->Prop}{R:VK}(m:M F α σ H)(h:ya F (Gz F α σ H) vs as)(d:φ as g)
  (i:∀a v H',g a->wC ⟨H,Ow F α σ,F.tp⟩ v H' a->R v H') {E:XK}:spA φ (vs++[]) H R E:=by
 refine⟨⟨H,Ow F α σ,F.tp⟩,as,g,rfl,?_,?_,?_,d,i⟩
 ·exact m.tp.to rfl λ_ z=>.inl z
 ·exact λy z=>m.owEx z
 ·rw[zQ3];exact ya.to (F:=F) (F':=⟨H,Ow F α σ,F.tp⟩) (λ_ _ e=>e) rfl h
theorem wC.back {F:Fr}{σ:St}{H H':Hp}{v:V}{a:A}(m:M F α σ H)(h:wC ⟨H,Ow F α σ,F.tp⟩ v H' a):zC F H'/\Kz F H H'/\AV (Gz F α σ H') v a.d:=by
 obtain⟨t,kz,r⟩:=h;refine⟨m.tp.re t rfl,kz,?_⟩;cases a with
 |dat d=>exact r
 |ow c=>
  obtain⟨l,xs,ds,rfl,rfl,n,g,j,u⟩:=r;exact .lst (zG g j) (u.same (zr λa o h e=>⟨h.1,e⟩))
 |deep d S=>
  obtain⟨n,g⟩:=r;refine n.same λx o e=>?_;rcases dP e with⟨w,i⟩|⟨_,i⟩
  ·exact zG (g x w).1 i
  ·exact i
 |tape=>exact r.elim
 |«at» _=>exact r.elim
 |exc _ _=>exact r.elim
 |pin _ _ _=>exact r.elim
 |nst l ls dss=>
  obtain⟨rfl,g,j,u,s⟩:=r;exact .lst (zG (s l zK5).1 g) (j.avs (zr λa o h e=>⟨h.1,e⟩) λa ha=>(s a (zJ8 _ ha)).1)
theorem bJ (G:yD X.prog X.w X.K X.mg X.base CX0 k f fd ps (spA φ))(hr:zK k X.A)(hg:Gl X x)(hm:X.mg x=some (.ref f))(hk:PySem.W.keepIn X.K (.ref f)=true)(hb:Binds X.K fd ps [])
  (h:EvA X α (e::es) λas=>φ as λa=>Q a.d) (g:(x == ("__debug__":Str))=false:=by decide) (he:starEach (e::es) X.env=(false,eval e X.env)::starEach es X.env:=by rfl) (hpl:(backTo pos (starEach es X.env)).any (·.1)=false:=by rfl):
  EvD X α (.Call (.Name x p) (e::es) [] pos) Q:=λF σ H R m o=>by
 refine⟨_,lH G hr hg hm hk hb .nil oH yy g he hpl,?_⟩;refine h F σ H _ m λas vs H1 j t1 i r=>?_;have m1:=m.kz i t1;refine xM m1 r j λa v H' l n=>?_;obtain⟨g1,g2,g3⟩:=n.back m1;exact o _ v H' l g1 (i.trans g2) g3
theorem bW {Q:List PyData->Prop}(G:yD X.prog X.w X.K X.mg X.base CX0 k f fd ps (spA φ))(hr:zK k X.A)(hg:Gl X x)(hm:X.mg x=some (.ref f))(hk:PySem.W.keepIn X.K (.ref f)=true)(hb:Binds X.K fd ps [])
  (h:EvA X α (e::es) λas=>φ as λa=>∃ds,a=.own ds/\Q ds) (d:(x == ("__debug__":Str))=false:=by decide) (he:starEach (e::es) X.env=(false,eval e X.env)::starEach es X.env:=by rfl) (hpl:(backTo pos (starEach es X.env)).any (·.1)=false:=by rfl):
  EvL X α (.Call (.Name x p) (e::es) [] pos) Q:=λF σ H R m r=>by
 refine⟨_,lH G hr hg hm hk hb .nil oH yy d he hpl,?_⟩;refine h F σ H _ m λas vs H1 j t1 g u=>?_;have m1:=m.kz g t1;refine xM m1 u j λa v H' n i=>?_;obtain⟨ds,rfl,q⟩:=n;obtain⟨g1,g2,_⟩:=i.back m1;obtain⟨_,_,l,xs,s,rfl,t,o,B,y,z⟩:=i;cases t;exact r ds _ H' q g1 (g.trans g2) (yG.back m g t1 ⟨l,xs,rfl,o,y,z⟩)
end
theorem lq {i j:Nat}{x:Option A}(h:i≠j):(α.set i x)[j]?=α[j]?:=zP4 h
theorem zN {i:Nat}{x:Option A}{j:Nat}{y:Option A}(h:(α.set i x)[j]?=some y):(i=j/\x=y)\/(i≠j/\α[j]?=some y):=by
 by_cases d:i=j
 ·subst d;left;have f:i<α.length:=by
   have:=(zK1.mp h).1
   rwa [zO4]at this
  rw[zR3 f]at h;exact⟨rfl,zN2 h⟩
 ·right;rw[zP4 d]at h;exact⟨d,h⟩
theorem M.put {F:Fr}{σ:St}{H:Hp}{i:Nat}{b:Option A}(m:M F α σ H)(hf:∀s c x,σ[i]?=some s->b=some c->foot s c x->∃a,α[i]?=some (some a)/\foot s a x)
  (hok:∀s c,i<α.length->σ[i]?=some s->b=some c->xr (Gz F (α.set i b) σ H) F H s c) (D:∀c,b=some c->noX c:=by intro c z;cases z;trivial):zt (Gz F α σ H) (Gz F (α.set i b) σ H)/\M F (α.set i b) σ H:=by
 have B:zt (Gz F α σ H) (Gz F (α.set i b) σ H):=zr λa o h e=>⟨λz=>h (by
  rcases z with z|⟨j,c,s,e1,n,f⟩
  ·exact .inl z
  ·rcases zN e1 with⟨rfl,z⟩|⟨y,g⟩
   ·obtain⟨u,v,w⟩:=hf s c a n z f;exact .inr ⟨i,u,s,v,n,w⟩
   ·exact .inr ⟨j,c,s,g,n,f⟩),e⟩
 have old:∀{j:Nat} {c:A} {s:Option V} {x:Addr},(α.set i b)[j]?=some (some c)->σ[j]?=some s->foot s c x->∃a,α[j]?=some (some a)/\foot s a x:=λ{j c s x} e1 n f=>by
  rcases zN e1 with⟨rfl,z⟩|⟨y,g⟩
  ·exact hf s c x n z f
  ·exact⟨c,g,f⟩
 refine⟨B,by rw[zO4];exact m.len,λj c s e1 n=>?_,λj k c d s t x e1 n v w f1 f2=>?_,λj r q e G c s x e1 n f=>?_,m.tp,m.keep,m.oex⟩
 ·rcases zN e1 with⟨rfl,z⟩|⟨y,g⟩
  ·refine hok s c ?_ n z;have:=(zK1.mp e1).1
   rwa [zO4]at this
  ·exact(m.ok j c s g n).stay B (λx o f e=>⟨e,(m.ft g n f).1,(m.ft g n f).2.1⟩) rfl λ_ _ _ l=>l
 ·obtain⟨u,g1,g2⟩:=old e1 v f1;obtain⟨C,g3,I⟩:=old n w f2;exact m.dj j k u C s t x g1 g3 v w g2 I
 ·obtain⟨u,g1,g2⟩:=old e1 n f;rcases zN e with⟨rfl,z⟩|⟨_,E⟩
  ·exact(D _ z).elim
  ·exact m.xd j r q E G u s x g1 n g2
theorem M.gave {F:Fr}{σ:St}{H:Hp}{i:Nat}{a:A}{s:Option V}{b:Option A}{x:Addr}(m:M F α σ H)(e1:α[i]?=some (some a))(k:σ[i]?=some s)(f:foot s a x)(hb:∀c,b=some c->¬foot s c x):¬Ow F (α.set i b) σ x:=by
 rintro(z|⟨j,c,t,l,d,g⟩)
 ·exact(m.ft e1 k f).1 z
 ·rcases zN l with⟨rfl,z⟩|⟨n,h⟩
  ·rw[k]at d;cases d;exact hb c z g
  ·exact n (m.dj i j a c s t x e1 h k d f g)
theorem zr8 {F:Fr}{σ:St}{H:Hp}{i:Nat}{b:A}(hb:∀s x,¬foot s b x):zt (Gz F α σ H) (Gz F (α.set i (some b)) σ H):=zr λa o h e=>⟨λz=>h (by
 rcases z with z|⟨j,c,s,e1,g,f⟩
 ·exact .inl z
 ·rcases zN e1 with⟨rfl,z⟩|⟨k,d⟩
  ·cases z;exact(hb _ _ f).elim
  ·exact .inr ⟨j,c,s,d,g,f⟩),e⟩
theorem M.frz {F:Fr}{σ:St}{H:Hp}{i:Nat}{ds:List PyData}(m:M F α σ H)(hi:α[i]?=some (some (.own ds))):M F (α.set i (some (.dat (.list ds)))) σ H:=
 (m.put (b:=some (.dat (.list ds))) (λs c' x _ z f=>by cases z;exact f.elim) λs c' _ g z=>by
  cases z;obtain⟨l,o,d,j,h,n,k⟩:=m.owc i _ hi;rw[d]at g;cases g;exact⟨.ref l,rfl,(h.same (zr8 (b:=.dat (.list ds)) λ_ _ f=>f)).av (zG (m.gave hi d rfl λc z=>by cases z;exact id) j)⟩).2
theorem cY {F:Fr}{σ:St}{H H':Hp}{i:Nat}{a:A}{b:Option A}(m:M F α σ H)(k:Kz F H H')(hi:α[i]?=some (some a))(x:Addr)(o:HO)(t:¬Ob o)(h:Gz F (α.set i b) σ H' x=some o):Gz F α σ H' x=some o:=by
 obtain⟨g,d⟩:=zi h;refine zG ?_ d;rintro(z|⟨j,c,s,e1,n,f⟩)
 ·exact g (.inl z)
 ·by_cases l:i=j
  ·subst l;obtain⟨g1,g2,o',g3,r⟩:=m.ft e1 n f;rw[k _ _ g3 (m.tp.nt g1)]at d;cases d;exact t r
  ·exact g (.inr ⟨j,c,s,by rw[lq l];exact e1,n,f⟩)
theorem nQ {Q:List PyData->Prop}{i:Nat}{a:A}{b:Option A}(hi:α[i]?=some (some a))(hm:∀F σ H,M F α σ H->M F (α.set i b) σ H)(h:EvL X (α.set i b) e λd=>noLs d=true/\Q d):EvL X α e Q:=λF σ H R m k=>
 h F σ H R (hm F σ H m) λd v H' q t kz r=>by
  obtain⟨l,xs,u,n,j,s⟩:=r;refine k d v H' q.2 t kz ⟨l,xs,u,n,j,s.noL (λa ys hno z=>?_) q.1⟩;obtain⟨f,g⟩:=zi z;obtain⟨w,o⟩:=zi (cY m kz hi a ys hno (zG f.1 g));exact zG ⟨w,f.2⟩ o
theorem wU (i:Nat){ds:List PyData}(hi:α[i]?=some (some (.own ds)))(h:EvD X (α.set i (some (.dat (.list ds)))) e λd=>noL d=true/\Q d):EvD X α e Q:=λF σ H R m k=>
 h F σ H R (m.frz hi) λd v H' q t kz r=>k d v H' q.2 t kz (r.noL (cY m kz hi) q.1)
theorem vW {Q:Bool->Prop}(i:Nat){ds:List PyData}(hi:α[i]?=some (some (.own ds)))(h:EvT X (α.set i (some (.dat (.list ds)))) e Q):EvT X α e Q:=λF σ H R m k=>h F σ H R (m.frz hi) k
theorem za5 {Q:List PyData->Prop}(i:Nat){ds:List PyData}(hi:α[i]?=some (some (.own ds)))(h:EvL X (α.set i (some (.dat (.list ds)))) e λd=>noLs d=true/\Q d):EvL X α e Q:=nQ hi (λ_ _ _ m=>m.frz hi) h
def ItW (p:Addr->Prop)(J:It)(ds:List PyData)(G:Hp):Prop:=∀(i:Nat) (f:Hp) (q:Addr->Prop),zt G (sub q f)->
 (∀d,ds[i]?=some d->J.go i f/\∀x g,J.yld i f x g->zt f g/\((∀a o,g a=some o->f a=none->q a)->AV (sub q g) x d))/\(ds.length<=i->J.stop i f)
def bC (X:Cx)(tg e:Expr):TI:=λσ H R=>∃t,PI X tg e t/\t σ H R
theorem tF {tg e:Expr}:PI X tg e (bC X tg e):=λpins s σ H R I d=>by obtain⟨t,p,q⟩:=d;exact p pins s σ H R I q
def EvI (X:Cx)(α:Ev)(tg e:Expr)(Q:List PyData->Prop):Prop:=∀(F:Fr) (σ:St) (H:Hp) (R:It->Hp->Prop),M F α σ H->
 (∀ds J H',Q ds->zC F H'->Kz F H H'->ItW (λx=>¬Ow F α σ x) J ds (Gz F α σ H')->R J H')->bC X tg e σ H R
theorem yM {tg:Expr}{Q:List PyData->Prop}(h:EvD X α e λx=>∃ds,x=.list ds/\Q ds):EvI X α tg e Q:=λF σ H R m k=>by
 refine⟨_,kh zh,?_⟩;refine h F σ H _ m λx v H1 l t1 o n=>?_;obtain⟨ds,rfl,q⟩:=l;obtain⟨a,xs,rfl,f,j⟩:=n.lst_inv;refine⟨a,rfl,⟨xs,SqL.of (zi f).2⟩,k ds _ H1 q t1 o λi u p s=>⟨λd hd=>?_,λr=>?_⟩⟩
 ·obtain⟨x,g,av⟩:=j.get hd;have ha:=SqL.of (K:=X.K) (zi (s _ _ f)).2;refine⟨⟨xs,x,ha,g⟩,λt w y=>?_⟩;obtain⟨e,y⟩:=y;subst e;have:=y xs ha;rw[g]at this;cases this;exact⟨zt.refl _,λ_=>av.same s⟩
 ·exact⟨xs,SqL.of (zi (s _ _ f)).2,by rw[j.length];exact r⟩
theorem rQ {p:Addr->Prop}{lo:Int}{n:Nat}{G:Hp}:ItW p (Itr lo n) ((zq lo n).map .int) G:=λi j q s=>⟨λd hd=>by
  rw[zK8,zM2]at hd;obtain⟨z,f,rfl⟩:=hd;have hi:i<n:=by
   have:=(zK1.mp f).1
   rwa [zc]at this
  rw[yF hi]at f;cases f;refine⟨hi,λx h y=>?_⟩;obtain⟨rfl,rfl⟩:=y;exact⟨zt.refl _,λ_=>.int _⟩,λg=>by
  rw[zJ3,zc]at g;exact g⟩
theorem uo {tg:Expr}{Q:List PyData->Prop}(hg:Gl X "range")(hm:X.mg "range"=none)(h:EvD X α a λx=>∃j,x=.int j/\-(2 ^ 62)<=j/\j<2 ^ 62/\Q ((zq 0 j.toNat).map .int))(d:starEach [a] X.env=[(false,eval a X.env)]:=by rfl):
  EvI X α tg (.Call (.Name "range" p) [a] [] pos) Q:=λF σ H R m k=>by
 refine⟨_,iA hg hm (zB zh ye d) d,?_⟩;refine h F σ H _ m λx o H1 f t1 i g=>?_;obtain⟨j,rfl,l,n,q⟩:=f;cases g.int_inv;exact⟨j,rfl,l,n,k _ _ H1 q t1 i rQ⟩
theorem jK {tg:Expr}{Q:List PyData->Prop}(hg:Gl X "range")(hm:X.mg "range"=none)(h:EvD X α a λx=>EvD X α b λy=>∃i j,x=.int i/\y=.int j/\(-(2 ^ 62)<=i/\i<2 ^ 62/\-(2 ^ 62)<=j/\j<2 ^ 62)/\Q ((zq i (j-i).toNat).map .int))
  (r:starEach [a,b] X.env=[(false,eval a X.env),(false,eval b X.env)]:=by rfl) (d:starEach [b] X.env=[(false,eval b X.env)]:=by rfl) (f:starEach [a,b] X.env=(false,eval a X.env)::starEach [b] X.env:=by rfl):
  EvI X α tg (.Call (.Name "range" p) [a,b] [] pos) Q:=λF σ H R m k=>by
 refine⟨_,jR hg hm (zB zh (zB zh ye d) f) r d,?_⟩;refine h F σ H _ m λx z H1 l t1 g s=>?_;have m1:=m.kz g t1;refine l F σ H1 _ m1 λy A u v n t o=>?_;obtain⟨i,j,rfl,rfl,w,q⟩:=v;cases s.int_inv;cases o.int_inv;exact⟨i,j,rfl,w,k _ _ u q n (g.trans t) rQ⟩
end
inductive Pat where
 |one (i:Nat)
 |many (is:List Nat)
 |nest (i:Nat) (is:List Nat)
def xw :List Nat->List PyData->Ev->Option Ev
 |[],[],α=>some α
 |i::is,d::ds,α=>xw is ds (α.set i (some (.dat d)))
 |_,_,_=>none
def Pat.bind :Pat->PyData->Ev->Option Ev
 |.one i,d,α=>some (α.set i (some (.dat d)))
 |.many is,.tuple ds,α=>xw is ds α
 |.nest i is,.tuple [d,.tuple ds],α=>xw is ds (α.set i (some (.dat d)))
 |_,_,_=>none
def gIs :List Nat->TGs
 |[]=>zc8
 |i::is=>qt (sj i) (gIs is)
def pf (K:PySem.W.Frag):Pat->TG
 |.one i=>sj i
 |.many is=>ff K is.length (gIs is)
 |.nest i is=>ff K 2 (qt (sj i) (qt (ff K is.length (gIs is)) zc8))
def Pat.slots :Pat->List Nat
 |.one i=>[i]
 |.many is=>is
 |.nest i is=>i::is
def isFree (α:Ev)(i:Nat):Bool:=match α[i]? with
 |some none=>true
 |_=>false
def Pat.free (p:Pat)(α:Ev):Bool:=p.slots.all (isFree α)
section
variable {X:Cx}{α α':Ev}{F:Fr}{σ:St}{H:Hp}
theorem M.store {i:Nat}{v:V}{b:A}{H':Hp}(m:M F α σ H)(t:zC F H')(k:Kz F H H')(hn:∀x,foot (some v) b x->H x=none)(hok:xr (sub (λx=>¬Ow F α σ x/\¬foot (some v) b x) H') F H' (some v) b)(O:noX b:=by trivial):M F (α.set i (some b)) (σ.set i (some v)) H':=by
 have Q:=m.kz k t;have D:∀{j:Nat} {c:A} {s:Option V},(α.set i (some b))[j]?=some (some c)->(σ.set i (some v))[j]?=some s->(i=j/\c=b/\s=some v)\/(i≠j/\α[j]?=some (some c)/\σ[j]?=some s):=λ{j c s} e1 n=>by
  rcases zN e1 with⟨rfl,z⟩|⟨I,E⟩
  ·cases z;have P:i<σ.length:=by
    have:=(zK1.mp n).1
    rwa [zO4]at this
   rw[zR3 P]at n;cases n;exact .inl ⟨rfl,rfl,rfl⟩
  ·rw[zP4 I]at n;exact .inr ⟨I,E,n⟩
 have ow:∀{y:Addr},Ow F (α.set i (some b)) (σ.set i (some v)) y->Ow F α σ y\/foot (some v) b y:=λ{y} h=>by
  rcases h with z|⟨j,c,s,e1,n,f⟩
  ·exact .inl (.inl z)
  ·rcases D e1 n with⟨_,rfl,rfl⟩|⟨_,g1,g2⟩
   ·exact .inr f
   ·exact .inl (.inr ⟨j,c,s,g1,g2,f⟩)
 have g1:zt (sub (λx=>¬Ow F α σ x/\¬foot (some v) b x) H') (Gz F (α.set i (some b)) (σ.set i (some v)) H'):=zr λa o h e=>⟨λz=>(ow z).elim h.1 h.2,e⟩;have L:zt (Gz F α σ H) (sub (λx=>¬Ow F α σ x/\¬foot (some v) b x) H'):=zr λa o h e=>⟨⟨h,λz=>by rw[hn a z]at e;cases e⟩,k a o e (m.tp.nt (ow0 h))⟩;refine⟨by rw[zO4,zO4];exact m.len,λj c s e1 n=>?_,λj G c d s s' x e1 n N K f1 f2=>?_,λj r q e G c s x e1 n f=>?_,t,m.keep.trans k,Q.oex⟩
 ·rcases D e1 n with⟨rfl,rfl,rfl⟩|⟨_,u,p⟩
  ·exact hok.stay g1 (λx o f e=>by
    obtain⟨B,C,_⟩:=pA hok f;exact⟨e,B,C⟩) rfl λ_ _ _ l=>l
  ·exact(m.ok j c s u p).stay (L.trans g1) (λx o f e=>by
    obtain⟨B,C,_⟩:=m.ft u p f;exact⟨k x o e (m.tp.nt B),B,C⟩) rfl λ_ _ _ l=>l.kz k t
 ·have nn:∀{j:Nat} {c:A} {s:Option V},α[j]?=some (some c)->σ[j]?=some s->foot s c x->¬foot (some v) b x:=λ{j c s} u p f g=>by
   obtain⟨_,_,o,w,_⟩:=m.ft u p f;rw[hn x g]at w;cases w
  rcases D e1 N with⟨rfl,rfl,rfl⟩|⟨_,u,p⟩
  ·rcases D n K with⟨rfl,_⟩|⟨_,B,C⟩
   ·rfl
   ·exact absurd f1 (nn B C f2)
  ·rcases D n K with⟨rfl,rfl,rfl⟩|⟨_,B,C⟩
   ·exact absurd f2 (nn u p f1)
   ·exact m.dj j G c d s s' x u B p C f1 f2
 ·rcases zN e with⟨rfl,z⟩|⟨_,J⟩
  ·cases z;exact O.elim
  ·rcases D e1 n with⟨rfl,rfl,rfl⟩|⟨_,u,p⟩
   ·exact(m.lnk J).none (hn x f)
   ·exact m.xd j r q J G c s x u p f
theorem M.set {i:Nat}{v:V}{d:PyData}(m:M F α σ H)(av:AV (Gz F α σ H) v d):M F (α.set i (some (.dat d))) (σ.set i (some v)) H:=
 m.store m.tp Kz.refl (λx z=>z.elim) ⟨v,rfl,av.same (zr λa o h e=>⟨⟨h,λz=>z⟩,e⟩)⟩
theorem M.setC {i:Nat}{v:V}{c:PyData}{H':Hp}(m:M F α σ H)(t:zC F H')(k:Kz F H H')(j:cu F α σ H v H' c):M F (α.set i (some (.ow c))) (σ.set i (some v)) H':=by
 obtain⟨l,o,rfl,b,f,d⟩:=j;have nl:¬Ow F α σ l:=m.fresh b;refine m.store t k (λx z=>?_) ⟨l,o,rfl,f,d.same (zr λa o h e=>⟨⟨h.1,λz=>h.2 (by cases z;rfl)⟩,e⟩),ow0 nl,m.fresh0 b⟩;have g:some (V.ref l)=some (.ref x):=z;cases g;exact b
theorem M.setOwn {i:Nat}{v:V}{ds:List PyData}{H':Hp}(m:M F α σ H)(t:zC F H')(k:Kz F H H')(a:yG F α σ H v H' ds):M F (α.set i (some (.own ds))) (σ.set i (some v)) H':=m.setC t k a.c
theorem M.wr {x:Addr}{o:HO}(m:M F α σ H)(hno:wq o)(v:F.O0 x)(g:∀t b c,F.tp=some (t,b,c)->x≠t/\x≠b/\x≠c)(h0:F.H0 x=none)(hpl:Plain H x)(B:∀(i:Nat) r q,α[i]?=some (some (.exc r q))->r.H0 x=none):M F α σ (upd H x o):=by
 have C:zt (Gz F α σ H) (Gz F α σ (upd H x o)):=zr λa u h e=>⟨h,by rw[zg (λz=>h (.inl (by rw[z];exact v)))];exact e⟩;refine⟨m.len,λj c s e1 p=>?_,m.dj,m.xd,m.tp.upd g hpl,λy u e n=>?_,λy hy=>?_⟩
 ·have:=m.ok j c s e1 p;cases c with
  |exc r q=>
   have l:Lnk r F H:=this;exact⟨l.tp,l.o,l.ok.upd (λa b c e=>g a b c (l.tp▸e)) hpl,λy u e n=>by rw[zg (zm e (B j r q e1))];exact l.k y u e n⟩
  |_=>exact this.stay C (λy u f e=>by
    obtain⟨d,A,_⟩:=m.ft e1 p f;exact⟨by rw[zg (λz=>d (by rw[z];exact v))];exact e,d,A⟩) rfl λ_ _ z=>by cases z
 ·rw[zg (zm e h0)];exact m.keep y u e n
 ·by_cases z:y=x
  ·exact⟨o,by rw[z];exact zl,hno⟩
  ·obtain⟨u,w,hn⟩:=m.oex y hy;exact⟨u,by rw[zg z];exact w,hn⟩
theorem M.forget {α0:Ev}(m:M F α σ H)(n:α0.length=α.length)(le:∀(i:Nat) a,α0[i]?=some (some a)->α[i]?=some (some a)):M F α0 σ H:=by
 have ow:∀{y:Addr},Ow F α0 σ y->Ow F α σ y:=λ{y} h=>by
  rcases h with z|⟨j,c,s,e1,b,f⟩
  ·exact .inl z
  ·exact .inr ⟨j,c,s,le _ _ e1,b,f⟩
 have k:zt (Gz F α σ H) (Gz F α0 σ H):=zr λa o h e=>⟨λz=>h (ow z),e⟩;exact⟨n.trans m.len,λj c s e1 b=>(m.ok j c s (le _ _ e1) b).stay k (λx o f e=>⟨e,(m.ft (le _ _ e1) b f).1,(m.ft (le _ _ e1) b f).2.1⟩) rfl λ_ _ _ l=>l,λj g c d s s' x e1 b=>m.dj j g c d s s' x (le _ _ e1) (le _ _ b),λj r q e g c s x e1=>m.xd j r q (le _ _ e) g c s x (le _ _ e1),m.tp,m.keep,m.oex⟩
theorem wM {H:Hp}:∀{is:List Nat}{ds:List PyData}{α α':Ev}{σ:St}{xs:List V}{R:St->Hp->Prop},xw is ds α=some α'->M F α σ H->(∀G,zt (Gz F α σ H) G->AVs G xs ds)->(∀b,M F α' b H->R b H)->gIs is xs σ H R
 |[],[],α,α',σ,xs,R,e,m,av,k=>by
  cases e;cases av _ (zt.refl _);exact⟨rfl,k σ m⟩
 |i::is,d::ds,α,α',σ,xs,R,e,m,av,k=>by
  cases h:av _ (zt.refl _)with
  |@cons x xs _ _ h1 h2=>
   refine⟨x,xs,rfl,?_⟩;have p:zt (Gz F α σ H) (Gz F (α.set i (some (.dat d))) (σ.set i (some x)) H):=zr λa o h e=>⟨λz=>h (by
    rcases z with z|⟨j,c,s,e1,l,f⟩
    ·exact .inl z
    ·rcases zN e1 with⟨_,z⟩|⟨n,g⟩
     ·cases z;exact f.elim
     ·rw[zP4 n]at l;exact .inr ⟨j,c,s,g,l,f⟩),e⟩
   exact wM (is:=is) (ds:=ds) e (m.set (i:=i) h1) (λG s=>h2.same (p.trans s)) k
 |[],_::_,_,_,_,_,_,e,_,_,_=>by cases e
 |_::_,[],_,_,_,_,_,e,_,_,_=>by cases e
theorem Pat.nest_inv {i:Nat}{is:List Nat}{d:PyData}(e:(Pat.nest i is).bind d α=some α'):∃a ds,d=.tuple [a,.tuple ds]/\xw is ds (α.set i (some (.dat a)))=some α':=by
 cases d with
 |tuple xs=>
  cases xs with
  |nil=>cases e
  |cons a r=>
   cases r with
   |nil=>cases e
   |cons b r=>
    cases r with
    |nil=>
     cases b with
     |tuple ds=>exact⟨_,_,rfl,e⟩
     |_=>cases e
    |cons _ _=>cases b<;>cases e
 |_=>cases e
theorem rP :∀{is:List Nat}{ds:List PyData}{α α':Ev},xw is ds α=some α'->ds.length=is.length:=by
 intro is
 induction is with
 |nil=>intro ds α α' h;cases ds with|nil=>rfl|cons _ _=>cases h
 |cons i is a=>intro ds α α' h;cases ds with|nil=>cases h|cons d ds=>rw[zL8,zL8,a h]
theorem tD {K:PySem.W.Frag}{pat:Pat}{d:PyData}{v:V}{R:St->Hp->Prop}(e:pat.bind d α=some α')(m:M F α σ H)(av:AV (Gz F α σ H) v d)(k:∀g,M F α' g H->R g H):pf K pat v σ H R:=by
 cases pat with
 |one i=>cases e;exact k _ (m.set av)
 |many is=>
  cases d with
  |tuple ds=>
   obtain⟨a,xs,rfl,n,l⟩:=av.tup_inv;exact⟨a,xs,rfl,SqT.of (zi n).2,by rw[l.length];exact rP e,wM e m (λG s=>l.same s) k⟩
  |_=>cases e
 |nest i is=>
  obtain⟨u,ds,rfl,e⟩:=Pat.nest_inv e;obtain⟨a,xs,rfl,n,l⟩:=av.tup_inv;cases l with
  |@cons x0 r _ _ z1 z2=>
   cases z2 with
   |@cons x1 r _ _ z3 z4=>
    cases z4;have m1:=m.set (i:=i) z1;have y:zt (Gz F α σ H) (Gz F (α.set i (some (.dat u))) (σ.set i (some x0)) H):=zr λa o h e=>⟨λz=>h (by
     rcases z with z|⟨j,c,s,e1,t,f⟩
     ·exact .inl z
     ·rcases zN e1 with⟨_,z⟩|⟨x,p⟩
      ·cases z;exact f.elim
      ·rw[zP4 x]at t;exact .inr ⟨j,c,s,p,t,f⟩),e⟩
    obtain⟨b,ys,rfl,w,q⟩:=(z3.same y).tup_inv;exact⟨a,_,rfl,SqT.of (zi n).2,rfl,_,_,rfl,_,_,rfl,⟨b,ys,rfl,SqT.of (zi w).2,by rw[q.length];exact rP e,wM e m1 (λG s=>q.same s) λg A=>⟨rfl,k g A⟩⟩⟩
theorem sD :∀{is:List Nat}{ds:List PyData}{α α':Ev},xw is ds α=some α'->α'.length=α.length
 |[],[],_,_,e=>by cases e;rfl
 |i::is,d::ds,α,α',e=>by
  have:=sD (is:=is) (ds:=ds) e
  rwa [zO4]at this
 |[],_::_,_,_,e=>by cases e
 |_::_,[],_,_,e=>by cases e
theorem tM :∀{is:List Nat}{ds:List PyData}{α α':Ev}{j:Nat},xw is ds α=some α'->j∉is->α'[j]?=α[j]?
 |[],[],_,_,_,e,_=>by cases e;rfl
 |i::is,d::ds,α,α',j,e,h=>by
  rw[tM (is:=is) (ds:=ds) e λz=>h (zJ8 _ z)];exact zP4 λ(z:i=j)=>h (by rw[<-z];exact zK5)
 |[],_::_,_,_,_,e,_=>by cases e
 |_::_,[],_,_,_,e,_=>by cases e
theorem sh :∀{is:List Nat}{ds:List PyData}{α α':Ev}{j:Nat}{a:A},xw is ds α=some α'->α'[j]?=some (some a)->(∀d,a≠.dat d)->α[j]?=some (some a)
 |[],[],_,_,_,_,e,h,_=>by cases e;exact h
 |i::is,d::ds,α,α',j,a,e,h,hn=>by
  rcases zN (sh (is:=is) (ds:=ds) e h hn)with⟨_,z⟩|⟨_,z⟩
  ·cases z;exact absurd rfl (hn d)
  ·exact z
 |[],_::_,_,_,_,_,e,_,_=>by cases e
 |_::_,[],_,_,_,_,e,_,_=>by cases e
theorem Pat.is_ok {pat:Pat}{d:PyData}(e:pat.bind d α=some α'):∃is ds,pat.slots=is/\xw is ds α=some α':=by
 cases pat with
 |one i=>cases e;exact⟨_,[d],rfl,rfl⟩
 |many is=>
  cases d with
  |tuple ds=>exact⟨_,ds,rfl,e⟩
  |_=>cases e
 |nest i is=>
  obtain⟨a,ds,rfl,e⟩:=Pat.nest_inv e;exact⟨_,a::ds,rfl,e⟩
theorem Pat.back {pat:Pat}{d:PyData}(e:pat.bind d α=some α')(fr:pat.free α=true)(m:M F α' σ H):M F α σ H:=by
 obtain⟨is,ds,rfl,e⟩:=Pat.is_ok e;refine m.forget (sD e).symm λj a h=>?_;by_cases b:j∈pat.slots
 ·have:=zY4.mp fr j b;unfold isFree at this;rw[h]at this;cases this
 ·rw[tM e b];exact h
end
section
variable {X:Cx}{α:Ev}
def jG (X:Cx)(α:Ev)(ifs:List Expr)(Q:Bool->Prop):Prop:=∀(F:Fr) (σ:St) (H:Hp) (R:Bool->Hp->Prop),M F α σ H->(∀b H',Q b->zC F H'->Kz F H H'->R b H')->∃t,wB X ifs t/\t σ H R
def zg8 (X:Cx)(ifs:List Expr):TT:=λσ H R=>∃t,wB X ifs t/\t σ H R
theorem ja {ifs:List Expr}:wB X ifs (zg8 X ifs):=λpins s σ H Q I a=>by obtain⟨t,p,q⟩:=a;exact p pins s σ H Q I q
theorem mC {Q:Bool->Prop}(q:Q true):jG X α [] Q:=λF σ H R m k=>⟨_,za3,k _ H q m.tp Kz.refl⟩
theorem mH {c:Expr}{Q:Bool->Prop}(h:EvT X α c Q):jG X α [c] Q:=λF σ H R m k=>⟨_,za2 xo,h F σ H R m k⟩
def seen :Option A->Option A
 |some (.dat d)=>some (.dat d)
 |some .tape=>some .tape
 |_=>none
def yH (imp:List (Option Nat))(α:Ev):Ev:=imp.map λo=>o.bind λj=>(α[j]?).bind seen
theorem nc {imp:List (Option Nat)}{i:Nat}{a:A}(h:(yH imp α)[i]?=some (some a)):∃j,imp[i]?=some (some j)/\α[j]?=some (some a)/\((∃d,a=.dat d)\/a=.tape):=by
 unfold yH at h;rw[zK8,zM2]at h;obtain⟨o,f,e⟩:=h;cases o with
 |none=>cases e
 |some j=>
  have c:(α[j]?).bind seen=some a:=e;cases q:α[j]? with
  |none=>rw[q]at c;cases c
  |some b=>
   rw[q]at c;cases b with
   |none=>cases c
   |some b=>
    cases b with
    |dat d=>cases c;exact⟨j,f,q,.inl ⟨d,rfl⟩⟩
    |tape=>cases c;exact⟨j,f,q,.inr rfl⟩
    |_=>cases c
theorem nH {imp:List (Option Nat)}{σ:St}{i j:Nat}{v:V}(a:imp[i]?=some (some j))(b:σ[j]?=some (some v)):(xB imp σ)[i]?=some (some v):=by
 unfold xB;rw[zK8,a];show some ((σ[j]?).bind id)=_;rw[b];rfl
def xj (Y:Addr->Shared->Hp->List Addr->Cx)(pat:Pat)(ifs:List Expr)(elt:Expr)(α0:Ev):List PyData->List PyData->(List PyData->Prop)->Prop
 |[],acc,Q=>Q acc
 |d::ds,acc,Q=>∃a,pat.bind d α0=some a/\∀C s2 b fp,jG (Y C s2 b fp) a ifs λk=>if k=true then ∀C s2 b fp,EvD (Y C s2 b fp) a elt λy=>xj Y pat ifs elt α0 ds (acc++[y]) Q else xj Y pat ifs elt α0 ds acc Q
def eC (Y:Addr->Shared->Hp->List Addr->Cx)(e:Expr):TE:=λσ H Q=>∀C s2 a fp,uh (Y C s2 a fp) e σ H Q
def tsC (Y:Addr->Shared->Hp->List Addr->Cx)(ifs:List Expr):TT:=λσ H Q=>∀C s2 a fp,zg8 (Y C s2 a fp) ifs σ H Q
theorem kG {N:List Str}{imp:List (Option Nat)}{scope:Scope}{tg iter elt:Expr}{ifs:List Expr}{pat:Pat}{Q:List PyData->Prop}(G:pat.free (yH imp α)=true)
  (h:EvI X α tg iter λds=>ds.length<=1000/\xj (λC s2 A fp=>X.comp N scope C s2 A fp) pat ifs elt (yH imp α) ds [] Q)
  (F:Fr) (σ:St) (H:Hp) (R:VK) (m:M F α σ H) (k:∀ds v H',Q ds->zC F H'->Kz F H H'->yG F α σ H v H' ds->R v H'):
  ∃Y:Addr->Shared->Hp->List Addr->Cx,Y=(λC s2 A fp=>X.comp N scope C s2 A fp)/\gY (bC X tg iter) imp (pf X.K pat) (tsC Y ifs) (eC Y elt) σ H R:=by
 refine⟨_,rfl,?_⟩;refine h F σ H _ m λds J H1 b7 t1 k1 b6 acc g=>?_;obtain⟨hl,q1⟩:=b7;have m1:=m.kz k1 t1;have b8:¬Ow F α σ acc:=m1.fresh g
 let u:Fr:=⟨H1,λx=>Ow F α σ x\/x=acc,F.tp⟩
 let Nd:Ev->Prop:=λl=>∀(j:Nat) a,l[j]?=some (some a)->(∃d,a=.dat d)\/a=.tape
 have B:Nd (yH imp α):=λj a z=>by
  obtain⟨_,_,_,n⟩:=nc z;exact n
 have owc:∀{l:Ev} {S:St} {x:Addr},Nd l->(Ow u l S x↔u.O0 x):=λ{l S x} hh=>⟨λz=>z.elim id λb1=>by
  obtain⟨j,a,s,e1,Z,f⟩:=b1;rcases hh j a e1 with⟨d,rfl⟩|rfl
  ·exact f.elim
  ·exact f.elim,.inl⟩
 have gz:∀{l a3:Ev} {D τ2:St} {H:Hp},Nd l->Nd a3->zt (Gz u l D H) (Gz u a3 τ2 H):=λh1 h2=>zr λa o h e=>⟨λz=>h ((owc h1).mpr ((owc h2).mp z)),e⟩;have a6:∀{A:Hp},zC F A->zC u A:=λt=>t.to rfl λx z=>.inl (.inl z);have V:zt H1 (upd H1 acc (.lst [])):=zL g;have b0:M u (yH imp α) (xB imp σ) (upd H1 acc (.lst [])):=by
  have g1:zt (Gz F α σ H1) (Gz u (yH imp α) (xB imp σ) (upd H1 acc (.lst []))):=λa o e=>by
   obtain⟨z1,z2⟩:=zi e;have na:a≠acc:=zm z2 g;exact zG (λz=>((owc B).mp z).elim z1 na) (by rw[zg na];exact z2)
  refine⟨by unfold yH xB;rw[zJ3,zJ3],λi a s e1 Z=>?_,λi j a b s t x e1 Z _ _ f=>?_,λi r q e=>(by rcases B i _ e with⟨d,w⟩|w<;>cases w),a6 (t1.same V),λx o e _=>V x o e,?_⟩
  ·obtain⟨j,w1,w2,w3⟩:=nc e1;rcases w3 with⟨d,rfl⟩|rfl
   ·obtain⟨v,g2,g3⟩:=m1.dat j d w2;rw[nH w1 g2]at Z;cases Z;exact⟨v,rfl,g3.same g1⟩
   ·obtain⟨t,b,c,g2,g3⟩:=m1.tvar j w2;rw[nH w1 g3]at Z;cases Z;exact⟨t,b,c,g2,rfl⟩
  ·rcases B i a e1 with⟨d,rfl⟩|rfl
   ·exact f.elim
   ·exact f.elim
  ·rintro x (z|z)
   ·have:∃o,H1 x=some o/\wq o:=m1.owEx z;obtain⟨o,ho,hn⟩:=this;exact⟨o,V _ _ ho,hn⟩
   ·exact⟨_,by rw[z];exact zl,xF⟩
 refine⟨λi n ys S A=>n=ds.length-i/\i<=ds.length/\∃ad:List PyData,M u (yH imp α) S A/\A acc=some (.lst ys)/\AVs (Gz u (yH imp α) S A) ys ad/\ad.length<=i/\xj (λC s2 A fp=>X.comp N scope C s2 A fp) pat ifs elt (yH imp α) (ds.drop i) ad Q,
  ⟨ds.length,by simp,zK7 _,[],b0,zl,.nil,zJ5 _,q1⟩,?_⟩
 rintro i n ys S A ⟨rfl,hi,ad,m2,ha,av,U,cw⟩;have sG:zt (Gz F α σ H1) (Gz u (yH imp α) S A):=λa o e=>by
  obtain⟨z1,z2⟩:=zi e;exact m2.old a o (zG (p:=λx=>¬u.O0 x) (λz=>z.elim z1 (zm z2 g)) z2)
 obtain⟨w1,w2⟩:=b6 i A _ sG;by_cases I:i<ds.length
 ·have hd:ds[i]?=some ds[i]:=zJ2 I;have b2:ds.drop i=ds[i]::ds.drop (i+1):=zN6 I;rw[b2]at cw;obtain⟨l,eb,body⟩:=cw;obtain⟨go,yl⟩:=w1 _ hd;have E:Nd l:=λj a z=>by
   obtain⟨is,b9,_,e⟩:=Pat.is_ok eb;by_cases hn:∀d,a≠.dat d
   ·exact B j a (sh e z hn)
   ·simp only[Classical.not_forall,Classical.not_not]at hn;exact .inl hn
  refine .inr ⟨go,λT W H'=>∃ad:List PyData,M u (yH imp α) W H'/\H' acc=some (.lst T)/\AVs (Gz u (yH imp α) W H') T ad/\ad.length<=i+1/\xj (λC s2 A fp=>X.comp N scope C s2 A fp) pat ifs elt (yH imp α) (ds.drop (i+1)) ad Q,
   λT W H' b4=>by obtain⟨b5,r1,r2,r3,r4,r5⟩:=b4;exact⟨ds.length-(i+1),(om0 I),rfl,I,b5,r1,r2,r3,r4,r5⟩,λx H3 y=>?_⟩
  obtain⟨L,a8⟩:=yl x H3 y;have m3:M u (yH imp α) S H3:=m2.kz (Kz.of_same L) (m2.tp.same L);have a0:=a8 λa o _ e=>m2.fresh e;refine tD eb m3 a0 λD m4 C s2 a7 fp=>?_;refine body C s2 a7 fp u D H3 _ m4 λb H5 qb t5 k5=>?_;have m5:=m4.kz k5 t5;have a1:AVs (Gz u (yH imp α) D H5) ys ad:=av.same ((Kz.of_same L).gz m2.tp |>.trans ((gz (τ2:=D) B E).trans ((k5.gz m4.tp).trans (gz E B))));have accN:NT u acc:=⟨λt b c e=>by
   have:=(t1 t b c e).1.free g;exact⟨this.1,this.2.1⟩,vN t1.tab g⟩
  have a2:H5 acc=some (.lst ys):=k5 _ _ (L _ _ ha) accN;cases b with
  |false=>
   have b3:xj (λC s2 A fp=>X.comp N scope C s2 A fp) pat ifs elt (yH imp α) (ds.drop (i+1)) ad Q:=by simpa using qb
   exact rE ⟨ad,Pat.back eb G m5,a2,a1,(zK0 U (zL2 _ _)),b3⟩
  |true=>
   refine rK λC s2 P fp=>?_;have qe:EvD (X.comp N scope C s2 P fp) l elt λy=>xj (λC s2 A fp=>X.comp N scope C s2 A fp) pat ifs elt (yH imp α) (ds.drop (i+1)) (ad++[y]) Q:=by
    have z:=qb;rw[if_pos rfl]at z;exact z C s2 P fp
   refine qe u D H5 _ m5 λy v H6 qy t6 k6 r6=>?_;have m6:=m5.kz k6 t6;have a5:H6 acc=some (.lst ys):=k6 _ _ a2 accN;have hlen:ys.length<=i:=by rw[av.length];exact U
   have O:u.O0 acc:=.inr rfl;have a4:∀t b c,u.tp=some (t,b,c)->acc≠t/\acc≠b/\acc≠c:=λt b c e=>(t1 t b c e).1.free g;have m7:=(Pat.back eb G m6).wr (o:=.lst (ys++[v])) xF O a4 g (qf a5) (λi r q z=>by rcases B i _ z with⟨d,w⟩|w<;>cases w);refine⟨a5,yp (by lia),ad++[y],m7,zl,?_,by simp;exact U,qy⟩;have a9:zt (Gz u (yH imp α) D H6) (Gz u (yH imp α) D (upd H6 acc (.lst (ys++[v])))):=zr λa o h e=>⟨h,by rw[zg (λz=>h (.inl (by rw[z];exact O)))];exact e⟩;exact((a1.same ((gz (τ2:=D) B E).trans ((k6.gz m5.tp).trans (gz E B)))).append (.cons (r6.same (gz E B)) .nil)).same a9
 ·have e:i=ds.length:=(zT0 hi (zT3 I));subst e;rw[zV3]at cw;refine .inl ⟨w2 (zJ5 _),k ad _ A cw ?_ (k1.trans m2.keep) (yG.back m k1 t1 ⟨acc,ys,rfl,g,ha,av.same (zr λa o h e=>⟨⟨λz=>h (.inl (.inl z)),λz=>h (.inl (.inr z))⟩,e⟩)⟩)⟩;exact m.tp.re m2.tp rfl
theorem eE {N:List Str}{imp:List (Option Nat)}{scope:Scope}{tg iter elt:Expr}{ifs:List Expr}{pat:Pat}{Q:List PyData->Prop}{pos:Pos}(c:X.calm=true)(S:zF X.N X.env.scope N imp scope)(a:pat.free (yH imp α)=true)
  (hg:∀C s2 b fp,PG (X.comp N scope C s2 b fp) tg (pf X.K pat))
  (h:EvI X α tg iter λds=>ds.length<=1000/\xj (λC s2 b fp=>X.comp N scope C s2 b fp) pat ifs elt (yH imp α) ds [] Q) (d:∀x,foldedSetIterable iter X.env x=pure x:=by intro _;rfl):
  EvL X α (.ListComp elt [⟨tg,iter,ifs,0⟩] scope pos) Q:=λF σ H R m k=>by
 obtain⟨Y,rfl,h⟩:=kG a h F σ H R m k;exact⟨_,zD2 c S tF hg (λC s2 b fp pins s σ H Q I h=>ja pins s σ H Q I (h C s2 b fp)) (λC s2 b fp pins s σ H Q I h=>zh pins s σ H Q I (h C s2 b fp)) d,h⟩
section
variable {E:yk}{rest body:List Stmt}{e c tg iter:Expr}{pos p:Pos}
theorem rA.then {F:Fr}{D:Ends}(h:rA F E D):rA F {E with nx:=λa=>SvS X a rest E} {D with nx:=gG X rest D}:=
 ⟨λa b H' m q=>q F b H' D m h,h.rt,h.bk,h.ct⟩
theorem zx (q:E.nx α):SvS X α [] E:=λF σ H D m h=>⟨_,lL,h.nx _ _ _ m q⟩
theorem SvS.imp {d:List Stmt}{b:yk}(h:SvS X α d b)(hn:∀α,b.nx α->E.nx α)(hr:∀a,b.rt a->E.rt a)(hb:∀α,b.bk α->E.bk α)(f:∀α,b.ct α->E.ct α):SvS X α d E:=λF σ H D m r=>
 h F σ H D m ⟨λα σ H m q=>r.nx α σ H m (hn _ q),λa v H m q=>r.rt a v H m (hr _ q),λα σ H m q=>r.bk α σ H m (hb _ q),λα σ H m q=>r.ct α σ H m (f _ q)⟩
theorem yb (i:Nat){x:Str}{pos':Pos}(k:X.N.Nodup)(h:EvD X α e λd=>SvS X (α.set i (some (.dat d))) rest E)(hi:X.N[i]?=some x:=by rfl)(b:Loc X.env.scope x:=by first|exact Or.inl rfl|exact Or.inr rfl)
  (f:swapsWith e (some (.Name x pos')) pos.line X.env=pure false:=by rfl) (hf:X.fn x=true\/X.env.scope.names.lookup x=some .local:=by first|exact .inl rfl|exact .inr rfl|assumption):SvS X α (.Assign [.Name x pos'] e pos::rest) E:=λF σ H D m r=>by
 refine⟨_,zy (pD k hi b zh f hf) zI,?_⟩;exact h F σ H _ m λd v H1 a t1 j g=>a F _ H1 D ((m.kz j t1).set g) r
theorem xQ (i:Nat){x:Str}{pos':Pos}(k:X.N.Nodup)(h:EvL X α e λds=>SvS X (α.set i (some (.own ds))) rest E)(hi:X.N[i]?=some x:=by rfl)(b:Loc X.env.scope x:=by first|exact Or.inl rfl|exact Or.inr rfl)
  (f:swapsWith e (some (.Name x pos')) pos.line X.env=pure false:=by rfl) (hf:X.fn x=true\/X.env.scope.names.lookup x=some .local:=by first|exact .inl rfl|exact .inr rfl|assumption):SvS X α (.Assign [.Name x pos'] e pos::rest) E:=λF σ H D m r=>by
 refine⟨_,zy (pD k hi b zh f hf) zI,?_⟩;exact h F σ H _ m λd v H1 a t1 j g=>a F _ H1 D (m.setOwn t1 j g) r
theorem zi8 (i:Nat){x:Str}{pos' a:Pos}{N:List Str}{imp:List (Option Nat)}{scope:Scope}{elt:Expr}{ifs:List Expr}{pat:Pat}(o:X.N.Nodup)(j:X.calm=true)(S:zF X.N X.env.scope N imp scope)(d:pat.free (yH imp α)=true)
  (hg:∀C s2 b fp,PG (X.comp N scope C s2 b fp) tg (pf X.K pat))
  (h:EvI X α tg iter λds=>ds.length<=1000/\xj (λC s2 b fp=>X.comp N scope C s2 b fp) pat ifs elt (yH imp α) ds [] λds=>SvS X (α.set i (some (.own ds))) rest E)
  (hi:X.N[i]?=some x:=by rfl) (g:Loc X.env.scope x:=by first|exact Or.inl rfl|exact Or.inr rfl) (f:swapsWith (.ListComp elt [⟨tg,iter,ifs,0⟩] scope a) (some (.Name x pos')) pos.line X.env=pure true:=by rfl)
  (hf:X.fn x=true\/X.env.scope.names.lookup x=some .local:=by first|exact .inl rfl|exact .inr rfl|assumption) (l:∀x,foldedSetIterable iter X.env x=pure x:=by intro _;rfl):
  SvS X α (.Assign [.Name x pos'] (.ListComp elt [⟨tg,iter,ifs,0⟩] scope a) pos::rest) E:=λF σ H D m r=>by
 obtain⟨Y,rfl,h⟩:=kG d h F σ H (λv H'=>gG X rest D (σ.set i (some v)) H') m λds v H' q t k n=>q F _ H' D (m.setOwn t k n) r;exact⟨_,zy (cS j S tF hg (λC s2 b fp pins s σ H Q I h=>ja pins s σ H Q I (h C s2 b fp)) (λC s2 b fp pins s σ H Q I h=>zh pins s σ H Q I (h C s2 b fp)) o hi g f hf l) zI,h⟩
theorem wC.dat {F:Fr}{σ:St}{H:Hp}{v:V}{d:PyData}(m:M F α σ H)(r:AV (Gz F α σ H) v d):wC F v H (.dat d):=
 ⟨m.tp,m.keep,r.same (zr λa o h e=>⟨ow0 h,e⟩)⟩
theorem xy (h:EvD X α e λd=>E.rt (.dat d)):SvS X α (.Return (some e) pos::rest) E:=λF σ H D m r=>by
 refine⟨_,zy (sq zh) zI,?_⟩;exact h F σ H _ m λd v H1 a t1 f b=>r.rt _ _ _ (wC.dat (m.kz f t1) b) a
theorem wW (h:EvL X α e λds=>E.rt (.own ds)):SvS X α (.Return (some e) pos::rest) E:=λF σ H D m r=>by
 refine⟨_,zy (sq zh) zI,?_⟩;refine h F σ H _ m λd v H1 f t1 n k=>r.rt _ _ _ ?_ f;obtain⟨l,xs,j,b,g,i⟩:=k;exact⟨t1,m.keep.trans n,l,xs,_,j,rfl,m.fresh0 b,ow0 (m.fresh b),g,i.same (zr λa o h e=>⟨⟨ow0 h.1,h.2⟩,e⟩)⟩
theorem xV (i:Nat){x:Str}{ds:List PyData}(hi:α[i]?=some (some (.own ds)))(q:E.rt (.own ds))(s:X.N[i]?=some x:=by rfl)(n:Vis X.env.scope x:=by first|exact Or.inl rfl|exact Or.inr (Or.inl rfl)|exact Or.inr (Or.inr rfl))
  (hd:(x == ("__debug__":Str))=false:=by decide) (b:(x == ("__classdict__":Str))=false:=by decide):SvS X α (.Return (some (.Name x p)) pos::rest) E:=λF σ H D m r=>by
 obtain⟨l,xs,d,g,f,k,j⟩:=m.own i ds hi;refine⟨_,zy (sq (yt s n hd b)) zI,.ref l,d,r.rt (.own ds) _ _ ⟨m.tp,m.keep,l,xs,_,rfl,rfl,j,k,g,f.same (zr λa o h e=>⟨⟨ow0 h,λz=>h (by rw[z];exact .inr ⟨i,_,_,hi,d,rfl⟩)⟩,e⟩)⟩ q⟩
theorem xi {a b:List Stmt}(h:EvT X α c λk=>SvS X α (if k=true then a else b) {E with nx:=λd=>SvS X d rest E}):SvS X α (.If c a b pos::rest) E:=λF σ H D m r=>by
 refine⟨_,zy (zc9 xo zI zI) zI,?_⟩;refine h F σ H _ m λk H1 f t1 g=>?_;cases k with
 |true=>exact rK ((by simpa using f:SvS X α a _) F σ H1 _ (m.kz g t1) r.then)
 |false=>exact rE ((by simpa using f:SvS X α b _) F σ H1 _ (m.kz g t1) r.then)
theorem fN (i:Nat){ds:List PyData}{a:List Stmt}(hi:α[i]?=some (some (.own ds)))(h:SvS X (α.set i (some (.dat (.list ds)))) a E):SvS X α a E:=λF σ H D m r=>h F σ H D (m.frz hi) r
theorem M.wrC {F:Fr}{σ:St}{H:Hp}{i:Nat}{c c':PyData}{l:Addr}{o':HO}(m:M F α σ H)(hi:α[i]?=some (some (.ow c)))(v:σ[i]?=some (some (.ref l)))(av:yO (Gz F α σ H) o' c'):
  M F (α.set i (some (.ow c'))) σ (upd H l o'):=by
 obtain⟨Y,o,N,Q,P,I,R⟩:=m.owc i c hi;rw[v]at N;cases N;have B:∀{j:Nat} {a:A} {s:Option V},(α.set i (some (.ow c')))[j]?=some (some a)->σ[j]?=some s->(i=j/\a=.ow c'/\s=some (.ref l))\/(i≠j/\α[j]?=some (some a)):=λ{j a s} e1 g=>by
  rcases zN e1 with⟨rfl,z⟩|⟨C,d⟩
  ·cases z;rw[v]at g;cases g;exact .inl ⟨rfl,rfl,rfl⟩
  ·exact .inr ⟨C,d⟩
 have K:∀{y:Addr},Ow F (α.set i (some (.ow c'))) σ y->Ow F α σ y:=λ{y} h=>by
  rcases h with z|⟨j,a,s,e1,g,f⟩
  ·exact .inl z
  ·rcases B e1 g with⟨rfl,rfl,rfl⟩|⟨C,d⟩
   ·exact .inr ⟨i,_,_,hi,v,f⟩
   ·exact .inr ⟨j,a,s,d,g,f⟩
 have ol:Ow F α σ l:=.inr ⟨i,_,_,hi,v,rfl⟩;have S:zt (Gz F α σ H) (Gz F (α.set i (some (.ow c'))) σ (upd H l o')):=zr λa o h e=>⟨λz=>h (K z),by rw[zg (λz=>h (by rw[z];exact ol))];exact e⟩;refine⟨by rw[zO4];exact m.len,λj a s e1 g=>?_,λj D a b s t x e1 g J G f1 f2=>?_,λj r q e D a s x e1 g f=>?_,m.tp.updO I (P.plain Q),λy o e n=>?_,λy hy=>?_⟩
 ·rcases B e1 g with⟨rfl,rfl,rfl⟩|⟨C,d⟩
  ·exact⟨l,o',rfl,zl,av.same S,I,R⟩
  ·refine(m.ok j a s d g).stay S (λy u f e=>?_) rfl λr q U k=>⟨k.tp,k.o,k.ok.updO (λz=>I (k.o _ z)) (P.plain Q),λy u e n=>?_⟩
   ·obtain⟨W,T,_⟩:=m.ft d g f;refine⟨?_,W,T⟩;rw[zg λz=>C (m.dj i j _ a _ s l hi d v g rfl (by rw[<-z];exact f))];exact e
   ·rw[zg (zm e (m.xd j r q (by rw[<-U];exact d) i _ _ l hi v rfl))];exact k.k y u e n
 ·rcases B e1 J with⟨rfl,rfl,rfl⟩|⟨C,d⟩
  ·rcases B g G with⟨rfl,_⟩|⟨L,w⟩
   ·rfl
   ·exact m.dj i D _ b _ t x hi w v G f1 f2
  ·rcases B g G with⟨rfl,rfl,rfl⟩|⟨L,w⟩
   ·exact m.dj j i a _ s _ x d hi J v f1 f2
   ·exact m.dj j D a b s t x d w J G f1 f2
 ·rcases zN e with⟨_,z⟩|⟨_,O⟩
  ·cases z
  ·rcases B e1 g with⟨rfl,rfl,rfl⟩|⟨_,d⟩
   ·exact m.xd j r q O i _ _ x hi v f
   ·exact m.xd j r q O D a s x d g f
 ·rw[zg (zm e R)];exact m.keep y o e n
 ·rw[zg (λz=>I (by rw[<-z];exact hy))];exact m.oex y hy
theorem M.wrOwn {F:Fr}{σ:St}{H:Hp}{i:Nat}{ds es:List PyData}{l:Addr}{ys:List V}(m:M F α σ H)(hi:α[i]?=some (some (.own ds)))(a:σ[i]?=some (some (.ref l)))(av:AVs (Gz F α σ H) ys es):
  M F (α.set i (some (.own es))) σ (upd H l (.lst ys)):=m.wrC hi a (.lst av)
theorem vd (i:Nat){x:Str}{ds:List PyData}{p1 p2 p3:Pos}(hi:α[i]?=some (some (.own ds)))(h:EvD X α e λd=>ds.length<1000/\SvS X (α.set i (some (.own (ds++[d])))) rest E)
  (y:X.N[i]?=some x:=by rfl) (w:Vis X.env.scope x:=by first|exact Or.inl rfl|exact Or.inr (Or.inl rfl)|exact Or.inr (Or.inr rfl)) (hd:(x == ("__debug__":Str))=false:=by decide) (g:(x == ("__classdict__":Str))=false:=by decide)
  (b:attributeBase (.Name x p1) "append" X.env (eval (.Name x p1) X.env)=eval (.Name x p1) X.env:=by rfl) (o:starEach [e] X.env=(false,eval e X.env)::starEach [] X.env:=by rfl)
  (hpl:((((backTo p3 (starEach [e] X.env)).all λx=>!x.fst)&&(backToKw p3 (keywordEach [] X.env)).all λx=>x.fst.isSome)&&decide (([e].length+([]:List Keyword).length+if([]:List Keyword).isEmpty=true then 0 else 1)<30))=true:=by rfl)
  (a:(p2.endLine == p3.line)=true:=by rfl) (j:swapsWith (.Call (.Attribute (.Name x p1) "append" p2) [e] [] p3) none pos.line X.env=pure false:=by rfl):SvS X α (.Expr (.Call (.Attribute (.Name x p1) "append" p2) [e] [] p3) pos::rest) E:=λF σ H D m r=>by
 obtain⟨l,xs,n,s,q,u,z⟩:=m.own i ds hi;refine⟨_,zy (tI (kE zX1 PySem.F.slot_list_append PySem.F.type_list_append qw (yt y w hd g) (zB zh ye o) b hpl a o) j) zI,?_⟩;refine⟨.ref l,n,.inl ⟨rfl,_,SqL.of s⟩,?_⟩;refine h F σ H _ m λd v H1 k t1 f t=>?_;have m1:=m.kz f t1;refine⟨l,xs,v,rfl,rfl,f _ _ s (m.tp.nt u),by rw[q.length];exact yp (zN5 k.1),?_⟩;exact k.2 F σ _ D (m1.wrOwn hi n ((q.same (f.gz m.tp)).append (.cons t .nil))) r
theorem rV (i:Nat){x:Str}{ds:List PyData}{p1 p2 p3:Pos}(hi:α[i]?=some (some (.own ds)))(h:EvD X α e λd=>∃es,d=.list es/\ds.length+es.length<=1000/\SvS X (α.set i (some (.own (ds++es)))) rest E)
  (B:X.N[i]?=some x:=by rfl) (A:Vis X.env.scope x:=by first|exact Or.inl rfl|exact Or.inr (Or.inl rfl)|exact Or.inr (Or.inr rfl)) (hd:(x == ("__debug__":Str))=false:=by decide) (j:(x == ("__classdict__":Str))=false:=by decide)
  (f:attributeBase (.Name x p1) "extend" X.env (eval (.Name x p1) X.env)=eval (.Name x p1) X.env:=by rfl) (o:starEach [e] X.env=(false,eval e X.env)::starEach [] X.env:=by rfl)
  (hpl:((((backTo p3 (starEach [e] X.env)).all λx=>!x.fst)&&(backToKw p3 (keywordEach [] X.env)).all λx=>x.fst.isSome)&&decide (([e].length+([]:List Keyword).length+if([]:List Keyword).isEmpty=true then 0 else 1)<30))=true:=by rfl)
  (a:(p2.endLine == p3.line)=true:=by rfl) (k:swapsWith (.Call (.Attribute (.Name x p1) "extend" p2) [e] [] p3) none pos.line X.env=pure false:=by rfl):SvS X α (.Expr (.Call (.Attribute (.Name x p1) "extend" p2) [e] [] p3) pos::rest) E:=λF σ H D m r=>by
 obtain⟨l,xs,n,t,s,z,C⟩:=m.own i ds hi;refine⟨_,zy (tI (kE zX1 PySem.F.slot_list_extend PySem.F.type_list_extend jA (yt B A hd j) (zB zh ye o) f hpl a o) k) zI,?_⟩;refine⟨.ref l,n,.inl ⟨rfl,_,SqL.of t⟩,?_⟩;refine h F σ H _ m λd v H1 u t1 g w=>?_;have m1:=m.kz g t1;obtain⟨es,rfl,y,q⟩:=u;obtain⟨b,ys,rfl,g1,g2⟩:=w.lst_inv;refine⟨l,b,xs,ys,rfl,rfl,g _ _ t (m.tp.nt z),(zi g1).2,by rw[s.length,g2.length];exact zN5 (yp y),?_⟩;exact q F σ _ D (m1.wrOwn hi n ((s.same (g.gz m.tp)).append g2)) r
theorem cJ (i:Nat){x:Str}{a:Expr}{ds:List PyData}{p1 p2:Pos}(hi:α[i]?=some (some (.own ds)))(h:EvD X α e λd=>EvD X α a λy=>∃k j,y=.int k/\ixN ds.length k=some j/\SvS X (α.set i (some (.own (ds.set j d)))) rest E)
  (O:X.N[i]?=some x:=by rfl) (M:Vis X.env.scope x:=by first|exact Or.inl rfl|exact Or.inr (Or.inl rfl)|exact Or.inr (Or.inr rfl)) (hd:(x == ("__debug__":Str))=false:=by decide) (I:(x == ("__classdict__":Str))=false:=by decide)
  (z:swapsWithSole [.Subscript (.Name x p1) a p2] e pos.line X.env=pure false:=by rfl) (hw:swappedStores [.Subscript (.Name x p1) a p2] e X.env=pure none:=by rfl)
  (ha:(assignEach [.Subscript (.Name x p1) a p2] X.env).map (·.2)=[assign (.Subscript (.Name x p1) a p2) X.env]:=by rfl) (g:PG X (.Subscript (.Name x p1) a p2) (bY (gE i) (uh X a) lM):=by exact sP (yt rfl (by first|exact Or.inl rfl|exact Or.inr (Or.inl rfl)|exact Or.inr (Or.inr rfl))) zh set_list):
  SvS X α (.Assign [.Subscript (.Name x p1) a p2] e pos::rest) E:=λF σ H D m r=>by
 obtain⟨l,xs,n,C,o,s,L⟩:=m.own i ds hi;refine⟨_,zy (sv zh g z hw ha) zI,?_⟩;refine h F σ H _ m λd v H1 t t1 f A=>?_;have m1:=m.kz f t1;refine⟨.ref l,n,?_⟩;refine t F σ H1 _ m1 λy J K B G b w=>?_;have m2:=m1.kz b G;obtain⟨k,j,rfl,u,q⟩:=B;cases w.int_inv;refine⟨l,xs,k,j,rfl,rfl,b _ _ (f _ _ C (m.tp.nt s)) (m.tp.nt s),by rw[o.length];exact u,?_⟩;exact q F σ _ D (m2.wrOwn hi n (((o.same (f.gz m.tp)).same (b.gz m1.tp)).set (A.same (b.gz m1.tp)) j)) r
def we (X:Cx)(pat:Pat)(body rest:List Stmt)(E:yk):List PyData->Ev->Prop
 |[],α=>SvS X α rest E
 |d::ds,α=>∃a,pat.bind d α=some a/\SvS X a body {nx:=we X pat body rest E ds,ct:=we X pat body rest E ds,bk:=λb=>SvS X b rest E,rt:=E.rt}
theorem qO {pat:Pat}(Q:PassesOwn (model X.prog X.w) X.A X.env X.xe)(R:X.calm=true)(hg:PG X tg (pf X.K pat))(h:EvI X α tg iter λds=>we X pat body rest E ds α)
  (V:∀x,foldedSetIterable iter X.env x=pure x:=by intro _;rfl):SvS X α (.For tg iter body [] pos::rest) E:=λF σ H D m r=>by
 refine⟨_,zy (eu Q R tF hg zI V) zI,?_⟩;refine h F σ H _ m λds J H1 I t1 U C=>?_;have m1:=m.kz U t1;have N:=m1.up;have B:rA (F.up (Gz F α σ H1)) E D:=r.up;refine⟨λi n j H'=>n=ds.length-i/\i<=ds.length/\∃b,M (F.up (Gz F α σ H1)) b j H'/\we X pat body rest E (ds.drop i) b,⟨ds.length,by simp,zK7 _,α,N,I⟩,?_⟩;rintro i n j H' ⟨rfl,hi,b,k,lw⟩;obtain⟨O,L⟩:=C i H' _ (m1.upold k);by_cases d:i<ds.length
 ·have hd:ds[i]?=some ds[i]:=zJ2 d;rw[zN6 d]at lw;obtain⟨Y,S,body⟩:=lw;obtain⟨go,W⟩:=O _ hd;refine .inr ⟨go,λg l=>∃b,M (F.up (Gz F α σ H1)) b g l/\we X pat _ rest E (ds.drop (i+1)) b,λg l ⟨t,T,P⟩=>⟨ds.length-(i+1),(om0 d),rfl,d,t,T,P⟩,λx G y=>?_⟩;obtain⟨s,z⟩:=W x G y;have m3:=k.kz (Kz.of_same s) (k.tp.same s);refine tD S m3 (z λa o _ e=>k.fresh e) λu m4=>?_;exact body _ u G _ m4 ⟨λf σ2 v m2 q=>⟨f,m2,q⟩,B.rt,λf σ2 v m2 q=>q _ σ2 v D m2 B,λf σ2 v m2 q=>⟨f,m2,q⟩⟩
 ·have e:i=ds.length:=(zT0 hi (zT3 d));subst e;rw[zV3]at lw;exact .inl ⟨L (zJ5 _),lw _ j H' D k B⟩
theorem zZ {pat:Pat}{ds:List PyData}(P:Nat->Ev->Prop)(h0:P 0 α)(j:∀i d α,ds[i]?=some d->P i α->∃a,pat.bind d α=some a/\SvS X a body {nx:=P (i+1),ct:=P (i+1),bk:=λg=>SvS X g rest E,rt:=E.rt})
  (hd:∀α,P ds.length α->SvS X α rest E):we X pat body rest E ds α:=by
 have key:∀n i α,n=ds.length-i->i<=ds.length->P i α->we X pat body rest E (ds.drop i) α:=by
  intro n
  induction n with
  |zero=>
   intro i α hn hi p;have e:i=ds.length:=(om5 hn hi);subst e;rw[zV3];exact hd α p
  |succ n h=>
   intro i α hn hi p;have f:i<ds.length:=(om6 hn);rw[zN6 f];obtain⟨a,e,b⟩:=j i ds[i] α (zJ2 f) p;exact⟨a,e,b.imp (λα p=>h (i+1) α (om7 hn) f p) (λ_ z=>z) (λ_ z=>z) (λα p=>h (i+1) α (om7 hn) f p)⟩
 exact key _ 0 α rfl (zK7 _) h0
end
end
section
variable {P:Program}{w:World}{K:PySem.W.Frag}{mg:Str->Option Value}{base:Heap}
theorem M.start {F:Fr}{N:List Str}{vs:List V}{as:List A}{H:Hp}(e:F.H0=H)(t:zC F H)(o:∀x,F.O0 x->∃u,H x=some u/\wq u)(m:ya F (sub (λx=>¬F.O0 x) H) vs as):
  M F (as.map some++List.replicate (N.length-as.length) none) (L2.start N vs) H:=by
 have y:=m.length;have g:∀{i:Nat} {a:A},(as.map some++List.replicate (N.length-as.length) none)[i]?=some (some a)->as[i]?=some a:=λ{i a} h=>by
  rcases zO5 i as.length with z|z
  ·rw[zP5 (by rw[zJ3];exact z),zK8,zM2]at h;obtain⟨b,l,k⟩:=h;cases k;exact l
  ·rw[zR2 (by rw[zJ3];exact z),zR0]at h;split at h<;>cases h
 have at':∀{vs:List V} {as:List A} {i:Nat} {a:A},ya F (sub (λx=>¬F.O0 x) H) vs as->as[i]?=some a->∃v,vs[i]?=some v/\iN F (sub (λx=>¬F.O0 x) H) v a:=by
  intro vs as i a h
  induction h generalizing i with
  |nil=>intro e;simp at e
  |cons h r B=>
   intro e;cases i with
   |zero=>simp at e;subst e;exact⟨_,rfl,h⟩
   |succ i=>obtain⟨v,l,k⟩:=B (by simpa using e);exact⟨v,by simpa using l,k⟩
 have C:∀{i:Nat} {v:V},vs[i]?=some v->(L2.start N vs)[i]?=some (some v):=λ{i v} h=>by
  have hi:i<vs.length:=(zK1.mp h).1;unfold L2.start;rw[zP5 (by rw[zJ3];exact hi),zK8,h];rfl
 have no:∀(i:Nat) a,(as.map some++List.replicate (N.length-as.length) none)[i]?=some (some a)->(∃d,a=.dat d)\/a=.tape:=λi a z=>by
  obtain⟨v,_,h⟩:=at' m (g z);cases a with
  |dat d=>exact .inl ⟨d,rfl⟩
  |tape=>exact .inr rfl
  |_=>exact h.elim
 have E:zt (sub (λx=>¬F.O0 x) H) (Gz F (as.map some++List.replicate (N.length-as.length) none) (L2.start N vs) H):=zr λa o h e=>⟨λz=>z.elim h λn=>by
  obtain⟨i,b,s,e1,_,f⟩:=n;rcases no i b e1 with⟨d,rfl⟩|rfl
  ·exact f.elim
  ·exact f.elim,e⟩
 refine⟨by unfold L2.start;simp[y],λi a s e1 p=>?_,λi j a b s t x e1 _ _ _ f=>?_,λi r q z=>(by rcases no i _ z with⟨d,w⟩|w<;>cases w),t,λx o' h _=>by rw[<-e];exact h,o⟩
 ·obtain⟨v,l,k⟩:=at' m (g e1);rw[C l]at p;cases p;rcases no i a e1 with⟨d,rfl⟩|rfl
  ·exact⟨v,rfl,AV.same E k⟩
  ·obtain⟨t',b,c,D,rfl⟩:=k;exact⟨t',b,c,D,rfl⟩
 ·rcases no i a e1 with⟨d,rfl⟩|rfl
  ·exact f.elim
  ·exact f.elim
theorem fnA {x qual:Str}{st:Stmt}{f:Addr}{fd:FuncData}{N ps:List Str}{k:Nat}{φ:List A->(A->Prop)->Prop}(G:Fun K x qual st f fd)(S:zS N ps (zf st))(hlen:∀as Q,φ as Q->as.length=ps.length)
  (b:∀(cdv:Value) (d:Around) (outer:List Env) (s:Shared) (H:Hp) (E:XK) (as:List A) (Q:A->Prop),zK k (d.deeper (envOfC qual (zf st) s.heap.objs.size f cdv))->φ as Q->
   SvS (wo CX0 P w K mg base N qual (zf st) f cdv d outer s H E).nox (as.map some++List.replicate (N.length-as.length) none) (zv st) {nx:=λ_=>Q (.dat .none),rt:=Q}):yD P w K mg base CX0 (k+1) f fd ps (spA φ):=by
 refine G.ok S (λvs H Q E h=>?_) (λcdv d outer s H vs j E hr h=>?_)
 ·obtain⟨F,as,Q',_,_,_,g,c,_⟩:=h;rw[g.length,hlen as _ c]
 ·obtain⟨F,as,Q',e,t,o,g,c,i⟩:=h;refine b cdv d outer s H E as Q' hr c F _ H _ (M.start e t o g) ⟨λα σ H' m q=>?_,λa v H' r q=>i a v H' q r,λ_ _ _ _ z=>z.elim,λ_ _ _ _ z=>z.elim⟩;exact i _ _ _ q ⟨m.tp,m.keep,.non⟩
end
section
variable {X:Cx}{pins:List (Addr×Obj)}{σ:St}{H:Hp}{s:Shared}{h':Heap}
theorem Inv.turnL {t':Nat}{ch:List Addr}(I:Inv X pins σ H s)(k:∀b o,b∉ch->s.heap.get? b=some o->h'.get? b=some o)(hf:∀b∈ch,yT X pins H b):Inv X pins σ H {s with heap:=h',toks:=t'}:=by
 have d:∀b u,H b=some u->b∉ch:=λb u e z=>by rw[(hf b z).1]at e;cases e
 refine I.step (g':=s.gens) (d':=s.drawn) (ch:=ch) (λb hb=>?_) (λb o _ _ a e _=>k b o a e) (λb o _ _ a e _=>⟨o.slots,k b o a e⟩) (λ_ _ _ _ n=>n)
  (λb o a e=>⟨o,k b o a e⟩) (λ_ _ e=>e) (λ_ _ _ e=>e) (λb ps e=>⟨#[],by rw[e];simp⟩) (λm hm=>?_) (λb u e=>?_) I.bare
 ·obtain⟨_,f1,_,f,f4,g⟩:=hf b hb;exact⟨f,f1,f4,g⟩
 ·obtain⟨o,es,ep,h,r⟩:=hm;exact⟨o,es,ep,k _ o (λz=>(hf _ z).2.1 rfl) h,r⟩
 ·refine(I.hok b u e).stay (λc v a q=>k c v ?_ q) (λ_ q=>q) λ_ _ q=>q;rcases a with z|z
  ·rw[z];exact d b u e
  ·exact d c _ z
theorem Inv.turnLay {t':Nat}{ch:List Addr}{T:Addr}{o:HO}(I:Inv X pins σ H s)(k:∀b o,b∉ch->s.heap.get? b=some o->h'.get? b=some o)(hf:∀b∈ch,yT X pins H b)(f:s.heap.objs.size<=T)(new:zP X.prog X.w (upd H T o) h' T o):
  Inv X pins σ (upd H T o) {s with heap:=h',toks:=t'}:=by
 have d:∀b u,H b=some u->b∉ch:=λb u e z=>by rw[(hf b z).1]at e;cases e
 have hn:H T=none:=I.hok.fresh f;have lt:∀{b:Addr} {u:Obj},s.heap.get? b=some u->b≠T:=λe=>zK9 (zJ4 (zK3 e) f);refine I.step (g':=s.gens) (d':=s.drawn) (ch:=ch) (λb hb=>?_) (λb o _ _ a e _=>k b o a e) (λb o _ _ a e _=>⟨o.slots,k b o a e⟩) (λb u _ e n=>by rw[zg (lt e)];exact n)
  (λb o a e=>⟨o,k b o a e⟩) (λb xs e=>by rw[zg (zm e hn)];exact e) (λb u xs e=>by rw[zg (zm e hn)];exact e) (λb ps e=>⟨#[],by rw[zg (zm e hn),e];simp⟩) (λm hm=>?_) (λb u e=>?_) I.bare
 ·obtain⟨_,f1,_,g,f4,h⟩:=hf b hb;exact⟨g,f1,f4,h⟩
 ·obtain⟨o,es,ep,i,r⟩:=hm;exact⟨o,es,ep,k _ o (λz=>(hf _ z).2.1 rfl) i,r⟩
 ·by_cases hb:b=T
  ·subst hb;rw[zl]at e;cases e;exact new
  ·rw[zg hb]at e;refine(I.hok b u e).stay (λc v a q=>k c v ?_ q) (λc q=>by rw[zg (zm q hn)];exact q) λc xs q=>by rw[zg (zm q hn)];exact q
   rcases a with z|z
   ·rw[z];exact d b u e
   ·exact d c _ z
end
theorem zH7 {a b:Nat}(h:b<a):(a:Addr)≠b:=zT9 h
def Itz (K:PySem.W.Frag)(l1 l2:Addr):It:=
 ⟨λi H=>∃xs ys x y,SqL K H l1 xs/\SqL K H l2 ys/\xs[i]?=some x/\ys[i]?=some y,
  λi H v H'=>∃T x y,v=.ref T/\H T=none/\H'=upd H T (.tup [x,y])/\(∀xs,SqL K H l1 xs->xs[i]?=some x)/\∀ys,SqL K H l2 ys->ys[i]?=some y,
  λi H=>∃xs ys,SqL K H l1 xs/\SqL K H l2 ys/\(xs.length<=i\/ys.length<=i)⟩
def Ite (K:PySem.W.Frag)(l:Addr):It:=
 ⟨λi H=>∃xs x,SqL K H l xs/\xs[i]?=some x,
  λi H v H'=>∃T x,v=.ref T/\H T=none/\H'=upd H T (.tup [.int i,x])/\∀xs,SqL K H l xs->xs[i]?=some x,
  λi H=>∃xs,SqL K H l xs/\xs.length<=i⟩
theorem zz0 {P:Program}{w:World}{K:PySem.W.Frag}{elts:List Expr}{kk:Nat}{pos:Pos}{z TI TO i1 i2 l1 l2:Addr}(D:ZipApart z TI TO i1 i2 l1 l2):
  Turn P w K (.Tuple elts kk pos) (Itz K l1 l2) [z,TI,TO,i1,i2] z (λi h=>IsZip h z TI TO .none/\IsPair h TI (.ref i1) (.ref i2)/\(∃a b,IsPair h TO a b)/\h.IsListIter i1 l1 i/\h.IsListIter i2 l2 i) where
 mem:=by simp
 obj:=λi h st b hb=>by
  obtain⟨g,f,⟨a,c,l⟩,⟨V,e1,_,d1⟩,⟨Y,C,_,d2⟩⟩:=st;simp only[zJ6,zL1,zO0]at hb;rcases hb with rfl|rfl|rfl|rfl|rfl
  ·exact⟨_,g,λv z=>by cases(show Data.fields _=Data.cell v from z)⟩
  ·exact⟨_,f,λv z=>by cases(show Data.seq _ _=Data.cell v from z)⟩
  ·exact⟨_,l,λv z=>by cases(show Data.seq _ _=Data.cell v from z)⟩
  ·exact⟨V,e1,λv z=>by rw[d1]at z;cases z⟩
  ·exact⟨Y,C,λv z=>by rw[d2]at z;cases z⟩
 keep:=λi h h' st k=>by
  obtain⟨g,f,⟨a,c,l⟩,r,p⟩:=st;exact⟨k z (by simp) _ g,k TI (by simp) _ f,⟨a,c,k TO (by simp) _ l⟩,r.at λo e=>k i1 (by simp) o e,p.at λo e=>k i2 (by simp) o e⟩
 item:=by
  intro X G hw O U i pins s σ H E I hf st hg;subst G hw O;obtain⟨xs,ys,x,y,j,d,S,hy⟩:=hg;obtain⟨B,n,p1,N⟩:=I.list j;obtain⟨t,m,p2,M⟩:=I.list d;obtain⟨u,hu,ru⟩:=n.get S;obtain⟨v,hv,Z⟩:=m.get hy;obtain⟨g,f,⟨a,c,l⟩,r,p⟩:=st;refine wpAny_pyNext_zip_item D g f l r p p1.isList p2.isList (x:=u) (y:=v) (by simpa using hu) (by simpa using hv) λh' a1 a2 a3 a4 a5 a6 hk=>⟨_,rfl,?_⟩;refine wpAny_letOwnedTupleGo_zip (s:={s with heap:=h'}) a1 λF b1 q=>?_;have R:s.heap.objs.size≠z:=zT9 (zK3 g);have L:∀b o,b∉[z,TI,TO,i1,i2]->s.heap.get? b=some o->F.get? b=some o:=λb o hb e=>by
   simp only[zJ6,zL1,zO0,not_or]at hb;exact q.extBut _ _ hb.1 (hk b o hb.1 hb.2.2.1 hb.2.2.2.1 hb.2.2.2.2 e)
  have gT:F.get? s.heap.objs.size=some {cls:=.type "tuple",data:=.seq #[u,v]}:=q.extBut _ _ R a5;have J:=I.turnLay (t':=s.toks) (T:=s.heap.objs.size) (o:=.tup [x,y]) L hf (zJ5 _) ⟨by show 2<=sizeLine;decide,[u,v],.cons ru (.cons Z .nil),_,gT,rfl,0,rfl⟩;refine⟨.ref s.heap.objs.size,_,J,rfl,⟨_,x,y,rfl,I.hok.fresh (zJ5 _),rfl,λzs hz=>by rw[I.list_inj hz j];exact S,λzs hz=>by rw[I.list_inj hz d];exact hy⟩,⟨b1,q.extBut _ _ D.TIz (hk _ _ D.TIz D.TITO D.TIi1 D.TIi2 f),⟨u,v,q.extBut _ _ D.TOz a2⟩,a3.extBut q.extBut D.i1z,a4.extBut q.extBut D.i2z⟩,λb hb=>?_⟩;rw[zg]
  ·exact(hf b hb).1
  ·obtain⟨o,e,_⟩:=(show ∃o,s.heap.get? b=some o/\True from by
    simp only[zJ6,zL1,zO0]at hb;obtain⟨V,e1,_⟩:=r;obtain⟨Y,C,_⟩:=p;rcases hb with rfl|rfl|rfl|rfl|rfl
    ·exact⟨_,g,trivial⟩
    ·exact⟨_,f,trivial⟩
    ·exact⟨_,l,trivial⟩
    ·exact⟨_,e1,trivial⟩
    ·exact⟨_,C,trivial⟩)
   exact zK9 (zK3 e)
 done:=by
  intro X G hw O U i pins s σ H E I hf st hg;subst G hw O;obtain⟨xs,ys,j,d,hl⟩:=hg;obtain⟨B,n,p1,N⟩:=I.list j;obtain⟨t,m,p2,M⟩:=I.list d;obtain⟨g,f,⟨a,c,l⟩,r,p⟩:=st;have e1:=n.length;have C:=m.length;refine wpAny_pyNext_zip_end (I.ok.hd U) D g f l r p p1.isList p2.isList (hl.imp (λz=>by simp;exact zK0 (zL0 e1.symm) z) λz=>by simp;exact zK0 (zL0 C.symm) z) λh' hk=>⟨rfl,?_⟩;exact I.turnL (t':=s.toks) (ch:=[z,TI,TO,i1,i2]) (λb o hb e=>by
   simp only[zJ6,zL1,zO0,not_or]at hb;exact hk b o hb.1 hb.2.2.1 hb.2.2.2.1 hb.2.2.2.2 e) hf
 self:=λA i s Q E st h=>wpAny_pyIter_zip st.1 h
theorem iE {P:Program}{w:World}{K:PySem.W.Frag}{elts:List Expr}{L:Nat}{pos:Pos}{e it l:Addr}(hne:e≠it):
  Turn P w K (.Tuple elts L pos) (Ite K l) [e,it] e (λi h=>(∃old,IsEnum h e it i old)/\h.IsListIter it l i) where
 mem:=by simp
 obj:=λi h st b hb=>by
  obtain⟨⟨old,a⟩,⟨D,e1,_,U⟩⟩:=st;simp only[zJ6,zL1,zO0]at hb;rcases hb with rfl|rfl
  ·exact⟨_,a,λv z=>by cases(show Data.fields _=Data.cell v from z)⟩
  ·exact⟨D,e1,λv z=>by rw[U]at z;cases z⟩
 keep:=λi h h' st k=>by
  obtain⟨⟨old,a⟩,d⟩:=st;exact⟨⟨old,k e (by simp) _ a⟩,d.at λo q=>k it (by simp) o q⟩
 item:=by
  intro X n hw m C i pins s σ H E I hf st hg;subst n hw m;obtain⟨xs,x,c,B⟩:=hg;obtain⟨g,f,p1,r⟩:=I.list c;obtain⟨u,G,R⟩:=f.get B;obtain⟨⟨old,a⟩,d⟩:=st;refine wpAny_pyNext_enum_item a d p1.isList (x:=u) (by simpa using G) hne λh' a1 O F V hk=>⟨_,rfl,?_⟩;refine wpAny_letOwnedTupleGo_enum (s:={s with heap:=h',toks:=s.toks+1}) a1 λj N y=>?_;have t:s.heap.objs.size≠e:=zT9 (zK3 a);have p:∀b o,b∉[e,it]->s.heap.get? b=some o->j.get? b=some o:=λb o hb q=>by
   simp only[zJ6,zL1,zO0,not_or]at hb;exact y.extBut _ _ hb.1 (hk b o hb.1 hb.2 q)
  have S:j.get? s.heap.objs.size=some {cls:=.type "tuple",data:=.seq #[.int i s.toks,u]}:=y.extBut _ _ t F;have J:=I.turnLay (t':=s.toks+1) (T:=s.heap.objs.size) (o:=.tup [.int i,x]) p hf (zJ5 _) ⟨by show 2<=sizeLine;decide,[.int i s.toks,u],.cons ⟨_,rfl⟩ (.cons R .nil),_,S,rfl,0,rfl⟩;refine⟨.ref s.heap.objs.size,_,J,rfl,⟨_,x,rfl,I.hok.fresh (zJ5 _),rfl,λzs hz=>by rw[I.list_inj hz c];exact B⟩,⟨⟨u,by simpa using N⟩,O.extBut y.extBut hne.symm⟩,λb hb=>?_⟩;rw[zg]
  ·exact(hf b hb).1
  ·obtain⟨o,q,_⟩:=(show ∃o,s.heap.get? b=some o/\True from by
    simp only[zJ6,zL1,zO0]at hb;obtain⟨D,e1,_⟩:=d;rcases hb with rfl|rfl
    ·exact⟨_,a,trivial⟩
    ·exact⟨_,e1,trivial⟩)
   exact zK9 (zK3 q)
 done:=by
  intro X n hw m C i pins s σ H E I hf st hg;subst n hw m;obtain⟨xs,c,M⟩:=hg;obtain⟨g,f,p1,r⟩:=I.list c;obtain⟨⟨old,a⟩,d⟩:=st;have e1:=f.length;refine wpAny_pyNext_enum_end (I.ok.hd C) a d p1.isList (by simp;exact zK0 (zL0 e1.symm) M) λh' hk=>⟨rfl,?_⟩;exact I.turnL (t':=s.toks) (ch:=[e,it]) (λb o hb q=>by
   simp only[zJ6,zL1,zO0,not_or]at hb;exact hk b o hb.2 q) hf
 self:=λA i s Q E st h=>by
  obtain⟨⟨old,a⟩,d⟩:=st;exact wpAny_pyIter_enum a h
section
variable {X:Cx}{α:Ev}{elts:List Expr}{kk:Nat}{tp p pos:Pos}{a b:Expr}
def zw5 (K:PySem.W.Frag)(c:TA):TI:=λσ H R=>c σ H λvs H1=>∃l,vs=[.ref l]/\(∃xs,SqL K H1 l xs)/\R (Ite K l) H1
theorem za0 {k:TA}(hg:Gl X "enumerate")(hm:X.mg "enumerate"=none)(ha:PA X [a] k)(m:starEach [a] X.env=[(false,eval a X.env)]:=by rfl):
  PI X (.Tuple elts kk tp) (.Call (.Name "enumerate" p) [a] [] pos) (zw5 X.K k):=by
 intro pins s σ H R I h;refine Call_ (xt I hg hm boot_enumerate (zQ1 (thn (ha pos pins s σ H _ I h) λus s1 g=>?_) m rfl));obtain⟨vs,H1,d,t,l⟩:=g;obtain⟨l1,e,⟨xs,f⟩,q⟩:=l;subst e;obtain⟨u,rfl,v⟩:=Vals.one t;cases(show u=Value.ref l1 from v);obtain⟨i,x,p1,w⟩:=d.list f;refine call_enumerate_list p1.isList λh' j r y hk=>?_;refine wpAny_pyIter_enum (s:={s1 with heap:=h'}) j ?_;refine⟨_,_,_,_,H1,rfl,d.kept (t':=s1.toks) λb o e=>hk b o e,iE (zH7 (a:=s1.heap.objs.size+1) (b:=s1.heap.objs.size) (zP2 _)),⟨⟨_,j⟩,r⟩,λb hb=>?_,q⟩;simp only[zJ6,zL1,zO0]at hb;have c:s1.heap.objs.size<=b:=by
  have key:∀n b:Nat,n=s1.heap.objs.size->(b=n+1\/b=n)->n<=b:=λn b _ h=>by lia
  exact key _ _ rfl hb
 exact d.fpOk c (d.hok.fresh c)
def uN (n:Nat):List PyData->List PyData
 |[]=>[]
 |d::ds=>.tuple [.int n,d]::uN (n+1) ds
theorem xD :∀{ds:List PyData}{n i:Nat}{d:PyData},(uN n ds)[i]?=some d->∃e,ds[i]?=some e/\d=.tuple [.int ((n+i:Nat):Int),e]
 |[],n,i,d,h=>by simp[uN]at h
 |e::ds,n,0,d,h=>by simp[uN]at h;exact⟨e,rfl,by simp[<-h]⟩
 |e::ds,n,i+1,d,h=>by
  simp only[uN,z06]at h;obtain⟨f,g,c⟩:=xD h;exact⟨f,by simpa using g,by rw[c,Nat.add_assoc,Nat.add_comm 1 i]⟩
theorem wV :∀(ds:List PyData) (n:Nat),(uN n ds).length=ds.length
 |[],_=>rfl
 |_::ds,n=>by simp[uN,wV ds (n+1)]
theorem qR {Q:List PyData->Prop}(hg:Gl X "enumerate")(hm:X.mg "enumerate"=none)(h:EvD X α a λx=>∃ds,x=.list ds/\Q (uN 0 ds))(n:starEach [a] X.env=[(false,eval a X.env)]:=by rfl):
  EvI X α (.Tuple elts kk tp) (.Call (.Name "enumerate" p) [a] [] pos) Q:=λF σ H R m k=>by
 refine⟨_,za0 hg hm (zB zh ye n) n,?_⟩;refine h F σ H _ m λx E H1 u t1 z w=>?_;obtain⟨ds,rfl,q⟩:=u;obtain⟨l1,xs,rfl,g1,g2⟩:=w.lst_inv;refine⟨l1,rfl,⟨xs,SqL.of (zi g1).2⟩,k _ _ H1 q t1 z λi B p s=>⟨λd hd=>?_,λr=>?_⟩⟩
 ·have s1:=SqL.of (K:=X.K) (zi (s _ _ g1)).2;obtain⟨e,he,rfl⟩:=xD hd;obtain⟨t,c,g⟩:=g2.get he;refine⟨⟨xs,t,s1,c⟩,λv D y=>?_⟩;obtain⟨T,x,rfl,j,rfl,f⟩:=y;have f:=f _ s1;rw[c]at f;cases f;refine⟨zL j,λfr=>?_⟩;have C:zt (Gz F α σ H1) (sub p (upd B T (.tup [.int i,t]))):=λa o e=>by
   obtain⟨A,l⟩:=zi (s a o e);exact zG A (by rw[zg (zm l j)];exact l)
  refine .tup (zG (fr T _ zl j) zl) (.cons ?_ (.cons (g.same C) .nil));rw[Nat.zero_add];exact .int _
 ·refine⟨xs,SqL.of (zi (s _ _ g1)).2,?_⟩;rw[wV,<-g2.length]at r;exact r
end
structure Cal (P:Program)(w:World)(K:PySem.W.Frag)(mg:Str->Option Value)(base:Heap)(x:Str)(k:Nat)(φ:List A->(A->Prop)->Prop):Prop where
 ex:∃f fd ps,mg x=some (.ref f)/\PySem.W.keepIn K (.ref f)=true/\Binds K fd ps []/\yD P w K mg base CX0 k f fd ps (spA φ)
section
variable {X:Cx}{α:Ev}{e a b:Expr}{es:List Expr}{pos p:Pos}{Q:PyData->Prop}{k:Nat}{φ:List A->(A->Prop)->Prop}{x:Str}
theorem xY (C:Cal X.prog X.w X.K X.mg X.base x k φ)(hr:zK k X.A)(hg:Gl X x)(h:EvA X α (e::es) λas=>φ as λa=>Q a.d)
  (c:(x == ("__debug__":Str))=false:=by decide) (he:starEach (e::es) X.env=(false,eval e X.env)::starEach es X.env:=by rfl) (hpl:(backTo pos (starEach es X.env)).any (·.1)=false:=by rfl):EvD X α (.Call (.Name x p) (e::es) [] pos) Q:=by
 obtain⟨f,fd,ps,l,i,g,j⟩:=C.ex;exact bJ j hr hg l i g h c he hpl
theorem wD {Q:List PyData->Prop}(C:Cal X.prog X.w X.K X.mg X.base x k φ)(hr:zK k X.A)(hg:Gl X x)(h:EvA X α (e::es) λas=>φ as λa=>∃ds,a=.own ds/\Q ds)
  (c:(x == ("__debug__":Str))=false:=by decide) (he:starEach (e::es) X.env=(false,eval e X.env)::starEach es X.env:=by rfl) (hpl:(backTo pos (starEach es X.env)).any (·.1)=false:=by rfl):EvL X α (.Call (.Name x p) (e::es) [] pos) Q:=by
 obtain⟨f,fd,ps,j,g,d,i⟩:=C.ex;exact bW i hr hg j g d h c he hpl
end
section
variable {P:Program}{w:World}{K:PySem.W.Frag}{mg:Str->Option Value}{base:Heap}
theorem zH0 {x qual:Str}{st:Stmt}{f:Addr}{fd:FuncData}{N ps:List Str}{k:Nat}{φ:List A->(A->Prop)->Prop}(G:Fun K x qual st f fd)(hm:mg x=some (.ref f))(hb:Binds K fd ps [])(S:zS N ps (zf st))(hlen:∀as Q,φ as Q->as.length=ps.length)
  (a:∀(cdv:Value) (b:Around) (outer:List Env) (s:Shared) (H:Hp) (E:XK) (as:List A) (Q:A->Prop),zK k (b.deeper (envOfC qual (zf st) s.heap.objs.size f cdv))->φ as Q->
   SvS (wo CX0 P w K mg base N qual (zf st) f cdv b outer s H E).nox (as.map some++List.replicate (N.length-as.length) none) (zv st) {nx:=λ_=>Q (.dat .none),rt:=Q}):Cal P w K mg base x (k+1) φ:=
 ⟨f,fd,ps,hm,G.kp,hb,fnA G S hlen a⟩
theorem Cal.imp {x:Str}{k:Nat}{φ i:List A->(A->Prop)->Prop}(C:Cal P w K mg base x k φ)(h:∀as Q,i as Q->φ as Q):Cal P w K mg base x k i:=by
 obtain⟨f,fd,ps,o,m,l,n⟩:=C.ex;exact⟨f,fd,ps,o,m,l,n.imp λvs H Q E j=>by obtain⟨F,as,Q',a,b,c,d,e,g⟩:=j;exact⟨F,as,Q',a,b,c,d,h _ _ e,g⟩⟩
def xf :List A->(A->Prop)->Prop:=λas Q=>∃n:Int,as=[.tape,.dat (.int n)]/\0<n/\n<big/\∀v,0<=v->v<n->Q (.dat (.int v))
end
section
variable {Y:Addr->Shared->Hp->List Addr->Cx}{pat:Pat}{ifs:List Expr}{elt:Expr}{α0:Ev}
theorem jC {ds acc:List PyData}{Q:List PyData->Prop}(P:Nat->List PyData->Prop)(h0:P 0 acc)
  (j:∀i d acc,ds[i]?=some d->P i acc->∃a,pat.bind d α0=some a/\∀C s2 f fp,jG (Y C s2 f fp) a ifs λk=>if k=true then ∀C s2 f fp,EvD (Y C s2 f fp) a elt λy=>P (i+1) (acc++[y])else P (i+1) acc)
  (hd:∀acc,P ds.length acc->Q acc):xj Y pat ifs elt α0 ds acc Q:=by
 have key:∀n i acc,n=ds.length-i->i<=ds.length->P i acc->xj Y pat ifs elt α0 (ds.drop i) acc Q:=by
  intro n
  induction n with
  |zero=>
   intro i acc hn hi p;have e:i=ds.length:=(om5 hn hi);subst e;rw[zV3];exact hd acc p
  |succ n g=>
   intro i acc hn hi p;have c:i<ds.length:=(om6 hn);rw[zN6 c];obtain⟨a,e,b⟩:=j i ds[i] acc (zJ2 c) p;refine⟨a,e,λC s2 f fp F σ H R m h=>b C s2 f fp F σ H R m λk H' q=>h k H' ?_⟩;cases k with
   |true=>
    rw[if_pos rfl]at q ⊢;exact λC s2 f fp=>(q C s2 f fp).imp λy p=>g (i+1) _ (om7 hn) c p
   |false=>
    rw[if_neg (by decide)]at q ⊢;exact g (i+1) _ (om7 hn) c q
 exact key _ 0 acc rfl (zK7 _) h0
theorem vG {ds acc:List PyData}{Q:List PyData->Prop}(p:PyData->Bool)(f:PyData->PyData)
  (g:∀d∈ds,∃a,pat.bind d α0=some a/\(∀C s2 b fp (Q:Bool->Prop),Q (p d)->jG (Y C s2 b fp) a ifs Q)/\(p d=true->∀C s2 b fp (Q:PyData->Prop),Q (f d)->EvD (Y C s2 b fp) a elt Q))
  (hd:Q (acc++(ds.filter p).map f)):xj Y pat ifs elt α0 ds acc Q:=by
 induction ds generalizing acc with
 |nil=>
  show Q acc;simpa using hd
 |cons d ds j=>
  obtain⟨a,e,i,h⟩:=g d zK5;refine⟨a,e,λC s2 b fp=>i C s2 b fp _ ?_⟩;have c:=λacc=>j (acc:=acc) λd hd=>g d (zJ8 _ hd);cases hp:p d with
  |true=>
   rw[if_pos rfl];refine λC s2 b fp=>h hp C s2 b fp _ (c _ ?_);simpa[zW6,hp]using hd
  |false=>
   rw[if_neg (by decide)];refine c _ ?_;simpa[zW6,hp]using hd
end
theorem zd4 {ds:List PyData}{v:Int}(h0:0<=v)(b:v<ds.length):∃d,d∈ds/\atI ds v=some d:=by
 obtain⟨j,rfl⟩:=z07 h0;have a:j<ds.length:=(om9 b);exact⟨ds[j],zO6 a,xR (zJ2 a)⟩
theorem mi (st:Stmt)(env:Env):execs [st] env=exec st env:=by
 rw[PySem.execs_cons];have:(λf:Flow=>(match f with|.next=>execs [] env|f=>pure f:Sem Flow))=pure:=by
  funext f
  cases f<;>rfl
 exact(congrArg (λg=>exec st env >>= g) this).trans (bind_pure _)
section
variable {X:Cx}{α:Ev}{e a b c:Expr}{es rest:List Expr}{pos p:Pos}{Q:PyData->Prop}{E:yk}{st:Stmt}{sts sts':List Stmt}
theorem xN (P:Ev->Prop)(j:SvS X α [st] {E with nx:=P})(i:∀d,P d->SvS X d sts E):SvS X α (st::sts) E:=λF σ H D m r=>by
 refine tH (λf H'=>∃d,M F d f H'/\P d) ?_ ?_
 ·obtain⟨t,p,q⟩:=j F σ H {D with nx:=λf H'=>∃d,M F d f H'/\P d} m ⟨λd f H' g z=>⟨d,g,z⟩,r.rt,r.bk,r.ct⟩;exact⟨t,λpins s σ H D I h=>(by
   have:=p pins s σ H D I h;rw[mi]at this;exact this),q⟩
 ·rintro f H' ⟨d,g,z⟩;exact i d z F f H' D g r
theorem gO {c:Prop}[Decidable c]{a b:List Stmt}(d:c->SvS X α a E)(f:¬c->SvS X α b E):SvS X α (if decide c=true then a else b) E:=by
 by_cases h:c
 ·rw[zM8 h];exact d h
 ·rw[zM0 h];exact f h
theorem yC {k:Bool}{a b:List Stmt}(d:k=true->SvS X α a E)(f:k=false->SvS X α b E):SvS X α (if k=true then a else b) E:=by
 cases k with
 |true=>exact d rfl
 |false=>exact f rfl
theorem kT {i j:Int}:Cmp rEq (.int i) (.int j) (decide (i=j)):=λp H g k R d f h=>by
 cases d.int_inv;cases f.int_inv;refine⟨rfl,?_⟩;rw[show decide (V.int i=V.int j)=decide (i=j) by simp];exact h
theorem bp {i j:Int}:Cmp rNe (.int i) (.int j) (!decide (i=j)):=λp H g k R d f h=>by
 cases d.int_inv;cases f.int_inv;refine⟨rfl,?_⟩;rw[show decide (V.int i=V.int j)=decide (i=j) by simp];exact h
theorem kf {i j:Str}:Cmp rEq (.str i) (.str j) (decide (i=j)):=λp H g k R d f h=>by
 cases d.str_inv;cases f.str_inv;refine⟨rfl,?_⟩;rw[show decide (V.str i=V.str j)=decide (i=j) by simp];exact h
theorem zu7 {op:CmpOp}{r:R2}(u:OpR X (compareOp op) r)(hm:behindInMarks op b=false)(h:EvD X α a λx=>EvD X α b λy=>∃k,Cmp r x y k/\Q (.bool k)):EvD X α (.Compare a [op] [b] pos) Q:=λF σ H R m k=>by
 refine⟨_,pJ u zh zh hm,?_⟩;refine h F σ H _ m λx j H1 i t1 d t=>?_;have m1:=m.kz d t1;refine i F σ H1 _ m1 λy l g v n f o=>?_;obtain⟨b,s,q⟩:=v;exact s _ g j l _ (t.same (f.gz m1.tp)) o (k _ _ g q n (d.trans f) (.bl b))
theorem zm1 {Q:Bool->Prop}(h:EvD X α a λx=>EvD X α b λy=>∃i j,x=.int i/\y=.int j/\Q (decide (i=j))):EvT X α (.Compare a [.Eq] [b] pos) Q:=
 xS fg (yw _) (h.imp λx h=>h.imp λy d=>by obtain⟨i,j,e1,f,q⟩:=d;exact⟨_,by subst e1 f;exact kT,q⟩)
theorem zt3 {Q:Bool->Prop}(h:EvD X α a λx=>EvD X α b λy=>∃i j,x=.str i/\y=.str j/\Q (decide (i=j))):EvT X α (.Compare a [.Eq] [b] pos) Q:=
 xS fg (yw _) (h.imp λx h=>h.imp λy d=>by obtain⟨i,j,e1,f,q⟩:=d;exact⟨_,by subst e1 f;exact kf,q⟩)
theorem bt {p q:Bool}{Q:Bool->Prop}(ha:∀Q:Bool->Prop,Q p->EvT X α a Q)(hb:p=true->∀Q:Bool->Prop,Q q->EvW X α (.BoolOp .And (b::rest) pos) Q)(k:Q (p&&q)):EvW X α (.BoolOp .And (a::b::rest) pos) Q:=by
 refine sE (ha _ ?_);cases p with
 |true=>rw[if_pos rfl];exact hb rfl _ (by simpa using k)
 |false=>rw[if_neg (by decide)];simpa using k
end
structure NbT (mg:Str->Option Value):Prop where
 abs:mg "abs"=none
 list:mg "list"=none
 len:mg "len"=none
 range:mg "range"=none
 min:mg "min"=none
 max:mg "max"=none
 sorted:mg "sorted"=none
 isinstance:mg "isinstance"=none
 int:mg "int"=none
 bool:mg "bool"=none
 str:mg "str"=none
 tuple:mg "tuple"=none
 all:mg "all"=none
 any:mg "any"=none
 repr:mg "repr"=none
 zip:mg "zip"=none
 enumerate:mg "enumerate"=none
 reversed:mg "reversed"=none
 sum:mg "sum"=none
theorem xC {X:Cx}{K:PySem.W.Frag}{es:List Expr}{k:Nat}{t:TGs}{n:Nat}{pos:Pos}(b:X.K=K)(c:X.calm=true)(h:PGs X es t)
  (hn:(assignEach es X.env).length=n:=by rfl) (a:(assignEach es X.env).findIdx? (·.1)=none:=by rfl):PG X (.Tuple es k pos) (ff K n t):=by
 subst b;exact dE c h hn a
end L2
namespace SortA
open PySem PySem.W PyProof.Rows
def run {α:Type}(lt:Nat->Nat->Bool):KasT α->α
 |.ret a=>a
 |.ask i j k=>run lt (k (lt i j))
theorem run_bind {α β:Type}(lt:Nat->Nat->Bool)(f:α->KasT β):∀t:KasT α,run lt (t.bind f)=run lt (f (run lt t))
 |.ret _=>rfl
 |.ask i j k=>run_bind lt f (k (lt i j))
structure Ord (lt:Nat->Nat->Bool):Prop where
 irr:∀a,lt a a=false
 tr:∀a b c,lt b a=false->lt c b=false->lt c a=false
 asy:∀a b,lt a b=true->lt b a=false
abbrev g (p:Array Nat)(i:Nat):Nat:=p.getD i 0
def Up (lt:Nat->Nat->Bool)(p:Array Nat)(m:Nat):Prop:=∀i j,i<=j->j<m->lt (g p j) (g p i)=false
def Down (lt:Nat->Nat->Bool)(p:Array Nat)(m:Nat):Prop:=∀i j,i<=j->j<m->lt (g p i) (g p j)=false
theorem fM {p q:Array Nat}{i j:Nat}(h:p[i]?=q[j]?):g p i=g q j:=by
 unfold g;rw[Array.getD_eq_getD_getElem?,Array.getD_eq_getD_getElem?,h]
variable {lt:Nat->Nat->Bool}
theorem Up.succ (O:Ord lt){p:Array Nat}{m:Nat}(h:Up lt p m)(hm:0<m)(e:lt (g p m) (g p (m-1))=false):Up lt p (m+1):=λi j a c=>by
 by_cases e1:j<m
 ·exact h i j a e1
 ·have d:j=m:=(zT0 (zS8 c) (zT3 e1));subst d;by_cases b:i=j
  ·subst b;exact O.irr _
  ·exact O.tr _ _ _ (h i (j-1) (zd3 a b) (pL hm)) e
theorem Down.succ (O:Ord lt){p:Array Nat}{m:Nat}(h:Down lt p m)(hm:0<m)(e:lt (g p (m-1)) (g p m)=false):Down lt p (m+1):=λi j a c=>by
 by_cases e1:j<m
 ·exact h i j a e1
 ·have d:j=m:=(zT0 (zS8 c) (zT3 e1));subst d;by_cases b:i=j
  ·subst b;exact O.irr _
  ·exact O.tr _ _ _ e (h i (j-1) (zd3 a b) (pL hm))
theorem zm5 (O:Ord lt)(p:Array Nat):Up lt p 1:=λi j a b=>by
 have e1:i=0:=(zj1 b a);have c:j=0:=(zj3 b);rw[e1,c];exact O.irr _
theorem uu (O:Ord lt)(p:Array Nat):∀(f n:Nat),0<n->Up lt p n->n<=run lt (kas_asc p f n)/\run lt (kas_asc p f n)<=n+f/\Up lt p (run lt (kas_asc p f n))/\
  (run lt (kas_asc p f n)<n+f->lt (g p (run lt (kas_asc p f n))) (g p (run lt (kas_asc p f n)-1))=true)
 |0,n,_,h=>⟨zJ5 _,zJ5 _,h,λz=>absurd z (zP1 _)⟩
 |f+1,n,hn,h=>by
  show n<=run lt ((λc=>if c=true then KasT.ret n else kas_asc p f (n+1)) (lt (p.getD n 0) (p.getD (n-1) 0)))/\_;cases e:lt (p.getD n 0) (p.getD (n-1) 0)with
  |true=>
   have i:run lt (kas_asc p (f+1) n)=n:=by
    show run lt ((λc=>if c=true then KasT.ret n else kas_asc p f (n+1)) (lt (p.getD n 0) (p.getD (n-1) 0)))=n;rw[e];rfl
   rw[i];exact⟨zJ5 _,(zL2 _ _),h,λ_=>e⟩
  |false=>
   have i:run lt (kas_asc p (f+1) n)=run lt (kas_asc p f (n+1)):=by
    show run lt ((λc=>if c=true then KasT.ret n else kas_asc p f (n+1)) (lt (p.getD n 0) (p.getD (n-1) 0)))=_;rw[e];rfl
   rw[i];obtain⟨a,b,c,d⟩:=uu O p f (n+1) (zY0 _) (h.succ O hn e);exact⟨by show n<=run lt (kas_asc p f (n+1));exact zK0 (zL2 _ _) a,(jd b),c,λz=>d (by lia)⟩
theorem uR {p:Array Nat}{i j:Nat}(a:j<=p.size)(k:Nat):g (kas_rev p i j) k=if i<=k/\k<j then g p (i+j-1-k)else g p k:=by
 have h:=getElem?_mirror_all (xs:=p) (i:=i) a k;split
 ·rename_i c;rw[if_pos c]at h;exact fM h
 ·rename_i c;rw[if_neg c]at h;exact fM h
theorem xg (p:Array Nat)(i j:Nat):(kas_rev p i j).size=p.size:=mirror_size _ _ _ _
theorem yz (p:Array Nat)(i j:Nat):(kas_rev p i j).Perm p:=mirror_perm _ _ _ _
def Eqv (lt:Nat->Nat->Bool)(a b:Nat):Prop:=lt a b=false/\lt b a=false
theorem Down.eqv (O:Ord lt){p q:Array Nat}{n:Nat}(h:Down lt p n)(e:∀k,k<n->Eqv lt (g q k) (g p k)):Down lt q n:=λi j a b=>
 O.tr _ _ _ (O.tr _ _ _ (e j b).2 (h i j a b)) (e i (zL4 a b)).1
def Last (lt:Nat->Nat->Bool)(p:Array Nat)(n q:Nat):Prop:=∀a b,n<=a+(q+1)->a<n->n<=b+(q+1)->b<n->lt (g p a) (g p b)=false
theorem rev_last (O:Ord lt){p:Array Nat}{n q:Nat}(hn:n<=p.size)(hq:q<n)(L:Last lt p n q):∀k,k<n->Eqv lt (g (kas_rev p (n-(q+1)) n) k) (g p k):=λk hk=>by
 rw[uR hn];split
 ·rename_i c;exact⟨L _ _ (zk0 hk) (zf3 c.2 c.1) (zd7 c.1) hk,L _ _ (zd7 c.1) hk (zk0 hk) (zf3 c.2 c.1)⟩
 ·exact⟨O.irr _,O.irr _⟩
theorem tJ (O:Ord lt):∀(f:Nat) (p:Array Nat) (n q:Nat),q<n->n+f<=p.size->Down lt p n->Last lt p n q->
  ∃i m j,run lt (kas_desc f p n q)=(i,m,j)/\n<=m/\m<=n+f/\i.size=p.size/\i.Perm p/\j<m/\Down lt i m/\Last lt i m j
 |0,p,n,q,hq,s,h,L=>⟨p,n,q,rfl,zJ5 _,zJ5 _,rfl,zT1 _,hq,h,L⟩
 |f+1,p,n,q,hq,s,h,L=>by
  cases e:lt (p.getD n 0) (p.getD (n-1) 0)with
  |true=>
   by_cases A:q > 0
   ·have r:run lt (kas_desc (f+1) p n q)=run lt (kas_desc f (kas_rev p (n-(q+1)) n) (n+1) 0):=by
     show run lt ((λc=>if c=true then(if q > 0 then kas_desc f (kas_rev p (n-(q+1)) n) (n+1) 0 else kas_desc f p (n+1) 0)
      else .ask (p.getD (n-1) 0) (p.getD n 0) λd=>if d=true then .ret (p,n,q)else kas_desc f p (n+1) (q+1)) (lt (p.getD n 0) (p.getD (n-1) 0)))=_
     rw[e];show run lt (if q > 0 then _ else _)=_;rw[if_pos A]
    have ev:=rev_last O ((zK0 (zL2 _ _) s):n<=p.size) hq L;have l:=h.eqv O ev;have hn:g (kas_rev p (n-(q+1)) n) n=g p n:=by rw[uR (zK0 (zL2 _ _) s),if_neg (zf5)]
    have o:Down lt (kas_rev p (n-(q+1)) n) (n+1):=l.succ O (zL4 (zK7 _) hq) (by
     rw[hn];exact O.tr _ _ _ (O.asy _ _ e) (ev (n-1) (pL hq)).1)
    obtain⟨i,m,j,a,b,c,y,x,t,w,z⟩:=tJ O f (kas_rev p (n-(q+1)) n) (n+1) 0 (zY0 _) (by rw[xg];exact kY s) o (λa b l o u v=>by
     have e1:a=n:=(qv l o);have k:b=n:=(qv u v);rw[e1,k];exact O.irr _)
    exact⟨i,m,j,r.trans a,(zK0 (zL2 _ _) b),(jd c),by rw[y,xg],x.trans (yz _ _ _),t,w,z⟩
   ·have r:run lt (kas_desc (f+1) p n q)=run lt (kas_desc f p (n+1) 0):=by
     show run lt ((λc=>if c=true then(if q > 0 then kas_desc f (kas_rev p (n-(q+1)) n) (n+1) 0 else kas_desc f p (n+1) 0)
      else .ask (p.getD (n-1) 0) (p.getD n 0) λd=>if d=true then .ret (p,n,q)else kas_desc f p (n+1) (q+1)) (lt (p.getD n 0) (p.getD (n-1) 0)))=_
     rw[e];show run lt (if q > 0 then _ else _)=_;rw[if_neg A]
    obtain⟨i,m,j,a,b,c,y,x,t,w,z⟩:=tJ O f p (n+1) 0 (zY0 _) (kY s) (h.succ O (zL4 (zK7 _) hq) (O.asy _ _ e)) (λa b l o u v=>by
     have e1:a=n:=(qv l o);have k:b=n:=(qv u v);rw[e1,k];exact O.irr _)
    exact⟨i,m,j,r.trans a,(zK0 (zL2 _ _) b),(jd c),y,x,t,w,z⟩
  |false=>
   cases k:lt (p.getD (n-1) 0) (p.getD n 0)with
   |true=>
    have r:run lt (kas_desc (f+1) p n q)=(p,n,q):=by
     show run lt ((λc=>if c=true then(if q > 0 then kas_desc f (kas_rev p (n-(q+1)) n) (n+1) 0 else kas_desc f p (n+1) 0)
      else .ask (p.getD (n-1) 0) (p.getD n 0) λd=>if d=true then .ret (p,n,q)else kas_desc f p (n+1) (q+1)) (lt (p.getD n 0) (p.getD (n-1) 0)))=_
     rw[e];show run lt ((λd=>if d=true then KasT.ret (p,n,q)else kas_desc f p (n+1) (q+1)) (lt (p.getD (n-1) 0) (p.getD n 0)))=_;rw[k];rfl
    exact⟨p,n,q,r,zJ5 _,(zL2 _ _),rfl,zT1 _,hq,h,L⟩
   |false=>
    have r:run lt (kas_desc (f+1) p n q)=run lt (kas_desc f p (n+1) (q+1)):=by
     show run lt ((λc=>if c=true then(if q > 0 then kas_desc f (kas_rev p (n-(q+1)) n) (n+1) 0 else kas_desc f p (n+1) 0)
      else .ask (p.getD (n-1) 0) (p.getD n 0) λd=>if d=true then .ret (p,n,q)else kas_desc f p (n+1) (q+1)) (lt (p.getD n 0) (p.getD (n-1) 0)))=_
     rw[e];show run lt ((λd=>if d=true then KasT.ret (p,n,q)else kas_desc f p (n+1) (q+1)) (lt (p.getD (n-1) 0) (p.getD n 0)))=_;rw[k];rfl
    have E:Last lt p (n+1) (q+1):=λa b l o u v=>by
     have two:∀a,n+1<=a+(q+1+1)->a<n+1->Eqv lt (g p a) (g p (n-1)):=λa C D=>by
      by_cases B:a=n
      ·rw[B];exact⟨e,k⟩
      ·exact⟨L a (n-1) (zj2 C) (dY D B) (zk3) (pL hq),L (n-1) a (zk3) (pL hq) (zj2 C) (dY D B)⟩
     exact O.tr _ _ _ (two b u v).2 (two a l o).1
    obtain⟨i,m,j,a,b,c,y,x,t,w,z⟩:=tJ O f p (n+1) (q+1) (Nat.add_lt_add_right hq _) (kY s) (h.succ O (zL4 (zK7 _) hq) k) E;exact⟨i,m,j,r.trans a,(zK0 (zL2 _ _) b),(jd c),y,x,t,w,z⟩
theorem zn0 {p:Array Nat}{n:Nat}(hn:n<=p.size)(h:Down lt p n):Up lt (kas_rev p 0 n) n:=λi j a b=>by
 rw[uR hn,uR hn,if_pos (⟨(zK7 _),b⟩),if_pos (⟨(zK7 _),(zL4 a b)⟩)];exact h _ _ (by lia) (zd8 b)
theorem nu (O:Ord lt){p:Array Nat}{n nrem:Nat}(h0:0<n)(hn:n<=nrem)(e:nrem<=p.size)(h:Down lt p n):
  ∃d m,run lt (kas_tail3 n nrem p)=(m,d)/\1<=m/\m<=nrem/\d.size=p.size/\d.Perm p/\Up lt d m:=by
 obtain⟨a,b,c,_⟩:=uu O (kas_rev p 0 n) (nrem-n) n h0 (zn0 (zK0 hn e) h);refine⟨kas_rev p 0 n,run lt (kas_asc (kas_rev p 0 n) (nrem-n) n),?_,by lia,(fj b hn),xg _ _ _,yz _ _ _,c⟩;unfold kas_tail3;rw[run_bind];rfl
theorem uM (O:Ord lt){p:Array Nat}{n nrem:Nat}(h0:0<n)(hn:n+1<=nrem)(r:nrem<=p.size)(h:Down lt p (n+1)):
  ∃c m,run lt (kas_descPart n nrem p)=(m,c)/\1<=m/\m<=nrem/\c.size=p.size/\c.Perm p/\Up lt c m:=by
 obtain⟨p1,m1,t,e,a1,a2,d,q,f,s,z⟩:=tJ O (nrem-(n+1)) p (n+1) 0 (zY0 _) (by lia) h (λa b x v u w=>by
  have e1:a=n:=(qv x v);have y:b=n:=(qv u w);rw[e1,y];exact O.irr _)
 unfold kas_descPart;rw[run_bind,e];dsimp only;split
 ·obtain⟨c,m,k,l,i,g,j,o⟩:=nu O (p:=kas_rev p1 (m1-(t+1)) m1) (n:=m1) (nrem:=nrem) (zL4 (zK7 _) f) (fj a2 hn) (by rw[xg];exact zK0 r (zL0 d.symm)) (s.eqv O (rev_last O (by lia) f z));exact⟨c,m,k,l,i,by rw[g,xg,d],(j.trans (yz _ _ _)).trans q,o⟩
 ·obtain⟨c,m,k,l,i,g,j,o⟩:=nu O (p:=p1) (n:=m1) (nrem:=nrem) (zL4 (zK7 _) f) (fj a2 hn) (zK0 r (zL0 d.symm)) s;exact⟨c,m,k,l,i,by rw[g,d],j.trans q,o⟩
theorem eZ (O:Ord lt){p:Array Nat}{nrem:Nat}(h0:0<nrem)(q:nrem<=p.size):
  ∃l m,run lt (kas_count nrem p)=(m,l)/\1<=m/\m<=nrem/\l.size=p.size/\l.Perm p/\Up lt l m:=by
 obtain⟨a,b,c,d⟩:=uu O p (nrem-1) 1 (by decide) (zm5 O p);unfold kas_count;rw[run_bind];generalize run lt (kas_asc p (nrem-1) 1)=n at a b c d;by_cases r:n=nrem
 ·rw[if_pos (by rw[r];simp)];exact⟨p,n,rfl,a,(zL0 r),rfl,zT1 _,c⟩
 ·rw[if_neg (by simpa using r)];have hd:=d (by lia);by_cases f:n > 1
  ·rw[if_pos f];cases e:lt (p.getD 0 0) (p.getD (n-1) 0)with
   |true=>
    refine⟨p,n,?_,a,by lia,rfl,zT1 _,c⟩;show run lt ((λc=>if c=true then KasT.ret (n,p)else kas_descPart n nrem (kas_rev p 0 n)) (lt (p.getD 0 0) (p.getD (n-1) 0)))=_;rw[e];rfl
   |false=>
    have all:∀k,k<n->Eqv lt (g p k) (g p 0):=λk hk=>⟨c 0 k (zK7 _) hk,O.tr _ _ _ (c k (n-1) (zi9 hk) (zj8 f)) e⟩;have u:Down lt (kas_rev p 0 n) (n+1):=by
     have v:Down lt (kas_rev p 0 n) n:=λi j h o=>by
      rw[uR (lY h0 q b),uR (lY h0 q b),if_pos (⟨(zK7 _),(zL4 h o)⟩),if_pos (⟨(zK7 _),o⟩)];exact O.tr _ _ _ (all _ (by lia)).2 (all _ (zd8 o)).1
     refine v.succ O (zL4 (zK7 _) f) ?_;rw[uR (lY h0 q b),uR (lY h0 q b),if_pos (by lia),if_neg (zf5)];have s:lt (g p (n-1)) (g p n)=false:=O.asy _ _ hd;exact O.tr _ _ _ s (O.tr _ _ _ (all (n-1) (zj8 f)).2 (all _ (by lia)).1)
    obtain⟨l,m,A,C,w,t,z,x⟩:=uM O (p:=kas_rev p 0 n) (n:=n) (nrem:=nrem) (zL4 (zK7 _) f) (by lia) (by rw[xg];exact q) u;refine⟨l,m,?_,C,w,by rw[t,xg],z.trans (yz _ _ _),x⟩;rw[<-A];show run lt ((λc=>if c=true then KasT.ret (n,p)else kas_descPart n nrem (kas_rev p 0 n)) (lt (p.getD 0 0) (p.getD (n-1) 0)))=_;rw[e];rfl
  ·rw[if_neg f];have e1:n=1:=(zT0 (zT3 f) a);subst e1;refine uM O (by decide) (by lia) q ?_;have B:Down lt p 1:=λi j h o=>by
    have e1:i=0:=(zj1 o h);have y:j=0:=(zj3 o);rw[e1,y];exact O.irr _
   exact B.succ O (by decide) (O.asy _ _ hd)
theorem tT (O:Ord lt){p:Array Nat}{k:Nat}(U:Up lt p k):∀(f l r:Nat),r<=l+f->l<=r->r<=k->(∀i,i<l->lt (g p k) (g p i)=false)->(∀i,r<=i->i<k->lt (g p k) (g p i)=true)->
  run lt (kas_place p k f l r)<=k/\(∀i,i<run lt (kas_place p k f l r)->lt (g p k) (g p i)=false)/\(∀i,run lt (kas_place p k f l r)<=i->i<k->lt (g p k) (g p i)=true)
 |0,l,r,m,h,d,ha,hb=>by
  show l<=k/\_;exact⟨(zK0 h d),ha,λi x y=>hb i (by have:l<=i:=x;lia) y⟩
 |f+1,l,r,m,h,d,ha,hb=>by
  by_cases a:l≥r
  ·have b:run lt (kas_place p k (f+1) l r)=l:=by
    show run lt (if l≥r then _ else _)=_;rw[if_pos a];rfl
   rw[b];exact⟨(zK0 h d),ha,λi x y=>hb i (zK0 a x) y⟩
  ·cases e:lt (p.getD k 0) (p.getD ((l+r) / 2) 0)with
   |true=>
    have b:run lt (kas_place p k (f+1) l r)=run lt (kas_place p k f l ((l+r) / 2)):=by
     show run lt (if l≥r then _ else _)=_;rw[if_neg a];show run lt ((λc=>if c=true then kas_place p k f l ((l+r) / 2)else kas_place p k f ((l+r) / 2+1) r) (lt (p.getD k 0) (p.getD ((l+r) / 2) 0)))=_;rw[e];rfl
    rw[b];refine tT O U f l ((l+r) / 2) (by lia) (by lia) (by lia) ha λi x y=>?_;cases e3:lt (g p k) (g p i)with
    |true=>rfl
    |false=>
     have n:lt (g p k) (g p ((l+r) / 2))=false:=O.tr _ _ _ (U ((l+r) / 2) i x y) e3;have j:lt (g p k) (g p ((l+r) / 2))=true:=e;rw[n]at j;cases j
   |false=>
    have b:run lt (kas_place p k (f+1) l r)=run lt (kas_place p k f ((l+r) / 2+1) r):=by
     show run lt (if l≥r then _ else _)=_;rw[if_neg a];show run lt ((λc=>if c=true then kas_place p k f l ((l+r) / 2)else kas_place p k f ((l+r) / 2+1) r) (lt (p.getD k 0) (p.getD ((l+r) / 2) 0)))=_;rw[e];rfl
    rw[b];exact tT O U f ((l+r) / 2+1) r (by lia) (by lia) d (λi hi=>O.tr _ _ _ (U i ((l+r) / 2) (zS8 hi) (by lia)) e) hb
theorem jo (O:Ord lt){p:Array Nat}{k l:Nat}(hk:k<p.size)(m:l<=k)(U:Up lt p k)(ha:∀i,i<l->lt (g p k) (g p i)=false)(hb:∀i,l<=i->i<k->lt (g p k) (g p i)=true):Up lt (bubble p k (k-l)) (k+1):=by
 have gb:∀i,g (bubble p k (k-l)) i=if i=l then g p k else if l<i/\i<=k then g p (i-1)else g p i:=λi=>by
  have h:=getElem?_bubble hk (k-l) (Nat.sub_le _ _) i;have el:k-(k-l)=l:=by lia
  rw[el]at h;by_cases c:i=l
  ·rw[if_pos c]at h ⊢;exact fM h
  ·rw[if_neg c]at h ⊢;by_cases f:l<i/\i<=k
   ·rw[if_pos f]at h ⊢;exact fM h
   ·rw[if_neg f]at h ⊢;exact fM h
 intro i j a b;have gl:g (bubble p k (k-l)) l=g p k:=by rw[gb,if_pos rfl]
 have d:∀i,l<i->i<=k->g (bubble p k (k-l)) i=g p (i-1):=λi x y=>by rw[gb,if_neg (zT9 x),if_pos ⟨x,y⟩]
 have e:∀i,i<l->g (bubble p k (k-l)) i=g p i:=λi x=>by rw[gb,if_neg (zK9 x),if_neg (by lia)]
 rcases Nat.lt_trichotomy i l with hi|hi|hi
 ·rw[e i hi];rcases Nat.lt_trichotomy j l with h|h|h
  ·rw[e j h];exact U _ _ (a) (zJ4 h m)
  ·rw[h,gl];exact ha i hi
  ·rw[d j h (zS8 b)];exact U _ _ (by lia) (zh8 b h)
 ·rw[hi,gl];rcases Nat.lt_trichotomy j l with h|h|h
  ·exact(zP1 _ (zJ4 h (zK0 (zL0 hi.symm) a))).elim
  ·rw[h,gl];exact O.irr _
  ·rw[d j h (zS8 b)];exact O.asy _ _ (hb (j-1) (zi9 h) (zh8 b h))
 ·rw[d i hi (zS8 (zL4 a b)),d j (zJ4 hi a) (zS8 b)];exact U _ _ (by lia) (by lia)
theorem cM (O:Ord lt):∀(f:Nat) (p:Array Nat) (k:Nat),0<k->k+f<=p.size->Up lt p k->(run lt (kas_bin f p k)).size=p.size/\(run lt (kas_bin f p k)).Perm p/\Up lt (run lt (kas_bin f p k)) (k+f)
 |0,p,k,_,_,U=>⟨rfl,zT1 _,U⟩
 |f+1,p,k,hk,hs,U=>by
  obtain⟨a,b,c⟩:=tT O U k 0 k (Nat.le_add_left _ _) (zK7 _) (zJ5 _) (λi hi=>(zP1 _ (zL4 (zK7 _) hi)).elim) (λi x y=>(zP1 _ (zJ4 y x)).elim);have d:run lt (kas_bin (f+1) p k)=run lt (kas_bin f (bubble p k (k-run lt (kas_place p k k 0 k))) (k+1)):=by
   show run lt ((kas_place p k k 0 k).bind _)=_;rw[run_bind]
  rw[d];obtain⟨x,y,z⟩:=cM O f (bubble p k (k-run lt (kas_place p k k 0 k))) (k+1) (zY0 _) (by rw[bubble_size];exact kY hs) (jo O (by lia) a U b c);have e:k+(f+1)=k+1+f:=zw8;rw[e];exact⟨by rw[x,bubble_size],y.trans (bubble_perm _ _ _),z⟩
theorem ag (O:Ord lt){n:Nat}(h:0<n):(run lt (kas_sort n)).size=n/\(run lt (kas_sort n)).Perm (List.range n).toArray/\Up lt (run lt (kas_sort n)) n:=by
 obtain⟨p,m,e,a,b,c,d,u⟩:=eZ O (p:=(List.range n).toArray) (nrem:=n) h (by simp);unfold kas_sort;rw[run_bind,e];dsimp only;have f:p.size=n:=by rw[c];simp
 by_cases hm:m<n
 ·rw[if_pos hm];have em:max m 1=m:=by lia
  rw[em];obtain⟨x,y,z⟩:=cM O (n-m) p m (by lia) (by lia) u;refine⟨by rw[x,f],y.trans d,?_⟩;have e:m+(n-m)=n:=by lia
  rw[e]at z;exact z
 ·rw[if_neg hm];have e:m=n:=(zT0 b (zT3 hm));subst e;exact⟨f,d,u⟩
end SortA
namespace SortA
open PySem PySem.W PyProof.Rows
def xl {α:Type}(n:Nat)(P:α->Prop):KasT α->Prop
 |.ret a=>P a
 |.ask i j k=>i<n/\j<n/\∀b,xl n P (k b)
theorem xl.bind {α β:Type}{n:Nat}{P:α->Prop}{e:β->Prop}{f:α->KasT β}(d:∀a,P a->xl n e (f a)):∀t:KasT α,xl n P t->xl n e (t.bind f)
 |.ret a,h=>d a h
 |.ask i j k,⟨a,b,c⟩=>⟨a,b,λx=>xl.bind d (k x) (c x)⟩
def Bd (n:Nat)(p:Array Nat):Prop:=∀x∈p,x<n
theorem Bd.get {n:Nat}{p:Array Nat}(h:Bd n p)(hn:0<n)(i:Nat):p.getD i 0<n:=by
 by_cases hi:i<p.size
 ·have e:p.getD i 0=p[i]:=by simp[Array.getD,hi]
  rw[e];exact h _ (Array.getElem_mem hi)
 ·have e:p.getD i 0=0:=by simp[Array.getD,hi]
  rw[e];exact hn
theorem Bd.perm {n:Nat}{p q:Array Nat}(h:Bd n p)(e:q.Perm p):Bd n q:=λx a=>h x (e.mem_iff.mp a)
theorem sM {n:Nat}{p:Array Nat}(B:Bd n p)(hn:0<n):∀f k,xl n (λ_=>True) (kas_asc p f k)
 |0,_=>trivial
 |f+1,k=>⟨B.get hn _,B.get hn _,λb=>by
  cases b with
  |true=>exact trivial
  |false=>exact sM B hn f (k+1)⟩
theorem wR {n:Nat}(hn:0<n):∀f (p:Array Nat) k q,Bd n p->xl n (λr:Array Nat×Nat×Nat=>Bd n r.1) (kas_desc f p k q)
 |0,_,_,_,B=>B
 |f+1,p,k,q,B=>⟨B.get hn _,B.get hn _,λb=>by
  cases b with
  |true=>
   show xl n _ (if q > 0 then _ else _);split
   ·exact wR hn f _ _ _ (B.perm (yz _ _ _))
   ·exact wR hn f _ _ _ B
  |false=>
   refine⟨B.get hn _,B.get hn _,λb=>?_⟩;cases b with
   |true=>exact B
   |false=>exact wR hn f _ _ _ B⟩
theorem sY {n:Nat}{p:Array Nat}(B:Bd n p)(hn:0<n)(m r:Nat):xl n (λr:Nat×Array Nat=>Bd n r.2) (kas_tail3 m r p):=by
 unfold kas_tail3;refine xl.bind (P:=λ_=>True) (λa _=>?_) _ (sM (B.perm (yz _ _ _)) hn _ _);exact B.perm (yz _ _ _)
theorem vj {n:Nat}{p:Array Nat}(B:Bd n p)(hn:0<n)(m r:Nat):xl n (λr:Nat×Array Nat=>Bd n r.2) (kas_descPart m r p):=
 xl.bind (λa ha=>by
  split
  ·exact sY (Bd.perm ha (yz _ _ _)) hn _ _
  ·exact sY ha hn _ _) _ (wR hn _ _ _ _ B)
theorem nM {n:Nat}{p:Array Nat}(B:Bd n p)(hn:0<n)(r:Nat):xl n (λr:Nat×Array Nat=>Bd n r.2) (kas_count r p):=
 xl.bind (λa _=>by
  split
  ·exact B
  ·split
   ·refine⟨B.get hn _,B.get hn _,λb=>?_⟩;cases b with
    |true=>exact B
    |false=>exact vj (B.perm (yz _ _ _)) hn _ _
   ·exact vj B hn _ _) _ (sM B hn _ _)
theorem vJ {n:Nat}{p:Array Nat}(B:Bd n p)(hn:0<n)(k:Nat):∀f l r,xl n (λ_=>True) (kas_place p k f l r)
 |0,_,_=>trivial
 |f+1,l,r=>by
  show xl n _ (if l≥r then _ else _);split
  ·exact trivial
  ·refine⟨B.get hn _,B.get hn _,λb=>?_⟩;cases b with
   |true=>exact vJ B hn k f _ _
   |false=>exact vJ B hn k f _ _
theorem pP {n:Nat}(hn:0<n):∀f (p:Array Nat) k,Bd n p->xl n (λ_=>True) (kas_bin f p k)
 |0,_,_,_=>trivial
 |f+1,p,k,B=>xl.bind (λl _=>pP hn f _ _ (B.perm (bubble_perm _ _ _))) _ (vJ B hn k _ _ _)
theorem jU {n:Nat}(hn:0<n):xl n (λ_=>True) (kas_sort n):=
 xl.bind (λa ha=>by
  split
  ·exact pP hn _ _ _ ha
  ·exact trivial) _ (nM (λx b=>by simpa using b) hn n)
theorem wp_run {α:Type}{n:Nat}{P:α->Prop}{cmp:Nat->Nat->(Bool->Shared->Prop)->Shared->Prop}{lt:Nat->Nat->Bool}{Q:α->Shared->Prop}{s:Shared}(d:∀i j C,i<n->j<n->C (lt i j) s->cmp i j C s):
  ∀t:KasT α,xl n P t->Q (run lt t) s->t.kasWp cmp Q s
 |.ret _,_,h=>h
 |.ask i j k,⟨a,b,c⟩,h=>d i j _ a b (wp_run d (k (lt i j)) (c _) h)
def lx (p q:Int×Int):Bool:=decide (p.1<q.1\/(p.1=q.1/\p.2<q.2))
def at2 (ps:List (Int×Int))(i:Nat):Int×Int:=ps.getD i (0,0)
theorem zt4 (ps:List (Int×Int)):Ord λi j=>lx (at2 ps i) (at2 ps j) where
 irr:=λa=>by simp[lx]
 tr:=λa b c=>by
  unfold lx;generalize at2 ps a=x;generalize at2 ps b=y;generalize at2 ps c=z;simp only[z08]
  lia
 asy:=λa b=>by
  unfold lx;generalize at2 ps a=x;generalize at2 ps b=y;simp only[z08,zU6]
  lia
theorem lB (ps:List (Int×Int))(h:0<ps.length):∃d:List Nat,run (λi j=>lx (at2 ps i) (at2 ps j)) (kas_sort ps.length)=d.toArray/\d.length=ps.length/\(∀i∈d,i<ps.length)/\(d.map (at2 ps)).Perm ps/\(d.map (at2 ps)).Pairwise (λp q=>lx q p=false):=by
 obtain⟨a,b,c⟩:=ag (zt4 ps) h;generalize run (λi j=>lx (at2 ps i) (at2 ps j)) (kas_sort ps.length)=r at a b c;have e:(List.range ps.length).map (at2 ps)=ps:=by
  apply z30
  ·simp
  ·intro i f l;simp[at2,l]
 have pl:r.toList.Perm (List.range ps.length):=by
  have:=zY8.mp b;simpa using this
 refine⟨r.toList,by simp,by simpa using a,λi hi=>by simpa using pl.mem_iff.mp hi,?_,?_⟩
 ·have:=pl.map (at2 ps);rw[e]at this;exact this
 ·rw[List.pairwise_map,zQ5];intro i j hi n k;have f:j<r.size:=by simpa using n
  have:=c i j (zN5 k) (by rw[<-a];exact f);have m:g r i=r.toList[i]:=by
   have:i<r.size:=by lia
   simp[g,Array.getD,this]
  have o:g r j=r.toList[j]:=by simp[g,Array.getD,f]
  rw[m,o]at this;exact this
end SortA
namespace L2
open PySem PySem.Spec PySem.Calls PySem.W PyProof.Rows SortA
section
variable {prog:Program}{w:World}{A:Around}{E:Value->Shared->Prop}{s:Shared}
def Prs (h:Heap):List Value->List (Int×Int)->Prop
 |[],[]=>True
 |v::vs,p::ps=>(∃a o t u n,v=.ref a/\h.get? a=some o/\o.cls=.type "tuple"/\o.data=.seq #[.int p.1 t,.int p.2 u] n)/\Prs h vs ps
 |_,_=>False
theorem Prs.len {h:Heap}:∀{vs:List Value}{ps:List (Int×Int)},Prs h vs ps->vs.length=ps.length
 |[],[],_=>rfl
 |[],_::_,h=>h.elim
 |_::_,[],h=>h.elim
 |_::_,_::_,⟨_,h⟩=>by simp[Prs.len h]
theorem Prs.at {h:Heap}:∀{vs:List Value}{ps:List (Int×Int)} (i:Nat),Prs h vs ps->i<ps.length->∃a o t u n,vs.getD i Value.none=.ref a/\h.get? a=some o/\o.cls=.type "tuple"/\o.data=.seq #[.int (at2 ps i).1 t,.int (at2 ps i).2 u] n
 |[],[],_,_,hi=>by simp at hi
 |[],_::_,_,h,_=>h.elim
 |_::_,[],_,h,_=>h.elim
 |_::_,_::_,0,⟨x,_⟩,_=>x
 |_::_,_::_,i+1,⟨_,r⟩,hi=>by
  obtain⟨a,o,t,u,n,e,q⟩:=Prs.at i r (by simpa using hi);exact⟨a,o,t,u,n,by simpa using e,q⟩
theorem Prs.tups {h:Heap}:∀{vs:List Value}{ps:List (Int×Int)},Prs h vs ps->∃fs:List Value,KatTups h vs fs/\fs.length=ps.length/\∀v∈fs,∃i t,v=.int i t
 |[],[],_=>⟨[],trivial,rfl,λ_ h=>by simp at h⟩
 |[],_::_,h=>h.elim
 |_::_,[],h=>h.elim
 |_::_,p::_,⟨⟨a,o,t,u,n,e,d,c,hd⟩,r⟩=>by
  obtain⟨fs,x,y,z⟩:=Prs.tups r;subst e;refine⟨.int p.1 t::fs,KatTups.cons d c hd (by simp) x,by simp[y],λv b=>?_⟩;rcases zJ6.mp b with rfl|b
  ·exact⟨_,_,rfl⟩
  ·exact z v b
theorem cD {a b:Addr}{f ob:Obj}{p q:Int×Int}{t u t' g:Tok}{n k:Nat}{Q:Bool->Shared->Prop}(ha:s.heap.get? a=some f)(i:f.data=.seq #[.int p.1 t,.int p.2 u] n)(hb:s.heap.get? b=some ob)(db:ob.data=.seq #[.int q.1 t',.int q.2 g] k)
  (h:Q (lx p q) s):wpAny (model prog w) A (keyLt' (tuples' true) (.ref a) (.ref b)) Q E s:=by
 refine kat_lt ha i hb db (kat_cons (wpAny_eqBool_int ?_));by_cases e:p.1=q.1
 ·have e1:(p.1 == q.1)=true:=by simp[e]
  rw[e1];refine kat_yes (kat_cons (wpAny_eqBool_int ?_));by_cases c:p.2=q.2
  ·have d:(p.2 == q.2)=true:=by simp[c]
   rw[d];refine kat_yes (kat_nil ?_);have:lx p q=false:=by simp[lx,e,c]
   rw[this]at h;simpa using h
  ·have d:(p.2 == q.2)=false:=by simp[c]
   rw[d];refine kat_no (kat_one _ _ (wpAny_lt_int ?_));have:lx p q=decide (p.2<q.2):=by simp[lx,e]
   rw[this]at h;exact h
 ·have e1:(p.1 == q.1)=false:=by simp[e]
  rw[e1];refine kat_no (oneLt_int ?_);have:lx p q=decide (p.1<q.1):=by simp[lx,e]
  rw[this]at h;exact h
theorem mV {vs:List Value}{ps:List (Int×Int)}(d:2<=vs.length)(P:Prs s.heap vs ps){R:Array Nat->Shared->Prop}(hr:∀c:List Nat,c.length=ps.length->(∀i∈c,i<ps.length)->(c.map (at2 ps)).Perm ps->(c.map (at2 ps)).Pairwise (λp q=>lx q p=false)->R c.toArray s):
  wpAny (model prog w) A (keyKind' vs.toArray) (λz s'=>(kas_sort vs.length).kasWp (kas_ask prog w A z vs) R s') (λ_ _=>False) s:=by
 obtain⟨fs,t,D,hi⟩:=P.tups;have hlen:=P.len;refine kat_kind (T:=.type "int") t (by lia) (λv x=>?_) (by decide) ?_
 ·obtain⟨i,t,rfl⟩:=hi v x;exact .now
 ·have e:(Value.type "int" != Value.type "tuple")=true:=by decide
  rw[e];obtain⟨c,e1,m,B,r,k⟩:=lB ps (zi0 d hlen);rw[hlen];refine wp_run (n:=ps.length) (P:=λ_=>True) (lt:=λi j=>lx (at2 ps i) (at2 ps j)) (λi j C hi h g=>?_) _ (jU (zi0 d hlen)) ?_
  ·obtain⟨a,o,t,u,n,f,ha,_,y⟩:=P.at i hi;obtain⟨b,o',t',F,G,l,hb,_,db⟩:=P.at j h;unfold kas_ask;rw[f,l];exact cD ha y hb db g
  ·rw[e1];exact hr c m B r k
def Srt (vs:List Value)(ps:List (Int×Int))(out:List Value):Prop:=
 ∃a:List Nat,out=a.map (λi=>vs.getD i Value.none)/\a.length=ps.length/\(∀i∈a,i<ps.length)/\(a.map (at2 ps)).Perm ps/\(a.map (at2 ps)).Pairwise (λp q=>lx q p=false)
theorem Srt.len {vs:List Value}{ps:List (Int×Int)}{out:List Value}(h:Srt vs ps out):out.length=ps.length:=by
 obtain⟨a,rfl,e,_⟩:=h;simp[e]
end
inductive PrV (H:Hp):List V->List (Int×Int)->Prop where
 |nil:PrV H [] []
 |cons {a:Addr}{xs:List V}{p:Int×Int}{ps:List (Int×Int)}:H a=some (.tup [.int p.1,.int p.2])->PrV H xs ps->PrV H (.ref a::xs) (p::ps)
section
variable {X:Cx}{pins:List (Addr×Obj)}{σ:St}{H H':Hp}{s:Shared}
theorem PrV.len {xs:List V}{ps:List (Int×Int)}(h:PrV H xs ps):xs.length=ps.length:=by
 induction h with
 |nil=>rfl
 |cons _ _ a=>simp[a]
theorem PrV.keep {xs:List V}{ps:List (Int×Int)}(k:∀a p q,H a=some (.tup [.int p,.int q])->H' a=some (.tup [.int p,.int q]))(h:PrV H xs ps):PrV H' xs ps:=by
 induction h with
 |nil=>exact .nil
 |cons e _ b=>exact .cons (k _ _ _ e) b
theorem PrV.app {xs ys:List V}{ps a:List (Int×Int)}(h:PrV H xs ps)(h':PrV H ys a):PrV H (xs++ys) (ps++a):=by
 induction h with
 |nil=>exact h'
 |cons e _ b=>exact .cons e b
theorem PrV.prs (I:Inv X pins σ H s):∀{xs:List V}{ps:List (Int×Int)}{us:List Value},PrV H xs ps->Vals xs us->Prs s.heap us ps:=by
 intro xs ps us h
 induction h generalizing us with
 |nil=>intro r;cases r;exact trivial
 |@cons a xs p ps e _ ih=>
  intro r;cases r with
  |cons r f=>
   cases(show _=Value.ref a from r);obtain⟨_,its,c,o,d,b,n,hd⟩:=(show zP X.prog X.w H s.heap a (.tup [.int p.1,.int p.2])from I.hok a _ e);obtain⟨u,v,rfl,⟨t,rfl⟩,⟨t',rfl⟩⟩:=Vals.two c;exact⟨⟨a,o,t,t',n,rfl,d,b,hd⟩,ih f⟩
theorem oP {xs:List V}{us:List Value}(r:Vals xs us):∀i x,xs[i]?=some x->RelV x (us.getD i Value.none):=by
 induction r with
 |nil=>intro i x h;simp at h
 |cons e _ a=>
  intro i x h;cases i with
  |zero=>have h':=zN2 (by simpa using h);subst h';exact e
  |succ i=>exact a i x (by simpa using h)
end
end L2
namespace Days
end Days
namespace L2
open PySem PySem.Spec PyProof.Rows Days
section
variable {X:Cx}{α:Ev}{e a b c tg:Expr}{pos p:Pos}{Q:PyData->Prop}{E:yk}{sts:List Stmt}
theorem aJ {pat:Pat}(hg:PG X tg (pf X.K pat))(h:EvD X α e λd=>∃f,pat.bind d α=some f/\SvS X f sts E)
  (k:swapsWithSole [tg] e pos.line X.env=pure false:=by rfl) (hw:swappedStores [tg] e X.env=pure none:=by rfl) (j:(assignEach [tg] X.env).map (·.2)=[assign tg X.env]:=by rfl):SvS X α (.Assign [tg] e pos::sts) E:=λF σ H D m r=>by
 refine⟨_,zy (sv zh hg k hw j) zI,?_⟩;refine h F σ H _ m λd v H1 i t1 o n=>?_;obtain⟨f,l,q⟩:=i;exact tD l (m.kz o t1) n λg s=>q F g H1 D s r
end
theorem eL (ds:List PyData):ds.filter (λ_=>true)=ds:=List.filter_eq_self.mpr λ_ _=>rfl
section
variable {X:Cx}{α:Ev}{tg:Expr}{pos p:Pos}{E:yk}{sts body:List Stmt}
end
def isNone :PyData->Bool
 |.none=>true
 |_=>false
abbrev eqS (d:PyData)(s:Str):Bool:=PyData.eqv d (.str s)
abbrev tN :PyData->Bool:=yL 0 1000000000000
def rj :PyData->Bool
 |.tuple [.int m,f]=>yL 2 14 (.int m)&&yL 1 (m-1) f
 |_=>false
def zR (w v:PyData):Bool:=
 if eqS w "price"=true then isNone v||tN v
 else if(eqS w "come"||eqS w "go")=true then isBool v
 else if(eqS w "least"||eqS w "most")=true then yL 1 14 v
 else if eqS w "deal"=true then isNone v||rj v
 else eqS w "fee"&&tN v
def yr :PyData->Bool
 |.tuple [w,a,b,v]=>wF (.tuple [a,b])&&zR w v
 |_=>false
abbrev words :List Str:=["price","come","go","least","most","deal","fee"]
def zw6 (x y z:V):List (Str×V):=xu "worth" z (xu "last" y (xu "first" x []))
structure Cs where
 price:Addr
 come:Addr
 go:Addr
 least:Addr
 most:Addr
 deal:Addr
 fee:Addr
def Cs.of (c:Cs)(w:Str):Addr:=
 if w="price" then c.price else if w="come" then c.come else if w="go" then c.go else if w="least" then c.least else if w="most" then c.most else if w="deal" then c.deal else c.fee
structure uZ (K:PySem.W.Frag)(C fI fT fE fW:Addr):Prop where
 cl:Cls K C
 nf:yu K C "first"
 nl:yu K C "last"
 nw:yu K C "worth"
 makes:Mk K C fI
 told:Meth K C "told" fT
 tells:Meth K C "tells" fE
 word:Meth K C "word" fW
theorem wb {d:PyData}{s:Str}(h:eqS d s=true):d=.str s:=by
 cases d with
 |str x=>
  have h':(x == s)=true:=h;rw[eq_of_beq h']
 |_=>simp[PyData.eqv]at h
theorem pX {w v:PyData}(h:zR w v=true):∃s∈words,w=.str s:=by
 unfold zR at h;split at h
 ·rename_i e;exact⟨"price",by simp[words],wb e⟩
 ·split at h
  ·rename_i e;rcases(zZ7 _ _).mp e with e|e
   ·exact⟨"come",by simp[words],wb e⟩
   ·exact⟨"go",by simp[words],wb e⟩
  ·split at h
   ·rename_i e;rcases(zZ7 _ _).mp e with e|e
    ·exact⟨"least",by simp[words],wb e⟩
    ·exact⟨"most",by simp[words],wb e⟩
   ·split at h
    ·rename_i e;exact⟨"deal",by simp[words],wb e⟩
    ·rw[zN1]at h;exact⟨"fee",by simp[words],wb h.1⟩
theorem uW {d:PyData}(h:yr d=true):∃(s:Str) (a b v:PyData),s∈words/\d=.tuple [.str s,a,b,v]:=by
 unfold yr at h;split at h
 ·rename_i w a b v;rw[zN1]at h;obtain⟨s,c,rfl⟩:=pX h.2;exact⟨s,a,b,v,c,rfl⟩
 ·cases h
section
variable {X:Cx}
end
abbrev wA (C:Addr)(fs:List (PyData×PyData)):PyData:=.dict ((.int (C:Nat),.none)::fs)
def sf :List (PyData×PyData)->Str->Option PyData
 |[],_=>none
 |(.str g,d)::r,f=>if f=g then some d else sf r f
 |_::r,f=>sf r f
theorem AVf.get {H:Hp}:∀{fs:List (Str×V)}{ds:List (PyData×PyData)}{f:Str}{d:PyData},AVf H fs ds->sf ds f=some d->∃v,fs.lookup f=some v/\AV H v d
 |_,_,f,d,.nil,e=>by cases e
 |_,_,f,d,.cons (f:=g) h r,e=>by
  rw[zP3];unfold sf at e;by_cases z:f=g
  ·subst z;rw[if_pos rfl]at e;cases e;exact⟨_,by simp,h⟩
  ·rw[if_neg z]at e;have a:(f == g)=false:=by simpa using z
   rw[a];exact AVf.get r e
theorem AVf.none {H:Hp}{fs:List (Str×V)}{ds:List (PyData×PyData)}{f:Str}(h:AVf H fs ds)(e:sf ds f=Option.none):fs.lookup f=Option.none:=by
 induction h using AVf.ind with
 |nil=>rfl
 |@cons g _ _ _ _ h r ih=>
  rw[zP3];unfold sf at e;by_cases z:f=g
  ·subst z;rw[if_pos rfl]at e;cases e
  ·rw[if_neg z]at e;have a:(f == g)=false:=by simpa using z
   rw[a];exact ih e
theorem AV.ins_inv {H:Hp}{v:V}{C:Addr}{ds:List (PyData×PyData)}(h:AV H v (wA C ds)):∃a dx fs,v=.ref a/\H a=some (.ins C dx fs)/\AVf H fs ds:=by
 generalize e:wA C ds=d at h;cases h with
 |@ins a b dx fs ds' h1 h2=>
  injection e with e;injection e with e1 f;have g:(C:Int)=(b:Int):=by
   have:=congrArg Prod.fst e1;injection this
  have c:C=b:=Int.ofNat.inj g;subst c f;exact⟨a,dx,fs,rfl,h1,h2⟩
 |_=>cases e
section
variable {X:Cx}{α:Ev}{o e:Expr}{es:List Expr}{pos apos p:Pos}{Q:PyData->Prop}{C:Addr}{f m:Str}
theorem wH (c:Cls X.K C)(na:yu X.K C f)(h:EvD X α o λx=>∃fs d,x=wA C fs/\sf fs f=some d/\Q d)(hb:attributeBase o f X.env (eval o X.env)=eval o X.env:=by rfl):EvD X α (.Attribute o f pos) Q:=λF σ H R m k=>by
 refine⟨_,zu4 zh hb,?_⟩;refine h F σ H _ m λx s H1 b t1 n l=>?_;obtain⟨fs,d,rfl,hf,q⟩:=b;obtain⟨a,dx,j,rfl,i,g⟩:=l.ins_inv;obtain⟨v,r,av⟩:=g.get hf;exact⟨a,C,dx,j,v,rfl,(zi i).2,c,na,r,k d v H1 q t1 n av⟩
structure xv (P:Program)(w:World)(K:PySem.W.Frag)(mg:Str->Option Value)(base:Heap)(C:Addr)(m:Str)(k:Nat)(φ:List A->(A->Prop)->Prop):Prop where
 ex:∃f fd ps,Cls K C/\Meth K C m f/\Binds K fd ps []/\yD P w K mg base CX0 k f fd ps (spA φ)
theorem wL {k:Nat}{φ:List A->(A->Prop)->Prop}{pl:Sem Bool}(J:xv X.prog X.w X.K X.mg X.base C m k φ)(hr:zK k X.A)(h:EvD X α o λx=>∃fs,x=wA C fs/\sf fs m=none/\EvA X α (e::es) λas=>φ (.dat (wA C fs)::as) λa=>Q a.d)
  (b:starEach (e::es) X.env=(false,eval e X.env)::starEach es X.env:=by rfl) (hpl:(backTo pos (starEach es X.env)).any (·.1)=false:=by rfl)
  (N:eval (.Call (.Attribute o m apos) (e::es) [] pos) X.env=(do
   let ov <-eval o X.env
   standAt apos.atName
   let(f,first) <-holding [ov] (getMethod ov m pl)
   callWith pos f first (backTo pos (starEach (e::es) X.env)) (backToKw pos (keywordEach [] X.env))):=by rfl):EvD X α (.Call (.Attribute o m apos) (e::es) [] pos) Q:=λF σ H R l t=>by
 obtain⟨f,fd,ps,c,hm,hb,G⟩:=J.ex;refine⟨_,aZ zh c hm G hr hb .nil oH yy b hpl N,?_⟩;refine h F σ H _ l λx P H1 n t1 j i=>?_;obtain⟨fs,rfl,hf,q⟩:=n;have m1:=l.kz j t1;obtain⟨a,dx,M,rfl,s,D⟩:=i.ins_inv;refine⟨a,dx,M,rfl,(zi s).2,D.none hf,?_⟩;refine q F σ H1 _ m1 λas vs O y I g u=>?_;have m2:=m1.kz g I;have B:=xM (vs:=.ref a::vs) (as:=.dat (wA C fs)::as) (R:=R) (E:=E0) m2 (.cons (i.same (g.gz m1.tp)) u) y λz v H' r L=>by
  obtain⟨g1,g2,g3⟩:=L.back m2;exact t _ v H' r g1 ((j.trans g).trans g2) g3
 exact B
theorem sN {k:Nat}{φ:List A->(A->Prop)->Prop}{pl:Sem Bool}(u:xv X.prog X.w X.K X.mg X.base C m k φ)(hr:zK k X.A)(h:EvD X α o λx=>∃fs,x=wA C fs/\sf fs m=none/\φ [.dat (wA C fs)] λa=>Q a.d)
  (D:eval (.Call (.Attribute o m apos) [] [] pos) X.env=(do
   let ov <-eval o X.env
   standAt apos.atName
   let(f,first) <-holding [ov] (getMethod ov m pl)
   callWith pos f first (backTo pos (starEach [] X.env)) (backToKw pos (keywordEach [] X.env))):=by rfl):EvD X α (.Call (.Attribute o m apos) [] [] pos) Q:=λF σ H R i r=>by
 obtain⟨f,fd,ps,c,hm,hb,G⟩:=u.ex;refine⟨_,eV zh c hm G hr hb .nil oH D,?_⟩;refine h F σ H _ i λx I H1 j t1 g b=>?_;obtain⟨fs,rfl,hf,q⟩:=j;have m1:=i.kz g t1;obtain⟨a,dx,B,rfl,n,t⟩:=b.ins_inv;refine⟨a,dx,B,rfl,(zi n).2,t.none hf,?_⟩;have s:=xM (vs:=[.ref a]) (as:=[.dat (wA C fs)]) (R:=R) (E:=E0) m1 (.cons b .nil) q λz v H' l y=>by
  obtain⟨g1,g2,g3⟩:=y.back m1;exact r _ v H' l g1 (g.trans g2) g3
 exact s
def aI (F:Fr)(v:V)(H':Hp)(d:PyData):Prop:=zC F H'/\Kz F F.H0 H'/\AV (sub (λx=>¬F.O0 x/\∀xs,F.H0 x≠some (.lst xs)) H') v d
def EvN (X:Cx)(α:Ev)(e:Expr)(Q:PyData->Prop):Prop:=∀(F:Fr) (σ:St) (H:Hp) (R:VK),M F α σ H->(∀d v H',Q d->zC F H'->Kz F H H'->AV (sub (λx=>¬Ow F α σ x/\∀xs,H x≠some (.lst xs)) H') v d->R v H')->uh X e σ H R
theorem EvN.d (h:EvN X α e Q):EvD X α e Q:=λF σ H R m k=>h F σ H R m λd v H' q t z r=>k d v H' q t z (r.same (zr λa o h e=>⟨h.1,e⟩))
def spI (C:Addr)(φ:List A->(A->Prop)->Prop):Sp:=λvs H b _=>∃(F:Fr) (as:List A) (Q:A->Prop) (x dx:Addr) (a:List V) (H1:Hp),vs=.ref x::a/\H1 x=none/\H1 dx=none/\dx≠x/\H=upd (upd H1 dx (.own x)) x (.ins C dx [])/\
 F.H0=H1/\zC F H1/\(∀y,F.O0 y->∃u,H1 y=some u/\wq u)/\ya F (sub (λy=>¬F.O0 y) H1) a as/\φ as Q/\∀d H',Q (.dat d)->aI F (.ref x) H' d->b .non H'
structure uE (P:Program)(w:World)(K:PySem.W.Frag)(mg:Str->Option Value)(base:Heap)(x:Str)(k:Nat)(dvs:List V)(φ:List A->(A->Prop)->Prop):Prop where
 ex:∃C f fd ps ds,mg x=some (.ref C)/\Mk K C f/\Binds K fd ps ds/\Vals dvs ds/\yD P w K mg base CX0 k f fd ps (spI C φ)
theorem mS {F:Fr}{σ:St}{H:Hp}{vs:List V}{as:List A}{b:A->Prop}{R:VK}{φ:List A->(A->Prop)->Prop}(m:M F α σ H)(g:ya F (Gz F α σ H) vs as)(a:φ as b)
  (j:∀d v H',b (.dat d)->aI ⟨H,Ow F α σ,F.tp⟩ v H' d->R v H') {E:XK} (x dx:Addr) (h:H x=none) (hdx:H dx=none) (hne:dx≠x):spI C φ (.ref x::vs) (upd (upd H dx (.own x)) x (.ins C dx [])) (λv k=>v=.non/\R (.ref x) k) E:=by
 refine⟨⟨H,Ow F α σ,F.tp⟩,as,b,x,dx,vs,H,rfl,h,hdx,hne,rfl,rfl,?_,?_,?_,a,λd H' c i=>⟨rfl,j d _ H' c i⟩⟩
 ·exact m.tp.to rfl λ_ z=>.inl z
 ·exact λy z=>m.owEx z
 ·exact ya.to (F:=F) (F':=⟨H,Ow F α σ,F.tp⟩) (λ_ _ e=>e) rfl g
theorem aI.back {F:Fr}{σ:St}{H H1 H':Hp}{v:V}{d:PyData}(m:M F α σ H)(b:Kz F H H1)(h:aI ⟨H1,Ow F α σ,F.tp⟩ v H' d):zC F H'/\Kz F H1 H'/\AV (sub (λx=>¬Ow F α σ x/\∀xs,H x≠some (.lst xs)) H') v d:=by
 obtain⟨t,kz,r⟩:=h;refine⟨m.tp.re t rfl,kz,r.same (zr λa o h e=>⟨⟨h.1,λxs z=>h.2 xs (b _ _ z (m.tp.nt (ow0 h.1)))⟩,e⟩)⟩
theorem aO {k:Nat}{φ:List A->(A->Prop)->Prop}{x:Str}(n:uE X.prog X.w X.K X.mg X.base x k [] φ)(hr:zK (k+1) X.A)(hg:Gl X x)(h:EvA X α (e::es) λas=>φ as λa=>Q a.d)
  (b:(x == ("__debug__":Str))=false:=by decide) (he:starEach (e::es) X.env=(false,eval e X.env)::starEach es X.env:=by rfl) (hpl:(backTo pos (starEach es X.env)).any (·.1)=false:=by rfl):EvN X α (.Call (.Name x p) (e::es) [] pos) Q:=λF σ H R m j=>by
 obtain⟨C,f,fd,ps,ds,hm,hk,hb,hd,G⟩:=n.ex;cases hd;refine⟨_,bL hk G hr hg hm hb .nil oH yy b he hpl,?_⟩;refine h F σ H _ m λas vs H1 g t1 c l=>?_;have m1:=m.kz c t1;intro y dx hy hdx hne;rw[zQ3];refine mS m1 l g (λd v H' i q=>?_) y dx hy hdx hne;obtain⟨g1,g2,g3⟩:=q.back m c;exact j d v H' i g1 (c.trans g2) g3
end
structure zo7 (K:PySem.W.Frag)(x qual:Str)(st:Stmt)(dV:Value)(f:Addr)(fd:FuncData):Prop where
 ex:∃(oc:Value) (od:Option Addr) (kV doc pm:Value) (an:Option Addr) (cdv ct:Value) (osl:Array (Option Value)),
  fd=PySem.W.fnOf x qual (zJ st) (zv st) (zf st) dV kV doc pm an cdv ct/\K.lookup f=some ⟨oc,od,.func fd,osl⟩/\PySem.W.codeIn K cdv qual=true
 kp:PySem.W.keepIn K (.ref f)=true
theorem zb7 {K:PySem.W.Frag}{x qual:Str}{st:Stmt}{f:Addr}{oc:Value}{od an:Option Addr}{osl:Array (Option Value)}{dV kV doc pm cdv ct:Value}(l:K.lookup f=some ⟨oc,od,.func (PySem.W.fnOf x qual (zJ st) (zv st) (zf st) dV kV doc pm an cdv ct),osl⟩)
  (c:PySem.W.codeIn K cdv qual=true) (k:PySem.W.keepIn K (.ref f)=true):zo7 K x qual st dV f (PySem.W.fnOf x qual (zJ st) (zv st) (zf st) dV kV doc pm an cdv ct):=⟨⟨oc,od,kV,doc,pm,an,cdv,ct,osl,rfl,l,c⟩,k⟩
section
variable {P:Program}{w:World}{K:PySem.W.Frag}{mg:Str->Option Value}{base:Heap}
theorem zB8 {qual:Str}{st:Stmt}{f C:Addr}{dV:Value}{fd:FuncData}{N:List Str}{x:Str}{k:Nat}{φ:List A->(A->Prop)->Prop}{fl:Str}{e:Expr}{p1 p2 p3:Pos}(G:zo7 K "__init__" qual st dV f fd)(S:zS ("self"::x::N) ["self",x] (zf st))(c:Cls K C)(na:yu K C fl)
  (hb:zv st=[.Assign [.Attribute (.Name "self" p1) fl p2] e p3]) (hlen:∀as Q,φ as Q->as.length=1)
  (O:∀(cdv:Value) (J:Around) (outer:List Env) (s:Shared) (H:Hp) (E:XK) (as:List A) (Q:A->Prop),zK k (J.deeper (envOfC qual (zf st) s.heap.objs.size f cdv))->φ as Q->
   EvL (wo CX0 P w K mg base ("self"::x::N) qual (zf st) f cdv J outer s H E).nox (none::as.map some++List.replicate N.length none) e λds=>noLs ds=true/\Q (.dat (wA C [(.str fl,.list ds)])))
  (a9:∀(cdv:Value) (J:Around) (outer:List Env) (s:Shared) (H:Hp) (E:XK),swapsWith e (some (.Attribute (.Name "self" p1) fl p2)) p3.line (wo CX0 P w K mg base ("self"::x::N) qual (zf st) f cdv J outer s H E).nox.env=pure false)
  (hv:Vis (zf st) "self"):yD P w K mg base CX0 (k+1) f fd ["self",x] (spI C φ):=by
 obtain⟨oc,od,kV,doc,pm,an,cdv,ct,osl,rfl,lk,a8⟩:=G.ex;refine gc lk a8 S (λvs H Q E h=>?_) λJ outer s H vs Qc E hr h=>?_
 ·obtain⟨F,as,Q',y,dx,p,H1,rfl,_,_,_,_,_,_,_,Y,D,_⟩:=h;rw[zL8,Y.length,hlen as _ D];rfl
 ·obtain⟨F,as,Q',y,dx,p,H1,rfl,hy,hdx,hne,rfl,rfl,t,o,Y,D,kk⟩:=h;have hl:=Y.length;have a6:=hlen as _ D;rw[hb];refine⟨_,(show PSs _ _ _ from(tm (pd (X:=(wo CX0 P w K mg base ("self"::x::N) qual (zf st) f cdv J outer s (upd (upd F.H0 dx (.own y)) y (.ins C dx [])) E).nox) (yt (i:=0) rfl hv) zh (a9 cdv J outer s _ E))).nox),?_⟩
  let Z:Fr:=⟨F.H0,λz=>F.O0 z\/z=y\/z=dx,F.tp⟩
  have s1:zt F.H0 (upd (upd F.H0 dx (.own y)) y (.ins C dx [])):=λa u q=>by rw[zg (zm q hy),zg (zm q hdx)];exact q
  have R:¬F.O0 y:=λz=>by obtain⟨u,B,_⟩:=o y z;rw[hy]at B;cases B
  have b0:¬F.O0 dx:=λz=>by obtain⟨u,B,_⟩:=o dx z;rw[hdx]at B;cases B
  have t2:zC Z (upd (upd F.H0 dx (.own y)) y (.ins C dx [])):=(t.same s1).to rfl λ_ z=>.inl z
  -- the names of the body
  have g:∀{i:Nat} {a:A},(none::as.map some++List.replicate N.length none:Ev)[i]?=some (some a)->∃j,i=j+1/\as[j]?=some a:=λ{i a} h=>by
   cases i with
   |zero=>simp at h
   |succ j=>
    refine⟨j,rfl,?_⟩;have h':(as.map some++List.replicate N.length none:Ev)[j]?=some (some a):=by simpa using h
    rcases zO5 j as.length with z|z
    ·rw[zP5 (by rw[zJ3];exact z),zK8,zM2]at h';obtain⟨b,h1,T⟩:=h';cases T;exact h1
    ·rw[zR2 (by rw[zJ3];exact z),zR0]at h';split at h'<;>cases h'
  have at':∀{vs:List V} {as:List A} {i:Nat} {a:A},ya F (sub (λx=>¬F.O0 x) F.H0) vs as->as[i]?=some a->∃v,vs[i]?=some v/\iN F (sub (λx=>¬F.O0 x) F.H0) v a:=by
   intro vs as i a h
   induction h generalizing i with
   |nil=>intro e;simp at e
   |cons h r ih=>
    intro e;cases i with
    |zero=>simp at e;subst e;exact⟨_,rfl,h⟩
    |succ i=>obtain⟨v,h1,T⟩:=ih (by simpa using e);exact⟨v,by simpa using h1,T⟩
  have gv:∀{j:Nat} {v:V},p[j]?=some v->(L2.start ("self"::x::N) (.ref y::p))[j+1]?=some (some v):=λ{j v} h=>by
   have hj:j<p.length:=(zK1.mp h).1;unfold L2.start;rw[zP5 (by rw[zJ3,zL8];exact Nat.add_lt_add_right hj _),zK8,z06,h];rfl
  have no:∀(i:Nat) a,(none::as.map some++List.replicate N.length none:Ev)[i]?=some (some a)->(∃d,a=.dat d)\/a=.tape:=λi a z=>by
   obtain⟨j,_,hj⟩:=g z;obtain⟨v,_,h⟩:=at' Y hj;cases a with
   |dat d=>exact .inl ⟨d,rfl⟩
   |tape=>exact .inr rfl
   |_=>exact h.elim
  have gs:zt (sub (λx=>¬F.O0 x) F.H0) (Gz Z (none::as.map some++List.replicate N.length none) (L2.start ("self"::x::N) (.ref y::p)) (upd (upd F.H0 dx (.own y)) y (.ins C dx []))):=λa u q=>by
   obtain⟨z1,L⟩:=zi q;refine zG ?_ (s1 _ _ L);rintro((z|z|z)|⟨i,b,s,e,_,f⟩)
   ·exact z1 z
   ·rw[z,hy]at L;cases L
   ·rw[z,hdx]at L;cases L
   ·rcases no i b e with⟨d,rfl⟩|rfl
    ·exact f.elim
    ·exact f.elim
  have m2:M Z (none::as.map some++List.replicate N.length none) (L2.start ("self"::x::N) (.ref y::p)) (upd (upd F.H0 dx (.own y)) y (.ins C dx [])):=by
   refine⟨by unfold L2.start;simp[hl,a6],λi a s e1 e2=>?_,λi j a b s t x e1 _ _ _ f=>?_,λi r q z=>(by rcases no i _ z with⟨d,w⟩|w<;>cases w),t2,λz u h _=>s1 z u h,λz hz=>?_⟩
   ·obtain⟨j,rfl,hj⟩:=g e1;obtain⟨v,h1,T⟩:=at' Y hj;rw[gv h1]at e2;cases e2;rcases no _ a e1 with⟨d,rfl⟩|rfl
    ·exact⟨v,rfl,AV.same gs T⟩
    ·obtain⟨t',b,c,h3,rfl⟩:=T;exact⟨t',b,c,h3,rfl⟩
   ·rcases no i a e1 with⟨d,rfl⟩|rfl
    ·exact f.elim
    ·exact f.elim
   ·rcases hz with q|q|q
    ·obtain⟨u,B,hn⟩:=o z q;exact⟨u,s1 _ _ B,hn⟩
    ·exact⟨_,by rw[q];exact zl,λ_ q=>by cases q⟩
    ·exact⟨_,by rw[q,zg hne];exact zl,λ_ q=>by cases q⟩
  refine O cdv J outer s _ E as Q' hr D Z _ _ _ m2 λd v H2 qd t3 k3 r3=>?_;obtain⟨l,xs,rfl,m,a3,a4⟩:=r3;obtain⟨a5,qd⟩:=qd;have a1:l≠y:=λz=>by rw[z,zl]at m;cases m
  have a0:l≠dx:=λz=>by rw[z,zg hne,zl]at m;cases m
  have I:F.H0 l=none:=by rw[zg a1,zg a0]at m;exact m
  have a2:¬F.O0 l:=λz=>by obtain⟨u,B,_⟩:=o l z;rw[I]at B;cases B
  have a7:NT Z y:=t.nt R;have U:H2 y=some (.ins C dx []):=k3 _ _ zl a7;refine⟨.ref y,rfl,y,C,dx,[],rfl,U,c,na,by show 0<1000;decide,?_⟩;refine kk _ _ qd ⟨(t.re t3 rfl).updO R (jq U),λz u h n=>?_,?_⟩
  ·rw[zg (zm h hy)];exact k3 _ _ (s1 _ _ h) n
  ·refine AV.ins (zG ⟨R,λxs z=>by rw[hy]at z;cases z⟩ zl) (.cons (.lst (zG ⟨a2,λxs z=>by rw[I]at z;cases z⟩ (by rw[zg a1];exact a3)) ?_) .nil);refine a4.noL (λa u hno z=>?_) a5;obtain⟨z1,L⟩:=zi z;have na:a≠y:=λw=>z1.1 (.inl (.inr (.inl w)));refine zG ⟨λw=>z1.1 (.inl (.inl w)),λxs w=>?_⟩ (by rw[zg na];exact L);have:H2 a=some (.lst xs):=k3 _ _ (s1 _ _ w) (t.nt λw=>z1.1 (.inl (.inl w)));rw[L]at this;cases this;exact hno trivial
end
section
variable {X:Cx}{α:Ev}{e e':Expr}{pos:Pos}{E:yk}{sts:List Stmt}
def vL {α:Type}(l:List α)(x:Int)(y:α):List α:=l.take (if x<0 then(x+(l.length:Int)).toNat else min x.toNat l.length)++y::l.drop (if x<0 then(x+(l.length:Int)).toNat else min x.toNat l.length)
theorem oT {α:Type}(l:List α)(x:Int)(y:α):(vL l x y).length=l.length+1:=by
 unfold vL;rw[zM9,zL8,zM3,zS2];exact zH9
theorem Vals.ins {xs:List V}{us:List Value}{y:V}{u:Value}(r:Vals xs us)(a:RelV y u)(i:Int):Vals (vL xs i y) (vL us i u):=by
 unfold vL;rw[r.length];exact(r.take _).append (.cons a (r.drop _))
theorem AVs.ins {H:Hp}{xs:List V}{ds:List PyData}{y:V}{d:PyData}(r:AVs H xs ds)(a:AV H y d)(i:Int):AVs H (vL xs i y) (vL ds i d):=by
 unfold vL;rw[r.length];exact(r.take _).append (.cons a (r.drop _))
theorem zc7 (l:List Value)(k:Nat)(y:Value):(l.toArray.extract 0 k).push y++l.toArray.extract k=(l.take k++y::l.drop k).toArray:=by
 apply Array.toList_inj.mp;simp;exact List.take_of_length_le (by simp)
def aQ :V->List V->Hp->VK->Prop:=λx vs H Q=>∃l xs i y,x=.ref l/\vs=[.int i,y]/\H l=some (.lst xs)/\-(2 ^ 63)<=i/\i<2 ^ 63/\xs.length<sizeLine/\Q .non (upd H l (.lst (vL xs i y)))
theorem jw :MtM X "list.insert" aQ:=by
 intro pins s σ H x vs v us Q I d j h;obtain⟨l,xs,i,y,rfl,rfl,c,k,g,hz,q⟩:=h;cases d;obtain⟨u,a,rfl,f,b⟩:=j.two;obtain⟨t,rfl⟩:=f;obtain⟨z,its,n,r,m,e⟩:=I.lstM c;refine call_meets F.slot_list_insert ⟨_,e,rfl⟩ F.entry_list_insert (F.args_list_insert_3 _ _ _)
  (PySem.AutoSeq1.list_insert_list_int_val_1 l its.toArray n i t a (by
   have:=fitsIndex_both k g;simp[this]) (by rw[zK4];exact zN5 (zL4 (zL0 m.symm) hz))) ⟨e,?_⟩
 refine⟨.non,_,I.lset (its':=vL its i a) c e ?_ (r.ins b i) (by rw[oT];exact hz),rfl,q⟩;show(its.toArray.extract 0 (if i<0 then(i+(its.toArray.size:Int)).toNat else min i.toNat its.toArray.size)).push a++its.toArray.extract (if i<0 then(i+(its.toArray.size:Int)).toNat else min i.toNat its.toArray.size)=(vL its i a).toArray;rw[zc7,zK4];rfl
theorem jt (i:Nat){x:Str}{ds:List PyData}{p1 p2 p3:Pos}(hi:α[i]?=some (some (.own ds)))(h:EvD X α e λk=>EvD X α e' λd=>∃j,k=.int j/\-(2 ^ 63)<=j/\j<2 ^ 63/\ds.length<1000/\SvS X (α.set i (some (.own (vL ds j d)))) sts E)
  (L:X.N[i]?=some x:=by rfl) (K:Vis X.env.scope x:=by first|exact Or.inl rfl|exact Or.inr (Or.inl rfl)|exact Or.inr (Or.inr rfl)) (hd:(x == ("__debug__":Str))=false:=by decide) (n:(x == ("__classdict__":Str))=false:=by decide)
  (b:attributeBase (.Name x p1) "insert" X.env (eval (.Name x p1) X.env)=eval (.Name x p1) X.env:=by rfl) (t:starEach [e,e'] X.env=(false,eval e X.env)::starEach [e'] X.env:=by rfl) (f:starEach [e'] X.env=(false,eval e' X.env)::starEach [] X.env:=by rfl)
  (hpl:((((backTo p3 (starEach [e,e'] X.env)).all λx=>!x.fst)&&(backToKw p3 (keywordEach [] X.env)).all λx=>x.fst.isSome)&&decide (([e,e'].length+([]:List Keyword).length+if([]:List Keyword).isEmpty=true then 0 else 1)<30))=true:=by rfl)
  (a:(p2.endLine == p3.line)=true:=by rfl) (c:(backTo p3 (starEach [e'] X.env)).any (·.1)=false:=by rfl) (p:swapsWith (.Call (.Attribute (.Name x p1) "insert" p2) [e,e'] [] p3) none pos.line X.env=pure false:=by rfl):SvS X α (.Expr (.Call (.Attribute (.Name x p1) "insert" p2) [e,e'] [] p3) pos::sts) E:=λF σ H D m r=>by
 obtain⟨l,xs,s,w,u,y,Q⟩:=m.own i ds hi;refine⟨_,zy (tI (kE zX1 PySem.F.slot_list_insert PySem.F.type_list_insert jw (yt L K hd n) (zB zh (zB zh ye f) t) b hpl a t c) p) zI,?_⟩;refine⟨.ref l,s,.inl ⟨rfl,_,SqL.of w⟩,?_⟩;refine h F σ H _ m λk P H1 z t1 g B=>?_;have m1:=m.kz g t1;refine z F σ H1 _ m1 λd v O I J o A=>?_;have m2:=m1.kz o J;obtain⟨j,rfl,G,M,C,q⟩:=I;cases B.int_inv;refine⟨l,xs,j,v,rfl,rfl,o _ _ (g _ _ w (m.tp.nt y)) (m.tp.nt y),G,M,by rw[u.length];exact yp (zN5 C),?_⟩;exact q F σ _ D (m2.wrOwn hi s ((((u.same (g.gz m.tp)).same (o.gz m1.tp))).ins A j)) r
theorem AVs.eraseIdx {H:Hp}:∀{xs:List V}{ds:List PyData} (i:Nat),AVs H xs ds->AVs H (xs.eraseIdx i) (ds.eraseIdx i)
 |_,_,_,.nil=>.nil
 |_,_,0,.cons _ r=>r
 |_,_,i+1,.cons a r=>.cons a (AVs.eraseIdx i r)
theorem fw (i:Nat){x:Str}{ds:List PyData}{p1 p2 p3:Pos}(hi:α[i]?=some (some (.own ds)))(h:EvD X α e λk=>∃j n,k=.int j/\-(2 ^ 63)<=j/\j<2 ^ 63/\seqIndex? j ds.length=some n/\n<ds.length/\SvS X (α.set i (some (.own (ds.eraseIdx n)))) sts E)
  (B:X.N[i]?=some x:=by rfl) (A:Vis X.env.scope x:=by first|exact Or.inl rfl|exact Or.inr (Or.inl rfl)|exact Or.inr (Or.inr rfl)) (hd:(x == ("__debug__":Str))=false:=by decide) (o:(x == ("__classdict__":Str))=false:=by decide)
  (b:attributeBase (.Name x p1) "pop" X.env (eval (.Name x p1) X.env)=eval (.Name x p1) X.env:=by rfl) (t:starEach [e] X.env=(false,eval e X.env)::starEach [] X.env:=by rfl)
  (hpl:((((backTo p3 (starEach [e] X.env)).all λx=>!x.fst)&&(backToKw p3 (keywordEach [] X.env)).all λx=>x.fst.isSome)&&decide (([e].length+([]:List Keyword).length+if([]:List Keyword).isEmpty=true then 0 else 1)<30))=true:=by rfl)
  (a:(p2.endLine == p3.line)=true:=by rfl) (p:swapsWith (.Call (.Attribute (.Name x p1) "pop" p2) [e] [] p3) none pos.line X.env=pure false:=by rfl):SvS X α (.Expr (.Call (.Attribute (.Name x p1) "pop" p2) [e] [] p3) pos::sts) E:=λF σ H D m r=>by
 obtain⟨l,xs,s,u,f,z,I⟩:=m.own i ds hi;refine⟨_,zy (tI (kE zX1 PySem.F.slot_list_pop PySem.F.type_list_pop dQ (yt B A hd o) (zB zh ye t) b hpl a t) p) zI,?_⟩;refine⟨.ref l,s,.inl ⟨rfl,_,SqL.of u⟩,?_⟩;refine h F σ H _ m λk G H1 v t1 d w=>?_;have m1:=m.kz d t1;obtain⟨j,n,rfl,y,C,hn,g,q⟩:=v;cases w.int_inv;have c:n<xs.length:=by rw[f.length];exact g
 refine⟨l,xs,j,n,xs[n],rfl,rfl,d _ _ u (m.tp.nt z),y,C,by rw[f.length];exact hn,zJ2 c,?_⟩;exact q F σ _ D (m1.wrOwn hi s ((f.same (d.gz m.tp)).eraseIdx n)) r
end
def Itv (K:PySem.W.Frag)(a:Addr)(n:Nat):It:=
 ⟨λi H=>∃xs x,SqL K H a xs/\xs.length=n/\i<n/\xs[n-1-i]?=some x,λi H x H'=>H'=H/\∀xs,SqL K H a xs->xs[n-1-i]?=some x,λi H=>n<=i⟩
theorem dB {P:Program}{w:World}{K:PySem.W.Frag}{tg:Expr}(a it:Addr)(n:Nat):Turn P w K tg (Itv K a n) [it] it (λi h=>i<=n/\h.IsRevIter it a ((n:Int)-1-(i:Int))) where
 mem:=by simp
 obj:=λi h st b hb=>by
  have e:b=it:=by simpa using hb
  subst e;obtain⟨_,o,e,c,d⟩:=st;exact⟨o,e,λv z=>by rw[d]at z;cases z⟩
 keep:=λi h h' st k=>⟨st.1,st.2.at λo e=>k it (by simp) o e⟩
 item:=by
  intro X j hw g r i pins s σ H E I hf st hg;subst j hw g;obtain⟨xs,x,hq,G,hi,q⟩:=hg;obtain⟨its,B,p,hz⟩:=I.list hq;obtain⟨u,t,F⟩:=B.get q;obtain⟨f0,f1,f2,l,f4,m⟩:=hf it (by simp);have e1:((n:Int)-1-(i:Int))=((n-1-i:Nat):Int):=by lia
  have st':=st.2;rw[e1]at st';refine wpAny_pyNext_rev_item st' p.isList (x:=u) (by simpa using t) λh' f sb=>?_;have y:Inv X pins σ H {s with heap:=h'}:=I.turned (t':=s.toks) (λb o hb e=>(sb.2 b hb).trans e) f0 f1 l f4 m;obtain⟨o,e,c,d⟩:=id f;have D:(((n-1-i:Nat):Int)-1)=(n:Int)-1-((i+1:Nat):Int):=by lia
  rw[D]at f;exact⟨u,rfl,df (s:={s with heap:=h'}) e c d (by decide) ⟨x,H,y,F,⟨rfl,λys hy=>by rw[I.list_inj hy hq];exact q⟩,⟨hi,f⟩,λb hb=>(hf b hb).1⟩⟩
 done:=by
  intro X j hw g r i pins s σ H E I hf st hg;subst j hw g;have hi:i=n:=zT0 st.1 hg;obtain⟨f0,f1,f2,l,f4,m⟩:=hf it (by simp);have st':=st.2;rw[show((n:Int)-1-(i:Int))=-1 by lia]at st';exact wpAny_pyNext_rev_end (I.ok.hd r) st' λh' C=>⟨rfl,I.turned (t':=s.toks) (λb o hb e=>C b o hb e) f0 f1 l f4 m⟩
 self:=λA i s Q E st h=>wpAny_pyIter_revIter st.2 h
section
variable {X:Cx}{α:Ev}{tg:Expr}{p pos:Pos}{a:Expr}
def zI6 (K:PySem.W.Frag)(b:TA):TI:=λσ H R=>b σ H λvs H1=>∃l xs,vs=[.ref l]/\SqL K H1 l xs/\R (Itv K l xs.length) H1
theorem zt6 {k:TA}(hg:Gl X "reversed")(hm:X.mg "reversed"=none)(ha:PA X [a] k)(m:starEach [a] X.env=[(false,eval a X.env)]:=by rfl):PI X tg (.Call (.Name "reversed" p) [a] [] pos) (zI6 X.K k):=by
 intro pins s σ H R I h;refine Call_ (xt I hg hm boot_reversed (zQ1 (thn (ha pos pins s σ H _ I h) λus s1 g=>?_) m rfl));obtain⟨vs,H1,f,n,l⟩:=g;obtain⟨l1,xs,e,i,q⟩:=l;subst e;obtain⟨u,rfl,r⟩:=Vals.one n;cases(show u=Value.ref l1 from r);obtain⟨d,j,p1,t⟩:=f.list i;have hlen:=j.length;refine call_reversed_list p1.isList ?_;have c:({s1 with heap:=s1.heap.push (revObj l1 ((d.toArray.size:Int)-1))}:Shared).heap.IsRevIter s1.heap.objs.size l1 ((xs.length:Int)-1-((0:Nat):Int)):=by
  refine⟨_,zK2 _ rfl,rfl,?_⟩;show Data.fields _=_;rw[zK4,hlen];simp
 refine wpAny_pyIter_revIter c ?_;refine⟨_,_,_,_,H1,rfl,f.kept (t':=s1.toks) λb o e=>zJ0 _ e,dB l1 _ xs.length,⟨zK7 _,c⟩,λb hb=>?_,q⟩;have e:b=s1.heap.objs.size:=by simpa using hb
 subst e;exact f.fpOk (zJ5 _) (f.hok.fresh (zJ5 _))
theorem zt8 {Q:List PyData->Prop}(hg:Gl X "reversed")(hm:X.mg "reversed"=none)(h:EvD X α a λx=>∃ds,x=.list ds/\Q ds.reverse)(e:starEach [a] X.env=[(false,eval a X.env)]:=by rfl):
  EvI X α tg (.Call (.Name "reversed" p) [a] [] pos) Q:=λF σ H R m k=>by
 refine⟨_,zt6 hg hm (zB zh ye e) e,?_⟩;refine h F σ H _ m λx r H1 g t1 l j=>?_;obtain⟨ds,rfl,q⟩:=g;obtain⟨l1,xs,rfl,g1,g2⟩:=j.lst_inv;refine⟨l1,xs,rfl,SqL.of (zi g1).2,k _ _ H1 q t1 l λi t p s=>⟨λd hd=>?_,λf=>?_⟩⟩
 ·have s1:=SqL.of (K:=X.K) (zi (s _ _ g1)).2;have hi:i<ds.length:=by
   have:=(zK1.mp hd).1
   rwa [zZ1]at this
  rw[List.getElem?_reverse hi]at hd;obtain⟨n,b,c⟩:=g2.get hd;rw[<-g2.length]at b;refine⟨⟨xs,n,s1,rfl,by rw[g2.length];exact hi,b⟩,λv o y=>?_⟩;obtain⟨rfl,hy⟩:=y;have:=hy _ s1;rw[b]at this;cases this;exact⟨zt.refl _,λ_=>c.same s⟩
 ·rw[zZ1,<-g2.length]at f;exact f
end
def EnS (w:World):List DictEntry->List (Str×V)->Prop:=Paired λe p=>e.hash=hashStr w p.1/\(∃t,e.key=.str p.1 t)/\RelV p.2 e.val
def lG (K:PySem.W.Frag)(w:World)(d:Addr)(a:List (Str×V)):Prop:=
 ∃es n,K.lookup d=some ⟨.type "dict",none,.dict es n,#[]⟩/\EnS w es.toList a/\(a.map (·.1)).Nodup
theorem jM {P:Program}{w:World}{es:List DictEntry}{a:List (Str×V)}(h:EnS w es a):Pairs (PySem.strKind P w) es (List.zipWith (λe (p:Str×V)=>(p.1,e.val)) es a):=by
 induction h with
 |nil=>exact .nil
 |cons q _ b=>
  obtain⟨_,⟨t,c⟩,_⟩:=q;exact .cons (by rw[c];simp[PySem.strKind,Value.isStrOf]) rfl b
theorem zb4 {w:World}{es:List DictEntry}{a:List (Str×V)}(h:EnS w es a):(List.zipWith (λe (p:Str×V)=>(p.1,e.val)) es a).map (·.1)=a.map (·.1):=by
 induction h with
 |nil=>rfl
 |cons _ _ b=>simp only[List.zipWith_cons_cons,zN7,b]
theorem fe {P:Program}{w:World}{es:List DictEntry}{a:List (Str×V)}(h:EnS w es a):∀e∈es,∃k,(PySem.strKind P w).is k e.key=true/\e.hash=(PySem.strKind P w).hash k:=by
 induction h with
 |nil=>intro e he;simp at he
 |@cons _ p _ _ q _ ih=>
  obtain⟨b,⟨t,c⟩,_⟩:=q;intro e he;rcases zJ6.mp he with rfl|he
  ·exact⟨p.1,by rw[c];simp[PySem.strKind,Value.isStrOf],b⟩
  ·exact ih e he
theorem bG {w:World}{x:Str}{v:V}{es:List DictEntry}{a:List (Str×V)}(c:EnS w es a)(h:a.lookup x=some v):∃u,valueAt (List.zipWith (λe (p:Str×V)=>(p.1,e.val)) es a) x=some u/\RelV v u:=by
 induction c with
 |nil=>simp at h
 |@cons e p _ _ k _ ih=>
  obtain⟨y,z⟩:=p;by_cases q:x=y
  ·subst q;simp only[List.lookup_cons_self,Option.some.injEq]at h;subst h;exact⟨e.val,by simp[valueAt],k.2.2⟩
  ·rw[zP3,zW8.mpr q]at h;obtain⟨u,d,b⟩:=ih h;refine⟨u,?_,b⟩;rw[<-d];simp[valueAt,zQ8,zN9 q]
section
variable {X:Cx}{α:Ev}{p pos:Pos}{a:Expr}{g:Str}{Q:PyData->Prop}
def zv2 (i:Expr):Prop:=∀b c,subscripted i false b c=operate [b,c] (getItem b c)
theorem zF2 {prog:Program}{w:World}{A:Around}{E:Value->Shared->Prop}{s:Shared}{env:Env}{value slice:Expr}{pos:Pos}{T id:String}{Q:Value->Shared->Prop}
  (m:typeLookup (.type T) "__getitem__"=pure (some (.builtin id))) (l:zv2 slice)
  (h:wpAny (model prog w) A (eval value env) (λo d=>wpAny (model prog w) A (eval slice env) (λi b=>b.TypeIs o T/\wpAny (model prog w) A (getItem o i) Q E b) E d) E s):
  wpAny (model prog w) A (eval (.Subscript value slice pos) env) Q E s:=by
 refine Subscript_ (thn h λo d j=>thn j λi b c=>?_);obtain⟨k,c⟩:=c;unfold subscriptTail;refine zI9 ?_;rw[getitemInPython_of_ne k.not_modules];refine zI9 (z38 k m ?_);have fin:wpAny (model prog w) A (subscripted slice false o i) (λr e=>wpAny (model prog w) A (letTemporaryGo value o r >>= λ_=>pure r) Q E e) E b:=by
  rw[l o i];exact wpAny_operating (thn c λr e f=>zI9 (wpAny_letTemporaryGo (zJ1 f)))
 first
  |exact zJ1 (zI9 fin)
  |exact zI9 (zJ1 (zI9 fin))
  |exact zI9 fin
theorem cm {d:Addr}{c:List (Str×V)}{ty:TE}(hg:Gl X g)(hm:X.mg g=some (.ref d))(hd:lG X.K X.w d c)(hi:PE X a ty)(m:zv2 a)(hb:(g == ("__debug__":Str))=false:=by decide):
  PE X (.Subscript (.Name g p) a pos) (λσ H Q=>ty σ H λy H1=>∃x v,y=.str x/\c.lookup x=some v/\Q v H1):=by
 intro pins s σ H Q I h;refine zF2 PySem.F.slot_dict_getitem.lookup m (tE I hg hm (thn (hi pins s σ H _ I h) λB s2 b=>?_) hb);obtain⟨y,q,j,A,x,v,k,ex,r⟩:=b;subst k;obtain⟨t,rfl⟩:=A;obtain⟨es,n,o,he,hn⟩:=hd;have i:s2.heap.DictOf (PySem.strKind X.prog X.w) d (List.zipWith (λe (p:Str×V)=>(p.1,e.val)) es.toList c):=
  ⟨_,es,n,j.kIn _ _ o,⟨rfl,rfl,rfl⟩,rfl,λe f=>fe he e (by simpa using f),jM he,by rw[zb4 he];exact hn⟩
 obtain⟨u,l,z⟩:=bG he ex;exact⟨i.typeIs,wpAny_getItem_of (show(PySem.strKind X.prog X.w).is x (.str x t)=true by simp[PySem.strKind,Value.isStrOf]) i.mapOf l ⟨v,q,j.tok _,z,r⟩⟩
def scV :PyData->Option V
 |.none=>some .non
 |.bool b=>some (.bl b)
 |.int i=>some (.int i)
 |.str x=>some (.str x)
 |_=>Option.none
theorem zs4 {H:Hp}{d:PyData}{v:V}(h:scV d=some v):AV H v d:=by
 cases d<;>simp[scV]at h<;>subst h<;>constructor
theorem cb {d:Addr}{b:List (Str×V)}(hg:Gl X g)(hm:X.mg g=some (.ref d))(hd:lG X.K X.w d b)(h:EvD X α a λy=>∃x d v,y=.str x/\b.lookup x=some v/\scV d=some v/\Q d)(i:zv2 a:=by exact λ_ _=>rfl)
  (hb:(g == ("__debug__":Str))=false:=by decide):EvD X α (.Subscript (.Name g p) a pos) Q:=λF σ H R m k=>by
 refine⟨_,cm hg hm hd zh i hb,?_⟩;refine h F σ H _ m λy n H1 c t1 l j=>?_;obtain⟨x,d',v,rfl,f,e,q⟩:=c;cases j.str_inv;exact⟨x,v,rfl,f,k _ _ H1 q t1 l (zs4 e)⟩
end
section
variable {X:Cx}{α:Ev}{p pos:Pos}{a b:Expr}{g:Str}{Q:PyData->Prop}
theorem zr5 {lo hi:Option Expr}(h:EvD X α a λx=>EvO X α lo λl=>EvO X α hi λu=>∃ds,x=.tuple ds/\¬(HT.sIx ds.length 0 l=0/\HT.sIx ds.length ds.length u=ds.length)/\Q (.tuple (cutD ds l u))):EvD X α (.Subscript a (.Slice lo hi none p) pos) Q:=λF σ H R m k=>by
 refine⟨_,oj zl4 zh kM kM,?_⟩;refine h F σ H _ m λx w H1 j t1 i n=>?_;have m1:=m.kz i t1;refine j F σ H1 _ m1 λl r s t f=>?_;have m2:=m1.kz f t;refine s F σ r _ m2 λu y v t3 d=>?_;have m3:=m2.kz d t3;obtain⟨ds,rfl,hn,q⟩:=v;obtain⟨ad,xs,rfl,g1,g2⟩:=(n.same ((f.gz m1.tp).trans (d.gz m2.tp))).tup_inv;refine⟨ad,xs,rfl,SqT.of (zi g1).2,by rw[g2.length];exact hn,λp c=>?_⟩;refine k _ _ _ q (t3.same (zL c)) (((i.trans f).trans d).trans (Kz.of_same (zL c))) (.tup (xs:=tS xs l u) (zG (m3.fresh c) zl) ((g2.cut l u).same (zr λa o ha e=>⟨ha,by rw[zg (zm e c)];exact e⟩)))
def rX :PyData->Bool
 |.none=>true
 |.bool _=>true
 |.int _=>true
 |.str _=>true
 |_=>false
theorem lQ {H:Hp}{v:V}{d:PyData}(h:AV H v d)(f:rX d=true):vp v=true/\scV d=some v:=by
 cases h<;>first|exact⟨rfl,rfl⟩|cases f
theorem gn {H:Hp}{xs:List V}{ds:List PyData}(h:AVs H xs ds)(f:ds.all rX=true):xs.all vp=true/\ds.map scV=xs.map some:=by
 induction h using AVs.ind with
 |nil=>exact⟨rfl,rfl⟩
 |cons h _ e=>
  rw[z50,zN1]at f;obtain⟨j,d⟩:=lQ h f.1;obtain⟨c,i⟩:=e f.2;exact⟨by rw[z50,j,c];rfl,by rw[zN7,zN7,d,i]⟩
def inD (x:PyData)(ds:List PyData):Bool:=ds.any λy=>match scV y,scV x with
 |some u,some v=>eqV u v
 |_,_=>false
theorem kJ {v:V}{x:PyData}(f:scV x=some v):∀{xs:List V}{ds:List PyData},ds.map scV=xs.map some->inV v xs=inD x ds
 |[],[],_=>rfl
 |[],_::_,e=>by cases e
 |_::_,[],e=>by cases e
 |u::xs,d::ds,e=>by
  rw[zN7,zN7]at e;injection e with e1 h;have c:=kJ f h;unfold inV inD at c ⊢;rw[z26,z26,c,e1,f]
theorem kx {neg:Bool}{x:PyData}{ds:List PyData}(d:rX x=true)(fs:ds.all rX=true):Cmp (rIn X.K neg) x (.tuple ds) (if neg then !inD x ds else inD x ds):=λp H f i R c e h=>by
 obtain⟨ad,xs,rfl,g1,g2⟩:=e.tup_inv;obtain⟨f1,s1⟩:=lQ c d;obtain⟨f2,s2⟩:=gn g2 fs;refine⟨ad,xs,rfl,.inr (SqT.of (zi g1).2),f1,f2,?_⟩;rw[kJ s1 s2];exact h
end
section
variable {X:Cx}{α:Ev}{p pos:Pos}{a b:Expr}{Q:PyData->Prop}
end
section
variable {X:Cx}{α:Ev}{a e:Expr}{pos p2 p3 p4:Pos}{n1:Nat}{te:TE}
end
def gr (T:Addr)(H:Hp):Prop:=∀b:Addr,H b=none\/b=T\/∃o xs,H b=some (.frz o (.lst xs))
theorem ic {P:Program}{w:World}{K:PySem.W.Frag}{mg mb:Str->Option Value}{CX:CXT}{k:Nat}{R a T:Addr}{fd:FuncData}{x:Str}{sp:Sp}{c:Shared}{vs:List Value}{ns:List Int}{ps:Array Value}
  (KX:K.In c.heap) (t:c.heap.Ns mainGlobals mg) (hb:c.heap.Ns builtinsNs mb) (X:∀x:Str,x≠"__name__"->mb x=bootBuiltins x) (B:c.heap.NoLimit) (hg:c.gens=#[])
  (ha:c.heap.get? a=some {cls:=.type "list",data:=.seq vs.toArray}) (hi:IntsAre vs ns) (hl:ns.length<=sizeLine) (hr:zK k callerA)
  (A:c.heap.get? T=some (PySem.W.tabObj ps)) (O:K.lookup T=none) (Q:isCodeTable c.heap T)
  (M:∃bm ob,mg "__builtins__"=some (.ref bm)/\bm≠builtinsNs/\c.heap.get? bm=some ob/\ob.cls=.type "module"/\ob.dict=some builtinsNs/\ob.data=.plain)
  (F:∀base:Heap,K.In base->base.Ns mainGlobals mg->base.BuiltinsAt mg T->yD P w K mg base CX k R fd [x] sp) (y:∀(s:Shared) (u:Value),BindsTo s fd ⟨[u],[]⟩ [(x,u)])
  (N:∀H:Hp,gr T H->H T=some (.tbl ps)->SqL K H a (ns.map V.int)->sp [.ref a] H (λv _=>v=.bl true) λ_ _ _=>False)
  (U:∀H e s',CX [] H c (λ_ _ _=>False) e s'->False):
  codeAny (model P w) callerA (.call (.ref R) ⟨[.ref a],[]⟩) (λr s'=>r=.ok (.ret (.bool true))/\OldK c.heap s'.heap/\s'.os=c.os/\AllBare s'.gens) c:=by
 have rv:=iL hi;have E:=hi.length;have C:a≠T:=λz=>by rw[z,A]at ha;cases ha
 have core:∀H:Hp,gr T H->H T=some (.tbl ps)->SqL K H a (ns.map V.int)->HOk P w H c.heap->(∀b,H b≠none->b=a\/b=T)->(H a≠none->K.lookup a=none)->
   codeAny (model P w) callerA (.call (.ref R) ⟨[.ref a],[]⟩) (λr s'=>r=.ok (.ret (.bool true))/\OldK c.heap s'.heap/\s'.os=c.os/\AllBare s'.gens) c:=by
  intro H hO G hS hok S hK;have f:∀{b:Addr} {o:Obj},c.heap.get? b=some o->H b=none->(rB c.heap H).get? b=some o:=λe n=>gJ e n;have L:∀{b:Addr} {o:Obj} {es:Array DictEntry} {ep:Nat},c.heap.get? b=some o->o.data=.dict es ep->H b=none:=λ{b o es ep} e d=>by
   cases q:H b with
   |none=>rfl
   |some u=>
    rcases S b (by rw[q];simp)with g|g
    ·subst g;rw[ha]at e;cases e;have d':Data.seq vs.toArray _=Data.dict es ep:=d;cases d'
    ·subst g;rw[A]at e;cases e;have d':Data.fields ps=Data.dict es ep:=d;cases d'
  have j:∀{b:Addr} {m:Str->Option Value},c.heap.Ns b m->(rB c.heap H).Ns b m:=λ{b m} J=>by obtain⟨o,es,ep,e,d,r⟩:=J;exact⟨o,es,ep,f e (L e d),d,r⟩
  have D:K.In (rB c.heap H):=λb o e=>f (KX b o e) (by
   cases q:H b with
   |none=>rfl
   |some u=>
    rcases S b (by rw[q];simp)with g|g
    ·subst g;rw[hK (by rw[q];simp)]at e;cases e
    ·subst g;rw[O]at e;cases e)
  have hM:Mod K mg (rB c.heap H):=⟨D,j t,⟨mb,j hb,X⟩,let⟨mc,h1,h2⟩:=B;⟨mc,j h1,h2⟩⟩;have Y:(rB c.heap H).BuiltinsAt mg T:=by
   obtain⟨bm,ob,b1,b2,p,b4,b5,I⟩:=M;have n1:bm≠T:=λz=>by rw[z,A]at p;cases p;cases b4
   have n2:bm≠a:=λz=>by rw[z,ha]at p;cases p;cases I
   have n3:bm≠mainGlobals:=λz=>by
    obtain⟨o,es,ep,e,d,_⟩:=t;rw[z,e]at p;cases p;rw[d]at I;cases I
   exact⟨bm,ob,b1,b2,n3,n1,f p (by
    cases q:H bm with
    |none=>rfl
    |some u=>
          rcases S bm (by rw[q];simp)with g|g
          ·exact absurd g n2
          ·exact absurd g n1),b4,b5,I⟩
  have e0:uq P w K mg (rB c.heap H) callerA [] c H:=⟨rfl,hM,λb o e=>bV e,zL0 (iX _ _),trivial,λb hb=>absurd (show b∈([]:List Addr)from hb) (by simp),hok,.of_eq hg⟩;refine zX8 ((F _ D (j t) Y).run callerA [] c H ⟨[.ref a],[]⟩ [.ref a] [.ref a] _ _ hr e0 (y c (.ref a)) (.cons rfl .nil) (N H hO G hS)) λr s' h=>?_;cases r with
  |error e=>exact(U H e s' h).elim
  |ok fl=>
   cases fl with
   |next=>exact False.elim h
   |brk=>exact False.elim h
   |cont=>exact False.elim h
   |ret u=>
    obtain⟨v,H',os,bare,un,l,r',q⟩:=h;have q':v=.bl true:=q;subst q';obtain rfl:u=Value.bool true:=r';have old:∀b o,c.heap.get? b=some o->asItWas c.heap s'.heap b o:=λb o e=>by
     cases q:H b with
     |none=>exact .inl (un.keep b o e q (by intro z;exact absurd (show b∈([]:List Addr)from z) (by simp)) (by simp))
     |some u=>
      rcases hO b with z|z|⟨ob,xs,z⟩
      ·rw[q]at z;cases z
      ·subst z;obtain⟨more,hm⟩:=un.tbls _ _ G;have Z:s'.heap.get? b=some {cls:=.none,data:=.fields (ps++more)}:=l _ _ hm;rw[A]at e;cases e;exact .inr (.inl ⟨Q,rfl,ps,more,rfl,Z⟩)
      ·have z2:=un.frzs b ob _ z;obtain⟨e1,_⟩:=hok b _ z;obtain⟨Z,_⟩:=l b _ z2;rw[e]at e1;cases e1;exact .inl Z
    refine⟨rfl,⟨old,λb o e=>?_⟩,os,bare⟩;rcases old b o e with z|⟨_,_,_,_,_,z⟩|⟨_,_,⟨o',_,_,z,_⟩,_⟩
    ·exact⟨_,z⟩
    ·exact⟨_,z⟩
    ·exact⟨_,z⟩
 cases hk:K.lookup a with
 |some o=>
  have e:=KX a o hk;rw[ha]at e;cases e;refine core (λb=>if b=T then some (.tbl ps)else none) (λb=>?_) (if_pos rfl) (.inr ⟨_,vs.toArray,_,hk,rfl,rfl,rfl,by rw[zK4,E];exact hl,by simpa using rv⟩) (λb u z=>?_) (λb z=>?_) λz=>absurd (if_neg C) z
  ·by_cases h:b=T
   ·exact .inr (.inl h)
   ·exact .inl (if_neg h)
  ·by_cases h:b=T
   ·have i:=(if_pos h).symm.trans z;cases i;subst h;exact A
   ·have i:=(if_neg h).symm.trans z;cases i
  ·by_cases h:b=T
   ·exact .inr h
   ·exact absurd (if_neg h) z
 |none=>
  refine core (λb=>if b=T then some (.tbl ps)else if b=a then some (.frz {cls:=.type "list",data:=.seq vs.toArray} (.lst (ns.map V.int)))else none) (λb=>?_) (if_pos rfl) (.inl (.inr ⟨{cls:=.type "list",data:=.seq vs.toArray},(if_neg C).trans (if_pos rfl)⟩)) (λb u z=>?_) (λb z=>?_) λ_=>hk
  ·by_cases h:b=T
   ·exact .inr (.inl h)
   ·by_cases hb:b=a
    ·exact .inr (.inr ⟨_,_,(if_neg h).trans (if_pos hb)⟩)
    ·exact .inl ((if_neg h).trans (if_neg hb))
  ·by_cases h:b=T
   ·have i:=(if_pos h).symm.trans z;cases i;subst h;exact A
   ·have z:=(if_neg h).symm.trans z;by_cases hb:b=a
    ·have i:=(if_pos hb).symm.trans z;cases i;subst hb;exact⟨ha,by rw[zJ3];exact hl,vs,_,rv,ha⟩
    ·have i:=(if_neg hb).symm.trans z;cases i
  ·by_cases h:b=T
   ·exact .inr h
   ·by_cases hb:b=a
    ·exact .inl hb
    ·exact absurd ((if_neg h).trans (if_neg hb)) z
theorem dn {l:PySem.W.OpenLaw}{n k:Nat}{q:Program}{loose:List Str}{P:(Str->Option Value)->Heap->Prop}{r:World->Heap->Prop}{d:DefRec}{K:Params->PySem.W.Frag}{CX:World->CXT}{sp:World->Sp}{x:Str}{T c:Addr}{ps:Array Value}
  (hn:l.most=some n) (z:n<=sizeLine) (hdf:d.params.defaults=[]) (hr:zK k callerA)
  (J:∀(w:World) (h:Heap),r w h->(K w.params).In h) (B:∀(w:World) (h:Heap),r w h->h.get? T=some (PySem.W.tabObj ps))
  (C:∀w:World,(K w.params).lookup T=none) (i:∀w:World,∃o vs,(K w.params).lookup c=some o/\o.cls=.type "code"/\o.data=.fields vs/\vs[11]?=some (.ref T))
  (F:∀(w:World) (mg:Str->Option Value) (p:Addr) (h:Heap),(K w.params).In h->h.Ns mainGlobals mg->mg d.name=some (.ref p)->
   ∃fd:FuncData,(∀(s:Shared) (u:Value),BindsTo s fd ⟨[u],[]⟩ [(x,u)])/\
    ∀base:Heap,(K w.params).In base->base.Ns mainGlobals mg->base.BuiltinsAt mg T->yD l.prog w (K w.params) mg base (CX w) k p fd [x] (sp w))
  (D:∀(w:World) (H:Hp) (a:Addr) (ns:List Int),ns.length<=n->gr T H->H T=some (.tbl ps)->SqL (K w.params) H a (ns.map V.int)->sp w [.ref a] H (λv _=>v=.bl true) λ_ _ _=>False)
  (t:∀(w:World) (H:Hp) (s:Shared) (e:Value) (s':Shared),CX w [] H s (λ_ _ _=>False) e s'->False):
  PySem.W.WalkO q loose P r l.row.toRowW d [] (λf vs=>PySem.call f vs):=by
 refine Att.attach_call hn hdf λw s₀ j mg mb p o pm cd doc a vs ns G Y R hd O y m hints hlen hg=>?_;have A:=J w _ Y;obtain⟨oc,cv,N,t3,Q,E⟩:=i w;obtain⟨fd,hb,hF⟩:=F w mg p _ A G.T.g y;exact ic A G.T.g G.T.b G.T.builtins G.T.nolimit hg m hints (zK0 hlen z) hr (B w _ Y) (C w) ⟨c,oc,cv,A _ _ N,t3,Q,E⟩ G.T.bmain hF hb (λH M L I=>D w H a ns hlen M L I) λH e s'=>t w H j e s'
theorem TabAt.same {H H':Hp}(T:TabAt H)(h:∀a o,(∀xs,o≠.lst xs)->H a=some o->H' a=some o):TabAt H':=sH T h
section
variable {X:Cx}{pins:List (Addr×Obj)}{σ:St}{H:Hp}{s:Shared}{h':Heap}
theorem Inv.tblMore {t':Nat}{p:Addr}{ps more:Array Value}{H':Hp}(I:Inv X pins σ H s)(h:H p=some (.tbl ps))(k:∀b u,b≠p->s.heap.get? b=some u->h'.get? b=some u)(e:h'.get? p=some (PySem.W.tabObj (ps++more)))
  (g:H' p=some (.tbl (ps++more))) (d:∀b,b≠p->b<s.heap.objs.size->H' b=H b) (new:∀b o,s.heap.objs.size<=b->H' b=some o->zP X.prog X.w H' h' b o):
  Inv X pins σ H' {s with heap:=h',toks:=t'}:=by
 have ne:∀b,H b=none->b≠p:=λb n z=>by rw[z,h]at n;cases n
 have nt:∀b o,H b=some o->(∀a,o≠.tbl a)->b≠p:=λb o q n z=>by rw[z,h]at q;cases q;exact n _ rfl
 have lt:∀b o,H b=some o->b<s.heap.objs.size:=λb o q=>by
  rcases zO5 b s.heap.objs.size with z|z
  ·exact z
  ·rw[I.hok.fresh z]at q;cases q
 have st:∀b o,H b=some o->(∀a,o≠.tbl a)->H' b=some o:=λb o q n=>by rw[d b (nt b o q n) (lt b o q)];exact q
 refine I.un ⟨λb o q n _ _=>k b o (ne b n) q,λb o q n _ _=>⟨o.slots,k b o (ne b n) q⟩,λb o q n _=>by rw[d b (ne b n) (zK3 q)];exact n,λb o q _=>?_,λb xs q=>st b _ q (λ_ z=>by cases z),λb o u q=>st b _ q (λ_ z=>by cases z),λb a q=>?_⟩ λb u q=>?_
 ·by_cases z:b=p
  ·exact⟨_,by rw[z];exact e⟩
  ·exact⟨o,k b o z q⟩
 ·by_cases z:b=p
  ·subst z;rw[h]at q;cases q;exact⟨more,g⟩
  ·exact⟨#[],by rw[d b z (lt b _ q),q];simp⟩
 ·by_cases z:b=p
  ·subst z;rw[g]at q;cases q;exact e
  ·rcases zO5 b s.heap.objs.size with l|l
   ·rw[d b z l]at q;refine(I.hok b u q).stay (λc v f r=>k c v (λw=>?_) r) (λc r=>st c _ r λ_ z=>by cases z) λc xs r=>st c _ r λ_ z=>by cases z
    subst w;rcases f with rfl|f
    ·exact z rfl
    ·rw[h]at f;cases f
   ·exact new b u l q
def mF (f c:Addr)(qual:Str)(params:Arguments)(body:Expr)(scope:Scope)(a:List (Str×Addr)):HO:=
 .ext λh=>∃(pm ctv:Value),h.get? f=some (PySem.W.kla_obj "<lambda>" qual params body scope a pm c ctv)
theorem zc0 {P:Program}{w:World}{H:Hp}{h:Heap}{c:Addr}(r:h.CodeRec (.ref c) xk):zP P w H h c (uL c):=by
 refine⟨r,?_,λe d p k=>?_⟩
 ·obtain⟨c',o,vs,t,e1,a,_⟩:=r;cases e1;exact⟨o,a⟩
 ·obtain⟨c',o,vs,t,e1,a,b⟩:=p;cases e1;exact⟨c,o,vs,t,rfl,k _ a,b⟩
theorem fi {P:Program}{w:World}{H:Hp}{h:Heap}{f c:Addr}{qual:Str}{params:Arguments}{body:Expr}{scope:Scope}{a:List (Str×Addr)}{pm ctv:Value}(r:h.get? f=some (PySem.W.kla_obj "<lambda>" qual params body scope a pm c ctv)):zP P w H h f (mF f c qual params body scope a):=
 ⟨⟨pm,ctv,r⟩,⟨_,r⟩,λi g d k=>by obtain⟨e,b,p⟩:=d;exact⟨e,b,k _ p⟩⟩
theorem mx {pos:Pos}{a b:Int}{c cv:Value}(l:List Value):TriplesOk l->codeAmong pos (l++[rawInt a,rawInt b,c])=some cv->codeAmong pos l=some cv\/cv=c:=by
 induction l using TriplesOk.induct with
 |case1=>
  intro _ h;rw[zZ8,rawInt,rawInt,codeAmong.eq_1]at h;split at h
  ·cases h;exact .inr rfl
  ·rw[codeAmong.eq_2 _ _ (by intro _ _ _ _ _ _ z;cases z)]at h;cases h
 |case2 i t j u d rest g=>
  intro ok h;rw[TriplesOk.eq_2]at ok;rw[zY5,zY5,zY5,codeAmong.eq_1]at h;rw[codeAmong.eq_1];split at h
  ·rename_i z;rw[if_pos z];exact .inl h
  ·rename_i z;rw[if_neg z];exact g ok h
 |case3 t f e=>
  intro ok;rw[TriplesOk.eq_3 t f e]at ok;exact ok.elim
theorem eO {params:Arguments}{body:Expr}{scope:Scope}{i:Pos}{g:List (Str×Addr)}{c:Addr}(I:Inv X pins σ H s)(hcl:closureFor scope X.env=pure g)(hgl:X.env.globals=mainGlobals)(hco:X.env.code=.ref c)(hhd:PySem.W.CodeHd X.base c yc)
  (hbi:X.base.BuiltinsAt X.mg yc) (hdf:defaultsOf params X.env=([],[])) (hq:X.env.qual++("<lambda>":Str)=xk) (hne:mainGlobals≠yc) (T:TabAt H) {Q:Value->Shared->Prop}
  (h:∀(f c':Addr) (H':Hp) (s':Shared),Inv X pins σ H' s'->TabAt H'->(∀a o,a≠yc->H a=some o->H' a=some o)->(∀a ps,H a=some (.tbl ps)->∃v,H' a=some (.tbl v))->H f=none->H' f=some (mF f c' xk params body scope g)->H' c'=some (uL c')->Q (.ref f) s'):
  wpAny (model X.prog X.w) X.A (eval (.Lambda params body scope i) X.env) Q X.xe s:=by
 refine PySem.W.kla_eval hdf ?_;rw[hq];obtain⟨ps,t1,C,t3⟩:=T.ex;have E:s.heap.get? yc=some (PySem.W.tabObj ps):=I.hok _ _ t1;have hb:∀b o,X.base.get? b=some o->s.heap.get? b=some o:=λb o e=>(I.bs b o e).1;have n:PySem.W.CodeHd s.heap c yc:=by
  obtain⟨o,vs,f1,f2,Y,f4,Z,R,S,e1,j⟩:=hhd;exact⟨o,vs,f1,f2,Y,f4,Z,R,S,hb _ _ e1,j⟩
 have m:s.heap.BuiltinsAt X.mg yc:=by
  obtain⟨bm,o,e1,j,G,e4,e5,e6⟩:=hbi;exact⟨bm,o,e1,j,G,e4,hb _ _ e5,e6⟩
 have B:s.heap.Ns mainGlobals X.mg:=by
  obtain⟨o,es,ep,e,d,r⟩:=I.ok.mod.glob;exact⟨o,es,ep,hb _ _ e,d,r⟩
 cases hc:codeAmong i ps.toList with
 |none=>
  refine PySem.W.kla_makeFunction hcl hgl B hco n E C hc hne m λc' ctv h' tk ex l1 l2 cr ht=>?_;have a0:c'<(h'.push (PySem.W.kla_obj "<lambda>" xk params body scope g ((X.mg "__name__").getD Value.none) c' ctv)).objs.size:=by rw[size_push'];exact zJ4 l2 (zL2 _ _)
  have n1:(c':Addr)≠h'.objs.size:=zK9 l2;have q:yc<s.heap.objs.size:=zK3 E;have n2:(c':Addr)≠yc:=zT9 (zJ4 q l1);have lf:s.heap.objs.size<=h'.objs.size:=zN5 (zL4 l1 l2);have U:(h'.objs.size:Addr)≠yc:=zT9 (zJ4 q lf)
  let p:Hp:=upd (upd (upd H h'.objs.size (mF h'.objs.size c' xk params body scope g)) c' (uL c')) yc (.tbl (ps++#[rawInt ↑i.line,rawInt ↑i.col,Value.ref c']))
  have F:p yc=some (.tbl (ps++#[rawInt ↑i.line,rawInt ↑i.col,Value.ref c'])):=zl;have eC:p c'=some (uL c'):=by show upd _ _ _ _=_;rw[zg n2,zl]
  have O:p h'.objs.size=some (mF h'.objs.size c' xk params body scope g):=by show upd _ _ _ _=_;rw[zg U,zg n1.symm,zl]
  have old:∀b,b≠yc->b<s.heap.objs.size->p b=H b:=λb nb y=>by
   show upd _ _ _ _=_;rw[zg nb,zg (zK9 (zJ4 y l1)),zg (zK9 (zJ4 y lf))]
  have D:Inv X pins σ p {s with heap:=h'.push (PySem.W.kla_obj "<lambda>" xk params body scope g ((X.mg "__name__").getD Value.none) c' ctv),toks:=tk}:=by
   refine I.tblMore (more:=#[rawInt ↑i.line,rawInt ↑i.col,Value.ref c']) t1 (λb u nb e=>zJ0 _ (ex b u nb e)) (zJ0 _ ht) F old λb o y e=>?_;by_cases N:b=h'.objs.size
   ·subst N;rw[O]at e;cases e;exact fi (zK2 _ rfl)
   ·by_cases L:b=c'
    ·subst L;rw[eC]at e;cases e;obtain⟨M,o,vs,t,e1,j,G⟩:=cr;cases e1;exact zc0 ⟨_,o,vs,t,rfl,zJ0 _ j,G⟩
    ·have nb:b≠yc:=λz=>absurd y (Nat.not_le_of_lt (z▸q));have P:p b=H b:=by show upd _ _ _ _=_;rw[zg nb,zg L,zg N]
     rw[P,I.hok.fresh y]at e;cases e
  have stay:∀a o,a≠yc->H a=some o->p a=some o:=λa o no e=>by
   have la:a<s.heap.objs.size:=by
    rcases zO5 a s.heap.objs.size with z|z
    ·exact z
    ·rw[I.hok.fresh z]at e;cases e
   rw[old a no la];exact e
  refine h _ c' p _ D ⟨_,F,?_,λpos cv x=>?_⟩ stay (λa v e=>?_) (I.hok.fresh lf) O eC
  ·rw[zM5];exact TriplesOk_snoc _ _ _ _ C
  ·rw[zM5]at x;rcases mx _ C x with z|z
   ·obtain⟨M,rfl,j⟩:=t3 _ _ z;exact⟨M,rfl,stay _ _ (λz=>by rw[z,t1]at j;cases j) j⟩
   ·exact⟨c',z,eC⟩
  ·by_cases J:a=yc
   ·exact⟨_,by rw[J];exact F⟩
   ·refine⟨v,?_⟩;rw[old a J (by
     rcases zO5 a s.heap.objs.size with z|z
     ·exact z
     ·rw[I.hok.fresh z]at e;cases e)]
    exact e
 |some cv=>
  obtain⟨c',rfl,K⟩:=t3 _ _ hc;refine PySem.W.kla_makeFunctionHit hcl hgl B hco n E C hc m λctv h' tk k l=>?_;have hf:H h'.objs.size=none:=I.hok.fresh l;have V:∀b u,s.heap.get? b=some u->(h'.push (PySem.W.kla_obj "<lambda>" xk params body scope g ((X.mg "__name__").getD Value.none) c' ctv)).get? b=some u:=λb u e=>zJ0 _ (k b u e);have D:=I.laid (t':=tk) (o:=mF h'.objs.size c' xk params body scope g) V l (fi (zK2 _ rfl));have n1:∀a o,H a=some o->a≠h'.objs.size:=λa o e z=>by rw[z,hf]at e;cases e
  refine h _ c' _ _ D (T.same λa o _ e=>by rw[zg (n1 a o e)];exact e) (λa o _ e=>by rw[zg (n1 a o e)];exact e) (λa v e=>⟨v,by rw[zg (n1 a _ e)];exact e⟩) hf zl ?_;rw[zg (n1 _ _ K)];exact K
end
structure xJ (x y:Str)(params:Arguments)(scope:Scope):Prop where
 kind:scope.kind=.function
 co:scope.isCoroutine=false
 gen:scope.isGenerator=false
 px:scope.names.lookup x=some .local
 py:scope.names.lookup y=some .free
 nocell:∀z∈scope.names,z.2≠NameKind.cell
 only:∀z∈scope.names,z.2=NameKind.free->z.1=y
 ne:x≠y
def nB (P:Program)(w:World)(K:PySem.W.Frag)(mg:Str->Option Value)(base:Heap)(x y:Str)(scope:Scope)(f c cl:Addr)(A:Around)(outer:List Env)(s:Shared)(H:Hp):Cx where
 prog:=P
 w:=w
 K:=K
 mg:=mg
 base:=base
 A:=A.deeper (PySem.W.envX xk scope s.heap.objs.size f (.ref c) [(y,cl)])
 N:=[x,y]
 s₀:=s
 H₀:=H
 env:=PySem.W.envX xk scope s.heap.objs.size f (.ref c) [(y,cl)]
 outer:=outer
 stack:=PySem.W.envX xk scope s.heap.objs.size f (.ref c) [(y,cl)]::outer
 ex:=[]
 calm:=true
 fn:=λ_=>false
 pn:=[]
 xe:=λ_ _=>False
theorem iW {P:Program}{w:World}{K:PySem.W.Frag}{mg:Str->Option Value}{base:Heap}{x y:Str}{params:Arguments}{scope:Scope}{f c cl:Addr}{A:Around}{outer:List Env}{s:Shared}{H:Hp}{h':Heap}{tk:Nat}{v l:V}{u ul:Value}
  (S:xJ x y params scope) (hd:A.handled=none) (m:uq P w K mg base A outer s H) (t:RelV v u) (D:RelV l ul) (hcl:s.heap.IsCell cl (some ul)) (r:H cl=none)
  (ns:h'.Ns s.heap.objs.size λz=>[(x,u)].reverse.lookup z) (k:∀b o,s.heap.get? b=some o->h'.get? b=some o):
  Inv (nB P w K mg base x y scope f c cl A outer s H) [] [some v,some l] H {s with heap:=h',toks:=tk}:=by
 have q:∀b:Addr,b∉(nB P w K mg base x y scope f c cl A outer s H).ex:=λb z=>absurd (show b∈([]:List Addr)from z) (by simp);have one:∀z d,(nB P w K mg base x y scope f c cl A outer s H).env.cells.lookup z=some d->z=y/\d=cl:=λz d h=>by
  have h:List.lookup z [(y,cl)]=some d:=h;rw[zP3]at h;split at h
  ·rename_i e;cases h;exact⟨eq_of_beq e,rfl⟩
  ·cases h
 have hit:(nB P w K mg base x y scope f c cl A outer s H).env.cells.lookup y=some cl:=by
  show List.lookup y [(y,cl)]=some cl;simp[zP3]
 have j:h'.IsCell cl (some ul):=by
  obtain⟨o,e1,C⟩:=hcl;exact⟨o,k _ _ e1,C⟩
 refine⟨⟨m.mod,S.kind,rfl,rfl,zJ5 _,λa b d g n=>(one a d g).1.trans (one b d n).1.symm,λz hz=>?_,λz d hf _=>?_,λ_=>hd,Around.frames_deeper m.frames,.inr ⟨rfl,rfl⟩,λb z=>absurd z (q b),m.bs,m.bsz,λb _ _=>q b,λb z=>absurd z (q b),m.funs,m.frf⟩,
  rfl,m.bare,Un.kept k,⟨_,ns,λi z E g n F=>?_⟩,λz d h=>?_,m.hok.fresh (zJ5 _),λz d h=>?_,λp B=>absurd (show p∈([]:List (Addr×Obj))from B) (by simp),m.hok.kept k,rfl⟩
 ·have hz:scope.names.lookup z=some .cell\/scope.names.lookup z=some .free:=hz;rcases hz with hz|hz
  ·exact absurd rfl (S.nocell _ (zQ0 hz))
  ·have:z=y:=S.only _ (zQ0 hz) rfl;subst this;exact⟨cl,hit⟩
 ·exact absurd (show false=true from hf) zL5
 ·have g:([x,y]:List Str)[i]?=some z:=g
  match i,g,n with
  |0,g,n=>
   cases g;cases n;exact⟨u,t,.inl ⟨S.px,by simp[zP3]⟩⟩
  |1,g,n=>
   cases g;cases n;exact⟨ul,D,.inr ⟨.inr S.py,cl,hit,j⟩⟩
  |i+2,g,n=>simp at g
 ·obtain⟨rfl,rfl⟩:=one z d h;exact⟨_,j⟩
 ·obtain⟨rfl,rfl⟩:=one z d h;exact r
theorem aq {P:Program}{w:World}{K:PySem.W.Frag}{mg:Str->Option Value}{base:Heap}{x y:Str}{params:Arguments}{body:Expr}{scope:Scope}{f c cl:Addr}{A:Around}{outer:List Env}{s:Shared}{H:Hp}{v l:V}{u ul:Value}{k:Nat}{Q:VK}{t:TE}
  (S:xJ x y params scope) (hr:zK k A) (a:uq P w K mg base A outer s H) (hf:H f=some (mF f c xk params body scope [(y,cl)])) (m:H c=some (uL c)) (hcl:s.heap.IsCell cl (some ul)) (d:H cl=none) (j:RelV v u) (B:RelV l ul)
  (hb:∀pm ctv,bindArgs (PySem.W.kla_fn "<lambda>" xk params body scope [(y,cl)] pm (.ref c) ctv) ⟨[u],[]⟩=pure [(x,u)])
  (r:PE (nB P w K mg base x y scope f c cl A outer s H) body t) (hq:t [some v,some l] H Q):
  codeAny (model P w) A (.call (.ref f) ⟨[u],[]⟩) (CR CX0 outer P w H s Q E0) s:=by
 obtain⟨⟨pm,ctv,n⟩,_,_⟩:=a.hok _ _ hf;have cr:s.heap.CodeRec (.ref c) xk:=(a.hok _ _ m).1;have lim:s.heap.NoLimit:=a.mod.nolimit.keeps λb o e=>(a.bs b o e).1;refine PySem.W.kla_callFunE hr.depth n rfl S.co S.gen rfl cr ?_;rw[hb];refine zJ1 ?_;refine wpAny_newFunctionEnv S.nocell (λz hz=>?_) (λh' ns sb=>?_) S.kind
 ·rw[zL9.mp hz];exact S.px
 ·have h:∀b o,s.heap.get? b=some o->h'.get? b=some o:=λb o e=>sb.extBut b o (zK9 (zK3 e)) (zJ0 _ e);refine⟨lim.keeps h,PySem.W.kla_codeExpr ?_⟩;have I:=iW (tk:=s.toks+[(x,u)].length) (f:=f) (c:=c) S hr.hd a j B hcl d ns h;refine zO8 (r [] _ _ H _ I hq) (λC s' g=>?_) λe s' g=>g.elim;obtain⟨i,H',J,p,q⟩:=g;exact⟨i,H',J.os,J.bare,J.base,J.hok,p,q⟩
open PySem.W SortA
section
variable {X:Cx}{pins:List (Addr×Obj)}{σ:St}{H:Hp}{s:Shared}
def cy (X:Cx)(H1 a:Hp)(s1 s2:Shared):Prop:=∀b o,s1.heap.get? b=some o->H1 b=none->b∉frs X.stack->s2.heap.get? b=some o/\a b=none
structure cP (X:Cx)(pins:List (Addr×Obj))(σ:St)(H:Hp)(D kS:Addr)(e1:Nat)(ps:List (Int×Int))(i:Nat)(s':Shared):Prop where
 ex:∃(H':Hp) (ks:List Value) (xs:List V) (e:Nat),Inv X pins σ H' s'/\(∀a o,H a=some o->H' a=some o)/\s'.heap.get? D=some (seqObj "list" #[] e1)/\s'.heap.get? kS=some (seqObj "list" ks.toArray e)/\H' D=none/\H' kS=none/\Vals xs ks/\PrV H' xs (ps.take i)
theorem iD {A:Around}{E:Value->Shared->Prop}{vs:List Value}{ps:List (Int×Int)}{f D kS:Addr}{e1:Nat}{Q:PUnit->Shared->Prop}(hlen:vs.length=ps.length)(Z:vs.length<64)(R:D∉frs X.stack)(W:kS∉frs X.stack)(hne:D≠kS)
  (U:∀H',H' kS=none->yT X pins H' kS)
  (d:∀i v,vs[i]?=some v->∀H1 s1,Inv X pins σ H1 s1->(∀a o,H a=some o->H1 a=some o)->
   wpAny (model X.prog X.w) A (call (.ref f) [v]) (λu s2=>∃t c,u=.ref t/\Inv X pins σ c s2/\(∀a o,H1 a=some o->c a=some o)/\c t=some (.tup [.int (at2 ps i).1,.int (at2 ps i).2])/\cy X H1 c s1 s2) (λ_ _=>False) s1)
  (h0:cP X pins σ H D kS e1 ps 0 s) (O:∀s',cP X pins σ H D kS e1 ps vs.length s'->Q PUnit.unit s'):
  wpAny (model X.prog X.w) A (forIn vs PUnit.unit λx __s=>do
   let __do_lift <-(call (.ref f) [x]).attempt
   match __do_lift with
    |Except.ok k=>do
     Builtin.List.listUpdate (.ref kS) λx=>x.push k
     pure (ForInStep.yield PUnit.unit)
    |Except.error e=>do
     rule "list.sort.key-raised"
     let made <-Builtin.List.listItems (.ref kS)
     Builtin.List.listUpdate (.ref kS) λx=>#[]
     letGo made.toList.reverse [e]
     Builtin.List.listUpdate (Value.ref D) λx=>vs.toArray
     throw e
     pure (ForInStep.yield PUnit.unit)) Q E s:=by
 refine ksk_fold (cP X pins σ H D kS e1 ps) vs 0 s h0 (λj x s' I y=>?_) (λs' y=>O s' (by simpa using y));obtain⟨H1,ks,xs,e,M,st,P,S,T,r,G,pr⟩:=y.ex;rw[Nat.zero_add]at pr ⊢;have l:j<ps.length:=by rw[<-hlen];exact(zK1.mp I).1
 have g:ks.length=j:=by rw[<-G.length,pr.len,zM3];lia
 refine zI9 (zV1 (zO8 (d j x I H1 s' M st) (λu s2 L=>?_) λ_ _ z=>z.elim));obtain⟨t,c,rfl,Y,n,K,kp⟩:=L;obtain⟨C,F⟩:=kp D _ P T R;obtain⟨m,h⟩:=kp kS _ S r W;refine zI9 (zY9 m rfl (zJ1 ⟨rfl,?_⟩) (by rw[zK4,g,zP6];lia) (by rw[Array.size_push,zK4,g,zP6];lia));obtain⟨B,hk⟩:∃B,(s2.heap.update kS (Obj.mapSeq λx=>x.push (Value.ref t))).get? kS=some (seqObj "list" (ks++[Value.ref t]).toArray B):=by
  have:=zU0 m λx=>x.push (Value.ref t);rw[List.push_toArray]at this;exact⟨_,this⟩
 have J:∀b o,b∉[kS]->s2.heap.get? b=some o->(s2.heap.update kS (Obj.mapSeq λx=>x.push (Value.ref t))).get? b=some o:=λb o nb q=>(zO2 _ _ (zN9 (by simpa using nb))).trans q;refine⟨c,ks++[Value.ref t],xs++[V.ref t],B,Y.turnL (t':=s2.toks) J (λb hb=>by rw[zL9.mp hb];exact U c h),λa o q=>n a o (st a o q),J D _ (by simpa using hne) C,hk,F,h,G.append (.cons rfl .nil),?_⟩;rw[zU7,zJ2 l];refine PrV.app (pr.keep λa p q z=>n _ _ z) ?_;have N:at2 ps j=ps[j]:=by unfold at2;rw[zJ7,zJ2 l];rfl
 rw[N]at K;exact .cons K .nil
theorem mQ {A:Around}{E:Value->Shared->Prop}{vs:List Value}{ps:List (Int×Int)}{f D:Addr}{n:Nat}{T:PySem.Fin->Shared->Prop}(I:Inv X pins σ H s)(N:s.heap.get? D=some (seqObj "list" vs.toArray n))(hlen:vs.length=ps.length)(k:vs.length<64)(fD:H D=none)
  (nD:D∉frs X.stack) (J:∀H',H' D=none->yT X pins H' D)
  (B:∀i v,vs[i]?=some v->∀H1 s1,Inv X pins σ H1 s1->(∀a o,H a=some o->H1 a=some o)->
   wpAny (model X.prog X.w) A (call (.ref f) [v]) (λu s2=>∃t U,u=.ref t/\Inv X pins σ U s2/\(∀a o,H1 a=some o->U a=some o)/\U t=some (.tup [.int (at2 ps i).1,.int (at2 ps i).2])/\cy X H1 U s1 s2) (λ_ _=>False) s1)
  (h:∀out H' s' c,Srt vs ps out->Inv X pins σ H' s'->(∀a o,H a=some o->H' a=some o)->s'.heap.get? D=some (seqObj "list" out.toArray c)->H' D=none->T (.done (.ret .none)) s'):
  wpAny (model X.prog X.w) A (ksk_tree D (.ref f) false) T E s:=by
 have hD:D<s.heap.objs.size:=zK3 N;have s1:=zV2 s.heap D (Obj.mapSeq λ_=>(#[]:Array Value));obtain⟨e1,y⟩:∃e1,(s.heap.update D (Obj.mapSeq λ_=>(#[]:Array Value))).get? D=some (seqObj "list" #[] e1):=⟨_,zU0 N λ_=>#[]⟩;have r:(s.heap.update D (Obj.mapSeq λ_=>(#[]:Array Value))).objs.size=s.heap.objs.size:=z31 _ _ _;unfold ksk_tree;refine zI9 (listItems_at N rfl ?_);refine zI9 (zY9 N rfl ?_ (by rw[zK4,zP6];exact jW k) (zK7 _));generalize a6:s.heap.update D (Obj.mapSeq λ_=>(#[]:Array Value))=h1 at s1 y r;refine zI9 (seqEpoch_at y rfl ?_);refine zI9 (z05 ?_ (by show vs.length<=_;rw[zP6];exact jW k));refine zI9 (wpAny_newList ?_ (zK7 _));refine zO9 ?_;show wpAny (model X.prog X.w) A (ksk_rest D (.ref f) false vs.toArray e1 (.ref (h1.push (seqObj "tuple" vs.toArray 0)).objs.size)) T E {s with heap:=(h1.push (seqObj "tuple" vs.toArray 0)).push (seqObj "list" #[] 0)};have G:(h1.push (seqObj "tuple" vs.toArray 0)).objs.size=s.heap.objs.size+1:=by rw[size_push',r]
 have C:((h1.push (seqObj "tuple" vs.toArray 0)).push (seqObj "list" #[] 0)).get? (h1.push (seqObj "tuple" vs.toArray 0)).objs.size=some (seqObj "list" #[] 0):=zK2 _ rfl;have M:((h1.push (seqObj "tuple" vs.toArray 0)).push (seqObj "list" #[] 0)).get? D=some (seqObj "list" #[] e1):=zJ0 _ (zJ0 _ y);have k1:∀b o,b∉[D]->s.heap.get? b=some o->((h1.push (seqObj "tuple" vs.toArray 0)).push (seqObj "list" #[] 0)).get? b=some o:=λb o hb e=>
  zJ0 _ (zJ0 _ ((s1.2 b (by simpa using hb)).trans e))
 have I0:Inv X pins σ H {s with heap:=(h1.push (seqObj "tuple" vs.toArray 0)).push (seqObj "list" #[] 0),toks:=s.toks}:=I.turnL k1 λb hb=>by rw[zL9.mp hb];exact J H fD
 generalize (h1.push (seqObj "tuple" vs.toArray 0)).push (seqObj "list" #[] 0)=O at C M k1 I0;generalize a5:(h1.push (seqObj "tuple" vs.toArray 0)).objs.size=kS at G C;have K:s.heap.objs.size<=kS:=by rw[G];exact zT8 _
 have fK:∀H',H' kS=none->yT X pins H' kS:=λH' hn=>I.fpOk K hn;have nK:(kS:Addr)∉frs X.stack:=λz=>by
  rcases zJ6.mp (I.stkSub _ z)with q|q
  ·exact(I.fpOk (H':=λ_=>none) K rfl).2.1 q
  ·exact(I.fpOk (H':=λ_=>none) K rfl).2.2.1 q
 have hne:D≠kS:=zK9 (zJ4 hD K);have a0:H kS=none:=I.hok.fresh K;unfold ksk_rest;refine zI9 (zR8 ?_);rw[z48];refine zI9 (iD (s:={s with heap:=O}) hlen k nD nK hne fK B ⟨H,[],[],0,I0,λ_ _ q=>q,M,C,fD,a0,.nil,.nil⟩ λs' hI=>?_);obtain⟨H1,ks,xs,e,I1,st,eD,eK,L,Z,rv,pr⟩:=hI.ex;rw[hlen,zS3]at pr;have j:ks.length=vs.length:=by rw[<-rv.length,pr.len,hlen]
 refine zI9 (listItems_at eK rfl ?_);unfold ksk_end;dsimp only;rw[if_neg (by decide)];have P:Prs s'.heap ks ps:=pr.prs I1 rv;have tail:∀(st':SortSt) (out:List Value),out.length<=64->Srt vs ps out->failedOf st'=none->(arrOf st').map (·.2)=out.toArray->wpAny (model X.prog X.w) A (ksk_tail D false e1 (.ref kS) st') T E s':=by
  intro st' out lo so hf F;unfold ksk_tail;dsimp only;rw[F,hf];refine zI9 (zY9 eK rfl ?_ (by rw[zK4,j,zP6];exact jW k) (zK7 _));have s3:=zV2 s'.heap kS (Obj.mapSeq λ_=>(#[]:Array Value));have m:(s'.heap.update kS (Obj.mapSeq λ_=>(#[]:Array Value))).get? D=some (seqObj "list" #[] e1):=(s3.2 D hne).trans eD;have I3:Inv X pins σ H1 {s' with heap:=s'.heap.update kS (Obj.mapSeq λ_=>(#[]:Array Value)),toks:=s'.toks}:=I1.turnL (ch:=[kS]) (λb o hb q=>(s3.2 b (by simpa using hb)).trans q) λb hb=>by rw[zL9.mp hb];exact fK H1 Z
  generalize s'.heap.update kS (Obj.mapSeq λ_=>(#[]:Array Value))=h3 at m I3;refine zI9 (wpAny_letGo ?_);refine zI9 (seqEpoch_at m rfl ?_);rw[if_neg (by decide)];refine zI9 (zY9 m rfl ?_ (zK7 _) (by rw[zK4,zP6];lia));have s4:=zV2 h3 D (Obj.mapSeq λ_=>out.toArray);obtain⟨Y,W⟩:∃Y,(h3.update D (Obj.mapSeq λ_=>out.toArray)).get? D=some (seqObj "list" out.toArray Y):=⟨_,zU0 m λ_=>out.toArray⟩;simp only[bne_self_eq_false,zT5,zY3];have I4:=I3.turnL (ch:=[D]) (t':=s'.toks) (h':=h3.update D (Obj.mapSeq λ_=>out.toArray)) (λb o hb q=>(s4.2 b (by simpa using hb)).trans q) λb hb=>by rw[zL9.mp hb];exact J H1 L
  exact zJ1 (h out H1 _ Y so I4 st W L)
 by_cases g:vs.toArray.size<2
 ·rw[if_pos g,if_pos g];have S:vs.length<2:=by simpa using g
  refine zI9 (zJ1 ?_);refine zI9 (zJ1 ?_);dsimp only;have so:Srt vs ps vs:=by
   match vs,ps,S,hlen with
   |[],[],_,_=>exact⟨[],rfl,rfl,λ_ h=>by simp at h,.refl _,.nil⟩
   |[v],[p],_,_=>exact⟨[0],rfl,rfl,λi h=>by simp at h;subst h;simp,.refl _,by simp⟩
   |_::_::_,_,S,_=>simp only[zL8]at S;exact(zA5 S).elim
  refine tail _ vs (by lia) so rfl ?_;rw[if_neg (by decide)];show(ks.toArray.zip vs.toArray).map (·.2)=vs.toArray;apply Array.toList_inj.mp;rw[Array.toList_map,Array.toList_zip];exact List.map_snd_zip (zL0 j.symm)
 ·rw[if_neg g,if_neg g,if_neg (by decide)];have O:2<=vs.length:=by simp at g;exact g
  have ask:=mV (prog:=X.prog) (w:=X.w) (A:=A) (s:=s') (by rw[j];exact O) P
   (R:=λp l=>Srt vs ps (p.toList.map λi=>vs.getD i Value.none)/\l=s') (λix a b c d=>⟨⟨ix,by simp,a,b,c,d⟩,rfl⟩)
  refine zI9 (zO8 ask (λκ s0 hk=>?_) λ_ _ x=>x.elim);rw[j]at hk;refine zI9 (zO8 (kat_run (Q:=λst' l=>∃p:Array Nat,p.size=vs.length/\arrOf st'=p.map (kas_item (ks.toArray.zip vs.toArray))/\failedOf st'=none/\Srt vs ps (p.toList.map λi=>vs.getD i Value.none)/\l=s')
   j O k (λp' st' l a1 a2 a3 a4=>⟨p',a1,a2,a3,a4⟩) hk) ?_ λ_ _ e=>e)
  rintro⟨⟨⟩,st'⟩ l ⟨p,hp,V,hf,so,rfl⟩;dsimp only;exact tail st' _ (by rw[so.len,<-hlen];exact zN5 k) so hf (kat_snds j V)
end
section
variable {X:Cx}{pins:List (Addr×Obj)}{σ:St}{H:Hp}{s:Shared}
theorem Inv.adopt {D:Addr}{o:HO}(I:Inv X pins σ H s)(fp:yT X pins H D)(new:zP X.prog X.w (upd H D o) s.heap D o):Inv X pins σ (upd H D o) s:=by
 have a:=fp.1;have st:∀b u,H b=some u->upd H D o b=some u:=λb u e=>by rw[zg (zm e a)];exact e
 have:=I.step (g':=s.gens) (t':=s.toks) (d':=s.drawn) (h':=s.heap) (H':=upd H D o) (ch:=[D]) (λb hb=>by rw[zL9.mp hb];exact⟨fp.2.2.2.1,fp.2.1,fp.2.2.2.2.1,fp.2.2.2.2.2⟩) (λb u _ _ _ e _=>e) (λb u _ _ _ e _=>⟨u.slots,e⟩) (λb u hb e n=>by rw[zg (by simpa using hb)];exact n)
  (λb u _ e=>⟨u,e⟩) (λb xs e=>st b _ e) (λb u xs e=>st b _ e) (λb ps e=>⟨#[],by rw[st b _ e];simp⟩) (λm hm=>hm) (λb u e=>?_) I.bare
 ·exact this
 ·by_cases hb:b=D
  ·subst hb;rw[zl]at e;cases e;exact new
  ·rw[zg hb]at e;exact(I.hok b u e).stay (λc v _ q=>q) (λc q=>st c _ q) λc xs q=>st c _ q
theorem qW {A:Around}{E:Value->Shared->Prop}{l f:Addr}{vs:List Value}{ps:List (Int×Int)}{Q:Value->Shared->Prop}(I:Inv X pins σ H s)(C:s.heap.IsList l vs.toArray)(hlen:vs.length=ps.length)(k:vs.length<64)
  (j:∀i v,vs[i]?=some v->∀H1 s1,Inv X pins σ H1 s1->(∀a o,H a=some o->H1 a=some o)->
   wpAny (model X.prog X.w) A.in1.in1 (call (.ref f) [v]) (λu s2=>∃t r,u=.ref t/\Inv X pins σ r s2/\(∀a o,H1 a=some o->r a=some o)/\r t=some (.tup [.int (at2 ps i).1,.int (at2 ps i).2])/\cy X H1 r s1 s2) (λ_ _=>False) s1)
  (h:∀D out H' s' c,s.heap.objs.size<=D->Srt vs ps out->Inv X pins σ H' s'->(∀a o,H a=some o->H' a=some o)->s'.heap.get? D=some (seqObj "list" out.toArray c)->H' D=none->yT X pins H' D->Q (.ref D) s'):
  wpAny (model X.prog X.w) A (call (.builtin "sorted") [.ref l] [("key",.ref f)]) Q E s:=by
 refine call_function_entry_kw kind_sorted plain_sorted entry_sorted (ksk_s1 _ _) ?_;unfold Builtin.«sorted»;refine zI9 (m:=checkCount "sorted" 1 1 _) (zJ1 ?_);refine zI9 (collect_list C ?_ (by rw[zP6];exact jW k));refine zI9 (wpAny_newList ?_ (by rw[zP6];exact jW k));have g:((s.heap.push (seqObj "list" #[] 0)).update s.heap.objs.size (Obj.mapSeq (·++vs.toArray))).objs.size=s.heap.objs.size+1:=by rw[z31,size_push']
 have p:(((s.heap.push (seqObj "list" #[] 0)).update s.heap.objs.size (Obj.mapSeq (·++vs.toArray))).push (seqObj "list" vs.toArray 0)).get? (s.heap.objs.size+1)=some (seqObj "list" vs.toArray 0):=by rw[<-g];exact zK2 _ rfl
 have keep:∀b o,s.heap.get? b=some o->(((s.heap.push (seqObj "list" #[] 0)).update s.heap.objs.size (Obj.mapSeq (·++vs.toArray))).push (seqObj "list" vs.toArray 0)).get? b=some o:=λb o q=>by
  have d:b<s.heap.objs.size:=zK3 q;rw[z22 _ _ _ (by rw[g];exact zK9 (zR6 d)),Heap.get?_update_ne _ _ _ _ (zK9 d),z22 _ _ _ (zK9 d)];exact q
 show wpAny _ _ _ _ _ {s with heap:=((s.heap.push (seqObj "list" #[] 0)).update s.heap.objs.size (Obj.mapSeq (·++vs.toArray))).push (seqObj "list" vs.toArray 0)};rw[g];have y:Inv X pins σ H {s with heap:=((s.heap.push (seqObj "list" #[] 0)).update s.heap.objs.size (Obj.mapSeq (·++vs.toArray))).push (seqObj "list" vs.toArray 0),toks:=s.toks}:=I.kept keep;have n:s.heap.objs.size<=s.heap.objs.size+1:=zT8 _;refine zI9 (zO9 (wpAny_call_entry_kw slot_list_sort ⟨_,p,rfl⟩ entry_list_sort ?body (ksk_l1 _ _)))
 case body=>
  rw[ksk_t1];refine mQ (s:={s with heap:=((s.heap.push (seqObj "list" #[] 0)).update s.heap.objs.size (Obj.mapSeq (·++vs.toArray))).push (seqObj "list" vs.toArray 0)}) y p hlen k (I.hok.fresh n) (λz=>?_) (λH' hn=>I.fpOk n hn) j λout H' s' c so B st e x=>?_
  ·rcases zJ6.mp (I.stkSub _ z)with q|q
   ·exact(I.fpOk (H':=λ_=>none) n rfl).2.1 q
   ·exact(I.fpOk (H':=λ_=>none) n rfl).2.2.1 q
  ·exact⟨_,rfl,zJ1 ⟨_,rfl,h _ out H' s' c n so B st e x (I.fpOk n x)⟩⟩
end
section
variable {X:Cx}{a:Expr}{p pos kpos lpos p1 p2 p3 p4 p5 p6:Pos}{n1:Nat}{x y:Str}{params:Arguments}{scope:Scope}
abbrev pairE (x y:Str)(n1:Nat)(p1 p2 p3 p4 p5 p6:Pos):Expr:=.Tuple [.Subscript (.Name y p1) (.Name x p2) p3,.UnaryOp .USub (.Name x p4) p5] n1 p6
def keyOf (zs:List Int)(n:Int):Int×Int:=(zs.getD n.toNat 0,-n)
theorem bN {P:Program}{w:World}{K:PySem.W.Frag}{mg:Str->Option Value}{base:Heap}{f c cl l:Addr}{A:Around}{outer:List Env}{s:Shared}{H:Hp}{u ul:Value}{k:Nat}{n:Int}{zs:List Int}
  (S:xJ x y params scope) (hr:zK k A) (o:uq P w K mg base A outer s H) (hf:H f=some (mF f c xk params (pairE x y n1 p1 p2 p3 p4 p5 p6) scope [(y,cl)])) (h:H c=some (uL c)) (hcl:s.heap.IsCell cl (some ul)) (b:H cl=none) (e:RelV (.int n) u) (r:RelV (.ref l) ul)
  (hb:∀pm ctv,bindArgs (PySem.W.kla_fn "<lambda>" xk params (pairE x y n1 p1 p2 p3 p4 p5 p6) scope [(y,cl)] pm (.ref c) ctv) ⟨[u],[]⟩=pure [(x,u)])
  (hdx:(x == ("__debug__":Str))=false) (hdy:(y == ("__debug__":Str))=false) (hcx:(x == ("__classdict__":Str))=false) (hcy:(y == ("__classdict__":Str))=false)
  (m:SqL K H l (zs.map V.int)) (h0:0<=n) (g:n<zs.length):
  codeAny (model P w) A (.call (.ref f) ⟨[u],[]⟩) (CR CX0 outer P w H s (λv H'=>∃t,v=.ref t/\H t=none/\H'=upd H t (.tup [.int (keyOf zs n).1,.int (keyOf zs n).2])) E0) s:=by
 obtain⟨j,rfl⟩:=z07 h0;have d:j<zs.length:=(om9 g);refine aq S hr o hf h hcl b e r hb (t:=_) (cK (zB (vm yV (yt (i:=1) rfl (Or.inr (Or.inr S.py)) hdy hcy) (yt (i:=0) rfl (Or.inl S.px) hdx hcx) (λ_ _=>rfl)) (zB (zd6 de (yt (i:=0) rfl (Or.inl S.px) hdx hcx)) ye))) ?_;refine⟨_,rfl,_,rfl,l,_,_,.int (zs.getD j 0),rfl,rfl,m,xR ?_,_,rfl,_,rfl,(by show 2<=sizeLine;decide),λt q=>⟨t,rfl,q,?_⟩⟩
 ·rw[zK8,zJ2 d,zJ7,zJ2 d];rfl
 ·simp[keyOf]
def tO (ns zs ms:List Int):Prop:=ms.Perm ns/\ms.Pairwise λm k=>lx (keyOf zs k) (keyOf zs m)=false
theorem ck {ns zs:List Int}{vs out:List Value}(r:Vals (ns.map V.int) vs)(h:Srt vs (ns.map (keyOf zs)) out):∃ms,tO ns zs ms/\Vals (ms.map V.int) out:=by
 obtain⟨b,rfl,d,hb,c,hw⟩:=h;have at_:∀i∈b,at2 (ns.map (keyOf zs)) i=keyOf zs (ns.getD i 0):=λi hi=>by
  have:=hb i hi;rw[zJ3]at this;unfold at2;rw[zJ7,zK8,zJ2 this,zJ7,zJ2 this];rfl
 have em:b.map (at2 (ns.map (keyOf zs)))=(b.map λi=>ns.getD i 0).map (keyOf zs):=by
  rw[List.map_map];exact List.map_congr_left at_
 rw[em]at c hw;have inv:∀l:List Int,(l.map (keyOf zs)).map (λq=>-q.2)=l:=λl=>by
  rw[List.map_map];have:((λq:Int×Int=>-q.2)∘keyOf zs)=id:=by funext n;simp[keyOf]
  rw[this,List.map_id]
 refine⟨b.map λi=>ns.getD i 0,⟨?_,List.pairwise_map.mp hw⟩,?_⟩
 ·have:=c.map (λq=>-q.2)
  rwa [inv,inv]at this
 ·clear em c hw d
  induction b with
  |nil=>exact .nil
  |cons i b e=>
   refine .cons ?_ (e (λk hk=>hb k (zJ8 _ hk)) λk hk=>at_ k (zJ8 _ hk));have hi:=hb i zK5;rw[zJ3]at hi;refine oP r i _ ?_;show _=some (V.int (ns.getD i 0));rw[zK8,zJ2 hi,zJ7,zJ2 hi];rfl
theorem wa {K:PySem.W.Frag}{H H':Hp}{a:Addr}{xs:List V}(h:SqL K H a xs)(k:∀a o,(∀ps,o≠.tbl ps)->H a=some o->H' a=some o):SqL K H' a xs:=by
 rcases h with(h|⟨o,h⟩)|h
 ·exact .inl (.inl (k _ _ (λ_ z=>by cases z) h))
 ·exact .inl (.inr ⟨o,k _ _ (λ_ z=>by cases z) h⟩)
 ·exact .inr h
theorem mO {ta:TE}{j k:Nat}{c:Addr}(S:xJ x y params scope)(hr:zK (k+2) X.A)(hg:Gl X "sorted")(hm:X.mg "sorted"=none)(hN:X.N[j]?=some y)(hy:X.env.scope.names.lookup y=some .cell)
  (hcl:∀cl,X.env.cells.lookup y=some cl->closureFor scope X.env=pure [(y,cl)]) (hgl:X.env.globals=mainGlobals) (hco:X.env.code=.ref c) (hhd:PySem.W.CodeHd X.base c yc) (hbi:X.base.BuiltinsAt X.mg yc) (hdf:defaultsOf params X.env=([],[])) (hq:X.env.qual++("<lambda>":Str)=xk) (hne:mainGlobals≠yc)
  (hb:∀u cl c' pm ctv,bindArgs (PySem.W.kla_fn "<lambda>" xk params (pairE x y n1 p1 p2 p3 p4 p5 p6) scope [(y,cl)] pm (.ref c') ctv) ⟨[u],[]⟩=pure [(x,u)])
  (hdx:(x == ("__debug__":Str))=false) (hdy:(y == ("__debug__":Str))=false) (hcx:(x == ("__classdict__":Str))=false) (hcy:(y == ("__classdict__":Str))=false) (ha:PE X a ta)
  (he:starEach [a] X.env=(false,eval a X.env)::starEach [] X.env:=by rfl) (a1:backTo pos (starEach [a] X.env)=(false,eval a X.env)::backTo pos (starEach [] X.env):=by rfl) (hpl:((backTo pos (starEach [a] X.env)).any λx=>x.1)=false:=by rfl):
  PE X (.Call (.Name "sorted" p) [a] [⟨some "key",.Lambda params (pairE x y n1 p1 p2 p3 p4 p5 p6) scope lpos,kpos⟩] pos)
   (λσ H Q=>ta σ H λv H1=>∃l ns L zs,v=.ref l/\SqL X.K H1 l (ns.map V.int)/\σ[j]?=some (some (.ref L))/\SqL X.K H1 L (zs.map V.int)/\ns.length<64/\(∀n∈ns,0<=n/\n<zs.length)/\TabAt H1/\
    ∀D H' ms,H1 D=none->H' D=some (.lst (ms.map V.int))->tO ns zs ms->TabAt H'->(∀a o,a≠yc->H1 a=some o->H' a=some o)->Q (.ref D) H'):=by
 intro pins s σ H Q I h;refine zX5 (xt I hg hm boot_sorted ?_)
 let Pd:V->Hp->Prop:=λv H1=>∃l ns L zs,v=.ref l/\SqL X.K H1 l (ns.map V.int)/\σ[j]?=some (some (.ref L))/\SqL X.K H1 L (zs.map V.int)/\ns.length<64/\(∀n∈ns,0<=n/\n<zs.length)/\TabAt H1/\
    ∀D H' ms,H1 D=none->H' D=some (.lst (ms.map V.int))->tO ns zs ms->TabAt H'->(∀a o,a≠yc->H1 a=some o->H' a=some o)->Q (.ref D) H'
 refine callWith_kw (thn (zB ha ye he pos pins s σ H (λvs H1=>match vs with|[v]=>Pd v H1|_=>False) I h) λus s1 a0=>?_) a1 hpl;obtain⟨vs,H1,I1,r1,q1⟩:=a0
 match vs,r1,q1 with
 |[v],r1,q1=>
  obtain⟨u,rfl,ru⟩:=vals1 r1;obtain⟨l,ns,L,zs,rfl,hS,O,hZ,Z,a7,T,q⟩:=(show Pd v H1 from q1);obtain⟨m,hn,hl⟩:=id I1.loc;obtain⟨ul,rl,lk⟩:=hl j y _ hN O (.inr (.inl hy));obtain⟨cl,G,a9⟩:∃cl,X.env.cells.lookup y=some cl/\s1.heap.IsCell cl (some ul):=by
   rcases lk with⟨z,_⟩|⟨_,cl,z1,z2⟩
   ·have z:X.env.scope.names.lookup y=some .local:=z;rw[hy]at z;cases z
   ·exact⟨cl,z1,z2⟩
  show wpAny _ _ (evalAll ((do let v <-eval (.Lambda params (pairE x y n1 p1 p2 p3 p4 p5 p6) scope lpos) X.env;standAt pos;pure v)::[])) _ _ s1;refine wpAny_evalAll_cons (zI9 (eO I1 (hcl cl G) hgl hco hhd hbi hdf hq hne T λf c' H2 s2 I2 T2 Y a8 hf P J=>zI9 (z25 (zJ1 (wpAny_evalAll_nil ?_)))));cases ru;show wpAny _ _ (call (.builtin "sorted") [.ref l] [("key",.ref f)]) _ _ s2;have w:∀a o,(∀ps,o≠.tbl ps)->H1 a=some o->H2 a=some o:=λa o no e=>Y a o (λz=>by
   obtain⟨ps,t1,_⟩:=T.ex;rw[z,t1]at e;cases e;exact no _ rfl) e
  have S2:=wa hS w;have Z2:=wa hZ w;obtain⟨its,r,ht,hz⟩:=I2.list S2;have C:its.length=ns.length:=by rw[<-r.length,zJ3]
  refine qW (ps:=ns.map (keyOf zs)) I2 ht.isList (by rw[zJ3];exact C) (zL4 (zL0 C) Z) (λi v hv H3 s3 I3 w=>?_) λD out H' s' c0 lD so I' st e fD fp=>?_
  ·have hi:i<ns.length:=by rw[<-C];exact(zK1.mp hv).1
   have rv:RelV (.int ns[i]) v:=by
    have:=oP r i (.int ns[i]) (by rw[zK8,zJ2 hi];rfl)
    rwa [zJ7,hv]at this
   obtain⟨m3,b3,a2⟩:=id I3.loc;obtain⟨a5,a4,a3⟩:=a2 j y _ hN O (.inr (.inl hy));have F:s3.heap.IsCell cl (some a5):=by
    rcases a3 with⟨z,_⟩|⟨_,b1,z1,z2⟩
    ·have z:X.env.scope.names.lookup y=some .local:=z;rw[hy]at z;cases z
    ·rw[G]at z1;cases z1;exact z2
   have R:=a7 ns[i] (zO6 hi);have ek:at2 (ns.map (keyOf zs)) i=keyOf zs ns[i]:=by
    unfold at2;rw[zJ7,zK8,zJ2 hi];rfl
   rw[ek];have Z3:=wa Z2 λa o _ e=>w a o e;refine wpAny_call (zX8 (bN S hr.in1.in1 I3.env0.in1.in1 (w _ _ P) (w _ _ J) F (I3.freeC y cl G) rv a4 (λpm ctv=>hb _ _ _ pm ctv) hdx hdy hcx hcy Z3 R.1 R.2) λrr s4 B=>?_);cases rr with
   |error e=>exact False.elim B
   |ok fl=>
    cases fl with
    |next=>exact False.elim B
    |brk=>exact False.elim B
    |cont=>exact False.elim B
    |ret u4=>
     obtain⟨v4,H4,os,bare,un,hok,r4,t,rfl,a6,U⟩:=B;cases r4;obtain⟨hh,g,d,tk,b0⟩:=s4;obtain rfl:b0=s3.os:=os;refine⟨t,H4,rfl,I3.call (h':=hh) (g':=g) (d':=d) (t':=tk) (ch:=[]) un hok bare (λb z=>absurd z (by simp)),λa o e=>?_,by rw[U];exact zl,λb o e n nf=>⟨un.keep b o e n nf (by simp),un.free b o e n (by simp)⟩⟩;rw[U,zg (zm e a6)];exact e
  ·obtain⟨ms,sm,rm⟩:=ck r so;have nD:∀a o,H' a=some o->a≠D:=λa o e z=>by rw[z,fD]at e;cases e
   have E:H2 D=none:=I2.hok.fresh lD;have M:∀a o,H2 a=some o->upd H' D (.lst (ms.map V.int)) a=some o:=λa o e=>by rw[zg (nD a o (st a o e))];exact st a o e
   refine⟨.ref D,upd H' D (.lst (ms.map V.int)),I'.adopt fp ⟨?_,out,c0,rm,e⟩,rfl,q D _ ms ?_ zl sm (T2.same λa o _ e=>M a o e) λa o no e=>M a o (Y a o no e)⟩
   ·rw[zJ3,sm.1.length_eq,zP6];exact jW Z
   ·cases z:H1 D with
    |none=>rfl
    |some o=>
     by_cases nt:∀ps,o≠.tbl ps
     ·rw[w D o nt z]at E;cases E
     ·simp only[Classical.not_forall,Classical.not_not]at nt;obtain⟨qs,rfl⟩:=nt;obtain⟨b2,w'⟩:=a8 D qs z;rw[w']at E;cases E
end
section
variable {X:Cx}{α:Ev}{p q pos:Pos}{a b:Expr}
theorem ui {G:Hp}:∀ns:List Int,AVs G (ns.map V.int) (ns.map .int)
 |[]=>.nil
 |n::ns=>.cons (.int n) (ui ns)
theorem nF {Q:List PyData->Prop}(G:X.calm=true)(hg:Gl X "list")(hm:X.mg "list"=none)(g:Gl X "range")(s:X.mg "range"=none)(h:EvD X α a λx=>EvD X α b λy=>∃i j,x=.int i/\y=.int j/\(-(2 ^ 62)<=i/\i<2 ^ 62/\-(2 ^ 62)<=j/\j<2 ^ 62)/\(j-i).toNat<=1000/\Q ((zq i (j-i).toNat).map .int))
  (he:starEach [.Call (.Name "range" q) [a,b] [] p] X.env=(false,eval (.Call (.Name "range" q) [a,b] [] p) X.env)::starEach [] X.env:=by rfl) (d:starEach [a,b] X.env=(false,eval a X.env)::starEach [b] X.env:=by rfl) (f:starEach [b] X.env=(false,eval b X.env)::starEach [] X.env:=by rfl)
  (hpl:(backTo p (starEach [b] X.env)).any (·.1)=false:=by rfl) {L:Pos}:EvL X α (.Call (.Name "list" L) [.Call (.Name "range" q) [a,b] [] p] [] pos) Q:=λF σ H R m k=>by
 refine⟨_,wO (rC G) hg hm boot_list (zB (wO oo g s boot_range (zB zh (zB zh ye f) d) (he:=d) (hpl:=hpl)) ye he) (he:=he),?_⟩;refine h F σ H _ m λx O H1 B t1 v I=>?_;have m1:=m.kz v t1;refine B F σ H1 _ m1 λy N n K w A E=>?_;have m2:=m1.kz A w;obtain⟨i,j,rfl,rfl,⟨J,M,D,C⟩,hz,q⟩:=K;cases I.int_inv;cases E.int_inv;refine⟨i,j,rfl,λr hr=>?_⟩;refine⟨r,i,j,rfl,zl,⟨J,M,D,C⟩,zN5 (yp hz),by lia,λl e=>?_⟩;have t:l≠r:=λz=>by rw[z,zl]at e;cases e
 have c:n l=none:=by rw[zg t]at e;exact e
 have u:=v.trans A;have s1:zt n (upd (upd n r (.rng i j)) l (.lst ((zq i (j-i).toNat).map V.int))):=(zL hr).trans (zL e);refine k _ _ _ q (w.same s1) (u.trans (Kz.of_same s1)) ⟨l,_,rfl,?_,zl,ui _⟩;cases z:H l with
 |none=>rfl
 |some o=>rw[u l o z (m.tp.nt (ow0 (m2.fresh c)))]at c;cases c
end
section
variable {X:Cx}{α:Ev}{p pos:Pos}{a b:Expr}{Q:PyData->Prop}
end
theorem AVs.ints {H:Hp}{xs:List V}{ns:List Int}(h:AVs H xs (ns.map .int)):xs=ns.map V.int:=by
 induction ns generalizing xs with
 |nil=>cases h;rfl
 |cons n ns b=>cases h with
  |cons h a=>rw[zN7,b a,h.int_inv]
section
variable {X:Cx}{α:Ev}{a:Expr}{p pos kpos lpos p1 p2 p3 p4 p5 p6:Pos}{n1:Nat}{x y:Str}{params:Arguments}{scope:Scope}
structure cU (X:Cx)(c:Addr)(x y:Str)(n1:Nat)(p1 p2 p3 p4 p5 p6:Pos)(params:Arguments)(scope:Scope):Prop where
 S:xJ x y params scope
 hy:X.env.scope.names.lookup y=some .cell
 hcl:∀cl,X.env.cells.lookup y=some cl->closureFor scope X.env=pure [(y,cl)]
 hgl:X.env.globals=mainGlobals
 hco:X.env.code=.ref c
 hhd:PySem.W.CodeHd X.base c yc
 hbi:X.base.BuiltinsAt X.mg yc
 hdf:defaultsOf params X.env=([],[])
 hq:X.env.qual++("<lambda>":Str)=xk
 hne:mainGlobals≠yc
 hb:∀u cl c' pm ctv,bindArgs (PySem.W.kla_fn "<lambda>" xk params (pairE x y n1 p1 p2 p3 p4 p5 p6) scope [(y,cl)] pm (.ref c') ctv) ⟨[u],[]⟩=pure [(x,u)]
 hdx:(x == ("__debug__":Str))=false
 hdy:(y == ("__debug__":Str))=false
 hcx:(x == ("__classdict__":Str))=false
 hcy:(y == ("__classdict__":Str))=false
theorem mn {j k:Nat}{c:Addr}{Q:List PyData->Prop}(T:cU X c x y n1 p1 p2 p3 p4 p5 p6 params scope)(hr:zK (k+2) X.A)(hg:Gl X "sorted")(hm:X.mg "sorted"=none)(M:X.N[j]?=some y)
  (h:EvD X α a λd=>∃ns zs:List Int,d=.list (ns.map .int)/\α[j]?=some (some (.dat (.list (zs.map .int))))/\ns.length<64/\(∀n∈ns,0<=n/\n<zs.length)/\∀ms,tO ns zs ms->Q (ms.map .int))
  (he:starEach [a] X.env=(false,eval a X.env)::starEach [] X.env:=by rfl) (g:backTo pos (starEach [a] X.env)=(false,eval a X.env)::backTo pos (starEach [] X.env):=by rfl) (hpl:((backTo pos (starEach [a] X.env)).any λx=>x.1)=false:=by rfl):
  EvL X α (.Call (.Name "sorted" p) [a] [⟨some "key",.Lambda params (pairE x y n1 p1 p2 p3 p4 p5 p6) scope lpos,kpos⟩] pos) Q:=λF σ H R m k=>by
 refine⟨_,mO (j:=j) T.S hr hg hm M T.hy T.hcl T.hgl T.hco T.hhd T.hbi T.hdf T.hq T.hne T.hb T.hdx T.hdy T.hcx T.hcy zh he g hpl,?_⟩;refine h F σ H _ m λd O H1 B t1 i G=>?_;have m1:=m.kz i t1;obtain⟨ns,zs,rfl,hz,w,r,q⟩:=B;obtain⟨l,xs,rfl,g1,g2⟩:=G.lst_inv;obtain⟨v,s1,s2⟩:=m1.dat j _ hz;obtain⟨J,ys,rfl,g3,K⟩:=s2.lst_inv;cases g2.ints;cases K.ints;refine⟨l,ns,J,zs,rfl,SqL.of (zi g1).2,s1,SqL.of (zi g3).2,w,r,t1.tab,λD H' ms s u L C kp=>?_⟩;have f:∀a xs,H1 a=some (.lst xs)->H' a=some (.lst xs):=λa xs e=>kp a _ (λz=>by
  obtain⟨ps,e1,_⟩:=t1.tab.ex;rw[z,e1]at e;cases e) e
 have kz:Kz F H1 H':=λx o e n=>kp x o n.2 e;refine k _ _ H' (q ms L) ⟨C,t1.ot,λt b c e=>⟨?_,(t1 t b c e).2⟩⟩ (i.trans kz) ⟨D,_,rfl,?_,u,ui _⟩
 ·obtain⟨n,bs,cs,n1,e1,I,E,l1,l2⟩:=(t1 t b c e).1.ex;exact⟨n,bs,cs,n1,f _ _ e1,f _ _ I,f _ _ E,l1,l2⟩
 ·cases z:H D with
  |none=>rfl
  |some o=>rw[i D o z (m.tp.nt (ow0 (m1.fresh s)))]at s;cases s
end
section
variable {P:Program}{w:World}{K:PySem.W.Frag}{mg:Str->Option Value}{base:Heap}
theorem zF6 {x qual:Str}{st:Stmt}{f:Addr}{N ps:List Str}{k:Nat}{φ:List A->(A->Prop)->Prop}{oc:Value}{od an:Option Addr}{osl:Array (Option Value)}{kV doc pm cdv ct:Value}
  (n:K.lookup f=some ⟨oc,od,.func (PySem.W.fnOf x qual (zJ st) (zv st) (zf st) .none kV doc pm an cdv ct),osl⟩) (i:PySem.W.codeIn K cdv qual=true) (S:zS N ps (zf st)) (hlen:∀as Q,φ as Q->as.length=ps.length)
  (b:∀(d:Around) (outer:List Env) (s:Shared) (H:Hp) (E:XK) (as:List A) (Q:A->Prop),zK k (d.deeper (envOfC qual (zf st) s.heap.objs.size f cdv))->φ as Q->
   SvS (wo CX0 P w K mg base N qual (zf st) f cdv d outer s H E).nox (as.map some++List.replicate (N.length-as.length) none) (zv st) {nx:=λ_=>Q (.dat .none),rt:=Q}):yD P w K mg base CX0 (k+1) f (PySem.W.fnOf x qual (zJ st) (zv st) (zf st) .none kV doc pm an cdv ct) ps (spA φ):=by
 refine gc n i S (λvs H Q E h=>?_) (λd outer s H vs j E hr h=>?_)
 ·obtain⟨F,as,Q',_,_,_,g,c,_⟩:=h;rw[g.length,hlen as _ c]
 ·obtain⟨F,as,Q',e,t,o,g,c,l⟩:=h;have:=b d outer s H E as Q' hr c F _ H {nx:=λ_ H'=>j .non H',rt:=j} (M.start e t o g) ⟨λα σ H' m q=>?_,λa v H' r q=>l a v H' q r,λ_ _ _ _ z=>z.elim,λ_ _ _ _ z=>z.elim⟩
  ·obtain⟨t,h,q⟩:=this;exact⟨t,h.nox,q⟩
  ·exact l _ _ _ q ⟨m.tp,m.keep,.non⟩
end
section
variable {X:Cx}{α:Ev}{Q:PyData->Prop}{a b:Expr}{pos:Pos}
end
theorem pR (c:Int)(n:Nat):zq c (n+1)=zq c n++[c+(n:Nat)]:=by simp[zq,List.range_succ]
theorem yf {c m:Int}{n:Nat}:m∈zq c n↔c<=m/\m<c+n:=by
 simp only[zq,z02,z44]
 constructor
 ·rintro⟨i,hi,rfl⟩;lia
 ·rintro⟨a,b⟩;exact⟨(m-c).toNat,by lia,(zD3 a)⟩
theorem qg (c:Int):∀n:Nat,(zq c n).Nodup
 |0=>by simp[zq]
 |n+1=>by
  rw[pR,List.nodup_append];refine⟨qg c n,by simp,?_⟩;intro a ha b hb;rw[yf]at ha;simp at hb;exact Int.ne_of_lt (z47 ha.2 (Int.le_of_eq hb.symm))
def vD (zs:List Int)(many free i:Nat)(bs:List Bool):Prop:=
 bs.length=zs.length/\(∀j,i / many*many<=j->bs.getD j false=false)/\∀k,k<i / many->∃ms:List Int,tO (zq ((k*many:Nat):Int) many) zs ms/\∀q,q<many->bs.getD (ms.getD q 0).toNat false=decide (q<free)
theorem jL (zs:List Int){many:Nat}(free:Nat):vD zs many free 0 (List.replicate zs.length false):=by
 refine⟨by simp,λj _=>?_,λk hk=>?_⟩
 ·rw[zJ7,zR0];split<;>rfl
 ·rw[Nat.zero_div]at hk;exact(zP1 _ (zL4 (zK7 _) hk)).elim
theorem sV {i many:Nat}(h:0<many)(b:i % many+1<many):(i+1) / many=i / many/\(i+1) % many=i % many+1:=by
 have e:=zZ9 i many;have a:i+1=(i % many+1)+many*(i / many):=by lia
 constructor
 ·rw[a,Nat.add_mul_div_left _ _ h,Nat.div_eq_of_lt b,Nat.zero_add]
 ·rw[a,Nat.add_mul_mod_self_left,Nat.mod_eq_of_lt b]
theorem pT {i many:Nat}(h:0<many)(b:i % many+1=many):(i+1) / many=i / many+1/\(i+1) % many=0/\(i / many+1)*many=i+1:=by
 have e:=zZ9 i many;have a:many*(i / many+1)=i+1:=by rw[Nat.mul_add,Nat.mul_one];lia
 refine⟨?_,?_,?_⟩
 ·rw[<-a,Nat.mul_div_cancel_left _ h]
 ·rw[<-a,Nat.mul_mod_right]
 ·rw[Nat.mul_comm];exact a
theorem jS {zs:List Int}{many free i:Nat}{bs:List Bool}(h:0<many)(a:i % many+1<many)(m:vD zs many free i bs):vD zs many free (i+1) bs:=by
 unfold vD at *;rw[(sV h a).1];exact m
theorem vc {lo:Int}{n:Nat}{zs ms:List Int}(s:tO (zq lo n) zs ms){q:Nat}(h:q<n):lo<=ms.getD q 0/\ms.getD q 0<lo+n:=by
 have a:ms.length=n:=by rw[s.1.length_eq,zc]
 have:ms.getD q 0∈ms:=by
  rw[zJ7,zJ2 (zJ4 h (zL0 a.symm))];exact zO6 _
 exact yf.mp (s.1.mem_iff.mp this)
theorem iK {zs ms:List Int}{many free i:Nat}{bs a:List Bool}(h:0<many)(n:i % many+1=many)(m:vD zs many free i bs)(s:tO (zq ((i / many*many:Nat):Int) many) zs ms)
  (l:a.length=bs.length) (e1:∀q,q<many->a.getD (ms.getD q 0).toNat false=decide (q<free)) (f:∀j,(∀q,q<many->(ms.getD q 0).toNat≠j)->a.getD j false=bs.getD j false):vD zs many free (i+1) a:=by
 obtain⟨g,t,p⟩:=pT h n;obtain⟨m1,m2,m3⟩:=m;refine⟨by rw[l,m1],λj o=>?_,λk hk=>?_⟩
 ·rw[g,p]at o;have e:=zZ9 i many;have r:i / many*many=many*(i / many):=Nat.mul_comm _ _;rw[f j λq hq=>?_,m2 j (by lia)];have:=vc s hq
  lia
 ·rw[g]at hk;by_cases b:k=i / many
  ·subst b;exact⟨ms,s,e1⟩
  ·obtain⟨d,s2,f2⟩:=m3 k (dY hk b);refine⟨d,s2,λq hq=>?_⟩;rw[f _ λu c=>?_,f2 q hq];have a1:=vc s c;have a2:=vc s2 hq;have:(k+1)*many<=i / many*many:=zY6 _ (by lia);rw[Nat.add_mul,Nat.one_mul]at this
   lia
theorem oh (f:Nat):∀n,((List.range n).map λq=>decide (q<f)).count true=min f n
 |0=>by simp
 |n+1=>by
  rw[List.range_succ,zV8,List.count_append,oh f n];by_cases h:n<f
  ·simp[h];lia
  ·simp[h];lia
theorem zb9 {α:Type}(l:List α)(d:α)(a n:Nat)(h:a+n<=l.length):(l.drop a).take n=(zq (a:Int) n).map λm=>l.getD m.toNat d:=by
 apply z30
 ·simp[zc];exact zi7 h
 ·intro i c b;have hi:i<n:=by simpa[zc]using b
  simp only[zq,List.getElem_take,List.getElem_drop,List.getElem_map,List.getElem_range];rw[show((a:Int)+(i:Nat)).toNat=a+i by lia,zJ7,zJ2 (zI1 h hi)];rfl
theorem uf {zs ms:List Int}{lo many free:Nat}{bs:List Bool}(s:tO (zq (lo:Int) many) zs ms)(hb:lo+many<=bs.length)(h:∀q,q<many->bs.getD (ms.getD q 0).toNat false=decide (q<free))(hf:free<=many):((bs.drop lo).take many).count true=free:=by
 have a:ms.length=many:=by rw[s.1.length_eq,zc]
 rw[zb9 bs false lo many hb,<-(s.1.map λm=>bs.getD m.toNat false).count_eq];have:ms.map (λm=>bs.getD m.toNat false)=(List.range many).map λq=>decide (q<free):=by
  apply z30
  ·simp[a]
  ·intro i c b;have hi:i<many:=by simpa using b
   simp only[List.getElem_map,List.getElem_range];have:=h i hi;rw[zJ7 (l:=ms),zJ2 (zJ4 hi (zL0 a.symm))]at this;exact this
 rw[this,oh]
 lia
theorem zn8 {lo:Int}{n:Nat}{zs ms:List Int}(s:tO (zq lo n) zs ms){m:Int}(c:lo<=m)(a:m<lo+n):∃q,q<n/\ms.getD q 0=m:=by
 have b:ms.length=n:=by rw[s.1.length_eq,zc]
 obtain⟨q,hq,e⟩:=zU1.mp (s.1.mem_iff.mpr (yf.mpr ⟨c,a⟩));exact⟨q,(zJ4 hq (zL0 b)),by rw[zJ7,zJ2 hq];exact e⟩
open PySem (IsZip)
section
variable {prog:Program}{w:World}{A:Around}{E:Value->Shared->Prop}{s:Shared}
theorem ox {M:Model}{a:Addr}{Q:Option Obj->Shared->Prop}(h:Q (s.heap.get? a) s):wpAny M A (loadIfAlive a) Q E s:=λb p c=>by
 show Sem.wp M b (.loadIfAlive a .pure) _ _ p s;rw[Sem.wp_loadIfAlive];exact h
abbrev zO (f0 f1:Value)(TI TO:Addr):Obj:={cls:=.type "zip",dict:=none,data:=.fields #[f0,f1,.bool false,.ref TI,.ref TO],slots:=#[]}
abbrev tO3 (a b c:Value):Obj:={cls:=.type "tuple",data:=.seq #[a,b,c]}
theorem xx {T:Addr}{a b c x:Value}{k:Nat}{Q:Unit->Shared->Prop}(d:s.heap.get? T=some (tO3 a b c))
  (h:∀h',h'.get? T=some {cls:=.type "tuple",data:=.seq ((#[a,b,c]:Array Value).setIfInBounds k x)}->Heap.SameBut T s.heap h'->Q () {s with heap:=h'}):
  wpAny (model prog w) A (updateSeq T (·.setIfInBounds k x)) Q E s:=by
 refine zV9 d rfl (h _ ?_ (zV2 ..));rw[zV7 _ d rfl];simp[Obj.mapSeq]
structure wj (h:Heap)(n:Nat)(l1 l2 l3:Addr)(k:Nat)(f0 f1 a b c:Value):Prop where
 z:h.get? (n+5:Nat)=some (zO f0 f1 (n+3:Nat) (n+4:Nat))
 ti:h.get? (n+3:Nat)=some (tO3 (.ref (n:Nat)) (.ref (n+1:Nat)) (.ref (n+2:Nat)))
 to:h.get? (n+4:Nat)=some (tO3 a b c)
 i1:h.IsListIter (n:Nat) l1 k
 i2:h.IsListIter (n+1:Nat) l2 k
 i3:h.IsListIter (n+2:Nat) l3 k
abbrev z3 (n:Nat):List Addr:=[(n:Nat),(n+1:Nat),(n+2:Nat),(n+3:Nat),(n+4:Nat),(n+5:Nat)]
theorem zp (a b:Nat)(h:a<b\/b<a):@Ne Addr a b:=λe=>by
 have e:@Eq Nat a b:=e
 lia
theorem lu {n l1 l2 l3:Nat}{k:Nat}{f1 a b c x y z:Value}{xs ys zs:Array Value}{Q:Value->Shared->Prop}(h1:l1<n)(h2:l2<n)(h3:l3<n)(Z:wj s.heap n l1 l2 l3 k .none f1 a b c)
  (b0:s.heap.IsList l1 xs) (a7:s.heap.IsList l2 ys) (a8:s.heap.IsList l3 zs) (hx:xs[k]?=some x) (hy:ys[k]?=some y) (hz:zs[k]?=some z)
  (hQ:∀h',wj h' n l1 l2 l3 (k+1) (rawInt s.heap.objs.size) (.bool false) x y z->h'.get? s.heap.objs.size=some (tO3 x y z)->
   (∀c o,c∉z3 n->s.heap.get? c=some o->h'.get? c=some o)->Q (.ref s.heap.objs.size) {s with heap:=h'}):
  wpAny (model prog w) A (Builtin.«zip.__next__» ⟨[.ref (n+5:Nat)],[]⟩) (λfin s'=>∃v,fin=.done (.ret v)/\Q v s') E s:=by
 obtain⟨G,a1,a9,g1,g2,g3⟩:=Z;show wpAny _ _ (field (.ref _) 2 >>= _) _ _ _;refine zI9 (zS4 G rfl (x:=.bool false) rfl ?_);show wpAny _ _ (field (.ref _) 3 >>= _) _ _ _;refine zI9 (zS4 G rfl (x:=.ref (n+3:Nat)) rfl ?_);refine zI9 (zS5 a1 rfl ?_);show wpAny _ _ (Builtin.SmallTypes.ownedTupleIsFree (.ref (n+5:Nat)) >>= _) _ _ _;refine zI9 ?_;unfold Builtin.SmallTypes.ownedTupleIsFree;refine zI9 (zS4 G rfl (x:=.none) rfl (zJ1 ?_));simp only[zX9];refine zI9 (zR8 ?_);refine zI9 (zS4 G rfl (x:=.ref (n+4:Nat)) rfl ?_);refine zI9 (zQ4 G (by simp) λY u f=>?_)
 replace u:Y.get? (n+5:Nat)=some (zO .ellipsis f1 (n+3:Nat) (n+4:Nat)):=u
 refine zI9 ?_;simp only[List.zipIdx_cons,List.zipIdx_nil,z37,List.forIn_nil];refine zI9 (zI9 (wpAny_onRaise ?_));show wpAny _ _ (Builtin.SmallTypes.nextOf (.ref (n:Nat)) >>= _) _ _ _;refine zI9 (zT2 (g1.extBut f.extBut (by refine zp _ _ ?_;exact dF)) (b0.extBut f.extBut (by refine zp _ _ ?_;exact .inl (zJ4 h1 (zL2 _ _)))) hx λW P g=>zJ1 ?_);have B:W.get? (n+4:Nat)=some (tO3 a b c):=g.extBut _ _ (by refine zp _ _ ?_;exact zf6) (f.extBut _ _ (by refine zp _ _ ?_;exact gA) a9);refine zI9 (zS5 B rfl ?_);refine zI9 (xx B λa5 q h=>?_)
 replace q:a5.get? (n+4:Nat)=some (tO3 x b c):=q
 refine zI9 (wpAny_letGo (zJ1 ?_));refine zI9 (zI9 (wpAny_onRaise ?_));show wpAny _ _ (Builtin.SmallTypes.nextOf (.ref (n+1:Nat)) >>= _) _ _ _;refine zI9 (zT2 (((g2.extBut f.extBut (by refine zp _ _ ?_;exact fZ)).extBut g.extBut (by refine zp _ _ ?_;exact .inr (zP2 _))).extBut h.extBut (by refine zp _ _ ?_;exact dz))
  (((a7.extBut f.extBut (by refine zp _ _ ?_;exact .inl (zJ4 h2 (zL2 _ _)))).extBut g.extBut (by refine zp _ _ ?_;exact .inl h2)).extBut h.extBut (by refine zp _ _ ?_;exact .inl (zJ4 h2 (zL2 _ _)))) hy λU S i=>zJ1 ?_)
 have D:U.get? (n+4:Nat)=some (tO3 x b c):=i.extBut _ _ (by refine zp _ _ ?_;exact zk6) q;refine zI9 (zS5 D rfl ?_);refine zI9 (xx D λa0 r j=>?_)
 replace r:a0.get? (n+4:Nat)=some (tO3 x y c):=r
 refine zI9 (wpAny_letGo (zJ1 ?_));refine zI9 (zI9 (wpAny_onRaise ?_));show wpAny _ _ (Builtin.SmallTypes.nextOf (.ref (n+2:Nat)) >>= _) _ _ _;refine zI9 (zT2 (((((g3.extBut f.extBut (by refine zp _ _ ?_;exact ee)).extBut g.extBut (by refine zp _ _ ?_;exact zf9)).extBut h.extBut (by refine zp _ _ ?_;exact dW)).extBut i.extBut (by refine zp _ _ ?_;exact ze8)).extBut j.extBut (by refine zp _ _ ?_;exact dW))
  (((((a8.extBut f.extBut (by refine zp _ _ ?_;exact .inl (zJ4 h3 (zL2 _ _)))).extBut g.extBut (by refine zp _ _ ?_;exact .inl h3)).extBut h.extBut (by refine zp _ _ ?_;exact .inl (zJ4 h3 (zL2 _ _)))).extBut i.extBut (by refine zp _ _ ?_;exact .inl (zJ4 h3 (zL2 _ _)))).extBut j.extBut (by refine zp _ _ ?_;exact .inl (zJ4 h3 (zL2 _ _)))) hz λa4 L m=>zJ1 ?_)
 have C:a4.get? (n+4:Nat)=some (tO3 x y c):=m.extBut _ _ (by refine zp _ _ ?_;exact zg5) r;refine zI9 (zS5 C rfl ?_);refine zI9 (xx C λd p l=>?_)
 replace p:d.get? (n+4:Nat)=some (tO3 x y z):=p
 refine zI9 (wpAny_letGo (zJ1 (zJ1 ?_)));refine zI9 (zS5 p rfl ?_);refine zI9 (z05 ?_);have a3:d.objs.size=s.heap.objs.size:=by rw[l.1,m.1,j.1,i.1,h.1,g.1,f.1]
 have X:∀c o,c≠(n+5:Nat)->c≠(n:Nat)->c≠(n+4:Nat)->c≠(n+1:Nat)->c≠(n+2:Nat)->s.heap.get? c=some o->d.get? c=some o:=λc o c1 c2 c3 c4 c5 e=>
  l.extBut _ _ c3 (m.extBut _ _ c5 (j.extBut _ _ c3 (i.extBut _ _ c4 (h.extBut _ _ c3 (g.extBut _ _ c2 (f.extBut _ _ c1 e))))))
 have F:d.get? (n+5:Nat)=some (zO .ellipsis f1 (n+3:Nat) (n+4:Nat)):=l.extBut _ _ (by refine zp _ _ ?_;exact gk) (m.extBut _ _ (by refine zp _ _ ?_;exact zh1) (j.extBut _ _ (by refine zp _ _ ?_;exact gk) (i.extBut _ _ (by refine zp _ _ ?_;exact zj5) (h.extBut _ _ (by refine zp _ _ ?_;exact gk) (g.extBut _ _ (by refine zp _ _ ?_;exact zj9) u)))));have T:d.IsListIter (n:Nat) l1 (k+1):=((((P.extBut h.extBut (by refine zp _ _ ?_;exact gQ)).extBut i.extBut (by refine zp _ _ ?_;exact .inl (zP2 _))).extBut j.extBut (by refine zp _ _ ?_;exact gQ)).extBut m.extBut (by refine zp _ _ ?_;exact zj7)).extBut l.extBut (by refine zp _ _ ?_;exact gQ);have N:d.IsListIter (n+1:Nat) l2 (k+1):=((S.extBut j.extBut (by refine zp _ _ ?_;exact dz)).extBut m.extBut (by refine zp _ _ ?_;exact zh0)).extBut l.extBut (by refine zp _ _ ?_;exact dz);have M:d.IsListIter (n+2:Nat) l3 (k+1):=L.extBut l.extBut (by refine zp _ _ ?_;exact dW);have J:=X _ _ (by refine zp _ _ ?_;exact cN) (by refine zp _ _ ?_;exact ze1) (by refine zp _ _ ?_;lia) (by refine zp _ _ ?_;exact zf0) (by refine zp _ _ ?_;exact ze0) a1;have K:(n+5:Nat)<d.objs.size:=zK3 F;show wpAny _ _ (Builtin.SmallTypes.ownedTupleHandOut (.ref (n+5:Nat)) (.ref d.objs.size) >>= _) _ _ _;refine zI9 ?_;unfold Builtin.SmallTypes.ownedTupleHandOut;have O:(d.push {cls:=.type "tuple",data:=.seq #[x,y,z]}).get? (n+5:Nat)=some (zO .ellipsis f1 (n+3:Nat) (n+4:Nat)):=zJ0 _ F;refine zI9 (zQ4 O (by simp) λV t H=>?_)
 replace t:V.get? (n+5:Nat)=some (zO (rawInt d.objs.size) f1 (n+3:Nat) (n+4:Nat)):=t
 refine zQ4 t (by simp) λhA I a6=>?_
 replace I:hA.get? (n+5:Nat)=some (zO (rawInt d.objs.size) (.bool false) (n+3:Nat) (n+4:Nat)):=I
 have up:∀c o,c≠(n+5:Nat)->d.get? c=some o->hA.get? c=some o:=λc o c1 e=>a6.extBut _ _ c1 (H.extBut _ _ c1 (zJ0 _ e));have a2:hA.get? d.objs.size=some (tO3 x y z):=a6.extBut _ _ (zT9 K) (H.extBut _ _ (zT9 K) (zK2 _ rfl));rw[a3]at I a2;refine zJ1 ⟨_,rfl,?_⟩;show Q (.ref d.objs.size) _;rw[a3];refine hQ hA ⟨I,up _ _ (by refine zp _ _ ?_;exact cN) J,up _ _ (by refine zp _ _ ?_;exact gA) p,T.at λo e=>up _ o (by refine zp _ _ ?_;exact dF) e,N.at λo e=>up _ o (by refine zp _ _ ?_;exact fZ) e,M.at λo e=>up _ o (by refine zp _ _ ?_;exact ee) e⟩ a2 λc o R e=>?_;simp only[z3,zJ6,zL1,zO0,not_or]at R;exact up c o R.2.2.2.2.2 (X c o R.2.2.2.2.2 R.1 R.2.2.2.2.1 R.2.1 R.2.2.1 e)
theorem qx {n l1 l2 l3 k T:Nat}{f1 a b c:Value}{ot:Obj}{Q:Bool->Shared->Prop}(u:l1<n)(t:l2<n)(r:l3<n)(Z:wj s.heap n l1 l2 l3 k (rawInt (T:Nat)) f1 a b c)(q:s.heap.get? T=some ot)
  (m:∀h' l,wj h' n l1 l2 l3 k (rawInt (T:Nat)) l a b c->h'.objs.size=s.heap.objs.size->(∀c o,c≠(n+5:Nat)->s.heap.get? c=some o->h'.get? c=some o)->Q false {s with heap:=h'}):
  wpAny (model prog w) A (Builtin.SmallTypes.ownedTupleIsFree (.ref (n+5:Nat))) Q E s:=by
 obtain⟨g,i,j,g1,g2,g3⟩:=Z;unfold Builtin.SmallTypes.ownedTupleIsFree;refine zI9 (zS4 g rfl (x:=rawInt (T:Nat)) rfl ?_);show wpAny _ _ (loadIfAlive ((T:Int).toNat) >>= _) _ _ _;refine zI9 (ox ?_);rw[show((T:Int).toNat)=T from zR7 T,q];show wpAny _ _ (field (.ref (n+5:Nat)) 1 >>= _) _ _ _;refine zI9 (zS4 g rfl (x:=f1) rfl ?_);refine zN4 (λ_=>?_) (λ_=>?_)
 ·refine zI9 (zQ4 g (by simp) λh f d=>zJ1 ?_)
  replace f:h.get? (n+5:Nat)=some (zO (rawInt (T:Nat)) (.bool true) (n+3:Nat) (n+4:Nat)):=f
  exact m h _ ⟨f,d.extBut _ _ (by refine zp _ _ ?_;exact cN) i,d.extBut _ _ (by refine zp _ _ ?_;exact gA) j,g1.extBut d.extBut (by refine zp _ _ ?_;exact dF),g2.extBut d.extBut (by refine zp _ _ ?_;exact fZ),g3.extBut d.extBut (by refine zp _ _ ?_;exact ee)⟩ d.1 λc o p e=>d.extBut _ _ p e
 ·exact zJ1 (m s.heap f1 ⟨g,i,j,g1,g2,g3⟩ rfl λ_ _ _ e=>e)
theorem jJ {n l1 l2 l3 k T:Nat}{f1 a b c x y z:Value}{ot:Obj}{xs ys zs:Array Value}{Q:Value->Shared->Prop}(O:l1<n)(M:l2<n)(G:l3<n)(Z:wj s.heap n l1 l2 l3 k (rawInt (T:Nat)) f1 a b c)(V:s.heap.get? T=some ot)
  (u:s.heap.IsList l1 xs) (l:s.heap.IsList l2 ys) (B:s.heap.IsList l3 zs) (S:xs[k]?=some x) (hy:ys[k]?=some y) (hz:zs[k]?=some z)
  (U:∀h' t,wj h' n l1 l2 l3 (k+1) (rawInt (T:Nat)) t a b c->h'.get? s.heap.objs.size=some (tO3 x y z)->
   (∀c o,c∉z3 n->s.heap.get? c=some o->h'.get? c=some o)->Q (.ref s.heap.objs.size) {s with heap:=h'}):
  wpAny (model prog w) A (Builtin.«zip.__next__» ⟨[.ref (n+5:Nat)],[]⟩) (λfin s'=>∃v,fin=.done (.ret v)/\Q v s') E s:=by
 show wpAny _ _ (field (.ref _) 2 >>= _) _ _ _;refine zI9 (zS4 Z.z rfl (x:=.bool false) rfl ?_);show wpAny _ _ (field (.ref _) 3 >>= _) _ _ _;refine zI9 (zS4 Z.z rfl (x:=.ref (n+3:Nat)) rfl ?_);refine zI9 (zS5 Z.ti rfl ?_);show wpAny _ _ (Builtin.SmallTypes.ownedTupleIsFree (.ref (n+5:Nat)) >>= _) _ _ _;refine zI9 (qx O M G Z V λH t ZB K F=>?_);obtain⟨I,J,L,g1,g2,g3⟩:=ZB
 replace u:H.IsList l1 xs:=u.at λo e=>F _ o (by refine zp _ _ ?_;exact .inl (zJ4 O (zL2 _ _))) e
 replace l:H.IsList l2 ys:=l.at λo e=>F _ o (by refine zp _ _ ?_;exact .inl (zJ4 M (zL2 _ _))) e
 replace B:H.IsList l3 zs:=B.at λo e=>F _ o (by refine zp _ _ ?_;exact .inl (zJ4 G (zL2 _ _))) e
 simp only[zT5,zY3];rw[z48];simp only[z37,List.forIn_nil];refine zI9 (zI9 (zI9 (zO9 ?_)));show wpAny _ _ (Builtin.SmallTypes.nextOf (.ref (n:Nat)) >>= _) _ _ _;refine zI9 (zT2 g1 u S λP p d=>zJ1 (zJ1 ?_));refine zI9 (zI9 (zO9 ?_));show wpAny _ _ (Builtin.SmallTypes.nextOf (.ref (n+1:Nat)) >>= _) _ _ _;refine zI9 (zT2 (g2.extBut d.extBut (by refine zp _ _ ?_;exact .inr (zP2 _))) (l.extBut d.extBut (by refine zp _ _ ?_;exact .inl M)) hy λN r f=>zJ1 (zJ1 ?_));refine zI9 (zI9 (zO9 ?_));show wpAny _ _ (Builtin.SmallTypes.nextOf (.ref (n+2:Nat)) >>= _) _ _ _;refine zI9 (zT2 ((g3.extBut d.extBut (by refine zp _ _ ?_;exact zf9)).extBut f.extBut (by refine zp _ _ ?_;exact ze8)) ((B.extBut d.extBut (by refine zp _ _ ?_;exact .inl G)).extBut f.extBut (by refine zp _ _ ?_;exact .inl (zJ4 G (zL2 _ _)))) hz λg j h=>zJ1 (zJ1 (zJ1 ?_)));refine zI9 (z05 ?_ (by show 3<=sizeLine;decide));have D:g.objs.size=s.heap.objs.size:=by rw[h.1,f.1,d.1];exact K
 have i:∀c o,c≠(n:Nat)->c≠(n+1:Nat)->c≠(n+2:Nat)->H.get? c=some o->g.get? c=some o:=λc o X W R e=>h.extBut _ _ R (f.extBut _ _ W (d.extBut _ _ X e));have up:∀c o,g.get? c=some o->(g.push {cls:=.type "tuple",data:=.seq #[x,y,z]}).get? c=some o:=λc o e=>zJ0 _ e;have q:g.IsListIter (n:Nat) l1 (k+1):=(p.extBut f.extBut (by refine zp _ _ ?_;exact .inl (zP2 _))).extBut h.extBut (by refine zp _ _ ?_;exact zj7);have m:g.IsListIter (n+1:Nat) l2 (k+1):=r.extBut h.extBut (by refine zp _ _ ?_;exact zh0);refine zJ1 ⟨_,rfl,?_⟩;show Q (.ref g.objs.size) _;rw[D];refine U _ t ⟨up _ _ (i _ _ (by refine zp _ _ ?_;exact zj9) (by refine zp _ _ ?_;exact zj5) (by refine zp _ _ ?_;exact zh1) I),up _ _ (i _ _ (by refine zp _ _ ?_;exact ze1) (by refine zp _ _ ?_;exact zf0) (by refine zp _ _ ?_;exact ze0) J),up _ _ (i _ _ (by refine zp _ _ ?_;exact zf6) (by refine zp _ _ ?_;exact zk6) (by refine zp _ _ ?_;exact zg5) L),q.at λo e=>up _ o e,m.at λo e=>up _ o e,j.at λo e=>up _ o e⟩ ?_ λc o C e=>?_
 ·rw[<-D];exact zK2 _ rfl
 ·simp only[z3,zJ6,zL1,zO0,not_or]at C;exact up c o (i c o C.1 C.2.1 C.2.2.1 (F c o C.2.2.2.2.2 e))
theorem fU {n l1 l2 l3 k T:Nat}{f1 a b c:Value}{ot:Obj}{xs:Array Value}{Q:PySem.Fin->Shared->Prop}(v:A.handled=none)(i:l1<n)(u:l2<n)(t:l3<n)(Z:wj s.heap n l1 l2 l3 k (rawInt (T:Nat)) f1 a b c)(p:s.heap.get? T=some ot)
  (d:s.heap.IsList l1 xs) (l:xs[k]?=none)
  (r:∀h' e,(∀c o,c∉z3 n->s.heap.get? c=some o->h'.get? c=some o)->(∃o,h'.get? e=some o/\o.cls=.type "StopIteration")->E (.ref e) {s with heap:=h'}):
  wpAny (model prog w) A (Builtin.«zip.__next__» ⟨[.ref (n+5:Nat)],[]⟩) Q E s:=by
 show wpAny _ _ (field (.ref _) 2 >>= _) _ _ _;refine zI9 (zS4 Z.z rfl (x:=.bool false) rfl ?_);show wpAny _ _ (field (.ref _) 3 >>= _) _ _ _;refine zI9 (zS4 Z.z rfl (x:=.ref (n+3:Nat)) rfl ?_);refine zI9 (zS5 Z.ti rfl ?_);show wpAny _ _ (Builtin.SmallTypes.ownedTupleIsFree (.ref (n+5:Nat)) >>= _) _ _ _;refine zI9 (qx i u t Z p λB y ZB m j=>?_)
 replace d:B.IsList l1 xs:=d.at λo e=>j _ o (by refine zp _ _ ?_;exact .inl (zJ4 i (zL2 _ _))) e
 simp only[zT5,zY3];rw[z48];simp only[z37,List.forIn_nil];refine zI9 (zI9 (zI9 (zO9 ?_)));show wpAny _ _ (Builtin.SmallTypes.nextOf (.ref (n:Nat)) >>= _) _ _ _;refine zI9 (wpAny_nextOf_list_end v ZB.i1 d l λg e f he=>?_);refine r g e (λc o h q=>?_) he;simp only[z3,zJ6,zL1,zO0,not_or]at h;exact f _ _ h.1 (j _ _ h.2.2.2.2.2 q)
theorem om {n l1 l2 l3 k:Nat}{f1 a b c x y z:Value}{xs ys zs:Array Value}{Q:Option Value->Shared->Prop}(l:l1<n)(j:l2<n)(i:l3<n)(Z:wj s.heap n l1 l2 l3 k .none f1 a b c)
  (e:s.heap.IsList l1 xs) (d:s.heap.IsList l2 ys) (f:s.heap.IsList l3 zs) (m:xs[k]?=some x) (hy:ys[k]?=some y) (hz:zs[k]?=some z)
  (p:∀h',wj h' n l1 l2 l3 (k+1) (rawInt s.heap.objs.size) (.bool false) x y z->h'.get? s.heap.objs.size=some (tO3 x y z)->
   (∀c o,c∉z3 n->s.heap.get? c=some o->h'.get? c=some o)->Q (some (.ref s.heap.objs.size)) {s with heap:=h'}):
  wpAny (model prog w) A (pyNext (.ref (n+5:Nat))) Q E s:=by
 have g:s.TypeIs (.ref (n+5:Nat)) "zip":=⟨_,Z.z,rfl⟩;unfold pyNext;exact zI9 (zV1 (zQ2 (name:=Str.ofString "__next__") g zS0
  (zP7 zS0 g z24
   (lu l j i Z e d f m hy hz λh' a1 a2 h=>zJ1 (p h' a1 a2 h)) (z09 _))))
theorem mL {n l1 l2 l3 k T:Nat}{f1 a b c x y z:Value}{ot:Obj}{xs ys zs:Array Value}{Q:Option Value->Shared->Prop}(i:l1<n)(r:l2<n)(q:l3<n)(Z:wj s.heap n l1 l2 l3 k (rawInt (T:Nat)) f1 a b c)(m:s.heap.get? T=some ot)
  (g:s.heap.IsList l1 xs) (f:s.heap.IsList l2 ys) (h:s.heap.IsList l3 zs) (j:xs[k]?=some x) (hy:ys[k]?=some y) (hz:zs[k]?=some z)
  (l:∀h' d,wj h' n l1 l2 l3 (k+1) (rawInt (T:Nat)) d a b c->h'.get? s.heap.objs.size=some (tO3 x y z)->
   (∀c o,c∉z3 n->s.heap.get? c=some o->h'.get? c=some o)->Q (some (.ref s.heap.objs.size)) {s with heap:=h'}):
  wpAny (model prog w) A (pyNext (.ref (n+5:Nat))) Q E s:=by
 have e:s.TypeIs (.ref (n+5:Nat)) "zip":=⟨_,Z.z,rfl⟩;unfold pyNext;exact zI9 (zV1 (zQ2 (name:=Str.ofString "__next__") e zS0
  (zP7 zS0 e z24
   (jJ i r q Z m g f h j hy hz λh' d a1 a2 p=>zJ1 (l h' d a1 a2 p)) (z09 _))))
theorem iQ {n l1 l2 l3 k T:Nat}{f1 a b c:Value}{ot:Obj}{xs:Array Value}{Q:Option Value->Shared->Prop}(i:A.handled=none)(j:l1<n)(h:l2<n)(g:l3<n)(Z:wj s.heap n l1 l2 l3 k (rawInt (T:Nat)) f1 a b c)(r:s.heap.get? T=some ot)
  (f:s.heap.IsList l1 xs) (l:xs[k]?=none)
  (m:∀h',(∀c o,c∉z3 n->s.heap.get? c=some o->h'.get? c=some o)->Q none {s with heap:=h'}):
  wpAny (model prog w) A (pyNext (.ref (n+5:Nat))) Q E s:=by
 have d:s.TypeIs (.ref (n+5:Nat)) "zip":=⟨_,Z.z,rfl⟩;unfold pyNext;refine zI9 (zV1 (zQ2 (name:=Str.ofString "__next__") d zS0
  (zP7 zS0 d z24 (fU i j h g Z r f l λh' e hk he=>?_) (z09 _))))
 obtain⟨o,q,p⟩:=he;refine zI9 (z32 (T:="StopIteration") (b:=true) ⟨o,q,p⟩ isSubtype_stop ?_);exact zJ1 (m _ hk)
end
section
variable {X:Cx}{pins:List (Addr×Obj)}{σ:St}{H:Hp}{s:Shared}
def Tri (H0 H:Hp)(xs ys zs vs:List V)(i:Nat):Prop:=vs.length=i/\∀j,j<i->∃t x y z,vs[j]?=some (.ref t)/\xs[j]?=some x/\ys[j]?=some y/\zs[j]?=some z/\H t=some (.tup [x,y,z])/\H0 t=none
structure ZAt (X:Cx)(pins:List (Addr×Obj))(σ:St)(H:Hp)(n l1 l2 l3:Nat)(S:Addr)(xs ys zs:List V)(i:Nat)(s':Shared):Prop where
 ex:∃(H':Hp) (acc:List Value) (vs:List V) (e:Nat) (f0 f1 a b c:Value),Inv X pins σ H' s'/\(∀a o,H a=some o->H' a=some o)/\s'.heap.get? S=some {cls:=.type "list",dict:=none,data:=.seq acc.toArray e,slots:=#[]}/\H' S=none/\(∀b∈z3 n,H' b=none)/\
  wj s'.heap n l1 l2 l3 i f0 f1 a b c/\(i=0/\f0=.none\/∃(T:Nat) (ot:Obj),f0=rawInt (T:Nat)/\s'.heap.get? T=some ot/\T∉S::z3 n)/\Vals vs acc/\Tri H H' xs ys zs vs i
structure zt7 (X:Cx)(pins:List (Addr×Obj))(σ:St)(H:Hp)(S:Addr)(xs ys zs:List V)(s':Shared):Prop where
 ex:∃(H':Hp) (acc:List Value) (vs:List V) (e:Nat),Inv X pins σ H' s'/\(∀a o,H a=some o->H' a=some o)/\s'.heap.get? S=some {cls:=.type "list",dict:=none,data:=.seq acc.toArray e,slots:=#[]}/\H' S=none/\Vals vs acc/\Tri H H' xs ys zs vs xs.length
theorem Tri.snoc {H0 H H':Hp}{xs ys zs vs:List V}{i:Nat}{t:Addr}{x y z:V}(h:Tri H0 H xs ys zs vs i)(k:∀a o,H a=some o->H' a=some o)(n:xs[i]?=some x)(hy:ys[i]?=some y)(hz:zs[i]?=some z)(p:H' t=some (.tup [x,y,z]))(hn:H0 t=none):Tri H0 H' xs ys zs (vs++[.ref t]) (i+1):=by
 refine⟨by rw[zM9,h.1];rfl,λj g=>?_⟩;rcases zO5 j i with b|b
 ·obtain⟨t',d,f,c,e1,q,r,l,m,e⟩:=h.2 j b;exact⟨t',d,f,c,by rw[zP5 (by rw[h.1];exact b)];exact e1,q,r,l,k _ _ m,e⟩
 ·have:j=i:=(zT0 (zS8 g) b);subst this;exact⟨t,x,y,z,by rw[zR2 (by rw[h.1];exact zJ5 _),h.1];simp,n,hy,hz,p,hn⟩
theorem jQ {A:Around}{R:Result->Shared->Prop}{n l1 l2 l3:Nat}{S:Addr}{xs ys zs:List V}(hh:A.handled=none)(h1:l1<n)(h2:l2<n)(h3:l3<n)(fS:∀H',H' S=none->yT X pins H' S)(fz:∀b∈z3 n,∀H',H' b=none->yT X pins H' b)(l:S∉z3 n)
  (Q:SqL X.K H l1 xs) (q2:SqL X.K H l2 ys) (q3:SqL X.K H l3 zs) (e2:ys.length=xs.length) (e3:zs.length=xs.length) (h0:0<xs.length) (hN:xs.length<=1000)
  (hR:∀s',zt7 X pins σ H S xs ys zs s'->R (.ok (.ret .none)) s'):
  ∀(k i:Nat) (s:Shared),xs.length-i=k->i<=xs.length->ZAt X pins σ H n l1 l2 l3 S xs ys zs i s->codeAny (model X.prog X.w) A (.builtin "list.extend.loop" ⟨[.ref S,.ref (n+5:Nat),.none],[]⟩) R s:=by
 have a6:A.in1.handled=none:=hh;intro k
 induction k with
 |zero=>
  intro i s hk hi y;have a4:i=xs.length:=(zA2 hk hi);subst a4;obtain⟨H',acc,vs,e,f0,f1,a,b,c,I,st,M,nS,W,Z,fr,U,tr⟩:=y.ex;refine zU2 PySem.F.entry_extend_loop ?_;rw[zS6 zT7 _];show wpAny _ A.in1 (pyNext (.ref (n+5:Nat)) >>= _) _ _ s;rcases fr with⟨z,_⟩|⟨T,ot,rfl,C,g⟩
  ·exact(zP1 _ (zJ4 h0 (zL0 z))).elim
  obtain⟨N,B,p1,a5⟩:=I.list (wa Q λa o _ e=>st a o e);refine zI9 (iQ a6 h1 h2 h3 Z C p1.isList (by rw[List.getElem?_toArray,zT6];rw[B.length];exact zJ5 _) λh' j=>?_);refine zJ1 (hR _ ⟨H',acc,vs,e,I.turnL (t':=s.toks) (ch:=z3 n) (λb o hb q=>j b o hb q) (λb hb=>fz b hb H' (W b hb)),st,j _ _ l M,nS,U,tr⟩)
 |succ k ih=>
  intro i s hk hi y;have r:i<xs.length:=(zx2 hk);obtain⟨H',acc,vs,e,f0,f1,a,b,c,I,st,M,nS,W,Z,fr,U,tr⟩:=y.ex;refine zU2 PySem.F.entry_extend_loop ?_;rw[zS6 zT7 _];show wpAny _ A.in1 (pyNext (.ref (n+5:Nat)) >>= _) _ _ s;obtain⟨N,B,p1,a5⟩:=I.list (wa Q λa o _ e=>st a o e);obtain⟨a9,a0,p2,b1⟩:=I.list (wa q2 λa o _ e=>st a o e);obtain⟨b0,a1,p3,b2⟩:=I.list (wa q3 λa o _ e=>st a o e);have gx:xs[i]?=some xs[i]:=zJ2 r;have gy:ys[i]?=some ys[i]:=zJ2 (zJ4 r (zL0 e2.symm));have gz:zs[i]?=some zs[i]:=zJ2 (zJ4 r (zL0 e3.symm));obtain⟨u,hu,ru⟩:=B.get gx;obtain⟨v,hv,a2⟩:=a0.get gy;obtain⟨w,hw,a8⟩:=a1.get gz;have t:acc.length=i:=by rw[<-U.length,tr.1]
  have G:∀b∈z3 n,b<s.heap.objs.size:=λb hb=>by
   have:∃o,s.heap.get? b=some o:=by
    simp only[z3,zJ6,zL1,zO0]at hb;obtain⟨o1,Q,_⟩:=Z.i1;obtain⟨o2,q2,_⟩:=Z.i2;obtain⟨o3,q3,_⟩:=Z.i3;rcases hb with rfl|rfl|rfl|rfl|rfl|rfl
    ·exact⟨_,Q⟩
    ·exact⟨_,q2⟩
    ·exact⟨_,q3⟩
    ·exact⟨_,Z.ti⟩
    ·exact⟨_,Z.to⟩
    ·exact⟨_,Z.z⟩
   obtain⟨o,q⟩:=this;exact zK3 q
  have main:∀(h':Heap) (m p a' Y c':Value),wj h' n l1 l2 l3 (i+1) m p a' Y c'->(∃(T:Nat) (ot:Obj),m=rawInt (T:Nat)/\h'.get? T=some ot/\T∉S::z3 n)->h'.get? s.heap.objs.size=some (tO3 u v w)->
    (∀c o,c∉z3 n->s.heap.get? c=some o->h'.get? c=some o)->wpAny (model X.prog X.w) A.in1 (updateSeq S (·.push (.ref s.heap.objs.size)) >>= λ_=>again (.builtin "list.extend.loop" ⟨[.ref S,.ref (n+5:Nat),.none],[]⟩))
     (λfin s'=>match fin with|.done f=>R (.ok f) s'|.again c'=>c'.quiet=true/\codeAny (model X.prog X.w) A c' R s') (λe s'=>R (.error e) s') {s with heap:=h'}:=by
   intro h' m p a' Y c' h ⟨T,ot,hf,C,g⟩ D j;have nT:H' s.heap.objs.size=none:=I.hok.fresh (zJ5 _);have a7:H s.heap.objs.size=none:=by
    cases q:H s.heap.objs.size with
    |none=>rfl
    |some o=>rw[st _ _ q]at nT;cases nT
   have E:∀a o,H' a=some o->upd H' s.heap.objs.size (.tup [xs[i],ys[i],zs[i]]) a=some o:=λa o q=>by rw[zg (zm q nT)];exact q
   have J:=I.turnLay (t':=s.toks) (h':=h') (ch:=z3 n) (T:=s.heap.objs.size) (o:=.tup [xs[i],ys[i],zs[i]]) j (λb hb=>fz b hb H' (W b hb)) (zJ5 _) ⟨by show 3<=sizeLine;decide,[u,v,w],.cons ru (.cons a2 (.cons a8 .nil)),_,D,rfl,0,rfl⟩;have O:=j _ _ l M;have P:S<s.heap.objs.size:=zK3 M;have L:upd H' s.heap.objs.size (.tup [xs[i],ys[i],zs[i]]) S=none:=by rw[zg (zK9 P)];exact nS
   obtain⟨e',a3⟩:∃e',(h'.update S (Obj.mapSeq (·.push (Value.ref s.heap.objs.size)))).get? S=some {cls:=.type "list",dict:=none,data:=.seq (acc++[Value.ref s.heap.objs.size]).toArray e',slots:=#[]}:=by
    have:=zU0 (c:="list") O λx=>x.push (Value.ref s.heap.objs.size);rw[List.push_toArray]at this;exact⟨_,this⟩
   refine zI9 ?_;refine zV9 O rfl (zJ1 ⟨zX3 zT7 _,ih (i+1) _ (zA6 hk) r ⟨_,acc++[.ref s.heap.objs.size],vs++[.ref s.heap.objs.size],e',m,p,a',Y,c',
    J.turnL (t':=s.toks) (ch:=[S]) (λb o hb q=>(zO2 _ _ (zN9 (by simpa using hb))).trans q) (λb hb=>by rw[zL9.mp hb];exact fS _ L),λa o q=>E _ _ (st a o q),a3,L,λb hb=>?_,?_,.inr ⟨T,ot,hf,?_,g⟩,U.append (.cons (show RelV (.ref s.heap.objs.size) (.ref s.heap.objs.size)from rfl) .nil),tr.snoc E gx gy gz zl a7⟩⟩)
    (by rw[zK4,t,zP6];lia) (by show(acc.toArray.push _).size<=sizeLine+1;rw[Array.size_push,zK4,t,zP6];lia)
   ·rw[zg]
    ·exact W b hb
    ·exact zK9 (G b hb)
   ·have d:∀b o,b≠S->h'.get? b=some o->(h'.update S (Obj.mapSeq (·.push (Value.ref s.heap.objs.size)))).get? b=some o:=λb o hb q=>(zO2 _ _ (zN9 hb)).trans q;simp only[z3,zJ6,zL1,zO0,not_or]at l;obtain⟨d1,d2,d3,d4,d5,d6⟩:=l;exact⟨d _ _ (zN9 d6) h.z,d _ _ (zN9 d4) h.ti,d _ _ (zN9 d5) h.to,h.i1.at λo q=>d _ o (zN9 d1) q,h.i2.at λo q=>d _ o (zN9 d2) q,h.i3.at λo q=>d _ o (zN9 d3) q⟩
   ·exact(zO2 _ _ (λz=>g (by rw[<-z];exact zK5))).trans C
  rcases fr with⟨_,rfl⟩|⟨T,ot,rfl,C,g⟩
  ·refine zI9 (om h1 h2 h3 Z p1.isList p2.isList p3.isList (by simpa using hu) (by simpa using hv) (by simpa using hw) λh' h D j=>?_);refine main h' _ _ _ _ _ h ⟨s.heap.objs.size,_,rfl,D,?_⟩ D j;intro z;rcases zJ6.mp z with z|z
   ·exact absurd (zK3 M) (by rw[<-z];exact zP1 _)
   ·exact absurd (G _ z) (zP1 _)
  ·refine zI9 (mL h1 h2 h3 Z C p1.isList p2.isList p3.isList (by simpa using hu) (by simpa using hv) (by simpa using hw) λh' p h D j=>?_);exact main h' _ _ _ _ _ h ⟨T,ot,rfl,j _ _ (λz=>g (zJ8 _ z)) C,g⟩ D j
end
theorem tL (a b c:Value):checkTypeCall "zip" ⟨[a,b,c],[]⟩=pure ():=by kernel_rfl
theorem rG (a b c:Value):checkBuiltinCall "zip.__new__" ⟨[.type "zip",a,b,c],[]⟩=pure ():=by kernel_rfl
theorem vq (a b c d:Value):argsOk "object.__init__" ⟨[a,b,c,d],[]⟩:=by unfold argsOk;rw[signature?_of (id:="object.__init__") (n:=['_','_','t','i','n','i','_','_']) (o:=['t','c','e','j','b','o']) (by kernel_rfl) PySem.F.owner_object];kernel_rfl
theorem mR :typeLookup (.type "zip") "__len__"=pure none:=by rw[z39,zY1];kernel_rfl
theorem nq :typeLookup (.type "zip") "__length_hint__"=pure none:=by rw[z39,zY1];kernel_rfl
abbrev itO (l:Addr):Obj:={cls:=.type "list_iterator",data:=.fields #[.ref l,.int 0 0]}
abbrev zh3 (h:Heap)(l1 l2 l3:Addr):Heap:=((h.push (itO l1)).push (itO l2)).push (itO l3)
abbrev zh4 (h:Heap)(l1 l2 l3:Addr):Heap:=(zh3 h l1 l2 l3).push (tO3 (.ref h.objs.size) (.ref (h.push (itO l1)).objs.size) (.ref ((h.push (itO l1)).push (itO l2)).objs.size))
abbrev zh5 (h:Heap)(l1 l2 l3:Addr):Heap:=(zh4 h l1 l2 l3).push (tO3 .none .none .none)
abbrev zh6 (h:Heap)(l1 l2 l3:Addr):Heap:=(zh5 h l1 l2 l3).push (zO .none (.bool false) (zh3 h l1 l2 l3).objs.size (zh4 h l1 l2 l3).objs.size)
theorem tU (l1 l2 l3:Addr)(xs ys zs:Array Value):
  Meets (Builtin.«zip.__new__» ⟨[.type "zip",.ref l1,.ref l2,.ref l3],[]⟩) (λ_ R s=>s.heap.IsList l1 xs/\s.heap.IsList l2 ys/\s.heap.IsList l3 zs/\
   R (.ok (.ret (.ref (zh5 s.heap l1 l2 l3).objs.size))) {s with heap:=zh6 s.heap l1 l2 l3}):=
 .of_wp λprog w A R s h=>by
  obtain⟨e,g,d,tk,os⟩:=s;obtain⟨c,a,j,h⟩:=h;have k:=sub_zip;have f:Heap.IsList (Shared.heap ⟨e,g,d,tk,os⟩) l1 xs:=c;have b:Heap.IsList (Shared.heap ⟨e.push {cls:=.type "list_iterator",data:=.fields #[.ref l1,.int 0 0]},g,d,tk,os⟩) l2 ys:=Heap.IsList.push a _;have i:Heap.IsList (Shared.heap ⟨(e.push {cls:=.type "list_iterator",data:=.fields #[.ref l1,.int 0 0]}).push {cls:=.type "list_iterator",data:=.fields #[.ref l2,.int 0 0]},g,d,tk,os⟩) l3 zs:=Heap.IsList.push (Heap.IsList.push j _) _
  wp_walk using zX7 f,zX7 b,zX7 i
  exact⟨_,rfl,h⟩
section
variable {prog:Program}{w:World}{A:Around}{E:Value->Shared->Prop}{s:Shared}
theorem lj {l1 l2 l3:Addr}{xs ys zs:Array Value}{Q:Value->Shared->Prop}(i:s.heap.IsList l1 xs)(e:s.heap.IsList l2 ys)(j:s.heap.IsList l3 zs)
  (h:∀h',wj h' s.heap.objs.size l1 l2 l3 0 .none (.bool false) .none .none .none->h'.objs.size=s.heap.objs.size+6->(∀c o,s.heap.get? c=some o->h'.get? c=some o)->Q (.ref (s.heap.objs.size+5)) {s with heap:=h'}):
  wpAny (model prog w) A (call (.type "zip") [.ref l1,.ref l2,.ref l3]) Q E s:=by
 refine callType_new PySem.F.called_zip (by decide) (tL _ _ _) (rG _ _ _) (λobj=>vq obj _ _ _) PySem.F.entry_zip_new
  (tU l1 l2 l3 xs ys zs) ⟨i,e,j,?_⟩
 have d:(s.heap.push (itO l1)).objs.size=s.heap.objs.size+1:=zQ6 ..;have b:((s.heap.push (itO l1)).push (itO l2)).objs.size=s.heap.objs.size+2:=by rw[zQ6,d]
 have a:(zh3 s.heap l1 l2 l3).objs.size=s.heap.objs.size+3:=by rw[zQ6,b]
 have k:(zh4 s.heap l1 l2 l3).objs.size=s.heap.objs.size+4:=by rw[zQ6,a]
 have g:(zh5 s.heap l1 l2 l3).objs.size=s.heap.objs.size+5:=by rw[zQ6,k]
 have n:(zh6 s.heap l1 l2 l3).objs.size=s.heap.objs.size+6:=by rw[zQ6,g]
 have f:(zh6 s.heap l1 l2 l3).get? (zh5 s.heap l1 l2 l3).objs.size=some _:=zK2 _ rfl;have l:(zh6 s.heap l1 l2 l3).get? (zh4 s.heap l1 l2 l3).objs.size=some _:=zJ0 _ (zK2 _ rfl);have m:(zh6 s.heap l1 l2 l3).get? (zh3 s.heap l1 l2 l3).objs.size=some _:=zJ0 _ (zJ0 _ (zK2 _ rfl));have g3:(zh6 s.heap l1 l2 l3).get? ((s.heap.push (itO l1)).push (itO l2)).objs.size=some _:=zJ0 _ (zJ0 _ (zJ0 _ (zK2 _ rfl)));have g2:(zh6 s.heap l1 l2 l3).get? (s.heap.push (itO l1)).objs.size=some _:=zJ0 _ (zJ0 _ (zJ0 _ (zJ0 _ (zK2 _ rfl))));have g1:(zh6 s.heap l1 l2 l3).get? s.heap.objs.size=some _:=zJ0 _ (zJ0 _ (zJ0 _ (zJ0 _ (zJ0 _ (zK2 _ rfl)))));show _/\_;rw[g,k,a]at f;rw[k]at l;rw[a,b,d]at m;rw[b]at g3;rw[d]at g2;rw[g];exact⟨⟨_,f,rfl⟩,h _ ⟨f,m,l,⟨_,g1,rfl,rfl⟩,⟨_,g2,rfl,rfl⟩,⟨_,g3,rfl,rfl⟩⟩ n λc o x=>
  zJ0 _ (zJ0 _ (zJ0 _ (zJ0 _ (zJ0 _ (zJ0 _ x)))))⟩
end
section
variable {X:Cx}{pins:List (Addr×Obj)}{σ:St}{H:Hp}{s:Shared}
theorem jT {A:Around}{R:Result->Shared->Prop}{n l1 l2 l3:Nat}{S:Addr}{xs ys zs:List V}(hh:A.handled=none)(T:l1<n)(h2:l2<n)(h3:l3<n)(I:Inv X pins σ H s)(Z:wj s.heap n l1 l2 l3 0 .none (.bool false) .none .none .none)(B:s.heap.get? S=some {cls:=.type "list",data:=.seq #[]})
  (u:H S=none) (nz:∀b∈z3 n,H b=none) (v:∀H',H' S=none->yT X pins H' S) (O:∀b∈z3 n,∀H',H' b=none->yT X pins H' b) (r:S∉z3 n)
  (N:SqL X.K H l1 xs) (q2:SqL X.K H l2 ys) (q3:SqL X.K H l3 zs) (e2:ys.length=xs.length) (P:zs.length=xs.length) (h0:0<xs.length) (hN:xs.length<=1000)
  (Q:∀s',zt7 X pins σ H S xs ys zs s'->R (.ok (.ret .none)) s'):
  wpAny (model X.prog X.w) A.in1 (Builtin.«list.__init__» ⟨[.ref S,.ref (n+5:Nat)],[]⟩)
   (λfin s'=>match fin with|.done f=>R (.ok f) s'|.again c'=>c'.quiet=true/\codeAny (model X.prog X.w) A c' R s') (λe s'=>R (.error e) s') s:=by
 have k:=r;simp only[z3,zJ6,zL1,zO0,not_or]at k;obtain⟨M,G,D,E,L,y⟩:=k;show wpAny _ _ (do let old <-Builtin.List.listItems (.ref S);Builtin.List.listUpdate (.ref S) (λ_=>#[]);letGo old.toList.reverse;Builtin.List.listExtendWith (.ref S) (.ref (n+5:Nat)) .none) _ _ s;refine zI9 ?_;unfold Builtin.List.listItems;refine zI9 (zS5 B rfl (zJ1 ?_));show wpAny _ _ (updateSeq S (λ_=>#[]) >>= λ_=>letGo (#[]:Array Value).toList.reverse >>= λ_=>Builtin.List.listExtendWith (.ref S) (.ref (n+5:Nat)) .none) _ _ s;refine zI9 (zV9 B rfl ?_);obtain⟨m,g⟩:∃m,(s.heap.update S (Obj.mapSeq (λ_=>(#[]:Array Value)))).get? S=some {cls:=.type "list",dict:=none,data:=.seq #[] m,slots:=#[]}:=⟨_,zU0 (c:="list") B λ_=>#[]⟩;have d:∀b o,b≠S->s.heap.get? b=some o->(s.heap.update S (Obj.mapSeq (λ_=>(#[]:Array Value)))).get? b=some o:=
  λb o hb e=>(zO2 _ _ (zN9 hb)).trans e
 have t:wj (s.heap.update S (Obj.mapSeq (λ_=>(#[]:Array Value)))) n l1 l2 l3 0 .none (.bool false) .none .none .none:=⟨d _ _ (zN9 y) Z.z,d _ _ (zN9 E) Z.ti,d _ _ (zN9 L) Z.to,Z.i1.at λo q=>d _ o (zN9 M) q,Z.i2.at λo q=>d _ o (zN9 G) q,Z.i3.at λo q=>d _ o (zN9 D) q⟩;refine zI9 (wpAny_letGo ?_);have J:Inv X pins σ H {s with heap:=s.heap.update S (Obj.mapSeq (λ_=>(#[]:Array Value))),toks:=s.toks}:=I.turnL (ch:=[S]) (λb o hb q=>d b o (by simpa using hb) q) λb hb=>by rw[zL9.mp hb];exact v H u
 have p:({s with heap:=s.heap.update S (Obj.mapSeq (λ_=>(#[]:Array Value)))}:Shared).TypeIs (.ref (n+5:Nat)) "zip":=⟨_,t.z,rfl⟩;unfold Builtin.List.listExtendWith;refine zI9 (wpAny_typeOf p ?_);have Y:Builtin.List.listSameRef (.ref S) (.ref (n+5:Nat))=false:=by simp[Builtin.List.listSameRef];exact y
 have b2:(Value.type "zip" == Value.type "list")=false:=by decide
 have U:(Value.type "zip" == Value.type "tuple")=false:=by decide
 simp only[Y,b2,U,Bool.or_false,zT5,zY3];refine zI9 (wpAny_pyIter_slot p PySem.F.slot_zip_iter (zP7 PySem.F.slot_zip_iter p PySem.F.entry_zip_iter ?_ (PySem.F.args_zip_iter_1 _)));show wpAny _ _ (ret (.ref (n+5:Nat))) _ _ _;refine zJ1 ⟨_,rfl,"zip",_,p,zS0.lookup,?_⟩;refine zI9 (zO9 ?_);unfold Builtin.List.listLengthHint;refine zI9 (z38 p mR ?_);show wpAny _ _ (specialOf (Value.ref (n+5:Nat)) (Str.ofString "__length_hint__") >>= _) _ _ _;refine zI9 (z38 p nq ?_);refine zJ1 ?_;have key:∀(h:Heap) (e:Nat),h.get? S=some {cls:=.type "list",dict:=none,data:=.seq #[] e,slots:=#[]}->(∀b o,b≠S->s.heap.get? b=some o->h.get? b=some o)->codeAny (model X.prog X.w) A (.builtin "list.extend.loop" ⟨[.ref S,.ref (n+5:Nat),.none],[]⟩) R {s with heap:=h}:=by
  intro h e C a;refine jQ hh T h2 h3 v O r N q2 q3 e2 P h0 hN Q xs.length 0 _ (by lia) (zK7 _) ⟨H,[],[],e,.none,.bool false,.none,.none,.none,I.turnL (t':=s.toks) (ch:=[S]) (λb o hb q=>a b o (by simpa using hb) q) (λb hb=>by rw[zL9.mp hb];exact v H u),λ_ _ e=>e,C,u,nz,?_,.inl ⟨rfl,rfl⟩,.nil,rfl,λj W=>absurd W (z40 _)⟩;exact⟨a _ _ (zN9 y) Z.z,a _ _ (zN9 E) Z.ti,a _ _ (zN9 L) Z.to,Z.i1.at λo q=>a _ o (zN9 M) q,Z.i2.at λo q=>a _ o (zN9 G) q,Z.i3.at λo q=>a _ o (zN9 D) q⟩
 refine zN4 (λ_=>?_) (λ_=>zJ1 ⟨zX3 zT7 _,key _ _ g d⟩);refine zI9 (zR8 ?_);refine zI9 ?_;show wpAny _ _ (updateSeq S (·.push .none) >>= λ_=>updateSeq S (·.pop)) _ _ _;refine zI9 (zV9 g rfl ?_);obtain⟨a0,i⟩:∃m,((s.heap.update S (Obj.mapSeq (λ_=>(#[]:Array Value)))).update S (Obj.mapSeq (·.push Value.none))).get? S=some {cls:=.type "list",dict:=none,data:=.seq #[.none] m,slots:=#[]}:=⟨_,zU0 (c:="list") g λx=>x.push Value.none⟩;refine zV9 (hz:=by seq_fits) i rfl ?_;obtain⟨a1,l⟩:∃m,(((s.heap.update S (Obj.mapSeq (λ_=>(#[]:Array Value)))).update S (Obj.mapSeq (·.push Value.none))).update S (Obj.mapSeq (·.pop))).get? S=some {cls:=.type "list",dict:=none,data:=.seq #[] m,slots:=#[]}:=⟨_,zU0 (c:="list") i λx=>x.pop⟩;refine zJ1 ⟨zX3 zT7 _,key _ _ l λb o hb e=>?_⟩;exact(zO2 _ _ (zN9 hb)).trans ((zO2 _ _ (zN9 hb)).trans (d b o hb e))
end
section
variable {X:Cx}{pins:List (Addr×Obj)}{σ:St}{H:Hp}{s:Shared}
theorem tZ {A:Around}{E:Value->Shared->Prop}{Q:Value->Shared->Prop}{n l1 l2 l3:Nat}{xs ys zs:List V}(y:A.handled=none)(p:l1<n)(v:l2<n)(u:l3<n)(I:Inv X pins σ H s)(Z:wj s.heap n l1 l2 l3 0 .none (.bool false) .none .none .none)
  (B:∀b∈z3 n,H b=none) (l:∀b∈z3 n,∀H',H' b=none->yT X pins H' b)
  (d:SqL X.K H l1 xs) (g:SqL X.K H l2 ys) (i:SqL X.K H l3 zs) (t:ys.length=xs.length) (m:zs.length=xs.length) (h0:0<xs.length) (C:xs.length<=1000)
  (r:∀D s',s.heap.objs.size<=D->zt7 X pins σ H D xs ys zs s'->(∀H',H' D=none->yT X pins H' D)->Q (.ref D) s'):
  wpAny (model X.prog X.w) A (call (.type "list") [.ref (n+5:Nat)]) Q E s:=by
 refine callType_codes (Q₁:=λobj a=>obj=.ref s.heap.objs.size/\a={s with heap:=s.heap.push {cls:=.type "list",data:=.seq #[]}}) PySem.F.called_list (PySem.F.typeCall_list_1 _) PySem.F.entry_list_init
  (code_list_new _ ⟨rfl,rfl⟩) λobj a c=>?_
 obtain⟨rfl,rfl⟩:=c;have k:(s.heap.push {cls:=.type "list",data:=.seq #[]}).get? s.heap.objs.size=some {cls:=.type "list",data:=.seq #[]}:=zK2 _ rfl;have up:∀b o,s.heap.get? b=some o->(s.heap.push {cls:=.type "list",data:=.seq #[]}).get? b=some o:=λb o e=>zJ0 _ e;have j:∀H':Hp,H' s.heap.objs.size=none->yT X pins H' s.heap.objs.size:=λH' h=>I.fpOk (zJ5 _) h;have f:s.heap.objs.size∉z3 n:=λhb=>by
  have:∃o,s.heap.get? s.heap.objs.size=some o:=by
   simp only[z3,zJ6,zL1,zO0]at hb;obtain⟨G,d,_⟩:=Z.i1;obtain⟨L,g,_⟩:=Z.i2;obtain⟨J,i,_⟩:=Z.i3;rcases hb with z|z|z|z|z|z<;>rw[z]
   ·exact⟨_,d⟩
   ·exact⟨_,g⟩
   ·exact⟨_,i⟩
   ·exact⟨_,Z.ti⟩
   ·exact⟨_,Z.to⟩
   ·exact⟨_,Z.z⟩
  obtain⟨o,q⟩:=this;exact absurd (zK3 q) (zP1 _)
 refine⟨⟨_,k,rfl⟩,PySem.F.args_list_init_2 _ _,jT (A:=A.in1) y p v u (I.kept (t':=s.toks) up) ⟨up _ _ Z.z,up _ _ Z.ti,up _ _ Z.to,Z.i1.at λo q=>up _ o q,Z.i2.at λo q=>up _ o q,Z.i3.at λo q=>up _ o q⟩ k (I.hok.fresh (zJ5 _)) B j l f d g i t m h0 C λs' x=>⟨rfl,r _ s' (zJ5 _) x j⟩⟩
variable {a b c:Expr}{p p0 pos pos2:Pos}
theorem oe {R:TA}(hc:X.calm=true)(hgl:Gl X "list")(A:X.mg "list"=none)(hg:Gl X "zip")(hm:X.mg "zip"=none)(ha:PA X [a,b,c] R)
  (g:starEach [.Call (.Name "zip" p) [a,b,c] [] pos2] X.env=[(false,eval (.Call (.Name "zip" p) [a,b,c] [] pos2) X.env)]:=by rfl)
  (hs:starEach [a,b,c] X.env=(false,eval a X.env)::starEach [b,c] X.env:=by rfl) (hpl:(backTo pos2 (starEach [b,c] X.env)).any (·.1)=false:=by rfl):
  PE X (.Call (.Name "list" p0) [.Call (.Name "zip" p) [a,b,c] [] pos2] [] pos) (λσ H Q=>R σ H λvs H1=>∃(l1 l2 l3:Addr) (xs ys zs:List V),vs=[.ref l1,.ref l2,.ref l3]/\SqL X.K H1 l1 xs/\SqL X.K H1 l2 ys/\SqL X.K H1 l3 zs/\ys.length=xs.length/\zs.length=xs.length/\0<xs.length/\xs.length<=1000/\
   ∀D H' vs,H1 D=none->(∀a o,H1 a=some o->H' a=some o)->H' D=some (.lst vs)->(∃m,(∀a o,m a=some o->a≠D/\H' a=some o)/\Tri H1 m xs ys zs vs xs.length)->Q (.ref D) H'):=by
 intro pins s σ H Q I h;refine Call_ (xt I hgl A boot_list (zQ1 ?_ g rfl));rw[g];show wpAny _ _ (spliced ((false,eval _ X.env)::backTo pos [])) _ _ s;refine Calls.spliced_cons ?_;refine Call_ (xt I hg hm boot_zip (zQ1 (thn (ha pos2 pins s σ H _ I h) λus s1 y=>?_) hs hpl));obtain⟨vs,H1,f,d,S⟩:=y;obtain⟨l1,l2,l3,xs,ys,zs,e,t,i,r,e2,e3,h0,N,q⟩:=S;subst e;obtain⟨u,v,w,rfl,ru,T,E⟩:∃u v w,us=[u,v,w]/\RelV (.ref l1) u/\RelV (.ref l2) v/\RelV (.ref l3) w:=by
  cases d with
  |cons a d=>
   cases d with
   |cons b d=>
    cases d with
    |cons c d=>
     cases d;exact⟨_,_,_,rfl,a,b,c⟩
 cases(show u=Value.ref l1 from ru);cases(show v=Value.ref l2 from T);cases(show w=Value.ref l3 from E);obtain⟨P,a2,p1,a1⟩:=f.list t;obtain⟨J,U,p2,a0⟩:=f.list i;obtain⟨M,W,p3,a3⟩:=f.list r;refine lj p1.isList p2.isList p3.isList λh' Z sz hk=>?_;have F:l1<s1.heap.objs.size:=by obtain⟨o,e,_⟩:=p1.isList;exact zK3 e
 have x:l2<s1.heap.objs.size:=by obtain⟨o,e,_⟩:=p2.isList;exact zK3 e
 have C:l3<s1.heap.objs.size:=by obtain⟨o,e,_⟩:=p3.isList;exact zK3 e
 have le:∀b∈z3 s1.heap.objs.size,s1.heap.objs.size<=b:=λb hb=>by
  simp only[z3,zJ6,zL1,zO0]at hb;have key:∀n b:Nat,(b=n\/b=n+1\/b=n+2\/b=n+3\/b=n+4\/b=n+5)->n<=b:=λn b h=>by lia
  exact key _ _ hb
 have O:Inv X pins σ H1 {s1 with heap:=h',toks:=s1.toks}:=f.kept λb o e=>hk b o e;refine zO8 (Q:=_) (show wpAny _ _ (spliced []) (λvs k=>vs=[]/\k={s1 with heap:=h'}) X.xe {s1 with heap:=h'}from zJ1 ⟨rfl,rfl⟩) (λvs s2 hv=>?_) λ_ _ z=>z;obtain⟨rfl,rfl⟩:=hv;refine tZ (s:={s1 with heap:=h'}) (I.ok.hd hc) F x C O Z (λb hb=>f.hok.fresh (le b hb)) (λb hb H' hn=>f.fpOk (le b hb) hn) t i r e2 e3 h0 N λD s' lD ze fD=>?_;obtain⟨H',acc,vs,e,Y,st,hD,L,G,l⟩:=ze.ex;have B:H1 D=none:=O.hok.fresh lD;have j:∀a o,H' a=some o->a≠D/\upd H' D (.lst vs) a=some o:=λa o q=>by
  have n:a≠D:=λz=>by rw[z,L]at q;cases q
  exact⟨n,by rw[zg n];exact q⟩
 refine⟨.ref D,upd H' D (.lst vs),Y.adopt (fD H' L) ⟨?_,acc,e,G,hD⟩,rfl,q D _ vs B (λa o q=>(j a o (st a o q)).2) zl ⟨H',j,l⟩⟩;rw[l.1,zP6];exact zz3 N
end
def aT (a b c:PyData):PyData:=.tuple [a,b,c]
def xE :List PyData->List PyData->List PyData->List PyData
 |a::as,b::bs,c::cs=>aT a b c::xE as bs cs
 |_,_,_=>[]
theorem uH :∀{as bs cs:List PyData},bs.length=as.length->cs.length=as.length->(xE as bs cs).length=as.length
 |[],_,_,_,_=>rfl
 |a::as,b::bs,c::cs,e,d=>by rw[xE,zL8,zL8,uH (by simpa using e) (by simpa using d)]
theorem uk :∀{as bs cs:List PyData}{j:Nat}{d:PyData},(xE as bs cs)[j]?=some d->∃a b c,as[j]?=some a/\bs[j]?=some b/\cs[j]?=some c/\d=aT a b c
 |[],_,_,j,d,h=>by simp[xE]at h
 |a::as,[],_,j,d,h=>by simp[xE]at h
 |a::as,b::bs,[],j,d,h=>by simp[xE]at h
 |a::as,b::bs,c::cs,0,d,h=>by simp[xE]at h;exact⟨a,b,c,rfl,rfl,rfl,h.symm⟩
 |a::as,b::bs,c::cs,j+1,d,h=>by
  obtain⟨x,y,z,e1,f,g,e⟩:=uk (as:=as) (bs:=bs) (cs:=cs) (j:=j) (d:=d) (by simpa[xE]using h);exact⟨x,y,z,by simpa using e1,by simpa using f,by simpa using g,e⟩
theorem kb {G:Hp}:∀{vs:List V}{ds:List PyData},vs.length=ds.length->(∀(j:Nat) d,ds[j]?=some d->∃v,vs[j]?=some v/\AV G v d)->AVs G vs ds
 |[],[],_,_=>.nil
 |v::vs,d::ds,b,h=>by
  obtain⟨c,e,a⟩:=h 0 d rfl;cases e;exact .cons a (kb (by simpa using b) λj d' hd=>h (j+1) d' (by simpa using hd))
section
variable {X:Cx}{α:Ev}{a b c:Expr}{p p0 pos pos2:Pos}
theorem oN {Q:List PyData->Prop}(W:X.calm=true)(hgl:Gl X "list")(s:X.mg "list"=none)(hg:Gl X "zip")(hm:X.mg "zip"=none)
  (h:EvA X α [a,b,c] λas=>∃ds es fs,as=[.dat (.list ds),.dat (.list es),.dat (.list fs)]/\es.length=ds.length/\fs.length=ds.length/\0<ds.length/\ds.length<=1000/\Q (xE ds es fs))
  (n:starEach [.Call (.Name "zip" p) [a,b,c] [] pos2] X.env=[(false,eval (.Call (.Name "zip" p) [a,b,c] [] pos2) X.env)]:=by rfl)
  (L:starEach [a,b,c] X.env=(false,eval a X.env)::starEach [b,c] X.env:=by rfl) (hpl:(backTo pos2 (starEach [b,c] X.env)).any (·.1)=false:=by rfl):
  EvL X α (.Call (.Name "list" p0) [.Call (.Name "zip" p) [a,b,c] [] pos2] [] pos) Q:=λF σ H R m k=>by
 refine⟨_,oe W hgl s hg hm yy n L hpl,?_⟩;refine h F σ H _ m λas vs H1 I t1 u f=>?_;have m1:=m.kz u t1;obtain⟨ds,es,fs,rfl,l2,l3,l0,S,q⟩:=I;cases f with
 |cons M f=>
  cases f with
  |cons K f=>
   cases f with
   |cons r3 f=>
    cases f;obtain⟨a1,xs,rfl,g1,E⟩:=AV.lst_inv M;obtain⟨a2,ys,rfl,g2,w⟩:=AV.lst_inv K;obtain⟨Z,zs,rfl,g3,G⟩:=AV.lst_inv r3;have g:=E.length;have y2:=w.length;have N:=G.length;refine⟨a1,a2,Z,xs,ys,zs,rfl,SqL.of (zi g1).2,SqL.of (zi g2).2,SqL.of (zi g3).2,(y2.trans (l2.trans g.symm)),(N.trans (l3.trans g.symm)),(zJ4 l0 (zL0 g.symm)),(zK0 (zL0 g) S),λD H' vs l st r tr=>?_⟩;obtain⟨V,sb,i⟩:=tr;have A:zt H1 H':=λa o e=>st a o e;refine k _ _ H' q (t1.same A) (u.trans (Kz.of_same A)) ⟨D,vs,rfl,?_,r,?_⟩
    ·cases z:H D with
     |none=>rfl
     |some o=>rw[u D o z (m.tp.nt (ow0 (m1.fresh l)))]at l;cases l
    ·have v:zt (Gz F α σ H1) (sub (λx=>¬Ow F α σ x/\x≠D) H'):=zr λa o h e=>⟨⟨h,zm e l⟩,st a o e⟩;refine kb (by rw[i.1,uH l2 l3];exact g) λj d hd=>?_;obtain⟨d1,d2,d3,e1,Y,e3,rfl⟩:=uk hd;have T:j<xs.length:=by rw[g];exact(zK1.mp e1).1
     obtain⟨t,x,y,z,f1,f2,P,f4,U,O⟩:=i.2 j T;obtain⟨x',ex,ax⟩:=E.get e1;obtain⟨y',B,J⟩:=w.get Y;obtain⟨z',C,az⟩:=G.get e3;rw[f2]at ex;cases ex;rw[P]at B;cases B;rw[f4]at C;cases C;obtain⟨nt,ht⟩:=sb t _ U;exact⟨_,f1,.tup (zG ⟨m1.fresh O,nt⟩ ht) (.cons (ax.same v) (.cons (J.same v) (.cons (az.same v) .nil)))⟩
theorem nO {ns:List Int}{its:List Value}(h:Vals (ns.map V.int) its):∃ps:List (Int×Tok),its=ps.map (λp=>Value.int p.1 p.2)/\ps.map (·.1)=ns:=by
 induction ns generalizing its with
 |nil=>cases h;exact⟨[],rfl,rfl⟩
 |cons n ns e=>cases h with
  |cons h d=>
   obtain⟨ps,e1,f⟩:=e d;obtain⟨t,rfl⟩:=h;exact⟨(n,t)::ps,by rw[e1];rfl,by rw[<-f];rfl⟩
theorem sZ (ps:List (Int×Tok))(k:Nat):numAt ps.toArray k=(ps.map (·.1)).getD k 0:=by
 unfold numAt;rw[List.getElem?_toArray,zJ7,zK8]
theorem wG (ps:List (Int×Tok)):∀k,k<=ps.length->preSum (numAt ps.toArray) k=((ps.map (·.1)).take k).sum
 |0,_=>by simp[preSum]
 |k+1,h=>by
  have hk:k<(ps.map (·.1)).length:=by rw[zJ3];exact zJ4 (zP2 _) h
  rw[preSum,wG ps k (zK0 (zL2 _ _) h),sZ,zU7,zJ2 hk,List.sum_append,zJ7,zJ2 hk];simp
def Fits (ns:List Int):Prop:=∀k,k<=ns.length->-(2 ^ 62)<=(ns.take k).sum/\(ns.take k).sum<2 ^ 62
theorem ie (m:X.calm=true):xm X (.builtin "sum") (λxs H Q=>∃(l:Addr) (ns:List Int),xs=[.ref l]/\SqL X.K H l (ns.map V.int)/\(∀n∈ns,-(2 ^ 62)<=n/\n<2 ^ 62)/\Fits ns/\Q (.int ns.sum) H):=by
 intro pins s σ H xs us Q I r h;obtain⟨l,ns,rfl,t,hb,hf,q⟩:=h;obtain⟨u,rfl,i⟩:=Vals.one r;cases(show u=Value.ref l from i);obtain⟨its,k,p,hz⟩:=I.list t;obtain⟨ps,rfl,rfl⟩:=nO k;have v:s.heap.IsList l (intItems ps.toArray):=by
  have:=p.isList
  rwa [show intItems ps.toArray=(ps.map λp=>Value.int p.1 p.2).toArray by simp[intItems]]
 refine sum_intList (I.ok.hd m) v (λj o=>?_) λh' tk t' hk=>?_
 ·have d:j<ps.length:=by simpa using o
  have hk:j<(ps.map (·.1)).length:=by rw[zJ3];exact d
  rw[wG ps (j+1) (d),sZ,zJ7,zJ2 hk];have g:=hb _ (zO6 hk);have e:=hf (j+1) (hk);refine⟨⟨?_,?_⟩,?_,?_⟩
  ·show -(2 ^ 63)<=(ps.map (·.1))[j];exact ze3 g.1
  ·show(ps.map (·.1))[j]<2 ^ 63;exact zg9 g.2
  ·exact ze3 e.1
  ·exact zg9 e.2
 ·rw[show preSum (numAt ps.toArray) ps.toArray.size=(ps.map (·.1)).sum by rw[zK4,wG ps ps.length (zJ5 _),<-zJ3 (f:=(·.1)) (as:=ps),zS3]];exact⟨.int _,H,I.kept (t':=tk) hk,⟨_,rfl⟩,q⟩
theorem aS {Q:PyData->Prop}{e:Expr}(j:X.calm=true)(hg:Gl X "sum")(hm:X.mg "sum"=none)(h:EvD X α e λx=>∃ns:List Int,x=.list (ns.map .int)/\(∀n∈ns,-(2 ^ 62)<=n/\n<2 ^ 62)/\Fits ns/\Q (.int ns.sum))(he:starEach [e] X.env=(false,eval e X.env)::starEach [] X.env:=by rfl):
  EvD X α (.Call (.Name "sum" p) [e] [] pos) Q:=by
 refine uc (ie j) hg hm boot_sum (zk (h.imp λx d=>?_) he) (he:=he);obtain⟨ns,e1,hb,hf,q⟩:=d;refine zu ?_;intro F σ H vs R m g k;subst e1;obtain⟨v,rfl,av⟩:=g.one;obtain⟨a,xs,rfl,i,f⟩:=av.lst_inv;cases f.ints;exact⟨a,ns,rfl,SqL.of (zi i).2,hb,hf,k _ _ H q m.tp Kz.refl (.int _)⟩
end
def yg :List Int->List Bool->List Int
 |z::zs,b::bs=>if b=true then yg zs bs else z::yg zs bs
 |_,_=>[]
theorem uC :∀{zs:List Int}{bs:List Bool}{z:Int},z∈yg zs bs->z∈zs
 |[],_,z,h=>by simp[yg]at h
 |y::zs,[],z,h=>by simp[yg]at h
 |y::zs,b::bs,z,h=>by
  rw[yg]at h;split at h
  ·exact zJ8 _ (uC h)
  ·rcases zJ6.mp h with e|h
   ·rw[e];exact zK5
   ·exact zJ8 _ (uC h)
theorem qc :∀(zs:List Int) (bs:List Bool),(yg zs bs).length<=zs.length
 |[],_=>by simp[yg]
 |y::zs,[]=>by simp[yg]
 |y::zs,b::bs=>by
  rw[yg];have:=qc zs bs;split
  ·rw[zL8];exact zK0 this (zL2 _ _)
  ·rw[zL8,zL8];exact Nat.add_le_add this (zJ5 _)
theorem sum_bound :∀{ns:List Int}{m:Int},0<=m->(∀n∈ns,0<=n/\n<=m)->0<=ns.sum/\ns.sum<=ns.length*m
 |[],m,_,_=>by simp
 |n::ns,m,h0,h=>by
  obtain⟨a,b⟩:=sum_bound h0 λx c=>h x (zJ8 _ c);have:=h n zK5;rw[zX4,zL8,Int.natCast_add,Int.add_mul]
  constructor
  ·exact Int.add_nonneg this.1 a
  ·simp;exact zF7 this.2 b
theorem mv {ns:List Int}(h:∀n∈ns,0<=n/\n<=1000000000000)(c:ns.length<=1000):Fits ns:=λk hk=>by
 obtain⟨a,b⟩:=sum_bound (ns:=ns.take k) (m:=1000000000000) (by decide) λn hn=>h n (zR1 hn);have:((ns.take k).length:Int)*1000000000000<=1000*1000000000000:=by
  apply Int.mul_le_mul_of_nonneg_right _ (by decide);rw[zM3];exact zG3 c
 lia
def zo4 (p:Nat):PyData->PyData
 |.tuple [a,b,c]=>if p=1 then b else c
 |_=>.none
def tK :PyData->Bool
 |.tuple [_,_,.bool b]=>b
 |_=>false
theorem rp :∀{ds:List PyData}{zs:List Int}{bs:List Bool},zs.length=ds.length->bs.length=ds.length->((xE ds (zs.map .int) (bs.map .bool)).filter λd=>!tK d).map (zo4 1)=(yg zs bs).map .int
 |[],[],[],_,_=>rfl
 |d::ds,z::zs,b::bs,e,c=>by
  have a:=rp (ds:=ds) (zs:=zs) (bs:=bs) (by simpa using e) (by simpa using c);rw[zN7,zN7,xE,yg,zW6];cases b with
  |true=>simpa[tK,aT]using a
  |false=>simp[tK,aT,zo4];exact a
def xH (d:PyData)(zs:List Int)(bs:List Bool):Prop:=(d=.none/\bs=List.replicate zs.length false)\/∃many free:Nat,d=.tuple [.int many,.int free]/\vD zs many free zs.length bs
theorem xH.len {d:PyData}{zs:List Int}{bs:List Bool}(h:xH d zs bs):bs.length=zs.length:=by
 rcases h with⟨_,rfl⟩|⟨_,_,_,h⟩
 ·simp
 ·exact h.1
def zw :List Int->List Bool->Int
 |z::zs,b::bs=>(if b=true then z else 0)+zw zs bs
 |_,_=>0
theorem vC :∀{zs:List Int}{bs:List Bool},bs.length=zs.length->(yg zs bs).sum=zs.sum-zw zs bs
 |[],[],_=>by simp[yg,zw]
 |z::zs,b::bs,h=>by
  have a:=vC (zs:=zs) (bs:=bs) (by simpa using h);rw[yg,zw,zX4];cases b with
  |true=>rw[if_pos rfl,if_pos rfl,a];lia
  |false=>rw[if_neg (by decide),if_neg (by decide),zX4,a];lia
theorem wZ :∀{zs ys:List Int}{bs cs:List Bool},bs.length=zs.length->zw (zs++ys) (bs++cs)=zw zs bs+zw ys cs
 |[],ys,[],cs,_=>by simp[zw]
 |z::zs,ys,b::bs,cs,h=>by
  rw[zY5,zY5,zw,zw,wZ (by simpa using h)];exact zG0
theorem vt :∀{zs:List Int}{bs:List Bool},(∀b∈bs,b=false)->zw zs bs=0
 |[],_,_=>by simp[zw]
 |_::_,[],_=>by simp[zw]
 |z::zs,b::bs,h=>by
  rw[zw,h b zK5,vt λx a=>h x (zJ8 _ a)];rfl
theorem oS :∀{zs ys:List Int}{bs:List Bool},ys.length=zs.length->(∀i,i<zs.length->zs.getD i 0<=ys.getD i 0)->zw zs bs<=zw ys bs
 |[],[],_,_,_=>by simp[zw]
 |_::_,_::_,[],_,_=>by simp[zw]
 |z::zs,y::ys,b::bs,a,h=>by
  have c:=oS (zs:=zs) (ys:=ys) (bs:=bs) (by simpa using a) λi hi=>by
   have:=h (i+1) (by simpa using hi);simpa using this
  have h0:=h 0 (by simp);simp at h0;rw[zw,zw];split<;>lia
theorem xP :∀{zs ys:List Int}{bs:List Bool}{d:Int},ys.length=zs.length->ys.sum=zs.sum+d->(∀i,i<zs.length->zs.getD i 0<=ys.getD i 0)->zw ys bs<=zw zs bs+d
 |[],[],_,d,_,a,_=>by simp[zw]at a ⊢;exact Int.le_of_eq a
 |z::zs,y::ys,[],d,c,a,h=>by
  have e:=xP (zs:=zs) (ys:=ys) (bs:=[]) (d:=d-(y-z)) (by simpa using c) (by rw[zX4,zX4]at a;exact ze9 a) λi hi=>by
   have:=h (i+1) (by simpa using hi);simpa using this
  have h0:=h 0 (by simp);simp at h0;have e1:zw ys []=0:=by cases ys<;>rfl
  have f:zw zs []=0:=by cases zs<;>rfl
  rw[e1,f]at e;show(0:Int)<=0+d
  lia
 |z::zs,y::ys,b::bs,d,c,a,h=>by
  have e:=xP (zs:=zs) (ys:=ys) (bs:=bs) (d:=d-(y-z)) (by simpa using c) (by rw[zX4,zX4]at a;exact ze9 a) λi hi=>by
   have:=h (i+1) (by simpa using hi);simpa using this
  have h0:=h 0 (by simp);simp at h0;rw[zw,zw];split<;>lia
theorem nE {t:Int}:∀{zs:List Int}{bs cs:List Bool},bs.length=zs.length->cs.length=zs.length->(∀i,i<zs.length->(bs.getD i false=true->zs.getD i 0<=t)/\(bs.getD i false=false->t<=zs.getD i 0))->
  zw zs bs-t*(bs.count true:Nat)<=zw zs cs-t*(cs.count true:Nat)
 |[],[],[],_,_,_=>by simp[zw]
 |z::zs,b::bs,c::cs,e,d,h=>by
  have g:=nE (t:=t) (zs:=zs) (bs:=bs) (cs:=cs) (by simpa using e) (by simpa using d) λi hi=>by
   have:=h (i+1) (by simpa using hi);simpa using this
  have h0:=h 0 (by simp);simp only[List.getD_cons_zero]at h0;rw[zw,zw];have f:t*(((b::bs).count true:Nat):Int)=t*(bs.count true:Nat)+(if b=true then t else 0):=by
   cases b with
   |true=>rw[List.count_cons_self,Int.natCast_add,Int.mul_add,if_pos rfl];simp
   |false=>rw[List.count_cons_of_ne (by decide),if_neg (by decide)];simp
  have a:t*(((c::cs).count true:Nat):Int)=t*(cs.count true:Nat)+(if c=true then t else 0):=by
   cases c with
   |true=>rw[List.count_cons_self,Int.natCast_add,Int.mul_add,if_pos rfl];simp
   |false=>rw[List.count_cons_of_ne (by decide),if_neg (by decide)];simp
  rw[f,a];generalize t*((bs.count true:Nat):Int)=x at *;generalize t*((cs.count true:Nat):Int)=y at *;cases b with
  |true=>
   have:=h0.1 rfl;cases c<;>simp<;>lia
  |false=>
   have:=h0.2 rfl;cases c<;>simp<;>lia
theorem nP {zs ms:List Int}{lo many free:Nat}{bs cs:List Bool}(s:tO (zq (lo:Int) many) zs ms)(hz:lo+many<=zs.length)(hb:bs.length=zs.length)(h:∀q,q<many->bs.getD (ms.getD q 0).toNat false=decide (q<free))(f0:0<free)(hf:free<=many)(h0:∀z∈zs,0<=z)
  (n:cs.length=many) (hn:free<=cs.count true):zw ((zs.drop lo).take many) ((bs.drop lo).take many)<=zw ((zs.drop lo).take many) cs:=by
 have d:ms.length=many:=by rw[s.1.length_eq,zc]
 have f:((zs.drop lo).take many).length=many:=by rw[zM3,zS2];exact zi7 hz
 have k:((bs.drop lo).take many).length=many:=by rw[zM3,zS2];exact zB5 hz hb
 have gb:∀a,a<many->((bs.drop lo).take many).getD a false=bs.getD (lo+a) false:=λa ha=>by rw[zJ7,zJ7,zW5 ha,List.getElem?_drop]
 have gz:∀a,a<many->((zs.drop lo).take many).getD a 0=zs.getD (lo+a) 0:=λa ha=>by rw[zJ7,zJ7,zW5 ha,List.getElem?_drop]
 have up:∀p q,p<q->q<many->zs.getD (ms.getD p 0).toNat 0<=zs.getD (ms.getD q 0).toNat 0:=λp q b hq=>by
  have w:=zQ5.mp s.2 p q (zW3 b (zJ4 hq (zL0 d.symm))) (zJ4 hq (zL0 d.symm)) b;have w:=z49 (show decide _=false from w);simp only[keyOf]at w;rw[zJ7 (l:=ms),zJ7 (l:=ms),zJ2 (zW3 b (zJ4 hq (zL0 d.symm))),zJ2 (zJ4 hq (zL0 d.symm))];simp only[Option.getD_some]
  lia
 have line:=nE (t:=zs.getD (ms.getD (free-1) 0).toNat 0) (zs:=(zs.drop lo).take many) (bs:=(bs.drop lo).take many) (cs:=cs) (by rw[k,f]) (by rw[n,f]) λi hi=>by
  rw[f]at hi;rw[gb i hi,gz i hi];obtain⟨q,hq,e⟩:=zn8 s (m:=((lo+i:Nat):Int)) (Int.ofNat_le.2 (zL2 _ _)) (zy5 hi);have j:=h q hq;rw[e,zR7]at j;have eq:zs.getD (lo+i) 0=zs.getD (ms.getD q 0).toNat 0:=by rw[e,zR7]
  rw[j,eq]
  constructor
  ·intro hd;have hd:=zS9 hd;by_cases he:q=free-1
   ·rw[he];exact zR4 _
   ·exact up q (free-1) (by lia) (zh9 f0 hf)
  ·intro hd;have hd:=z49 hd;exact up (free-1) q (by lia) hq
 have c:=uf s (zK0 hz (zL0 hb.symm)) h hf;rw[c]at line;have t0:0<=zs.getD (ms.getD (free-1) 0).toNat 0:=by
  have:=vc s (q:=free-1) (zh9 f0 hf);have g:(ms.getD (free-1) 0).toNat<zs.length:=by lia
  rw[zJ7 (l:=zs),zJ2 g];exact h0 _ (zO6 _)
 generalize zs.getD (ms.getD (free-1) 0).toNat 0=t at *;have:t*(free:Nat)<=t*(cs.count true:Nat):=Int.mul_le_mul_of_nonneg_left (Int.ofNat_le.2 hn) t0
 lia
theorem qu {zs ys:List Int}{many free a:Nat}{bs cs:List Bool}(mk:vD zs many free zs.length bs)(mk':vD ys many a ys.length cs)(d:ys.length=zs.length)(f0:0<free)(c:free<=a)(hf:a<=many)(h0:∀z∈zs,0<=z):
  ∀k,k<=zs.length / many->zw (zs.take (k*many)) (bs.take (k*many))<=zw (zs.take (k*many)) (cs.take (k*many))
 |0,_=>by simp[zw]
 |k+1,hk=>by
  obtain⟨ms,s,f⟩:=mk.2.2 k hk;obtain⟨h,s',g⟩:=mk'.2.2 k (by rw[d];exact hk);have b:(k+1)*many<=zs.length:=zK0 (zY6 _ hk) (Nat.div_mul_le_self _ _);rw[Nat.add_mul,Nat.one_mul]at b ⊢;have i:=mk.1;have e:=mk'.1;have j:=qu mk mk' d f0 c hf h0 k (zK0 (zL2 _ _) hk);have one:=nP (cs:=(cs.drop (k*many)).take many) s b i f f0 (zK0 c hf) h0 (by rw[zM3,zS2];lia) (by rw[uf s' (zK0 b (zL0 (Eq.trans d.symm e.symm))) g hf];exact c);rw[z28,z28,z28,wZ (by rw[zM3,zM3];lia),wZ (by rw[zM3,zM3];lia)];exact Int.add_le_add j one
theorem dS {zs:List Int}{many free:Nat}{bs:List Bool}(ys:List Int)(hy:ys.length=zs.length)(mk:vD zs many free zs.length bs):zw ys bs=zw (ys.take (zs.length / many*many)) (bs.take (zs.length / many*many)):=by
 have hw:=Nat.div_mul_le_self zs.length many;have c:=mk.1;have e1:zw ys bs=zw (ys.take (zs.length / many*many)++ys.drop (zs.length / many*many)) (bs.take (zs.length / many*many)++bs.drop (zs.length / many*many)):=by rw[zL7,zL7]
 rw[e1,wZ (by rw[zM3,zM3];lia),vt (zs:=ys.drop _) (bs:=bs.drop _) λb hb=>?_,Int.add_zero];obtain⟨j,a,rfl⟩:=zU1.mp hb;rw[List.getElem_drop];rw[zS2]at a;have:=mk.2.1 (zs.length / many*many+j) (zL2 _ _);rw[zJ7,zJ2 (zz2 a)]at this;exact this
theorem cW {zs ys:List Int}{many free a:Nat}{bs cs:List Bool}(mk:vD zs many free zs.length bs)(mk':vD ys many a ys.length cs)(b:ys.length=zs.length)(f0:0<free)(c:free<=a)(hf:a<=many)(h0:∀z∈zs,0<=z):zw zs bs<=zw zs cs:=by
 have d:=dS zs b.symm mk';rw[b]at d;rw[dS zs rfl mk,d];exact qu mk mk' b f0 c hf h0 _ (zJ5 _)
def eN (d:PyData):Prop:=d=.none\/∃many free:Nat,d=.tuple [.int many,.int free]/\0<free/\free<many/\many<64
theorem pV {many free:Nat}{zs:List Int}{bs:List Bool}(h:xH (.tuple [.int many,.int free]) zs bs):vD zs many free zs.length bs:=by
 rcases h with⟨h,_⟩|⟨d,c,h,mk⟩
 ·cases h
 ·injection h with h;injection h with b a;injection a with a _;injection b with b;injection a with a;have e1:d=many:=(zi6 b);have e:c=free:=(zi6 a);rw[e1,e]at mk;exact mk
theorem oB {zs:List Int}{bs:List Bool}(h:xH .none zs bs):zw zs bs=0:=by
 rcases h with⟨_,rfl⟩|⟨_,_,h,_⟩
 ·exact vt λb hb=>(List.mem_replicate.mp hb).2
 ·cases h
theorem mG {d:PyData}{zs ys:List Int}{bs cs:List Bool}{e:Int}(hb:xH d zs bs)(b:xH d ys cs)(hd:eN d)(a:ys.length=zs.length)(c:ys.sum=zs.sum+e)(hle:∀i,i<zs.length->zs.getD i 0<=ys.getD i 0)(h0:∀z∈zs,0<=z)(g:∀z∈ys,0<=z):
  (yg zs bs).sum<=(yg ys cs).sum/\(yg ys cs).sum<=(yg zs bs).sum+e:=by
 rw[vC hb.len,vC b.len,c];rcases hd with rfl|⟨many,free,rfl,f0,f,_⟩
 ·rw[oB hb,oB b];have:=xP (bs:=[]) a c hle;have e1:zw ys []=0:=by cases ys<;>rfl
  have h:zw zs []=0:=by cases zs<;>rfl
  rw[e1,h]at this
  lia
 ·have mk:=pV hb;have mk':=pV b;have a1:=cW mk mk' a f0 (zJ5 _) (zN5 f) h0;have a2:=cW mk' mk a.symm f0 (zJ5 _) (zN5 f) g;have j:=oS (bs:=cs) a hle;have k:=xP (bs:=bs) a c hle
  lia
section
variable {κ:Type}[DecidableEq κ]
def rH (kvs:List (κ×V))(k:κ):Option V:=(kvs.find? λa=>decide (a.1=k)).map (·.2)
theorem sF {p:κ×V}{r:List (κ×V)}{k:κ}(e:p.1=k):rH (p::r) k=some p.2:=by simp[rH,zQ8,e]
theorem sR {p:κ×V}{r:List (κ×V)}{k:κ}(e:¬p.1=k):rH (p::r) k=rH r k:=by simp[rH,zQ8,e]
theorem vf.isSome_eq {o:Option V}{u:Option Value}(r:vf o u):o.isSome=u.isSome:=by
 cases o with
 |none=>cases u with
  |none=>rfl
  |some _=>exact(show False from r).elim
 |some _=>cases u with
  |none=>exact(show False from r).elim
  |some _=>rfl
theorem KV.val {kvs:List (κ×V)}{vs:List (κ×Value)}(r:KV kvs vs)(k:κ):vf (rH kvs k) (valueAt vs k):=by
 unfold KV at r
 induction r with
 |nil=>exact True.intro
 |@cons p q ps qs h t ih=>
  obtain⟨c,d⟩:=h;by_cases e:p.1=k
  ·have a:q.1=k:=c.symm.trans e;have b:valueAt (q::qs) k=some q.2:=by simp[valueAt,zQ8,a]
   rw[sF e,b];exact d
  ·have a:¬q.1=k:=λz=>e (c.trans z);have b:valueAt (q::qs) k=valueAt qs k:=by simp[valueAt,zQ8,a]
   rw[sR e,b];exact ih
end
theorem cT {P:Program}{w:World}{k:Key}{u:Value}(r:RelV (kV k) u):(yB P w).is k u=true:=by
 cases k with
 |inl i=>obtain⟨t,e⟩:=(show ∃t,u=Value.int i t from r);subst e;exact oF P w i t
 |inr x=>obtain⟨t,e⟩:=(show ∃t,u=Value.str x t from r);subst e;exact oA P w x t
theorem rO {P:Program}{w:World}:∀{ks:List Key}{us:List Value},Vals (ks.map kV) us->ItemsAre (yB P w) ks us
 |[],_,r=>by rw[List.map_nil]at r;cases r;exact .nil
 |k::ks,_,r=>by
  rw[zN7]at r;cases r with
  |cons h t=>exact .cons (cT h) (rO t)
abbrev KT (H:Hp):List (List Key×V)->List (List Key×Addr×Value)->Prop:=Paired λp q=>p.1=q.1/\H q.2.1=some (.tup (p.1.map kV))/\RelV p.2 q.2.2
theorem KT.val {H:Hp}{kvs:List (List Key×V)}{xs:List (List Key×Addr×Value)}(r:KT H kvs xs)(k:List Key):vf (rH kvs k) ((atKey xs k).map (·.2)):=by
 induction r with
 |nil=>exact True.intro
 |@cons p q ps qs h t ih=>
  obtain⟨c,_,d⟩:=h;by_cases e:p.1=k
  ·have a:q.1=k:=c.symm.trans e;have b:atKey (q::qs) k=some q.2:=by simp[atKey,zQ8,a]
   rw[sF e,b];exact d
  ·have a:¬q.1=k:=λz=>e (c.trans z);have b:atKey (q::qs) k=atKey qs k:=by simp[atKey,zQ8,a]
   rw[sR e,b];exact ih
section
variable {P:Program}{w:World}{H:Hp}{h:Heap}{a:Addr}
theorem ze5 {u:HO}(ok:HOk P w H h)(e:Rd H a u):zP P w H h a u:=e.ok ok
theorem cz {kvs:List (Key×V)}(ok:HOk P w H h)(e:Rd H a (.dK kvs)):kvs.length<=sizeLine/\(a == sysModules)=false/\∃vs,KV kvs vs/\h.DictOf (yB P w) a vs:=
 show zP P w H h a (.dK kvs)from ze5 ok e
theorem mj {ks:List Key}(ok:HOk P w H h)(e:H a=some (.tup (ks.map kV))):(tupleKind (yB P w)).is h ks a:=by
 obtain⟨_,its,r,o,d,c,n,b⟩:=(show zP P w H h a (.tup (ks.map kV))from ok a _ e);exact⟨o,its.toArray,n,d,c,b,by simpa using rO r⟩
theorem hU {kvs:List (List Key×V)}(ok:HOk P w H h)(e:Rd H a (.dT kvs)):kvs.length<=sizeLine/\(a == sysModules)=false/\
  ∃xs,KT H kvs xs/\h.DictOfH (tupleKind (yB P w)) a xs:=by
 obtain⟨z,y,xs,r,o,es,ep,i,d,c,g,f⟩:=(show zP P w H h a (.dT kvs)from ze5 ok e);refine⟨z,y,xs,r,o,es,ep,i,d,c,g,λx b=>?_,f⟩;have all:∀{l:List (List Key×V)} {m:List (List Key×Addr×Value)},KT H l m->∀x∈m,(tupleKind (yB P w)).is h x.1 x.2.1:=by
  intro l m q
  induction q with
  |nil=>intro x b;exact nomatch b
  |@cons p q ps qs hq t ih=>
   intro x b;rcases zJ6.mp b with e|b
   ·subst e;exact mj ok (by rw[<-hq.1];exact hq.2.1)
   ·exact ih x b
 exact all r x b
end
def gZ (H:Hp)(a:Addr)(y:V)(r:Option V):Prop:=
 (∃kvs k,Rd H a (.dK kvs)/\y=kV k/\r=rH kvs k)\/∃kvs k b,Rd H a (.dT kvs)/\y=.ref b/\H b=some (.tup (k.map kV))/\r=rH kvs k
section
variable {X:Cx}{pins:List (Addr×Obj)}{σ:St}{H:Hp}{s:Shared}{a:Addr}{y v:V}{u r:Value}{o:Option V}{A:Around}{E:Value->Shared->Prop}
theorem iS {Q:Value->Shared->Prop}(n:A.units+1<cLine)(I:Inv X pins σ H s)(g:gZ H a y (some v))(m:RelV y u)(h:∀d s',Inv X pins σ H s'->RelV v d->Q d s'):
  wpAny (model X.prog X.w) A (getItem (.ref a) u) Q E s:=by
 rcases g with⟨kvs,k,e,f,l⟩|⟨kvs,k,b,e,f,t,l⟩
 ·subst f;obtain⟨z,hd,vs,rel,i⟩:=cz I.hok e;obtain⟨d,hw,c⟩:=vf.some_of (v:=v) (o:=valueAt vs k) (by rw[l];exact rel.val k);exact wpAny_getItem_of (cT m) i.mapOf hw (h d _ (I.tok _) c)
 ·subst f;cases(show u=Value.ref b from m);obtain⟨z,hd,xs,rel,i⟩:=hU I.hok e;obtain⟨d,hw,c⟩:=vf.some_of (v:=v) (o:=(atKey xs k).map (·.2)) (by rw[l];exact rel.val k);obtain⟨p,q,j⟩:=zM2.mp hw;refine wpAny_getItem_heap (tupleKind_room_in1 n) (mj I.hok t) i q ?_;rw[j];exact h d _ (I.tok _) c
theorem zF9 {Q:Value->Shared->Prop}(i:A.units+1<cLine)(I:Inv X pins σ H s)(g:gZ H a y o)(f:RelV y u)(h:∀s',Inv X pins σ H s'->Q (.bool o.isSome) s'):
  wpAny (model X.prog X.w) A (compareOp .In u (.ref a)) Q E s:=by
 rcases g with⟨kvs,k,e,c,l⟩|⟨kvs,k,b,e,c,j,l⟩
 ·subst c;obtain⟨z,hd,vs,rel,d⟩:=cz I.hok e;refine wpAny_in_of (cT f) hd d.mapOf ?_;rw[<-(rel.val k).isSome_eq,<-l];exact h _ (I.tok _)
 ·subst c;cases(show u=Value.ref b from f);obtain⟨z,hd,xs,rel,d⟩:=hU I.hok e;refine wpAny_in_heap (tupleKind_room_in1 i) (mj I.hok j) hd d ?_;have q:=(rel.val k).isSome_eq;rw[Option.isSome_map]at q;rw[<-q,<-l];exact h _ (I.tok _)
end
section
variable {X:Cx}{pins:List (Addr×Obj)}{σ:St}{H:Hp}{s:Shared}{a:Addr}{kvs:List (Key×V)}{k:Key}{u:Value}{A:Around}{E:Value->Shared->Prop}
end
theorem pN {X:Cx}{pins:List (Addr×Obj)}{σ:St}{H:Hp}{s:Shared}{a:Addr}{y:V}{o:Option V}(I:Inv X pins σ H s)(g:gZ H a y o):s.TypeIs (.ref a) "dict":=by
 rcases g with⟨kvs,k,e,_,_⟩|⟨kvs,k,b,e,_,_,_⟩
 ·obtain⟨_,_,vs,_,c⟩:=cz I.hok e;exact c.typeIs
 ·obtain⟨_,_,xs,_,c⟩:=hU I.hok e;exact c.typeIs
section
variable {X:Cx}{o i e value:Expr}{pos pos' tpos:Pos}{td ty tv:TE}
end
section
variable {X:Cx}{pos:Pos}
end
section
variable {X:Cx}{pins:List (Addr×Obj)}{σ:St}{H:Hp}{s:Shared}{a:Addr}{y d:V}{u r:Value}{o:Option V}{A:Around}{E:Value->Shared->Prop}
end
section
variable {X:Cx}{o e f:Expr}{apos cpos:Pos}{td ty tx:TE}
end
section
variable {X:Cx}{pins:List (Addr×Obj)}{σ:St}{H:Hp}{s:Shared}{a:Addr}{kvs:List (Key×V)}{A:Around}{E:Value->Shared->Prop}
end
section
variable {X:Cx}{pins:List (Addr×Obj)}{σ:St}{H:Hp}{s:Shared}{a:Addr}{y:V}{u:Value}{A:Around}{E:Value->Shared->Prop}
end
def kEq :PyData->Key->Bool
 |.int i,.inl j=>decide (i=j)
 |.str x,.inr y=>decide (x=y)
 |_,_=>false
theorem dm (k j:Key):kEq (oq k) j=decide (k=j):=by
 cases k<;>cases j<;>simp[kEq,oq]
def za4 :List (PyData×PyData)->Key->Option PyData
 |[],_=>none
 |(p,d)::r,k=>if kEq p k=true then some d else za4 r k
theorem AVk.get {H:Hp}:∀{kvs:List (Key×V)}{ds:List (PyData×PyData)}{k:Key}{d:PyData},AVk H kvs ds->za4 ds k=some d->∃v,rH kvs k=some v/\AV H v d
 |_,_,k,d,.nil,e=>by cases e
 |_,_,k,d,.cons (k:=j) h r,e=>by
  unfold za4 at e;rw[dm]at e;by_cases z:j=k
  ·rw[zM8 z,if_pos rfl]at e;cases e;exact⟨_,sF z,h⟩
  ·rw[zM0 z,if_neg (by decide)]at e;rw[sR z];exact AVk.get r e
theorem zb8 {H:Hp}{v:V}{k:Key}(h:AV H v (oq k)):v=kV k:=by
 cases k with
 |inl i=>exact h.int_inv
 |inr x=>exact h.str_inv
theorem AV.dk_inv {H:Hp}{v:V}{ds:List (PyData×PyData)}(h:AV H v (zc1 ds)):∃a o kvs,v=.ref a/\H a=some (.frz o (.dK kvs))/\AVk H kvs ds:=by
 generalize e:zc1 ds=d at h;cases h with
 |dk c b=>cases e;exact⟨_,_,_,rfl,c,b⟩
 |_=>cases e
section
variable {X:Cx}{pins:List (Addr×Obj)}{σ:St}{H:Hp}{s:Shared}{l:Addr}{kvs:List (Key×V)}
end
section
variable {X:Cx}{e:Expr}{sts:List Stmt}
end
section
variable {X:Cx}{α:Ev}{e a b:Expr}{pos p:Pos}{Q:PyData->Prop}
end
section
variable {X:Cx}{α:Ev}{e a b:Expr}{pos p:Pos}{Q:PyData->Prop}
end
section
variable {X:Cx}{tg:Expr}
end
section
variable {X:Cx}{α:Ev}{e a b tg:Expr}{pos p:Pos}{Q:List PyData->Prop}
end
mutual
def ltD :PyData->PyData->Option Bool
 |.int a,.int b=>some (decide (a<b))
 |.str a,.str b=>some (decide (a.cps.toList<b.cps.toList))
 |.tuple xs,.tuple ys=>jv xs ys
 |_,_=>none
def jv :List PyData->List PyData->Option Bool
 |[],[]=>some false
 |[],_::_=>some true
 |_::_,[]=>some false
 |x::xs,y::ys=>if PyData.eqv x y=true then jv xs ys else ltD x y
end
def zo0 (A:Around)(s:Shared)(x y:PyData):Prop:=∀(v u:Value) (as bs:List Addr) (r:Bool),Reads s.heap v x as->Reads s.heap u y bs->x.canLay0=true->y.canLay0=true->ltD x y=some r->
 ∀(prog:Program) (w:World) (E:Value->Shared->Prop) (Q:Value->Shared->Prop),Q (.bool r) s->wpAny (model prog w) A (richCompare .Lt v u) Q E s
section
open PySem.SeqAt
open PySem.AutoSeq1 (wpAny_loadPart')
open PySem.MeetsSeq PySem.MeetsSeq2 PySem.MeetsSeq3
theorem zp2 (l b:Addr)(items c:Array Value)(n n2:Nat)(U O:Option Addr)(sl L:Array (Option Value))(xs ys:List PyData)(z:Bool)(D:jv xs ys=some z)(hcx:PyData.canLayAll0 xs=true)(hcy:PyData.canLayAll0 ys=true):
  Meets (Builtin.«tuple.__lt__» ⟨[.ref l,.ref b],[]⟩)
   (λA R s=>s.heap.get? l=some {cls:=.type "tuple",dict:=U,data:=.seq items n,slots:=sl}/\s.heap.get? b=some {cls:=.type "tuple",dict:=O,data:=.seq c n2,slots:=L}/\
    (∃as bs,ReadsAll s.heap items.toList xs as/\ReadsAll s.heap c.toList ys bs)/\A.units+1+PyData.depthAll xs<cLine/\(∀x∈xs,∀y,zo0 A.in1 s x y)/\R (.ok (.ret (.bool z))) s):=
 .of_wp λprog w A R s h=>by
  obtain⟨H,g,d,tk,os⟩:=s;obtain⟨V,hb,⟨as,bs,K,P⟩,S,G,h⟩:=h;have f2:=AutoSeq1.sub_tuple_tuple;have T:items.size=xs.length:=by simpa using SeqAt.ReadsAll.length _ _ _ K
  have Z:c.size=ys.length:=by simpa using SeqAt.ReadsAll.length _ _ _ P
  wp_walk using z35 V,z35 hb,wpAny_forIn_list _ (λrest b s'=>b.1=none/\s'=⟨H,g,d,tk,os⟩/\∃(vs ws:List Value) (f i:List PyData) (o m:List Addr),rest=vs.zip ws/\
   ReadsAll H vs f o/\ReadsAll H ws i m/\f.length+c.size=i.length+items.size/\jv f i=some z/\PyData.canLayAll0 f=true/\PyData.canLayAll0 i=true/\(∀x∈f,x∈xs)) _
  case turn=>
   rintro⟨y,x⟩ rest b s' ⟨q,rfl,vs,ws,f,i,o,m,hz,J,I,hlen,k,C,F,j⟩;cases J with
   |nil=>rw[List.zip_nil_left]at hz;cases hz
   |@cons v vs' d0 ds0 a1 a2 p1 t=>
    cases I with
    |nil=>rw[List.zip_nil_right]at hz;cases hz
    |@cons u us' e0 es0 b1 Y p2 r=>
     rw[List.zip_cons_cons]at hz;injection hz with M p;injection M with hy B;subst hy B;simp only[PyData.canLayAll0,zN1]at C F;have hd:d0.depth<=PyData.depthAll xs:=by
      have hm:=j d0 zK5;clear G j h K D hcx T
      induction xs with
      |nil=>cases hm
      |cons a as W=>
       simp only[PyData.depthAll];rcases zJ6.mp hm with rfl|hm
       ·exact Nat.le_max_left _ _
       ·refine zK0 (W ?_ hm) (Nat.le_max_right _ _);simp only[PyData.depthAll]at S;have:=Nat.le_max_right a.depth (PyData.depthAll as);exact ze7 S
     have hm:min d0.depth e0.depth<=d0.depth:=Nat.min_le_left _ _;have he:=SeqAt.eqAt_reads d0 e0 A.in1 ⟨H,g,d,tk,os⟩ _ _ _ _ p1 p2 C.1 F.1 (by show A.units+1+min d0.depth e0.depth<cLine;lia);simp only[zL8]at hlen;unfold jv at k;refine zI9 (he prog w _ _ ?_);cases e:PyData.eqv d0 e0 with
     |true=>
      rw[e,if_pos rfl]at k
      wp_walk
      exact⟨rfl,rfl,_,_,_,_,_,_,p,t,r,(zx5 hlen),k,C.2,F.2,λx B=>j x (zJ8 _ B)⟩
     |false=>
      rw[e,if_neg (by decide)]at k;have N:=λE Q hq=>G d0 (j d0 zK5) e0 _ _ _ _ z p1 p2 C.1 F.1 k prog w E Q hq
      wp_walk using N
      exact⟨_,rfl,by simpa using h⟩
  case fin=>
   rintro⟨b1,Y⟩ s' ⟨q,rfl,vs,ws,f,i,o,m,hz,J,I,hlen,k,C,F,j⟩;simp only at q;subst q;have X:z=decide (items.size<c.size):=by
    cases J with
    |nil=>
     cases I with
     |nil=>
      cases k;simp only[List.length_nil]at hlen;exact(zM0 (zE2 hlen)).symm
     |cons p2 r=>
      cases k;simp only[List.length_nil,zL8]at hlen;exact(zM8 (zv9 hlen)).symm
    |cons p1 t=>
     cases I with
     |nil=>
      cases k;simp only[List.length_nil,zL8]at hlen;exact(zM0 (zE0 hlen)).symm
     |cons p2 r=>
      rw[List.zip_cons_cons]at hz;cases hz
   rw[X]at h
   wp_walk
   exact⟨_,rfl,by simpa[Builtin.Tuple.tupleCompareSizes]using h⟩
  case h=>
   exact⟨rfl,rfl,items.toList,c.toList,xs,ys,as,bs,rfl,K,P,(zE3 T Z),D,hcx,hcy,λx B=>B⟩
end
mutual
theorem rY :∀(d:PyData) (e:PyData) (A:Around) (s:Shared),A.units+d.depth<cLine->zo0 A s d e
 |.int a,e,A,s,g=>λv u as bs r f c _ _ h prog w E Q q=>by
  cases e with
  |int b=>
   cases h;cases f;cases c;exact(PyProof.Rows.lt_int q:wpAny (model prog w) A (compareOp .Lt _ _) Q E s)
  |_=>cases h
 |.str a,e,A,s,g=>λv u as bs r f c _ _ h prog w E Q q=>by
  cases e with
  |str b=>
   cases h;cases f;cases c;exact(lt_str q:wpAny (model prog w) A (compareOp .Lt _ _) Q E s)
  |_=>cases h
 |.tuple xs,e,A,s,g=>λv u as bs r f c o n h prog w E Q q=>by
  cases e with
  |tuple ys=>
   cases f with
   |@tuple a1 o1 vs n1 _ _ g1 g2 g3 g4=>
    cases c with
    |@tuple a2 o2 ws n2 _ _ k1 k2 k3 k4=>
     obtain⟨cls,m,data,sl⟩:=o1;obtain⟨l,k,data2,j⟩:=o2;simp only at g2 g3 k2 k3;subst g2 g3 k2 k3;have i:A.units+1+PyData.depthAll xs<cLine:=by
      simp only[PyData.depth]at g
      lia
     exact richCompare_meets_room (op:=.Lt) ⟨_,g1,rfl⟩ ⟨_,k1,rfl⟩ PySem.F.slot_tuple_lt PySem.F.entry_tuple_lt (PySem.F.args_tuple_lt_2 _ _) (zp2 a1 a2 vs ws n1 n2 m k sl j xs ys r h (by simpa only[PyData.canLay0]using o) (by simpa only[PyData.canLay0]using n))
      ⟨g1,k1,⟨_,_,g4,k4⟩,i,oC xs A.in1 s (show A.units+1+PyData.depthAll xs<cLine from i),show Value.bool r≠Value.notImplemented/\Q (.bool r) s from⟨(λx=>nomatch x),q⟩⟩ (zL4 (zL2 _ _) g)
  |_=>cases h
 |.none,e,A,s,g=>λv u as bs r f c _ _ h=>by cases e<;>cases h
 |.bool _,e,A,s,g=>λv u as bs r f c _ _ h=>by cases e<;>cases h
 |.list _,e,A,s,g=>λv u as bs r f c _ _ h=>by cases e<;>cases h
 |.dict _,e,A,s,g=>λv u as bs r f c _ _ h=>by cases e<;>cases h
theorem oC :∀(xs:List PyData) (A:Around) (s:Shared),A.units+PyData.depthAll xs<cLine->∀x∈xs,∀y,zo0 A s x y
 |[],A,s,a=>λx b=>by cases b
 |d::ds,A,s,a=>λx b y=>by
  simp only[PyData.depthAll]at a;have f:=Nat.le_max_left d.depth (PyData.depthAll ds);have c:=Nat.le_max_right d.depth (PyData.depthAll ds);by_cases e:x=d
  ·rw[e];exact rY d y A s (by lia)
  ·exact oC ds A s (ze7 a) x ((zJ6.mp b).resolve_left e) y
end
section
variable {prog:Program}{w:World}{A:Around}{R:Result->Shared->Prop}{it:Addr}{fp wr:List Addr}{m:Nat}{P:Nat->Value->Prop}{St:Nat->Heap->Prop}
end
section
variable {prog:Program}{w:World}{A:Around}{E:Value->Shared->Prop}{s:Shared}
end
section
variable {X:Cx}{α:Ev}{e:Expr}{pos p:Pos}{Q:PyData->Prop}
theorem AVs.intsV {H:Hp}{xs:List V}{zs:List Int}(h:AVs H xs (zs.map .int)):xs=zs.map V.int:=by
 induction zs generalizing xs with
 |nil=>cases h;rfl
 |cons n ns b=>cases h with
  |cons h a=>rw[zN7,b a,h.int_inv]
end
section
variable {prog:Program}{w:World}{A:Around}{E:Value->Shared->Prop}{s:Shared}{it l:Addr}{items:Array Value}
end
section
variable {X:Cx}{α:Ev}{a e c:Expr}{p p0 pos pos2:Pos}{Q:List PyData->Prop}
end
def oZ (Q:PyData->Prop):List PyData->Prop
 |[]=>True
 |d::r=>Q d/\oZ Q r
theorem oZ.mem {Q:PyData->Prop}:∀{ds:List PyData},oZ Q ds->∀d∈ds,Q d
 |[],_,d,h=>by cases h
 |x::r,h,d,hd=>by
  rcases zJ6.mp hd with rfl|hd
  ·exact h.1
  ·exact oZ.mem h.2 d hd
theorem aG {x:PyData}{ds:List PyData}{v:Int}{Q:PyData->Prop}(b:xO x=some ds)(h0:0<=v)(a:v<ds.length)(h:oZ Q ds):∃ds i d,xO x=some ds/\PyData.int v=.int i/\atI ds i=some d/\Q d:=by
 obtain⟨d,hd,e⟩:=zd4 h0 a;exact⟨ds,v,d,b,rfl,e,h.mem d hd⟩
theorem cL {x:PyData}{ds:List PyData}{v:Int}{Q:PyData->Prop}(P:PyData->Prop)(b:xO x=some ds)(h0:0<=v)(a:v<ds.length)(h:oZ P ds)(k:∀d,P d->Q d):∃ds i d,xO x=some ds/\PyData.int v=.int i/\atI ds i=some d/\Q d:=by
 obtain⟨d,hd,e⟩:=zd4 h0 a;exact⟨ds,v,d,b,rfl,e,k d (h.mem d hd)⟩
theorem qr {k:Bool}{p q:Prop}(a:k=true->p)(b:k=false->q):if k=true then p else q:=by
 cases k with
 |true=>exact a rfl
 |false=>exact b rfl
section
variable {X:Cx}{α:Ev}{e a b:Expr}{pos p:Pos}{E:yk}{rest:List Stmt}
end
def zy3 :R2:=λx y H R=>rEq x y H R\/zv8 x y H R
def zE6 :R2:=λx y H R=>rNe x y H R\/zE4 x y H R
theorem fF {X:Cx}(c:X.A.units+64<cLine):OpR X (compareOp .Eq) zy3:=λpins s σ H x y v u Q I a b h=>h.elim (λh=>fg _ _ _ _ _ _ _ _ _ I a b h) λh=>zp7 c _ _ _ _ _ _ _ _ _ I a b h
theorem zu1 {X:Cx}(c:X.A.units+64<cLine):OpR X (compareOp .NotEq) zE6:=λpins s σ H x y v u Q I a b h=>h.elim (λh=>zC4 _ _ _ _ _ _ _ _ _ I a b h) λh=>zp5 c _ _ _ _ _ _ _ _ _ I a b h
theorem aB {i j:Str}:Cmp rNe (.str i) (.str j) (!decide (i=j)):=λp H c d R a b h=>by
 cases a.str_inv;cases b.str_inv;refine⟨rfl,?_⟩;rw[show decide (V.str i=V.str j)=decide (i=j) by simp];exact h
def rF (x y:PyData)(Q:Bool->Prop):Prop:=∃k,Cmp zy3 x y k/\Cmp zE6 x y (!k)/\Q k
theorem zc3 {i j:Int}{Q:Bool->Prop}(h:Q (decide (i=j))):rF (.int i) (.int j) Q:=⟨_,λp H b c R a d z=>.inl (kT p H b c R a d z),λp H b c R a d z=>.inl (bp p H b c R a d z),h⟩
theorem ak {i j:Str}{Q:Bool->Prop}(h:Q (decide (i=j))):rF (.str i) (.str j) Q:=⟨_,λp H b c R a d z=>.inl (kf p H b c R a d z),λp H b c R a d z=>.inl (aB p H b c R a d z),h⟩
theorem eqk {x y:PyData}{Q:Bool->Prop}(s1:SeqAt.shaped x=true)(s2:SeqAt.shaped y=true)(d:x.hasDict=false)(c:y.hasDict=false)(h:Q (PyData.eqv x y)):rF x y Q:=
 ⟨_,λp H e f R a b z=>.inr ⟨x,y,(a.dv d).same xh,(b.dv c).same xh,s1,s2,z⟩,λp H e f R a b z=>.inr ⟨x,y,(a.dv d).same xh,(b.dv c).same xh,s1,s2,z⟩,h⟩
section
variable {X:Cx}{α:Ev}{a b:Expr}{pos:Pos}{Q:PyData->Prop}{T:Bool->Prop}
theorem zl0 (d:X.A.units+64<cLine)(h:EvD X α a λx=>EvD X α b λy=>rF x y λk=>Q (.bool k)):EvD X α (.Compare a [.Eq] [b] pos) Q:=zu7 (fF d) (yw _) (h.imp λx h=>h.imp λy c=>by obtain⟨k,e,_,q⟩:=c;exact⟨k,e,q⟩)
theorem zv3 (d:X.A.units+64<cLine)(h:EvD X α a λx=>EvD X α b λy=>rF x y T):EvT X α (.Compare a [.Eq] [b] pos) T:=xS (fF d) (yw _) (h.imp λx h=>h.imp λy c=>by obtain⟨k,e,_,q⟩:=c;exact⟨k,e,q⟩)
theorem fJ (d:X.A.units+64<cLine)(h:EvD X α a λx=>EvD X α b λy=>rF x y λk=>T (!k)):EvT X α (.Compare a [.NotEq] [b] pos) T:=xS (zu1 d) (yw _) (h.imp λx h=>h.imp λy c=>by obtain⟨k,_,e,q⟩:=c;exact⟨!k,e,q⟩)
theorem gf {k:Bool}{p q:Prop}(e:k=true)(h:p):if k=true then p else q:=by rw[if_pos e];exact h
theorem zd1 {k:Bool}{p q:Prop}(e:k=false)(h:q):if k=true then p else q:=by rw[if_neg (by rw[e];decide)];exact h
variable {E:yk}{s t:List Stmt}
theorem vZ {k:Bool}(e:k=true)(h:SvS X α s E):SvS X α (if k=true then s else t) E:=by rw[if_pos e];exact h
theorem ve {k:Bool}(e:k=false)(h:SvS X α t E):SvS X α (if k=true then s else t) E:=by rw[if_neg (by rw[e];decide)];exact h
end
section
variable {X:Cx}{α:Ev}{a b:Expr}{pos:Pos}{Q:PyData->Prop}{T:Bool->Prop}
def zz1 :R2:=λx y H Q=>∃a v,x=.ref a/\gZ H a y (some v)/\Q v H
theorem bT (d:X.A.units+1<cLine):IxR X zz1:=λvalue slice pins s σ H x y v u Q I c j h i=>by
 obtain⟨a,z,rfl,g,q⟩:=h;cases c;exact tail_any (pN I g) PySem.F.slot_dict_getitem.lookup (iS d I g j λk s' f e=>⟨z,H,f,e,q⟩) i
def gj (x y:PyData)(Q:PyData->Prop):Prop:=(∃ds i d,xO x=some ds/\y=.int i/\atI ds i=some d/\Q d)\/∃ds k d,x=zc1 ds/\y=oq k/\za4 ds k=some d/\Q d
theorem ixk {x y:PyData}{ds:List PyData}{i:Int}{d:PyData}(f:xO x=some ds)(e:y=.int i)(c:atI ds i=some d)(h:Q d):gj x y Q:=.inl ⟨ds,i,d,f,e,c,h⟩
theorem qD {x:PyData}{ds:List PyData}{v:Int}(d:xO x=some ds)(h0:0<=v)(c:v<ds.length)(h:oZ Q ds):gj x (.int v) Q:=.inl (aG d h0 c h)
theorem rN {x:PyData}{ds:List PyData}{v:Int}(P:PyData->Prop)(e:xO x=some ds)(h0:0<=v)(c:v<ds.length)(h:oZ P ds)(k:∀d,P d->Q d):gj x (.int v) Q:=.inl (cL P e h0 c h k)
theorem rz (q:X.A.units+1<cLine)(u:pE b)(h:EvD X α a λx=>EvD X α b λy=>gj x y Q):EvD X α (.Subscript a b pos) Q:=by
 refine rg (f:=tOp (λx y H Q=>rIx X.K x y H Q\/zz1 x y H Q)) (vm (zu6.or (bT q)) zh zh u) (λ_ _ _=>Iff.rfl) (h.imp λx h=>h.imp λy h=>?_);intro F σ H z w R m g p k;rcases h with⟨ds,i,d,e1,rfl,c,hq⟩|⟨ds,t,d,rfl,rfl,e,hq⟩
 ·cases p.int_inv;cases x with
  |list l=>
   cases e1;obtain⟨a,xs,rfl,j,n⟩:=g.lst_inv;obtain⟨v,e,av⟩:=n.atI c;exact .inl (.inl ⟨a,xs,i,v,rfl,rfl,SqL.of (zi j).2,e,k d v H hq m.tp Kz.refl av⟩)
  |tuple l=>
   cases e1;obtain⟨a,xs,rfl,j,n⟩:=g.tup_inv;obtain⟨v,e,av⟩:=n.atI c;exact .inl (.inr (.inl ⟨a,xs,i,v,rfl,rfl,SqT.of (zi j).2,e,k d v H hq m.tp Kz.refl av⟩))
  |_=>cases e1
 ·obtain⟨a,o,kvs,rfl,g1,g2⟩:=g.dk_inv;obtain⟨v,s,r⟩:=g2.get e;cases zb8 p;exact .inr ⟨a,v,rfl,.inl ⟨kvs,t,.inr ⟨o,(zi g1).2⟩,rfl,s.symm⟩,k d v H hq m.tp Kz.refl r⟩
def zu0 (K:PySem.W.Frag)(neg:Bool):R2:=λx y H Q=>rIn K neg x y H Q\/∃a o,y=.ref a/\gZ H a x o/\Q (.bl (if neg then !o.isSome else o.isSome)) H
theorem zm0 (e:X.A.units+1<cLine):OpR X (compareOp .In) (zu0 X.K false):=λpins s σ H x y v u Q I c d h=>by
 rcases h with h|⟨a,o,rfl,g,q⟩
 ·exact iB pins s σ H x y v u Q I c d h
 ·cases d;exact zF9 e I g c λs' f=>⟨.bl o.isSome,H,f,rfl,q⟩
def zp8 (X:Cx)(x y:PyData)(Q:Bool->Prop):Prop:=∃k,Cmp (zu0 X.K false) x y k/\Cmp (zu0 X.K true) x y (!k)/\Q k
theorem zH6 {x:PyData}{ds:List PyData}(f1:rX x=true)(f2:ds.all rX=true)(q:T (inD x ds)):zp8 X x (.tuple ds) T:=
 ⟨_,λp H d e R c f h=>.inl (kx (X:=X) (neg:=false) f1 f2 p H d e R c f h),λp H d e R c f h=>.inl (kx (X:=X) (neg:=true) f1 f2 p H d e R c f h),q⟩
theorem zk9 (d:X.A.units+1<cLine)(h:EvD X α a λx=>EvD X α b λy=>zp8 X x y T)(hm:behindInMarks .In b=false:=by rfl):EvT X α (.Compare a [.In] [b] pos) T:=
 xS (zm0 d) hm (h.imp λx h=>h.imp λy c=>by obtain⟨k,e,_,q⟩:=c;exact⟨k,e,q⟩)
end
theorem zK.one {k:Nat}{A:Around}(h:zK k A):A.units+1<cLine:=by have:=h.units;exact zG6 this
section
variable {X:Cx}{α:Ev}{E:yk}{rest body:List Stmt}{e c tg iter:Expr}{pos p:Pos}
theorem yX (pat:Pat)(h:EvI X α tg iter λds=>we X pat body rest E ds α)(f:X.N.Nodup:=by assumption)(a:PassesOwn (model X.prog X.w) X.A X.env X.xe:=by exact z00)(d:X.calm=true:=by rfl)
  (hg:PG X tg (pf X.K pat):=by first|exact zD (by assumption) rfl (Or.inl rfl)|exact zD (by assumption) rfl (Or.inr rfl)|exact xC rfl rfl (by repeat (first|exact xT|refine zT (by first|exact zD (by assumption) rfl (Or.inl rfl)|exact zD (by assumption) rfl (Or.inr rfl)) ?_)))
  (b:∀x,foldedSetIterable iter X.env x=pure x:=by intro _;rfl):SvS X α (.For tg iter body [] pos::rest) E:=qO a d hg h b
def freeOk (xs:Scope)(y:Str×NameKind):Bool:=match y.2 with
 |.free=>match xs.names.lookup y.1 with
  |some .cell=>true
  |some .free=>true
  |_=>false
 |_=>true
theorem gC {xs scope:Scope}(h:scope.names.all (freeOk xs)=true):∀y∈scope.names,y.2=.free->xs.names.lookup y.1=some .cell\/xs.names.lookup y.1=some .free:=λy hy e=>by
 have:=zY4.mp h y hy;unfold freeOk at this;rw[e]at this;cases z:xs.names.lookup y.1 with
 |none=>rw[z]at this;cases this
 |some k=>
  rw[z]at this;cases k<;>first|exact .inl rfl|exact .inr rfl|cases this
theorem fC (N:List Str)(imp:List (Option Nat))(pat:Pat){scope:Scope}{elt:Expr}{ifs:List Expr}{Q:List PyData->Prop}(h:EvI X α tg iter λds=>ds.length<=1000/\xj (λC s2 d fp=>X.comp N scope C s2 d fp) pat ifs elt (yH imp α) ds [] Q)
  (nd:N.Nodup:=by decide +kernel) (m:scope.kind=.function:=by rfl) (g:∀y∈scope.names,y.2≠.cell:=by decide +kernel) (f:∀y∈scope.names,y.2=.local->scope.names.lookup y.1=some .local:=by decide +kernel) (l:scope.names.all (freeOk X.env.scope)=true:=by rfl) (k:imp.length=N.length:=by rfl)
  (i:((imp.zip N).all λp=>match p.1 with|none=>true|some j=>X.N[j]? == some p.2&&scope.names.lookup p.2 == some .free)=true:=by rfl) (a:pat.free (yH imp α)=true:=by rfl)
  (hg:∀C s2 d fp,N.Nodup->PG (X.comp N scope C s2 d fp) tg (pf X.K pat):=by intro _ _ _ _ b;first|exact zD b rfl (Or.inl rfl)|exact xC rfl rfl (by repeat (first|exact xT|refine zT (zD b rfl (Or.inl rfl)) ?_)))
  (n:X.calm=true:=by rfl) (o:∀x,foldedSetIterable iter X.env x=pure x:=by intro _;rfl):EvL X α (.ListComp elt [⟨tg,iter,ifs,0⟩] scope pos) Q:=eE n ⟨m,nd,g,f,gC l,k,i⟩ a (λC s2 d fp=>hg C s2 d fp nd) h o
end
section
variable {Y:Addr->Shared->Hp->List Addr->Cx}{pat:Pat}{ifs:List Expr}{elt:Expr}{α0:Ev}{ι:Type}{g f:ι->PyData}{l:List ι}{acc:List PyData}{Q:List PyData->Prop}
theorem oJ (p:ι->Bool)(f:ι->PyData)(h:∀x∈l,∃a,pat.bind (g x) α0=some a/\(∀C s2 b fp (Q:Bool->Prop),Q (p x)->jG (Y C s2 b fp) a ifs Q)/\(p x=true->∀C s2 b fp (Q:PyData->Prop),Q (f x)->EvD (Y C s2 b fp) a elt Q))
  (hd:Q (acc++(l.filter p).map f)):xj Y pat ifs elt α0 (l.map g) acc Q:=by
 induction l generalizing acc with
 |nil=>
  show Q acc;simpa using hd
 |cons d ds k=>
  obtain⟨a,e,j,i⟩:=h d zK5;refine⟨a,e,λC s2 b fp=>j C s2 b fp _ ?_⟩;have c:=λacc=>k (acc:=acc) λd hd=>h d (zJ8 _ hd);cases hp:p d with
  |true=>
   rw[if_pos rfl];refine λC s2 b fp=>i hp C s2 b fp _ (c _ ?_);simpa[zW6,hp]using hd
  |false=>
   rw[if_neg (by decide)];refine c _ ?_;simpa[zW6,hp]using hd
theorem iz (f:ι->PyData)(b:∀x∈l,∃a,pat.bind (g x) α0=some a/\∀C s2 d fp (Q:PyData->Prop),Q (f x)->EvD (Y C s2 d fp) a elt Q)(hd:Q (acc++l.map f)):xj Y pat [] elt α0 (l.map g) acc Q:=
 oJ (λ_=>true) f (λx e=>by
  obtain⟨a,h,c⟩:=b x e;exact⟨a,h,λ_ _ _ _ _ k=>mC k,λ_=>c⟩) (by rw[List.filter_eq_self.mpr λ_ _=>rfl];exact hd)
end
section
variable {co:Co}{N:Nat}
end
section
variable {co:Co}{N:Nat}
end
section
variable {X:Cx}{α:Ev}{a b e:Expr}{pos p:Pos}{Q:PyData->Prop}
end
section
variable {X:Cx}{α:Ev}{a b c e:Expr}{pos p:Pos}{Q:PyData->Prop}{T:Bool->Prop}
theorem dq {op d:CmpOp}{g g':Int->Int->Bool}(A:OpR X (compareOp op) (rI0 λi j=>.bl (g i j)))(f:OpR X (compareOp d) (rI0 λi j=>.bl (g' i j)))(hm:lastMarks [op,d] [b,c]=false)
  (h:EvD X α a λx=>EvD X α b λy=>∃i j,x=.int i/\y=.int j/\(if g i j=true then EvD X α c λz=>∃k,z=.int k/\T (g' j k)else T false)):EvT X α (.Compare a [op,d] [b,c] pos) T:=λF σ H R m k=>by
 refine⟨_,ef A f zh zh zh hm,?_⟩;refine h F σ H _ m λx J H1 s t1 n w=>?_;have m1:=m.kz n t1;refine s F σ H1 _ m1 λy I q B r o t=>?_;obtain⟨i,j,e1,C,hq⟩:=B;subst e1 C;cases w.int_inv;cases t.int_inv;have m2:=m1.kz o r;refine⟨i,j,rfl,rfl,_,rfl,?_⟩;cases hg:g i j with
 |true=>
  rw[hg]at hq;refine rK ?_;refine(by simpa using hq:EvD X α c _) F σ q _ m2 λz K E G t3 v D=>?_;obtain⟨u,rfl,l⟩:=G;cases D.int_inv;exact⟨j,u,rfl,rfl,_,rfl,k _ E l t3 ((n.trans o).trans v)⟩
 |false=>
  rw[hg]at hq;exact rE ⟨_,rfl,k _ q (by simpa using hq) r (n.trans o)⟩
theorem dA (h:EvD X α a λx=>EvD X α b λy=>∃i j,x=.int i/\y=.int j/\(if decide (i<=j)=true then EvD X α c λz=>∃k,z=.int k/\T (decide (j<=k))else T false))(hm:lastMarks [.LtE,.LtE] [b,c]=false:=by rfl):EvT X α (.Compare a [.LtE,.LtE] [b,c] pos) T:=dq oK oK hm h
theorem cq (h:EvD X α a λx=>EvD X α b λy=>∃i j,x=.int i/\y=.int j/\(if decide (i<=j)=true then EvD X α c λz=>∃k,z=.int k/\Q (.bool (decide (j<=k)))else Q (.bool false)))(hm:lastMarks [.LtE,.LtE] [b,c]=false:=by rfl):EvD X α (.Compare a [.LtE,.LtE] [b,c] pos) Q:=fH oK oK hm h
end
section
variable {X:Cx}{α:Ev}{a b c e:Expr}{pos p p2 pos2:Pos}{Q:PyData->Prop}{T:Bool->Prop}
theorem pI {us:List Value}{ns:List Int}(h:IntsAre us ns):Vals (ns.map V.int) us:=by
 induction h with
 |nil=>exact .nil
 |cons n t _ d=>exact .cons ⟨t,rfl⟩ d
end
section
variable {X:Cx}{α:Ev}{a b c d e:Expr}{pos p:Pos}{ta tb tc td:TE}{T:Bool->Prop}
end
section
variable {X:Cx}{α:Ev}{a b c d e:Expr}{pos p:Pos}{T:Bool->Prop}
end
abbrev kr (X:Cx)(P:Program)(w:World)(K:PySem.W.Frag)(mg:Str->Option Value)(base:Heap):Prop:=X.prog=P/\X.w=w/\X.K=K/\X.mg=mg/\X.base=base
section
variable {X:Cx}{α:Ev}{e o:Expr}{es:List Expr}{pos p apos:Pos}{Q:PyData->Prop}{k:Nat}{φ:List A->(A->Prop)->Prop}{x m:Str}{C:Addr}{pl:Sem Bool}{P:Program}{w:World}{K:PySem.W.Frag}{mg:Str->Option Value}{base:Heap}
theorem bI (D:Cal P w K mg base x k φ)(c:kr X P w K mg base)(hr:zK k X.A)(hg:Gl X x)(h:EvA X α (e::es) λas=>φ as λa=>Q a.d)
  (b:(x == ("__debug__":Str))=false:=by decide) (he:starEach (e::es) X.env=(false,eval e X.env)::starEach es X.env:=by rfl) (hpl:(backTo pos (starEach es X.env)).any (·.1)=false:=by rfl):EvD X α (.Call (.Name x p) (e::es) [] pos) Q:=by
 obtain⟨rfl,rfl,rfl,rfl,rfl⟩:=c;exact xY D hr hg h b he hpl
theorem gN (D:uE P w K mg base x k [] φ)(c:kr X P w K mg base)(hr:zK (k+1) X.A)(hg:Gl X x)(h:EvA X α (e::es) λas=>φ as λa=>Q a.d)
  (b:(x == ("__debug__":Str))=false:=by decide) (he:starEach (e::es) X.env=(false,eval e X.env)::starEach es X.env:=by rfl) (hpl:(backTo pos (starEach es X.env)).any (·.1)=false:=by rfl):EvN X α (.Call (.Name x p) (e::es) [] pos) Q:=by
 obtain⟨rfl,rfl,rfl,rfl,rfl⟩:=c;exact aO D hr hg h b he hpl
theorem cR (D:xv P w K mg base C m k φ)(g:kr X P w K mg base)(hr:zK k X.A)(h:EvD X α o λx=>∃fs,x=wA C fs/\sf fs m=none/\EvA X α (e::es) λas=>φ (.dat (wA C fs)::as) λa=>Q a.d)
  (b:starEach (e::es) X.env=(false,eval e X.env)::starEach es X.env:=by rfl) (hpl:(backTo pos (starEach es X.env)).any (·.1)=false:=by rfl)
  (c:eval (.Call (.Attribute o m apos) (e::es) [] pos) X.env=(do
   let ov <-eval o X.env
   standAt apos.atName
   let(f,first) <-holding [ov] (getMethod ov m pl)
   callWith pos f first (backTo pos (starEach (e::es) X.env)) (backToKw pos (keywordEach [] X.env))):=by rfl):EvD X α (.Call (.Attribute o m apos) (e::es) [] pos) Q:=by
 obtain⟨rfl,rfl,rfl,rfl,rfl⟩:=g;exact wL D hr h b hpl c
theorem jN (D:xv P w K mg base C m k φ)(c:kr X P w K mg base)(hr:zK k X.A)(h:EvD X α o λx=>∃fs,x=wA C fs/\sf fs m=none/\φ [.dat (wA C fs)] λa=>Q a.d)
  (b:eval (.Call (.Attribute o m apos) [] [] pos) X.env=(do
   let ov <-eval o X.env
   standAt apos.atName
   let(f,first) <-holding [ov] (getMethod ov m pl)
   callWith pos f first (backTo pos (starEach [] X.env)) (backToKw pos (keywordEach [] X.env))):=by rfl):EvD X α (.Call (.Attribute o m apos) [] [] pos) Q:=by
 obtain⟨rfl,rfl,rfl,rfl,rfl⟩:=c;exact sN D hr h b
end
section
variable {X:Cx}{α:Ev}{pos:Pos}{Q:PyData->Prop}
end
section
variable {X:Cx}{α:Ev}{e ix:Expr}{pos:Pos}{rest:List Stmt}{E:yk}
end
section
variable {X:Cx}{tg:Expr}
variable {α:Ev}{a b c:Expr}{p pos:Pos}
end
section
variable {prog:Program}{w:World}{K:Type}[DecidableEq K](knd:KeyKind prog w K)
variable {knd}
end
section
variable {X:Cx}
end
section
variable {X:Cx}{α:Ev}{e a b:Expr}{p pos:Pos}{Q:PyData->Prop}
end
section
variable {M:Model}{A:Around}{E:Value->Shared->Prop}{s:Shared}
end
section
variable {P:Program}{w:World}{H H0:Hp}{h h' h0:Heap}{fs fs' ts:List Addr}{e:Addr}
end
section
variable {X:Cx}{pins:List (Addr×Obj)}{σ:St}{H H':Hp}{s s':Shared}{a:Addr}
end
section
variable {X:Cx}{E':Value->Shared->Prop}
end
section
variable {P:Program}{w:World}{K:PySem.W.Frag}{mg:Str->Option Value}{base:Heap}
end
section
variable {prog:Program}{w:World}{A:Around}{E:Value->Shared->Prop}{h:Heap}{g:Array GenState}{d:Drawn}{t:Nat}{os:OsState}
variable {nm q:Str}{C N:Addr}{bs bm bmB:List Value}{hdct:Bool}{sn:List Str}{sub:List Value}{ab:Bool}{col:Option Bool}{dd:Option Addr}{k0 k1 k2 k3 k5:Option Value}{B Bn newId nid initId inN:String}{bmN:List Value}
end
open Builtin Builtin.ObjectAttr
section
variable {prog:Program}{w:World}{A:Around}{E:Value->Shared->Prop}{h:Heap}{g:Array GenState}{d:Drawn}{t:Nat}{os:OsState}{K:Frag}{C S e t0:Addr}{dx:Option Addr}{init:Option Value}
end
section
variable {prog:Program}{w:World}{A:Around}{E:Value->Shared->Prop}{h:Heap}{g:Array GenState}{d:Drawn}{t:Nat}{os:OsState}{K:Frag}{C S e t0:Addr}{init:Option Value}
end
section
variable {X:Cx}{pins:List (Addr×Obj)}{σ:St}{H:Hp}{s:Shared}{a C:Addr}{d:Option Addr}{pos:Pos}
end
section
variable {prog:Program}{w:World}{A:Around}{E:Value->Shared->Prop}{h:Heap}{g:Array GenState}{d:Drawn}{t:Nat}{os:OsState}
variable {nm q:Str}{C N:Addr}{bs bm bmB:List Value}{hdct:Bool}{sn:List Str}{sub:List Value}{ab:Bool}{col:Option Bool}{dd:Option Addr}{k0 k1 k2 k3 k5:Option Value}{B Bn newId nid initId inN:String}{bmN:List Value}
end
section
variable {X:Cx}{pins:List (Addr×Obj)}{σ:St}{H:Hp}{s:Shared}{k:Nat}{f C S:Addr}{fd:FuncData}{ps:List Str}{sp:Sp}{x:Str}{p pos:Pos}{e:Expr}{es:List Expr}{t:TA}
end
section
variable {X:Cx}{pins:List (Addr×Obj)}{σ:St}{H:Hp}{s:Shared}{a:Addr}{D:Ends}{f:Flow}
end
section
variable {X:Cx}{body suite:List Stmt}{b0:Stmt}{x n:Str}{np hpos pos:Pos}{B:Addr}
end
section
variable {G:Hp}{v:V}{C:Addr}{ds:List (PyData×PyData)}
end
section
variable {F:Fr}{α αh:Ev}{σ:St}{H:Hp}
end
section
variable {F:Fr}{α αh:Ev}{σ:St}{H:Hp}
end
section
variable {P:Program}{w:World}{K:PySem.W.Frag}{mg:Str->Option Value}{base:Heap}
end
section
variable {X:Cx}{α αh:Ev}{r:Fr}{q q0:PyData->Prop}{j k:Nat}{x fl:Str}{C:Addr}{e:Expr}{es:List Expr}{p pos pos':Pos}{rest:List Stmt}{E:yk}
variable {φ:List A->(A->Prop)->(PyData->Prop)->Prop}{Q:PyData->Prop}
end
section
variable {P:Program}{w:World}{K:PySem.W.Frag}{mg:Str->Option Value}{base:Heap}
end
section
variable {X:Cx}{α αh:Ev}{q:PyData->Prop}{i j:Nat}{x n:Str}{B:Addr}{body suite rest:List Stmt}{b0:Stmt}{np hpos pos:Pos}{E:yk}
end
section
variable {X:Cx}{α:Ev}{p p1 pos:Pos}{a:Expr}{Q:PyData->Prop}{C S:Addr}{init:Option Value}
end
section
variable {X:Cx}{α:Ev}{pos:Pos}{o:Expr}{f:Str}{Q:PyData->Prop}{C S:Addr}{init:Option Value}
end
section
variable {P:Program}{w:World}{K:PySem.W.Frag}{mg:Str->Option Value}{base:Heap}
end
section
variable {X:Cx}{α αh:Ev}{r:Fr}{q q0:PyData->Prop}{j k:Nat}{x fl:Str}{C:Addr}{e:Expr}{es:List Expr}{p pos pos':Pos}{rest:List Stmt}{E:yk}
end
section
variable {P:Program}{w:World}{K:PySem.W.Frag}{mg:Str->Option Value}{base:Heap}
end
section
variable {P:Program}{w:World}{K:PySem.W.Frag}{mg:Str->Option Value}{base:Heap}
end
section
variable {X:Cx}{α αh:Ev}{r:Fr}{q q0:PyData->Prop}{j k:Nat}{x fl:Str}{C:Addr}{e:Expr}{es:List Expr}{p pos pos':Pos}{rest:List Stmt}{E:yk}{Q:PyData->Prop}{φ:List A->(PyData->Prop)->Prop}
end
def zx1 :Option A->Option A
 |some .tape=>none
 |some (.exc _ _)=>none
 |a=>a
def yP (α:Ev):Ev:=α.map zx1
def dh :A->Prop
 |.tape=>False
 |.exc _ _=>False
 |_=>True
theorem yZ {α:Ev}{i:Nat}{a:A}(h:(yP α)[i]?=some (some a)):α[i]?=some (some a)/\dh a:=by
 unfold yP at h;rw[zK8,zM2]at h;obtain⟨b,d,c⟩:=h;cases b with
 |none=>cases c
 |some b=>cases b<;>cases c<;>exact⟨d,trivial⟩
theorem xr.to {G t:Hp}{F F':Fr}{H H':Hp}{s:Option V}{a:A}(n:dh a)(h:xr G F H s a)(g:zt G t)(hf:∀x o,foot s a x->H x=some o->H' x=some o/\¬F'.O0 x/\F'.H0 x=none):xr t F' H' s a:=by
 cases a with
 |dat d=>obtain⟨v,b,f⟩:=h;exact⟨v,b,f.same g⟩
 |ow c=>
  obtain⟨l,o,b,f,i,p,u⟩:=h;obtain⟨m,j,z3⟩:=hf l o b f;exact⟨l,o,b,m,i.same g,j,z3⟩
 |deep d S=>
  obtain⟨v,b,f,i⟩:=h;refine⟨v,b,f.same (uK g λx o z e=>(hf x o z e).1),λx z=>?_⟩;obtain⟨_,_,xs,e⟩:=i x z;obtain⟨m,j,z3⟩:=hf x _ z e;exact⟨j,z3,xs,m⟩
 |tape=>exact n.elim
 |«at» l=>exact h
 |exc r q=>exact n.elim
 |pin l vs ds=>exact⟨h.1,g _ _ h.2.1,h.2.2.same g⟩
 |nst l ls dss=>
  obtain⟨b,f,i,p,u⟩:=h;refine⟨b,(hf l _ zK5 f).1,i.same g λa ha o e=>(hf a o (zJ8 _ ha) e).1,p,λx k=>?_⟩;rcases zJ6.mp k with z|z
  ·exact(hf x _ k (z▸f)).2
  ·obtain⟨xs,e⟩:=i.obj x z;exact(hf x _ k e).2
def Tp (F:Fr)(x:Addr):Prop:=∃t b c,F.tp=some (t,b,c)/\(x=t\/x=b\/x=c)
noncomputable instance tpDec (F:Fr)(x:Addr):Decidable (Tp F x):=Classical.propDecidable _
noncomputable def Fr.row (F:Fr)(H:Hp)(l:Addr):Fr:=⟨λx=>if Tp F x then H x else F.H0 x,λx=>F.O0 x\/x=l,some (l,l,l)⟩
section
variable {F:Fr}{α α':Ev}{σ σ':St}{H H':Hp}{l:Addr}
theorem Tp.own (t:zC F H){x:Addr}(h:Tp F x):F.O0 x:=by
 obtain⟨a,b,c,e,z⟩:=h;obtain⟨_,g,f,d⟩:=t a b c e;rcases z with z|z|z
 ·rw[z];exact g
 ·rw[z];exact f
 ·rw[z];exact d
theorem Tp.lst (t:zC F H){x:Addr}(h:Tp F x):∃xs,H x=some (.lst xs):=by
 obtain⟨a,b,c,e,z⟩:=h;obtain⟨n,bs,cs,n1,e1,d,f,_⟩:=(t a b c e).1.ex;rcases z with z|z|z
 ·rw[z];exact⟨_,e1⟩
 ·rw[z];exact⟨_,d⟩
 ·rw[z];exact⟨_,f⟩
theorem Tp.noTab (t:zC F H){x:Addr}(h:Tp F x):¬uU x:=λz=>by
 obtain⟨o,e,_,n⟩:=tq t.tab z;obtain⟨xs,a⟩:=Tp.lst t h;rw[e]at a;cases a;exact n _ rfl
theorem pK (t:zC F H){x:Addr}(h:(F.row H l).H0 x=none):F.H0 x=none:=by
 have h':(if Tp F x then H x else F.H0 x)=none:=h;split at h'
 ·rename_i q;obtain⟨xs,e⟩:=Tp.lst t q;rw[e]at h';cases h'
 ·exact h'
theorem M.row {i:Nat}{x y:Int}(m:M F α σ H)(hi:α[i]?=some (some (.own [.int x,.int y])))(h0:0<=y)(E:y<4294967296):∃l,F.H0 l=none/\¬F.O0 l/\M (F.row H l) ((yP α).set i (some .tape)) σ H:=by
 obtain⟨l,xs,e1,p,D,N,I⟩:=m.own i _ hi;have ex:xs=[.int x,.int y]:=by
  cases D with
  |cons a r=>
   cases r with
   |cons b r=>
    cases r;rw[a.int_inv,b.int_inv]
 subst ex;have old:∀{j:Nat} {a:A},((yP α).set i (some .tape))[j]?=some (some a)->(i=j/\a=.tape)\/(i≠j/\α[j]?=some (some a)/\dh a):=λ{j a} e=>by
  rcases zN e with⟨z,w⟩|⟨z,w⟩
  ·cases w;exact .inl ⟨z,rfl⟩
  ·obtain⟨k,g⟩:=yZ w;exact .inr ⟨z,k,g⟩
 have ow:∀{z:Addr},Ow (F.row H l) ((yP α).set i (some .tape)) σ z->Ow F α σ z:=λ{z} h=>by
  rcases h with(h|h)|⟨j,a,s,k,g,C⟩
  ·exact .inl h
  ·rw[h];exact .inr ⟨i,_,_,hi,e1,rfl⟩
  ·rcases old k with⟨_,q⟩|⟨_,q,_⟩
   ·subst q;exact C.elim
   ·exact .inr ⟨j,a,s,q,g,C⟩
 have O:zt (Gz F α σ H) (Gz (F.row H l) ((yP α).set i (some .tape)) σ H):=zr λa o h e=>⟨λz=>h (ow z),e⟩;refine⟨l,I,N,?_,λj a s u d=>?_,λj K a b s t z u d L J f1 f2=>?_,λj r q e=>?_,⟨m.tp.tab,λx h=>.inl (m.tp.ot x h),λt b c e=>?_⟩,λz o e n=>?_,λz hz=>?_⟩
 ·rw[zO4];unfold yP;rw[zJ3];exact m.len
 ·rcases old u with⟨z,q⟩|⟨G,q,v⟩
  ·subst z q;rw[e1]at d;cases d;exact⟨l,l,l,rfl,rfl⟩
  ·refine(m.ok j a s q d).to v O λx o f e=>?_;obtain⟨g1,g2,_⟩:=m.ft q d f;refine⟨e,λz=>z.elim g1 λz=>G (m.dj i j _ _ _ _ x hi q e1 d (by rw[z];exact rfl) f),?_⟩;show(if Tp F x then H x else F.H0 x)=none;rw[if_neg λz=>g1 (Tp.own m.tp z)];exact g2
 ·rcases old u with⟨_,q⟩|⟨_,k,_⟩
  ·subst q;exact f1.elim
  ·rcases old d with⟨_,q⟩|⟨_,g,_⟩
   ·subst q;exact f2.elim
   ·exact m.dj j K a b s t z k g L J f1 f2
 ·rcases old e with⟨_,q⟩|⟨_,_,v⟩
  ·cases q
  ·exact v.elim
 ·cases e;exact⟨⟨0,[x,y],[x,y],⟨rfl,rfl⟩,p,p,p,⟨x,y,rfl,h0,E⟩,rfl⟩,.inr rfl,.inr rfl,.inr rfl⟩
 ·have B:(if Tp F z then H z else F.H0 z)=some o:=e;split at B
  ·exact B
  ·rename_i q;exact m.keep z o B ⟨λt b c w=>⟨λy=>q ⟨t,b,c,w,.inl y⟩,λy=>q ⟨t,b,c,w,.inr (.inl y)⟩⟩,n.2⟩
 ·rcases hz with z|z
  ·exact m.oex _ z
  ·exact⟨_,by rw[z];exact p,xF⟩
theorem zC.unrow (t:zC F H)(n:¬F.O0 l)(h:TabAt H')(k:Kz (F.row H l) (F.row H l).H0 H'):zC F H':=⟨h,t.ot,λa b c e=>by
 obtain⟨m,g,f,j⟩:=t a b c e;refine⟨m.off λz hz=>?_,g,f,j⟩;have tz:Tp F z:=⟨a,b,c,e,hz⟩;have i:F.O0 z:=Tp.own t tz;have nl:z≠l:=λq=>n (by rw[<-q];exact i);obtain⟨xs,d⟩:=Tp.lst t tz;rw[d];refine k z _ ?_ ⟨λt' o c' w=>by cases w;exact⟨nl,nl⟩,Tp.noTab t tz⟩;show(if Tp F z then H z else F.H0 z)=some _;rw[if_pos tz];exact d⟩
theorem Kz.unrow (m:M F α σ H)(h0:F.H0 l=none)(k:Kz (F.row H l) (F.row H l).H0 H'):Kz F F.H0 H':=λx o e n=>by
 have nl:x≠l:=λq=>by rw[q,h0]at e;cases e
 refine k x o ?_ ⟨λt' a c' w=>by cases w;exact⟨nl,nl⟩,n.2⟩;show(if Tp F x then H x else F.H0 x)=some o;split
 ·exact m.keep x o e n
 ·exact e
theorem M.unrow (m:M F α σ H)(h0:F.H0 l=none)(v:¬F.O0 l)(c:M (F.row H l) α' σ' H'):M F (yP α') σ' H':=by
 have ow:∀{z:Addr},Ow F (yP α') σ' z->Ow (F.row H l) α' σ' z:=λ{z} h=>by
  rcases h with h|⟨j,a,s,d,n,u⟩
  ·exact .inl (.inl h)
  ·exact .inr ⟨j,a,s,(yZ d).1,n,u⟩
 have p:zt (Gz (F.row H l) α' σ' H') (Gz F (yP α') σ' H'):=zr λa o h e=>⟨λz=>h (ow z),e⟩;refine⟨?_,λj a s i g=>?_,λj w a b s t z i g=>c.dj j w a b s t z (yZ i).1 (yZ g).1,λj r q e=>?_,m.tp.unrow v c.tp.tab c.keep,Kz.unrow m h0 c.keep,λz hz=>c.oex z (.inl hz)⟩
 ·unfold yP;rw[zJ3];exact c.len
 ·obtain⟨d,k⟩:=yZ i;refine(c.ok j a s d g).to k p λx o f e=>?_;obtain⟨g1,g2,_⟩:=c.ft d g f;exact⟨e,λz=>g1 (.inl z),pK m.tp g2⟩
 ·exact(yZ e).2.elim
theorem wC.unrow {v:V}{a:A}(m:M F α σ H)(h0:F.H0 l=none)(b:¬F.O0 l)(r:wC (F.row H l) v H' a):wC F v H' a:=by
 obtain⟨t,k,r⟩:=r;exact⟨m.tp.unrow b t.tab k,Kz.unrow m h0 k,r.to (λ_ z=>.inl z) λx z=>pK m.tp z⟩
end
section
variable {X:Cx}{α:Ev}{E:yk}{sts rest body:List Stmt}{tg iter:Expr}{pos:Pos}
theorem zm4 (i:Nat){x y:Int}(hi:α[i]?=some (some (.own [.int x,.int y])))(h0:0<=y)(g:y<4294967296)
  (h:SvS X ((yP α).set i (some .tape)) sts {nx:=λb=>E.nx (yP b),rt:=E.rt,bk:=λb=>E.bk (yP b),ct:=λb=>E.ct (yP b)}):SvS X α sts E:=λF σ H D m r=>by
 obtain⟨l,f,e,j⟩:=m.row hi h0 g;refine h _ σ H D j ⟨λb c H' d q=>r.nx _ _ _ (m.unrow f e d) q,λa v H' z q=>r.rt a v H' (z.unrow m f e) q,λb c H' d q=>r.bk _ _ _ (m.unrow f e d) q,λb c H' d q=>r.ct _ _ _ (m.unrow f e d) q⟩
theorem zl3 {pat:Pat}{F:Fr}{σ:St}{H:Hp}{D:Ends}(O:PassesOwn (model X.prog X.w) X.A X.env X.xe)(P:X.calm=true)(hg:PG X tg (pf X.K pat))(m:M F α σ H)(r:rA F E D)
  (h:∀R:It->Hp->Prop,(∀ds J H',we X pat body rest E ds α->zC F H'->Kz F H H'->ItW (λx=>¬Ow F α σ x) J ds (Gz F α σ H')->R J H')->bC X tg iter σ H R)
  (U:∀x,foldedSetIterable iter X.env x=pure x):gG X (.For tg iter body [] pos::rest) D σ H:=by
 refine⟨_,zy (eu O P tF hg zI U) zI,?_⟩;refine h _ λds J H1 C t1 T z=>?_;have m1:=m.kz T t1;have I:=m1.up;have v:rA (F.up (Gz F α σ H1)) E D:=r.up;refine⟨λi n g H'=>n=ds.length-i/\i<=ds.length/\∃b,M (F.up (Gz F α σ H1)) b g H'/\we X pat body rest E (ds.drop i) b,⟨ds.length,by simp,zK7 _,α,I,C⟩,?_⟩;rintro i n g H' ⟨rfl,hi,b,j,lw⟩;obtain⟨L,G⟩:=z i H' _ (m1.upold j);by_cases c:i<ds.length
 ·have hd:ds[i]?=some ds[i]:=zJ2 c;rw[zN6 c]at lw;obtain⟨W,Q,body⟩:=lw;obtain⟨go,V⟩:=L _ hd;refine .inr ⟨go,λf k=>∃b,M (F.up (Gz F α σ H1)) b f k/\we X pat _ rest E (ds.drop (i+1)) b,λf k ⟨p,S,N⟩=>⟨ds.length-(i+1),(om0 c),rfl,c,p,S,N⟩,λx B y=>?_⟩;obtain⟨l,u⟩:=V x B y;have m3:=j.kz (Kz.of_same l) (j.tp.same l);refine tD Q m3 (u λa o _ e=>j.fresh e) λs m4=>?_;exact body _ s B _ m4 ⟨λd σ2 t m2 q=>⟨d,m2,q⟩,v.rt,λd σ2 t m2 q=>q _ σ2 t D m2 v,λd σ2 t m2 q=>⟨d,m2,q⟩⟩
 ·have e:i=ds.length:=(zT0 hi (zT3 c));subst e;rw[zV3]at lw;exact .inl ⟨G (zJ5 _),lw _ g H' D j v⟩
end
section
variable {P:Program}{w:World}{K:PySem.W.Frag}{mg:Str->Option Value}{base:Heap}
def fr0 (H:Hp):Fr:=⟨H,uU,none⟩
theorem M.zero {H:Hp}{σ:St}{n:Nat}(d:TabAt H)(k:n=σ.length):M (fr0 H) (List.replicate n none) σ H:=by
 have no:∀(i:Nat) a,(List.replicate n (none:Option A))[i]?≠some (some a):=λi a z=>by
  rw[zR0]at z;split at z<;>cases z
 exact⟨by rw[List.length_replicate];exact k,λi a s e=>absurd e (no i _),λi j a b s t l e=>absurd e (no i _),λi r q e=>absurd e (no i _),⟨d,λ_ h=>h,λt b c e=>by (cases e)⟩,λ_ _ e _=>e,λx f=>by
  obtain⟨o,g,hn,_⟩:=tq d f;exact⟨o,g,hn⟩⟩
theorem SqL.same {H H':Hp}{a:Addr}{xs:List V}(h:SqL K H a xs)(s:zt H H'):SqL K H' a xs:=by
 rcases h with(h|⟨o,h⟩)|h
 ·exact .inl (.inl (s _ _ h))
 ·exact .inl (.inr ⟨o,s _ _ h⟩)
 ·exact .inr h
theorem zG1 {st:Stmt}{f:Addr}{fd:FuncData}{l:List Str}{k:Nat}{x:Str}{pt:Pos}{T p1 p2 p3 p4 p5 p6 O:Pos}{X n1:Nat}{C:Int}{body rest:List Stmt}{j:Nat}(G:Fun K "law" "law" st f fd)(S:zS ("_law_script"::l) ["_law_script"] (zf st))
  (hb:zv st=.For (.Name x pt) (.BinOp (.List [.Constant (.int 0) X T] p1) .Add (.Subscript (.Name "_law_script" p2) (.Slice none (some (.Constant (.int C) n1 p3)) none p4) p5) p6) body [] O::rest)
  (U:Vis (zf st) "_law_script") (hj:(("_law_script":Str)::l)[j]?=some x) (o:Loc (zf st) x)
  (n:∀(cdv:Value) (t:Around) (outer:List Env) (s:Shared) (H:Hp) (E:XK) (zs:List Int),zK k (t.deeper (envOfC "law" (zf st) s.heap.objs.size f cdv))->zs.length<=64->
   we (wo CX0 P w K mg base ("_law_script"::l) "law" (zf st) f cdv t outer s H E).nox (.one j) body rest {nx:=λ_=>False,rt:=λa=>a=.dat (.bool true)} (zs.map .int) (List.replicate (l.length+1) none)):
  yD P w K mg base CX0 (k+1) f fd ["_law_script"] (pQ K):=by
 refine G.ok S (λvs H Q E h=>?_) (λcdv t outer s H vs Qc E hr h=>?_)
 ·obtain⟨a,ns,rfl,_⟩:=h;rfl
 ·obtain⟨a,ns,rfl,hS,hn,A,kq⟩:=h;rw[hb];have I:M (fr0 H) (List.replicate (l.length+1) none) (L2.start ("_law_script"::l) [.ref a]) H:=M.zero A (by unfold L2.start;simp);have p:∀{l3:Addr},¬uU l3->¬Ow (fr0 H) (List.replicate (l.length+1) none) (L2.start ("_law_script"::l) [.ref a]) l3:=λ{l3} hn=>by
   rintro(z|⟨i,ds,s,e1,e2,_⟩)
   ·exact hn z
   ·rw[zR0]at e1;split at e1<;>cases e1
  refine zl3 (E:={nx:=λ_=>False,rt:=λa=>a=.dat (.bool true)}) (pat:=.one j) z00 rfl (zD (i:=j) S.nd hj o) I ⟨λ_ _ _ _ z=>z.elim,λz v H' r e=>?_,λ_ _ _ _ z=>z.elim,λ_ _ _ _ z=>z.elim⟩ (λR Z=>?_) (λ_=>rfl)
  ·cases e;obtain⟨_,_,r⟩:=r;rw[AV.bl_inv r];exact kq H'
  ·refine⟨_,kh (yU dM (gX (zB zX ye)) (oj zc2 (yt (i:=0) rfl U) kl (kR zX))),?_⟩;obtain⟨ms,em,lm⟩:=cZ ns none (some C);refine⟨(by show 1<=sizeLine;decide),λl1 q=>⟨_,rfl,C,rfl,a,ns.map V.int,rfl,SqL.same hS (zL q),λl2 c=>?_⟩⟩;rw[em]at *;have m:l1≠l2:=λz=>by rw[<-z,zl]at c;cases c
   have D:H l2=none:=by rw[zg m.symm]at c;exact c
   refine⟨l1,l2,[.int 0],ms.map V.int,rfl,rfl,by rw[zg m];exact zl,zl,by rw[zJ3];exact zN5 (yp (by simp;lia)),λl3 b=>?_⟩;have Y:([V.int 0]++ms.map V.int)=((0::ms).map V.int):=rfl;rw[Y];have s3:zt H (upd (upd (upd H l1 (.lst [.int 0])) l2 (.lst (ms.map V.int))) l3 (.lst ((0::ms).map V.int))):=((zL q).trans (zL c)).trans (zL b);have g:H l3=none:=by
    have B:l3≠l2:=λz=>by rw[z,zl]at b;cases b
    have u:l3≠l1:=λz=>by rw[z,zg m,zl]at b;cases b
    rw[zg B,zg u]at b;exact b
   refine⟨l3,rfl,⟨_,SqL.of zl⟩,Z ((0::ms).map .int) _ _ (n cdv t outer s H E (0::ms) hr (by simp;exact zK0 lm hn)) (I.tp.same s3) (Kz.of_same s3) λi H2 p' L=>⟨λd hd=>?_,λF=>?_⟩⟩
   ·have ha:=SqL.of (K:=K) (zi (L l3 _ (zG (p (vN A g)) zl))).2;obtain⟨v,o,av⟩:=(ui (G:=H) (0::ms)).get hd;refine⟨⟨_,v,ha,o⟩,λx' H3 y=>?_⟩;obtain⟨e,y⟩:=y;subst e;have:=y _ ha;rw[o]at this;cases this;rw[zK8,zM2]at hd o;obtain⟨z1,N,rfl⟩:=hd;obtain⟨z2,J,rfl⟩:=o;rw[N]at J;cases J;exact⟨zt.refl _,λ_=>.int _⟩
   ·exact⟨_,SqL.of (zi (L l3 _ (zG (p (vN A g)) zl))).2,by rw[zJ3]at F ⊢;exact F⟩
end
section
variable {X:Cx}{α:Ev}{p pos ap:Pos}{a b c:Expr}{Q:PyData->Prop}
end
section
variable {X:Cx}{α:Ev}{E:yk}{rest:List Stmt}{tg iter:Expr}{pos:Pos}
end
end L2
namespace SetW
open PySem PyProof.Rows
abbrev Up (xs:Array Nat):Prop:=xs.toList.Pairwise (·<·)
def Ris (t:SetTable):Prop:=t.plain=true->Up t.place
theorem Up.lt {xs:Array Nat}(h:Up xs){i j:Nat}(a:i<j)(b:j<xs.size):xs[i]'(zW3 a b)<xs[j]:=by
 have:=zQ5.mp h i j (by simpa using zW3 a b) (by simpa using b) a;simpa using this
theorem sO {xs:Array Nat}(h:Up xs)(j:Nat):∀f lo up,up-lo<=f->lo<=up->up<=xs.size->(∀i (hi:i<xs.size),i<lo->xs[i]<j)->(∀i (hi:i<xs.size),up<=i->j<=xs[i])->
  SetTable.below.go xs j f lo up<=xs.size/\(∀i (hi:i<xs.size),i<SetTable.below.go xs j f lo up->xs[i]<j)/\(∀i (hi:i<xs.size),SetTable.below.go xs j f lo up<=i->j<=xs[i])
 |0,lo,up,hf,hle,g,d,c=>by
  have e:lo=up:=by omega
  subst e;exact⟨g,d,c⟩
 |f+1,lo,up,hf,hle,g,d,c=>by
  unfold SetTable.below.go;by_cases b:lo<up
  ·rw[if_pos b];have hm:(lo+up) / 2<xs.size:=by omega
   have m:xs.getD ((lo+up) / 2) j=xs[(lo+up) / 2]:=by simp[Array.getD,hm]
   dsimp only;rw[m];by_cases k:xs[(lo+up) / 2]<j
   ·rw[if_pos k];refine sO h j f ((lo+up) / 2+1) up (by omega) (by omega) g (λi a l=>?_) c;rcases zO5 i ((lo+up) / 2)with z|z
    ·exact zW3 (h.lt z hm) k
    ·have e:i=(lo+up) / 2:=by omega
     subst e;exact k
   ·rw[if_neg k];refine sO h j f lo ((lo+up) / 2) (by omega) (by omega) (by omega) d (λi a l=>?_);rcases zO5 ((lo+up) / 2) i with z|z
    ·have:=h.lt z a;omega
    ·have e:i=(lo+up) / 2:=by omega
     subst e;omega
  ·rw[if_neg b];have e:lo=up:=by omega
   subst e;exact⟨g,d,c⟩
theorem vR {xs:Array Nat}(h:Up xs)(j:Nat):SetTable.below xs j<=xs.size/\(∀i (hi:i<xs.size),i<SetTable.below xs j->xs[i]<j)/\(∀i (hi:i<xs.size),SetTable.below xs j<=i->j<=xs[i]):=
 sO h j xs.size 0 xs.size (by omega) (zK7 _) (zJ5 _) (λi _ z=>absurd z (z40 _)) (λi hi z=>absurd hi (by omega))
theorem jr {xs:Array Nat}(h:Up xs){i:Nat}(hi:i<xs.size):SetTable.below xs xs[i]=i:=by
 obtain⟨a,b,c⟩:=vR h xs[i];rcases zO5 i (SetTable.below xs xs[i])with z|z
 ·have:=b i hi z;omega
 ·rcases zO5 (SetTable.below xs xs[i]) i with y|y
  ·have e:=c _ (by omega) (zJ5 _);have d:=h.lt y hi;omega
  ·omega
theorem nN {xs:Array Nat}(h:Up xs){i:Nat}(hi:i<xs.size):SetTable.below xs (xs[i]+1)=i+1:=by
 obtain⟨a,b,c⟩:=vR h (xs[i]+1);rcases zO5 i (SetTable.below xs (xs[i]+1))with z|z
 ·rcases zO5 (i+1) (SetTable.below xs (xs[i]+1))with y|y
  ·have f:=b (i+1) (by omega) y;have d:=h.lt (zP2 i) (show i+1<xs.size by omega);have e:xs[i.succ]'(by omega)=xs[i+1]'(by omega):=rfl;omega
  ·omega
 ·have:=c i hi z;omega
theorem nX {xs:Array Nat}(h:Up xs):SetTable.below xs 0=0:=by
 obtain⟨a,b,c⟩:=vR h 0;rcases zO5 0 (SetTable.below xs 0)with z|z
 ·have:=b 0 (by omega) z;omega
 ·omega
def Off (t:SetTable)(j:Nat):Prop:=t.place[SetTable.below t.place j]?≠some j
theorem Off.notin {t:SetTable}{j:Nat}(h:Off t j)(u:Up t.place):j∉t.place.toList:=λz=>by
 obtain⟨i,hi,e⟩:=zZ2 z;have a:i<t.place.size:=by simpa using hi
 have b:t.place[i]=j:=by simpa using e
 have:=jr u a;rw[b]at this;exact h (by rw[this,zR9 a,b])
theorem nC {t:SetTable}{j:Nat}(h:∀i,t.slot j≠.live i):Off t j:=λz=>by
 refine h (SetTable.below t.place j) ?_;unfold SetTable.slot;simp only[z,beq_self_eq_true,zX9]
theorem ur {t:SetTable}{ha:Nat->Int}{c:Int}:∀f (p:SetTable.Probe) {j:Nat}{d:Option Nat},(∀x,p.dummy=some x->Off t x)->SetTable.probe.go t ha c f p=some (.empty j d)->Off t j/\∀x,d=some x->Off t x
 |0,p,j,d,_,e=>by cases e
 |f+1,p,j,d,h,e=>by
  unfold SetTable.probe.go at e;split at e
  ·rename_i b;cases e;exact⟨nC (λi z=>by rw[b]at z;cases z),h⟩
  ·rename_i b;refine ur f _ (λx a=>?_) e;have:∀q:SetTable.Probe,(t.advance q).dummy=q.dummy:=λq=>by unfold SetTable.advance;split<;>rfl
   rw[this]at a;cases a;exact nC λi z=>by rw[b]at z;cases z
  ·rename_i i b;have:∀q:SetTable.Probe,(t.advance q).dummy=q.dummy:=λq=>by unfold SetTable.advance;split<;>rfl
   split at e
   ·cases e
   ·exact ur f _ (λx a=>by rw[this]at a;exact h x a) e
theorem fY {t:SetTable}{h:Int}{j:Nat}{b:Bool}(e:t.freeSlot h=some (j,b)):Off t j:=by
 unfold SetTable.freeSlot at e;split at e
 ·rename_i i d c;cases e;obtain⟨g,f⟩:=ur _ _ (λx a=>by unfold SetTable.probeStart at a;cases a) c;cases d with
  |none=>exact g
  |some x=>exact f x rfl
 ·cases e
theorem iu {xs:Array Nat}{j:Nat}(h:Up xs)(g:j∉xs.toList):Up (SetTable.insertAt xs (SetTable.below xs j) j):=by
 obtain⟨a,b,c⟩:=vR h j;have e1:∀y∈xs.toList.take (SetTable.below xs j),y<j:=λy hy=>by
  obtain⟨i,hi,e⟩:=zZ2 hy;rw[zM3]at hi;rw[List.getElem_take]at e;have:=b i (by simp at hi;omega) (by omega);simp at e;omega
 have d:∀y∈xs.toList.drop (SetTable.below xs j),j<y:=λy hy=>by
  have hne:y≠j:=λz=>g (z▸zS7 hy);obtain⟨i,hi,e⟩:=zZ2 hy;rw[zS2]at hi;rw[List.getElem_drop]at e;have f:i<xs.size-SetTable.below xs j:=by simpa using hi
  have:=c (SetTable.below xs j+i) (by omega) (by omega);simp at e;omega
 unfold Up;rw[SetTable.toList_insertAt,zM7];refine⟨h.sublist (zU5 _ _),List.pairwise_cons.mpr ⟨d,h.sublist (zU8 _ _)⟩,λy hy z hz=>?_⟩;rcases zJ6.mp hz with rfl|hz
 ·exact e1 y hy
 ·exact zW3 (e1 y hy) (d z hz)
theorem zb5 {t:SetTable}(es:Array (Int×Value))(h:Int)(x:Value)(r:Ris t):Ris (layNew t es h x).2.1/\(layNew t es h x).2.1.led=t.led:=by
 unfold layNew;split
 ·rename_i j b hf;have c:=fY hf;dsimp only;unfold SetTable.orStandIn;split
  ·refine⟨λa=>?_,rfl⟩;exact iu (r a) (c.notin (r a))
  ·exact⟨λa=>Bool.noConfusion (show false=true from a),rfl⟩
 ·exact⟨λa=>Bool.noConfusion (show false=true from a),rfl⟩
theorem iq {t:SetTable}(es:Array (Int×Value))(n:Nat):Ris (relayAll t es n).2.1/\(relayAll t es n).2.1.led=t.led:=by
 unfold relayAll;split
 ·rename_i t' order hr;unfold SetTable.relaid SetTable.laid at hr;cases ho:SetTable.layClean (SetTable.sizeAbove n-1) (es.map (·.1))with
  |none=>rw[ho]at hr;cases hr
  |some owner=>
   rw[ho]at hr;cases hr;dsimp only;split
   ·refine⟨λ_=>?_,rfl⟩;show(List.toArray _).toList.Pairwise (·<·);rw[List.toList_toArray];have key:∀(l:List Nat),l.Pairwise (·<·)->((l.filterMap λj=>(owner.getD j none).map λy=>(j,y)).map (·.1)).Pairwise (·<·):=by
     intro l d;rw[List.map_filterMap];refine List.Pairwise.sublist ?_ d;have:∀l:List Nat,(l.filterMap λj=>Option.map (λx:Nat×Nat=>x.1) ((owner.getD j none).map λy=>(j,y))).Sublist l:=by
      intro l
      induction l with
      |nil=>exact .slnil
      |cons a l c=>
       rw[zZ0];cases owner.getD a none with
       |none=>exact c.cons _
       |some y=>exact c.cons_cons _
     exact this l
    exact key _ List.pairwise_lt_range
   ·exact⟨λb=>Bool.noConfusion (show false=true from b),rfl⟩
 ·exact⟨λb=>Bool.noConfusion (show false=true from b),rfl⟩
section
variable {prog:Program}{w:World}{A:Around}{E:Value->Shared->Prop}{s:Shared}
structure WkO (prog:Program)(w:World)(o:Obj)(S:Int->Bool)(n:Nat)(b:Bool)(es:Array (Int×Value))(ep:Nat)(t:SetTable):Prop where
 ex:o.ExactSet
 dt:o.data=.set es ep t
 el:ElemsOf (intKind prog w) es.toList
 mem:∀k,S k=true↔∃e∈es.toList,(intKind prog w).is k e.2=true
 sb:es.size<scanBound
 fit:t.fits es.size=true
 sz:es.size=n
 led:t.led=b
 ris:Ris t
def Wk (prog:Program)(w:World)(h:Heap)(a:Addr)(S:Int->Bool)(n:Nat)(b:Bool):Prop:=∃o es ep t,h.get? a=some o/\WkO prog w o S n b es ep t
theorem Wk.keep {h h':Heap}{a:Addr}{S:Int->Bool}{n:Nat}{b:Bool}(k:∀o,h.get? a=some o->h'.get? a=some o)(x:Wk prog w h a S n b):Wk prog w h' a S n b:=by
 obtain⟨o,es,ep,t,c,r⟩:=x;exact⟨o,es,ep,t,k o c,r⟩
theorem Wk.congr {h:Heap}{a:Addr}{S c:Int->Bool}{n d:Nat}{b:Bool}(x:Wk prog w h a S n b)(e:∀k,S k=c k)(f:n=d):Wk prog w h a c d b:=by
 have:S=c:=funext e;subst this f;exact x
theorem WkO.put {h:Heap}{a:Addr}{o:Obj}{S d:Int->Bool}{n:Nat}{b c:Bool}{es es':Array (Int×Value)}{ep:Nat}{t t':SetTable}(f:h.get? a=some o)(x:WkO prog w o S n b es ep t)
  (el:ElemsOf (intKind prog w) es'.toList) (mem:∀k,d k=true↔∃e∈es'.toList,(intKind prog w).is k e.2=true) (sb:es'.size<scanBound) (fit:t'.fits es'.size=true) (led:t'.led=c) (ris:Ris t'):
  ∃o',(h.update a (Obj.putSet es' t')).get? a=some o'/\WkO prog w o' d es'.size c es' (ep+1) t':=by
 refine⟨{o with data:=.set es' (ep+1) t'},?_,x.ex,rfl,el,mem,sb,fit,rfl,led,ris⟩;have:=zV7 (Obj.putSet es' t') f (by rw[putSet_of es' t' x.dt];rfl)
 rwa [putSet_of es' t' x.dt]at this
theorem kH {g:Bool->Sem Unit}(hg:∀(d:Bool) (i:Shared) (Q':Unit->Shared->Prop),Q' () i->wpAny (model prog w) A (g d) Q' E i){a:Addr}{o:Obj}{S v:Int->Bool}{n:Nat}{b:Bool}{es c:Array (Int×Value)}{ep:Nat}{t f:SetTable}
  (y:s.heap.get? a=some o) (x:WkO prog w o S n b es ep t) (el:ElemsOf (intKind prog w) c.toList) (mem:∀k,v k=true↔∃e∈c.toList,(intKind prog w).is k e.2=true) (sb:c.size<scanBound) (fit:f.fits c.size=true) (led:f.led=b) (ris:Ris f)
  {C:Bool} {R:Option Bool->Shared->Prop} (h:∀h',Heap.SameBut a s.heap h'->Wk prog w h' a v c.size b->R (some true) {s with heap:=h'}):
  wpAny (model prog w) A (storeSet a c f >>= λ_=>if(!C&&f.tooFull)=true then(g (relayAll f c (SetTable.grown c.size)).2.2 >>= λ_=>storeSet a (relayAll f c (SetTable.grown c.size)).1 (relayAll f c (SetTable.grown c.size)).2.1 >>= λ_=>pure (some true))else pure (some true)) R E s:=by
 refine zI9 (wpAny_storeSet_of y x.dt ?_ (z23 sb));obtain⟨B,j,r⟩:=x.put y el mem sb fit led ris;have same:=zV2 s.heap a (Obj.putSet c f);split
 ·obtain⟨p,u⟩:=iq (t:=f) c (SetTable.grown c.size);have pm:=relayAll_perm f c (SetTable.grown c.size);have ft:=relayAll_fits f c (SetTable.grown c.size);generalize relayAll f c (SetTable.grown c.size)=Z at p u pm ft;obtain⟨l,t3,F⟩:=Z;dsimp only at p u pm ft ⊢;have sz:l.size=c.size:=by rw[<-zP9,pm.length_eq,zP9]
  refine zI9 (hg _ _ _ (zI9 (wpAny_storeSet_of j r.dt ?_ (z23 (by omega)))));obtain⟨D,m,z⟩:=r.put (es':=l) (t':=t3) j (el.perm pm) (λk=>(mem k).trans ⟨λ⟨e,he,q⟩=>⟨e,pm.mem_iff.mpr he,q⟩,λ⟨e,he,q⟩=>⟨e,pm.mem_iff.mp he,q⟩⟩) (by omega) ft (u.trans led) p;rw[sz]at z;exact zJ1 (h _ (same.trans (zV2 _ a _)) ⟨D,l,_,t3,m,z⟩)
 ·exact zJ1 (h _ same ⟨B,c,_,f,j,r⟩)
theorem zu3 {a:Addr}{S:Int->Bool}{n:Nat}{b:Bool}{k:Int}{tk:Tok}{Q:Bool->Shared->Prop}(x:Wk prog w s.heap a S n b)(D:n+1<scanBound)
  (h:∀h',Heap.SameBut a s.heap h'->Wk prog w h' a (λj=>S j||decide (j=k)) (if S k then n else n+1) b->∀r,Q r {s with heap:=h'}):
  wpAny (model prog w) A (setAddHashed a (.int k tk) ((intKind prog w).hash k)) Q E s:=by
 obtain⟨o,es,ep,t,u,x⟩:=x;have f:(intKind prog w).is k (.int k tk)=true:=intKind_is _ _ _ _;have v:(Value.int k tk).scannable=true:=rfl;unfold setAddHashed setAddHashedIn;refine zO9 (zI9 (zU9 u x.dt x.fit ?_));dsimp only;rw[byScan_of v x.sb x.el,if_pos rfl];unfold setAddByScan;refine zI9 (zI9 (zR8 (zI9 (wpAny_setScan_of f u x.dt x.fit x.el ?_))));cases hr:List.findIdx? (λe=>(intKind prog w).is k e.2) es.toList with
 |some j=>
  obtain⟨H,C,_⟩:=List.findIdx?_eq_some_iff_getElem.mp hr;have i:S k=true:=(x.mem k).mpr ⟨_,zO6 H,C⟩;refine zJ1 (zJ1 ?_);have q:=h s.heap (Heap.SameBut.refl a s.heap) ⟨o,es,ep,t,u,x.ex,x.dt,x.el,λJ=>by
   rw[zZ7,zU6,<-x.mem J];exact⟨λz=>z.elim id λe=>e▸i,.inl⟩,x.sb,x.fit,by rw[i];exact x.sz,x.led,x.ris⟩
  cases s;exact q _
 |none=>
  have i:S k=false:=by
   cases hk:S k with
   |false=>rfl
   |true=>
    obtain⟨e,he,I⟩:=(x.mem k).mp hk;have:=List.findIdx?_eq_none_iff.mp hr e he;rw[I]at this;cases this
  obtain⟨B,nl⟩:=zb5 es ((intKind prog w).hash k) (.int k tk) x.ris;have pm:=layNew_perm t es ((intKind prog w).hash k) (.int k tk);have ft:=layNew_fits t es ((intKind prog w).hash k) (.int k tk);dsimp only;generalize layNew t es ((intKind prog w).hash k) (.int k tk)=L at B nl pm ft;obtain⟨g,t1,M,K⟩:=L;dsimp only at B nl pm ft ⊢;rw[zV0]at pm;have F:g.size=n+1:=by rw[<-zP9,pm.length_eq,zM9,zP9,x.sz];rfl
  have m:ElemsOf (intKind prog w) g.toList:=(x.el.push f v).perm pm;have l:∀j,(S j||decide (j=k))=true↔∃e∈g.toList,(intKind prog w).is j e.2=true:=mem_push_iff f x.mem pm;have fin:∀h',Heap.SameBut a s.heap h'->Wk prog w h' a (λj=>S j||decide (j=k)) g.size b->∀r,Q r {s with heap:=h'}:=λh' sb y=>by
   have:=h h' sb;rw[i]at this;exact this (y.congr (λ_=>rfl) F)
  refine zI9 ?_;have G:∀(d:Bool) (c:Shared) (Q':Unit->Shared->Prop),Q' () c->wpAny (model prog w) A (match d with|true=>rule "set.scan.the-table-gave-way"|false=>pure ()) Q' E c:=λd c Q' hq=>by
   cases d
   ·exact zJ1 hq
   ·exact zR8 hq
  refine G _ _ _ ?_;have p:g.size<scanBound:=by omega
  split
  ·rw[show hashByValue 8 (Value.int k tk)=pure true from rfl];refine zI9 (zJ1 ?_);simp only[zX9];refine kH ?_ u x m l p ft (nl.trans x.led) B λh' sb y=>zJ1 (fin h' sb y _);intro d c Q' hq;cases d<;>first|exact zJ1 hq|exact zR8 hq
  ·refine zI9 (zJ1 ?_);simp only[zX9];refine kH ?_ u x m l p ft (nl.trans x.led) B λh' sb y=>zJ1 (fin h' sb y _);intro d c Q' hq;cases d<;>first|exact zJ1 hq|exact zR8 hq
end
def yN (w:World):Bool:=!w.params.followText "set-order"
abbrev uY (w:World):Obj:={cls:=.type "set",dict:=none,data:=.set #[] 0 (.fresh 0 0 (yN w))}
theorem za9 {prog:Program}{w:World}:WkO prog w (uY w) (λ_=>false) 0 (yN w) #[] 0 (.fresh 0 0 (yN w)):=
 ⟨⟨rfl,rfl,rfl⟩,rfl,λe he=>by simp at he,λk=>by simp,by decide,by rfl,rfl,rfl,λ_=>.nil⟩
section
variable {prog:Program}{w:World}{A:Around}{E:Value->Shared->Prop}{s:Shared}
theorem zr3 (v:Value){Q₁:Value->Shared->Prop}(h:Q₁ (.ref s.heap.objs.size) {s with heap:=s.heap.push (uY w)}):codeAny (model prog w) A (.call (.builtin "set.__new__") ⟨[.type "set",v],[]⟩) (wants Q₁ E) s:=by
 refine codeAny_of_tree ?_;show wpAny _ A.in1 (checkBuiltinCall "set.__new__" ⟨[.type "set",v],[]⟩ >>= λ_=>again (.builtin "set.__new__" ⟨[.type "set",v],[]⟩)) _ _ s;refine zI9 (zX6 (F.newCall_set_1 v) (zJ1 ⟨zX3 F.plain_set_new _,zU2 F.entry_set_new ?_⟩));rw[zS6 F.plain_set_new _];unfold Builtin.«set.__new__» Builtin.Frozenset.newClass;have a:=sub_set_self;obtain⟨b,g,d,tk,os⟩:=s;dsimp only
 wp_walk
 refine zV4 (zJ1 ?_);simp only[newObj];exact zI9 (wpAny_alloc (zJ1 (zJ1 h)))
end
section
variable {prog:Program}{w:World}{A:Around}{R:Result->Shared->Prop}{I:Addr}{fp wr:List Addr}{G:Array GenState->Array GenState->Prop}{n:Nat}{P:Nat->Value->Prop}{St:Nat->Shared->Prop}{b:Bool}
theorem bX (W:WalksS prog w A.in1 I fp wr G n P St)(S:Addr)(u:S∉fp)(val:Nat->Int)(y:∀i v,P i v->∃t,v=.int (val i) t)(hb:n+1<scanBound):
  ∀(k i:Nat) (s:Shared),n-i=k->i<=n->St i s->Wk prog w s.heap S (λj=>(firstMet val i).any (· == j)) (firstMet val i).length b->
   (∀s',Moved (S::wr) G s s'->Wk prog w s'.heap S (λj=>(firstMet val n).any (· == j)) (firstMet val n).length b->R (.ok (.ret .none)) s')->
   codeAny (model prog w) A (.builtin "set.update.loop" ⟨[.ref S,.ref I],[]⟩) R s:=by
 have l:S∉wr:=λh=>u (W.sub _ h);have a:∀c∈wr,c∈S::wr:=λc g=>zJ8 _ g;intro k
 induction k with
 |zero=>
  intro i s hk hi d x C;have e:i=n:=by omega
  subst e;refine zU2 F.entry_set_update_loop ?_;rw[zS6 F.plain_set_update_loop _];exact zI9 (W.done s _ _ d λs' hm=>zJ1 (C s' (hm.mono a) (x.keep λo D=>hm.heap S _ l D)))
 |succ k K=>
  intro i s hk hi d x C;have p:i<n:=by omega
  refine zU2 F.entry_set_update_loop ?_;rw[zS6 F.plain_set_update_loop _];refine zI9 (W.item i s _ _ p d λv s' E q hm=>?_);obtain⟨t,rfl⟩:=y i v E;have L:Wk prog w s'.heap S (λj=>(firstMet val i).any (· == j)) (firstMet val i).length b:=x.keep λo D=>hm.heap S _ l D;show wpAny _ A.in1 (holding [Value.int (val i) t] (setAdd S (.int (val i) t)) >>= _) _ _ s';refine zI9 (zO9 ?_);unfold setAdd;refine zO9 (zI9 ((intKind prog w).pyHash (k:=val i) (intKind_is _ _ _ _) ?_));have room:(firstMet val i).length+1<scanBound:=by have:=firstMet_length_le val i;omega
  refine zu3 (s:={s' with toks:=s'.toks+1}) L room λh' m M r=>?_;have H:Wk prog w h' S (λj=>(firstMet val (i+1)).any (· == j)) (firstMet val (i+1)).length b:=M.congr (λj=>by rw[firstMet_succ,step_any]) (by rw[firstMet_succ,step_length]);refine zJ1 ⟨zX3 F.plain_set_update_loop _,K (i+1) _ (by omega) p (W.frame _ s' _ _ q (zT8 _) λc g o e=>?_) H λB f J=>?_⟩
  ·rw[m.2 c λz=>u (by rw[<-z];exact g)];exact e
  ·refine C B (Moved.trans W.gtrans ((hm.mono a).then_heap (zT8 _) λc o g e=>?_) f) J;rw[m.2 c λz=>g (by rw[z];exact zK5)];exact e
end
section
variable {prog:Program}{w:World}{A:Around}{E:Value->Shared->Prop}{s:Shared}
theorem sr {l:Addr}{its:Array Value}{ns:List Int}{Q:Value->Shared->Prop}(V:A.handled=none)(S:s.heap.IsList l its)(hi:IntsAre its.toList ns)(hb:its.size+1<scanBound)
  (h:∀(h':Heap) (tk:Nat),Wk prog w h' s.heap.objs.size (λj=>(firstMet (λi=>ns.getD i 0) its.size).any (· == j)) (firstMet (λi=>ns.getD i 0) its.size).length (yN w)->
   (∀c o,c<s.heap.objs.size->s.heap.get? c=some o->h'.get? c=some o)->Q (.ref s.heap.objs.size) {s with heap:=h',toks:=tk}):wpAny (model prog w) A (call (.type "set") [.ref l]) Q E s:=by
 obtain⟨c,tl,M⟩:=zW7.mro;have B:=zW7.made;have I:=zW7.sub;refine wpAny_call (codeAny_of_tree ?_);show wpAny _ _ (callAny (.type "set") _) _ _ _;refine zJ1 ⟨Code.quiet_builtin _ (by decide +kernel),zU2 F.entry_type_call ?_⟩;rw[Around.under_plain (weight_type_call_type "set" [.ref l] []) rfl];have h1:=zW7.notType;have h2:=zW7.canCreate;have W:=F.typeCall_set_1 (.ref l)
 repeat (any_goals (first|assumption|wp_step))
 refine zX8 (zr3 (.ref l) (E:=E) (Q₁:=λob f=>ob=.ref s.heap.objs.size/\f={s with heap:=s.heap.push (uY w)}) ⟨rfl,rfl⟩) λr f hr=>?_;cases r with
 |error e=>exact hr
 |ok fl=>
  cases fl with
  |ret ob=>
   obtain⟨rfl,rfl⟩:=hr;have K:(s.heap.push (uY w)).get? s.heap.objs.size=some (uY w):=zK2 _ rfl;have U:Shared.TypeIs {s with heap:=s.heap.push (uY w)} (.ref s.heap.objs.size) "set":=⟨_,K,rfl⟩;have Y:=zW7.init.lookup;have hbi:=zW7.init.bind (.ref s.heap.objs.size)
   repeat (any_goals (first|assumption|wp_step))
   refine zX8 (codeAny_call_builtin (R:=wants (λr d=>r=.none/\∃h' tk,d={s with heap:=h',toks:=tk}/\Wk prog w h' s.heap.objs.size (λj=>(firstMet (λi=>ns.getD i 0) its.size).any (· == j)) (firstMet (λi=>ns.getD i 0) its.size).length (yN w)/\
     (∀c o,c<s.heap.objs.size->s.heap.get? c=some o->h'.get? c=some o)) E) zW7.init.plain F.entry_set_init (check_set_init_1 U ?_)) λt d a=>?_
   ·obtain⟨ol,n,hcl,nl,p⟩:=S;obtain⟨N,g,G,b⟩:=ol;simp only at hcl p;subst hcl p;have m:(s.heap.push (uY w)).get? l=some {cls:=.type "list",dict:=g,data:=.seq its nl,slots:=b}:=zJ0 _ n;have L:=F.sub_list_set;have O:=F.sub_list_frozenset;have hne:(Value.type "list" == Value.type "dict")=false:=by decide
    have u:(s.heap.push (uY w)).IsList l its:=⟨_,m,rfl,nl,rfl⟩;unfold Builtin.«set.__init__» noKeywords Builtin.Frozenset.updateFrom;generalize D:pyIter=PI
    wp_walk
    subst D;refine zX7 u (zI9 (wpAny_runValue ?_));have y:l<s.heap.objs.size:=zK3 n;have sz:(s.heap.push (uY w)).objs.size=s.heap.objs.size+1:=zQ6 _ _;have q:l≠(s.heap.push (uY w)).objs.size:=by rw[sz];exact zK9 (zR6 y)
    have H:s.heap.objs.size∉[(s.heap.push (uY w)).objs.size,l]:=by
     rw[sz];simp only[zJ6,zL1,zO0,not_or];exact⟨zK9 (zP2 _),zT9 y⟩
    refine bX ((Walks.list (by simp[V]) _ l q its).toS) s.heap.objs.size H (λi=>ns.getD i 0) (λi v X=>IntsAre.int_at hi i v (by rw[zT4];exact X)) hb (its.size-0) 0 _ (by omega) (zK7 _)
     ⟨⟨_,zK2 _ rfl,rfl,rfl⟩,u.push _⟩ ⟨uY w,_,_,_,zJ0 _ K,za9⟩ λs' hm x=>?_
    obtain⟨h',g',d',z,C⟩:=s';have T:g'=s.gens:=hm.gens;have Z:d'=s.drawn:=hm.drawn;have P:C=s.os:=hm.os;subst T Z P;refine zJ1 (zJ1 ⟨rfl,h',z,rfl,x,λc o J e=>?_⟩);refine hm.heap c o ?_ (zJ0 _ (zJ0 _ e));rw[sz];simp only[zJ6,zL1,zO0,not_or];exact⟨zK9 J,zK9 (zR6 J)⟩
   ·cases t with
    |error e=>exact a
    |ok k=>
     cases k with
     |ret r=>
      obtain⟨rfl,h',tk,rfl,x,hk⟩:=a
      repeat (any_goals (first|assumption|wp_step))
      exact h _ _ x hk
     |_=>exact a.elim
  |_=>exact hr.elim
end
theorem vE {α:Type}:∀(l:List α) (i:Nat) (x:α),l[i]?=some x->(x::l.eraseIdx i).Perm l
 |[],i,x,h=>by simp at h
 |a::l,0,x,h=>by simp at h;subst h;exact .refl _
 |a::l,i+1,x,h=>by
  have h':l[i]?=some x:=by simpa using h
  exact(List.Perm.swap a x (l.eraseIdx i)).trans ((vE l i x h').cons a)
theorem kF {α:Type}(next:Nat->Nat):∀(f k:Nat) (left:List α) (out:Array α),left.length=f->(pickOrder.go next f k left out).toList.Perm (out.toList++left)
 |0,k,left,out,e=>by
  rw[zX2.mp e,zQ3];exact .refl _
 |f+1,k,left,out,e=>by
  unfold pickOrder.go;have a:next k % left.length<left.length:=Nat.mod_lt _ (by omega)
  rw[zJ2 a];dsimp only;refine(kF next f (k+1) _ _ (by rw[List.length_eraseIdx];split<;>omega)).trans ?_;rw[zV0,zM1];exact zO7 _ (vE left _ _ (zJ2 a))
theorem uz {α:Type}(next:Nat->Nat)(xs:Array α):(pickOrder next xs).toList.Perm xs.toList:=by
 have:=kF next xs.size 0 xs.toList #[] (by simp)
 simpa[pickOrder]using this
section
variable {prog:Program}{w:World}{A:Around}{E:Value->Shared->Prop}
theorem jx {M:Model}{src:Source}{n:Nat}{s:Shared}{Q:Nat->Shared->Prop}(hn:n≠0)(h:∀i d,i<n->Q i {s with drawn:=d}):wpAny M A (choose src n) Q E s:=λ_ _ _=>⟨hn,h _ _ (Nat.mod_lt _ (Nat.pos_of_ne_zero hn))⟩
theorem kI {α:Type}:∀(n:Nat) (xs:List α) {s:Shared}{Q:List α->Shared->Prop},xs.length=n->(∀ys d,ys.Perm xs->Q ys {s with drawn:=d})->wpAny (model prog w) A (drawOrder n xs) Q E s
 |0,xs,s,Q,e,h=>by
  rw[zX2.mp e]at h;cases s;exact zJ1 (h [] _ (.refl _))
 |n+1,[],s,Q,e,h=>by cases e
 |n+1,x::xs,s,Q,e,h=>by
  unfold drawOrder;refine zI9 (jx (by simp) λi b a=>?_);rw[zJ2 a];dsimp only;refine zI9 (kI n _ (by rw[List.length_eraseIdx,if_pos a];simp at e ⊢;omega) λys d hy=>zJ1 ?_);exact h _ d ((hy.cons _).trans (vE _ _ _ (zJ2 a)))
end
theorem yh :Slot "set_iterator" "__next__" "set_iterator.__next__":=
 .of (owner:="set_iterator") (n:="__next__") (by rw[z39,zY1];kernel_rfl) (by decide +kernel) (by decide +kernel) (by decide +kernel) (by first|exact .inl (by decide +kernel)|exact .inr (by decide +kernel)) (by rw[isSubtype_type];kernel_rfl)
theorem wN :entryFor table "set_iterator.__next__"=some Builtin.«set_iterator.__next__»:=entryFor_of_fast (by kernel_rfl)
theorem vM (a:Value):argsOk "set_iterator.__next__" ⟨[a],[]⟩:=by unfold argsOk;kernel_rfl
theorem jm :entryFor table "set.__iter__"=some Builtin.«frozenset.__iter__»:=entryFor_alias (id':="frozenset.__iter__") (by kernel_rfl) rfl (by decide +kernel) (by kernel_rfl)
abbrev itO (f:Value)(i:Nat)(a:Addr)(n ep:Nat):Obj:={cls:=.type "set_iterator",data:=.fields #[f,.int i 0,.ref a,.int n 0,.int ep 0]}
section
variable {prog:Program}{w:World}{A:Around}{E:Value->Shared->Prop}{s:Shared}{I a:Addr}{i n ep:Nat}{o:Obj}{es:Array (Int×Value)}{S:Int->Bool}{m:Nat}{b:Bool}{t:SetTable}{Q:Option Value->Shared->Prop}
theorem bF {sl c:Nat}{v:Value}(d:s.heap.get? I=some (itO (.int sl 0) i a n ep))(e:s.heap.get? a=some o)(x:WkO prog w o S m b es ep t)(hn:es.size=n)
  (j:∀(k:Around) (E:Value->Shared->Prop) (Q':Option (Value×Nat)->Shared->Prop),Q' (some (v,c)) s->wpAny (model prog w) k (setNext a sl i ep) Q' E s)
  (h:∀h',h'.get? I=some (itO (.int c 0) (i+1) a n ep)->Heap.SameBut I s.heap h'->Q (some v) {s with heap:=h'}):wpAny (model prog w) A (pyNext (.ref I)) Q E s:=by
 have f:s.TypeIs (.ref I) "set_iterator":=⟨_,d,rfl⟩;unfold pyNext;refine zI9 (zV1 (zQ2 (name:=Str.ofString "__next__") f yh (zP7 yh f wN ?_ (vM _))));unfold Builtin.«set_iterator.__next__»;refine zI9 (zX6 (a:=(Value.ref I,([]:List Value))) (by rfl) (zI9 (wpAny_fieldsOf d rfl ?_)));refine zI9 (zW9 e x.dt x.fit ?_);rw[hn];refine zN4 (λz=>absurd z (by simp)) (λ_=>?_);refine zI9 (j _ _ _ ?_);refine zI9 (zQ4 d (by simp) λp e1 s1=>?_);refine zI9 (zQ4 e1 (by simp) λg l s2=>?_);exact zJ1 ⟨v,rfl,zJ1 (h g l (s1.trans s2))⟩
theorem zt9 {sl:Nat}(f:A.handled=none)(c:s.heap.get? I=some (itO (.int sl 0) i a n ep))(d:s.heap.get? a=some o)(x:WkO prog w o S m b es ep t)(hn:es.size=n)
  (h:∀(j:Around) (E:Value->Shared->Prop) (Q':Option (Value×Nat)->Shared->Prop),Q' none s->wpAny (model prog w) j (setNext a sl i ep) Q' E s)
  (g:∀h',Heap.ExtBut I s.heap h'->Q none {s with heap:=h'}):wpAny (model prog w) A (pyNext (.ref I)) Q E s:=by
 have e:s.TypeIs (.ref I) "set_iterator":=⟨_,c,rfl⟩;unfold pyNext;refine zI9 (zV1 (zQ2 (name:=Str.ofString "__next__") e yh (zP7 yh e wN ?_ (vM _))));unfold Builtin.«set_iterator.__next__»;refine zI9 (zX6 (a:=(Value.ref I,([]:List Value))) (by rfl) (zI9 (wpAny_fieldsOf c rfl ?_)));refine zI9 (zW9 d x.dt x.fit ?_);rw[hn];refine zN4 (λz=>absurd z (by simp)) (λ_=>?_);refine zI9 (h _ _ _ ?_);refine zI9 (zQ4 c (by simp) λk e1 s1=>?_);refine zI9 ?_;simp only[newExc,newTuple];refine zI9 (zP0 ?_ (by size_fits));refine zI9 (m:=firstArgMember _ _) (zX6 (a:=Value.none) (by first|rfl|(simp only[firstArgMember];rfl)) ?_);refine zP0 ?_ (by size_fits);simp only[raiseNew];refine zI9 (wpAny_handled ?_);rw[show A.in1.handled=none from f];refine zI9 (zJ1 (wpAny_throw ?_));refine zI9 (z32 (T:="StopIteration") (b:=true) ⟨_,zK2 _ rfl,rfl⟩ isSubtype_stop ?_);exact zJ1 (g _ ((s1.extBut.push _).push _))
theorem bf {tp:Addr}{ot:Obj}{places:Array Value}{c:Nat}{k:Nat}{u:Tok}{e:Int×Value}(h:s.heap.get? I=some (itO (.ref tp) i a n ep))(f:s.heap.get? tp=some ot)(g:ot.data=.seq places c)(d:s.heap.get? a=some o)(x:WkO prog w o S m b es ep t)(hn:es.size=n)
  (q:places[i]?=some (.int k u)) (he:es[k]?=some e)
  (p:∀h',h'.get? I=some (itO (.ref tp) (i+1) a n ep)->Heap.SameBut I s.heap h'->Q (some e.2) {s with heap:=h'}):wpAny (model prog w) A (pyNext (.ref I)) Q E s:=by
 have j:s.TypeIs (.ref I) "set_iterator":=⟨_,h,rfl⟩;unfold pyNext;refine zI9 (zV1 (zQ2 (name:=Str.ofString "__next__") j yh (zP7 yh j wN ?_ (vM _))));unfold Builtin.«set_iterator.__next__»;refine zI9 (zX6 (a:=(Value.ref I,([]:List Value))) (by rfl) (zI9 (wpAny_fieldsOf h rfl ?_)));refine zI9 (zW9 d x.dt x.fit ?_);rw[hn];refine zN4 (λz=>absurd z (by simp)) (λ_=>?_);refine zI9 (zS5 f g ?_);dsimp only;rw[zR7,q];dsimp only;unfold setNextDrawn;refine zI9 (zI9 (zU9 d x.dt x.fit ?_));dsimp only;rw[zR7,zR7];refine zN4 (λz=>absurd z (by simp)) (λ_=>?_);rw[he];refine zJ1 ?_;refine zI9 (zQ4 h (by simp) λl r s2=>?_);exact zJ1 ⟨e.2,rfl,zJ1 (p l r s2)⟩
theorem bz {tp:Addr}{ot:Obj}{places:Array Value}{c:Nat}(k:A.handled=none)(f:s.heap.get? I=some (itO (.ref tp) i a n ep))(d:s.heap.get? tp=some ot)(e:ot.data=.seq places c)(g:s.heap.get? a=some o)(x:WkO prog w o S m b es ep t)(hn:es.size=n)
  (p:places[i]?=none) (l:∀h',Heap.ExtBut I s.heap h'->Q none {s with heap:=h'}):wpAny (model prog w) A (pyNext (.ref I)) Q E s:=by
 have h:s.TypeIs (.ref I) "set_iterator":=⟨_,f,rfl⟩;unfold pyNext;refine zI9 (zV1 (zQ2 (name:=Str.ofString "__next__") h yh (zP7 yh h wN ?_ (vM _))));unfold Builtin.«set_iterator.__next__»;refine zI9 (zX6 (a:=(Value.ref I,([]:List Value))) (by rfl) (zI9 (wpAny_fieldsOf f rfl ?_)));refine zI9 (zW9 g x.dt x.fit ?_);rw[hn];refine zN4 (λz=>absurd z (by simp)) (λ_=>?_);refine zI9 (zS5 d e ?_);dsimp only;rw[zR7,p];refine zI9 (zQ4 f (by simp) λh0 j s0=>?_);refine zI9 (zQ4 j (by simp) λq e1 s1=>?_);refine zI9 ?_;simp only[newExc,newTuple];refine zI9 (zP0 ?_ (by size_fits));refine zI9 (m:=firstArgMember _ _) (zX6 (a:=Value.none) (by first|rfl|(simp only[firstArgMember];rfl)) ?_);refine zP0 ?_ (by size_fits);simp only[raiseNew];refine zI9 (wpAny_handled ?_);rw[show A.in1.handled=none from k];refine zI9 (zJ1 (wpAny_throw ?_));refine zI9 (z32 (T:="StopIteration") (b:=true) ⟨_,zK2 _ rfl,rfl⟩ isSubtype_stop ?_);exact zJ1 (l _ (((s0.trans s1).extBut.push _).push _))
theorem nI (d:s.heap.get? a=some o)(x:WkO prog w o S m b es ep t)(j:yN w=true)(hb:b=true)(f:(!t.plain&&decide (es.size > 1))=false)(hi:i<es.size)(e:Around)(E:Value->Shared->Prop)(Q':Option (Value×Nat)->Shared->Prop){sl:Nat}(g:SetTable.below t.place sl=i)
  (q:∀(k:i<t.place.size),Q' (some (es[i].2,t.place[i]+1)) s):wpAny (model prog w) e (setNext a sl i ep) Q' E s:=by
 have h:w.params.followText "set-order"=false:=by simpa[yN]using j
 have hpl:t.place.size=es.size:=by
  have:=x.fit;simp only[SetTable.fits,zN1,zY2]at this;exact this.1
 unfold setNext;refine zI9 (zU9 d x.dt x.fit ?_);dsimp only;unfold setsByText;refine zI9 (zI9 (zV4 (zJ1 ?_)));refine zN4 (λz=>absurd z (by show ¬(w.params.followText "set-order"=true);rw[h];decide)) (λ_=>?_);have c:t.led=true:=x.led.trans hb;refine zN4 (λz=>absurd (show(!t.plain&&decide (es.size > 1))=true from z) (by rw[f];decide)) (λ_=>?_);refine zI9 ((?_:wpAny (model prog w) e (if(!t.led&&!es.isEmpty)=true then unsupported "set:maker-not-led" else pure ()) _ E s));rw[c];refine zJ1 ?_;rw[g,zR9 hi,zR9 (show i<t.place.size by omega)];exact zJ1 (q (by omega))
theorem iC (d:s.heap.get? a=some o)(x:WkO prog w o S m b es ep t)(j:yN w=true)(hb:b=true)(f:(!t.plain&&decide (es.size > 1))=false)(e:Around)(E:Value->Shared->Prop)(Q':Option (Value×Nat)->Shared->Prop){sl:Nat}(g:SetTable.below t.place sl=es.size)
  (q:Q' none s):wpAny (model prog w) e (setNext a sl i ep) Q' E s:=by
 have h:w.params.followText "set-order"=false:=by simpa[yN]using j
 unfold setNext;refine zI9 (zU9 d x.dt x.fit ?_);dsimp only;unfold setsByText;refine zI9 (zI9 (zV4 (zJ1 ?_)));refine zN4 (λz=>absurd z (by show ¬(w.params.followText "set-order"=true);rw[h];decide)) (λ_=>?_);have c:t.led=true:=x.led.trans hb;refine zN4 (λz=>absurd (show(!t.plain&&decide (es.size > 1))=true from z) (by rw[f];decide)) (λ_=>?_);refine zI9 ((?_:wpAny (model prog w) e (if(!t.led&&!es.isEmpty)=true then unsupported "set:maker-not-led" else pure ()) _ E s));rw[c];refine zJ1 ?_;rw[g,Array.getElem?_eq_none (zJ5 _)];exact zJ1 q
theorem rR (c:s.heap.get? a=some o)(x:WkO prog w o S m b es ep t)(f:yN w=false)(g:Around)(E:Value->Shared->Prop)(Q':Option (Value×Nat)->Shared->Prop){sl:Nat}
  (q:Q' (((pickOrder (w.params.setOrder a ep) es)[i]?).map λe=>(e.2,sl)) s):wpAny (model prog w) g (setNext a sl i ep) Q' E s:=by
 have d:w.params.followText "set-order"=true:=by simpa[yN]using f
 unfold setNext;refine zI9 (zU9 c x.dt x.fit ?_);dsimp only;unfold setsByText;refine zI9 (zI9 (zV4 (zJ1 ?_)));refine zN4 (λ_=>?_) (λz=>absurd d z);refine zN4 (λz=>absurd z (by simp)) (λ_=>?_);unfold setWalk;refine zI9 (zI9 (zU9 c x.dt x.fit ?_));dsimp only;unfold setsByText;refine zI9 (zI9 (zV4 (zJ1 ?_)));refine zN4 (λ_=>?_) (λz=>absurd d z);exact zI9 (zV4 (zJ1 (zJ1 q)))
end
theorem nk :Slot "set_iterator" "__iter__" "set_iterator.__iter__":=
 .of (owner:="set_iterator") (n:="__iter__") (by rw[z39,zY1];kernel_rfl) (by decide +kernel) (by decide +kernel) (by decide +kernel) (by first|exact .inl (by decide +kernel)|exact .inr (by decide +kernel)) (by rw[isSubtype_type];kernel_rfl)
theorem iZ :entryFor table "set_iterator.__iter__"=some Builtin.«dict_keyiterator.__iter__»:=entryFor_alias (id':="dict_keyiterator.__iter__") (by kernel_rfl) rfl (by decide +kernel) (by kernel_rfl)
theorem gS (a:Value):argsOk "set_iterator.__iter__" ⟨[a],[]⟩:=by unfold argsOk;kernel_rfl
section
variable {prog:Program}{w:World}{A:Around}{I a:Addr}{n ep:Nat}{o:Obj}{es:Array (Int×Value)}{S:Int->Bool}{m:Nat}{b:Bool}{t:SetTable}{ord:List Value}
theorem lI {E:Value->Shared->Prop}{s:Shared}{f:Value}{i:Nat}{Q:Value->Shared->Prop}(d:s.heap.get? I=some (itO f i a n ep))(q:Q (.ref I) s):wpAny (model prog w) A (pyIter (.ref I)) Q E s:=by
 have c:s.TypeIs (.ref I) "set_iterator":=⟨_,d,rfl⟩;refine wpAny_pyIter_slot c nk (zP7 nk c iZ ?_ (gS _));show wpAny _ _ (ret (.ref I)) _ _ s;exact zJ1 ⟨_,rfl,"set_iterator",_,c,yh.lookup,q⟩
theorem zk7 (l:A.handled=none)(hne:a≠I)(x:WkO prog w o S m b es ep t)(hn:es.size=n)(B:ord.length=n)(d:Nat->Nat)
  (r:∀(i:Nat) (s:Shared) (f:Around) (E:Value->Shared->Prop) (Q':Option (Value×Nat)->Shared->Prop),s.heap.get? a=some o->(hi:i<ord.length)->Q' (some (ord[i],d (i+1))) s->wpAny (model prog w) f (setNext a (d i) i ep) Q' E s)
  (y:∀(s:Shared) (f:Around) (E:Value->Shared->Prop) (Q':Option (Value×Nat)->Shared->Prop),s.heap.get? a=some o->Q' none s->wpAny (model prog w) f (setNext a (d n) n ep) Q' E s):
  Walks prog w A I [I,a] [I] n (λi v=>ord[i]?=some v) (λi h=>h.get? I=some (itO (.int (d i) 0) i a n ep)/\h.get? a=some o) where
 sub:=λc g=>by simp at g;simp[g]
 frame:=λi h h' st k=>⟨k I (by simp) _ st.1,k a (by simp) _ st.2⟩
 item:=λi s Q E hi st j=>bF st.1 st.2 x hn (λf E Q' q=>r i s f E Q' st.2 (by omega) q) λh' e sb=>by
  cases s;exact j _ h' _ (zJ2 (by omega)) ⟨e,by rw[sb.2 a hne];exact st.2⟩ λc u g e=>by rw[sb.2 c λz=>g (by simp[z])];exact e
 done:=λs Q E st j=>zt9 l st.1 st.2 x hn (λf E Q' q=>y s f E Q' st.2 q) λh' e=>by
  cases s;exact j h' _ λc u g p=>e c u (λz=>g (by simp[z])) p
 self:=λi s Q E st q=>lI st.1 q
theorem zE1 {tp:Addr}{ot:Obj}{ks:List Nat}{c:Nat}(r:A.handled=none)(hne:a≠I)(p:tp≠I)(x:WkO prog w o S m b es ep t)(hn:es.size=n)(y:ks.length=n)(hk:∀k∈ks,k<n)(j:ot.data=.seq (ks.map λk=>Value.int (k:Nat) 0).toArray c):
  Walks prog w A I [I,a,tp] [I] n (λi v=>(ks.map λk=>(es.getD k (0,.none)).2)[i]?=some v) (λi h=>h.get? I=some (itO (.ref tp) i a n ep)/\h.get? a=some o/\h.get? tp=some ot) where
 sub:=λc f=>by simp at f;simp[f]
 frame:=λi h h' st k=>⟨k I (by simp) _ st.1,k a (by simp) _ st.2.1,k tp (by simp) _ st.2.2⟩
 item:=λi s Q E hi st l=>by
  have d:i<ks.length:=by omega
  have g:ks[i]<es.size:=by rw[hn];exact hk _ (zO6 d)
  refine bf (k:=ks[i]) (u:=0) (e:=es[ks[i]]) st.1 st.2.2 j st.2.1 x hn (by simp[d]) (zR9 g) λh' e sb=>?_;cases s;refine l _ h' _ ?_ ⟨e,by rw[sb.2 a hne];exact st.2.1,by rw[sb.2 tp p];exact st.2.2⟩ λc u f e=>by rw[sb.2 c λz=>f (by simp[z])];exact e
  rw[zK8,zJ2 d];simp[Array.getD,g]
 done:=λs Q E st l=>bz r st.1 st.2.2 j st.2.1 x hn (by simp[y]) λh' e=>by
  cases s;exact l h' _ λc u f B=>e c u (λz=>f (by simp[z])) B
 self:=λi s Q E st q=>lI st.1 q
def hG (t:SetTable):Nat->Nat
 |0=>0
 |i+1=>t.place.getD i 0+1
def Wkd (prog:Program)(w:World)(h:Heap)(I a:Addr)(N n:Nat)(ord:List Value):Prop:=∀A:Around,A.handled=none->∃fp St,Walks prog w A I fp [I] n (λi v=>ord[i]?=some v) St/\St 0 h/\(∀c∈fp,c=a\/N<=c)/\I∈fp
theorem bM {E:Value->Shared->Prop}{s:Shared}{Q:Value->Shared->Prop}(f:s.heap.get? a=some o)(x:WkO prog w o S m (yN w) es ep t)
  (h:∀(I:Addr) (h':Heap) d (ord:List Value),(∀c u,s.heap.get? c=some u->h'.get? c=some u)->s.heap.objs.size<=I->ord.Perm (es.toList.map (·.2))->Wkd prog w h' I a s.heap.objs.size es.size ord->Q (.ref I) {s with heap:=h',drawn:=d}):wpAny (model prog w) A (pyIter (.ref a)) Q E s:=by
 have K:s.TypeIs (.ref a) "set":=⟨_,f,x.ex.1⟩;have alt:a<s.heap.objs.size:=zK3 f;refine wpAny_pyIter_slot K F.slot_set_iter (zP7 F.slot_set_iter K jm ?_ (F.args_set_iter_1 _));unfold Builtin.«frozenset.__iter__»;refine zI9 (zX6 (a:=a) (by rfl) ?_);refine zI9 ?_;unfold Builtin.Frozenset.sizeOf;refine zI9 (zW9 f x.dt x.fit (zJ1 ?_));refine zI9 ?_;unfold setDrawn;refine zI9 (zU9 f x.dt x.fit ?_);dsimp only;unfold setsByText;refine zI9 (zI9 (zV4 (zJ1 (zJ1 ?_))));have sz:es.size<=sizeLine:=z23 x.sb;refine zN4 (λhd=>?_) (λhd=>?_)
 ·refine zI9 (kI _ _ (by simp) λks d C=>?_);have M:ks.length=es.size:=by rw[C.length_eq,List.length_range]
  refine zI9 (z05 ?_ (by rw[zJ3];omega));generalize D:(s.heap.push {cls:=.type "tuple",data:=.seq (ks.map λ(i:Nat)=>rawInt i).toArray}).objs.size=I;have B:I=s.heap.objs.size+1:=by rw[<-D];exact zQ6 _ _
  have J:∀c u,s.heap.get? c=some u->(s.heap.push {cls:=.type "tuple",data:=.seq (ks.map λ(i:Nat)=>rawInt i).toArray}).get? c=some u:=λc u e=>zJ0 _ e;refine zI9 (wpAny_setEpoch_of (J _ _ f) x.dt x.fit ?_);refine zI9 (zP0 (zJ1 ⟨_,rfl,"set_iterator",_,⟨_,zK2 _ rfl,rfl⟩,yh.lookup,?_⟩));dsimp only;rw[D];have l:∀c u,s.heap.get? c=some u->((s.heap.push {cls:=.type "tuple",data:=.seq (ks.map λ(i:Nat)=>rawInt i).toArray}).push (itO (.ref s.heap.objs.size) 0 a es.size ep)).get? c=some u:=λc u e=>zJ0 _ (J c u e);refine h I _ d (ks.map λk=>(es.getD k (0,.none)).2) l (by rw[B];exact zT8 _) ?_ (λA v=>⟨_,_,zE1 (tp:=s.heap.objs.size) v (by rw[B];exact zK9 (zR6 alt)) (by rw[B];exact zK9 (zP2 _)) x rfl M (λk hk=>z44.mp (C.mem_iff.mp hk)) rfl,⟨by rw[<-D];exact zK2 _ rfl,l _ _ f,zJ0 _ (zK2 _ rfl)⟩,λc r=>?_,by simp⟩)
  ·have e:es.toList.map (·.2)=(List.range es.size).map λk=>(es.getD k (0,.none)).2:=by
    refine z30 (by simp) λi G O=>?_;have:i<es.size:=by simpa using G
    simp[Array.getD,this]
   rw[e];exact C.map _
  ·simp only[zJ6,zL1,zO0]at r;rcases r with rfl|rfl|rfl
   ·rw[B];exact .inr (zT8 _)
   ·exact .inl rfl
   ·exact .inr (zJ5 _)
 ·refine zI9 (zJ1 (zI9 (wpAny_setEpoch_of f x.dt x.fit ?_)));refine zI9 (zP0 (zJ1 ⟨_,rfl,"set_iterator",_,⟨_,zK2 _ rfl,rfl⟩,yh.lookup,?_⟩));have l:∀c u,s.heap.get? c=some u->(s.heap.push (itO (.int (0:Nat) 0) 0 a es.size ep)).get? c=some u:=λc u e=>zJ0 _ e;have z:∀c∈[s.heap.objs.size,a],c=a\/s.heap.objs.size<=c:=λc r=>by
   simp only[zJ6,zL1,zO0]at r;rcases r with rfl|rfl
   ·exact .inr (zJ5 _)
   ·exact .inl rfl
  cases hw:yN w with
  |false=>
   have q:=h s.heap.objs.size _ s.drawn ((pickOrder (w.params.setOrder a ep) es).toList.map (·.2)) l (zJ5 _) ((uz _ _).map _) (λA v=>⟨_,_,zk7 v (zK9 alt) x rfl (by rw[zJ3,(uz _ es).length_eq];simp) (λ_=>0) (λi s p E Q' e hi q=>rR e x hw p E Q' ?_) (λs p E Q' e q=>rR e x hw p E Q' ?_),⟨zK2 _ rfl,l _ _ f⟩,z,by simp⟩)
   ·exact q
   ·have g:i<(pickOrder (w.params.setOrder a ep) es).size:=by simpa using hi
    rw[zR9 g];simpa using q
   ·rw[Array.getElem?_eq_none (by
     have:=(uz (w.params.setOrder a ep) es).length_eq;simp at this;omega)]
    exact q
  |true=>
   have L:w.params.followText "set-order"=false:=by simpa[yN]using hw
   have H:¬((!w.params.followText "set-order"&&(!t.plain&&decide (es.size > 1)))=true):=hd;rw[L]at H;have j:(!t.plain&&decide (es.size > 1))=false:=by simpa using H
   have hpl:t.place.size=es.size:=by
    have:=x.fit;simp only[SetTable.fits,zN1,zY2]at this;exact this.1
   have up:Up t.place:=by
    cases hp:t.plain with
    |true=>exact x.ris hp
    |false=>
     rw[hp]at j;have:es.size<=1:=by simpa using j
     unfold Up;have G:t.place.toList.length<=1:=by simp;omega
     match N:t.place.toList,G with
     |[],_=>exact .nil
     |[y],_=>exact z21 _ _
   have st:∀i (hi:i<=es.size),SetTable.below t.place (hG t i)=i:=λi hi=>by
    cases i with
    |zero=>exact nX up
    |succ i=>
     have g:i<t.place.size:=by omega
     have e:hG t (i+1)=t.place[i]+1:=by simp[hG,Array.getD,g]
     rw[e];exact nN up g
   have q:=h s.heap.objs.size _ s.drawn (es.toList.map (·.2)) l (zJ5 _) (.refl _) (λA v=>⟨_,_,zk7 v (zK9 alt) x rfl (by simp) (hG t) (λi s p E Q' e hi q=>nI e x hw hw j (by simpa using hi) p E Q' (st i (by simp at hi;omega)) λg=>?_) (λs p E Q' e q=>iC e x hw hw j p E Q' (st _ (zJ5 _)) q),⟨zK2 _ rfl,l _ _ f⟩,z,by simp⟩)
   ·exact q
   ·have e:hG t (i+1)=t.place[i]+1:=by simp[hG,Array.getD,g]
    rw[e]at q;simpa using q
end
section
variable {prog:Program}{w:World}{A:Around}{E:Value->Shared->Prop}{s:Shared}{a:Addr}{ep:Nat}{o:Obj}{es:Array (Int×Value)}{S:Int->Bool}{m:Nat}{t:SetTable}
theorem fQ {Q:Bool->Shared->Prop}(d:s.TypeIs (.ref a) "set")(h:Q false s):wpAny (model prog w) A (Builtin.List.listLengthHint (.ref a)) Q E s:=by
 unfold Builtin.List.listLengthHint;refine zI9 (z38 d F.slot_set_len.lookup ?_);generalize c:("set.__len__":String)=id0
 wp_delta
 rw[show splitId id0=some ("set","__len__")from by subst c;decide +kernel];subst c;refine zI9 (z32 (T:="set") (b:=true) d (by rw[isSubtype_type];kernel_rfl) ?_);refine zN4 (λq=>absurd q (by decide)) λ_=>?_;refine zN4 (λ_=>?_) λq=>absurd (by decide +kernel) q;refine zI9 (wpAny_typeOf d ?_);exact zJ1 h
theorem oY {Q:List Value->Shared->Prop}(hh:A.handled=none)(f:s.heap.get? a=some o)(x:WkO prog w o S m (yN w) es ep t)
  (h:∀(h':Heap) d (tk:Nat) (ord:List Value),s.heap.objs.size<h'.objs.size->(∀c u,s.heap.get? c=some u->h'.get? c=some u)->ord.Perm (es.toList.map (·.2))->Q ord {s with heap:=h',drawn:=d,toks:=tk}):wpAny (model prog w) A (collect (.ref a)) Q E s:=by
 have alt:a<s.heap.objs.size:=zK3 f;unfold collect;refine zI9 (wpAny_runValue (zU2 F.entry_proto_collect ?_));rw[zS6 F.plain_proto_collect _];show wpAny _ A.in1 (newList [] >>= λl=>again (.builtin "list.__iadd__" ⟨[l,.ref a],[]⟩)) _ _ s;refine zI9 (zP0 ?_);refine zJ1 ⟨zX3 F.plain_list_iadd _,zU2 F.entry_list_iadd ?_⟩;rw[zS6 F.plain_list_iadd _];show wpAny _ A.in1 (Builtin.List.listExtendWith (.ref s.heap.objs.size) (.ref a) (.ref s.heap.objs.size)) _ _ _;generalize p:s.heap.objs.size=L;have r:∀c u,s.heap.get? c=some u->(s.heap.push {cls:=.type "list",data:=.seq ([]:List Value).toArray}).get? c=some u:=λc u e=>zJ0 _ e;have C:(s.heap.push {cls:=.type "list",data:=.seq ([]:List Value).toArray}).get? L=some {cls:=.type "list",data:=.seq ([]:List Value).toArray}:=by rw[<-p];exact zK2 _ rfl
 have j:(s.heap.push {cls:=.type "list",data:=.seq ([]:List Value).toArray}).objs.size=L+1:=by rw[<-p];exact zQ6 _ _
 generalize Z:s.heap.push {cls:=.type "list",data:=.seq ([]:List Value).toArray}=k at r C j;have M:a≠L:=by rw[<-p];exact zK9 alt
 unfold Builtin.List.listExtendWith;refine zI9 (wpAny_typeOf (T:="set") ⟨_,r _ _ f,x.ex.1⟩ ?_);have X:Builtin.List.listSameRef (.ref L) (.ref a)=false:=by simp[Builtin.List.listSameRef,zN9 M]
 refine zN4 (λz=>absurd z (by rw[X];decide)) λ_=>?_;refine zI9 (bM (r _ _ f) x λI O d ord K U pm V=>?_);refine zI9 (zO9 (fQ ⟨_,K _ _ (r _ _ f),x.ex.1⟩ ?_));refine zN4 (λ_=>?_) λq=>absurd (by decide +kernel) q;refine zI9 (zR8 ?_);refine zI9 ?_;show wpAny _ A.in1 (updateSeq L (·.push .none) >>= λ_=>updateSeq L (·.pop)) _ _ _;have y:=K _ _ C;refine zI9 (zV9 y rfl ?_);have n:=zV7 (Obj.mapSeq (·.push Value.none)) y rfl;refine zV9 n rfl ?_;have J:=zV7 (Obj.mapSeq (·.pop)) n rfl;have v:∀c u,c≠L->O.get? c=some u->((O.update L (Obj.mapSeq (·.push Value.none))).update L (Obj.mapSeq (·.pop))).get? c=some u:=λc u H e=>(zO2 _ _ (zN9 H)).trans ((zO2 _ _ (zN9 H)).trans e);obtain⟨fp,St,W,w0,wf,wI⟩:=V A.in1 (by simp[hh]);have D:L∉fp:=λz=>by
  rcases wf L z with e|e
  ·exact M e.symm
  ·have N:k.objs.size<=L:=e;rw[j]at N;exact absurd N (Nat.not_succ_le_self _)
 refine zJ1 ⟨zX3 F.plain_extend_loop _,codeAny_extend_loopS W.toS (z23 x.sb) _ D _ es.size 0 _ _ _ rfl (zK7 _) (W.frame 0 _ _ w0 λc H u e=>v c u (λz=>D (z▸H)) e) J (ItemsOf.nil _) λs' acc c' hm G b=>?_⟩;show wpAny _ A (load L >>= _) _ _ s';refine zI9 (wpAny_load G ?_);have lo:ord.length=es.size:=by rw[pm.length_eq];simp
 have R:acc.toList=ord:=by
  refine List.ext_getElem? λi=>?_;rcases zO5 i es.size with hi|hi
  ·have k:i<acc.size:=by rw[b.1];exact hi
   have:=b.2 i acc[i] (zR9 k);rw[this];simp[k]
  ·rw[zT6 (by simp[b.1];exact hi),zT6 (by omega)]
 have cl:∀{c:Addr} {u:Obj},s.heap.get? c=some u->c<L:=λe=>by rw[<-p];exact zK3 e
 have q:=h s'.heap s'.drawn s'.toks ord (by rw[p];exact zK3 G) (λc u e=>hm.heap c u (λz=>?_) (v c u (zK9 (cl e)) (K _ _ (r _ _ e)))) pm
 ·refine zJ1 ?_;show Q acc.toList s';rw[R];obtain⟨hp,g,dr,tk,os⟩:=s';have Y:g=s.gens:=hm.gens;have P:os=s.os:=hm.os;subst Y P;exact q
 ·simp only[zJ6,zL1,zO0]at z;rcases z with z|z
  ·exact zK9 (cl e) z
  ·have B:k.objs.size<=I:=U;rw[j]at B;have:=cl e;rw[z]at this;exact absurd (zJ4 (zR6 this) B) (zP1 _)
theorem oy :∀{F ms:List Int},F.Nodup->(∀k∈F,k∈ms)->ms.length=F.length->ms.Perm F
 |[],ms,_,_,e=>by rw[zX2.mp e]
 |k::F,ms,nd,sb,e=>by
  have hk:=sb k zK5;have p1:=List.perm_cons_erase hk;obtain⟨n1,n2⟩:=zZ6.mp nd;have p2:=oy (ms:=ms.erase k) n2 (λj b=>(List.mem_erase_of_ne (λz:j=k=>n1 (z▸b))).mpr (sb j (zJ8 _ b))) (by
   have:=p1.length_eq;simp only[zL8]at this e;omega)
  exact p1.trans (p2.cons k)
theorem wX (val:Nat->Int):∀n,(firstMet val n).Nodup
 |0=>.nil
 |n+1=>by
  rw[firstMet_succ];unfold step_dedup;split
  ·exact wX val n
  ·rename_i h;rw[List.nodup_append];refine⟨wX val n,by simp,λx b y hy e=>?_⟩;rw[zL9.mp hy]at e;exact h (List.any_eq_true.mpr ⟨x,b,by simp[e]⟩)
theorem jh :∀(l:List (Int×Value)),(∀e∈l,∃k,(intKind prog w).is k e.2=true)->∃ms:List Int,IntsAre (l.map (·.2)) ms/\∀k,k∈ms↔∃e∈l,(intKind prog w).is k e.2=true
 |[],_=>⟨[],.nil,λk=>by simp⟩
 |e::l,h=>by
  obtain⟨ms,f,d⟩:=jh l λx b=>h x (zJ8 _ b);obtain⟨k,hk⟩:=h e zK5;obtain⟨t,c⟩:=Value.isInt_shape hk;refine⟨k::ms,?_,λj=>?_⟩
  ·rw[zN7,c];exact .cons k t f
  ·rw[zJ6,d]
   constructor
   ·rintro(rfl|⟨x,b,q⟩)
    ·exact⟨e,zK5,hk⟩
    ·exact⟨x,zJ8 _ b,q⟩
   ·rintro⟨x,b,q⟩;rcases zJ6.mp b with rfl|b
    ·exact .inl ((intKind prog w).inj _ _ _ q hk)
    ·exact .inr ⟨x,b,q⟩
theorem jE :∀{vs us:List Value}{ms:List Int},us.Perm vs->IntsAre vs ms->∃ns,IntsAre us ns/\ns.Perm ms:=by
 intro vs us ms p
 induction p generalizing ms with
 |nil=>intro h;exact⟨ms,h,.refl _⟩
 |cons x p n=>
  intro h;cases h with
  |cons k t h=>
   obtain⟨ns,f,d⟩:=n h;exact⟨k::ns,.cons k t f,d.cons k⟩
 |swap x y l=>
  intro h;cases h with
  |cons k t h=>
   cases h with
   |cons c t' h=>exact⟨c::k::_,.cons c t' (.cons k t h),.swap k c _⟩
 |trans p1 p2 e b=>
  intro h;obtain⟨ns,f,d⟩:=b h;obtain⟨g,i,j⟩:=e f;exact⟨g,i,j.trans d⟩
end
end SetW
namespace L2
open PySem PySem.Spec PyProof.Rows SetW
section
variable {X:Cx}{α:Ev}{e:Expr}{pos p p2 pos2:Pos}
abbrev vg (zs:List Int):List Int:=firstMet (λi=>zs.getD i 0) zs.length
theorem Inv.drw {pins:List (Addr×Obj)}{σ:List (Option V)}{H:Hp}{s:Shared}(I:Inv X pins σ H s)(d:Drawn):Inv X pins σ H {s with drawn:=d}:=⟨I.ok,I.os,I.bare,I.base,I.loc,I.cell,I.free,I.freeC,I.pin,I.hok,I.len⟩
def SW (P:Program)(w:World)(o:Obj)(zs:List Int):Prop:=∃es ep t,WkO P w o (λk=>(vg zs).any (· == k)) (vg zs).length (yN w) es ep t
theorem jn (i:X.calm=true):xm X (.type "set") (λxs H Q=>∃(l:Addr) (zs:List Int),xs=[.ref l]/\H l=some (.lst (zs.map V.int))/\zs.length<1000/\∀(a:Addr) (o:Obj),H a=none->SW X.prog X.w o zs->Q (.ref a) (upd H a (.frz o (.set (λk=>(vg zs).any (· == k)) (vg zs).length)))):=by
 intro pins s σ H xs us Q I r h;obtain⟨l,zs,rfl,j,m,q⟩:=h;obtain⟨u,rfl,g⟩:=vals1 r;cases g;obtain⟨its,c,pl,hz⟩:=I.list (SqL.of j);have l1:=c.length;rw[zJ3]at l1;have sz:its.toArray.size=zs.length:=by simp[l1]
 refine sr (its:=its.toArray) (ns:=zs) (I.ok.hd i) pl.isList (by simpa using intsAre_of c) (by rw[sz];unfold scanBound;omega) λh' tk d hk=>?_;rw[sz]at d;obtain⟨o,es,ep,t,f,x⟩:=d;exact⟨.ref s.heap.objs.size,_,I.laid (o:=.frz o (.set _ _)) (t':=tk) (λb u e=>hk b u (zK3 e) e) (zJ5 _) ⟨f,o,es,ep,t,f,x.ex,x.dt,x.el,x.mem,x.sb,x.fit,x.sz⟩,rfl,q _ o (I.hok.fresh (zJ5 _)) ⟨es,ep,t,x⟩⟩
theorem zb1 {zs:List Int}{k:Int}:k∈vg zs↔k∈zs:=by
 have a:k∈vg zs↔(vg zs).any (· == k)=true:=by simp
 rw[a,firstMet_any];simp only[List.any_eq_true,z02,z44,zY2]
 constructor
 ·rintro⟨x,⟨i,hi,rfl⟩,rfl⟩;rw[zJ7,zJ2 hi];exact zO6 hi
 ·intro hk;obtain⟨i,hi,e⟩:=zZ2 hk;exact⟨k,⟨i,hi,by rw[zJ7,zJ2 hi];exact e⟩,rfl⟩
end
section
variable {X:Cx}{tg:Expr}
end
section
variable {X:Cx}{α:Ev}{e1 e2 e3 e4 e5 b:Expr}{pos p p1 p2 p3 p4 p5:Pos}{n1 n2 n3 n4 n5:Nat}{k1 k2 k3 k4 k5:Str}{Q:PyData->Prop}
end
end L2
namespace Tim
open PySem PyProof.Rows
def gal :Bool->Keyed->Array Keyed->Nat->Nat->Nat->StateT SortSt Sem (Option Nat):=sortPriv% PySem.Builtin.gallop
abbrev bey (left:Bool)(key:Keyed)(arr:Array Keyed)(base i:Nat):StateT SortSt Sem (Option Bool):=do
 let x <-elem' arr (base+i)
 if left then lt' x key else return (<-lt' key x).map (!·)
structure GB (a₀:Array Keyed)(st:SortSt):Prop where
 perm:(arrOf st).Perm a₀
 kind:kindOf st=oneType'
 failed:failedOf st=none
section
variable {prog:Program}{w:World}{A:Around}{E:Value->Shared->Prop}{s:Shared}
theorem kg {st:SortSt}{x y:Keyed}{a b:Int}{t u:Tok}{Q:Option Bool->SortSt->Prop}(hk:kindOf st=oneType')(c:x.1=.int a t)(hy:y.1=.int b u)(h:Q (some (decide (a<b))) st):wpS (model prog w) A E s (lt' x y) Q st:=by
 rw[lt'_eq];refine zJ9 (wpS_get ?_);rw[hk,keyLt'_oneType,c,hy];exact zJ9 (wpS_lift (zV1 (oneLt_int ⟨rfl,zK6 h⟩)))
theorem zH {st:SortSt}{xs:Array Keyed}{i:Nat}{p:Keyed}{Q:Keyed->SortSt->Prop}(h:xs[i]?=some p)(q:Q p st):wpS (model prog w) A E s (elem' xs i) Q st:=by
 rw[elem'_eq,h];exact zK6 q
theorem yo {xs:Array Keyed}(h:IntKeys xs){i:Nat}(hi:i<xs.size):∃t,xs[i].1=.int (K xs i) t:=by
 obtain⟨n,t,e⟩:=h xs[i] (by simp);refine⟨t,?_⟩;have:K xs i=n:=by
  unfold K;rw[zN3 xs i hi];show numOf xs[i].1=n;rw[e];rfl
 rw[e,this]
def tf (left:Bool)(key:Int)(arr:Array Keyed)(base i:Nat):Bool:=if left then decide (K arr (base+i)<key)else !decide (key<K arr (base+i))
theorem zt0 {st:SortSt}{left:Bool}{key:Keyed}{kz:Int}{kt:Tok}{arr:Array Keyed}{base i:Nat}{Q:Option Bool->SortSt->Prop}(hk:kindOf st=oneType')(a:key.1=.int kz kt)(ia:IntKeys arr)(hi:base+i<arr.size)(h:Q (some (tf left kz arr base i)) st):
  wpS (model prog w) A E s (bey left key arr base i) Q st:=by
 obtain⟨t,e⟩:=yo ia hi;refine zJ9 (zH (zN3 arr _ hi) ?_);cases left with
 |true=>exact kg hk e a h
 |false=>exact zJ9 (kg hk a e (zK6 h))
structure Cut (p:Nat->Bool)(n r:Nat):Prop where
 le:r<=n
 lo:∀i,i<r->p i=true
 hi:∀i,r<=i->i<n->p i=false
abbrev TS :=Option (Option Nat)×Nat×Nat
theorem qj {st:SortSt}{p:Nat->Bool}{b:Nat->StateT SortSt Sem (Option Bool)}{n:Nat}{Q:Option Nat->SortSt->Prop}(B:∀{i:Nat}{Q:Option Bool->SortSt->Prop},i<n->Q (some (p i)) st->wpS (model prog w) A E s (b i) Q st)(mono:∀i j,i<=j->j<n->p j=true->p i=true)(h:∀r,Cut p n r->Q (some r) st)
  {f:Nat->TS->StateT SortSt Sem (ForInStep TS)} {F:TS->StateT SortSt Sem (Option Nat)} (f1:∀x lo hi,lo≥hi->f x (none,lo,hi)=pure (.done (none,lo,hi)))
  (f2:∀x lo hi,¬lo≥hi->∃g,f x (none,lo,hi)=b (lo+(hi-lo) / 2) >>= g/\g (some true)=pure (.yield (none,lo+(hi-lo) / 2+1,hi))/\g (some false)=pure (.yield (none,lo,lo+(hi-lo) / 2))) (hF:∀r,F (none,r,r)=pure (some r))
  {lo hi:Nat} (m:lo<=hi) (d:hi<=n) (a:∀i,i<lo->p i=true) (k:∀i,hi<=i->i<n->p i=false):wpS (model prog w) A E s (forIn [0:n] ((none,lo,hi):TS) f >>= F) Q st:=by
 refine zJ9 (zU3 (zP8 (I:=λx c st'=>st'=st/\∃lo hi,c=(none,lo,hi)/\lo<=hi/\hi<=n/\hi-lo<=n-x/\(∀i,i<lo->p i=true)/\∀i,hi<=i->i<n->p i=false)
  (Q:=λc st'=>st'=st/\∃r,c=(none,r,r)/\Cut p n r) ?_ ?_ ⟨rfl,lo,hi,rfl,m,d,by omega,a,k⟩) ?_)
 ·rintro x c st' _ v ⟨rfl,lo,hi,rfl,m,d,q,a,k⟩;by_cases l:lo≥hi
  ·rw[f1 x lo hi l];have e:lo=hi:=by omega
   subst e;exact zK6 ⟨rfl,lo,rfl,d,a,k⟩
  ·obtain⟨g,e,g1,g2⟩:=f2 x lo hi l;rw[e];refine zJ9 (B (by omega) ?_);cases z:p (lo+(hi-lo) / 2)with
   |true=>
    rw[g1];exact zK6 ⟨rfl,_,_,rfl,by omega,d,by omega,λi t=>mono i _ (by omega) (by omega) z,k⟩
   |false=>
    rw[g2];refine zK6 ⟨rfl,_,_,rfl,by omega,by omega,by omega,a,λi o u=>?_⟩;cases y:p i with
    |false=>rfl
    |true=>rw[mono _ i o u y]at z;cases z
 ·rintro c st' ⟨rfl,lo,hi,rfl,m,d,q,a,k⟩;have e:lo=hi:=by omega
  subst e;exact⟨rfl,lo,rfl,d,a,k⟩
 ·rintro c st' ⟨rfl,r,rfl,ct⟩;rw[hF];exact zK6 (h r ct)
theorem uv {st:SortSt}{left:Bool}{key:Keyed}{kz:Int}{kt:Tok}{arr:Array Keyed}{base n hint:Nat}{Q:Option Nat->SortSt->Prop}(hk:kindOf st=oneType')(k:key.1=.int kz kt)(ia:IntKeys arr)(hb:base+n<=arr.size)(hn:hint<n)
  (mono:∀i j,i<=j->j<n->tf left kz arr base j=true->tf left kz arr base i=true) (h:∀r,Cut (tf left kz arr base) n r->Q (some r) st):wpS (model prog w) A E s (gal left key arr base n hint) Q st:=by
 generalize t:tf left kz arr base=p at mono h;have B:∀{i:Nat} {Q:Option Bool->SortSt->Prop},i<n->Q (some (p i)) st->wpS (model prog w) A E s (bey left key arr base i) Q st:=λ{i Q} hi q=>zt0 hk k ia (by omega) (by rw[t];exact q);refine zJ9 (B hn ?_);dsimp only;cases z0:p hint with
 |true=>
  rw[if_pos rfl];refine zJ9 (zU3 (zP8 (I:=λx c st'=>st'=st/\∃a of,c=(none,a,of)/\a<of/\x+1<=of/\hint+a<n/\p (hint+a)=true)
   (Q:=λc st'=>st'=st/\∃a of,c=(none,a,of)/\a<of/\hint+a<n/\p (hint+a)=true/\(of≥n-hint\/p (hint+of)=false)) ?_ ?_ ⟨rfl,0,1,rfl,by omega,by omega,by omega,z0⟩) ?_)
  ·rintro x c st' _ o ⟨rfl,a,of,rfl,f,l,e,d⟩;dsimp only;by_cases b:of≥n-hint
   ·rw[if_pos b];exact zK6 ⟨rfl,a,of,rfl,f,e,d,.inl b⟩
   ·rw[if_neg b];refine zJ9 (B (by omega) ?_);cases z:p (hint+of)with
    |true=>exact zK6 ⟨rfl,of,2*of+1,rfl,by omega,by omega,by omega,z⟩
    |false=>exact zK6 ⟨rfl,a,of,rfl,f,e,d,.inr z⟩
  ·rintro c st' ⟨rfl,a,of,rfl,f,l,e,d⟩;exact⟨rfl,a,of,rfl,f,e,d,.inl (by omega)⟩
  ·rintro c st' ⟨rfl,a,of,rfl,f,e,d,g⟩;refine qj B mono h (λx lo hi z=>if_pos z) (λx lo hi z=>⟨_,if_neg z,rfl,rfl⟩) (λ_=>rfl) (lo:=hint+a+1) (hi:=hint+min of (n-hint)) (by omega) (by omega) (λi hi=>mono i _ (by omega) e d) (λi u m=>?_);rcases g with g|g
   ·omega
   ·cases y:p i with
    |false=>rfl
    |true=>rw[mono _ i (by omega) m y]at g;cases g
 |false=>
  rw[if_neg (by decide)];refine zJ9 (zU3 (zP8 (I:=λx c st'=>st'=st/\∃a of,c=(none,a,of)/\a<of/\x+1<=of/\a<=hint/\p (hint-a)=false)
   (Q:=λc st'=>st'=st/\∃a of,c=(none,a,of)/\a<of/\a<=hint/\p (hint-a)=false/\(of≥hint+1\/p (hint-of)=true)) ?_ ?_ ⟨rfl,0,1,rfl,by omega,by omega,by omega,z0⟩) ?_)
  ·rintro x c st' _ o ⟨rfl,a,of,rfl,f,l,e,d⟩;dsimp only;by_cases b:of≥hint+1
   ·rw[if_pos b];exact zK6 ⟨rfl,a,of,rfl,f,e,d,.inl b⟩
   ·rw[if_neg b];refine zJ9 (B (by omega) ?_);cases z:p (hint-of)with
    |true=>exact zK6 ⟨rfl,a,of,rfl,f,e,d,.inr z⟩
    |false=>exact zK6 ⟨rfl,of,2*of+1,rfl,by omega,by omega,by omega,z⟩
  ·rintro c st' ⟨rfl,a,of,rfl,f,l,e,d⟩;exact⟨rfl,a,of,rfl,f,e,d,.inl (by omega)⟩
  ·rintro c st' ⟨rfl,a,of,rfl,f,e,d,g⟩;refine qj B mono h (λx lo hi z=>if_pos z) (λx lo hi z=>⟨_,if_neg z,rfl,rfl⟩) (λ_=>rfl) (lo:=hint+1-min of (hint+1)) (hi:=hint-a) (by omega) (by omega) (λi hi=>?_) (λi u m=>?_)
   ·rcases g with g|g
    ·omega
    ·exact mono i _ (by omega) (by omega) g
   ·cases y:p i with
    |false=>rfl
    |true=>rw[mono _ i (by omega) m y]at d;cases d
end
def mlo :Array Keyed->Array Keyed->StateT SortSt Sem (Array Keyed):=sortPriv% PySem.Builtin.mergeLo
abbrev ky (p:Keyed):Int:=numOf p.1
abbrev Up (l:List Keyed):Prop:=l.Pairwise λx y=>ky x<=ky y
structure Good (a b r:List Keyed):Prop where
 pm:r.Perm (a++b)
 up:Up r
structure MI (a b L:List Keyed)(i j:Nat):Prop where
 ia:i<=a.length
 jb:j<=b.length
 pm:L.Perm (a.take i++b.take j)
 up:Up L
 le:∀x∈L,∀y∈a.drop i++b.drop j,ky x<=ky y
section
variable {a b L:List Keyed}{i j k:Nat}
theorem MI.doneB (h:MI a b L i j)(c:Up a)(e:j=b.length):Good a b (L++a.drop i++b.drop j):=by
 subst e;have e1:b.drop b.length=[]:=zV3;rw[e1,zQ3];have pm:=h.pm;rw[zS3]at pm;refine⟨?_,zM7.mpr ⟨h.up,c.sublist (zU8 _ _),λx d y hy=>h.le x d y (zM6 _ hy)⟩⟩;refine(pm.append_right _).trans ?_;have:(a.take i++b++a.drop i).Perm (a.take i++a.drop i++b):=by
  rw[zM1,zM1];exact zO7 _ zS1
 rwa [zL7]at this
theorem MI.doneA (h:MI a b L i j)(c:Up b)(e:i=a.length):Good a b (L++a.drop i++b.drop j):=by
 subst e;have e1:a.drop a.length=[]:=zV3;rw[e1,zQ3];have pm:=h.pm;rw[zS3]at pm;refine⟨?_,zM7.mpr ⟨h.up,c.sublist (zU8 _ _),λx d y hy=>h.le x d y (zL3 _ hy)⟩⟩;refine(pm.append_right _).trans ?_;rw[zM1,zL7]
theorem MI.last (h:MI a b L i j)(d:Up b)(e:i+1=a.length)(f:∀y∈b,∀x∈a.drop i,ky y<=ky x):Good a b (L++b.drop j++a.drop i):=by
 have ha:a.drop i=[a[i]]:=by rw[zN6 (by omega),List.drop_of_length_le (by omega)]
 refine⟨?_,?_⟩
 ·refine((h.pm.append_right _).append_right _).trans ?_;have:(a.take i++b.take j++b.drop j++a.drop i).Perm (a.take i++a.drop i++b):=by
   rw[zM1 (a.take i) (b.take j),zL7,zM1,zM1];exact zO7 _ zS1
  rwa [zL7]at this
 ·refine zM7.mpr ⟨zM7.mpr ⟨h.up,d.sublist (zU8 _ _),λx c y hy=>h.le x c y (zL3 _ hy)⟩,by rw[ha];exact z21 _ _,λx c y hy=>?_⟩;rcases zL6.mp c with c|c
  ·exact h.le x c y (zM6 _ hy)
  ·exact f x (zS7 c) y hy
theorem MI.appA (h:MI a b L i j)(g:Up a)(hk:i+k<=a.length)(e:∀x∈(a.drop i).take k,∀y∈b.drop j,ky x<=ky y):MI a b (L++(a.drop i).take k) (i+k) j:=by
 have sp:a.drop i=(a.drop i).take k++a.drop (i+k):=by rw[<-List.drop_drop,zL7]
 have d:Up (a.drop i):=g.sublist (zU8 _ _);rw[sp]at d;obtain⟨f,m,l⟩:=zM7.mp d;refine⟨hk,h.jb,?_,zM7.mpr ⟨h.up,f,λx c y hy=>h.le x c y (zM6 _ (zR1 hy))⟩,λx c y hy=>?_⟩
 ·refine(h.pm.append_right _).trans ?_;have:a.take (i+k)=a.take i++(a.drop i).take k:=by rw[z28]
  rw[this,zM1,zM1];exact zO7 _ zS1
 ·rcases zL6.mp c with c|c
  ·refine h.le x c y ?_;rcases zL6.mp hy with hy|hy
   ·rw[sp];exact zM6 _ (zL3 _ hy)
   ·exact zL3 _ hy
  ·rcases zL6.mp hy with hy|hy
   ·exact l x c y hy
   ·exact e x c y hy
theorem MI.appB (h:MI a b L i j)(e:Up b)(hk:j+k<=b.length)(f:∀x∈(b.drop j).take k,∀y∈a.drop i,ky x<=ky y):MI a b (L++(b.drop j).take k) i (j+k):=by
 have sp:b.drop j=(b.drop j).take k++b.drop (j+k):=by rw[<-List.drop_drop,zL7]
 have d:Up (b.drop j):=e.sublist (zU8 _ _);rw[sp]at d;obtain⟨g,m,l⟩:=zM7.mp d;refine⟨h.ia,hk,?_,zM7.mpr ⟨h.up,g,λx c y hy=>h.le x c y (zL3 _ (zR1 hy))⟩,λx c y hy=>?_⟩
 ·refine(h.pm.append_right _).trans ?_;have:b.take (j+k)=b.take j++(b.drop j).take k:=by rw[z28]
  rw[this,zM1]
 ·rcases zL6.mp c with c|c
  ·refine h.le x c y ?_;rcases zL6.mp hy with hy|hy
   ·exact zM6 _ hy
   ·rw[sp];exact zL3 _ (zL3 _ hy)
  ·rcases zL6.mp hy with hy|hy
   ·exact f x c y hy
   ·exact l x c y hy
theorem take1 (l:List Keyed){i:Nat}(h:i<l.length):(l.drop i).take 1=[l[i]]:=by rw[zN6 h];rfl
end
abbrev MA (a b out:Array Keyed)(i j:Nat):Prop:=MI a.toList b.toList out.toList i j
section
variable {a b out:Array Keyed}{i j k:Nat}
theorem wY (a:Array Keyed)(i:Nat):(a.extract i).toList=a.toList.drop i:=by rw[zY7,zW0,List.take_of_length_le (by simp)]
theorem eA (a:Array Keyed)(i k:Nat):(a.extract i (i+k)).toList=(a.toList.drop i).take k:=by rw[zY7,zW0,Nat.add_sub_cancel_left]
theorem MA.extA (h:MA a b out i j)(d:Up a.toList)(hk:i+k<=a.size)(c:∀x∈(a.toList.drop i).take k,∀y∈b.toList.drop j,ky x<=ky y):MA a b (out++a.extract i (i+k)) (i+k) j:=by
 have:=h.appA d (by simpa using hk) c;unfold MA
 rwa [zM5,eA]
theorem MA.extB (h:MA a b out i j)(c:Up b.toList)(hk:j+k<=b.size)(d:∀x∈(b.toList.drop j).take k,∀y∈a.toList.drop i,ky x<=ky y):MA a b (out++b.extract j (j+k)) i (j+k):=by
 have:=h.appB c (by simpa using hk) d;unfold MA
 rwa [zM5,eA]
theorem MA.pushA (h:MA a b out i j)(d:Up a.toList)(hi:i<a.size)(c:∀y∈b.toList.drop j,ky a[i]<=ky y):MA a b (out.push a[i]) (i+1) j:=by
 have e:(a.toList.drop i).take 1=[a[i]]:=by rw[take1 _ (by simpa using hi)];simp
 have:=h.appA (k:=1) d (by simp;omega) (by rw[e];intro x f;rw[zL9.mp f];exact c);unfold MA
 rwa [e,<-zV0]at this
theorem MA.pushB (h:MA a b out i j)(d:Up b.toList)(c:j<b.size)(f:∀y∈a.toList.drop i,ky b[j]<=ky y):MA a b (out.push b[j]) i (j+1):=by
 have e:(b.toList.drop j).take 1=[b[j]]:=by rw[take1 _ (by simpa using c)];simp
 have:=h.appB (k:=1) d (by simp;omega) (by rw[e];intro x g;rw[zL9.mp g];exact f);unfold MA
 rwa [e,<-zV0]at this
theorem MA.finB (h:MA a b out i j)(c:Up a.toList)(e:(j == b.size)=true):Good a.toList b.toList (out++a.extract i++b.extract j).toList:=by
 rw[zM5,zM5,wY,wY];exact h.doneB c (by simpa using e)
theorem MA.finA (h:MA a b out i j)(c:Up b.toList)(e:(i == a.size)=true):Good a.toList b.toList (out++a.extract i++b.extract j).toList:=by
 rw[zM5,zM5,wY,wY];exact h.doneA c (by simpa using e)
theorem MA.finL (h:MA a b out i j)(d:Up b.toList)(e:(i+1 == a.size)=true)(na:0<a.size)(f:∀y∈b.toList,ky y<=ky a[a.size-1]):Good a.toList b.toList (out++b.extract j++a.extract i).toList:=by
 rw[zM5,zM5,wY,wY];have g:i+1=a.size:=by simpa using e
 refine h.last d (by simpa using g) λy hy x c=>?_;have ha:a.toList.drop i=[a[a.size-1]]:=by
  rw[zN6 (by simp;omega),List.drop_of_length_le (by simp;omega)];have:i=a.size-1:=by omega
  subst this;simp
 rw[ha]at c;rw[zL9.mp c];exact f y hy
theorem aj {l:List Keyed}(u:Up l){i:Nat}(hi:i<l.length):∀y∈l.drop i,ky l[i]<=ky y:=λy hy=>by
 have:=u.sublist (zU8 i l);rw[zN6 hi]at this hy;rcases zJ6.mp hy with rfl|hy
 ·exact zR4 _
 ·exact(List.pairwise_cons.mp this).1 y hy
theorem wz {a:Array Keyed}(u:Up a.toList){i:Nat}(hi:i<a.size):∀y∈a.toList.drop i,ky a[i]<=ky y:=by
 have:=aj u (i:=i) (by simpa using hi);simpa using this
theorem wg {a:Array Keyed}{i:Nat}(hi:i<a.size):K a i=ky a[i]:=by unfold K;rw[zN3 a i hi]
theorem sI {a:Array Keyed}(u:Up a.toList){i j:Nat}(c:i<=j)(d:j<a.size):K a i<=K a j:=by
 rw[wg (show i<a.size by omega),wg d];have:=wz u (show i<a.size by omega) a[j] (by
  rw[zU1];exact⟨j-i,by simp;omega,by simp[show i+(j-i)=j by omega]⟩)
 exact this
theorem xA {a:Array Keyed}{left:Bool}{kz:Int}{base n:Nat}(up:∀i j,base<=i->i<=j->j<base+n->K a i<=K a j):∀i j,i<=j->j<n->tf left kz a base j=true->tf left kz a base i=true:=λi j c d h=>by
 have:=up (base+i) (base+j) (by omega) (by omega) (by omega);unfold tf at h ⊢;cases left with
 |true=>simp at h ⊢;omega
 |false=>simp at h ⊢;omega
theorem uD {a:Array Keyed}{left:Bool}{kz:Int}{base n k:Nat}(c:Cut (tf left kz a base) n k){i:Nat}(e:base<=i)(d:i<base+k):K a i<=kz:=by
 have:=c.lo (i-base) (by omega);unfold tf at this;rw[show base+(i-base)=i by omega]at this;cases left with
 |true=>simp at this;omega
 |false=>simp at this;omega
theorem uB {a:Array Keyed}{left:Bool}{kz:Int}{base n k:Nat}(c:Cut (tf left kz a base) n k){i:Nat}(e:base+k<=i)(d:i<base+n):kz<=K a i:=by
 have:=c.hi (i-base) (by omega) (by omega);unfold tf at this;rw[show base+(i-base)=i by omega]at this;cases left with
 |true=>simp at this;omega
 |false=>simp at this;omega
theorem vU {a:Array Keyed}{P:Int->Prop}{i k:Nat}(h:∀t,i<=t->t<i+k->t<a.size->P (K a t)):∀x∈(a.toList.drop i).take k,P (ky x):=λx d=>by
 obtain⟨t,c,rfl⟩:=zU1.mp d;simp at c;have:=h (i+t) (by omega) (by omega) (by omega);rw[wg (show i+t<a.size by omega)]at this;simpa using this
theorem nh {a:Array Keyed}{P:Int->Prop}{i:Nat}(h:∀t,i<=t->t<a.size->P (K a t)):∀x∈a.toList.drop i,P (ky x):=λx d=>by
 obtain⟨t,c,rfl⟩:=zU1.mp d;simp at c;have:=h (i+t) (by omega) (by omega);rw[wg (show i+t<a.size by omega)]at this;simpa using this
end
section
variable {prog:Program}{w:World}{A:Around}{E:Value->Shared->Prop}{s:Shared}{a₀:Array Keyed}
abbrev SG (st:SortSt)(g:Nat):SortSt:=SortSt.mk' (kindOf st) (arrOf st) (pendingOf st) g (failedOf st)
theorem share {β:Type}{X Y:Nat->StateT SortSt Sem β}{Q:β->SortSt->Prop}{st:SortSt}{P:Nat->Prop}(hb:∀m,P m->wpS (model prog w) A E s (Y m) Q st)(ha:∀m,P (m-1)->wpS (model prog w) A E s (X m) Q st)(h:∀m,P m)(m:Nat):wpS (model prog w) A E s (if m > 1 then X m else Y m) Q st:=by
 split
 ·exact ha m (h _)
 ·exact hb m (h m)
theorem pq {β:Type}{c:Prop}[Decidable c]{X Y:Array Keyed->Nat->StateT SortSt Sem β}{Q:β->SortSt->Prop}{st:SortSt}{P a:Array Keyed->Nat->Prop}(R:Array Keyed->Nat->Prop)(e:∀o n,P o n->wpS (model prog w) A E s (Y o n) Q st)(hr:∀o n,a o n->¬c->R o n)(key:∀o n,R o n->P o n)(d:∀o n,a o n->c->(∀o n,R o n->P o n)->wpS (model prog w) A E s (X o n) Q st):∀o n,a o n->wpS (model prog w) A E s (if c then X o n else Y o n) Q st:=by
 intro o n b;split
 ·rename_i h;exact d o n b h key
 ·rename_i h;exact e o n (key o n (hr o n b h))
theorem zl2 {st:SortSt}{a b:Array Keyed}{Q:Array Keyed->SortSt->Prop}(hk:kindOf st=oneType')(ia:IntKeys a)(ib:IntKeys b)(O:Up a.toList)(H:Up b.toList)(na:0<a.size)(nb:0<b.size)
  (h1:∀x∈a.toList,ky b[0]<=ky x) (h2:∀y∈b.toList,ky y<=ky a[a.size-1])
  (h:∀r g,Good a.toList b.toList r.toList->Q r (SG st g)):wpS (model prog w) A E s (mlo a b) Q st:=by
 have m0:MA a b #[b[0]] 0 1:=by
  have:MA a b #[] 0 0:=⟨zK7 _,zK7 _,by simp,.nil,λx X=>by simp at X⟩;have:=this.pushB H nb (λy hy=>h1 y (by simpa using hy));simpa using this
 refine zJ9 (wpS_lift (zR8 ⟨rfl,?_⟩));refine zJ9 (zH (zN3 b 0 nb) ?_);dsimp only;by_cases c1:(1 == b.size)=true
 ·rw[if_pos c1];exact zK6 (h _ (gallopOf st) (m0.finB O c1))
 rw[if_neg c1];by_cases c2:(0+1 == a.size)=true
 ·rw[if_pos c2];exact zK6 (h _ (gallopOf st) (m0.finL H c2 na h2))
 rw[if_neg c2];refine zJ9 (wpS_get ?_);have b0:1<b.size:=by
  have:¬1=b.size:=by simpa using c1
  omega
 have b1:0+1<a.size:=by
  have:¬0+1=a.size:=by simpa using c2
  omega
 refine zJ9 (zU3 (zP8 (I:=λx c st'=>(∃g,st'=SG st g)/\∃out i j mg,c=(none,out,i,j,mg)/\MA a b out i j/\i+1<a.size/\j<b.size/\x+1<=i+j)
  (Q:=λc st'=>(∃g,st'=SG st g)/\∃r,c.1=some r/\Good a.toList b.toList r.toList) ?_ ?_ ⟨⟨_,rfl⟩,_,0,1,_,rfl,m0,b1,b0,by omega⟩) ?_)
 ·rintro x c st' _ X ⟨⟨g,rfl⟩,out,i,j,mg,rfl,m,hi,l,a9⟩;dsimp only;refine zJ9 (zU3 (zP8 (I:=λx c st'=>st'=SG st g/\∃f e d ac C,c=(none,f,e,d,ac,C)/\MA a b f e d/\e+1<a.size/\d<b.size/\i+j+x<=e+d)
   (Q:=λc st'=>st'=SG st g/\((∃r,c.1=some r/\Good a.toList b.toList r.toList)\/∃f e d ac C,c=(none,f,e,d,ac,C)/\MA a b f e d/\e+1<a.size/\d<b.size/\i+j+1<=e+d)) ?_ ?_ ⟨rfl,out,i,j,0,0,rfl,m,hi,l,by omega⟩) ?_)
  ·rintro x c st' _ X ⟨rfl,out,e,d,ac,C,rfl,m,hi,l,F⟩;dsimp only;obtain⟨t1,e1⟩:=yo ib l;obtain⟨t2,e2⟩:=yo ia (show e<a.size by omega);have G:=wg l;have V:=wg (show e<a.size by omega);refine zJ9 (zH (zN3 b d l) (zJ9 (zH (zN3 a e (by omega)) (zJ9 (kg hk e1 e2 ?_)))));by_cases hw:K b d<K a e
   ·rw[zM8 hw];dsimp only;rw[if_pos rfl];refine zJ9 (zH (zN3 b d l) ?_);have Z:=m.pushB H l λy hy=>by have:=wz O (show e<a.size by omega) y hy;omega
    by_cases D:(d+1 == b.size)=true
    ·rw[if_pos D];exact zK6 ⟨rfl,.inl ⟨_,rfl,Z.finB O D⟩⟩
    ·rw[if_neg D];have u:d+1<b.size:=by
                      have:¬d+1=b.size:=by simpa using D
                      omega
     by_cases N:C+1≥mg
     ·rw[if_pos N];exact zK6 ⟨rfl,.inr ⟨_,_,_,_,_,rfl,Z,hi,u,by omega⟩⟩
     ·rw[if_neg N];exact zK6 ⟨rfl,_,_,_,_,_,rfl,Z,hi,u,by omega⟩
   ·rw[zM0 hw];dsimp only;rw[if_neg (by decide)];refine zJ9 (zH (zN3 a e (by omega)) ?_);have Z:=m.pushA O (show e<a.size by omega) λy hy=>by have:=wz H l y hy;omega
    by_cases D:(e+1+1 == a.size)=true
    ·rw[if_pos D];exact zK6 ⟨rfl,.inl ⟨_,rfl,Z.finL H D na h2⟩⟩
    ·rw[if_neg D];have u:e+1+1<a.size:=by
                        have:¬e+1+1=a.size:=by simpa using D
                        omega
     by_cases N:ac+1≥mg
     ·rw[if_pos N];exact zK6 ⟨rfl,.inr ⟨_,_,_,_,_,rfl,Z,u,l,by omega⟩⟩
     ·rw[if_neg N];exact zK6 ⟨rfl,_,_,_,_,_,rfl,Z,u,l,by omega⟩
  ·rintro c st' ⟨rfl,out,e,d,ac,C,rfl,m,hi,l,F⟩;exact⟨rfl,.inr ⟨_,_,_,_,_,rfl,m,hi,l,by omega⟩⟩
  rintro c st' ⟨rfl,hc⟩;rcases hc with⟨r,hr,gd⟩|⟨out,e,d,ac,C,rfl,m,hi,l,F⟩
  ·rw[hr];exact zK6 ⟨⟨g,rfl⟩,r,rfl,gd⟩
  dsimp only;refine zJ9 (wpS_lift (zR8 ⟨rfl,?_⟩));clear m0;refine zJ9 (zU3 (zP8 (I:=λ_ c st'=>(∃g,st'=SG st g)/\∃f e d mg ac C,c=(none,f,e,d,mg,ac,C)/\MA a b f e d/\e+1<a.size/\d<b.size/\i+j+1<=e+d)
   (Q:=λc st'=>(∃g,st'=SG st g)/\((∃r,c.1=some r/\Good a.toList b.toList r.toList)\/∃f e d mg ac C,c=(none,f,e,d,mg,ac,C)/\MA a b f e d/\e+1<a.size/\d<b.size/\i+j+1<=e+d)) ?_ ?_ ⟨⟨g,rfl⟩,out,e,d,mg+1,ac,C,rfl,m,hi,l,F⟩) ?_)
  ·clear m hi l F;rintro y c st' _ hy ⟨⟨g,rfl⟩,out,e,d,mg,ac,C,rfl,m,hi,l,F⟩;dsimp only;obtain⟨t1,e1⟩:=yo ib l;have a3:=wg l
   revert mg
   refine share (λ_ z=>z) (λ_ z=>z) λmg=>?_;refine zJ9 (zW1 ?_);refine zJ9 (zH (zN3 b d l) ?_);refine zJ9 (uv hk e1 ia (by omega) (by omega) (xA λp q _ L Y=>sI O L (by omega)) λG U=>?_);have b2:=U.le;have B:∀y∈a.toList.drop (e+G),ky b[d]<=ky y:=nh (P:=λz=>ky b[d]<=z) λt L Y=>by rw[<-a3];exact uB U L (by omega)
   have R:∀x∈(a.toList.drop e).take G,ky x<=ky b[d]:=vU (P:=λz=>z<=ky b[d]) λt L Y _=>by rw[<-a3];exact uD U L Y
   dsimp only;have H0:MA a b out e d/\e+1<a.size/\e+G<=a.size/\(∀y∈a.toList.drop (e+G),ky b[d]<=ky y)/\(∀x∈(a.toList.drop e).take G,ky x<=ky b[d])/\i+j+1<=e+d:=⟨m,hi,by omega,B,R,F⟩;clear m hi F B R U b2
   revert out e H0
   refine pq (λo n=>MA a b o n d/\n+1<a.size/\(∀y∈a.toList.drop n,ky b[d]<=ky y)/\i+j+1<=n+d) (λ_ _ z=>z) ?_ ?_ ?_
   ·rintro out e ⟨m,hi,_,B,_,F⟩ z;have a1:G=0:=by omega
    subst a1;exact⟨m,hi,B,F⟩
   ·rintro W i1 ⟨m1,a6,B,b4⟩;have m2:=m1.pushB H l B;refine zJ9 (zH (zN3 b d l) ?_);by_cases D:(d+1 == b.size)=true
    ·rw[if_pos D];exact zK6 ⟨⟨_,rfl⟩,.inl ⟨_,rfl,m2.finB O D⟩⟩
    rw[if_neg D];have u:d+1<b.size:=by
     have:¬d+1=b.size:=by simpa using D
     omega
    have v:i1<a.size:=by omega
    obtain⟨t2,e2⟩:=yo ia v;refine zJ9 (zH (zN3 a i1 v) ?_);refine zJ9 (uv hk e2 ib (by omega) (by omega) (xA λp q _ L Y=>sI H L (by omega)) λV T=>?_);have a8:=T.le;have a5:=wg v;have H1:MA a b (W.push b[d]) i1 (d+1)/\d+1<b.size/\d+1+V<=b.size/\(∀y∈b.toList.drop (d+1+V),ky a[i1]<=ky y)/\(∀x∈(b.toList.drop (d+1)).take V,ky x<=ky a[i1])/\i+j+1<=i1+(d+1):=
     ⟨m2,u,by omega,nh (P:=λz=>ky a[i1]<=z) λt L Y=>by rw[<-a5];exact uB T L (by omega),vU (P:=λz=>z<=ky a[i1]) λt L Y _=>by rw[<-a5];exact uD T L Y,by omega⟩
    dsimp only;clear T a8 m2 u D m1 B b4;generalize W.push b[d]=M at H1 ⊢;generalize d+1=j1 at H1 ⊢
    revert M j1 H1
    refine pq (λo n=>MA a b o i1 n/\n<b.size/\(∀y∈b.toList.drop n,ky a[i1]<=ky y)/\i+j+1<=i1+n) (λ_ _ z=>z) ?_ ?_ ?_
    ·rintro M j1 ⟨m2,u,_,J,_,a0⟩ z;have a4:V=0:=by omega
     subst a4;exact⟨m2,u,J,a0⟩
    ·rintro b5 j3 ⟨m3,S,J,b7⟩;have m4:=m3.pushA O v J;refine zJ9 (zH (zN3 a i1 v) ?_);by_cases d3:(i1+1+1 == a.size)=true
     ·rw[if_pos d3];exact zK6 ⟨⟨_,rfl⟩,.inl ⟨_,rfl,m4.finL H d3 na h2⟩⟩
     rw[if_neg d3];have a7:i1+1+1<a.size:=by
      have:¬i1+1+1=a.size:=by simpa using d3
      omega
     have a2:i+j+1<=i1+1+j3:=by omega
     split
     ·exact zK6 ⟨⟨_,rfl⟩,.inr ⟨_,_,_,_,_,_,rfl,m4,a7,S,a2⟩⟩
     ·exact zK6 ⟨⟨_,rfl⟩,_,_,_,_,_,_,rfl,m4,a7,S,a2⟩
    ·rintro M j1 ⟨m2,u,lk,J,b3,a0⟩ b6 key;have m3:=m2.extB H (k:=V) lk λx X y hy=>zV6 (b3 x X) (wz O v y hy);by_cases N:(j1+V == b.size)=true
     ·rw[if_pos N];exact zK6 ⟨⟨_,rfl⟩,.inl ⟨_,rfl,m3.finB O N⟩⟩
     rw[if_neg N];have S:j1+V<b.size:=by
      have:¬j1+V=b.size:=by simpa using N
      omega
     exact key _ _ ⟨m3,S,J,by omega⟩
   ·rintro out e ⟨m,hi,lk,B,R,F⟩ b8 key;have m1:=m.extA O (k:=G) lk λx X y hy=>zV6 (R x X) (wz H l y hy);by_cases d4:(e+G+1 == a.size)=true
    ·rw[if_pos d4];exact zK6 ⟨⟨_,rfl⟩,.inl ⟨_,rfl,m1.finL H d4 na h2⟩⟩
    rw[if_neg d4];by_cases d5:(e+G == a.size)=true
    ·rw[if_pos d5];exact zK6 ⟨⟨_,rfl⟩,.inl ⟨_,rfl,m1.finA H d5⟩⟩
    rw[if_neg d5];have a6:e+G+1<a.size:=by
     have:¬e+G+1=a.size:=by simpa using d4
     have:¬e+G=a.size:=by simpa using d5
     omega
    exact key _ _ ⟨m1,a6,B,by omega⟩
  ·rintro c st' ⟨⟨g,rfl⟩,f,e,d,mg,ac,C,rfl,m,hi,l,F⟩;exact⟨⟨g,rfl⟩,.inr ⟨_,_,_,_,_,_,rfl,m,hi,l,F⟩⟩
  ·rintro c st' ⟨⟨g,rfl⟩,hc⟩;rcases hc with⟨r,hr,gd⟩|⟨out,e,d,mg,ac,C,rfl,m,hi,l,F⟩
   ·rw[hr];exact zK6 ⟨⟨g,rfl⟩,r,rfl,gd⟩
   ·dsimp only;refine zJ9 (zW1 ?_);exact zK6 ⟨⟨_,rfl⟩,_,_,_,_,rfl,m,hi,l,by omega⟩
 ·rintro c st' ⟨_,out,i,j,mg,rfl,m,hi,l,a9⟩;omega
 ·rintro c st' ⟨⟨g,rfl⟩,r,hr,gd⟩;rw[hr];exact zK6 (h r g gd)
end
def mhi :Array Keyed->Array Keyed->StateT SortSt Sem (Array Keyed):=sortPriv% PySem.Builtin.mergeHi
structure MJ (a b L:List Keyed)(n m:Nat):Prop where
 na:n<=a.length
 mb:m<=b.length
 pm:L.Perm (a.drop n++b.drop m)
 up:Up L
 le:∀x∈a.take n++b.take m,∀y∈L,ky x<=ky y
section
variable {a b L:List Keyed}{n m k:Nat}
theorem MJ.doneA (h:MJ a b L 0 m)(c:Up b):Good a b (b.take m++L):=by
 refine⟨?_,zM7.mpr ⟨c.sublist (zU5 _ _),h.up,λx d y hy=>h.le x (zL3 _ d) y hy⟩⟩;refine(zO7 _ h.pm).trans ?_;have:(b.take m++(a++b.drop m)).Perm (a++(b.take m++b.drop m)):=by
  rw[<-zM1,<-zM1];exact zV5 _ zS1
 rwa [zL7]at this
theorem MJ.doneB (h:MJ a b L n 0)(c:Up a):Good a b (a.take n++L):=by
 refine⟨?_,zM7.mpr ⟨c.sublist (zU5 _ _),h.up,λx d y hy=>h.le x (zM6 _ d) y hy⟩⟩;refine(zO7 _ h.pm).trans ?_;rw[<-zM1,zL7];exact List.Perm.refl _
theorem MJ.first (h:MJ a b L n 1)(f:Up a)(hb:0<b.length)(d:∀x∈a,ky b[0]<=ky x):Good a b (b.take 1++a.take n++L):=by
 have e:b.take 1=[b[0]]:=by
  match b,hb with
  |y::ys,_=>rfl
 refine⟨?_,?_⟩
 ·refine(zO7 _ h.pm).trans ?_;have:(b.take 1++a.take n++(a.drop n++b.drop 1)).Perm (a.take n++a.drop n++(b.take 1++b.drop 1)):=by
   rw[zM1 (a.take n)];rw[<-zM1 (a.drop n)];refine(zV5 _ zS1).trans ?_;rw[zM1];refine zO7 _ ?_;rw[<-zM1];exact zV5 _ zS1
  rwa [zL7,zL7]at this
 ·refine zM7.mpr ⟨zM7.mpr ⟨by rw[e];exact z21 _ _,f.sublist (zU5 _ _),λx c y hy=>?_⟩,h.up,λx c y hy=>?_⟩
  ·rw[e]at c;rw[zL9.mp c];exact d y (zR1 hy)
  ·refine h.le x ?_ y hy;rcases zL6.mp c with c|c
   ·exact zL3 _ c
   ·exact zM6 _ c
theorem MJ.preA (h:MJ a b L n m)(j:Up a)(hk:k<=n)(f:∀x∈(a.take n).drop k,∀y∈b.take m,ky y<=ky x):MJ a b ((a.take n).drop k++L) k m:=by
 have i:(a.take n).take k=a.take k:=by rw[z45,z41 hk]
 have sp:a.take n=a.take k++(a.take n).drop k:=by rw[<-i,zL7]
 have e:Up (a.take n):=j.sublist (zU5 _ _);have d:=e;rw[sp]at d;obtain⟨o,g,l⟩:=zM7.mp d;refine⟨zK0 hk h.na,h.mb,?_,zM7.mpr ⟨g,h.up,λx c y hy=>h.le x (zM6 _ (zS7 c)) y hy⟩,λx c y hy=>?_⟩
 ·refine(zO7 _ h.pm).trans ?_;have:a.drop k=(a.take n).drop k++a.drop n:=by
   conv=>lhs;rw[<-zL7 n a]
   rw[List.drop_append_of_le_length (by have:=h.na;rw[zM3];omega)]
  rw[this,zM1]
 ·rcases zL6.mp hy with hy|hy
  ·rcases zL6.mp c with c|c
   ·exact l x c y hy
   ·exact f y hy x c
  ·refine h.le x ?_ y hy;rcases zL6.mp c with c|c
   ·rw[sp];exact zM6 _ (zM6 _ c)
   ·exact zL3 _ c
theorem MJ.preB (h:MJ a b L n m)(e:Up b)(hk:k<=m)(f:∀x∈(b.take m).drop k,∀y∈a.take n,ky y<=ky x):MJ a b ((b.take m).drop k++L) n k:=by
 have i:(b.take m).take k=b.take k:=by rw[z45,z41 hk]
 have sp:b.take m=b.take k++(b.take m).drop k:=by rw[<-i,zL7]
 have d:Up (b.take m):=e.sublist (zU5 _ _);rw[sp]at d;obtain⟨l,g,j⟩:=zM7.mp d;refine⟨h.na,zK0 hk h.mb,?_,zM7.mpr ⟨g,h.up,λx c y hy=>h.le x (zL3 _ (zS7 c)) y hy⟩,λx c y hy=>?_⟩
 ·refine(zO7 _ h.pm).trans ?_;have:b.drop k=(b.take m).drop k++b.drop m:=by
   conv=>lhs;rw[<-zL7 m b]
   rw[List.drop_append_of_le_length (by have:=h.mb;rw[zM3];omega)]
  rw[this,<-zM1,<-zM1];exact zV5 _ zS1
 ·rcases zL6.mp hy with hy|hy
  ·rcases zL6.mp c with c|c
   ·exact f y hy x c
   ·exact j x c y hy
  ·refine h.le x ?_ y hy;rcases zL6.mp c with c|c
   ·exact zM6 _ c
   ·rw[sp];exact zL3 _ (zM6 _ c)
end
abbrev MB (a b out:Array Keyed)(n m:Nat):Prop:=MJ a.toList b.toList out.toList.reverse n m
section
variable {a b out:Array Keyed}{n m k:Nat}
theorem qB (a:Array Keyed)(n:Nat):(a.extract 0 n).toList=a.toList.take n:=by rw[zY7,zW0];simp
theorem wQ (a:Array Keyed)(k n:Nat):(a.extract k n).toList=(a.toList.take n).drop k:=by rw[zY7,zW0,List.drop_take]
theorem MB.extA (h:MB a b out n m)(d:Up a.toList)(hk:k<=n)(c:∀x∈(a.toList.take n).drop k,∀y∈b.toList.take m,ky y<=ky x):MB a b (out++(a.extract k n).reverse) k m:=by
 have:=h.preA d hk c;unfold MB
 rwa [zM5,zW2,zZ3,List.reverse_reverse,wQ]
theorem MB.extB (h:MB a b out n m)(c:Up b.toList)(hk:k<=m)(d:∀x∈(b.toList.take m).drop k,∀y∈a.toList.take n,ky y<=ky x):MB a b (out++(b.extract k m).reverse) n k:=by
 have:=h.preB c hk d;unfold MB
 rwa [zM5,zW2,zZ3,List.reverse_reverse,wQ]
theorem qh {a:Array Keyed}{n:Nat}(h:n-1<a.size)(h0:0<n):(a.toList.take n).drop (n-1)=[a[n-1]]:=by
 have:n-(n-1)=1:=by omega
 rw[List.drop_take,this,take1 _ (by simpa using h)];simp
theorem MB.pushA (h:MB a b out n m)(d:Up a.toList)(h0:0<n)(hn:n-1<a.size)(c:∀y∈b.toList.take m,ky y<=ky a[n-1]):MB a b (out.push a[n-1]) (n-1) m:=by
 have e:=qh hn h0;have:=h.preA (k:=n-1) d (by omega) (by rw[e];intro x f;rw[zL9.mp f];exact c);unfold MB;rw[e]at this
 rwa [zV0,zZ3]
theorem MB.pushB (h:MB a b out n m)(c:Up b.toList)(h0:0<m)(hm:m-1<b.size)(d:∀y∈a.toList.take n,ky y<=ky b[m-1]):MB a b (out.push b[m-1]) n (m-1):=by
 have e:=qh hm h0;have:=h.preB (k:=m-1) c (by omega) (by rw[e];intro x f;rw[zL9.mp f];exact d);unfold MB;rw[e]at this
 rwa [zV0,zZ3]
theorem MB.finA (h:MB a b out n m)(d:Up b.toList)(e:(n == 0)=true):Good a.toList b.toList (a.extract 0 n++b.extract 0 m++out.reverse).toList:=by
 have c:n=0:=by simpa using e
 subst c;rw[zM5,zM5,qB,qB,zW2];exact h.doneA d
theorem MB.finB (h:MB a b out n m)(c:Up a.toList)(e:(m == 0)=true):Good a.toList b.toList (a.extract 0 n++b.extract 0 m++out.reverse).toList:=by
 have d:m=0:=by simpa using e
 subst d;rw[zM5,zM5,qB,qB,zW2,List.take_zero,zQ3];exact h.doneB c
theorem MB.finF (h:MB a b out n m)(d:Up a.toList)(e:(m == 1)=true)(hb:0<b.size)(f:∀x∈a.toList,ky b[0]<=ky x):Good a.toList b.toList (b.extract 0 m++a.extract 0 n++out.reverse).toList:=by
 have c:m=1:=by simpa using e
 subst c;rw[zM5,zM5,qB,qB,zW2];exact h.first d (by simpa using hb) (by simpa using f)
theorem uI {a:Array Keyed}{P:Int->Prop}{n:Nat}(h:∀t,t<n->t<a.size->P (K a t)):∀x∈a.toList.take n,P (ky x):=λx d=>by
 have:=vU (a:=a) (P:=P) (i:=0) (k:=n) (λt _ e c=>h t (by omega) c) x;exact this (by simpa using d)
theorem kK {a:Array Keyed}{P:Int->Prop}{k n:Nat}(h:∀t,k<=t->t<n->t<a.size->P (K a t)):∀x∈(a.toList.take n).drop k,P (ky x):=λx c=>by
 rw[List.drop_take]at c;exact vU (a:=a) (P:=P) (i:=k) (k:=n-k) (λt h0 e d=>h t h0 (by omega) d) x c
theorem vS {a:Array Keyed}(u:Up a.toList){n:Nat}(hn:n-1<a.size):∀y∈a.toList.take n,ky y<=ky a[n-1]:=by
 rw[<-wg hn];exact uI (P:=λz=>z<=K a (n-1)) λt d c=>sI u (by omega) hn
end
section
variable {prog:Program}{w:World}{A:Around}{E:Value->Shared->Prop}{s:Shared}{a₀:Array Keyed}
theorem zp9 {st:SortSt}{a b:Array Keyed}{Q:Array Keyed->SortSt->Prop}(hk:kindOf st=oneType')(ia:IntKeys a)(ib:IntKeys b)(H:Up a.toList)(R:Up b.toList)(na:0<a.size)(nb:0<b.size)
  (h1:∀x∈a.toList,ky b[0]<=ky x) (h2:∀y∈b.toList,ky y<=ky a[a.size-1])
  (h:∀r g,Good a.toList b.toList r.toList->Q r (SG st g)):wpS (model prog w) A E s (mhi a b) Q st:=by
 have m0:MB a b #[a[a.size-1]] (a.size-1) b.size:=by
  have:MB a b #[] a.size b.size:=⟨by simp,by simp,by simp,.nil,λx hx y hy=>by simp at hy⟩;have:=this.pushA H na (by omega) (λy hy=>h2 y (zR1 hy));simpa using this
 refine zJ9 (wpS_lift (zR8 ⟨rfl,?_⟩));refine zJ9 (zH (zN3 a (a.size-1) (by omega)) ?_);dsimp only;by_cases c1:(a.size-1 == 0)=true
 ·rw[if_pos c1];exact zK6 (h _ (gallopOf st) (m0.finA R c1))
 rw[if_neg c1];by_cases c2:(b.size == 1)=true
 ·rw[if_pos c2];exact zK6 (h _ (gallopOf st) (m0.finF H c2 nb h1))
 rw[if_neg c2];refine zJ9 (wpS_get ?_);have a9:0<a.size-1:=by
  have:¬a.size-1=0:=by simpa using c1
  omega
 have b0:1<b.size:=by
  have:¬b.size=1:=by simpa using c2
  omega
 refine zJ9 (zU3 (zP8 (I:=λx c st'=>(∃g,st'=SG st g)/\∃out n m mg,c=(none,n,m,out,mg)/\MB a b out n m/\0<n/\1<m/\n<a.size/\m<=b.size/\x+1+n+m<=a.size+b.size)
  (Q:=λc st'=>(∃g,st'=SG st g)/\∃r,c.1=some r/\Good a.toList b.toList r.toList) ?_ ?_ ⟨⟨_,rfl⟩,_,_,_,_,rfl,m0,a9,b0,by omega,by omega,by omega⟩) ?_)
 ·clear m0;rintro x c st' _ hx ⟨⟨g,rfl⟩,out,n,m,mg,rfl,m0,hn,hm,a0,u,a8⟩;dsimp only;refine zJ9 (zU3 (zP8 (I:=λx c st'=>st'=SG st g/\∃f e d ac C,c=(none,e,d,f,ac,C)/\MB a b f e d/\0<e/\1<d/\e<a.size/\d<=b.size/\x+e+d<=n+m)
   (Q:=λc st'=>st'=SG st g/\((∃r,c.1=some r/\Good a.toList b.toList r.toList)\/∃f e d ac C,c=(none,e,d,f,ac,C)/\MB a b f e d/\0<e/\1<d/\e<a.size/\d<=b.size/\1+e+d<=n+m)) ?_ ?_ ⟨rfl,out,n,m,0,0,rfl,m0,hn,hm,a0,u,by omega⟩) ?_)
  ·clear m0 a0 u hn hm;rintro x c st' _ hx ⟨rfl,out,e,d,ac,C,rfl,m0,hn,hm,i,l,B⟩;dsimp only;have hj:d-1<b.size:=by omega
   have hi:e-1<a.size:=by omega
   obtain⟨t1,e1⟩:=yo ib hj;obtain⟨t2,e2⟩:=yo ia hi;have O:=wg hj;have F:=wg hi;refine zJ9 (zH (zN3 b _ hj) (zJ9 (zH (zN3 a _ hi) (zJ9 (kg hk e1 e2 ?_)))));by_cases hw:K b (d-1)<K a (e-1)
   ·rw[zM8 hw];dsimp only;rw[if_pos rfl];refine zJ9 (zH (zN3 a _ hi) ?_);have m1:=m0.pushA H hn hi λy hy=>by have:=vS R hj y hy;omega
    by_cases D:(e-1 == 0)=true
    ·rw[if_pos D];exact zK6 ⟨rfl,.inl ⟨_,rfl,m1.finA R D⟩⟩
    ·rw[if_neg D];have j:0<e-1:=by
                   have:¬e-1=0:=by simpa using D
                   omega
     by_cases S:ac+1≥mg
     ·rw[if_pos S];exact zK6 ⟨rfl,.inr ⟨_,_,_,_,_,rfl,m1,j,hm,by omega,l,by omega⟩⟩
     ·rw[if_neg S];exact zK6 ⟨rfl,_,_,_,_,_,rfl,m1,j,hm,by omega,l,by omega⟩
   ·rw[zM0 hw];dsimp only;rw[if_neg (by decide)];refine zJ9 (zH (zN3 b _ hj) ?_);have m1:=m0.pushB R (by omega) hj λy hy=>by have:=vS H hi y hy;omega
    by_cases D:(d-1 == 1)=true
    ·rw[if_pos D];exact zK6 ⟨rfl,.inl ⟨_,rfl,m1.finF H D nb h1⟩⟩
    ·rw[if_neg D];have j:1<d-1:=by
                   have:¬d-1=1:=by simpa using D
                   omega
     by_cases S:C+1≥mg
     ·rw[if_pos S];exact zK6 ⟨rfl,.inr ⟨_,_,_,_,_,rfl,m1,hn,j,by omega,by omega,by omega⟩⟩
     ·rw[if_neg S];exact zK6 ⟨rfl,_,_,_,_,_,rfl,m1,hn,j,by omega,by omega,by omega⟩
  ·rintro c st' ⟨rfl,out,e,d,ac,C,rfl,m0,hn,hm,i,l,B⟩;exact⟨rfl,.inr ⟨_,_,_,_,_,rfl,m0,hn,hm,i,l,by omega⟩⟩
  rintro c st' ⟨rfl,hc⟩;rcases hc with⟨r,hr,gd⟩|⟨out,e,d,ac,C,rfl,m0,hn,hm,i,l,B⟩
  ·rw[hr];exact zK6 ⟨⟨g,rfl⟩,r,rfl,gd⟩
  dsimp only;refine zJ9 (wpS_lift (zR8 ⟨rfl,?_⟩));refine zJ9 (zU3 (zP8 (I:=λ_ c st'=>(∃g,st'=SG st g)/\∃f e d mg ac C,c=(none,e,d,f,mg,ac,C)/\MB a b f e d/\0<e/\1<d/\e<a.size/\d<=b.size/\1+e+d<=n+m)
   (Q:=λc st'=>(∃g,st'=SG st g)/\((∃r,c.1=some r/\Good a.toList b.toList r.toList)\/∃f e d mg ac C,c=(none,e,d,f,mg,ac,C)/\MB a b f e d/\0<e/\1<d/\e<a.size/\d<=b.size/\1+e+d<=n+m)) ?_ ?_ ⟨⟨g,rfl⟩,out,e,d,mg+1,ac,C,rfl,m0,hn,hm,i,l,B⟩) ?_)
  ·clear m0 hn hm i l B a0 u;rintro y c st' _ hy ⟨⟨g,rfl⟩,out,e,d,mg,ac,C,rfl,m0,hn,hm,i,l,B⟩;dsimp only;have u:d-1<b.size:=by omega
   obtain⟨t1,e1⟩:=yo ib u;have a3:=wg u
   revert mg
   refine share (λ_ z=>z) (λ_ z=>z) λmg=>?_;refine zJ9 (zW1 ?_);refine zJ9 (zH (zN3 b (d-1) u) ?_);refine zJ9 (uv hk e1 ia (by omega) (by omega) (xA λp q _ Z h7=>sI H Z (by omega)) λO W=>?_);have M:=W.le;dsimp only;generalize T:e-O=ac1;have H0:MB a b out e d/\0<e/\e<a.size/\(O<=e/\e-O=ac1)/\(∀y∈a.toList.take O,ky y<=ky b[d-1])/\(∀x∈(a.toList.take e).drop O,ky b[d-1]<=ky x)/\1+e+d<=n+m:=
    ⟨m0,hn,i,⟨M,T⟩,uI (P:=λz=>z<=ky b[d-1]) λt Z h7=>by rw[<-a3];exact uD W (by omega) (by omega),kK (P:=λz=>ky b[d-1]<=z) λt Z h7 _=>by rw[<-a3];exact uB W (by omega) (by omega),B⟩
   clear m0 hn i B W M T
   revert out e H0
   refine pq (λo n1=>MB a b o n1 d/\0<n1/\n1<a.size/\(∀y∈a.toList.take n1,ky y<=ky b[d-1])/\1+n1+d<=n+m) (λ_ _ z=>z) ?_ ?_ ?_
   ·rintro out e ⟨m0,hn,i,⟨M,T⟩,G,_,B⟩ z;have a1:O=e:=by omega
    subst a1;exact⟨m0,hn,i,G,B⟩
   ·rintro Y n1 ⟨m1,hn,i,G,B⟩;have m2:=m1.pushB R (by omega) u G;refine zJ9 (zH (zN3 b (d-1) u) ?_);by_cases D:(d-1 == 1)=true
    ·rw[if_pos D];exact zK6 ⟨⟨_,rfl⟩,.inl ⟨_,rfl,m2.finF H D nb h1⟩⟩
    rw[if_neg D];have j:1<d-1:=by
     have:¬d-1=1:=by simpa using D
     omega
    have v:n1-1<a.size:=by omega
    obtain⟨t2,e2⟩:=yo ia v;refine zJ9 (zH (zN3 a (n1-1) v) ?_);refine zJ9 (uv hk e2 ib (by omega) (by omega) (xA λp q _ Z h7=>sI R Z (by omega)) λF V=>?_);have L:=V.le;have a5:=wg v;dsimp only;generalize X:d-1-F=bc1;have H1:MB a b (Y.push b[d-1]) n1 (d-1)/\1<d-1/\d-1<=b.size/\(F<=d-1/\d-1-F=bc1)/\(∀y∈b.toList.take F,ky y<=ky a[n1-1])/\(∀x∈(b.toList.take (d-1)).drop F,ky a[n1-1]<=ky x)/\1+n1+(d-1)<=n+m:=
     ⟨m2,j,by omega,⟨L,X⟩,uI (P:=λz=>z<=ky a[n1-1]) λt Z h7=>by rw[<-a5];exact uD V (by omega) (by omega),kK (P:=λz=>ky a[n1-1]<=z) λt Z h7 _=>by rw[<-a5];exact uB V (by omega) (by omega),by omega⟩
    clear V L m2 j D m1 G B X;generalize Y.push b[d-1]=N at H1 ⊢;generalize d-1=m2 at H1 ⊢
    revert N m2 H1
    refine pq (λo n2=>MB a b o n1 n2/\1<n2/\n2<=b.size/\(∀y∈b.toList.take n2,ky y<=ky a[n1-1])/\1+n1+n2<=n+m) (λ_ _ z=>z) ?_ ?_ ?_
    ·rintro N m2 ⟨mm,j,lb,⟨L,X⟩,J,_,B⟩ z;have a4:F=m2:=by omega
     subst a4;exact⟨mm,j,lb,J,B⟩
    ·rintro b3 m3 ⟨mm,U,lb,J,B⟩;have m4:=mm.pushA H (by omega) v J;refine zJ9 (zH (zN3 a (n1-1) v) ?_);by_cases d3:(n1-1 == 0)=true
     ·rw[if_pos d3];exact zK6 ⟨⟨_,rfl⟩,.inl ⟨_,rfl,m4.finA R d3⟩⟩
     rw[if_neg d3];have a6:0<n1-1:=by
      have:¬n1-1=0:=by simpa using d3
      omega
     have a2:1+(n1-1)+m3<=n+m:=by omega
     split
     ·exact zK6 ⟨⟨_,rfl⟩,.inr ⟨_,_,_,_,_,_,rfl,m4,a6,U,by omega,lb,a2⟩⟩
     ·exact zK6 ⟨⟨_,rfl⟩,_,_,_,_,_,_,rfl,m4,a6,U,by omega,lb,a2⟩
    ·rintro N m2 ⟨mm,j,lb,⟨L,X⟩,J,b2,B⟩ b4 key;have m3:=mm.extB R (k:=F) L λx hx y hy=>zV6 (vS H v y hy) (b2 x hx);by_cases S:(F == 1)=true
     ·rw[if_pos S];exact zK6 ⟨⟨_,rfl⟩,.inl ⟨_,rfl,m3.finF H S nb h1⟩⟩
     rw[if_neg S];by_cases d5:(F == 0)=true
     ·rw[if_pos d5];exact zK6 ⟨⟨_,rfl⟩,.inl ⟨_,rfl,m3.finB H d5⟩⟩
     rw[if_neg d5];have U:1<F:=by
      have:¬F=1:=by simpa using S
      have:¬F=0:=by simpa using d5
      omega
     exact key _ _ ⟨m3,U,by omega,J,by omega⟩
   ·rintro out e ⟨m0,hn,i,⟨M,T⟩,G,a7,B⟩ b5 key;have m1:=m0.extA H (k:=O) M λx hx y hy=>zV6 (vS R u y hy) (a7 x hx);by_cases d4:(O == 0)=true
    ·rw[if_pos d4];exact zK6 ⟨⟨_,rfl⟩,.inl ⟨_,rfl,m1.finA R d4⟩⟩
    rw[if_neg d4];have b1:0<O:=by
     have:¬O=0:=by simpa using d4
     omega
    exact key _ _ ⟨m1,b1,by omega,G,by omega⟩
  ·rintro c st' ⟨⟨g,rfl⟩,f,e,d,mg,ac,C,rfl,m0,r⟩;exact⟨⟨g,rfl⟩,.inr ⟨_,_,_,_,_,_,rfl,m0,r⟩⟩
  ·rintro c st' ⟨⟨g,rfl⟩,hc⟩;rcases hc with⟨r,hr,gd⟩|⟨out,e,d,mg,ac,C,rfl,m0,hn,hm,i,l,B⟩
   ·rw[hr];exact zK6 ⟨⟨g,rfl⟩,r,rfl,gd⟩
   ·dsimp only;refine zJ9 (zW1 ?_);exact zK6 ⟨⟨_,rfl⟩,_,_,_,_,rfl,m0,hn,hm,i,l,by omega⟩
 ·rintro c st' ⟨_,out,n,m,mg,rfl,m0,hn,hm,_,_,a8⟩;omega
 ·rintro c st' ⟨⟨g,rfl⟩,r,hr,gd⟩;rw[hr];exact zK6 (h r g gd)
end
def zQ (xs:Array Keyed)(l u:Nat):Prop:=∀i j,l<=i->i<=j->j<u->K xs i<=K xs j
theorem bq {M:Model}{A:Around}{E:Value->Shared->Prop}{s:Shared}{σ:Type}{x:σ}{Q:PUnit->σ->Prop}{st:σ}(h:Q ⟨⟩ x):wpS M A E s (set x:StateT σ Sem PUnit) Q st:=by unfold wpS;rw[StateT.run_set];exact zJ1 ⟨rfl,h⟩
theorem zh7 (o:Nat):∀(M:List Keyed) (k:Nat) (P Z S:List Keyed) (arr:Array Keyed),arr.toList=P++Z++S->P.length=o+k->Z.length=M.length->
  ((M.zipIdx k).foldl (λa (b:Keyed×Nat)=>a.setIfInBounds (o+b.2) b.1) arr).toList=P++M++S
 |[],k,P,Z,S,arr,h,_,hz=>by
  have:Z=[]:=zX2.mp hz;subst this;exact h
 |p::M,k,P,[],S,arr,h,c,hz=>by cases hz
 |p::M,k,P,z::Z,S,arr,h,c,hz=>by
  rw[List.zipIdx_cons,List.foldl_cons];have:=zh7 o M (k+1) (P++[p]) Z S (arr.setIfInBounds (o+k) p) (by
   rw[Array.toList_setIfInBounds,h,<-c];simp) (by simp;omega) (by simpa using hz)
  rw[this];simp
theorem vA {xs ys:Array Keyed}(h:IntKeys ys)(b:∀p∈xs.toList,p∈ys.toList):IntKeys xs:=λp a=>h p (b p a)
theorem mJ (xs:Array Keyed)(P M S:List Keyed)(e:xs.toList=P++M++S){t:Nat}(h:t<M.length):K xs (P.length+t)=ky M[t]:=by
 have a:P.length+t<xs.size:=by
  have:=congrArg List.length e;simp at this;omega
 rw[wg a];have:xs[P.length+t]=xs.toList[P.length+t]'(by simpa using a):=by simp
 rw[this];simp only[e];rw[List.getElem_append_left (by simp;omega),List.getElem_append_right (by omega)];simp
theorem zx4 {xs ys:Array Keyed}{P M Z S:List Keyed}(e:xs.toList=P++M++S)(f:ys.toList=P++Z++S)(hz:M.length=Z.length){t:Nat}(h:t<P.length\/P.length+M.length<=t):K xs t=K ys t:=by
 refine K_congr ?_;rw[<-zT4,<-zT4,e,f];rcases h with h|h
 ·rw[zM1,zM1,zP5 h,zP5 h]
 ·rw[zR2 (by simp;omega),zR2 (by simp;omega)];simp only[zM9,hz]
section
variable {prog:Program}{w:World}{A:Around}{E:Value->Shared->Prop}{s:Shared}
theorem cc {xs:Array Keyed}{l u:Nat}(h:zQ xs l u)(c:u<=xs.size):Up (xs.extract l u).toList:=by
 refine zQ5.mpr λi j hi a b=>?_;simp at hi a;have:=h (l+i) (l+j) (by omega) (by omega) (by omega);rw[wg (show l+i<xs.size by omega),wg (show l+j<xs.size by omega)]at this;simpa using this
theorem ext_mem {xs:Array Keyed}{l u:Nat}(b:u<=xs.size){e:Keyed}(h:e∈(xs.extract l u).toList):∃t,l<=t/\t<u/\ky e=K xs t:=by
 obtain⟨t,a,rfl⟩:=zU1.mp h;simp at a;refine⟨l+t,by omega,by omega,?_⟩;rw[wg (show l+t<xs.size by omega)];simp
theorem gU {xs:Array Keyed}{l u t:Nat}(a:u<=xs.size)(h:t<(xs.extract l u).size):ky (xs.extract l u)[t]=K xs (l+t):=by
 have h':l+t<xs.size:=by simp at h;omega
 rw[wg h'];simp
theorem mP {st:SortSt}{i sa na pw sb nb H:Nat}{Q:Bool->SortSt->Prop}(hk:kindOf st=oneType')(hf:failedOf st=none)(B:IntKeys (arrOf st))
  (e1:(pendingOf st)[i]?=some (sa,na,pw)) (e2:(pendingOf st)[i+1]?=some (sb,nb,H)) (a5:sa+na=sb) (S:0<na) (a3:0<nb) (a6:sb+nb<=(arrOf st).size)
  (z:zQ (arrOf st) sa sb) (y:zQ (arrOf st) sb (sb+nb))
  (h:∀b g,b.Perm (arrOf st)->(∀t,t<sa\/sb+nb<=t->K b t=K (arrOf st) t)->zQ b sa (sb+nb)->
   Q true (SortSt.mk' (kindOf st) b (((pendingOf st).setIfInBounds i (sa,na+nb,pw)).eraseIdxIfInBounds (i+1)) g (failedOf st))):
  wpS (model prog w) A E s (mergeAt' i) Q st:=by
 refine zJ9 (wpS_get ?_);rw[show(pendingOf st)[i]?=some (sa,na,pw)from e1];rw[show(pendingOf st)[i+1]?=some (sb,nb,H)from e2];dsimp only;refine zJ9 (bq ?_);have n:∀p,kindOf (setPending st p)=oneType':=λ_=>hk;have J:sb<(arrOf st).size:=by omega
 obtain⟨t1,f1⟩:=yo B J;refine zJ9 (zH (zN3 (arrOf st) sb J) ?_);refine zJ9 (uv (n _) f1 B (show sa+na<=(arrOf st).size by omega) S (xA λp q c j o=>z p q c j (by omega)) λk ct=>?_);have a4:=ct.le;dsimp only;have v:∀t,sa<=t->t<sa+k->∀q,sb<=q->q<sb+nb->K (arrOf st) t<=K (arrOf st) q:=λt d f q c j=>zV6 (uD ct d f) (y sb q (by omega) c j);have x:∀t,sa+k<=t->t<sb->K (arrOf st) sb<=K (arrOf st) t:=λt d f=>uB ct d (by omega);by_cases N:(na-k == 0)=true
 ·rw[if_pos N];have R:na-k=0:=by simpa using N
  refine zK6 (h (arrOf st) (gallopOf st) (zT1 _) (λ_ _=>rfl) λp q d f c=>?_);by_cases L:q<sb
  ·exact z p q d f L
  ·by_cases V:p<sb
   ·exact v p d (by omega) q (by omega) c
   ·exact y p q (by omega) f c
 rw[if_neg N];have R:k<na:=by
  have:¬na-k=0:=by simpa using N
  omega
 have F:sa+k+(na-k)-1<(arrOf st).size:=by omega
 obtain⟨t2,f2⟩:=yo B F;refine zJ9 (zH (zN3 (arrOf st) _ F) ?_);refine zJ9 (uv (n _) f2 B (show sb+nb<=(arrOf st).size by omega) (by omega) (xA λp q c j o=>y p q c j (by omega)) λn2 m=>?_);have a0:=m.le;have U:sa+k+(na-k)-1=sb-1:=by omega
 rw[U]at m;dsimp only;have I:∀t,sb<=t->t<sb+n2->K (arrOf st) t<=K (arrOf st) (sb-1):=λt d f=>uD m d f;have l:∀q,sb+n2<=q->q<sb+nb->∀t,sa<=t->t<sb->K (arrOf st) t<=K (arrOf st) q:=λq c j t d f=>zV6 (z t (sb-1) d (by omega) (by omega)) (uB m c j);by_cases M:(n2 == 0)=true
 ·rw[if_pos M];have P:n2=0:=by simpa using M
  refine zK6 (h (arrOf st) (gallopOf st) (zT1 _) (λ_ _=>rfl) λp q d f c=>?_);by_cases L:q<sb
  ·exact z p q d f L
  ·by_cases V:p<sb
   ·exact l q (by omega) c p d V
   ·exact y p q (by omega) f c
 rw[if_neg M];have P:0<n2:=by
  have:¬n2=0:=by simpa using M
  omega
 have ix:IntKeys ((arrOf st).extract (sa+k) sb):=vA B λp D=>by
  rw[wQ]at D;exact zR1 (zS7 D)
 have iy:IntKeys ((arrOf st).extract sb (sb+n2)):=vA B λp D=>by
  rw[wQ]at D;exact zR1 (zS7 D)
 have ux:Up ((arrOf st).extract (sa+k) sb).toList:=cc (λp q d f c=>z p q (by omega) f c) (by omega);have uy:Up ((arrOf st).extract sb (sb+n2)).toList:=cc (λp q d f c=>y p q d f (by omega)) (by omega);have sx:((arrOf st).extract (sa+k) sb).size=na-k:=by simp;omega
 have sy:((arrOf st).extract sb (sb+n2)).size=n2:=by simp;omega
 have px:0<((arrOf st).extract (sa+k) sb).size:=by omega
 have py:0<((arrOf st).extract sb (sb+n2)).size:=by omega
 have Y:∀e∈((arrOf st).extract (sa+k) sb).toList,ky (((arrOf st).extract sb (sb+n2))[0]'(by omega))<=ky e:=λe he=>by
  obtain⟨t,d,f,c⟩:=ext_mem (by omega) he;rw[c,gU (by omega)];exact x t d f
 have q2:∀e∈((arrOf st).extract sb (sb+n2)).toList,ky e<=ky (((arrOf st).extract (sa+k) sb)[((arrOf st).extract (sa+k) sb).size-1]'(by omega)):=λe he=>by
  obtain⟨t,d,f,c⟩:=ext_mem (by omega) he;rw[c,gU (by omega),sx,show sa+k+(na-k-1)=sb-1 by omega];exact I t d f
 have fin:∀{st':SortSt} (r:Array Keyed) (g:Nat),Good ((arrOf st).extract (sa+k) sb).toList ((arrOf st).extract sb (sb+n2)).toList r.toList->
   ∃b:Array Keyed,(r.toList.zipIdx.foldl (λa (C:Keyed×Nat)=>a.setIfInBounds (sa+k+C.2) C.1) (arrOf st))=b/\b.Perm (arrOf st)/\(∀t,t<sa\/sb+nb<=t->K b t=K (arrOf st) t)/\zQ b sa (sb+nb):=λ{st'} r g gd=>by
  refine⟨_,rfl,?_⟩;have lr:r.toList.length=na-k+n2:=by rw[gd.pm.length_eq,zM9,zP9,zP9,sx,sy]
  have sp:(arrOf st).toList=(arrOf st).toList.take (sa+k)++(((arrOf st).extract (sa+k) sb).toList++((arrOf st).extract sb (sb+n2)).toList)++(arrOf st).toList.drop (sb+n2):=by
   rw[wQ,wQ];have a1:(arrOf st).toList.take (sa+k)++((arrOf st).toList.take sb).drop (sa+k)=(arrOf st).toList.take sb:=by
    have:=zL7 (sa+k) ((arrOf st).toList.take sb)
    rwa [z45,z41 (by omega)]at this
   have a2:(arrOf st).toList.take sb++((arrOf st).toList.take (sb+n2)).drop sb=(arrOf st).toList.take (sb+n2):=by
    have:=zL7 sb ((arrOf st).toList.take (sb+n2))
    rwa [z45,z41 (by omega)]at this
   rw[<-zM1,a1,a2,zL7]
  have G:((arrOf st).toList.take (sa+k)).length=sa+k:=by simp;omega
  have lZ:(((arrOf st).extract (sa+k) sb).toList++((arrOf st).extract sb (sb+n2)).toList).length=r.toList.length:=by rw[gd.pm.length_eq]
  have wr:=zh7 (sa+k) r.toList 0 _ _ _ (arrOf st) sp (by rw[G];rfl) lZ;generalize r.toList.zipIdx.foldl (λa (C:Keyed×Nat)=>a.setIfInBounds (sa+k+C.2) C.1) (arrOf st)=b at wr;have u:∀t,t<sa+k\/sb+n2<=t->K b t=K (arrOf st) t:=λt ht=>zx4 wr sp lZ.symm (by rw[G];omega);have km:∀t,sa+k<=t->t<sb+n2->∃q,sa+k<=q/\q<sb+n2/\K b t=K (arrOf st) q:=λt d f=>by
   have:=mJ b _ _ _ wr (t:=t-(sa+k)) (by omega);rw[G,show sa+k+(t-(sa+k))=t by omega]at this;have hm:=gd.pm.mem_iff.mp (zO6 (show t-(sa+k)<r.toList.length by omega));rcases zL6.mp hm with hm|hm
   ·obtain⟨q,c,j,o⟩:=ext_mem (by omega) hm;exact⟨q,c,by omega,by rw[this];exact o⟩
   ·obtain⟨q,c,j,o⟩:=ext_mem (by omega) hm;exact⟨q,by omega,j,by rw[this];exact o⟩
  refine⟨?_,λt ht=>u t (by omega),λp q d f c=>?_⟩
  ·rw[zY8,wr];refine List.Perm.trans ?_ (List.Perm.of_eq sp.symm);exact zV5 _ (zO7 _ gd.pm)
  ·by_cases L:q<sa+k
   ·rw[u p (by omega),u q (by omega)];exact z p q d f (by omega)
   by_cases V:sb+n2<=p
   ·rw[u p (by omega),u q (by omega)];exact y p q (by omega) f c
   by_cases c3:p<sa+k
   ·rw[u p (by omega)];have g1:∀t,sa+k<=t->t<sb+nb->K (arrOf st) p<=K (arrOf st) t:=λt j o=>by
     by_cases W:t<sb
     ·exact z p t d (by omega) W
     ·exact v p d c3 t (by omega) o
    by_cases c5:sb+n2<=q
    ·rw[u q (by omega)];exact g1 q (by omega) c
    ·obtain⟨t,j,o,O⟩:=km q (by omega) (by omega);rw[O];exact g1 t j (by omega)
   ·by_cases c5:sb+n2<=q
    ·rw[u q (by omega)];obtain⟨t,j,o,O⟩:=km p (by omega) (by omega);rw[O];by_cases W:t<sb
     ·exact l q c5 c t (by omega) W
     ·exact y t q (by omega) (by omega) c
    ·have r1:=mJ b _ _ _ wr (t:=p-(sa+k)) (by omega);have Z:=mJ b _ _ _ wr (t:=q-(sa+k)) (by omega);rw[G,show sa+k+(p-(sa+k))=p by omega]at r1;rw[G,show sa+k+(q-(sa+k))=q by omega]at Z;rw[r1,Z];by_cases c6:p=q
     ·subst c6;exact zR4 _
     ·exact zQ5.mp gd.up _ _ _ _ (by omega)
 split
 ·refine zJ9 (zl2 (n _) ix iy ux uy px py Y q2 λr g gd=>?_);obtain⟨b,T,g1,g2,g3⟩:=fin (st':=st) r g gd;refine zJ9 (zW1 (zJ9 (wpS_get (zK6 ?_))));have:=h b g g1 g2 g3;subst T;have X:(failedOf st).isNone=true:=by rw[hf];rfl
  rw[<-X]at this;exact this
 ·refine zJ9 (zp9 (n _) ix iy ux uy px py Y q2 λr g gd=>?_);obtain⟨b,T,g1,g2,g3⟩:=fin (st':=st) r g gd;refine zJ9 (zW1 (zJ9 (wpS_get (zK6 ?_))));have:=h b g g1 g2 g3;subst T;have X:(failedOf st).isNone=true:=by rw[hf];rfl
  rw[<-X]at this;exact this
end
def wK (xs:Array Keyed)(l u:Nat):Prop:=∀i j,l<=i->i<=j->j<u->K xs j<=K xs i
structure zt (lo:Nat)(xs ys:Array Keyed):Prop where
 perm:xs.Perm ys
 low:∀t,t<lo->K xs t=K ys t
theorem zt.refl (lo:Nat)(xs:Array Keyed):zt lo xs xs:=⟨zT1 _,λ_ _=>rfl⟩
theorem zt.trans {lo:Nat}{xs ys zs:Array Keyed}(h:zt lo xs ys)(g:zt lo ys zs):zt lo xs zs:=⟨h.perm.trans g.perm,λt a=>(h.low t a).trans (g.low t a)⟩
theorem zt.mirror {lo i j:Nat}{xs:Array Keyed}(hi:lo<=i)(a:j<=xs.size):zt lo (PyProof.Rows.mirror xs i j ((j-i) / 2)) xs:=⟨mirror_perm _ _ _ _,λt b=>by rw[K_mirror a,if_neg (by omega)]⟩
theorem yq {xs ys:Array Keyed}(h:IntKeys ys)(a:xs.Perm ys):IntKeys xs:=vA h λp=>(zY8.mp a).mem_iff.mp
theorem zQ.more {xs:Array Keyed}{lo n:Nat}(h:zQ xs lo (lo+n))(f:1<=n)(hn:¬K xs (lo+n)<K xs (lo+n-1)):zQ xs lo (lo+(n+1)):=λi j a d e=>by
 by_cases c:j<lo+n
 ·exact h i j a d c
 ·have:j=lo+n:=by omega
  subst this;by_cases b:i=lo+n
  ·subst b;exact zR4 _
  ·exact zV6 (h i (lo+n-1) a (by omega) (by omega)) (Int.not_lt.mp hn)
theorem wK.more {xs:Array Keyed}{lo n:Nat}(h:wK xs lo (lo+n))(f:1<=n)(hn:K xs (lo+n)<=K xs (lo+n-1)):wK xs lo (lo+(n+1)):=λi j a d e=>by
 by_cases c:j<lo+n
 ·exact h i j a d c
 ·have:j=lo+n:=by omega
  subst this;by_cases b:i=lo+n
  ·subst b;exact zR4 _
  ·exact zV6 hn (h i (lo+n-1) a (by omega) (by omega))
theorem wK.flip {xs:Array Keyed}{lo n:Nat}(h:wK xs lo (lo+n))(hn:lo+n<=xs.size):zQ (PyProof.Rows.mirror xs lo (lo+n) ((lo+n-lo) / 2)) lo (lo+n):=λi j a c b=>by
 rw[K_mirror hn,K_mirror hn,if_pos (by omega),if_pos (by omega)];exact h _ _ (by omega) (by omega) (by omega)
section
variable {prog:Program}{w:World}{A:Around}{E:Value->Shared->Prop}{s:Shared}
theorem ltK {st:SortSt}{i j:Nat}{Q:Option Bool->SortSt->Prop}(hk:kindOf st=oneType')(b:IntKeys (arrOf st))(hi:i<(arrOf st).size)(a:j<(arrOf st).size)
  (h:Q (some (decide (K (arrOf st) i<K (arrOf st) j))) st):wpS (model prog w) A E s (ltAt' i j) Q st:=by
 obtain⟨t,e1⟩:=yo b hi;obtain⟨u,c⟩:=yo b a;have f1:(arrOf st)[i]?=some (.int (K (arrOf st) i) t,(arrOf st)[i].2):=by rw[zN3 (arrOf st) i hi,<-e1]
 have f2:(arrOf st)[j]?=some (.int (K (arrOf st) j) u,(arrOf st)[j].2):=by rw[zN3 (arrOf st) j a,<-c]
 exact wpS_ltAt hk f1 f2 h
theorem uu {st:SortSt}{lo a nrem:Nat}{Q:AscSt->SortSt->Prop}{f:Nat->AscSt->StateT SortSt Sem (ForInStep AscSt)}(hf:∀x n,∃g,f x (none,n)=ltAt' (lo+n) (lo+n-1) >>= g/\g (some true)=pure (.done (none,n))/\g (some false)=pure (.yield (none,n+1)))
  (hk:kindOf st=oneType') (l:IntKeys (arrOf st)) (hn:lo+nrem<=(arrOf st).size) (ha:1<=a) (j:a<=nrem) (k:zQ (arrOf st) lo (lo+a))
  (h:∀n,a<=n->n<=nrem->zQ (arrOf st) lo (lo+n)->(n=nrem\/K (arrOf st) (lo+n)<K (arrOf st) (lo+n-1))->Q (none,n) st):wpS (model prog w) A E s (forIn [a:nrem] ((none,a):AscSt) f) Q st:=by
 refine zP8 (I:=λx c st'=>st'=st/\c=(none,x)/\zQ (arrOf st) lo (lo+x)) ?_ ?_ ⟨rfl,rfl,k⟩
 ·rintro x c st' i m ⟨rfl,rfl,b⟩;obtain⟨g,e,g1,g2⟩:=hf x x;rw[e];refine zJ9 (ltK hk l (by omega) (by omega) ?_);by_cases d:K (arrOf st') (lo+x)<K (arrOf st') (lo+x-1)
  ·rw[zM8 d,g1];exact zK6 (h x i (by omega) b (.inr d))
  ·rw[zM0 d,g2];exact zK6 ⟨rfl,rfl,b.more (by omega) d⟩
 ·rintro c st' ⟨rfl,rfl,b⟩;rw[show max a nrem=nrem by omega]at b ⊢;exact h nrem j (zJ5 _) b (.inl rfl)
theorem hV {β:Type}{c:Prop}[Decidable c]{X Y:StateT SortSt Sem β}{Q:β->SortSt->Prop}{st:SortSt}(R:Array Keyed->Prop)(hr:¬c->R (arrOf st))(key:∀arr,R arr->wpS (model prog w) A E s Y Q (setArr st arr))(a:c->(∀arr,R arr->wpS (model prog w) A E s Y Q (setArr st arr))->wpS (model prog w) A E s X Q st):wpS (model prog w) A E s (if c then X else Y) Q st:=by
 split
 ·rename_i h;exact a h key
 ·rename_i h;exact key _ (hr h)
theorem oV {st:SortSt}{lo nrem:Nat}{Q:Option Nat->SortSt->Prop}(hk:kindOf st=oneType')(L:IntKeys (arrOf st))(V:1<=nrem)(hn:lo+nrem<=(arrOf st).size)
  (h:∀m arr,1<=m->m<=nrem->zt lo arr (arrOf st)->zQ arr lo (lo+m)->Q (some m) (setArr st arr)):wpS (model prog w) A E s (countRun' lo nrem) Q st:=by
 refine zJ9 (uu (λx n=>⟨_,rfl,rfl,rfl⟩) hk L hn (zJ5 1) V (λi j d f u=>by
                                                       have:i=j:=by omega
                                                       subst this;exact zR4 _) λn C F t N=>?_)
 dsimp only;by_cases B:(n == nrem)=true
 ·rw[if_pos B];exact zK6 (h n (arrOf st) C F (zt.refl _ _) t)
 rw[if_neg B];have D:¬n=nrem:=by simpa using B
 have H:=N.resolve_left D;refine hV (λb=>zt lo b (arrOf st)/\wK b lo (lo+(n+1))) (λR=>?_) (λb z=>?_) (λR key=>?_)
 ·have e:n=1:=by omega
  exact⟨zt.refl lo (arrOf st),wK.more (λi j d f u=>by
   have:i=j:=by omega
   subst this;exact zR4 _) (by omega) (zW4 H)⟩
 ·obtain⟨O,S⟩:=z;refine zJ9 (wpS_lift (zR8 ⟨rfl,?_⟩));refine zJ9 (zU3 (zP8 (I:=λx c st'=>∃arr a,st'=setArr st arr/\c=(none,x,a)/\zt lo arr (arrOf st)/\wK arr lo (lo+x)/\a+1<=x/\∀i,lo+x-(a+1)<=i->i<lo+x->K arr i=K arr (lo+x-1))
   (Q:=λc st'=>∃arr m a,st'=setArr st arr/\c=(none,m,a)/\zt lo arr (arrOf st)/\n+1<=m/\m<=nrem/\wK arr lo (lo+m)/\a+1<=m/\∀i,lo+m-(a+1)<=i->i<lo+m->K arr i=K arr (lo+m-1)) ?_ ?_ ⟨b,0,rfl,rfl,O,S,by omega,λi d f=>by congr 1;omega⟩) ?_)
  ·rintro x c st' P W ⟨arr,a,rfl,rfl,v,hd,hq,he⟩;dsimp only;have sz:=v.perm.size_eq;have G:=yq L v.perm;refine zJ9 (ltK (st:=setArr st arr) hk G (show _<arr.size by omega) (show _<arr.size by omega) ?_);by_cases J:K arr (lo+x)<K arr (lo+x-1)
   ·rw[show decide (K (arrOf (setArr st arr)) (lo+x)<K (arrOf (setArr st arr)) (lo+x-1))=true from zM8 J];dsimp only;rw[if_pos rfl];by_cases hz:a > 0
    ·rw[if_pos hz];refine zJ9 (wpS_reverse ?_);have q:=K_mirror_equal (show lo+x<=arr.size by omega) he;refine zK6 ⟨_,0,rfl,rfl,(zt.mirror (by omega) (show lo+x<=arr.size by omega)).trans v,?_,by omega,λi d f=>by congr 1;omega⟩;intro i j d f u;show K (mirror arr _ _ _) j<=K (mirror arr _ _ _) i;rw[q,q];exact hd.more (by omega) (zW4 J) i j d f u
    ·rw[if_neg hz];exact zK6 ⟨_,0,rfl,rfl,v,hd.more (by omega) (zW4 J),by omega,λi d f=>by congr 1;omega⟩
   ·rw[show decide (K (arrOf (setArr st arr)) (lo+x)<K (arrOf (setArr st arr)) (lo+x-1))=false from zM0 J];dsimp only;rw[if_neg (by decide)];refine zJ9 (ltK (st:=setArr st arr) hk G (show _<arr.size by omega) (show _<arr.size by omega) ?_);by_cases hg:K arr (lo+x-1)<K arr (lo+x)
    ·rw[show decide (K (arrOf (setArr st arr)) (lo+x-1)<K (arrOf (setArr st arr)) (lo+x))=true from zM8 hg];exact zK6 ⟨arr,x,a,rfl,rfl,v,P,by omega,hd,hq,he⟩
    ·rw[show decide (K (arrOf (setArr st arr)) (lo+x-1)<K (arrOf (setArr st arr)) (lo+x))=false from zM0 hg];refine zK6 ⟨arr,a+1,rfl,rfl,v,hd.more (by omega) (by omega),by omega,λi d f=>?_⟩;rw[show lo+(x+1)-1=lo+x by omega];by_cases c:i=lo+x
     ·subst c;rfl
     ·rw[he i (by omega) (by omega)];omega
  ·rintro c st' ⟨arr,a,rfl,rfl,v,hd,hq,he⟩;rw[show max (n+1) nrem=nrem by omega]at hd hq he ⊢;exact⟨arr,nrem,a,rfl,rfl,v,by omega,zJ5 _,hd,hq,he⟩
  ·rintro c st' ⟨arr,m,a,rfl,rfl,l,X,T,r,hq,he⟩;dsimp only;have sz:=l.perm.size_eq;refine hV (st:=setArr st arr) (λg=>zt lo g (arrOf st)/\wK g lo (lo+m)) (λ_=>⟨l,r⟩) (λg z=>?_) (λhz key=>?_)
   ·obtain⟨l,r⟩:=z;have U:=l.perm.size_eq;refine zJ9 (wpS_reverse ?_);have y:=(zt.mirror (lo:=lo) (i:=lo) (j:=lo+m) (xs:=g) (zJ5 _) (by omega)).trans l;have M:=y.perm.size_eq;refine zJ9 (uu (st:=setArr st _) (λx n=>⟨_,rfl,rfl,rfl⟩) hk (yq L y.perm) (zK0 hn (zL0 M.symm)) (by omega) T (r.flip (by omega)) λn2 d f u _=>?_);exact zK6 (h n2 _ (by omega) f y u)
   ·refine zJ9 (wpS_reverse ?_);have q:=K_mirror_equal (show lo+m<=arr.size by omega) he;refine key _ ⟨(zt.mirror (lo:=lo) (i:=lo+m-(a+1)) (j:=lo+m) (xs:=arr) (by omega) (by omega)).trans l,λi j d f u=>?_⟩;show K (mirror arr _ _ _) j<=K (mirror arr _ _ _) i;rw[q,q];exact r i j d f u
 ·refine zJ9 (ltK hk L (by omega) (by omega) ?_);by_cases o:K (arrOf st) lo<K (arrOf st) (lo+n-1)
  ·rw[zM8 o];exact zK6 (h n (arrOf st) C F (zt.refl _ _) t)
  ·rw[zM0 o];dsimp only;rw[if_neg (by decide)];have p:∀k,lo<=k->k<lo+n->K (arrOf st) k=K (arrOf st) (lo+n-1):=λk d f=>by
    have a1:=t lo k (by omega) d f;have a2:=t k (lo+n-1) d (by omega) (by omega);omega
   refine zJ9 (wpS_reverse ?_);have q:=K_mirror_equal (show lo+n<=(arrOf st).size by omega) p;refine key _ ⟨zt.mirror (lo:=lo) (i:=lo) (j:=lo+n) (xs:=arrOf st) (zJ5 _) (by omega),wK.more (λi j d f u=>?_) (by omega) ?_⟩
   ·rw[q,q,p i (by omega) (by omega),p j (by omega) (by omega)];exact zR4 _
   ·rw[q,q];exact zW4 H
theorem zt.bubble {lo src d:Nat}{xs:Array Keyed}(a:src<xs.size)(hd:lo+d<=src):zt lo (PyProof.Rows.bubble xs src d) xs:=⟨bubble_perm _ _ _,λt b=>by rw[K_bubble a (by omega),if_neg (by omega),if_neg (by omega)]⟩
theorem rL {st:SortSt}{lo n ok:Nat}{Q:Bool->SortSt->Prop}(hk:kindOf st=oneType')(H:IntKeys (arrOf st))(hn:lo+n<=(arrOf st).size)(hok:ok<=n)(F:zQ (arrOf st) lo (lo+ok))
  (h:∀arr,zt lo arr (arrOf st)->zQ arr lo (lo+n)->Q true (setArr st arr)):wpS (model prog w) A E s (binarySort' lo n ok) Q st:=by
 refine zJ9 (zU3 (zP8 (I:=λk c st'=>c=(none,())/\∃arr,st'=setArr st arr/\zt lo arr (arrOf st)/\zQ arr lo (lo+min k n))
  (Q:=λc st'=>c=(none,())/\∃arr,st'=setArr st arr/\zt lo arr (arrOf st)/\zQ arr lo (lo+n)) ?_ ?_ ⟨rfl,arrOf st,rfl,zt.refl _ _,λi j t u B=>?_⟩) ?_)
 ·rintro k c st' J D ⟨rfl,arr,rfl,m,b⟩;rw[show min k n=k by omega]at b;have sz:=m.perm.size_eq;have y:=yq H m.perm;refine zJ9 (zU3 (zP8 (I:=λx c a=>a=setArr st arr/\∃l r,c=(none,l,r)/\l<=r/\r<=k/\r-l<=k-x/\
    (∀i,lo<=i->i<lo+l->K arr i<=K arr (lo+k))/\(∀i,lo+r<=i->i<lo+k->K arr (lo+k)<K arr i))
   (Q:=λc a=>a=setArr st arr/\∃l r,c=(none,l,r)/\l<=k/\
    (∀i,lo<=i->i<lo+l->K arr i<=K arr (lo+k))/\(∀i,lo+l<=i->i<lo+k->K arr (lo+k)<K arr i)) ?_ ?_ ⟨rfl,0,k,rfl,by omega,by omega,by omega,λi t u=>by omega,λi t u=>by omega⟩) ?_)
  ·rintro x c a _ L ⟨rfl,l,r,rfl,v,g,hm,e,d⟩;dsimp only;by_cases o:l≥r
   ·rw[if_pos o];have:l=r:=by omega
    subst this;exact zK6 ⟨rfl,l,l,rfl,g,e,d⟩
   ·rw[if_neg o];refine zJ9 (ltK (st:=setArr st arr) hk y (show _<arr.size by omega) (show _<arr.size by omega) ?_);by_cases q:K arr (lo+k)<K arr (lo+(l+r) / 2)
    ·rw[show decide (K (arrOf (setArr st arr)) (lo+k)<K (arrOf (setArr st arr)) (lo+(l+r) / 2))=true from zM8 q];exact zK6 ⟨rfl,l,(l+r) / 2,rfl,by omega,by omega,by omega,e,λi p z=>z47 q (b _ _ (by omega) p z)⟩
    ·rw[show decide (K (arrOf (setArr st arr)) (lo+k)<K (arrOf (setArr st arr)) (lo+(l+r) / 2))=false from zM0 q];exact zK6 ⟨rfl,(l+r) / 2+1,r,rfl,by omega,by omega,by omega,λi p z=>zV6 (b i (lo+(l+r) / 2) p (by omega) (by omega)) (Int.not_lt.mp q),d⟩
  ·rintro c a ⟨rfl,l,r,rfl,v,g,hm,e,d⟩;have:l=r:=by omega
   subst this;exact⟨rfl,l,l,rfl,g,e,d⟩
  ·rintro c a ⟨rfl,l,r,rfl,C,e,d⟩;dsimp only;have f:lo+k<arr.size:=by omega
   refine zJ9 (zW1 (zK6 ⟨rfl,bubble arr (lo+k) (lo+k-(lo+l)),rfl,(zt.bubble f (by omega)).trans m,λi j t u B=>?_⟩));rw[show min (k+1) n=k+1 by omega]at B;rw[K_bubble f (by omega),K_bubble f (by omega),show lo+k-(lo+k-(lo+l))=lo+l by omega]
   repeat' split
   all_goals first
    |(exfalso;omega)
    |exact zR4 _
    |exact e _ (by omega) (by omega)
    |exact zW4 (d _ (by omega) (by omega))
    |exact b _ _ (by omega) (by omega) (by omega)
 ·rintro c st' ⟨G,arr,rfl,m,b⟩;rw[show min (max (max ok 1) n) n=n by omega]at b;exact⟨G,arr,rfl,m,b⟩
 ·by_cases p:ok=0
  ·have:i=j:=by omega
   subst this;exact zR4 _
  ·exact F i j t u (by omega)
 ·rintro c st' ⟨rfl,arr,rfl,m,b⟩;exact zK6 (h arr m b)
end
abbrev qS :=Nat×Nat×Nat
def Runs (xs:Array Keyed):List qS->Nat->Nat->Prop
 |[],l,u=>l=u
 |r::L,l,u=>r.1=l/\0<r.2.1/\zQ xs l (l+r.2.1)/\Runs xs L (l+r.2.1) u
theorem Runs.le {xs:Array Keyed}:∀{L:List qS}{l u:Nat},Runs xs L l u->l+L.length<=u
 |[],l,u,h=>zL0 h
 |r::L,l,u,⟨_,h0,_,h⟩=>by
  have:=Runs.le h;simp;omega
theorem wx {xs:Array Keyed}:∀{L R:List qS}{l u:Nat},Runs xs (L++R) l u↔∃m,Runs xs L l m/\Runs xs R m u
 |[],R,l,u=>⟨λh=>⟨l,rfl,h⟩,λ⟨m,e,d⟩=>by cases e;exact d⟩
 |r::L,R,l,u=>⟨λ⟨a,b,c,h⟩=>by
   obtain⟨m,e,d⟩:=wx.mp h;exact⟨m,⟨a,b,c,e⟩,d⟩,λ⟨m,⟨a,b,c,e⟩,d⟩=>⟨a,b,c,wx.mpr ⟨m,e,d⟩⟩⟩
theorem Runs.congr {xs ys:Array Keyed}:∀{L:List qS}{l u:Nat},Runs xs L l u->(∀t,l<=t->t<u->K ys t=K xs t)->Runs ys L l u
 |[],l,u,h,_=>h
 |r::L,l,u,⟨a,b,c,h⟩,e=>by
  have:=Runs.le h;refine⟨a,b,λi j d f g=>?_,Runs.congr h λt d f=>e t (by omega) f⟩;rw[e i d (by omega),e j (by omega) (by omega)];exact c i j d f g
theorem Runs.pow {xs:Array Keyed}{pw:Nat}:∀{L:List qS}{l u:Nat} (k:Nat),Runs xs L l u->Runs xs (L.modify k λr=>(r.1,r.2.1,pw)) l u
 |[],l,u,k,h=>by simpa using h
 |r::L,l,u,0,⟨a,b,c,h⟩=>by simp;exact⟨a,b,c,h⟩
 |r::L,l,u,k+1,⟨a,b,c,h⟩=>by simp;exact⟨a,b,c,Runs.pow k h⟩
theorem Runs.all {xs:Array Keyed}:∀{L:List qS}{u:Nat},Runs xs L 0 u->L.length<=1->zQ xs 0 u
 |[],u,h,_=>λi j _ _ a=>by cases h;omega
 |[r],u,⟨_,_,c,h⟩,_=>by cases h;simpa using c
 |_::_::_,_,_,h=>by simp at h
theorem fb (c:Prop)[Decidable c](a:Nat):(if c then a-1 else a)<=a:=by split<;>omega
theorem merged (P R:List qS)(x y z:qS)(p:Array qS)(h:p.toList=P++x::y::R):((p.setIfInBounds P.length z).eraseIdxIfInBounds (P.length+1)).toList=P++z::R:=by
 have e1:(p.setIfInBounds P.length z).toList=P++z::y::R:=by rw[Array.toList_setIfInBounds,h];simp
 have a:P.length+1<(p.setIfInBounds P.length z).size:=by
  have:=congrArg List.length e1;simp at this ⊢;omega
 rw[Array.eraseIdxIfInBounds,dif_pos a,Array.toList_eraseIdx,e1];rw[List.eraseIdx_append_of_length_le (by omega)];simp
section
variable {prog:Program}{w:World}{A:Around}{E:Value->Shared->Prop}{s:Shared}{a₀:Array Keyed}
theorem sJ {st:SortSt}{i u:Nat}{Q:Bool->SortSt->Prop}(r:IntKeys a₀)(gb:GB a₀ st)(hr:Runs (arrOf st) (pendingOf st).toList 0 u)(z:u<=a₀.size)(hi:i+1<(pendingOf st).size)
  (h:∀st',GB a₀ st'->Runs (arrOf st') (pendingOf st').toList 0 u->(pendingOf st').size+1=(pendingOf st).size->(∀t,u<=t->K (arrOf st') t=K (arrOf st) t)->Q true st'):wpS (model prog w) A E s (mergeAt' i) Q st:=by
 have l:i+1<(pendingOf st).toList.length:=by simpa using hi
 have sp:(pendingOf st).toList=(pendingOf st).toList.take i++(pendingOf st).toList[i]::(pendingOf st).toList[i+1]::(pendingOf st).toList.drop (i+2):=by rw[<-zN6 l,<-zN6 (by omega),zL7]
 rcases hx:(pendingOf st).toList[i]with⟨sa,na,pw⟩;rcases hy:(pendingOf st).toList[i+1]with⟨sb,nb,f⟩;rw[hx,hy]at sp;have e1:(pendingOf st)[i]?=some (sa,na,pw):=by rw[<-zT4,zJ2 (by omega),hx]
 have v:(pendingOf st)[i+1]?=some (sb,nb,f):=by rw[<-zT4,zJ2 l,hy]
 have n:((pendingOf st).toList.take i).length=i:=by rw[zM3];omega
 generalize (pendingOf st).toList.take i=P at sp n;generalize (pendingOf st).toList.drop (i+2)=R at sp;rw[sp]at hr;obtain⟨m,k,⟨f1,c,j,f2,b,o,e⟩⟩:=wx.mp hr;dsimp only at f1 f2 c b j o e;subst f1;have:=Runs.le e;have:=Runs.le k;have sz:=gb.perm.size_eq;refine mP gb.kind gb.failed (yq r gb.perm) e1 v f2.symm c b (by omega) (by rw[f2];exact j) (by rw[f2];exact o) λa g g1 g2 g3=>?_;have d:=merged P R _ _ (sa,na+nb,pw) (pendingOf st) sp;rw[n]at d;refine h _ ⟨g1.trans gb.perm,gb.kind,gb.failed⟩ ?_ ?_ λt B=>g2 t (by omega)
 ·show Runs a (((pendingOf st).setIfInBounds i (sa,na+nb,pw)).eraseIdxIfInBounds (i+1)).toList 0 u;rw[d];refine wx.mpr ⟨sa,k.congr λt x y=>g2 t (by omega),rfl,by show 0<na+nb;omega,?_,?_⟩
  ·show zQ a sa (sa+(na+nb));rw[<-Nat.add_assoc,<-f2];exact g3
  ·show Runs a R (sa+(na+nb)) u;rw[<-Nat.add_assoc];exact e.congr λt x y=>g2 t (by omega)
 ·show(((pendingOf st).setIfInBounds i (sa,na+nb,pw)).eraseIdxIfInBounds (i+1)).size+1=_;have p:=congrArg List.length d;have q:=congrArg List.length sp;simp only[zP9,zM9,zL8]at p q;omega
structure Mid (a₀:Array Keyed)(lo n:Nat)(st:SortSt):Prop where
 gb:GB a₀ st
 rn:Runs (arrOf st) (pendingOf st).toList 0 lo
 so:zQ (arrOf st) lo (lo+n)
theorem Mid.put {lo n:Nat}{st:SortSt}(h:Mid a₀ lo n st)(a:0<n):GB a₀ (setPending st ((pendingOf st).push (lo,n,0)))/\Runs (arrOf st) ((pendingOf st).push (lo,n,0)).toList 0 (lo+n):=by
 refine⟨⟨h.gb.perm,h.gb.kind,h.gb.failed⟩,?_⟩;rw[zV0];exact wx.mpr ⟨lo,h.rn,rfl,a,h.so,rfl⟩
theorem Mid.pow {lo n k pw:Nat}{st:SortSt}(h:Mid a₀ lo n st):Mid a₀ lo n (setPending st ((pendingOf st).modify k λx=>(x.fst,x.2.fst,pw))):=by
 refine⟨⟨h.gb.perm,h.gb.kind,h.gb.failed⟩,?_,h.so⟩;show Runs (arrOf st) ((pendingOf st).modify k _).toList 0 lo;rw[Array.toList_modify];exact h.rn.pow k
theorem zu9 {β:Type}{a:Nat}{X Y:Nat->StateT SortSt Sem β}{Q:β->SortSt->Prop}{st:SortSt}{b:Nat->Prop}(R:Nat->Array Keyed->Prop)(hr:∀n,b n->¬n<a->R n (arrOf st))(key:∀n arr,R n arr->wpS (model prog w) A E s (Y n) Q (setArr st arr))(d:∀n,b n->n<a->(∀n arr,R n arr->wpS (model prog w) A E s (Y n) Q (setArr st arr))->wpS (model prog w) A E s (X n) Q st):∀n,b n->wpS (model prog w) A E s (if n<a then X n else Y n) Q st:=by
 intro n c;split
 ·rename_i h;exact d n c h key
 ·rename_i h;exact key _ _ (hr n c h)
theorem ng {st:SortSt}{Q:Unit->SortSt->Prop}(C:IntKeys a₀)(B:SBase a₀ st)
  (h:∀st',(arrOf st').Perm a₀->failedOf st'=none->SortedTo (arrOf st') a₀.size->Q () st'):wpS (model prog w) A E s sortRuns' Q st:=by
 rw[sortRuns'_eq];refine zJ9 (wpS_get ?_);dsimp only;rw[B.size];generalize N:minRun' a₀.size a₀.size 0=mr;refine zJ9 (zU3 (zP8 (I:=λx c st'=>∃lo,c=(none,lo)/\GB a₀ st'/\Runs (arrOf st') (pendingOf st').toList 0 lo/\lo<=a₀.size/\x<=lo)
  (Q:=λc st'=>c=(none,a₀.size)/\GB a₀ st'/\Runs (arrOf st') (pendingOf st').toList 0 a₀.size) ?_ ?_ ⟨0,rfl,⟨B.perm,B.kind,B.failed⟩,by rw[B.pend];rfl,by omega,by omega⟩) ?_)
 ·rintro x c st' _ O ⟨lo,rfl,gb,hr,R,H⟩;dsimp only;by_cases u:lo≥a₀.size
  ·rw[if_pos u];have:lo=a₀.size:=by omega
   subst this;exact zK6 ⟨rfl,gb,hr⟩
  rw[if_neg u];have sz:=gb.perm.size_eq;refine zJ9 (oV gb.kind (yq C gb.perm) (by omega) (show lo+(a₀.size-lo)<=(arrOf st').size by omega) λm arr m1 m2 J so=>?_);dsimp only;have S:=J.perm.size_eq;have d:GB a₀ (setArr st' arr):=⟨J.perm.trans gb.perm,gb.kind,gb.failed⟩;have p:Runs arr (pendingOf st').toList 0 lo:=hr.congr λt _ l=>J.low t l;have H0:0<m/\m<=a₀.size-lo/\zQ arr lo (lo+m):=⟨m1,m2,so⟩;clear m1 m2 so
  revert m H0
  refine zu9 (st:=setArr st' arr) (λn L=>Mid a₀ lo n (setArr st' L)/\0<n/\n<=a₀.size-lo) ?_ ?_ ?_
  ·rintro m ⟨m1,m2,so⟩ _;exact⟨⟨d,p,so⟩,m1,m2⟩
  ·rintro n L ⟨b,M,nl⟩;refine zJ9 (wpS_get ?_);split
   ·refine zJ9 (zU3 (zP8 (I:=λ_ c a=>c=(none,())/\Mid a₀ lo n a) (Q:=λc a=>c=(none,())/\Mid a₀ lo n a) ?_ ?_ ⟨rfl,b⟩) ?_)
    ·rintro y c a _ _ ⟨rfl,b⟩;refine zJ9 (wpS_get ?_);split
     ·rename_i heq;have T:(pendingOf a).size > 1:=by
       by_cases c:(pendingOf a).size > 1
       ·exact c
       ·have e:(if(pendingOf a).size > 1 then(pendingOf a)[(pendingOf a).size-2]? else none)=none:=if_neg c;exact absurd (e.symm.trans heq) (by simp)
      split
      ·exact zK6 ⟨rfl,b⟩
      ·refine zJ9 (sJ C b.gb b.rn (by omega) (show(pendingOf a).size-2+1<(pendingOf a).size by omega) λF g f _ r=>?_);refine zK6 ⟨rfl,g,f,λi j D l U=>?_⟩;rw[r i D,r j (by omega)];exact b.so i j D l U
     ·exact zK6 ⟨rfl,b⟩
    ·rintro c a q;exact q
    ·rintro c a ⟨rfl,b⟩;dsimp only;refine zJ9 (zW1 (zJ9 (zW1 (zK6 ?_))));have:=λpw=>(b.pow (k:=(pendingOf a).size-1) (pw:=pw)).put M;exact⟨_,rfl,(this _).1,(this _).2,by omega,by omega⟩
   ·refine zJ9 (zW1 (zK6 ?_));have:=b.put M;exact⟨_,rfl,this.1,this.2,by omega,by omega⟩
  ·rintro m ⟨m1,m2,so⟩ V key;refine zJ9 (wpS_lift (zR8 ⟨rfl,?_⟩));refine zJ9 (rL (st:=setArr st' arr) d.kind (yq C d.perm) (show lo+min (a₀.size-lo) mr<=arr.size by omega) (by omega) so λv z K=>?_);rw[if_neg (by decide)];exact key _ v ⟨⟨⟨z.perm.trans d.perm,gb.kind,gb.failed⟩,p.congr λt _ l=>z.low t l,K⟩,by omega,by omega⟩
 ·rintro c st' ⟨lo,rfl,gb,hr,R,H⟩;have:lo=a₀.size:=by omega
  subst this;exact⟨rfl,gb,hr⟩
 ·rintro c st' ⟨rfl,gb,hr⟩;dsimp only;refine zJ9 (zU3 (zP8 (I:=λx c st'=>c=(none,())/\GB a₀ st'/\Runs (arrOf st') (pendingOf st').toList 0 a₀.size/\(pendingOf st').size<=a₀.size-x)
   (Q:=λc st'=>c=(none,())/\GB a₀ st'/\Runs (arrOf st') (pendingOf st').toList 0 a₀.size/\(pendingOf st').size<=1) ?_ ?_ ⟨rfl,gb,hr,by have:=hr.le;simpa using this⟩) ?_)
  ·rintro x c st' _ O ⟨rfl,gb,hr,o⟩;refine zJ9 (wpS_get ?_);by_cases G:(pendingOf st').size<=1
   ·rw[if_pos G];exact zK6 ⟨rfl,gb,hr,G⟩
   ·rw[if_neg G];refine zJ9 (sJ C gb hr (zJ5 _) ?_ λF g f P _=>?_)
    ·exact zL4 (Nat.succ_le_succ (fb _ _)) (show(pendingOf st').size-2+1<(pendingOf st').size by omega)
    ·exact zK6 ⟨rfl,g,f,by omega⟩
  ·rintro c st' ⟨rfl,gb,hr,o⟩;exact⟨rfl,gb,hr,by omega⟩
  ·rintro c st' ⟨rfl,gb,hr,o⟩;dsimp only;exact zK6 (h st' gb.perm gb.failed λi j D l=>hr.all (by simpa using o) i j (zK7 _) D l)
end
open PyProof
section
variable {prog:Program}{w:World}{A:Around}{E:Value->Shared->Prop}{s:Shared}
theorem tree_ok {a:Addr}{vs:List Value}{ns:List Int}{n:Nat}{P:Fin->Shared->Prop}(g:s.heap.get? a=some (seqObj "list" vs.toArray n))(l:IntsAre vs ns)(u:vs.length<=1000)
  (h:∀(out:Array Value) (d:List Int),IntsAre out.toList d->d.Perm ns->d.Pairwise (·<=·)->P (.done (.ret .none)) {s with heap:=sortedHeap s.heap a vs out}):wpAny (model prog w) A (Builtin.«list.sort» ⟨[.ref a],[]⟩) P E s:=by
 by_cases k:vs.length<64
 ·exact list_sort_tree g l k h
 have ha:a<s.heap.objs.size:=zK3 g;obtain⟨e1,f⟩:∃e1,(s.heap.update a (Obj.mapSeq λ_=>#[])).get? a=some (seqObj "list" #[] e1):=⟨_,zU0 g (λ_=>#[])⟩;have i:(((s.heap.update a (Obj.mapSeq λ_=>#[])).push (seqObj "tuple" vs.toArray 0)).push (seqObj "list" #[] 0)).get? a=some (seqObj "list" #[] e1):=by
  have n1:a≠(s.heap.update a (Obj.mapSeq λ_=>#[])).objs.size:=by rw[z31];exact zK9 ha
  have n2:a≠((s.heap.update a (Obj.mapSeq λ_=>#[])).push (seqObj "tuple" vs.toArray 0)).objs.size:=by rw[size_push',z31];exact zK9 (zR6 ha)
  rw[z22 _ _ _ n2,z22 _ _ _ n1,f]
 have j:¬vs.toArray.size<2:=by simp;omega
 obtain⟨c,b,rest,rfl⟩:∃c b rest,vs=c::b::rest:=by
  match vs,k with
  |c::b::rest,_=>exact⟨c,b,rest,rfl⟩
  |[],h=>simp at h
  |[_],h=>simp at h
 rw[list_sort_plain];have v:(c::b::rest).toArray.size<=sizeLine:=by rw[zP6,zK4];omega
 refine zI9 (listItems_at g rfl ?_);refine zI9 (zY9 g rfl ?_);refine zI9 (seqEpoch_at f rfl ?_);refine zI9 (z05 ?_);refine zI9 (wpAny_newList ?_);refine zO9 ?_;dsimp only;rw[if_neg j,if_neg j,keyKind_ints l];refine zI9 (zJ1 (zI9 (zO8 (ng (a₀:=pairsOf (c::b::rest)) (Q:=λ_ st'=>(arrOf st').Perm (pairsOf (c::b::rest))/\failedOf st'=none/\SortedTo (arrOf st') (pairsOf (c::b::rest)).size)
  l.intKeys ⟨zT1 _,rfl,rfl,rfl⟩ λst' a1 a2 q=>⟨a1,a2,q⟩) ?_ λ_ _ e=>e)))
 rintro⟨⟨⟩,st'⟩ s' ⟨rfl,m,hf,p⟩;obtain⟨d,o,t,r⟩:=sorted_out l m p;refine zI9 (seqEpoch_at i rfl (zI9 (zY9 i rfl ?_ (hsz2:=by refine zK0 (zL0 ((Array.size_map ..).trans (m.size_eq.trans (pairsOf_size _)))) ?_;rw[zP6];omega))));rw[hf];simp only[bne_self_eq_false,zT5,zY3];exact zJ1 (h _ d o t r)
end
end Tim
namespace SetW
open PySem PyProof.Rows
section
variable {prog:Program}{w:World}{A:Around}{E:Value->Shared->Prop}{s:Shared}{a:Addr}{ep:Nat}{o:Obj}{es:Array (Int×Value)}{S:Int->Bool}{m:Nat}{t:SetTable}
theorem ni {F:List Int}{Q:Value->Shared->Prop}(C:A.handled=none)(i:s.heap.get? a=some o)(x:WkO prog w o S m (yN w) es ep t)(hF:F.Nodup)(y:∀k,S k=F.any (· == k))(hm:m=F.length)(H:F.length<=1000)
  (h:∀(h':Heap) d (tk:Nat) (L:Addr) (out:Array Value) (c:Nat) (ns:List Int),s.heap.objs.size<=L->(∀c u,s.heap.get? c=some u->h'.get? c=some u)->h'.get? L=some (seqObj "list" out c)->IntsAre out.toList ns->ns.Perm F->ns.Pairwise (·<=·)->Q (.ref L) {s with heap:=h',drawn:=d,toks:=tk}):
  wpAny (model prog w) A (call (.builtin "sorted") [.ref a]) Q E s:=by
 obtain⟨ms,im,r⟩:=jh (prog:=prog) (w:=w) es.toList x.el.keys;have lm:ms.length=es.size:=by have:=IntsAre.length im;simp at this;omega
 have l:ms.Perm F:=oy hF (λk hk=>(r k).mpr ((x.mem k).mp (by rw[y];exact List.any_eq_true.mpr ⟨k,hk,by simp⟩))) (by rw[lm,x.sz,hm]);refine Calls.call_function_entry kind_sorted plain_sorted entry_sorted (args_sorted1 _) ?_;unfold Builtin.«sorted»;refine zI9 (m:=checkCount "sorted" 1 1 _) (zJ1 ?_);refine zI9 (oY (by simp[C]) i x λg d tk ord sz z po=>?_);obtain⟨q,p,D⟩:=jE po im;have G:ord.length<=1000:=by
  have:=po.length_eq;have:=l.length_eq;simp at *;omega
 refine zI9 (wpAny_newList ?_);have b:(g.push (seqObj "list" ord.toArray 0)).get? g.objs.size=some (seqObj "list" ord.toArray 0):=zK2 _ rfl;refine zI9 (zO9 (zP7 slot_list_sort ⟨_,b,rfl⟩ entry_list_sort (Tim.tree_ok b p G λout j a1 a2 B=>⟨_,rfl,?_⟩) (args_list_sort _)));obtain⟨e,he⟩:=sortedHeap_at (out:=out) b;refine zJ1 ⟨_,rfl,h _ d tk g.objs.size out e j (zN5 sz) (λc u v=>?_) he a1 (a2.trans (D.trans l)) B⟩;have n:=z c u v;have f:=zK3 n;rw[sortedHeap_old (zK9 f) (by rw[size_push'];exact zR6 f)];exact zJ0 _ n
end
end SetW
namespace L2
open PySem PySem.Spec PyProof.Rows SetW
section
variable {X:Cx}{α:Ev}{e:Expr}{pos p p2 pos2:Pos}
theorem rM (j:X.calm=true):xm X (.builtin "sorted") (λxs H Q=>∃(l:Addr) (o:Obj) (u:HO) (zs:List Int),xs=[.ref l]/\H l=some (.frz o u)/\SW X.prog X.w o zs/\zs.length<=1000/\∀(b:Addr) (ys:List Int),H b=none->ys.Perm (vg zs)->ys.Pairwise (·<=·)->Q (.ref b) (upd H b (.lst (ys.map V.int)))):=by
 intro pins s σ H xs us Q I r h;obtain⟨l,o,u,zs,rfl,k,⟨es,ep,t,x⟩,y,q⟩:=h;obtain⟨v,rfl,f⟩:=vals1 r;cases f;have m:s.heap.get? l=some o:=(show s.heap.get? l=some o/\_ from I.hok l _ k).1;have lm:(vg zs).length<=zs.length:=firstMet_length_le _ _;refine ni (F:=vg zs) (I.ok.hd j) m x (wX _ _) (λ_=>rfl) rfl (by omega) λh' d tk L out c ns sz kp g a1 a2 n=>?_;have i:=I.laid (a:=L) (o:=.lst (ns.map V.int)) (t':=tk) kp sz ⟨by rw[zJ3,a2.length_eq,zP6];omega,out.toList,c,pI a1,by simpa using g⟩;exact⟨.ref L,_,i.drw d,rfl,q _ ns (I.hok.fresh sz) a2 n⟩
theorem oO {Q:List PyData->Prop}(s:X.calm=true)(i:Gl X "sorted")(g:X.mg "sorted"=none)(hg:Gl X "set")(hm:X.mg "set"=none)(h:EvD X α e λx=>∃zs:List Int,x=.list (zs.map .int)/\zs.length<1000/\∀ys:List Int,(∀k,k∈ys↔k∈zs)->ys.Pairwise (·<·)->ys.length<=zs.length->Q (ys.map .int))
  (he:starEach [e] X.env=(false,eval e X.env)::starEach [] X.env:=by rfl) (c:starEach [.Call (.Name "set" p) [e] [] pos] X.env=(false,eval (.Call (.Name "set" p) [e] [] pos) X.env)::starEach [] X.env:=by rfl):
  EvL X α (.Call (.Name "sorted" p2) [.Call (.Name "set" p) [e] [] pos] [] pos2) Q:=λF σ H R m k=>by
 refine⟨_,tX (rM s) i g boot_sorted (zB (wO (jn s) hg hm PyProof.Rows.boot_set (zB zh ye he) (he:=he)) ye c) (he:=c),?_⟩;refine h F σ H _ m λx I H1 A t1 t C=>?_;obtain⟨zs,rfl,G,q⟩:=A;have m1:=m.kz t t1;obtain⟨l,xs,rfl,B,E⟩:=C.lst_inv;have v:=(zi B).2;rw[E.intsV]at v;refine⟨l,zs,rfl,v,by omega,λu o d sw=>?_⟩;have w:=t1.same (zL (o:=.frz o (.set (λk=>(vg zs).any (· == k)) (vg zs).length)) d);have n:=t.trans (Kz.of_same (F:=F) (zL (o:=.frz o (.set (λk=>(vg zs).any (· == k)) (vg zs).length)) d));have m2:=m.kz n w;refine⟨u,o,_,zs,rfl,zl,sw,by omega,λl2 ys f pm pw=>?_⟩;have r:ys.length<=zs.length:=by rw[pm.length_eq];exact firstMet_length_le _ _
 have nd:ys.Nodup:=pm.nodup_iff.mpr (wX _ _);have pl:ys.Pairwise (·<·):=by
  have:=pw.and nd;exact this.imp λ{a b} z=>by omega
 have av:AVs (Gz F α σ (upd H1 u (.frz o (.set (λk=>(vg zs).any (· == k)) (vg zs).length)))) (ys.map V.int) (ys.map .int):=by
  clear pm pw nd pl r
  induction ys with
  |nil=>exact .nil
  |cons y ys D=>exact .cons (.int y) D
 obtain⟨g1,g2,g3⟩:=m2.lay f av;exact k _ _ _ (q ys (λj=>pm.mem_iff.trans zb1) pl r) g1 (n.trans g2) (g3.back m n w)
end
section
variable {X:Cx}{α:Ev}{a b:Expr}{pos:Pos}
end
section
variable {X:Cx}{α:Ev}{e:Expr}{kk:Nat}{p pos:Pos}{rest:List Stmt}{E:yk}
theorem zB7 {F:Fr}{σ:St}{H:Hp}{i:Nat}{c c':PyData}{l:Addr}{o':HO}(hi:α[i]?=some (some (.ow c)))(k:σ[i]?=some (some (.ref l))):zt (Gz F α σ H) (Gz F (α.set i (some (.ow c'))) σ (upd H l o')):=by
 have n:∀{j:Nat} {a:A} {s:Option V},(α.set i (some (.ow c')))[j]?=some (some a)->σ[j]?=some s->(i=j/\a=.ow c'/\s=some (.ref l))\/(i≠j/\α[j]?=some (some a)):=λ{j a s} e1 d=>by
  rcases zN e1 with⟨rfl,z⟩|⟨m,b⟩
  ·cases z;rw[k]at d;cases d;exact .inl ⟨rfl,rfl,rfl⟩
  ·exact .inr ⟨m,b⟩
 have g:∀{y:Addr},Ow F (α.set i (some (.ow c'))) σ y->Ow F α σ y:=λ{y} h=>by
  rcases h with z|⟨j,a,s,e1,d,f⟩
  ·exact .inl z
  ·rcases n e1 d with⟨rfl,rfl,rfl⟩|⟨m,b⟩
   ·exact .inr ⟨i,_,_,hi,k,f⟩
   ·exact .inr ⟨j,a,s,b,d,f⟩
 have ol:Ow F α σ l:=.inr ⟨i,_,_,hi,k,rfl⟩;exact zr λa o h e=>⟨λz=>h (g z),by rw[zg (λz=>h (by rw[z];exact ol))];exact e⟩
theorem bQ (i:Nat){x:Str}{f c:Expr}{ds:List PyData}{p1 p2 p3 p4:Pos}(hi:α[i]?=some (some (.own ds)))(hc:X.calm=true)
  (h:EvD X α e λd=>∃a b,d=.tuple [a,b]/\EvD X α f λy=>∃k j,y=.int k/\ixN ds.length k=some j/\EvD X (α.set i (some (.own (ds.set j a)))) c λU=>∃n t,U=.int n/\ixN ds.length n=some t/\SvS X (α.set i (some (.own ((ds.set j a).set t b)))) rest E)
  (hN:X.N[i]?=some x:=by rfl) (hv:Vis X.env.scope x:=by first|exact Or.inl rfl|exact Or.inr (Or.inl rfl)|exact Or.inr (Or.inr rfl))
  (Z:swapsWithSole [.Tuple [.Subscript (.Name x p1) f p2,.Subscript (.Name x p3) c p4] kk p] e pos.line X.env=pure false:=by rfl) (hw:swappedStores [.Tuple [.Subscript (.Name x p1) f p2,.Subscript (.Name x p3) c p4] kk p] e X.env=pure none:=by rfl)
  (ha:(assignEach [.Tuple [.Subscript (.Name x p1) f p2,.Subscript (.Name x p3) c p4] kk p] X.env).map (·.2)=[assign (.Tuple [.Subscript (.Name x p1) f p2,.Subscript (.Name x p3) c p4] kk p) X.env]:=by rfl)
  (Q:PGs X [.Subscript (.Name x p1) f p2,.Subscript (.Name x p3) c p4] (qt (bY (gE i) (uh X f) lM) (qt (bY (gE i) (uh X c) lM) zc8)):=by exact zT (sP (yt rfl (by first|exact Or.inl rfl|exact Or.inr (Or.inl rfl)|exact Or.inr (Or.inr rfl))) zh set_list) (zT (sP (yt rfl (by first|exact Or.inl rfl|exact Or.inr (Or.inl rfl)|exact Or.inr (Or.inr rfl))) zh set_list) xT))
  (hn:(assignEach [.Subscript (.Name x p1) f p2,.Subscript (.Name x p3) c p4] X.env).length=2:=by rfl) (B:(assignEach [.Subscript (.Name x p1) f p2,.Subscript (.Name x p3) c p4] X.env).findIdx? (·.1)=none:=by rfl):
  SvS X α (.Assign [.Tuple [.Subscript (.Name x p1) f p2,.Subscript (.Name x p3) c p4] kk p] e pos::rest) E:=λF σ H D m r=>by
 obtain⟨l,xs,o,h2,P,V,h5⟩:=m.own i ds hi;refine⟨_,zy (sv zh (dE hc Q hn B) Z hw ha) zI,?_⟩;refine h F σ H _ m λd v H1 A t1 L r1=>?_;obtain⟨a,b,rfl,A⟩:=A;obtain⟨ad,vs,rfl,g1,g2⟩:=r1.tup_inv;obtain⟨g,s,rfl,S,M⟩:∃g s,vs=[g,s]/\AV _ g a/\AV _ s b:=by
  cases g2 with
  |cons S g2=>cases g2 with
   |cons M g2=>cases g2;exact⟨_,_,rfl,S,M⟩
 have m1:=m.kz L t1;refine⟨ad,[g,s],rfl,SqT.of (zi g1).2,rfl,g,[s],rfl,?_⟩;refine⟨.ref l,o,?_⟩;refine A F σ H1 _ m1 λy vy H2 G t2 n Y=>?_;have m2:=m1.kz n t2;obtain⟨k,j,rfl,hj,G⟩:=G;cases Y.int_inv;have T:=(P.same (L.gz m.tp)).same (n.gz m1.tp);have C:=S.same (n.gz m1.tp);have m3:=m2.wrOwn hi o (T.set C j);refine⟨l,xs,k,j,rfl,rfl,n _ _ (L _ _ h2 (m.tp.nt V)) (m.tp.nt V),by rw[P.length];exact hj,s,[],rfl,?_⟩;have lt:i<α.length:=by
  rcases zO5 i α.length with z|z
  ·exact z
  ·rw[zT6 z]at hi;cases hi
 have u:(α.set i (some (.own (ds.set j a))))[i]?=some (some (.own (ds.set j a))):=zR3 lt;obtain⟨l',R,e1,O,e3,e4,e5⟩:=m3.own i _ u;rw[o]at e1;cases e1;have hl:(xs.set j g).length=ds.length:=by rw[zO4,P.length]
 refine⟨.ref l,o,?_⟩;refine G F σ _ _ m3 λU W H3 q3 t3 w r3=>?_;have m4:=m3.kz w t3;obtain⟨J,t,rfl,I,q⟩:=q3;cases r3.int_inv;have ex:R=xs.set j g:=by
  rw[zl]at O;exact(HO.lst.inj (zN2 O)).symm
 subst ex;refine⟨l,xs.set j g,J,t,rfl,rfl,w _ _ O (m3.tp.nt e4),by rw[hl];exact I,rfl,?_⟩;have K:=((M.same (n.gz m1.tp)).same (zB7 (F:=F) (H:=H2) (c':=.list (ds.set j a)) (o':=.lst (xs.set j g)) hi o)).same (w.gz m3.tp);have m5:=m4.wrOwn u o ((e3.same (w.gz m3.tp)).set K t);rw[List.set_set]at m5;exact q F σ _ D m5 r
end
theorem zS.o {N P:List Str}{sc:Scope}(g:sc.kind=.function:=by rfl)(c:sc.isCoroutine=false:=by rfl)(a:sc.isGenerator=false:=by rfl)(f:N.Nodup:=by decide +kernel)(e:N.take P.length=P:=by rfl)(d:∀x∈P,sc.names.lookup x=some .local\/sc.names.lookup x=some .cell:=by decide +kernel)(b:∀y∈sc.names,y.2≠.free:=by decide +kernel):zS N P sc:=⟨g,c,a,f,e,d,b⟩
abbrev Ph :=List A->(A->Prop)->Prop
section
variable {P:Program}{w:World}{K:PySem.W.Frag}{mg:Str->Option Value}{base:Heap}
def FnD (K:PySem.W.Frag)(mg:Str->Option Value)(x:Str)(st:Stmt)(ps:List Str):Prop:=∃f fd,Fun K x x st f fd/\mg x=some (.ref f)/\Binds K fd ps []
theorem yn {x:Str}{st:Stmt}{ps:List Str}{k:Nat}{φ:List A->(A->Prop)->Prop}(N:List Str)(G:FnD K mg x st ps)
  (a:∀(f:Addr) (cdv:Value) (b:Around) (outer:List Env) (s:Shared) (H:Hp) (E:XK) (as:List A) (Q:A->Prop),N.Nodup->zK k (b.deeper (envOfC x (zf st) s.heap.objs.size f cdv))->φ as Q->
   SvS (wo CX0 P w K mg base N x (zf st) f cdv b outer s H E).nox (as.map some++List.replicate (N.length-as.length) none) (zv st) {nx:=λ_=>Q (.dat .none),rt:=Q})
  (S:zS N ps (zf st):=by exact .o) (hlen:∀as Q,φ as Q->as.length=ps.length:=by intro _ _ h;repeat first|(obtain⟨rfl,_⟩:=h;rfl)|obtain⟨_,h⟩:=h):Cal P w K mg base x (k+1) φ:=by
 obtain⟨f,fd,F,hm,hb⟩:=G;exact zH0 F hm hb S hlen λcdv b outer s H E as Q hr h=>a f cdv b outer s H E as Q S.nd hr h
theorem oM {C f:Addr}{fd:FuncData}{m d:Str}{st:Stmt}{ps:List Str}{k:Nat}{φ:List A->(A->Prop)->Prop}(N:List Str)(c:Cls K C)(e:Meth K C m f)(F:Fun K m d st f fd)(hb:Binds K fd ps [])
  (a:∀(cdv:Value) (b:Around) (outer:List Env) (s:Shared) (H:Hp) (E:XK) (as:List A) (Q:A->Prop),N.Nodup->zK k (b.deeper (envOfC d (zf st) s.heap.objs.size f cdv))->φ as Q->
   SvS (wo CX0 P w K mg base N d (zf st) f cdv b outer s H E).nox (as.map some++List.replicate (N.length-as.length) none) (zv st) {nx:=λ_=>Q (.dat .none),rt:=Q})
  (S:zS N ps (zf st):=by exact .o) (hlen:∀as Q,φ as Q->as.length=ps.length:=by intro _ _ h;repeat first|(obtain⟨rfl,_⟩:=h;rfl)|obtain⟨_,h⟩:=h):xv P w K mg base C m (k+1) φ:=
 ⟨f,fd,ps,c,e,hb,fnA F S hlen λcdv b outer s H E as Q hr h=>a cdv b outer s H E as Q S.nd hr h⟩
end
end L2
set_option maxHeartbeats 4000000
namespace K69
open PySem PySem.Spec PyProof.Rows L2
def top (i:Nat):Stmt:=PySem.Challenge.pw_stayprice_k69_whole_alike_for_every_stay.main.body.getD i (.Pass ⟨0,0,0,0⟩)
abbrev cG :Stmt:=top 56
abbrev gp :Stmt:=top 55
def kL :Ph:=λas Q=>∃c:Int,as=[.dat (.int c)]/\∀x y:Int,0<=y->y<4294967296->Q (.own [.int x,.int y])
section
variable {P:Program}{w:World}{K:PySem.W.Frag}{mg:Str->Option Value}{base:Heap}
theorem mI :zS ["_law_row","_law_base","_law_found","_law_number"] ["_law_row","_law_base"] (zf cG):=.o
theorem ai {f:Addr}{fd:FuncData}(F:Fun K "_law_take" "_law_take" cG f fd):yD P w K mg base CX0 1 f fd ["_law_row","_law_base"] dR:=by
 refine F.ok mI (λvs H Q E h=>?_) (λcdv A outer s H vs Q E hr h=>?_)
 ·obtain⟨t,b,c,many,rfl,_⟩:=h;rfl
 ·obtain⟨t,b,c,many,rfl,⟨n,bs,cs,⟨v,B⟩,g,hb,G,⟨x,y,rfl,C,D⟩,hn⟩,d,o,k⟩:=h;rw[v,B]at k;have l:many.natAbs.log2<9000:=log2_small d o;have g:H t=some (.lst [.int x,.int y]):=g;refine tH (λσ q=>σ=[some (.ref t),some (.int many),none,none]/\H=q)
   ⟨_,zc9 (kn zj0 (vm yV (pv 0) zX (λ_ _=>rfl)) zX (yw _))
    (zy (pD (i:=2) mI.nd rfl (Or.inl rfl) (yU sS (vm yV (pv 0) zX (λ_ _=>rfl)) (pv 1)))
    (zy (sv (yU sQ (vm yV (pv 0) zX (λ_ _=>rfl)) (pv 1)) (sP (pv 0) zX set_list))
    (tm (sq (pv 2))))) lL,?_⟩ ?_
  ·refine⟨_,rfl,t,_,0,_,rfl,rfl,SqL.of g,rfl,_,_,rfl,rfl,_,rfl,?_⟩;refine zH3 (λ_=>?_) (λ_=>⟨rfl,rfl⟩);refine⟨_,rfl,t,_,0,_,rfl,rfl,SqL.of g,rfl,_,rfl,_,_,rfl,rfl,d,?_⟩;refine⟨_,rfl,t,_,0,_,rfl,rfl,SqL.of g,rfl,_,rfl,_,_,rfl,rfl,⟨d,l⟩,?_⟩;refine⟨_,rfl,t,_,0,0,rfl,rfl,g,rfl,_,rfl,?_⟩;refine k _ _ (z42 _ (Int.ne_of_gt d)) (z03 _ d) ⟨0,[x / many,y],[x / many,y],⟨rfl,rfl⟩,zl,zl,zl,⟨_,_,rfl,C,D⟩,rfl⟩ λa m J=>by rw[zg m]
  rintro σ q ⟨rfl,rfl⟩;refine tH (λσ H1=>∃z:Int,0<=z/\z<2147483647/\σ=[some (.ref t),some (.int many),none,none]/\H1=upd H t (.lst [.int x,.int z]))
   ⟨_,sv (yU sS (yU qP (yU qE (vm yV (pv 0) zX (λ_ _=>rfl)) zX) zX) zX) (sP (pv 0) zX set_list),?_⟩ ?_
  ·refine⟨_,rfl,t,_,1,_,rfl,rfl,SqL.of g,rfl,_,_,rfl,rfl,.inl ⟨by omega,by omega⟩,_,_,rfl,rfl,_,_,rfl,rfl,(by show(0:Int)<2147483647;decide),?_⟩;exact⟨_,rfl,t,_,1,1,rfl,rfl,g,rfl,_,z42 _ (by decide),z03 _ (by decide),rfl,rfl⟩
  rintro σ H1 ⟨z,r,I,rfl,j⟩;have e:H1 t=some (.lst [.int x,.int z]):=by rw[j];exact zl
  have off:zp1 t t H H1:=λa m _=>by rw[j,zg m]
  clear j;refine tH (λσ p=>∃u:Int,σ=[some (.ref t),some (.int many),none,some (.int u)]/\H1=p)
   ⟨_,pD (i:=3) mI.nd rfl (Or.inl rfl) (yU sS (yU qP (yU qP (yU qE (vm yV (pv 0) zX (λ_ _=>rfl)) (vm yV (pv 0) zX (λ_ _=>rfl))) (yU qE zX (vm yV (pv 0) zX (λ_ _=>rfl)))) zX) zX),?_⟩ ?_
  ·exact⟨_,rfl,t,_,1,_,rfl,rfl,SqL.of e,rfl,_,rfl,t,_,1,_,rfl,rfl,SqL.of e,rfl,_,_,rfl,rfl,.inl ⟨by omega,by omega⟩,_,rfl,t,_,1,_,rfl,rfl,SqL.of e,rfl,_,_,rfl,rfl,.inl ⟨by decide,by decide⟩,_,_,rfl,rfl,_,_,rfl,rfl,_,_,rfl,rfl,(by show(0:Int)<2147483629;decide),_,rfl,rfl⟩
  rintro σ p ⟨u,rfl,rfl⟩;refine⟨_,tm (sq (yU sS (yU sQ (pv 3) zX) (pv 1))),?_⟩;refine⟨_,rfl,_,_,rfl,rfl,⟨by decide,by decide +kernel⟩,_,rfl,_,_,rfl,rfl,d,?_⟩;exact k _ _ (z42 _ (Int.ne_of_gt d)) (z03 _ d) ⟨0,[x,z],[x,z],⟨rfl,rfl⟩,e,e,e,⟨_,_,rfl,r,by omega⟩,rfl⟩ off
theorem gu {f:Addr}{fd:FuncData}(hm:mg "_law_take"=some (.ref f))(hk:PySem.W.keepIn K (.ref f)=true)(hb:Binds K fd ["_law_row","_law_base"] [])(G:yD P w K mg base CX0 1 f fd ["_law_row","_law_base"] dR):Cal P w K mg base "_law_take" 1 xf:=by
 refine⟨f,fd,_,hm,hk,hb,G.imp λvs H Q E h=>?_⟩;obtain⟨F,as,Q',rfl,t,o,i,⟨n,rfl,h0,j,hq⟩,k⟩:=h;cases i with
 |cons a1 r=>
  obtain⟨a,b,c,e,rfl⟩:=a1;obtain⟨v,rfl,av⟩:=r.one;cases av.int_inv;refine⟨a,b,c,n,rfl,(t a b c e).1,h0,j,λz H' g m TA off=>k _ _ _ (hq z g m) ⟨⟨(by
   obtain⟨_,_,_,_,e1,l,_⟩:=(t a b c e).1.ex;exact bU t.tab e1 l off),t.ot,λt' p c' d=>?_⟩,λy u hy n=>?_,.int z⟩⟩
  ·rw[e]at d;cases d;exact⟨TA,(t a b c e).2⟩
  ·rw[off y (n.1 _ _ _ e).1 (n.1 _ _ _ e).2];exact hy
theorem iY (F:FnD K mg "_law_begin" gp ["_law_cell"]):Cal P w K mg base "_law_begin" 1 kL:=by
 refine yn ["_law_cell"] F λ_ _ _ _ _ _ _ _ Q nd hr h=>?_;obtain⟨c,rfl,q⟩:=h;refine xi (zd5 (zb 0 rfl (um (r:=1000000000000000000) ⟨by decide,by decide,by decide⟩ (by decide) ⟨_,_,rfl,rfl,?_⟩)));refine gO (λ_=>?_) (λ_=>zx ?_)
 ·exact wW (xZ (zk (pC (zb 0 rfl (um (r:=1000000000000000000) ⟨by decide,by decide,by decide⟩ (by decide) ⟨_,_,rfl,rfl,zk (zM (zu ⟨_,rfl,zN8 rfl,q _ _ (by decide) (by decide)⟩))⟩)))))
 ·refine wW (xZ (zk (zM (zk (si (fh (zb 0 rfl (zM ⟨_,_,rfl,rfl,by decide,zM ⟨_,_,rfl,rfl,zu ⟨_,rfl,zN8 rfl,?_⟩⟩⟩))))))));have b:=z42 c (show(2147483629:Int)≠0 by decide);have a:=z03 c (show(0:Int)<2147483629 by decide);exact q _ _ (by omega) (by omega)
end
end K69
set_option compiler.extract_closed false
set_option hygiene false in
local macro_rules
 |`(tactic| exists $f,$a)=>`(tactic| first|refine $f 0 $a ?_|refine $f 1 $a ?_|refine $f 2 $a ?_|refine $f 3 $a ?_|refine $f 4 $a ?_|refine $f 5 $a ?_|refine $f 6 $a ?_|refine $f 7 $a ?_|refine $f 8 $a ?_|refine $f 9 $a ?_|refine $f 10 $a ?_|refine $f 11 $a ?_|refine $f 12 $a ?_|refine $f 13 $a ?_|refine $f 14 $a ?_|refine $f 15 $a ?_|refine $f 16 $a ?_|refine $f 17 $a ?_)
 |`(tactic| exists $f)=>`(tactic| with_reducible refine $f ?_)
 |`(tactic| specialize $p)=>`(tactic| with_reducible show $p)
set_option hygiene false in
local macro_rules
 |`(tactic| and_intros)=>`(tactic| repeat (first
  |((specialize EvD _ _ _ _);first
   |((specialize EvD _ _ (.Name _ _) _);exists zb,rfl)
   |((specialize EvD _ _ (.Constant _ _ _) _);first|exists zM|exists vv|exists gh|exists nR)
   |((specialize EvD _ _ (.BinOp (.Constant (.int 10) _ _) .Pow (.Constant (.int 6) _ _) _) _);refine um (r:=1000000) ⟨by decide,by decide,by decide⟩ (by decide) ?_)
   |((specialize EvD _ _ (.BinOp (.Constant (.int 10) _ _) .Pow (.Constant (.int 12) _ _) _) _);refine um (r:=1000000000000) ⟨by decide,by decide,by decide⟩ (by decide) ?_)
   |((specialize EvD _ _ (.BinOp (.Constant (.int 10) _ _) .Pow (.Constant (.int 9) _ _) _) _);refine um (r:=1000000000) ⟨by decide,by decide,by decide⟩ (by decide) ?_)
   |((specialize EvD _ _ (.BinOp (.Constant (.int 10) _ _) .Pow (.Constant (.int 11) _ _) _) _);refine um (r:=100000000000) ⟨by decide,by decide,by decide⟩ (by decide) ?_)
   |((specialize EvD _ _ (.BinOp _ .Add (.List _ _) _) _);refine EvL.d (xK ?_))
   |((specialize EvD _ _ (.BinOp (.List _ _) .Add _ _) _);refine EvL.d (xK ?_))
   |((specialize EvD _ _ (.BinOp (.Subscript _ (.Slice _ _ none _) _) .Add _ _) _);refine EvL.d (xK ?_))
   |((specialize EvD _ _ (.BinOp _ .Add (.Subscript _ (.Slice _ _ none _) _) _) _);refine EvL.d (xK ?_))
   |((specialize EvD _ _ (.BinOp (.Call (.Attribute _ "rules" _) _ _ _) .Add _ _) _);refine EvL.d (xK ?_))
   |exists si
   |exists pC
   |exists fh
   |exists aa
   |exists zr6
   |exists ev_shl
   |exists zm7
   |exists zn5
   |exists wc
   |((specialize EvD _ _ (.Subscript _ (.Slice _ _ none _) _) _);refine EvL.d (el_sl ?_))
   |((specialize EvD _ _ (.Subscript _ _ _) _);refine rz hr.one (fun _ _=>rfl) ?_)
   |((specialize EvD _ _ (.List _ _) _);refine EvL.d (xZ ?_))
   |((specialize EvD _ _ (.Call (.Name "len" _) [.Call (.Name "set" _) _ _ _] _ _) _);refine ev_lenSet rfl (by rfl) nb.len (by rfl) (by assumption) ?_)
   |((specialize EvD _ _ (.Call (.Name "len" _) _ _ _) _);refine wJ (by rfl) nb.len ?_)
   |((specialize EvD _ _ (.Call (.Name "min" _) [_,_] _ _) _);refine zn2 rfl (by rfl) nb.min ?_)
   |((specialize EvD _ _ (.Call (.Name "max" _) [_,_] _ _) _);refine zk8 rfl (by rfl) nb.max ?_)
   |((specialize EvD _ _ (.Call (.Name "list" _) _ _ _) _);refine EvL.d (pb (by rfl) nb.list ?_))
   |((specialize EvD _ _ (.Call (.Name "repr" _) _ _ _) _);refine ev_repr hr.gd hr.units (by rfl) nb.repr ?_)
   |((specialize EvD _ _ (.Call (.Name "min" _) [_] _ _) _);refine ev_minI rfl hr.few (by rfl) nb.min ?_)
   |((specialize EvD _ _ (.Call (.Name "isinstance" _) _ _ _) _);first|refine sT (by rfl) nb.isinstance (by rfl) nb.int boot_int ?_|refine sT (by rfl) nb.isinstance (by rfl) nb.bool boot_bool ?_|refine sT (by rfl) nb.isinstance (by rfl) nb.str boot_str ?_|refine sT (by rfl) nb.isinstance (by rfl) nb.list boot_list ?_|refine sT (by rfl) nb.isinstance (by rfl) nb.tuple boot_tuple ?_)
   |((specialize EvD _ _ (.Call (.Name "int" _) _ _ _) _);refine ev_intB (by rfl) nb.int ?_)
   |((specialize EvD _ _ (.Call (.Name _ _) _ _ _) _);first|refine bI (by with_reducible assumption) (by exact⟨rfl,rfl,rfl,rfl,rfl⟩) (hr.mono (by decide)) (by rfl) ?_|refine EvN.d (gN (by with_reducible assumption) (by exact⟨rfl,rfl,rfl,rfl,rfl⟩) (hr.mono (by decide)) (by rfl) ?_))
   |((specialize EvD _ _ (.Call (.Attribute _ _ _) (_::_) _ _) _);refine cR (by with_reducible assumption) (by exact⟨rfl,rfl,rfl,rfl,rfl⟩) (hr.mono (by decide)) ?_)
   |((specialize EvD _ _ (.Call (.Attribute _ _ _) [] _ _) _);refine jN (by with_reducible assumption) (by exact⟨rfl,rfl,rfl,rfl,rfl⟩) (hr.mono (by decide)) ?_)
   |((specialize EvD _ _ (.Compare _ [_] _ _) _);first|exists ze4|exists zw2|exists ev_gt|exists ev_ge|exists zr9|exists ev_notN|((specialize EvD _ _ (.Compare _ [.Eq] _ _) _);refine zl0 hr.units ?_)|((specialize EvD _ _ (.Compare _ [.NotEq] _ _) _);refine ev_nek hr.units ?_)|((specialize EvD _ _ (.Compare _ [.In] _ _) _);refine ev_ink hr.one ?_)|((specialize EvD _ _ (.Compare _ [.NotIn] _ _) _);refine ev_nink hr.one ?_)|((specialize EvD _ _ (.Compare _ [.Is] [.Constant (.bool _) _ _] _) _);refine ev_isB ?_))
   |((specialize EvD _ _ (.Compare _ [_,_] _ _) _);first|refine ev_lelt ?_|refine ev_ltle ?_|refine cq ?_)
   |((specialize EvD _ _ (.BoolOp _ _ _) _);first|exists zs8|exists zD8|exists zv1)
   |exists mM)
  |((specialize EvA _ _ _ _);first
   |exists zu
   |((specialize EvA _ _ (.Name "_law_row" _::_) _);exists xU,rfl)
   |refine zk ?_)
  |((specialize EvT _ _ _ _);first
   |((specialize EvT _ _ (.Compare _ [_] _ _) _);first|exists zA9|exists et_le|exists ze2|exists zd5|exists wy|exists kP|((specialize EvT _ _ (.Compare _ [.Eq] _ _) _);refine zv3 hr.units ?_)|((specialize EvT _ _ (.Compare _ [.NotEq] _ _) _);refine fJ hr.units ?_)|((specialize EvT _ _ (.Compare _ [.In] _ _) _);refine zk9 hr.one ?_)|((specialize EvT _ _ (.Compare _ [.NotIn] _ _) _);refine et_nink hr.one ?_)|((specialize EvT _ _ (.Compare _ [.Is] [.Constant (.bool _) _ _] _) _);refine et_isB ?_)|((specialize EvT _ _ (.Compare _ [.IsNot] [.Constant (.bool _) _ _] _) _);refine et_isntB ?_))
   |((specialize EvT _ _ (.Compare _ [_,_] _ _) _);first|refine et_lelt ?_|refine et_ltle ?_|refine dA ?_)
   |exists gR
   |((specialize EvT _ _ (.BoolOp _ _ _) _);exists EvW.t)
   |refine gB ?_)
  |((specialize EvL _ _ _ _);first
   |exists xZ
   |((specialize EvL _ _ (.Call (.Name "list" _) _ _ _) _);refine pb (by rfl) nb.list ?_)
   |((specialize EvL _ _ (.Call (.Name _ _) _ _ _) _);refine el_calR (by with_reducible assumption) (by exact⟨rfl,rfl,rfl,rfl,rfl⟩) (hr.mono (by decide)) (by rfl) ?_)
   |((specialize EvL _ _ (.Call (.Attribute _ _ _) [] _ _) _);refine el_meth0R (by with_reducible assumption) (by exact⟨rfl,rfl,rfl,rfl,rfl⟩) (hr.mono (by decide)) ?_)
   |((specialize EvL _ _ (.Subscript _ (.Slice _ _ none _) _) _);refine el_sl ?_)
   |((specialize EvL _ _ (.BinOp _ .Add _ _) _);refine xK ?_))
  |((specialize EvW _ _ _ _);first
   |exists sE
   |exists fc
   |exists qI
   |exists fA)
  |((specialize EvO _ _ _ _);first
   |exists aV
   |exists af)
  |((specialize gj _ _ _);first
   |refine ixk rfl rfl rfl ?_
   |refine ixk_0 ?_
   |refine ixk_1 ?_)
  |((specialize zp8 _ _ _ _);first
   |refine ink rfl rfl ?_
   |refine ink_hind ?_
   |refine zH6 rfl rfl ?_)
  |((specialize rF _ _ _);first
   |exists zc3
   |exists ak
   |exists eqk_bool
   |refine eqk rfl rfl rfl rfl ?_)
  |((specialize SvS _ _ _ _);first
   |((specialize SvS _ (List.set _ _ _) _ _);dsimp only[List.set])
   |((specialize SvS _ _ (zv _) _);show SvS _ _ (_::_) _)
   |((specialize SvS _ _ (.Assign [.Name _ _] (.List [] _) _::_) _);exists xQ,nd)
   |((specialize SvS _ _ (.Assign [.Name _ _] _ _::_) _);exists yb,nd)
   |((specialize SvS _ _ (.Expr (.Call (.Attribute _ "append" _) _ _ _) _::_) _);exists vd,rfl)
   |((specialize SvS _ _ (.Return (some (.Name _ _)) _::_) _);exists xV,rfl)
   |exists xy
   |exists sv_cont
   |exists sv_pass
   |exists xi
   |exists zx
   |((with_reducible refine vZ ?hk ?_);case hk=>first|rfl|decide +kernel)
   |((with_reducible refine ve ?hk ?_);case hk=>first|rfl|decide +kernel))
  |((specialize xf _ _);refine⟨_,rfl,by first|decide|omega,by first|decide|(show _<big;unfold big;omega),fun _ _ _=>?_⟩)
  |((with_reducible refine gf ?hk ?_);case hk=>first|rfl|decide +kernel)
  |((with_reducible refine zd1 ?hk ?_);case hk=>first|rfl|decide +kernel)
  |refine⟨_,_,rfl,rfl,?_⟩
  |refine⟨_,_,_,rfl,rfl,rfl,?_⟩
  |refine⟨_,rfl,zN8 rfl,?_⟩
  |refine⟨_,rfl,rfl,?_⟩
  |refine⟨_,rfl,?_⟩))
namespace K69
open PySem PySem.Spec PyProof.Rows L2
abbrev gW :Stmt:=top 3
abbrev jc :Stmt:=top 4
abbrev zg0 :Stmt:=top 5
abbrev zy7 :Stmt:=top 6
abbrev zj6 :Stmt:=top 7
abbrev oR :Stmt:=top 8
abbrev zf7 :Stmt:=inClass (top 34) 0
abbrev zk4 :Stmt:=inClass (top 34) 2
abbrev cp :Stmt:=inClass (top 34) 3
abbrev aX :Stmt:=inClass (top 35) 0
abbrev zl7 :Stmt:=inClass (top 36) 0
abbrev zE7 :Stmt:=inClass (top 37) 0
abbrev bA :Stmt:=inClass (top 38) 0
abbrev zo8 :Stmt:=inClass (top 39) 0
abbrev zl9 :Stmt:=inClass (top 40) 0
abbrev zy2 :Stmt:=inClass (top 41) 0
abbrev dJ :Stmt:=top 43
abbrev lF :Stmt:=top 44
abbrev cX :Stmt:=top 45
abbrev ki :Stmt:=top 46
abbrev zf2 :Stmt:=top 47
abbrev lO :Stmt:=top 48
theorem nj (d:PyData):zR (.str "price") d=(isNone d||tN d):=rfl
theorem me (d:PyData):zR (.str "come") d=isBool d:=rfl
theorem eH (d:PyData):zR (.str "go") d=isBool d:=rfl
theorem oX (d:PyData):zR (.str "least") d=yL 1 14 d:=rfl
theorem mT (d:PyData):zR (.str "most") d=yL 1 14 d:=rfl
theorem nZ (d:PyData):zR (.str "deal") d=(isNone d||rj d):=rfl
theorem jY (d:PyData):zR (.str "fee") d=tN d:=rfl
theorem zA {lo hi:Int}{d:PyData}(h:yL lo hi d=true):∃i,d=.int i/\lo<=i/\i<=hi:=by
 cases d with
 |int i=>exact⟨i,rfl,zS9 (zU4.mp h).1,zS9 (zU4.mp h).2⟩
 |_=>cases h
theorem bool_inv {d:PyData}(h:isBool d=true):∃b,d=.bool b:=by
 cases d with
 |bool b=>exact⟨b,rfl⟩
 |_=>cases h
theorem uJ {d:PyData}(h:rj d=true):∃m f:Int,d=.tuple [.int m,.int f]/\2<=m/\m<=14/\1<=f/\f<=m-1:=by
 unfold rj at h;split at h
 ·obtain⟨j,b⟩:=zU4.mp h;obtain⟨_,rfl,a,i⟩:=zA b;obtain⟨_,e,g,c⟩:=zA j;cases e;exact⟨_,_,rfl,g,c,a,i⟩
 ·cases h
theorem none_or {d:PyData}{p:Bool}(h:(isNone d||p)=true):d=.none\/p=true:=by
 cases d with
 |none=>exact .inl rfl
 |_=>exact .inr h
theorem zV {d:PyData}(h:yr d=true):∃(s:Str) (i j:Int) (v:PyData),s∈words/\d=.tuple [.str s,.int i,.int j,v]/\0<=i/\i<=j/\j<=1000000/\zR (.str s) v=true:=by
 obtain⟨s,a,b,v,l,rfl⟩:=uW h;obtain⟨c,g⟩:=zU4.mp (show(wF (.tuple [a,b])&&zR (.str s) v)=true from h);unfold wF zt5 at c;split at c
 ·rename_i k e;split at e
  ·rename_i z;cases z;split at e
   ·rename_i q;cases e;obtain⟨f,n⟩:=zU4.mp q;obtain⟨_,e1,o,a1⟩:=zA f;obtain⟨_,p,r,m⟩:=zA n;cases e1;cases p;have:=zS9 c;exact⟨s,_,_,v,l,rfl,o,by omega,m,g⟩
   ·cases e
  ·cases e
 ·cases c
theorem xW {s:Str}{v:PyData}(a:s∈words)(h:zR (.str s) v=true):v.hasDict=false/\noL v=true:=by
 have w:∀{lo hi:Int},yL lo hi v=true->v.hasDict=false/\noL v=true:=λz=>by obtain⟨_,rfl,_⟩:=zA z;exact⟨rfl,rfl⟩
 have b:isBool v=true->v.hasDict=false/\noL v=true:=λz=>by obtain⟨_,rfl⟩:=bool_inv z;exact⟨rfl,rfl⟩
 simp only[words,zJ6,zL1,zO0]at a;rcases a with rfl|rfl|rfl|rfl|rfl|rfl|rfl
 ·rcases none_or h with rfl|h
  ·exact⟨rfl,rfl⟩
  ·exact w h
 ·exact b h
 ·exact b h
 ·exact w h
 ·exact w h
 ·rcases none_or h with rfl|h
  ·exact⟨rfl,rfl⟩
  ·obtain⟨_,_,rfl,_⟩:=uJ h;exact⟨rfl,rfl⟩
 ·exact w h
def zg4 :Ph:=λas Q=>∃i:Int,as=[.dat (.int i)]/\Q (.dat (.bool true))
def du :Ph:=λas Q=>∃i lo hi:Int,as=[.dat (.int i),.dat (.int lo),.dat (.int hi)]/\lo<=i/\i<=hi/\Q (.dat (.bool true))
def zq0 :Ph:=λas Q=>∃i j:Int,as=[.dat (.tuple [.int i,.int j])]/\Q (.dat (.bool true))
def zv5 :Ph:=λas Q=>∃i:Int,as=[.dat (.int i)]/\0<=i/\i<=1000000/\Q (.dat (.bool true))
def zc5 :Ph:=λas Q=>∃i j:Int,as=[.dat (.tuple [.int i,.int j])]/\0<=i/\i<=j/\j<=1000000/\Q (.dat (.bool true))
def zA1 :Ph:=λas Q=>∃d,as=[.dat d]/\tN d=true/\Q (.dat (.bool true))
def zz9 :Ph:=λas Q=>∃d,as=[.dat d]/\rj d=true/\Q (.dat (.bool true))
def zw0 :Ph:=λas Q=>∃s d,as=[.dat (.str s),.dat d]/\s∈words/\zR (.str s) d=true/\Q (.dat (.bool true))
def zB1 :Ph:=λas Q=>∃d,as=[.dat d]/\yr d=true/\Q (.dat (.bool true))
section
variable {P:Program}{w:World}{K:PySem.W.Frag}{mg:Str->Option Value}{base:Heap}{cs:Cs}
theorem aD (F:FnD K mg "is_whole" gW ["thing"])(nb:NbT mg):Cal P w K mg base "is_whole" 1 zg4:=by
 refine yn ["thing"] F λ_ _ _ _ _ _ _ _ Q nd hr h=>?_;obtain⟨i,rfl,q⟩:=h;and_intros;exact q
theorem nJ (F:FnD K mg "is_whole_within" jc ["thing","lowest","highest"])(c:Cal P w K mg base "is_whole" 1 zg4):Cal P w K mg base "is_whole_within" 2 du:=by
 refine yn ["thing","lowest","highest"] F λ_ _ _ _ _ _ _ _ Q nd hr h=>?_;obtain⟨i,lo,hi,rfl,b,a,q⟩:=h;and_intros;refine gf (zM8 b) ?_;and_intros;rw[zM8 a];exact q
theorem eU (F:FnD K mg "is_pair" zg0 ["thing"])(nb:NbT mg):Cal P w K mg base "is_pair" 1 zq0:=by
 refine yn ["thing"] F λ_ _ _ _ _ _ _ _ Q nd hr h=>?_;obtain⟨i,j,rfl,q⟩:=h;and_intros;exact q
theorem jX (F:FnD K mg "is_day" zy7 ["thing"])(gl:∃t,mg "LAST_DAY"=some (.int 1000000 t))(c:Cal P w K mg base "is_whole_within" 2 du):Cal P w K mg base "is_day" 3 zv5:=by
 refine yn ["thing"] F λ_ _ _ _ _ _ _ _ Q nd hr h=>?_;obtain⟨i,rfl,b,a,q⟩:=h;and_intros;exact yA (by rfl) gl (zu ⟨_,_,_,rfl,b,a,q⟩)
theorem dg (F:FnD K mg "is_pair_of_days" zj6 ["thing"])(e:Cal P w K mg base "is_pair" 1 zq0)(c:Cal P w K mg base "is_day" 3 zv5):Cal P w K mg base "is_pair_of_days" 4 zc5:=by
 refine yn ["thing"] F λ_ _ _ _ _ _ _ _ Q nd hr h=>?_;obtain⟨i,j,rfl,b,d,a,q⟩:=h;and_intros;refine⟨_,_,rfl,?_⟩;and_intros;refine⟨b,by omega,?_⟩;and_intros;exact⟨by omega,a,q⟩
theorem oE (F:FnD K mg "is_stretch" oR ["thing"])(d:Cal P w K mg base "is_pair_of_days" 4 zc5):Cal P w K mg base "is_stretch" 5 zc5:=by
 refine yn ["thing"] F λ_ _ _ _ _ _ _ _ Q nd hr h=>?_;obtain⟨i,j,rfl,c,a,b,q⟩:=h;and_intros;refine⟨_,_,rfl,c,a,b,?_⟩;and_intros;rw[zM8 a];exact q
theorem pU (F:FnD K mg "is_coins" dJ ["thing"])(gl:∃t,mg "MOST_COINS"=some (.int 1000000000000 t))(c:Cal P w K mg base "is_whole_within" 2 du):Cal P w K mg base "is_coins" 3 zA1:=by
 refine yn ["thing"] F λ_ _ _ _ _ _ _ _ Q nd hr h=>?_;obtain⟨d,rfl,h,q⟩:=h;obtain⟨i,rfl,b,a⟩:=zA h;and_intros;exact yA (by rfl) gl (zu ⟨_,_,_,rfl,b,a,q⟩)
theorem mD (F:FnD K mg "is_deal" lF ["thing"])(gl:∃t,mg "MOST_NIGHTS"=some (.int 14 t))(g:Cal P w K mg base "is_pair" 1 zq0)(i:Cal P w K mg base "is_whole_within" 2 du):Cal P w K mg base "is_deal" 3 zz9:=by
 refine yn ["thing"] F λ_ _ _ _ _ _ _ _ Q nd hr h=>?_;obtain⟨d,rfl,h,q⟩:=h;obtain⟨m,f,rfl,e,b,a,c⟩:=uJ h;and_intros;refine⟨_,_,rfl,?_⟩;and_intros;refine yA (by rfl) gl (zu ⟨_,_,_,rfl,e,b,?_⟩);and_intros;exact⟨_,_,_,rfl,a,c,q⟩
theorem oI (F:FnD K mg "is_worth" cX ["word","thing"])(nb:NbT mg)(gl:∃t,mg "MOST_NIGHTS"=some (.int 14 t))(k:Cal P w K mg base "is_whole_within" 2 du)(j:Cal P w K mg base "is_coins" 3 zA1)(g:Cal P w K mg base "is_deal" 3 zz9):Cal P w K mg base "is_worth" 4 zw0:=by
 refine yn ["word","thing"] F λ_ _ _ _ _ _ _ _ Q nd hr h=>?_;obtain⟨s,d,rfl,e,h,q⟩:=h;simp only[words,zJ6,zL1,zO0]at e;rcases e with rfl|rfl|rfl|rfl|rfl|rfl|rfl
 ·rcases none_or h with rfl|h
  ·and_intros;exact q
  ·obtain⟨i,rfl,_⟩:=zA h;and_intros;exact⟨h,q⟩
 ·obtain⟨b,rfl⟩:=bool_inv h;and_intros;exact q
 ·obtain⟨b,rfl⟩:=bool_inv h;and_intros;exact q
 ·obtain⟨i,rfl,c,a⟩:=zA h;and_intros;exact yA (by rfl) gl (zu ⟨_,_,_,rfl,c,a,q⟩)
 ·obtain⟨i,rfl,c,a⟩:=zA h;and_intros;exact yA (by rfl) gl (zu ⟨_,_,_,rfl,c,a,q⟩)
 ·rcases none_or h with rfl|h
  ·and_intros;exact q
  ·obtain⟨m,f,rfl,_⟩:=uJ h;and_intros;exact⟨h,q⟩
 ·and_intros;exact⟨h,q⟩
theorem mB (F:FnD K mg "is_rule" ki ["thing"])(nb:NbT mg)(g:Cal P w K mg base "is_stretch" 5 zc5)(k:Cal P w K mg base "is_worth" 4 zw0):Cal P w K mg base "is_rule" 6 zB1:=by
 refine yn ["thing"] F λ_ _ _ _ _ _ _ _ Q nd hr h=>?_;obtain⟨d,rfl,h,q⟩:=h;obtain⟨s,i,j,v,b,rfl,f,e,c,a⟩:=zV h;have hf:=(xW b a).1;and_intros;refine⟨true,by simp[PyData.hasDict,PyData.hasDictAll,hf],rfl,?_⟩;and_intros;refine⟨_,_,rfl,f,e,c,?_⟩;and_intros;exact⟨_,_,rfl,b,a,q⟩
def uQ (C:Addr)(a b v:PyData):PyData:=wA C [(.str "first",a),(.str "last",b),(.str "worth",v)]
def ug (cs:Cs):PyData->PyData
 |.tuple [.str w,a,b,v]=>uQ (cs.of w) a b v
 |_=>.none
def oG (C:Addr):Ph:=λas Q=>∃a b v,as=[.dat a,.dat b,.dat v]/\noL a=true/\noL b=true/\noL v=true/\Q (.dat (uQ C a b v))
def zD7 (cs:Cs):Ph:=λas Q=>∃s a b v,as=[.dat (.str s),.dat a,.dat b,.dat v]/\s∈words/\noL a=true/\noL b=true/\noL v=true/\Q (.dat (uQ (cs.of s) a b v))
def oQ (cs:Cs):Ph:=λas Q=>∃d,as=[.dat d]/\yr d=true/\Q (.dat (ug cs d))
def mZ (C:Addr)(w:Str):Ph:=λas Q=>∃a b v,as=[.dat (uQ C a b v)]/\Q (.dat (.tuple [.str w,a,b,v]))
def pH (C:Addr)(w:Str):Ph:=λas Q=>∃a b v,as=[.dat (uQ C a b v)]/\Q (.dat (.str w))
def tR (C:Addr):Ph:=λas Q=>∃(a b day:Int) (v:PyData),as=[.dat (uQ C (.int a) (.int b) v),.dat (.int day)]/\Q (.dat (.bool (decide (a<=day)&&decide (day<=b))))
theorem gP (F:FnD K mg "made" zf2 ["word","first","last","worth"])(j:uE P w K mg base "Price" 1 [] (oG cs.price))(i:uE P w K mg base "Come" 1 [] (oG cs.come))(g:uE P w K mg base "Go" 1 [] (oG cs.go))(l:uE P w K mg base "Least" 1 [] (oG cs.least))(k:uE P w K mg base "Most" 1 [] (oG cs.most))(f:uE P w K mg base "Deal" 1 [] (oG cs.deal))(e:uE P w K mg base "Fee" 1 [] (oG cs.fee)):Cal P w K mg base "made" 3 (zD7 cs):=by
 refine yn ["word","first","last","worth"] F λ_ _ _ _ _ _ _ _ Q nd hr h=>?_;obtain⟨s,a,b,v,rfl,c,ha,hb,d,q⟩:=h;simp only[words,zJ6,zL1,zO0]at c;rcases c with rfl|rfl|rfl|rfl|rfl|rfl|rfl<;>and_intros<;>exact⟨_,_,_,rfl,ha,hb,d,q⟩
theorem lh (F:FnD K mg "rule_of" lO ["thing"])(CR:Cal P w K mg base "is_rule" 6 zB1)(g:Cal P w K mg base "made" 3 (zD7 cs)):Cal P w K mg base "rule_of" 7 (oQ cs):=by
 refine yn ["thing"] F λ_ _ _ _ _ _ _ _ Q nd hr h=>?_;obtain⟨d,rfl,h,q⟩:=h;obtain⟨s,i,j,v,a,rfl,f,e,c,b⟩:=zV h;and_intros;refine⟨h,?_⟩;and_intros;exact⟨_,_,_,_,rfl,a,rfl,rfl,(xW a b).2,q⟩
theorem yJ {x:Str}{C f fT fE fW:Addr}{fd:FuncData}(R:uZ K C f fT fE fW)(hm:mg x=some (.ref C))(F:Fun K "__init__" "Rule.__init__" zf7 f fd)(hb:Binds K fd ["self","first","last","worth"] []):uE P w K mg base x 1 [] (oG C):=by
 refine⟨C,f,fd,_,[],hm,R.makes,hb,.nil,F.ok (N:=["self","first","last","worth"]) .o (λvs H Q E h=>?_) (λcdv A outer s H vs Q E hr h=>?_)⟩
 ·obtain⟨_,as,_,_,_,_,_,rfl,_,_,_,_,_,_,_,c,⟨a,b,v,rfl,_⟩,_⟩:=h;exact congrArg (·+1) c.length
 ·obtain⟨G,as,Q',p,dx,O,H1,rfl,g,B,hn,rfl,rfl,t,o,c,⟨a,b,v,rfl,n1,n2,M,q⟩,D⟩:=h;cases c with
  |cons r c=>cases c with
   |cons I c=>cases c with
    |cons L c=>
     cases c;rename_i x y z;refine⟨_,zy (pd (pv 0) (pv 1) rfl) (zy (pd (pv 0) (pv 2) rfl) (tm (pd (pv 0) (pv 3) rfl))),_,rfl,_,rfl,p,C,dx,[],rfl,zl,R.cl,R.nf,(by decide:0<1000),_,rfl,_,rfl,p,C,dx,_,rfl,zl,R.cl,R.nl,(show 1<1000 by decide),_,rfl,_,rfl,p,C,dx,xu "last" y (xu "first" x []),rfl,zl,R.cl,R.nw,(show 2<1000 by decide),?_⟩;show Q .non _;rw[qG,qG,qG];have i:zt G.H0 (upd (upd G.H0 dx (.own p)) p (.ins C dx (zw6 x y z))):=λa o e=>by rw[zg (zm e g),zg (zm e B)];exact e
     have k:∀{u:V} {d:PyData},AV (sub (λy=>¬G.O0 y) G.H0) u d->noL d=true->AV (sub (λy=>¬G.O0 y/\∀xs,G.H0 y≠some (.lst xs)) (upd (upd G.H0 dx (.own p)) p (.ins C dx (zw6 x y z)))) u d:=λh n=>h.noL (λa o J e=>by
      obtain⟨e1,m⟩:=zi e;exact zG ⟨e1,λxs l=>by rw[m]at l;cases l;exact J trivial⟩ (i _ _ m)) n
     refine D _ _ q ⟨t.same i,Kz.of_same i,.ins (zG ⟨λe=>?_,λxs e=>by rw[g]at e;cases e⟩ zl) (.cons (k r n1) (.cons (k I n2) (.cons (k L M) .nil)))⟩;obtain⟨u,j,_⟩:=o p e;rw[g]at j;cases j
theorem yK {C f fI fT fE:Addr}{fd:FuncData}{c d:Str}{st:Stmt}{j:Nat}{p1 p2:Pos}(R:uZ K C fI fT fE f)(F:Fun K "word" d st f fd)(hb:Binds K fd ["self"] [])(S:zS ["self"] ["self"] (zf st))(e:zv st=[.Return (some (.Constant (.str c) j p1)) p2]):xv P w K mg base C "word" 1 (pH C c):=by
 refine oM ["self"] R.cl R.word F hb (λ_ _ _ _ _ _ _ Q nd hr h=>?_) S;obtain⟨a,b,v,rfl,q⟩:=h;rw[e];exact xy (vv q)
theorem yE {C f fI fE fW:Addr}{fd:FuncData}{c:Str}(R:uZ K C fI f fE fW)(F:Fun K "told" "Rule.told" zk4 f fd)(hb:Binds K fd ["self"] [])(W:xv P w K mg base C "word" 1 (pH C c)):xv P w K mg base C "told" 2 (mZ C c):=by
 refine oM ["self"] R.cl R.told F hb λ_ _ _ _ _ _ _ Q nd hr h=>?_;obtain⟨a,b,v,rfl,q⟩:=h;and_intros;exact⟨_,_,_,rfl,zk (wH R.cl R.nf (zb 0 rfl ⟨_,_,rfl,rfl,zk (wH R.cl R.nl (zb 0 rfl ⟨_,_,rfl,rfl,zk (wH R.cl R.nw (zb 0 rfl ⟨_,_,rfl,rfl,zu ⟨_,rfl,zN8 rfl,q⟩⟩))⟩))⟩))⟩
theorem yi {C f fI fT fW:Addr}{fd:FuncData}(R:uZ K C fI fT f fW)(F:Fun K "tells" "Rule.tells" cp f fd)(hb:Binds K fd ["self","day"] []):xv P w K mg base C "tells" 1 (tR C):=by
 refine oM ["self","day"] R.cl R.tells F hb λ_ _ _ _ _ _ _ Q nd hr h=>?_;obtain⟨a,b,day,v,rfl,q⟩:=h;and_intros;refine wH R.cl R.nf (zb 0 rfl ⟨_,_,rfl,rfl,?_⟩);and_intros;refine qr (λz=>?_) (λz=>?_)
 ·rw[z,Bool.true_and]at q;exact wH R.cl R.nl (zb 0 rfl ⟨_,_,rfl,rfl,_,rfl,q⟩)
 ·rw[z,z04]at q;exact q
end
abbrev zd0 :Stmt:=top 52
abbrev yS :Stmt:=inClass (top 51) 0
abbrev vQ :Stmt:=inClass (top 51) 1
abbrev lX :Stmt:=inClass (top 51) 2
abbrev cO :Stmt:=top 42
def zE (C:Addr)(cs:Cs)(ds:List PyData):PyData:=wA C [(.str "kept",.list (ds.map (ug cs)))]
def Rules (ds:List PyData):Prop:=∀d∈ds,yr d=true/\SeqAt.shaped d=true/\d.hasDict=false
def dG (cs:Cs):Ph:=λas Q=>∃ds,as=[.dat (.list ds)]/\Rules ds/\ds.length<=24/\Q (.own (ds.map (ug cs)))
def qK (C:Addr)(cs:Cs):Ph:=λas Q=>∃ds,(as=[.dat (.list ds)]\/(as=[.dat .none]/\ds=[]))/\Rules ds/\ds.length<=24/\Q (.dat (zE C cs ds))
def kA (C:Addr)(cs:Cs):Ph:=λas Q=>∃ds,as=[.dat (zE C cs ds)]/\Rules ds/\ds.length<=1000/\Q (.own ds)
theorem vF {cs:Cs}{d:PyData}(h:yr d=true):∃(s:Str) (a b v:PyData),s∈words/\d=.tuple [.str s,a,b,v]/\ug cs d=uQ (cs.of s) a b v:=by
 obtain⟨s,a,b,v,c,rfl⟩:=uW h;exact⟨s,a,b,v,c,rfl,rfl⟩
def eS :Scope:=match zv vQ with
 |[.Return (some (.ListComp _ _ sc _)) _]=>sc
 |_=>zf vQ
def tbU :List (Str×V):=[("price",.non),("come",.bl true),("go",.bl true),("least",.int 1),("most",.int 14),("deal",.non),("fee",.int 0)]
def eW (x:Str):PyData:=if x="price"\/x="deal" then .none else if x="come"\/x="go" then .bool true else if x="least" then .int 1 else if x="most" then .int 14 else .int 0
theorem zs2 {x:Str}(h:x∈words):∃v,tbU.lookup x=some v/\scV (eW x)=some v:=by
 simp only[words,zJ6,zL1,zO0]at h;rcases h with rfl|rfl|rfl|rfl|rfl|rfl|rfl
 ·exact⟨.non,by decide +kernel,by decide +kernel⟩
 ·exact⟨.bl true,by decide +kernel,by decide +kernel⟩
 ·exact⟨.bl true,by decide +kernel,by decide +kernel⟩
 ·exact⟨.int 1,by decide +kernel,by decide +kernel⟩
 ·exact⟨.int 14,by decide +kernel,by decide +kernel⟩
 ·exact⟨.non,by decide +kernel,by decide +kernel⟩
 ·exact⟨.int 0,by decide +kernel,by decide +kernel⟩
def vV (w:Str)(day:Int):PyData->Bool
 |.tuple [.str x,.int a,.int b,_]=>decide (x=w)&&(decide (a<=day)&&decide (day<=b))
 |_=>false
def kO :PyData->PyData
 |.tuple [_,_,_,v]=>v
 |_=>.none
def zj (ds:List PyData)(w:Str)(day:Int):PyData:=match ds.reverse.find? (vV w day)with
 |some d=>kO d
 |none=>eW w
theorem tY {p:PyData->Bool}{e:PyData}:∀{l:List PyData}{i:Nat},(∀j<i,∀d,l[j]?=some d->p d=false)->l[i]?=some e->p e=true->l.find? p=some e
 |[],i,_,h,_=>by simp at h
 |d::l,0,_,h,q=>by
  simp at h;subst h;simp[zQ8,q]
 |d::l,i+1,a,h,q=>by
  have hd:=a 0 (zY0 _) d rfl;rw[zQ8,hd];exact tY (i:=i) (λj b x c=>a (j+1) (Nat.succ_lt_succ b) x (by simpa using c)) (by simpa using h) q
theorem bj {p:PyData->Bool}{l:List PyData}(h:∀(j:Nat) d,l[j]?=some d->p d=false):l.find? p=none:=by
 rw[List.find?_eq_none];intro x b;obtain⟨j,a⟩:=List.mem_iff_getElem?.mp b;rw[h j x a];simp
def lW :List A->(A->Prop)->Prop:=λas Q=>∃x,as=[.dat (.str x)]/\x∈words/\Q (.dat (eW x))
def tG (C:Addr)(cs:Cs):List A->(A->Prop)->Prop:=λas Q=>∃ds x day,as=[.dat (zE C cs ds),.dat (.str x),.dat (.int day)]/\Rules ds/\x∈words/\Q (.dat (zj ds x day))
section
variable {P:Program}{w:World}{K:PySem.W.Frag}{mg:Str->Option Value}{base:Heap}{cs:Cs}
theorem fB (F:FnD K mg "kept_rules" zd0 ["things"])(nb:NbT mg)(j:∃t,mg "MOST_RULES"=some (.int 24 t))(k:Cal P w K mg base "rule_of" 7 (oQ cs)):Cal P w K mg base "kept_rules" 8 (dG cs):=by
 refine yn ["things","kept","number","thing","rule"] F λ_ _ _ _ _ _ _ _ Q nd hr h=>?_;obtain⟨ds,rfl,g,n,q⟩:=h;and_intros;refine yX (.many [2,3]) (qR (by rfl) nb.enumerate (zb 0 rfl (⟨_,rfl,?_⟩)));refine zZ (λi α=>∃v2 c v4,α=[some (.dat (.list ds)),some (.own ((ds.take i).map (ug cs))),v2,c,v4]) ⟨none,none,none,rfl⟩ ?_ ?_
 ·rintro i d α hd ⟨v2,c,v4,rfl⟩;obtain⟨e,he,rfl⟩:=xD hd;have f:=(g e (zO3 he)).1;have hi:=(zK1.mp he).1;obtain⟨s',a,b,v,m,rfl,l⟩:=vF (cs:=cs) f;have e:(ds.take (i+1)).map (ug cs)=(ds.take i).map (ug cs)++[ug cs (.tuple [.str s',a,b,v])]:=by
   rw[zU7,he,zV8];rfl
  rw[e];refine⟨_,rfl,?_⟩;and_intros;refine⟨f,?_⟩;and_intros;refine⟨by rw[zJ3,zM3];omega,?_⟩;and_intros;exact⟨_,_,_,rfl⟩
 ·rintro α ⟨v2,c,v4,rfl⟩;rw[wV,zS3];refine xi (vW 1 rfl (ze2 (wJ (by rfl) nb.len (zb 1 rfl ⟨_,rfl,yA (by rfl) j ⟨_,_,rfl,rfl,?_⟩⟩))));refine ve (zM0 ?_) ?_
  ·rw[zJ3];omega
  ·and_intros;exact q
theorem pW {ds:List PyData}(f:Rules ds):noLs (ds.map (ug cs))=true:=by
 induction ds with
 |nil=>rfl
 |cons d r j=>
  have c:=j λx i=>f x (zJ8 _ i);have g:=(f d zK5).1;obtain⟨s',a,b,v,l,rfl,h⟩:=vF (cs:=cs) g;obtain⟨_,_,_,_,e,k,_,_,_,hw⟩:=zV g;cases k;have z3:=(xW e hw).2;rw[zN7,h];simp only[noLs,c,Bool.and_true];simp[uQ,wA,noL,sX,z3]
theorem zI5 :zS ["self","rules"] ["self","rules"] (zf yS):=.o
theorem fO {f C:Addr}{dV:Value}{fd:FuncData}(F:zo7 K "__init__" "Book.__init__" yS dV f fd)(c:Cls K C)(na:yu K C "kept")(b:Cal P w K mg base "kept_rules" 8 (dG cs)):yD P w K mg base CX0 9 f fd ["self","rules"] (spI C (qK C cs)):=by
 refine zB8 (N:=[]) F zI5 c na rfl (λas Q h=>?_) (λcdv g outer s H E as Q hr h=>?_) (λ_ _ _ _ _ _=>rfl) (Or.inl rfl)
 ·obtain⟨ds,h|⟨h,_⟩,_⟩:=h<;>rw[h]<;>rfl
 ·obtain⟨ds,h|⟨h,hz⟩,a,e,q⟩:=h
  ·subst h;exact wD b hr (by rfl) (zk (mM (wy (zb 1 rfl (rE (zb 1 rfl (zu ⟨_,rfl,a,e,_,rfl,pW a,q⟩)))))))
  ·subst h hz;exact wD b hr (by rfl) (zk (mM (wy (zb 1 rfl (rK (EvL.d (xZ (zu ⟨_,rfl,zN8 rfl,zu ⟨[],rfl,a,e,_,rfl,pW a,q⟩⟩))))))))
theorem zx3 :zF ["self"] (zf vQ) ["rule"] [none] eS:=⟨rfl,by decide +kernel,by decide +kernel,by decide +kernel,by decide +kernel,rfl,by decide +kernel⟩
theorem lA {f C:Addr}{fd:FuncData}(c:Cls K C)(na:yu K C "kept")(k:Meth K C "rules" f)(F:Fun K "rules" "Book.rules" vQ f fd)(hb:Binds K fd ["self"] [])(O:∀g∈words,xv P w K mg base (cs.of g) "told" 2 (mZ (cs.of g) g)):xv P w K mg base C "rules" 3 (kA C cs):=by
 refine oM ["self"] c k F hb λ_ _ _ _ _ _ _ Q nd hr h=>?_;obtain⟨ds,rfl,j,m,q⟩:=h;refine wW (eE (pat:=.one 0) rfl zx3 rfl (λ_ _ _ _=>zD (i:=0) zx3.nd rfl (Or.inl rfl)) (yM (wH c na (zb 0 rfl ⟨_,_,rfl,rfl,⟨_,rfl,by rw[zJ3];exact m,?comp⟩⟩))))
 case comp=>
  refine jC (λi acc=>acc=ds.take i) rfl ?_ (λacc h=>?_)
  ·rintro i d acc hd rfl;rw[zK8,zM2]at hd;obtain⟨e,he,rfl⟩:=hd;obtain⟨s',a,b,v,l,rfl,o⟩:=vF (cs:=cs) (j e (zO3 he)).1;refine⟨_,rfl,λC s2 n fp=>mC ?_⟩;rw[if_pos rfl];refine λC s2 n fp=>sN (O s' l) hr (zb 0 rfl ⟨_,rfl,rfl,_,_,_,rfl,?_⟩);show ds.take i++[_]=ds.take (i+1);rw[zU7,he];rfl
  ·rw[zJ3,zS3]at h;rw[h];exact q
theorem jZ {a:Addr}(F:FnD K mg "usual" cO ["word"])(d:mg "USUAL"=some (.ref a))(b:lG K w a tbU):Cal P w K mg base "usual" 1 lW:=by
 refine yn ["word"] F λ_ _ _ _ _ _ _ _ Q nd hr h=>?_;obtain⟨x,rfl,f,q⟩:=h;obtain⟨v,e,c⟩:=zs2 f;exact xy (cb (by rfl) d b (zb 0 rfl ⟨x,eW x,v,rfl,e,c,q⟩))
theorem mw {f C:Addr}{fd:FuncData}(c:Cls K C)(na:yu K C "kept")(s:Meth K C "tells_of" f)(F:Fun K "tells_of" "Book.tells_of" lX f fd)(hb:Binds K fd ["self","word","day"] [])(nb:NbT mg)(r:Cal P w K mg base "usual" 1 lW)(y:∀u∈words,xv P w K mg base (cs.of u) "word" 1 (pH (cs.of u) u))(A:∀u∈words,xv P w K mg base (cs.of u) "tells" 1 (tR (cs.of u)))
  (p:∀u∈words,Cls K (cs.of u)/\yu K (cs.of u) "worth"):xv P w K mg base C "tells_of" 2 (tG C cs):=by
 refine oM ["self","word","day","rule"] c s F hb λ_ _ _ _ _ _ _ Q nd hr h=>?_;obtain⟨ds,x,day,rfl,D,B,q⟩:=h;refine yX (.one 3) (zt8 (by rfl) nb.reversed (wH c na (zb 0 rfl ⟨_,_,rfl,rfl,⟨_,rfl,?_⟩⟩)));refine zZ (λi α=>(∃n,α=[some (.dat (zE C cs ds)),some (.dat (.str x)),some (.dat (.int day)),n])/\∀j<i,∀d,ds.reverse[j]?=some d->vV x day d=false) ⟨⟨none,rfl⟩,λj o=>absurd o (z40 _)⟩ ?_ ?_
 ·rintro i d α hd ⟨⟨n,rfl⟩,hno⟩;rw[<-List.map_reverse,zK8,zM2]at hd;obtain⟨e,he,rfl⟩:=hd;have m:e∈ds:=List.mem_reverse.mp (zO3 he);obtain⟨u,a,b,v,l,rfl,_,_,_,_⟩:=zV (D e m).1;refine⟨_,rfl,?_⟩;refine xi (EvW.t (bt (λ_ k=>zt3 (sN (y u l) hr (zb 3 rfl ⟨_,rfl,rfl,_,_,_,rfl,zb 1 rfl ⟨_,_,rfl,rfl,k⟩⟩)))
   (λE _ k=>qI (cH (wL (A u l) hr (zb 3 rfl ⟨_,rfl,rfl,zk (zb 2 rfl (zu ⟨_,_,_,_,rfl,_,rfl,k⟩))⟩)))) ?_))
  refine yC (λh=>?_) (λh=>?_)
  ·refine xy (wH (p u l).1 (p u l).2 (zb 3 rfl ⟨_,_,rfl,rfl,?_⟩));have e1:ds.reverse.find? (vV x day)=some (.tuple [.str u,.int a,.int b,v]):=tY hno he h;unfold zj at q;rw[e1]at q;exact q
  ·refine zx (zx ⟨⟨_,rfl⟩,λj o d' g=>?_⟩);rcases zO5 j i with z|z
   ·exact hno j z d' g
   ·have:j=i:=by omega
    subst this;rw[he]at g;cases g;exact h
 ·rintro α ⟨⟨n,rfl⟩,hno⟩;refine xy (xY r (hr.mono (by decide)) (by rfl) (zk (zb 1 rfl (zu ⟨x,rfl,B,?_⟩))));have e1:ds.reverse.find? (vV x day)=none:=bj λj d hd=>hno j (by
   have:=(zK1.mp hd).1;rw[zZ1,zJ3]
   rwa [zZ1]at this) d hd
  unfold zj at q;rw[e1]at q;exact q
end
structure yQ (d:PyData):Prop where
 rule:yr d=true
 nice:zY 20011 d
 dep:d.depth<=2
 wn:zY 5000 (kO d)
def zo (ds:List PyData):Prop:=∀d∈ds,yQ d
theorem rW {s:Str}(h:s∈words):zY 2000 (.str s):=by
 simp only[words,zJ6,zL1,zO0]at h;rcases h with rfl|rfl|rfl|rfl|rfl|rfl|rfl<;>exact⟨rfl,rfl,zK7 _,by decide +kernel,by decide +kernel⟩
theorem yQ.of {s:Str}{i j:Int}{d:PyData}(f:s∈words)(g:0<=i)(k:i<=j)(h:j<=1000000)(hw:zR (.str s) d=true)(hn:zY 5000 d)(hd:d.depth<=1):yQ (.tuple [.str s,.int i,.int j,d]):=by
 have c:(1000001:Int)<big:=by decide
 have b:-big<(0:Int):=by decide
 have na:zW 5000 [.str s,.int i,.int j,d]:=by
  constructor
  ·intro x a;simp only[zJ6,zL1,zO0]at a;rcases a with rfl|rfl|rfl|rfl
   ·exact(rW f).mono (by decide)
   ·exact(zY.int (by omega) (by omega)).mono (by decide)
   ·exact(zY.int (by omega) (by omega)).mono (by decide)
   ·exact hn
  ·intro x a;simp only[zJ6,zL1,zO0]at a;rcases a with rfl|rfl|rfl|rfl
   ·exact zK7 _
   ·exact zK7 _
   ·exact zK7 _
   ·omega
 refine⟨?_,zY.tuple na (by show 4*(5000+2)+3<=20011;decide),?_,hn⟩
 ·show(wF (.tuple [.int i,.int j])&&zR (.str s) d)=true;rw[hw,Bool.and_true];unfold wF zt5;have e:(iT (.int i)&&iT (.int j))=true:=by
   show((decide (0<=i)&&decide (i<=1000000))&&(decide (0<=j)&&decide (j<=1000000)))=true;simp only[zN1,zU6];omega
  simp only[e,zX9,zU6];omega
 ·simp only[PyData.depth,PyData.depthAll];omega
theorem zo.rules {ds:List PyData}(h:zo ds):Rules ds:=λd hd=>⟨(h d hd).rule,(h d hd).nice.shaped,(h d hd).nice.nod⟩
theorem zo.nice {ds:List PyData}(h:zo ds)(a:ds.length<=100):zY sizeLine (.list ds):=by
 refine zY.list (n:=20011) ⟨λd hd=>(h d hd).nice,λd hd=>by have:=(h d hd).dep;omega⟩ ?_;have c:ds.length*(20011+2)<=100*(20011+2):=zY6 _ a;have b:100*(20011+2)+2<=sizeLine:=by decide
 omega
abbrev lJ :Stmt:=top 57
abbrev kD :Stmt:=top 58
abbrev gI :Stmt:=top 59
abbrev zg7 :Stmt:=top 60
abbrev cQ :Stmt:=top 61
theorem within_int {lo hi i:Int}(b:lo<=i)(a:i<=hi):yL lo hi (.int i)=true:=by
 show(decide (lo<=i)&&decide (i<=hi))=true;rw[zM8 b,zM8 a];rfl
theorem sk {i:Int}(h0:-2000000000000<=i)(a:i<=2000000000000):zY 2000 (.int i):=zY.int (by unfold big;omega) (by unfold big;omega)
def kd :Ph:=λas Q=>as=[.tape]/\∀z:Int,0<=z->z<=1000000000000->Q (.dat (.int z))
def sW :Ph:=λas Q=>∃a,as=[.tape,.dat (.str a)]/\a∈words/\∀d,zR (.str a) d=true->zY 5000 d->d.depth<=1->Q (.dat d)
def qJ :Ph:=λas Q=>∃y:Int,as=[.tape,.dat (.int y)]/\0<=y/\y<=1000000/\∀d,yQ d->Q (.dat d)
def fL :Ph:=λas Q=>as=[.tape]/\∀z:Int,0<=z->z<=999990->Q (.dat (.int z))
section
variable {P:Program}{w:World}{K:PySem.W.Frag}{mg:Str->Option Value}{base:Heap}
theorem iR (F:FnD K mg "_law_coins" lJ ["_law_row"])(a:Cal P w K mg base "_law_take" 1 xf):Cal P w K mg base "_law_coins" 2 kd:=by
 refine yn ["_law_row","_law_few_here","_law_many","_law_great"] F λ_ _ _ _ _ _ _ _ Q nd hr h=>?_;obtain⟨rfl,q⟩:=h;and_intros;refine⟨.inl ⟨by decide,by decide⟩,?_⟩;and_intros;refine⟨.inr ⟨by decide,by decide⟩,?_⟩;and_intros;refine⟨.inl ⟨by decide,by decide⟩,?_⟩;and_intros;refine⟨⟨by decide,by decide +kernel⟩,qD rfl (by omega) (by show _<(5:Int);omega) ?_⟩
 repeat refine⟨q _ (by omega) (by omega),?_⟩
 trivial
theorem jI (F:FnD K mg "_law_worth" kD ["_law_row","_law_word"])(j:Cal P w K mg base "_law_take" 1 xf)(k:Cal P w K mg base "_law_coins" 2 kd):Cal P w K mg base "_law_worth" 3 sW:=by
 refine yn ["_law_row","_law_word","_law_many","_law_free","_law_coins_here"] F λ_ _ _ _ _ _ _ _ Q nd hr h=>?_;obtain⟨c,rfl,hw,q⟩:=h;have e:∀z:Int,0<=z->z<=1000000000000->zR (.str c) (.int z)=true->Q (.dat (.int z)):=λz a b h=>q _ h ((sk (by omega) (by omega)).mono (by decide)) (zK7 _);have f:zR (.str c) .none=true->Q (.dat .none):=λh=>q _ h (zY.none.mono (by decide)) (zK7 _);have g:∀b,zR (.str c) (.bool b)=true->Q (.dat (.bool b)):=λb h=>q _ h ((zY.bool _).mono (by decide)) (zK7 _);simp only[words,zJ6,zL1,zO0]at hw;rcases hw with rfl|rfl|rfl|rfl|rfl|rfl|rfl<;>and_intros
 ·refine⟨rfl,λz a b=>?_⟩;and_intros;refine yC (λ_=>?_) λ_=>?_<;>and_intros
  ·exact f rfl
  ·exact e z a b (within_int a b)
 ·exact g _ rfl
 ·exact g _ rfl
 iterate 2
  ·refine rN (λd=>∃z:Int,d=.int z/\0<z/\z<=14) rfl (by assumption) (by assumption) ⟨⟨_,rfl,by decide,by decide⟩,⟨_,rfl,by decide,by decide⟩,trivial⟩ ?_;rintro _ ⟨z,rfl,_,_⟩;and_intros;exact e _ (by omega) (by omega) (within_int (by omega) (by omega))
 ·refine rN (λd=>∃z:Int,d=.int z/\0<z/\z<=13) rfl (by assumption) (by assumption) ⟨⟨_,rfl,by decide,by decide⟩,⟨_,rfl,by decide,by decide⟩,trivial⟩ ?_;rintro _ ⟨z,rfl,_,_⟩;and_intros;have n:∀{i:Int},0<=i->i<=14->zY 2000 (.int i):=λ_ _=>sk (by omega) (by omega);refine qD rfl (by assumption) (by assumption) ?_
  iterate 2 refine⟨q _ (zU4.mpr ⟨within_int (by omega) (by omega),within_int (by omega) (by omega)⟩) (zY.tuple (n:=2000) (zW.two (n (by omega) (by omega)) (n (by omega) (by omega)) (zK7 _) (zK7 _)) (by show 2*(2000+2)+3<=5000;decide)) (zJ5 _),?_⟩
  exact⟨f rfl,trivial⟩
 ·refine⟨rfl,λz a b=>?_⟩;and_intros;exact e z a b (within_int a b)
theorem fG (F:FnD K mg "_law_rule" gI ["_law_row","_law_day_here"])(nb:NbT mg)(e:Cal P w K mg base "_law_take" 1 xf)(k:Cal P w K mg base "_law_worth" 3 sW):Cal P w K mg base "_law_rule" 4 qJ:=by
 refine yn ["_law_row","_law_day_here","_law_word","_law_ahead","_law_first","_law_last"] F λ_ _ _ _ _ _ _ _ Q nd hr h=>?_;obtain⟨y,rfl,j,l,q⟩:=h;and_intros;refine rN (λd=>∃x,d=.str x/\x∈words) rfl (by assumption) (by assumption) ?_ ?_
 ·repeat refine⟨⟨_,rfl,by simp[words]⟩,?_⟩
  trivial
 rintro _ ⟨g,rfl,hw⟩;and_intros;refine rN (λd=>∃z:Int,d=.int z) rfl (by assumption) (by assumption) ⟨⟨_,rfl⟩,⟨_,rfl⟩,⟨_,rfl⟩,⟨_,rfl⟩,trivial⟩ ?_;rintro _ ⟨m,rfl⟩;and_intros;refine rN (λd=>∃z:Int,d=.int z/\0<=z) rfl (by assumption) (by assumption) ⟨⟨_,rfl,by omega⟩,⟨_,rfl,by omega⟩,⟨_,rfl,by omega⟩,⟨_,rfl,by omega⟩,⟨_,rfl,by omega⟩,trivial⟩ ?_;rintro _ ⟨f,rfl,_⟩;and_intros;refine⟨hw,λi c a b=>?_⟩;and_intros;refine q _ (yQ.of hw ?_ ?_ ?_ c a b)<;>repeat split
 all_goals omega
theorem zc6 (F:FnD K mg "_law_day" zg7 ["_law_row"])(a:Cal P w K mg base "_law_take" 1 xf):Cal P w K mg base "_law_day" 2 fL:=by
 refine yn ["_law_row"] F λ_ _ _ _ _ _ _ _ Q nd hr h=>?_;obtain⟨rfl,q⟩:=h;and_intros;refine qD rfl (by assumption) (by assumption) ?_
 repeat refine⟨q _ (by omega) (by omega),?_⟩
 trivial
end
theorem zo.snoc {ds:List PyData}{d:PyData}(h:zo ds)(hd:yQ d):zo (ds++[d]):=λx a=>by
 rcases zL6.mp a with a|a
 ·exact h x a
 ·rw[zL9.mp a];exact hd
theorem zo.app {ds es:List PyData}(h:zo ds)(h':zo es):zo (ds++es):=λx a=>by
 rcases zL6.mp a with a|a
 ·exact h x a
 ·exact h' x a
theorem zo.nil :zo []:=λx a=>by simp at a
abbrev jf :Stmt:=top 9
def sU :Ph:=λas Q=>∃c g:Int,as=[.dat (.tuple [.int c,.int g])]/\-100<=c/\c<g/\g<=c+500/\c<=1000100/\Q (.own ((zq c (g-c).toNat).map .int))
section
variable {P:Program}{w:World}{K:PySem.W.Frag}{mg:Str->Option Value}{base:Heap}{cs:Cs}
theorem mN (F:FnD K mg "nights_of" jf ["stay"])(nb:NbT mg):Cal P w K mg base "nights_of" 1 sU:=by
 refine yn ["stay"] F λ_ _ _ _ _ _ _ _ Q nd hr h=>?_;obtain⟨c,g,rfl,e,b,a,d,q⟩:=h;exact wW (nF rfl (by rfl) nb.list (by rfl) nb.range (yR (λ_ _=>rfl) (zb 0 rfl (zM (⟨_,_,_,rfl,rfl,rfl,yR (λ_ _=>rfl) (zb 0 rfl (zM (⟨_,_,_,rfl,rfl,rfl,⟨_,_,rfl,rfl,⟨by omega,by omega,by omega,by omega⟩,by omega,q⟩⟩)))⟩)))))
end
abbrev yv :Stmt:=top 17
def rS :Arguments×Scope:=match zv yv with
 |[.Return (some (.Call _ _ [⟨_,.Lambda ps _ sc _,_⟩] _)) _]=>(ps,sc)
 |_=>(zJ yv,zf yv)
section
variable {P:Program}{w:World}{K:PySem.W.Frag}{mg:Str->Option Value}{base:Heap}
theorem ao :zS ["prices","places"] ["prices","places"] (zf yv):=.o
theorem zw1 :xJ "place" "prices" rS.1 rS.2:=⟨rfl,rfl,rfl,rfl,rfl,by decide +kernel,by decide +kernel,by decide⟩
theorem zr0 {f c:Addr}{b:Around}{outer:List Env}{s:Shared}{H:Hp}{E:XK}{n1:Nat}{p1 p2 p3 p4 p5 p6:Pos}(hhd:PySem.W.codeHdIn K c yc=true)(a:K.In base)(hbi:base.BuiltinsAt mg yc):
  cU (wo CX0 P w K mg base ["prices","places"] "cheapest_first" (zf yv) f (.ref c) b outer s H E).nox c "place" "prices" n1 p1 p2 p3 p4 p5 p6 rS.1 rS.2 where
 S:=zw1
 hy:=rfl
 hcl:=λcl h=>by
  have e:rS.2.names=[(("prices":Str),NameKind.free),(("place":Str),NameKind.local)]\/rS.2.names=[(("place":Str),NameKind.local),(("prices":Str),NameKind.free)]:=by decide +kernel
  unfold closureFor;rcases e with e|e<;>rw[e]<;>simp[cellOf,h]
 hgl:=rfl
 hco:=rfl
 hhd:=PySem.W.codeHd_of_K a hhd
 hbi:=hbi
 hdf:=rfl
 hq:=rfl
 hne:=by decide
 hb:=λu cl c' pm ctv=>rfl
 hdx:=by decide
 hdy:=by decide
 hcx:=by decide
 hcy:=by decide
def qY :Ph:=λas Q=>∃ns zs:List Int,as=[.dat (.list (zs.map .int)),.dat (.list (ns.map .int))]/\ns.length<64/\(∀n∈ns,0<=n/\n<zs.length)/\∀ms,tO ns zs ms->Q (.own (ms.map .int))
theorem js {f c:Addr}{oc:Value}{od an:Option Addr}{osl:Array (Option Value)}{kV doc pm ct:Value}(e:K.lookup f=some ⟨oc,od,.func (PySem.W.fnOf "cheapest_first" "cheapest_first" (zJ yv) (zv yv) (zf yv) .none kV doc pm an (.ref c) ct),osl⟩)(d:PySem.W.codeIn K (.ref c) "cheapest_first"=true)(kp:PySem.W.keepIn K (.ref f)=true)
  (hm:mg "cheapest_first"=some (.ref f)) (hb:Binds K (PySem.W.fnOf "cheapest_first" "cheapest_first" (zJ yv) (zv yv) (zf yv) .none kV doc pm an (.ref c) ct) ["prices","places"] []) (nb:NbT mg) (hhd:PySem.W.codeHdIn K c yc=true) (i:K.In base) (hbi:base.BuiltinsAt mg yc):Cal P w K mg base "cheapest_first" 3 qY:=by
 refine⟨f,_,_,hm,kp,hb,zF6 e d ao (λas Q h=>by obtain⟨ns,zs,rfl,_⟩:=h;rfl) λl outer s H E as Q hr h=>?_⟩;obtain⟨ns,zs,rfl,b,a,q⟩:=h;exact wW (mn (j:=0) (k:=0) (zr0 hhd i hbi) hr (by rfl) nb.sorted rfl (zb 1 rfl ⟨ns,zs,rfl,rfl,b,a,λms g=>q ms g⟩))
end
abbrev vP :Stmt:=top 18
def zD0 :Scope:=match zv vP with
 |.Assign _ (.ListComp _ _ sc _) _::_=>sc
 |_=>zf vP
def tQ :Ph:=λas Q=>∃(zs:List Int) (d:PyData),as=[.dat (.list (zs.map .int)),.dat d]/\zs.length<=500/\
 ((d=.none/\Q (.own ((List.replicate zs.length false).map .bool)))\/∃many free:Nat,d=.tuple [.int many,.int free]/\0<many/\many<64/\∀bs,vD zs many free zs.length bs->Q (.own (bs.map .bool)))
theorem iI (ns:List Int):noLs (ns.map .int)=true:=by
 induction ns with
 |nil=>rfl
 |cons n ns a=>rw[zN7,noLs,a];rfl
section
variable {P:Program}{w:World}{K:PySem.W.Frag}{mg:Str->Option Value}{base:Heap}
theorem zD6 :zF ["prices","deal","marks","bundle","place","rank","other"] (zf vP) ["price"] [none] zD0:=⟨rfl,by decide +kernel,by decide +kernel,by decide +kernel,by decide +kernel,rfl,by decide +kernel⟩
theorem mW (F:FnD K mg "marked" vP ["prices","deal"])(nb:NbT mg)(L:Cal P w K mg base "cheapest_first" 3 qY):Cal P w K mg base "marked" 4 tQ:=by
 refine yn ["prices","deal","marks","bundle","place","rank","other"] F λ_ _ R _ _ _ _ _ Q nd hr h=>?_;obtain⟨zs,d,rfl,hlen,h⟩:=h;refine zi8 2 (pat:=.one 0) nd rfl zD6 rfl (λ_ _ _ _=>zD (i:=0) zD6.nd rfl (Or.inl rfl)) (yM (zb 0 rfl ⟨_,rfl,?_,?comp⟩))
 ·rw[zJ3];omega
 refine vG (λ_=>true) (λ_=>.bool false) (λd hd=>⟨_,rfl,λ_ _ _ _ _ k=>mC k,λ_ _ _ _ _ _ k=>gh k⟩) ?_;have J:([]:List PyData)++List.map (λ_=>PyData.bool false) (List.filter (λ_=>true) (List.map PyData.int zs))=(List.replicate zs.length false).map .bool:=by
  rw[zZ8,eL,List.map_map,List.map_replicate];exact List.eq_replicate_iff.mpr ⟨by simp,by simp⟩
 rw[J];rcases h with⟨rfl,q⟩|⟨many,free,rfl,g,m,q⟩
 ·refine xi (wy (zb 1 rfl ?_));exact xV 2 rfl q
 refine xi (wy (zb 1 rfl (zx ?_)));refine xQ 3 nd (xZ (zu ⟨_,rfl,zK7 _,?_⟩));refine qO (pat:=.one 4) z00 rfl (zD (i:=4) nd rfl (Or.inl rfl)) (uo (by rfl) nb.range (wJ (by rfl) nb.len (zb 0 rfl ⟨_,rfl,⟨_,rfl,by omega,by rw[zJ3];omega,?_⟩⟩)));refine zZ (λi α=>∃(bs:List Bool) (C p o:Option A),vD zs many free i bs/\α=[some (.dat (.list (zs.map .int))),some (.dat (.tuple [.int many,.int free])),some (.own (bs.map .bool)),some (.own ((zq ((i / many*many:Nat):Int) (i % many)).map .int)),C,p,o]) ?_ ?_ ?_
 ·refine⟨_,none,none,none,jL zs free,?_⟩;rw[Nat.zero_mod,Nat.zero_div];rfl
 ·rintro i d α hd ⟨bs,C,p,o,mk,rfl⟩;have hi:i<zs.length:=by
   have:=(zK1.mp hd).1;simpa[zc]using this
  obtain rfl:d=.int (i:Int):=by
   rw[zK8,yF (by simpa using hi)]at hd;simpa using hd.symm
  refine⟨_,rfl,?_⟩;have H:=Nat.mod_lt i g;refine vd 3 rfl (zb 4 rfl ⟨by rw[zJ3,zc];omega,?_⟩);have I:List.map PyData.int (zq ((i / many*many:Nat):Int) (i % many))++[PyData.int (i:Int)]=(zq ((i / many*many:Nat):Int) (i % many+1)).map .int:=by
   have e:=zZ9 i many;have M:i / many*many=many*(i / many):=Nat.mul_comm _ _;rw[pR,zV8]
   congr 1
   simp only[zN7,List.map_nil]
   congr 2
   omega
  rw[I];refine xi (vW 3 rfl (zm1 (wJ (by rfl) nb.len (zb 3 rfl ⟨_,rfl,yR (λ_ _=>rfl) (zb 1 rfl (zM ⟨_,_,_,rfl,rfl,at0,_,_,rfl,rfl,?_⟩))⟩))));refine gO (λy=>?_) (λy=>zx ?_)
  ·have c:i % many+1=many:=by
    rw[zJ3,zc]at y;omega
   rw[c];have s:∀n∈zq ((i / many*many:Nat):Int) many,0<=n/\n<zs.length:=λn hn=>by
    rw[yf]at hn;have e:=zZ9 i many;have M:i / many*many=many*(i / many):=Nat.mul_comm _ _;omega
   refine qO (pat:=.many [5,6]) z00 rfl (xC (n:=2) (K:=K) rfl rfl (zT (zD (i:=5) nd rfl (Or.inl rfl)) (zT (zD (i:=6) nd rfl (Or.inl rfl)) (xT))))
    (qR (by rfl) nb.enumerate (EvL.d (za5 3 rfl (wD L hr (by rfl) (zk (zb 0 rfl (zk (zb 3 rfl (zu ⟨_,zs,rfl,by rw[zc];exact m,s,λms u=>⟨_,rfl,iI ms,_,rfl,?_⟩⟩)))))))))
   have D:ms.length=many:=by rw[u.1.length_eq,zc]
   refine zZ (λr α=>∃(a:List Bool) (p5 p6:Option A),(a.length=bs.length/\(∀q,q<r->a.getD (ms.getD q 0).toNat false=decide (q<free))/\∀j,(∀q,q<r->(ms.getD q 0).toNat≠j)->a.getD j false=bs.getD j false)/\
    α=[some (.dat (.list (zs.map .int))),some (.dat (.tuple [.int many,.int free])),some (.own (a.map .bool)),some (.own ((zq ((i / many*many:Nat):Int) many).map .int)),some (.dat (.int i)),p5,p6]) ?_ ?_ ?_
   ·exact⟨bs,p,o,⟨rfl,λq h=>absurd h (z40 _),λ_ _=>rfl⟩,rfl⟩
   ·rintro r d α hd ⟨a,p5,p6,⟨f0,f1,f2⟩,rfl⟩;obtain⟨e,he,rfl⟩:=xD hd;have f:r<ms.length:=by
     have:=(zK1.mp he).1;simpa using this
    obtain rfl:e=.int (ms.getD r 0):=by
     rw[zK8,zJ2 f]at he;rw[zJ7,zJ2 f];simpa using he.symm
    refine⟨_,rfl,?_⟩;have t:=vc u (q:=r) (by omega);have B:=s (ms.getD r 0) (yf.mpr t);obtain⟨j,v⟩:=z07 B.1;rw[v];have N:j<a.length:=by rw[f0,mk.1];omega
    refine cJ 2 rfl (ze4 (zb 5 rfl (yR (λ_ _=>rfl) (zb 1 rfl (zM ⟨_,_,_,rfl,rfl,xR (j:=1) rfl,_,_,rfl,rfl,zb 6 rfl ⟨_,j,rfl,?_,zx ?_⟩⟩)))))
    ·unfold ixN;rw[if_pos (by omega),if_pos (by rw[zJ3];omega)];simp
    ·refine⟨a.set j (decide (r<free)),some (.dat (.int ((0+r:Nat):Int))),some (.dat (.int (j:Int))),⟨?_,λq hq=>?_,λl G=>?_⟩,?_⟩
     ·rw[zO4,f0]
     ·by_cases x:q=r
      ·subst x;rw[v,zR7,zJ7,zR3 N];rfl
      ·have hne:(ms.getD q 0).toNat≠j:=λz=>by
        have nd:ms.Nodup:=u.1.nodup_iff.mpr (qg _ _);have a1:=(vc u (q:=q) (by omega)).1;have E:ms.getD q 0=ms.getD r 0:=by rw[v];omega
        rw[zJ7,zJ7,zJ2 (by omega),zJ2 f]at E;exact(zQ5.mp nd q r (by omega) f (by omega)) E
       rw[zJ7,zP4 hne.symm,<-zJ7,f1 q (by omega)]
     ·have hne:j≠l:=λz=>G r (zP2 _) (by rw[v];omega);rw[zJ7,zP4 hne,<-zJ7,f2 l λq hq=>G q (by omega)]
     ·have O:decide (((0+r:Nat):Int)<(free:Int))=decide (r<free):=by rw[decide_eq_decide];omega
      rw[O,List.map_set];rfl
   ·rintro α ⟨a,p5,p6,⟨f0,f1,f2⟩,rfl⟩;refine xQ 3 nd (xZ (zu ⟨_,rfl,zK7 _,zx ?_⟩));rw[wV,zJ3,D]at f1 f2;refine zx ?_;refine⟨a,some (.dat (.int i)),p5,p6,iK g c mk u f0 f1 f2,?_⟩;rw[(pT g c).2.1];rfl
  ·have b:i % many+1<many:=by
    rw[zJ3,zc]at y;omega
   refine zx ?_;refine⟨bs,some (.dat (.int i)),p,o,jS g b mk,?_⟩;rw[(sV g b).1,(sV g b).2];rfl
 ·rintro α ⟨bs,C,p,o,mk,rfl⟩;have el:(List.map PyData.int (zq 0 ((List.map PyData.int zs).length:Int).toNat)).length=zs.length:=by simp[zc]
  rw[el]at mk;exact xV 2 rfl (q bs mk)
end
abbrev sNP :Stmt:=top 19
abbrev tP :Stmt:=top 20
def aE :Scope:=match (zv tP).getD 5 (.Pass ⟨0,0,0,0⟩)with
 |.Assign _ (.Call _ [.ListComp _ _ sc _] _ _) _=>sc
 |_=>zf tP
def zC8 (C:Addr)(cs:Cs):Ph:=λas Q=>∃(ds:List PyData) (ns:List Int) (pr:Int->Int),as=[.dat (zE C cs ds),.dat (.list (ns.map .int))]/\Rules ds/\ns.length<=900/\(∀z∈ns,zj ds "price" z=.int (pr z))/\Q (.own ((ns.map pr).map .int))
def eG (C:Addr)(cs:Cs):Ph:=λas Q=>∃(ds:List PyData) (c g fee:Int) (pr:Int->Int),as=[.dat (zE C cs ds),.dat (.tuple [.int c,.int g])]/\Rules ds/\0<=c/\c<g/\g<=c+400/\c<=1000000/\(∀z,c<=z->z<g->zj ds "price" z=.int (pr z)/\0<=pr z/\pr z<=1000000000000)/\
 (zj ds "deal" c=.none\/∃many free:Nat,zj ds "deal" c=.tuple [.int many,.int free]/\0<many/\many<64)/\zj ds "fee" c=.int fee/\
 ∀bs,xH (zj ds "deal" c) ((zq c (g-c).toNat).map pr) bs->Q (.dat (.tuple [.int ((yg ((zq c (g-c).toNat).map pr) bs).sum+fee),.list (xE ((zq c (g-c).toNat).map .int) (((zq c (g-c).toNat).map pr).map .int) (bs.map .bool)),.int fee]))
section
variable {P:Program}{w:World}{K:PySem.W.Frag}{mg:Str->Option Value}{base:Heap}{cs:Cs}
theorem zr7 {C:Addr}(F:FnD K mg "night_prices" sNP ["book","nights"])(f:xv P w K mg base C "tells_of" 2 (tG C cs)):Cal P w K mg base "night_prices" 3 (zC8 C cs):=by
 refine yn ["book","nights","prices","night","price"] F λ_ _ k _ _ _ _ _ Q nd hr h=>?_;obtain⟨ds,ns,pr,rfl,c,j,g,q⟩:=h;refine xQ 2 nd (xZ (zu ⟨_,rfl,zK7 _,?_⟩));refine qO (pat:=.one 3) z00 rfl (zD (i:=3) nd rfl (Or.inl rfl)) (yM (zb 1 rfl ⟨_,rfl,?_⟩));refine zZ (λi α=>∃b a:Option A,α=[some (.dat (zE C cs ds)),some (.dat (.list (ns.map .int))),some (.own (((ns.take i).map pr).map .int)),b,a]) ⟨none,none,rfl⟩ ?_ ?_
 ·rintro i d α hd ⟨b,a,rfl⟩;rw[zK8,zM2]at hd;obtain⟨z,hz,rfl⟩:=hd;have hi:i<ns.length:=(zK1.mp hz).1;have e:=g z (zO3 hz);refine⟨_,rfl,?_⟩;refine yb 4 nd (wL f hr (zb 0 rfl ⟨_,rfl,rfl,zk (vv (zk (zb 3 rfl (zu ⟨ds,_,_,rfl,c,by simp[words],?_⟩))))⟩));show SvS _ (List.set _ _ (some (.dat (zj ds "price" z)))) _ _;rw[e];refine xi (wy (zb 4 rfl ?_));refine yC (λh=>by cases h) (λ_=>zx ?_);refine vd 2 rfl (zb 4 rfl ⟨by rw[zJ3,zJ3,zM3];omega,zx ⟨some (.dat (.int z)),some (.dat (.int (pr z))),?_⟩⟩);rw[zU7,hz,zV8,zV8];rfl
 ·rintro α ⟨b,a,rfl⟩;rw[zJ3,zS3];exact xV 2 rfl q
theorem zw7 :zF ["book","stay","nights","prices","marks","fee","rows","paid"] (zf tP) ["row"] [none] aE:=⟨rfl,by decide +kernel,by decide +kernel,by decide +kernel,by decide +kernel,rfl,by decide +kernel⟩
theorem gL {C:Addr}(F:FnD K mg "bill" tP ["book","stay"])(nb:NbT mg)(u:xv P w K mg base C "tells_of" 2 (tG C cs))(v:Cal P w K mg base "nights_of" 1 sU)(I:Cal P w K mg base "night_prices" 3 (zC8 C cs))(D:Cal P w K mg base "marked" 4 tQ):
  Cal P w K mg base "bill" 5 (eG C cs):=by
 refine yn ["book","stay","nights","prices","marks","fee","rows","paid"] F λf cdv L outer s H E _ Q nd hr h=>?_;obtain⟨ds,c,g,fee,pr,rfl,p,M,G,gl,O,l,a,e,q⟩:=h;generalize hn:(g-c).toNat=n at q;have B:0<n:=by omega
 have J:n<=400:=by omega
 refine yb 2 nd (EvL.d (wD v (hr.mono (by decide)) (by rfl) (zk (zb 1 rfl (zu ⟨c,g,rfl,by omega,G,by omega,by omega,_,rfl,?_⟩)))));rw[hn];refine yb 3 nd (EvL.d (wD I (hr.mono (by decide)) (by rfl) (zk (zb 0 rfl (zk (zb 2 rfl (zu ⟨ds,zq c n,pr,rfl,p,by rw[zc];omega,λz hz=>(l z (yf.mp hz).1 (by have:=(yf.mp hz).2;omega)).1,_,rfl,?_⟩)))))));have m:((zq c n).map pr).length=n:=by rw[zJ3,zc]
 refine yb 4 nd (EvL.d (wD D hr (by rfl) (zk (zb 3 rfl (zk (wL u (hr.mono (by decide)) (zb 0 rfl ⟨_,rfl,rfl,zk (vv (zk (yR (λ_ _=>rfl) (zb 1 rfl (zM ⟨_,_,_,rfl,rfl,at0,zu ⟨ds,_,_,rfl,p,by simp[words],zu ⟨_,_,rfl,by omega,?_⟩⟩⟩)))))⟩)))))));have key:∀bs,xH (zj ds "deal" c) ((zq c n).map pr) bs->SvS (wo CX0 P w K mg base ["book","stay","nights","prices","marks","fee","rows","paid"] "bill" (zf tP) f cdv L outer s H E).nox
   [some (.dat (zE C cs ds)),some (.dat (.tuple [.int c,.int g])),some (.dat (.list ((zq c n).map .int))),some (.dat (.list (((zq c n).map pr).map .int))),some (.dat (.list (bs.map .bool))),none,none,none] ((zv tP).drop 3) {nx:=λ_=>Q (.dat .none),rt:=Q}:=by
  intro bs mk;have o:=mk.len;refine yb 5 nd (wL u (hr.mono (by decide)) (zb 0 rfl ⟨_,rfl,rfl,zk (vv (zk (yR (λ_ _=>rfl) (zb 1 rfl (zM ⟨_,_,_,rfl,rfl,at0,zu ⟨ds,_,_,rfl,p,by simp[words],?_⟩⟩)))))⟩));show SvS _ (List.set _ _ (some (.dat (zj ds "fee" c)))) _ _;rw[e];refine yb 6 nd (EvL.d (oN rfl (by rfl) nb.list (by rfl) nb.zip (zk (zb 2 rfl (zk (zb 3 rfl (zk (zb 4 rfl (zu ⟨_,_,_,rfl,?_,?_,?_,?_,?_⟩)))))))))
  ·rw[zJ3,zJ3,zJ3]
  ·rw[zJ3,zJ3,o,m,zc]
  ·rw[zJ3,zc];omega
  ·rw[zJ3,zc];omega
  have pm:∀z∈yg ((zq c n).map pr) bs,0<=z/\z<=1000000000000:=λz hz=>by
   obtain⟨y,hy,rfl⟩:=z02.mp (uC hz);have hy:=yf.mp hy;exact(l y hy.1 (by omega)).2
  refine yb 7 nd (aS rfl (by rfl) nb.sum (EvL.d (eE (pat:=.one 0) rfl zw7 rfl (λ_ _ _ _=>zD (i:=0) zw7.nd rfl (Or.inl rfl)) (yM (zb 6 rfl ⟨_,rfl,?_,?comp⟩)))))
  ·rw[uH (by rw[zJ3,zJ3,zJ3]) (by rw[zJ3,zJ3,o,m,zc]),zJ3,zc];omega
  refine vG (λd=>!tK d) (zo4 1) (λd hd=>?_) ?_
  ·obtain⟨j,A⟩:=List.mem_iff_getElem?.mp hd;obtain⟨x,y,z,e1,N,t,rfl⟩:=uk A;rw[zK8,zM2]at t;obtain⟨b,_,rfl⟩:=t;exact⟨_,rfl,λ_ _ _ _ _ k=>mH (gR (cH (yR (λ_ _=>rfl) (zb 0 rfl (zM ⟨_,_,_,rfl,rfl,xR (j:=2) rfl,⟨_,rfl,k⟩⟩))))),λ_ _ _ _ _ _ k=>yR (λ_ _=>rfl) (zb 0 rfl (zM ⟨_,_,_,rfl,rfl,xR (j:=1) rfl,k⟩))⟩
  ·rw[zZ8,rp (by rw[m,zJ3,zc]) (by rw[o,m,zJ3,zc])];refine⟨_,rfl,λz hz=>by have:=pm z hz;omega,mv pm (zK0 (qc _ _) (by omega)),?_⟩;exact xy (wc (zk (si (zb 7 rfl (zb 5 rfl ⟨_,_,rfl,rfl,zk (zb 6 rfl (zk (zb 5 rfl (zu ⟨_,rfl,zN8 rfl,q bs mk⟩))))⟩)))))
 rcases a with hd|⟨many,free,hd,m0,r⟩
 ·exact .inl ⟨hd,⟨_,rfl,key _ (.inl ⟨hd,rfl⟩)⟩⟩
 ·exact .inr ⟨many,free,hd,m0,r,λbs mk=>⟨_,rfl,key bs (.inr ⟨many,free,hd,mk⟩)⟩⟩
end
abbrev oW :Stmt:=top 22
abbrev zy6 :Stmt:=top 23
abbrev ze6 :Stmt:=top 24
abbrev zC7 :Stmt:=top 25
theorem iU {x:Str}(h:x∈words):zR (.str x) (eW x)=true:=by
 simp only[words,zJ6,zL1,zO0]at h;rcases h with rfl|rfl|rfl|rfl|rfl|rfl|rfl<;>decide +kernel
theorem yj {ds:List PyData}(h:∀d∈ds,yr d=true){x:Str}(b:x∈words)(day:Int):zR (.str x) (zj ds x day)=true:=by
 unfold zj;split
 ·rename_i d e;obtain⟨u,i,j,v,c,rfl,_,_,_,hw⟩:=zV (h d (List.mem_reverse.mp (List.mem_of_find?_eq_some e)));have:=List.find?_some e;have a:(decide (u=x)&&(decide (i<=day)&&decide (day<=j)))=true:=this;rw[zN1,zU6]at a;rw[<-a.1];exact hw
 ·exact iU b
def isF :PyData->Bool
 |.bool b=>!b
 |_=>false
def intOf :PyData->Int
 |.int i=>i
 |_=>0
section
variable {ds:List PyData}(h:∀d∈ds,yr d=true)(day:Int)
include h
theorem zt1 :∃b,zj ds "come" day=.bool b:=bool_inv (by rw[<-me];exact yj h (by simp[words]) day)
theorem zH5 :∃b,zj ds "go" day=.bool b:=bool_inv (by rw[<-eH];exact yj h (by simp[words]) day)
theorem aR :∃i,zj ds "least" day=.int i/\1<=i/\i<=14:=zA (by rw[<-oX];exact yj h (by simp[words]) day)
theorem zs9 :∃i,zj ds "most" day=.int i/\1<=i/\i<=14:=zA (by rw[<-mT];exact yj h (by simp[words]) day)
theorem zv6 :∃i,zj ds "fee" day=.int i/\0<=i/\i<=1000000000000:=zA (by
 have:=yj h (x:="fee") (by simp[words]) day;rw[jY]at this;exact this)
theorem za7 :zj ds "price" day=.none\/∃i,zj ds "price" day=.int i/\0<=i/\i<=1000000000000:=by
 have:=yj h (x:="price") (by simp[words]) day;rw[nj,zZ7]at this;rcases this with z|z
 ·left;cases e:zj ds "price" day with
  |none=>rfl
  |_=>rw[e]at z;cases z
 ·exact .inr (zA z)
end
def pB (x:Str)(d:Int):PyData:=.tuple [.str x,.int d]
def yW (ds:List PyData)(c:Int)(n:Nat):List PyData:=((zq c n).filter λz=>xp (zj ds "price" z)).map (pB "price")
def opt (b:Bool)(d:PyData):List PyData:=if b=true then [d]else []
def xG (ds:List PyData)(c g:Int):List PyData:=yW ds c (g-c).toNat++opt (isF (zj ds "come" c)) (pB "come" c)++opt (isF (zj ds "go" g)) (pB "go" g)++opt (decide (g-c<intOf (zj ds "least" c))) (pB "least" c)++opt (decide (intOf (zj ds "most" c)<g-c)) (pB "most" c)
theorem vX (b:Bool)(d:PyData):(opt b d).length<=1:=by unfold opt;split<;>simp
theorem uT (ds:List PyData)(c:Int)(n:Nat):(yW ds c n).length<=n:=by
 unfold yW;rw[zJ3];have:=List.length_filter_le (λz=>xp (zj ds "price" z)) (zq c n);rw[zc]at this;exact this
def mK (C:Addr)(cs:Cs):Ph:=λas Q=>∃ds c g,as=[.dat (zE C cs ds),.dat (.tuple [.int c,.int g])]/\Rules ds/\-100<=c/\c<g/\g<=c+100/\c<=1000100/\Q (.own (xG ds c g))
def zc4 :Scope:=match zv oW with
 |[_,_,.Assign _ (.ListComp _ _ sc _) _,_,_,_,_,_]=>sc
 |_=>zf oW
section
variable {P:Program}{w:World}{K:PySem.W.Frag}{mg:Str->Option Value}{base:Heap}{cs:Cs}
theorem zC1 :zF ["book","stay","come","go","told"] (zf oW) ["night","book"] [none,some 0] zc4:=⟨rfl,by decide +kernel,by decide +kernel,by decide +kernel,by decide +kernel,rfl,by decide +kernel⟩
theorem pS (ds:List PyData)(ns:List Int)(f:PyData->Bool)(hf:∀z,f (.int z)=xp (zj ds "price" z))(g:PyData->PyData)(hg:∀z,g (.int z)=pB "price" z):((ns.map PyData.int).filter f).map g=(ns.filter λz=>xp (zj ds "price" z)).map (pB "price"):=by
 rw[List.filter_map,List.map_map];have e1:(f∘PyData.int)=λz=>xp (zj ds "price" z):=funext hf;have a:(g∘PyData.int)=pB "price":=funext hg;rw[e1,a]
def zC2 :PyData->Int
 |.int z=>z
 |_=>0
abbrev qV (C:Addr)(cs:Cs)(ds:List PyData)(c g:Int)(l:List PyData):List (Option A):=[some (.dat (zE C cs ds)),some (.dat (.tuple [.int c,.int g])),some (.dat (.int c)),some (.dat (.int g)),some (.own l)]
theorem cE {C:Addr}(F:FnD K mg "bars" oW ["book","stay"])(p:Cal P w K mg base "nights_of" 1 sU)(r:xv P w K mg base C "tells_of" 2 (tG C cs)):Cal P w K mg base "bars" 3 (mK C cs):=by
 refine yn ["book","stay","come","go","told"] F λ_ _ _ _ _ _ _ _ Q nd hr h=>?_;obtain⟨ds,c,g,rfl,e,u,x,g1,v,q⟩:=h;have o:∀d∈ds,yr d=true:=λd hd=>(e d hd).1;refine yb 2 nd (yR (λ_ _=>rfl) (zb 1 rfl (zM (⟨_,_,_,rfl,rfl,rfl,?_⟩))));refine yb 3 nd (yR (λ_ _=>rfl) (zb 1 rfl (zM (⟨_,_,_,rfl,rfl,rfl,?_⟩))));refine xN (·=qV C cs ds c g (yW ds c (g-c).toNat)) ?_ ?_
 ·refine zi8 4 (pat:=.one 0) nd rfl zC1 rfl (λ_ _ _ _=>zD (i:=0) zC1.nd rfl (by first|exact Or.inl rfl|exact Or.inr rfl)) (yM (EvL.d (wD p (hr.mono (by decide)) (by rfl) (zk (zb 1 rfl (zu (⟨c,g,rfl,by omega,by omega,by omega,by omega,⟨_,rfl,⟨_,rfl,⟨by rw[zJ3,zc];omega,?comp⟩⟩⟩⟩)))))))
  case comp=>
   refine vG (λd=>xp (zj ds "price" (zC2 d))) (λd=>pB "price" (zC2 d)) (λd hd=>?_) ?_
   ·obtain⟨z,_,rfl⟩:=z02.mp hd;refine⟨_,rfl,λC s2 s fp Q k=>mH (wy (wL r hr (zb 1 rfl ⟨_,rfl,rfl,zk (vv (zk (zb 0 rfl (zu ⟨ds,_,_,rfl,e,by simp[words],k⟩))))⟩))),λ_ C s2 s fp Q k=>wc (zk (vv (zk (zb 0 rfl (zu (⟨_,rfl,zN8 rfl,k⟩))))))⟩
   ·refine zx ?_;rw[zZ8,pS ds _ _ (λ_=>rfl) _ (λ_=>rfl)];rfl
 rintro α rfl;have t:=uT ds c (g-c).toNat;obtain⟨j,f⟩:=zt1 o c;obtain⟨n,m⟩:=zH5 o g;obtain⟨a,el,_,_⟩:=aR o c;obtain⟨im,em,_,_⟩:=zs9 o c;have B:∀(l:List PyData) (b:Bool) (d:PyData) (k:Nat),l.length<=k->(l++opt b d).length<=k+1:=λl b d k h=>by have:=vX b d;rw[zM9];omega
 have l1:=B _ (isF (zj ds "come" c)) (pB "come" c) _ t;have l2:=B _ (isF (zj ds "go" g)) (pB "go" g) _ l1;have l3:=B _ (decide (g-c<intOf (zj ds "least" c))) (pB "least" c) _ l2;unfold xG at q;rw[f,m,el,em]at q;rw[f,m,el]at l3;rw[f,m]at l2;rw[f]at l1;refine xN (·=qV C cs ds c g (yW ds c (g-c).toNat++opt (isF (.bool j)) (pB "come" c))) ?_ ?_
 ·and_intros;refine⟨ds,_,_,rfl,e,by simp[words],⟨j,by rw[f];rfl,?_⟩⟩;cases j<;>and_intros
  ·exact⟨by omega,zx (zx rfl)⟩
  ·exact congrArg (qV C cs ds c g) (zQ3 _).symm
 rintro α rfl;generalize yW ds c (g-c).toNat++opt (isF (.bool j)) (pB "come" c)=acc at *;refine xN (·=qV C cs ds c g (acc++opt (isF (.bool n)) (pB "go" g))) ?_ ?_
 ·and_intros;refine⟨ds,_,_,rfl,e,by simp[words],⟨n,by rw[m];rfl,?_⟩⟩;cases n<;>and_intros
  ·exact⟨by omega,zx (zx rfl)⟩
  ·exact congrArg (qV C cs ds c g) (zQ3 _).symm
 rintro α rfl;generalize acc++opt (isF (.bool n)) (pB "go" g)=acc at *;refine xN (·=qV C cs ds c g (acc++opt (decide (g-c<a)) (pB "least" c))) ?_ ?_
 ·and_intros;refine⟨ds,_,_,rfl,e,by simp[words],⟨_,a,rfl,el,?_⟩⟩;generalize decide (g-c<a)=b;cases b<;>and_intros
  ·exact congrArg (qV C cs ds c g) (zQ3 _).symm
  ·exact⟨by omega,zx (zx rfl)⟩
 rintro α rfl
 change (acc++opt (decide (g-c<a)) (pB "least" c)).length<=_ at l3
 change Q (.own (acc++opt (decide (g-c<a)) (pB "least" c)++_))at q
 generalize acc++opt (decide (g-c<a)) (pB "least" c)=acc at *;refine xN (·=qV C cs ds c g (acc++opt (decide (im<g-c)) (pB "most" c))) ?_ ?_
 ·and_intros;refine⟨ds,_,_,rfl,e,by simp[words],⟨_,im,rfl,em,?_⟩⟩;generalize decide (im<g-c)=b;cases b<;>and_intros
  ·exact congrArg (qV C cs ds c g) (zQ3 _).symm
  ·exact⟨by omega,zx (zx rfl)⟩
 rintro α rfl;exact xV 4 rfl q
end
theorem dI {d:PyData}(h:rj d=true):∃many free:Nat,d=.tuple [.int many,.int free]/\0<free/\free<many/\many<64:=by
 unfold rj at h;split at h
 ·rename_i m r;rw[zN1]at h;obtain⟨i,e,b,i1⟩:=zA h.1;obtain⟨j,a,f,c⟩:=zA h.2;subst a;injection e with e;subst e;refine⟨m.toNat,j.toNat,?_,by omega,by omega,by omega⟩;rw[show((m.toNat:Nat):Int)=m by omega,show((j.toNat:Nat):Int)=j by omega]
 ·cases h
theorem eM {ds:List PyData}(h:∀d∈ds,yr d=true)(day:Int):eN (zj ds "deal" day):=by
 have:=yj h (x:="deal") (by simp[words]) day;rw[nZ,zZ7]at this;rcases this with z|z
 ·left;cases e:zj ds "deal" day with
  |none=>rfl
  |_=>rw[e]at z;cases z
 ·exact .inr (dI z)
theorem zo.all {ds:List PyData}(h:zo ds):∀d∈ds,yr d=true:=λd hd=>(h d hd).rule
def nv (ds:List PyData)(c g:Int):Prop:=∀z,c<=z->z<g->xp (zj ds "price" z)=false
def prs (ds:List PyData)(c g:Int):List Int:=(zq c (g-c).toNat).map λz=>intOf (zj ds "price" z)
def vh (ds:List PyData)(c:Int):Int:=intOf (zj ds "fee" c)
theorem sg {ds:List PyData}{c g z:Int}(h:zo ds)(s:nv ds c g)(h0:c<=z)(b:z<g):zj ds "price" z=.int (intOf (zj ds "price" z))/\0<=intOf (zj ds "price" z)/\intOf (zj ds "price" z)<=1000000000000:=by
 rcases za7 h.all z with e|⟨i,e,a,i1⟩
 ·have:=s z h0 b;rw[e]at this;cases this
 ·rw[e];exact⟨rfl,a,i1⟩
theorem bD {ds:List PyData}(h:zo ds)(c:Int):zj ds "fee" c=.int (vh ds c)/\0<=vh ds c/\vh ds c<=1000000000000:=by
 obtain⟨i,e,a,i1⟩:=zv6 h.all c;unfold vh;rw[e];exact⟨rfl,a,i1⟩
def vn (c g:Int):Prop:=0<=c/\c<g/\g<=c+14/\g<=1000000
def qT (C:Addr)(cs:Cs):Ph:=λas Q=>∃(ds:List PyData) (c g:Int),as=[.dat (zE C cs ds),.dat (.tuple [.int c,.int g])]/\zo ds/\vn c g/\nv ds c g/\
 ∀bs rows,xH (zj ds "deal" c) (prs ds c g) bs->Q (.dat (.tuple [.int ((yg (prs ds c g) bs).sum+vh ds c),rows,.int (vh ds c)]))
def rq (ds:List PyData)(c g:Int):Bool:=(xG ds c g).isEmpty
noncomputable def zm6 (ds:List PyData)(c g:Int):List Bool:=Classical.epsilon λbs=>xH (zj ds "deal" c) (prs ds c g) bs
noncomputable def coD (ds:List PyData)(c g:Int):Int:=(yg (prs ds c g) (zm6 ds c g)).sum+vh ds c
noncomputable def coO (ds:List PyData)(c g:Int):Option Int:=if rq ds c g=true then some (coD ds c g)else none
def oD :Option Int->PyData
 |some z=>.int z
 |none=>.none
theorem jg {ds:List PyData}{c g y:Int}(a:zo ds)(so:nv ds c g)(h:y∈prs ds c g):0<=y/\y<=1000000000000:=by
 obtain⟨z,hz,rfl⟩:=z02.mp h;have hz:=yf.mp hz;exact(sg a so hz.1 (by omega)).2
theorem zj4 {ds:List PyData}{c g:Int}{bs:List Bool}(a:zo ds)(so:nv ds c g)(mk:xH (zj ds "deal" c) (prs ds c g) bs):(yg (prs ds c g) bs).sum+vh ds c=coD ds c g:=by
 have b:xH (zj ds "deal" c) (prs ds c g) (zm6 ds c g):=Classical.epsilon_spec (p:=λbs=>xH (zj ds "deal" c) (prs ds c g) bs) ⟨bs,mk⟩;have:=mG (e:=0) mk b (eM a.all c) rfl (by simp) (λi hi=>zR4 _) (λz hz=>(jg a so hz).1) λz hz=>(jg a so hz).1;unfold coD;omega
theorem xq {α:Type}{a b:List α}:(a++b).isEmpty=(a.isEmpty&&b.isEmpty):=by cases a<;>rfl
theorem tw {b:Bool}{d:PyData}:(opt b d).isEmpty=!b:=by cases b<;>rfl
theorem bu {ds:List PyData}{c g:Int}:rq ds c g=true↔nv ds c g/\isF (zj ds "come" c)=false/\isF (zj ds "go" g)=false/\¬g-c<intOf (zj ds "least" c)/\¬intOf (zj ds "most" c)<g-c:=by
 unfold rq xG;rw[xq,xq,xq,xq,tw,tw,tw,tw];have:(yW ds c (g-c).toNat).isEmpty=true↔nv ds c g:=by
  unfold yW nv;rw[List.isEmpty_iff,List.map_eq_nil_iff,List.filter_eq_nil_iff];refine⟨λh z a b=>?_,λh z hz=>?_⟩
  ·have:=h z (yf.mpr ⟨a,by omega⟩);simpa using this
  ·have hz:=yf.mp hz;rw[h z hz.1 (by omega)];decide
 simp only[zN1,this,Bool.not_eq_true',z08,and_assoc]
theorem vT {ds:List PyData}{c g:Int}(h:rq ds c g=true):nv ds c g:=(bu.mp h).1
theorem ou {ds:List PyData}{c g:Int}(e:c<=g){d:PyData}(h:d∈xG ds c g):∃(x:Str) (z:Int),d=pB x z/\x∈words/\c<=z/\z<=g:=by
 unfold xG at h;simp only[zL6]at h;have a:∀{b:Bool} {x:Str} {z:Int},d∈opt b (pB x z)->d=pB x z:=λ{b x z} h=>by
  cases b
  ·simp[opt]at h
  ·simpa[opt]using h
 rcases h with(((h|h)|h)|h)|h
 ·obtain⟨z,hz,rfl⟩:=z02.mp h;have hz:=yf.mp (zZ4.mp hz).1;exact⟨_,z,rfl,by simp[words],hz.1,by omega⟩
 ·exact⟨_,c,a h,by simp[words],by omega,by omega⟩
 ·exact⟨_,g,a h,by simp[words],by omega,by omega⟩
 ·exact⟨_,c,a h,by simp[words],by omega,by omega⟩
 ·exact⟨_,c,a h,by simp[words],by omega,by omega⟩
theorem kZ {x:Str}{z:Int}(c:x∈words)(h0:-100<=z)(d:z<=2000000):zY 5000 (pB x z)/\(pB x z).depth<=1:=by
 have b:(2000001:Int)<big:=by decide
 have a:-big<(-100:Int):=by decide
 exact⟨zY.tuple (n:=2000) (zW.two (rW c) (zY.int (by omega) (by omega)) (zK7 _) (zK7 _)) (by show 2*(2000+2)+3<=5000;decide),by simp[pB,PyData.depth,PyData.depthAll]⟩
theorem eQ {ds:List PyData}{c g:Int}:(xG ds c g).length<=(g-c).toNat+4:=by
 unfold xG;simp only[zM9];have h0:=uT ds c (g-c).toNat;have d:=vX (isF (zj ds "come" c)) (pB "come" c);have e:=vX (isF (zj ds "go" g)) (pB "go" g);have b:=vX (decide (g-c<intOf (zj ds "least" c))) (pB "least" c);have a:=vX (decide (intOf (zj ds "most" c)<g-c)) (pB "most" c);omega
theorem qA {ds:List PyData}{c g:Int}(sb:vn c g):zY sizeLine (.list (xG ds c g)):=by
 obtain⟨f,j,g1,g2⟩:=sb;refine zY.list (n:=5000) ⟨λd hd=>?_,λd hd=>?_⟩ ?_
 ·obtain⟨x,z,rfl,e,a,b⟩:=ou (by omega) hd;exact(kZ e (by omega) (by omega)).1
 ·obtain⟨x,z,rfl,e,a,b⟩:=ou (by omega) hd;have:=(kZ e (z:=z) (by omega) (by omega)).2;omega
 ·have i:(xG ds c g).length*(5000+2)<=18*(5000+2):=zY6 _ (by have:=eQ (ds:=ds) (c:=c) (g:=g);omega);have h:18*(5000+2)+2<=sizeLine:=by decide
  omega
theorem lV {ds:List PyData}:PyData.eqv (.list ds) (.list [])=ds.isEmpty:=by
 cases ds<;>rfl
def eY (C:Addr)(cs:Cs):Ph:=λas Q=>∃(ds:List PyData) (c g:Int),as=[.dat (zE C cs ds),.dat (.tuple [.int c,.int g])]/\zo ds/\vn c g/\Q (.dat (.bool (rq ds c g)))
def zi4 (C:Addr)(cs:Cs):Ph:=λas Q=>∃(ds:List PyData) (c g:Int),as=[.dat (zE C cs ds),.dat (.tuple [.int c,.int g])]/\zo ds/\vn c g/\Q (.dat (oD (coO ds c g)))
def fv (C:Addr)(cs:Cs):Ph:=λas Q=>∃(ds:List PyData) (c g:Int),as=[.dat (zE C cs ds),.dat (.tuple [.int c,.int g])]/\zo ds/\vn c g/\rq ds c g=true/\Q (.dat (.int (coD ds c g)))
section
variable {P:Program}{w:World}{K:PySem.W.Frag}{mg:Str->Option Value}{base:Heap}{cs:Cs}
theorem jz {C:Addr}(k:Cal P w K mg base "bill" 5 (eG C cs)):Cal P w K mg base "bill" 5 (qT C cs):=by
 refine k.imp λas Q h=>?_;obtain⟨ds,c,g,rfl,a,⟨b,l,g1,g2⟩,so,q⟩:=h;refine⟨ds,c,g,vh ds c,λz=>intOf (zj ds "price" z),rfl,a.rules,b,l,by omega,by omega,λz i d=>sg a so i d,?_,(bD a c).1,λbs mk=>q bs _ mk⟩;rcases eM a.all c with e|⟨m,f,e,f0,n,j⟩
 ·exact .inl e
 ·exact .inr ⟨m,f,e,by omega,j⟩
theorem za8 {C:Addr}(F:FnD K mg "can_be_had" zy6 ["book","stay"])(f:Cal P w K mg base "bars" 3 (mK C cs)):Cal P w K mg base "can_be_had" 4 (eY C cs):=by
 refine yn ["book","stay"] F λ_ _ i _ _ _ _ _ Q nd hr h=>?_;obtain⟨ds,c,g,rfl,a,sb,q⟩:=h;obtain⟨b,e,g1,g2⟩:=id sb;and_intros;refine⟨ds,c,g,rfl,a.rules,by omega,by omega,by omega,by omega,?_⟩;and_intros;exact eqk (qA sb).shaped rfl (qA sb).nod rfl (by rw[show PyData.eqv (A.own (xG ds c g)).d (.list [])=rq ds c g from lV];exact q)
theorem eR {C:Addr}(F:FnD K mg "cost" ze6 ["book","stay"])(j:Cal P w K mg base "bars" 3 (mK C cs))(f:Cal P w K mg base "bill" 5 (qT C cs)):Cal P w K mg base "cost" 6 (fv C cs):=by
 refine yn ["book","stay","found"] F λ_ _ _ _ _ _ _ _ Q nd hr h=>?_;obtain⟨ds,c,g,rfl,b,sb,a,q⟩:=h;obtain⟨e,i,g1,g2⟩:=id sb;have d:xG ds c g=[]:=List.isEmpty_iff.mp a;and_intros;refine⟨ds,c,g,rfl,b.rules,by omega,by omega,by omega,by omega,?_⟩;rw[d];and_intros;refine⟨ds,c,g,rfl,b,sb,vT a,λbs rows mk=>?_⟩;and_intros;show Q _;rw[zj4 b (vT a) mk];exact q
theorem br {C:Addr}(F:FnD K mg "cost_or_none" zC7 ["book","stay"])(b:Cal P w K mg base "can_be_had" 4 (eY C cs))(d:Cal P w K mg base "bill" 5 (qT C cs)):Cal P w K mg base "cost_or_none" 6 (zi4 C cs):=by
 refine yn ["book","stay"] F λ_ _ _ _ _ _ _ _ Q nd hr h=>?_;obtain⟨ds,c,g,rfl,a,sb,q⟩:=h;and_intros;refine⟨ds,c,g,rfl,a,sb,?_⟩;and_intros;refine qr (λe=>?_) (λe=>?_)
 ·and_intros;refine⟨ds,c,g,rfl,a,sb,vT e,λbs rows mk=>?_⟩;and_intros;show Q _;rw[zj4 a (vT e) mk];unfold coO at q;rw[if_pos e]at q;exact q
 ·and_intros;unfold coO at q;rw[if_neg (by rw[e];decide)]at q;exact q
end
theorem take_snoc {β:Type}{l:List β}{i:Nat}{d:β}(h:l[i]?=some d):l.take (i+1)=l.take i++[d]:=by rw[zU7,h];rfl
def kN :Ph:=λas Q=>∃y:Int,as=[.tape,.dat (.int y)]/\0<=y/\y<=1000000/\∀c g:Int,vn c g->Q (.dat (.tuple [.int c,.int g]))
section
variable {P:Program}{w:World}{K:PySem.W.Frag}{mg:Str->Option Value}{base:Heap}
theorem iG (F:FnD K mg "_law_stay" cQ ["_law_row","_law_day_here"])(nb:NbT mg)(a:Cal P w K mg base "_law_take" 1 xf):Cal P w K mg base "_law_stay" 2 kN:=by
 refine yn ["_law_row","_law_day_here","_law_come","_law_nights"] F λ_ _ _ _ _ _ _ _ Q nd hr h=>?_;obtain⟨y,rfl,b,f,q⟩:=h;and_intros;refine⟨⟨by decide,by decide +kernel⟩,?_⟩;refine rN (λd=>∃z:Int,d=.int z/\0<=z/\z<=13) rfl (by omega) (by show _<(3:Int);omega) ⟨⟨_,rfl,by omega,by omega⟩,⟨_,rfl,by omega,by omega⟩,⟨_,rfl,by omega,by omega⟩,trivial⟩ ?_;rintro _ ⟨z,rfl,e,c⟩;and_intros;refine q _ _ ⟨?_,?_,?_,?_⟩<;>repeat split
 all_goals omega
end
theorem vB {ds:List PyData}{x:Str}{d e:Int}(h:∀r∈ds,vV x d r=vV x e r):zj ds x d=zj ds x e:=by
 unfold zj;have:ds.reverse.find? (vV x d)=ds.reverse.find? (vV x e):=by
  have key:∀l:List PyData,(∀r∈l,vV x d r=vV x e r)->l.find? (vV x d)=l.find? (vV x e):=by
   intro l
   induction l with
   |nil=>intro _;rfl
   |cons a l c=>
    intro b;rw[zQ8,zQ8,b a zK5,c λr hr=>b r (zJ8 _ hr)]
  exact key _ λr hr=>h r (List.mem_reverse.mp hr)
 rw[this]
theorem ku {d:Int}:∀(ys:List Int),(∃y∈ys,y<=d)->∃e∈ys,e<=d/\∀y∈ys,y<=d->y<=e
 |[],h=>by obtain⟨y,hy,_⟩:=h;simp at hy
 |a::ys,h=>by
  by_cases c:∃y∈ys,y<=d
  ·obtain⟨e,he,hd,hm⟩:=ku ys c;by_cases ha:a<=d/\e<a
   ·exact⟨a,zK5,ha.1,λy hy b=>by
     rcases zJ6.mp hy with rfl|hy
     ·exact zR4 _
     ·have:=hm y hy b;omega⟩
   ·exact⟨e,zJ8 _ he,hd,λy hy b=>by
     rcases zJ6.mp hy with rfl|hy
     ·omega
     ·exact hm y hy b⟩
  ·obtain⟨y,hy,b⟩:=h;rcases zJ6.mp hy with rfl|hy
   ·exact⟨y,zK5,b,λz hz f=>by
     rcases zJ6.mp hz with rfl|hz
     ·exact zR4 _
     ·exact absurd ⟨z,hz,f⟩ c⟩
   ·exact absurd ⟨y,hy,b⟩ c
theorem sA {x:Str}{r:PyData}{p q:Int}(hr:yr r=true)(d:p<=q)(h:∀a b v,r=.tuple [.str x,.int a,.int b,v]->¬(p<a/\a<=q)/\¬(p<b+1/\b+1<=q)):vV x q r=vV x p r:=by
 obtain⟨u,a,b,v,f,rfl,l,i,k,hw⟩:=zV hr;show(decide (u=x)&&(decide (a<=q)&&decide (q<=b)))=(decide (u=x)&&(decide (a<=p)&&decide (p<=b)));by_cases c:u=x
 ·subst c;obtain⟨j,g⟩:=h a b v rfl;have e1:decide (a<=q)=decide (a<=p):=by
   by_cases z:a<=q
   ·rw[zM8 z,zM8 (by omega)]
   ·rw[zM0 z,zM0 (by omega)]
  have e:decide (q<=b)=decide (p<=b):=by
   by_cases z:q<=b
   ·rw[zM8 z,zM8 (by omega)]
   ·rw[zM0 z,zM0 (by omega)]
  rw[e1,e]
 ·rw[zM0 c,z04,z04]
theorem gg {β:Type}{f:Int->β}{c e:Int}:∀{n:Nat},(∀i:Nat,i<n->f (c+i)=f (e+i))->(zq c n).map f=(zq e n).map f:=λ{n} h=>by
 refine List.ext_getElem? λi=>?_;rw[zK8,zK8];rcases zO5 i n with z|z
 ·rw[yF z,yF z];exact congrArg some (h i z)
 ·rw[zT6 (by rw[zc];exact z),zT6 (by rw[zc];exact z)]
theorem bE {l:List Int}{f:Int->Bool}:(l.filter f).isEmpty=!(l.map f).any id:=by
 induction l with
 |nil=>rfl
 |cons a l b=>
  rw[zW6,zN7,z26];cases h:f a with
  |true=>simp
  |false=>simpa using b
theorem zb6 {β:Type}(a b:List β):(a++b).isEmpty=(a.isEmpty&&b.isEmpty):=by cases a<;>rfl
theorem aP (b:Bool)(d:PyData):(opt b d).isEmpty=!b:=by cases b<;>rfl
theorem aK {β b:Type}(f:β->b)(a:List β):(a.map f).isEmpty=a.isEmpty:=by cases a<;>rfl
theorem ir {ds:List PyData}{c e:Int}{n:Nat}(a:∀i:Nat,i<n->zj ds "price" (c+i)=zj ds "price" (e+i))(l:zj ds "come" c=zj ds "come" e)(g:zj ds "least" c=zj ds "least" e)(d:zj ds "most" c=zj ds "most" e)(k:zj ds "deal" c=zj ds "deal" e)(j:zj ds "fee" c=zj ds "fee" e)(h:zj ds "go" (c+n)=zj ds "go" (e+n)):coO ds c (c+n)=coO ds e (e+n):=by
 have n1:(c+n-c).toNat=n:=by omega
 have n2:(e+n-e).toNat=n:=by omega
 have m:c+n-c=(n:Int):=by omega
 have o:e+n-e=(n:Int):=by omega
 have b:rq ds c (c+n)=rq ds e (e+n):=by
  unfold rq xG yW;simp only[zb6,aP,aK,bE,n1,n2,m,o,l,g,d,h,zR7];rw[gg (c:=c) (e:=e) (f:=λz=>xp (zj ds "price" z)) λi hi=>congrArg xp (a i hi)]
 have ep:prs ds c (c+n)=prs ds e (e+n):=by
  unfold prs;rw[n1,n2];exact gg λi hi=>congrArg intOf (a i hi)
 unfold coO coD zm6 vh;rw[b,ep,k,j]
structure Trn (ds:List PyData)(n:Nat)(ys:List Int):Prop where
 zero:0∈ys
 lo:∀y∈ys,0<=y
 hi:∀y∈ys,y+n<=1000000
 at':∀(x:Str) (a b:Int) (v:PyData),.tuple [.str x,.int a,.int b,v]∈ds->∀d:Int,0<=d->d+n<=1000000->(x="go"->d+n=a\/d+n=b+1->d∈ys)/\(x≠"go"->x≠"price"->d=a\/d=b+1->d∈ys)/\(x="price"->∀i:Nat,i<n->d+i=a\/d+i=b+1->d∈ys)
theorem Trn.same {ds es:List PyData}{n:Nat}{ys:List Int}(p:∀d∈ds,yr d=true)(re:∀d∈es,yr d=true)(T:Trn (ds++es) n ys){c:Int}(o:0<=c)(s:c+n<=1000000):∃e∈ys,e<=c/\coO ds c (c+n)=coO ds e (e+n)/\coO es c (c+n)=coO es e (e+n):=by
 obtain⟨e,he,l,hm⟩:=ku ys ⟨0,T.zero,o⟩;have q:=T.lo e he;have key:∀h:List PyData,(∀r∈h,r∈ds++es/\yr r=true)->coO h c (c+n)=coO h e (e+n):=λh hg=>by
  have pl:∀x:Str,x≠"go"->x≠"price"->zj h x c=zj h x e:=λx k m=>vB λr hr=>sA (hg r hr).2 l λa b v f=>by
   subst f;exact⟨λ⟨j,g⟩=>by have:=hm a ((T.at' x a b v (hg _ hr).1 a (by omega) (by omega)).2.1 k m (.inl rfl)) g;omega,λ⟨j,g⟩=>by have:=hm (b+1) ((T.at' x a b v (hg _ hr).1 (b+1) (by omega) (by omega)).2.1 k m (.inr rfl)) g;omega⟩
  refine ir (λi hi=>?_) (pl _ (by decide) (by decide)) (pl _ (by decide) (by decide)) (pl _ (by decide) (by decide)) (pl _ (by decide) (by decide)) (pl _ (by decide) (by decide)) ?_
  ·refine vB λr hr=>sA (hg r hr).2 (by omega) λa b v f=>?_;subst f;exact⟨λ⟨j,g⟩=>by have:=hm (a-i) ((T.at' _ a b v (hg _ hr).1 (a-i) (by omega) (by omega)).2.2 rfl i hi (.inl (by omega))) (by omega);omega,λ⟨j,g⟩=>by have:=hm (b+1-i) ((T.at' _ a b v (hg _ hr).1 (b+1-i) (by omega) (by omega)).2.2 rfl i hi (.inr (by omega))) (by omega);omega⟩
  ·refine vB λr hr=>sA (hg r hr).2 (by omega) λa b v f=>?_;subst f;exact⟨λ⟨j,g⟩=>by have:=hm (a-n) ((T.at' _ a b v (hg _ hr).1 (a-n) (by omega) (by omega)).1 rfl (.inl (by omega))) (by omega);omega,λ⟨j,g⟩=>by have:=hm (b+1-n) ((T.at' _ a b v (hg _ hr).1 (b+1-n) (by omega) (by omega)).1 rfl (.inr (by omega))) (by omega);omega⟩
 exact⟨e,he,l,key ds λr hr=>⟨zM6 _ hr,p r hr⟩,key es λr hr=>⟨zL3 _ hr,re r hr⟩⟩
def oi (ds es:List PyData)(n:Nat):Prop:=∀c:Int,0<=c->c+n<=1000000->coO ds c (c+n)=coO es c (c+n)
theorem Trn.all {ds es:List PyData}{n:Nat}{ys:List Int}(b:∀d∈ds,yr d=true)(re:∀d∈es,yr d=true)(T:Trn (ds++es) n ys)(h:∀y∈ys,coO ds y (y+n)=coO es y (y+n)):oi ds es n:=λc a g=>by
 obtain⟨e,he,_,i,f⟩:=T.same b re a g;rw[i,f];exact h e he
structure uw (ds es:List PyData)(n:Nat)(c:Int):Prop where
 n1:1<=n
 n2:n<=14
 lo:0<=c
 hi:c+n<=1000000
 ne:coO ds c (c+n)≠coO es c (c+n)
 bef:∀m:Nat,1<=m->m<n->oi ds es m
 least:∀e:Int,0<=e->e<c->coO ds e (e+n)=coO es e (e+n)
def Apt (ds es:List PyData):Option (Nat×Int)->Prop
 |none=>∀m:Nat,1<=m->m<=14->oi ds es m
 |some q=>uw ds es q.1 q.2
noncomputable def wm (ds es:List PyData):Option (Nat×Int)->PyData
 |none=>.none
 |some q=>.tuple [.tuple [.int q.2,.int (q.2+q.1)],oD (coO ds q.2 (q.2+q.1)),oD (coO es q.2 (q.2+q.1))]
theorem lR {ds es:List PyData}{q r:Option (Nat×Int)}(h:Apt ds es q)(g:Apt ds es r):q=r:=by
 cases q with
 |none=>cases r with
  |none=>rfl
  |some r=>exact absurd (h r.1 g.n1 g.n2 r.2 g.lo g.hi) g.ne
 |some q=>cases r with
  |none=>exact absurd (g q.1 h.n1 h.n2 q.2 h.lo h.hi) h.ne
  |some r=>
   obtain⟨n,c⟩:=q;obtain⟨m,d⟩:=r;have h:uw ds es n c:=h;have g:uw ds es m d:=g;have a1:¬n<m:=λz=>h.ne (g.bef n h.n1 z c h.lo h.hi);have a2:¬m<n:=λz=>g.ne (h.bef m g.n1 z d g.lo g.hi);have e:n=m:=by omega
   subst e;have a:¬c<d:=λz=>h.ne (g.least c h.lo z);have b:¬d<c:=λz=>g.ne (h.least d g.lo z);have e:c=d:=by omega
   subst e;rfl
theorem Trn.fst {ds es:List PyData}{n:Nat}{ys:List Int}(g:∀d∈ds,yr d=true)(re:∀d∈es,yr d=true)(T:Trn (ds++es) n ys)(up:ys.Pairwise (·<=·))(n1:1<=n)(n2:n<=14)(al:∀m:Nat,1<=m->m<n->oi ds es m){j:Nat}{y:Int}(hy:ys[j]?=some y)(l:∀z∈ys.take j,coO ds z (z+n)=coO es z (z+n))(ne:coO ds y (y+n)≠coO es y (y+n)):uw ds es n y:=by
 have a:=zO3 hy;refine⟨n1,n2,T.lo y a,T.hi y a,ne,al,λe c e1=>?_⟩;obtain⟨u,f,q,o,h⟩:=T.same g re c (by have:=T.hi y a;omega);rw[o,h];obtain⟨k,hk⟩:=List.getElem?_of_mem f;have p:k<j:=by
  rcases zO5 k j with z|z
  ·exact z
  ·obtain⟨p1,p2⟩:=zK1.mp hy;obtain⟨p3,p4⟩:=zK1.mp hk;rcases zO5 j k with b|b
   ·have:=zQ5.mp up j k p1 p3 b;omega
   ·have:j=k:=by omega
    subst this;omega
 exact l u (zO3 (i:=k) (by rw[zW5 p,hk]))
abbrev sTb :Stmt:=top 28
abbrev sTn :Stmt:=top 29
abbrev zz5 :Stmt:=top 30
def tbL (u:Str)(a b:Int)(n:Nat):List Int:=if u="go" then [a-n,b+1-n]else if u="price" then zq (a-n+1) n++zq (b+1-n+1) n else [a,b+1]
theorem zo6 (u:Str)(a b:Int){n:Nat}(h:n<=14):(tbL u a b n).length<=28:=by
 unfold tbL;split
 ·simp
 ·split
  ·rw[zM9,zc,zc];omega
  ·simp
def zB3 :Ph:=λas Q=>∃(u:Str) (a b:Int) (v:PyData) (n:Nat),as=[.dat (.tuple [.str u,.int a,.int b,v]),.dat (.int n)]/\0<=a/\a<=b/\b<=1000000/\n<=14/\Q (.dat (.list ((tbL u a b n).map .int)))
def zD4 :Ph:=λas Q=>∃(ds:List PyData) (n:Nat),as=[.dat (.list ds),.dat (.int n)]/\(∀d∈ds,yr d=true)/\ds.length<=24/\1<=n/\n<=14/\∀ys:List Int,Trn ds n ys->ys.Pairwise (·<=·)->ys.length<=1000->Q (.dat (.list (ys.map .int)))
def zf1 (C:Addr)(cs:Cs):Ph:=λas Q=>∃ds es:List PyData,as=[.dat (zE C cs ds),.dat (zE C cs es)]/\zo ds/\zo es/\ds.length<=12/\es.length<=12/\∀q,Apt ds es q->Q (.dat (wm ds es q))
theorem yx (x:Option Int):SeqAt.shaped (oD x)=true/\(oD x).hasDict=false:=by cases x<;>exact⟨rfl,rfl⟩
theorem cx (x y:Option Int):PyData.eqv (oD x) (oD y)=decide (x=y):=by
 cases x<;>cases y<;>simp[oD,PyData.eqv]<;>rfl
section
variable {P:Program}{w:World}{K:PySem.W.Frag}{mg:Str->Option Value}{base:Heap}{cs:Cs}
theorem zr1 (F:FnD K mg "turns_by" sTb ["rule","many"])(nb:NbT mg):Cal P w K mg base "turns_by" 1 zB3:=by
 refine yn ["rule","many","edges","found","edge"] F λ_ _ _ _ _ _ _ _ Q nd hr h=>?_;obtain⟨u,a,b,v,n,rfl,p,j,o,n2,q⟩:=h;unfold tbL at q;and_intros;refine yC (λh=>?_) λh=>?_
 ·rw[if_pos (zS9 h)]at q;refine xy (EvL.d (fC ["edge","many"] [none,some 1] (.one 0) (yM (zb 2 rfl ⟨_,rfl,by simp,?_⟩))));refine iz (l:=[a,b+1]) (g:=PyData.int) (λe=>.int (e-n)) (λe _=>⟨_,rfl,λ_ _ _ _ _ k=>?_⟩) q;and_intros;exact k
 rw[if_neg (z49 h)]at q;and_intros;refine yC (λh=>?_) λh=>?_
 ·rw[if_neg (by simpa using h)]at q;and_intros;exact q
 rw[if_pos (by simpa using h)]at q;and_intros;refine yX (.one 4) (yM (zb 2 rfl ⟨_,rfl,?_⟩));refine zZ (λi α=>∃c:Option A,α=[some (.dat (.tuple [.str u,.int a,.int b,v])),some (.dat (.int n)),some (.dat (.list [.int a,.int (b+1)])),some (.own (((([a,b+1]:List Int).take i).flatMap λe=>zq (e-n+1) n).map .int)),c]) ⟨none,rfl⟩ ?_ ?_
 ·rintro i d α hd ⟨c,rfl⟩;have hd:(([a,b+1]:List Int).map PyData.int)[i]?=some d:=hd;rw[zK8,zM2]at hd;obtain⟨e,he,rfl⟩:=hd;have hi:=(zK1.mp he).1;have m:0<=e/\e<=1000001:=by
   have:=zO3 he;simp at this;omega
  refine⟨_,rfl,rV 3 rfl (EvL.d (nF rfl (by rfl) nb.list (by rfl) nb.range ?_))⟩;and_intros;refine⟨⟨by omega,by omega,by omega,by omega⟩,by omega,_,rfl,?_,zx ⟨some (.dat (.int e)),?_⟩⟩
  ·have l:∀l:List Int,(l.flatMap λe=>zq (e-n+1) n).length=l.length*n:=λl=>by
    induction l with
    |nil=>simp
    |cons a l f=>rw[List.flatMap_cons,zM9,f,zc,zL8,Nat.add_mul];omega
   rw[zJ3,zJ3,zc,l,zM3];have:min i ([a,b+1]:List Int).length*n<=2*14:=Nat.mul_le_mul (by simp;omega) n2;omega
  ·rw[zU7,he,List.flatMap_append,zV8,show(e+1-(e-n+1)).toNat=n by omega];simp
 ·rintro α ⟨c,rfl⟩;refine fN 3 rfl (xy (zb 3 rfl ?_));simpa using q
theorem zn3 (F:FnD K mg "turns" sTn ["rules","many"])(nb:NbT mg)(f:mg "set"=none)(gl:∃t,mg "LAST_DAY"=some (.int 1000000 t))(O:Cal P w K mg base "turns_by" 1 zB3):Cal P w K mg base "turns" 2 zD4:=by
 refine yn ["rules","many","found","rule"] F λ_ _ _ _ _ _ _ _ Q nd hr h=>?_;obtain⟨ds,n,rfl,G,ld,n1,n2,q⟩:=h;refine xQ 2 nd ?_;and_intros;refine yX (.one 3) (yM (zb 0 rfl ⟨_,rfl,?_⟩));refine zZ (λi α=>∃(fs:List Int) (p:Option A),0∈fs/\(∀u a b v,.tuple [.str u,.int a,.int b,v]∈ds.take i->∀y∈tbL u a b n,y∈fs)/\fs.length<=1+28*i/\α=[some (.dat (.list ds)),some (.dat (.int n)),some (.own (fs.map .int)),p]) ⟨[0],none,by simp,λu a b v h=>by simp at h,by simp,rfl⟩ ?_ ?_
 ·rintro i d α hd ⟨fs,p,o,hf,lf,rfl⟩;have hi:=(zK1.mp hd).1;obtain⟨u,a,b,v,L,rfl,J,H,C,hw⟩:=zV (G d (zO3 hd));have M:=zo6 u a b n2;refine⟨_,rfl,rV 2 rfl ?_⟩;and_intros;refine⟨u,a,b,v,n,rfl,J,H,C,n2,_,rfl,by rw[zJ3,zJ3];omega,zx ⟨fs++tbL u a b n,_,zM6 _ o,λI D B z h y hy=>?_,by rw[zM9];omega,by rw[zV8]<;>rfl⟩⟩;rw[take_snoc hd]at h;rcases zL6.mp h with h|h
  ·exact zM6 _ (hf I D B z h y hy)
  ·have h:=zL9.mp h;injection h with h;injection h with c h;injection h with j h;injection h with g h;injection c with c;injection j with j;injection g with g;subst c j g;exact zL3 _ hy
 ·rintro α ⟨fs,p,o,hf,lf,rfl⟩;rw[zS3]at hf;refine fN 2 rfl (xy (EvL.d (fC ["day","many"] [none,some 1] (.one 0) (yM (EvL.d (oO rfl (by rfl) nb.sorted (by rfl) f (zb 2 rfl ⟨fs,rfl,by omega,λys s up N=>⟨_,rfl,by rw[zJ3];omega,?_⟩⟩)))))));refine oJ (λd:Int=>decide (0<=d)&&decide (d<=1000000-(n:Int))) .int (λd hd=>⟨_,rfl,λ_ _ _ _ _ k=>mH ?_,λ_ _ _ _ _ _ k=>?_⟩) ?_
  ·and_intros;refine qr (λh=>?_) λh=>?_
   ·refine pC (yA (by rfl) gl ?_);and_intros;rw[h]at k;exact k
   ·rw[h]at k;exact k
  ·and_intros;exact k
  rw[zZ8];have l:∀{y:Int},y∈fs->0<=y->y+n<=1000000->y∈ys.filter λd:Int=>decide (0<=d)&&decide (d<=1000000-(n:Int)):=λ{y} c j g=>zZ4.mpr ⟨(s y).mpr c,by simp;omega⟩;have mb:∀y∈ys.filter λd:Int=>decide (0<=d)&&decide (d<=1000000-(n:Int)),0<=y/\y+n<=1000000:=λy hy=>by
   have:=(zZ4.mp hy).2;simp at this;omega
  refine q _ ⟨l o (zR4 _) (by omega),λy hy=>(mb y hy).1,λy hy=>(mb y hy).2,λx a b v hm d m r=>?_⟩ ((up.imp λh=>zW4 h).filter _) (by have:=List.length_filter_le (λd:Int=>decide (0<=d)&&decide (d<=1000000-(n:Int))) ys;omega);have hf:=hf x a b v hm;unfold tbL at hf;refine⟨λe h=>?_,λe1 E h=>?_,λe i hi h=>?_⟩
  ·rw[if_pos e]at hf;exact l (hf d (by simp;omega)) m r
  ·rw[if_neg e1,if_neg E]at hf;exact l (hf d (by simp;omega)) m r
  ·subst e;rw[if_neg (by decide),if_pos rfl]at hf;refine l (hf d (zL6.mpr ?_)) m r;rw[yf,yf];omega
theorem bP {C:Addr}(F:FnD K mg "apart" zz5 ["one","other"])(nb:NbT mg)(u:∃t,mg "MOST_NIGHTS"=some (.int 14 t))(ga:∃t,mg "MOST_RULES_APART"=some (.int 12 t))(D:xv P w K mg base C "rules" 3 (kA C cs))(v:Cal P w K mg base "turns" 2 zD4)(x:Cal P w K mg base "cost_or_none" 6 (zi4 C cs)):Cal P w K mg base "apart" 7 (zf1 C cs):=by
 refine yn ["one","other","rules","others","many","come","stay","coins","others_coins"] F λ_ _ E _ _ _ _ _ Q nd hr h=>?_;obtain⟨ds,es,rfl,o,re,ld,le,q⟩:=h;and_intros;refine⟨o.rules,by omega,?_⟩;and_intros;refine⟨re.rules,by omega,?_⟩;and_intros;refine yA (by rfl) ga ?_;and_intros;refine ve (zM0 (by split<;>omega)) (zx ?_);refine yX (.one 4) (jK (by rfl) nb.range (zM (si (yA (by rfl) u ?_))));and_intros;refine⟨⟨by decide,by decide,by decide,by decide⟩,?_⟩;refine zZ (λi α=>∃r k f c g:Option A,(∀m:Nat,1<=m->m<1+i->oi ds es m)/\α=[some (.dat (zE C cs ds)),some (.dat (zE C cs es)),some (.dat (.list ds)),some (.dat (.list es)),r,k,f,c,g]) ⟨none,none,none,none,none,λm a b=>by omega,rfl⟩ ?_ ?_
 ·rintro i d α hd ⟨r,k,f,c,g,p,rfl⟩;rw[zK8,zM2]at hd;obtain⟨z,hz,rfl⟩:=hd;have hi:=(zK1.mp hz).1;rw[zc]at hi;have hi:i<14:=hi;obtain rfl:z=((1+i:Nat):Int):=by rw[yF (by exact hi)]at hz;cases hz;omega
  have n1:1<=1+i:=by omega
  have n2:1+i<=14:=by omega
  generalize hn:1+i=n at p n1 n2;refine⟨_,rfl,yX (.one 5) (yM (xY v (hr.mono (by decide)) (by rfl) (zk (EvL.d (xK (zb 2 rfl (zb 3 rfl ⟨_,_,rfl,rfl,by omega,zk (zb 4 rfl (zu ⟨ds++es,n,rfl,λd hd=>(zL6.mp hd).elim (o.all d) (re.all d),by simp;omega,n1,n2,λys T up B=>⟨_,rfl,?_⟩⟩))⟩)))))))⟩;refine zZ (λj α=>∃k f c g:Option A,(∀z∈ys.take j,coO ds z (z+n)=coO es z (z+n))/\α=[some (.dat (zE C cs ds)),some (.dat (zE C cs es)),some (.dat (.list ds)),some (.dat (.list es)),some (.dat (.int n)),k,f,c,g]) ⟨k,f,c,g,λz h=>by simp at h,rfl⟩ ?_ ?_
  ·rintro j d α hd ⟨k,f,c,g,l,rfl⟩;rw[zK8,zM2]at hd;obtain⟨y,hy,rfl⟩:=hd;have s:=zO3 hy;have sb:vn y (y+n):=⟨T.lo y s,by omega,by omega,T.hi y s⟩;refine⟨_,rfl,?_⟩;and_intros;refine⟨ds,y,y+n,rfl,o,sb,?_⟩;and_intros;refine⟨es,y,y+n,rfl,re,sb,?_⟩;and_intros;refine eqk (yx _).1 (yx _).1 (yx _).2 (yx _).2 ?_;rw[show PyData.eqv (A.dat (oD (coO ds y (y+n)))).d (A.dat (oD (coO es y (y+n)))).d=decide (coO ds y (y+n)=coO es y (y+n))from cx _ _];refine yC (λh=>?_) λh=>?_
   ·and_intros;exact q (some (n,y)) (T.fst o.all re.all up n1 n2 p hy l (by simpa using h))
   ·and_intros;refine⟨_,_,_,_,λz hz=>?_,rfl⟩;rw[take_snoc hy]at hz;rcases zL6.mp hz with hz|hz
    ·exact l z hz
    ·rw[zL9.mp hz];simpa using h
  ·rintro α ⟨k,f,c,g,l,rfl⟩;rw[zJ3,zS3]at l;and_intros;refine⟨_,_,_,_,_,λm m1 m2=>?_,rfl⟩;by_cases e:m<n
   ·exact p m m1 e
   ·obtain rfl:m=n:=by omega
    exact T.all o.all re.all l
 ·rintro α ⟨r,k,f,c,g,p,rfl⟩;and_intros;exact q none λm m1 m2=>p m m1 (by rw[zJ3,zc];show m<1+14;omega)
end
abbrev zx8 :Stmt:=top 62
abbrev zk1 :Stmt:=top 63
def zd2 :Ph:=λas Q=>∃y:Int,as=[.tape,.dat (.int y),.dat (.int 2)]/\0<=y/\y<=999990/\∀ds,zo ds->ds.length<=3->Q (.own ds)
def dZ :Ph:=λas Q=>∃(ds:List PyData) (y:Int),as=[.tape,.dat (.list ds),.dat (.int y)]/\zo ds/\ds.length<=7/\0<=y/\y<=999990/\∀es,zo es->es.length<=ds.length+1->Q (.own es)
theorem zo.noLs {ds:List PyData}(h:zo ds):L2.noLs ds=true:=by
 induction ds with
 |nil=>rfl
 |cons d r f=>
  have c:=h d zK5;obtain⟨u,i,j,v,a,rfl,_,_,_,hw⟩:=zV c.rule;have b:=f λe he=>h e (zJ8 _ he);show(L2.noLs [.str u,.int i,.int j,v]&&L2.noLs r)=true;rw[b,Bool.and_true];show(true&&(true&&(true&&(L2.noL v&&true))))=true;rw[(xW a hw).2];rfl
theorem zv0 {ds:List PyData}(h:L2.noLs ds=true):∀d∈ds,L2.noL d=true:=by
 induction ds with
 |nil=>intro d hd;simp at hd
 |cons e r a=>
  have h':(L2.noL e&&L2.noLs r)=true:=h;rw[zN1]at h';intro d hd;rcases zJ6.mp hd with rfl|hd
  ·exact h'.1
  ·exact a h'.2 d hd
theorem sC {ds:List PyData}{v:Int}(v0:0<=v)(a:v.toNat<ds.length):atI ds v=some ds[v.toNat]:=by
 unfold atI ixN;rw[if_pos v0,if_pos (by omega)];show ds[v.toNat]?=_;rw[zJ2 a]
theorem zo3 {ds:List PyData}(h:zo ds){d:PyData}(hd:yQ d)(j:Int):zo (vL ds j d):=λe he=>by
 unfold vL at he;rcases zL6.mp he with z|z
 ·exact h e (zR1 z)
 ·rcases zJ6.mp z with rfl|z
  ·exact hd
  ·exact h e (zS7 z)
theorem zn1 {ds:List PyData}(h:zo ds){d:PyData}(hd:yQ d):zo (ds++[d]):=λe he=>by
 rcases zL6.mp he with z|z
 ·exact h e z
 ·rw[zL9.mp z];exact hd
theorem sr {ds:List PyData}(h:zo ds){d:PyData}(hd:yQ d)(j:Nat):zo (ds.set j d):=λe he=>by
 rcases List.mem_or_eq_of_mem_set he with z|z
 ·exact h e z
 ·rw[z];exact hd
theorem zm2 {ds:List PyData}(h:zo ds)(j:Nat):zo (ds.eraseIdx j):=λe he=>h e (List.mem_of_mem_eraseIdx he)
section
variable {P:Program}{w:World}{K:PySem.W.Frag}{mg:Str->Option Value}{base:Heap}
theorem bZ (F:FnD K mg "_law_few" zx8 ["_law_row","_law_day_here","_law_most"])(nb:NbT mg)(m:Cal P w K mg base "_law_take" 1 xf)(CR:Cal P w K mg base "_law_rule" 4 qJ):Cal P w K mg base "_law_few" 5 zd2:=by
 refine yn ["_law_row","_law_day_here","_law_most","_law_rules","_law_k"] F λ_ _ _ _ _ _ _ _ Q nd hr h=>?_;obtain⟨y,rfl,l,n,q⟩:=h;have pr:∀{i j c:Int},0<=i->i<=j->j<=1000000->0<=c->c<=1000->yQ (.tuple [.str "price",.int i,.int j,.int c]):=λa b c d e=>yQ.of (by simp[words]) a b c (within_int d (by omega)) ((sk (by omega) (by omega)).mono (by decide)) (zK7 _);and_intros;refine yC (λ_=>wW ?_) λ_=>zx ?_
 ·and_intros;exact q _ (zo.nil.snoc (pr (by decide) (by decide) (by decide) (by decide) (by decide))) (by simp)
 refine xN (λα=>∃ds:List PyData,zo ds/\ds.length<=1/\α=[some .tape,some (.dat (.int y)),some (.dat (.int 2)),some (.own ds),none]) ?_ ?_
 ·and_intros;refine yC (λ_=>?_) (λ_=>?_)<;>and_intros
  ·refine⟨by simp,?_⟩;and_intros;exact⟨_,zo.nil.snoc (pr (by split<;>omega) (by split<;>split<;>omega) (by split<;>omega) (by omega) (by omega)),by simp,rfl⟩
  ·exact⟨[],zo.nil,by simp,rfl⟩
 rintro α ⟨ds,f,ld,rfl⟩;refine yX (.one 4) (uo (by rfl) nb.range ?_);and_intros;refine⟨by omega,by omega,?_⟩;refine zZ (λi α=>∃(ds:List PyData) (g:Option A),zo ds/\ds.length<=1+i/\α=[some .tape,some (.dat (.int y)),some (.dat (.int 2)),some (.own ds),g]) ⟨ds,none,f,ld,rfl⟩ ?_ ?_
 ·rintro i d α hd ⟨ds,g,f,ld,rfl⟩;have hi:=(zK1.mp hd).1;rw[zJ3,zc]at hi;refine⟨_,rfl,?_⟩;and_intros;exact⟨l,by omega,λd k=>⟨by omega,zx ⟨_,_,f.snoc k,by simp;omega,rfl⟩⟩⟩
 ·rintro α ⟨ds,g,f,ld,rfl⟩;rw[zJ3,zc]at ld;exact xV 3 rfl (q ds f (by omega))
abbrev NmT :List Str:=["_law_row","_law_rules","_law_day_here","_law_some","_law_at","_law_way","_law_word","_law_first","_law_last","_law_worth_here","_law_one","_law_other"]
theorem eX (F:FnD K mg "_law_turned" zk1 ["_law_row","_law_rules","_law_day_here"])(nb:NbT mg)(p:Cal P w K mg base "_law_take" 1 xf)(CR:Cal P w K mg base "_law_rule" 4 qJ)(CW:Cal P w K mg base "_law_worth" 3 sW):Cal P w K mg base "_law_turned" 5 dZ:=by
 refine yn (NmT) F λ_ _ A' _ _ _ _ _ Q nd hr h=>?_;obtain⟨ds,y,rfl,e,ld,X,y1,q⟩:=h;have O:(1000:Int)<big:=by decide
 refine xQ 3 nd (pb (by rfl) nb.list (zb 1 rfl ⟨ds,rfl,?_⟩));refine yb 4 nd (xY p (hr.mono (by decide)) (by rfl) (xU 0 rfl (zk (wU 3 rfl (si (wJ (by rfl) nb.len (zb 3 rfl ⟨_,rfl,zM ⟨_,_,rfl,rfl,rfl,zu ⟨_,rfl,by omega,by omega,λk D k1=>?_⟩⟩⟩)))))));refine yb 5 nd (xY p (hr.mono (by decide)) (by rfl) (xU 0 rfl (zk (zM (zu ⟨_,rfl,by decide,by decide,λg g0 g1=>?_⟩)))));refine xN (λα=>∃(es:List PyData) (L S H N R J s m:Option A),zo es/\es.length<=ds.length+1/\α=[some .tape,some (.dat (.list ds)),some (.dat (.int y)),some (.own es),L,S,H,N,R,J,s,m]) ?_ ?_
 ·have nn:=e.nice (by omega);have B:∀{v:Int},0<=v->v.toNat<ds.length->ixN ds.length v=some v.toNat:=λ{v} v0 f=>by
   unfold ixN;rw[if_pos v0,if_pos (by omega)]
  have nl:∀{v:Int} (f:v.toNat<ds.length),L2.noL ds[v.toNat]=true:=λf=>zv0 e.noLs _ (zO6 f);refine xi (EvT.imp (Q':=λc=>c=false->0<ds.length) ?_ λc o=>?_)
  ·refine vW 3 rfl (EvW.t (fc ?_));and_intros;refine qr (λ_=>λz=>by cases z) (λ_=>?_);and_intros;refine eqk nn.shaped (by decide +kernel) nn.nod (by decide +kernel) ?_;cases ds with
   |nil=>exact λz=>by revert z;decide +kernel
   |cons d r=>exact λ_=>zY0 _
  cases c with
  |true=>
   refine vZ rfl (jt 3 rfl (zb 4 rfl (xY CR (hr.mono (by decide)) (by rfl) (xU 0 rfl (zk (zb 2 rfl (zu ⟨y,rfl,X,by omega,λd V=>⟨k,rfl,by omega,by omega,by omega,?_⟩⟩)))))));exact zx (zx ⟨_,_,_,_,_,_,_,_,_,zo3 e V k,by rw[oT];omega,rfl⟩)
  |false=>
  have pos:=o rfl;refine ve rfl ?_;refine xi (EvT.imp (Q':=λc=>c=true->k.toNat<ds.length) ?_ λc o=>?_)
  ·refine vW 3 rfl (EvW.t (sE ?_));and_intros;refine qr (λ_=>?_) (λ_=>λz=>by cases z);and_intros;intro z;have:=zS9 z;omega
  cases c with
  |true=>
   have hk:=o rfl;refine vZ rfl (fw 3 rfl (zb 4 rfl ⟨k,k.toNat,rfl,by omega,by omega,(qC (B D hk)).1,hk,?_⟩))
   repeat refine zx ?_
   exact⟨_,_,_,_,_,_,_,_,_,zm2 e _,by have:=List.length_eraseIdx_le (l:=ds) (i:=k.toNat);omega,rfl⟩
  |false=>
  refine ve rfl ?_;refine xi ?_;and_intros;refine yC (λ_=>?_) (λ_=>?_)
  ·refine vd 3 rfl (wU 3 rfl (rz hr.one (λ_ _=>rfl) (zb 3 rfl (xY p (hr.mono (by decide)) (by rfl) (xU 0 rfl (zk (wJ (by rfl) nb.len (zb 3 rfl ⟨_,rfl,zu ⟨_,rfl,by omega,by omega,λv v0 v1=>?_⟩⟩))))))));have f:v.toNat<ds.length:=by omega
   refine ixk rfl rfl (sC v0 f) ⟨nl f,by omega,?_⟩
   repeat refine zx ?_
   exact⟨_,_,_,_,_,_,_,_,_,zn1 e (e _ (zO6 f)),by rw[zM9];exact zJ5 _,rfl⟩
  refine xi (EvT.imp (Q':=λc=>c=true->k.toNat<ds.length) ?_ λc o=>?_)
  ·refine vW 3 rfl (EvW.t (sE ?_));and_intros;refine qr (λ_=>?_) (λ_=>λz=>by cases z);and_intros;intro z;have:=zS9 z;omega
  cases c with
  |true=>
   have hk:=o rfl;have Z:=e _ (zO6 hk);obtain⟨u,a,b,v,M,hd,a0,ab,b1,hw⟩:=zV Z.rule;have E:atI ds k=some (.tuple [.str u,.int a,.int b,v]):=by rw[sC D hk,hd]
   have x:=nl hk;rw[hd]at x;refine vZ rfl ?_;refine aJ (pat:=.many [6,7,8,9]) (xC (n:=4) (K:=K) rfl rfl (zT (zD (i:=6) nd rfl (Or.inl rfl)) (zT (zD (i:=7) nd rfl (Or.inl rfl)) (zT (zD (i:=8) nd rfl (Or.inl rfl)) (zT (zD (i:=9) nd rfl (Or.inl rfl)) xT))))) (wU 3 rfl (rz hr.one (λ_ _=>rfl) (zb 3 rfl (zb 4 rfl (ixk rfl rfl E ⟨x,⟨_,rfl,?_⟩⟩)))));refine cJ 3 rfl ?_;and_intros;rename_i v1 a2 a1;refine⟨M,λd U T Y=>?_⟩;and_intros;refine⟨k,k.toNat,rfl,B D hk,?_⟩
   repeat refine zx ?_
   exact⟨_,_,_,_,_,_,_,_,_,sr e (yQ.of M a0 (by split<;>omega) (by split<;>omega) U T Y) _,by rw[zO4];omega,rfl⟩
  |false=>
  refine ve rfl ?_;refine xi ?_;and_intros;refine yC (λ_=>?_) (λ_=>?_)
  ·refine yb 10 nd (xY p (hr.mono (by decide)) (by rfl) (xU 0 rfl (zk (wU 3 rfl (wJ (by rfl) nb.len (zb 3 rfl ⟨_,rfl,rfl,zu ⟨_,rfl,by omega,by omega,λi G i1=>?_⟩⟩))))));refine yb 11 nd (xY p (hr.mono (by decide)) (by rfl) (xU 0 rfl (zk (wU 3 rfl (wJ (by rfl) nb.len (zb 3 rfl ⟨_,rfl,rfl,zu ⟨_,rfl,by omega,by omega,λj I j1=>?_⟩⟩))))));have hi:i.toNat<ds.length:=by omega
   have C:j.toNat<ds.length:=by omega
   refine bQ 3 rfl rfl (wU 3 rfl (wc (zk (rz hr.one (λ_ _=>rfl) (zb 3 rfl (zb 11 rfl (ixk rfl rfl (sC I C) (zk (rz hr.one (λ_ _=>rfl) (zb 3 rfl (zb 10 rfl (ixk rfl rfl (sC G hi) (zu ⟨_,rfl,zN8 rfl,?_,_,_,rfl,zb 10 rfl ⟨i,i.toNat,rfl,B G hi,zb 11 rfl ⟨j,j.toNat,rfl,B I C,?_⟩⟩⟩)))))))))))))
   ·show(L2.noL ds[j.toNat]&&(L2.noL ds[i.toNat]&&true))=true;rw[nl hi,nl C];rfl
   ·repeat refine zx ?_
    exact⟨_,_,_,_,_,_,_,_,_,sr (sr e (e _ (zO6 C)) _) (e _ (zO6 hi)) _,by rw[zO4,zO4];omega,rfl⟩
  ·repeat refine zx ?_
   exact⟨_,_,_,_,_,_,_,_,_,e,by omega,rfl⟩
 ·rintro α ⟨es,L,S,H,N,R,J,s,m,re,le,rfl⟩;exact xV 3 rfl (q es re le)
end
end K69
namespace L2
open PySem PySem.Spec PyProof.Rows
def zI7 :R2:=λx y H Q=>∃d e r,DV H x d/\DV H y e/\d.canLay0=true/\e.canLay0=true/\d.depth<=60/\ltD d e=some r/\Q (.bl r) H
theorem zu2 {X:Cx}(i:X.A.units+64<cLine):OpR X (compareOp .Lt) zI7:=by
 intro pins s σ H x y v u Q I a f h;obtain⟨d,e,r,hd,he,ld,le,j,c,q⟩:=h;obtain⟨as,b⟩:=hd.reads I a;obtain⟨bs,g⟩:=he.reads I f;exact rY d e _ _ (by omega) _ _ as bs r b g ld le c _ _ _ _ ⟨.bl _,H,I,rfl,q⟩
theorem zu5 {X:Cx}{α:Ev}{a b:Expr}{pos:Pos}{T:Bool->Prop}(d:X.A.units+64<cLine)(h:EvD X α a λx=>EvD X α b λy=>∃r,x.hasDict=false/\y.hasDict=false/\x.canLay0=true/\y.canLay0=true/\x.depth<=60/\ltD x y=some r/\T r):EvT X α (.Compare a [.Lt] [b] pos) T:=
 xS (zu2 d) (yw _) (h.imp λx h=>h.imp λy z=>by
  obtain⟨r,g,f,l1,l2,dp,e,q⟩:=z;exact⟨r,λp H j k R c i z=>⟨x,y,r,(c.dv g).same xh,(i.dv f).same xh,l1,l2,dp,e,z⟩,q⟩)
end L2
namespace K69
open PySem PySem.Spec PyProof.Rows L2
abbrev gH :Stmt:=top 64
abbrev za1 :Stmt:=top 65
theorem bw (n c g m d k:Int):ltD (.tuple [.int n,.tuple [.int c,.int g]]) (.tuple [.int m,.tuple [.int d,.int k]])=some (decide (n<m\/(n=m/\(c<d\/(c=d/\g<k))))):=by
 have e:∀i j:Int,PyData.eqv (.int i) (.int j)=decide (i=j):=λi j=>by simp[PyData.eqv];rfl
 have l:∀i j:Int,ltD (.int i) (.int j)=some (decide (i<j)):=λi j=>by simp[ltD]
 have t:∀a b e f:Int,PyData.eqv (.tuple [.int a,.int b]) (.tuple [.int e,.int f])=decide (a=e/\b=f):=λa b e f=>by simp[PyData.eqv,PyData.eqvAll];rfl
 simp only[ltD,jv,e,l,t];by_cases o:n=m
 ·subst o;by_cases h:c=d
  ·subst h;by_cases p:g=k<;>simp[p]
  ·simp[h]
 ·simp[o]
theorem gF {x y:PyData}{Q:Bool->Prop}{b:Bool}(s1:SeqAt.shaped x=true)(s2:SeqAt.shaped y=true)(c:x.hasDict=false)(a:y.hasDict=false)(e:PyData.eqv x y=b)(h:Q b):rF x y Q:=eqk s1 s2 c a (by rw[e];exact h)
theorem cV {x y:Option Int}{Q:Bool->Prop}(h:Q (decide (x=y))):rF (oD x) (oD y) Q:=gF (yx x).1 (yx y).1 (yx x).2 (yx y).2 (cx x y) h
def zB6 (C:Addr)(cs:Cs):Ph:=λas Q=>∃(ds:List PyData) (c g:Int),as=[.dat (zE C cs ds),.dat (.tuple [.int c,.int g])]/\zo ds/\vn c g/\Q (.dat (oD (coO ds c g)))
def zk2 (C:Addr)(cs:Cs):Ph:=λas Q=>∃(ds es rs:List PyData) (q:Option (Nat×Int)),as=[.tape,.dat (zE C cs ds),.dat (zE C cs es),.dat (.list rs),.dat (wm ds es q)]/\zo ds/\zo es/\zo rs/\rs.length<=24/\Apt ds es q/\Q (.dat (.bool true))
section
variable {P:Program}{w:World}{K:PySem.W.Frag}{mg:Str->Option Value}{base:Heap}{cs:Cs}
set_option maxHeartbeats 8000000
theorem ip {C:Addr}(F:FnD K mg "_law_cost" gH ["_law_book","_law_stay_here"])(b:Cal P w K mg base "can_be_had" 4 (eY C cs))(d:Cal P w K mg base "cost" 6 (fv C cs)):Cal P w K mg base "_law_cost" 7 (zB6 C cs):=by
 refine yn ["_law_book","_law_stay_here"] F λ_ _ _ _ _ _ _ _ Q nd hr h=>?_;obtain⟨ds,c,g,rfl,a,sb,q⟩:=h;and_intros;refine⟨ds,c,g,rfl,a,sb,?_⟩;unfold coO at q;cases e:rq ds c g with
 |false=>
  rw[e]at q;and_intros;exact q
 |true=>
  rw[e]at q;and_intros;refine⟨ds,c,g,rfl,a,sb,e,?_⟩;exact q
theorem dw {ds es:List PyData}{n:Nat}{d c g:Int}(h:uw ds es n d)(sb:vn c g)(lt:g-c<n\/(g-c=n/\(c<d\/(c=d/\g<d+n)))):coO ds c g=coO es c g:=by
 obtain⟨a,f,b,g1⟩:=sb;obtain⟨m,rfl⟩:∃m:Nat,g=c+m:=⟨(g-c).toNat,by omega⟩;rcases lt with lt|⟨e,lt⟩
 ·exact h.bef m (by omega) (by omega) c a g1
 ·obtain rfl:m=n:=by omega
  exact h.least c a (by omega)
theorem zb2 {C:Addr}(F:FnD K mg "_law_two" za1 ["_law_row","_law_one","_law_other","_law_rules","_law_found"])(nb:NbT mg)(CD:Cal P w K mg base "_law_take" 1 xf)(U:Cal P w K mg base "_law_stay" 2 kN)(X:Cal P w K mg base "_law_cost" 7 (zB6 C cs)):Cal P w K mg base "_law_two" 8 (zk2 C cs):=by
 refine yn ["_law_row","_law_one","_law_other","_law_rules","_law_found","_law_k","_law_edge","_law_stay_here","_law_nights"] F λf cdv M outer s H E _ Q nd hr h=>?_;obtain⟨ds,es,rs,q,rfl,z,re,G,V,ap,L⟩:=h;have nn:=G.nice (by omega);have key:SvS (wo CX0 P w K mg base ["_law_row","_law_one","_law_other","_law_rules","_law_found","_law_k","_law_edge","_law_stay_here","_law_nights"] "_law_two" (zf za1) f cdv M outer s H E).nox [some .tape,some (.dat (zE C cs ds)),some (.dat (zE C cs es)),some (.dat (.list rs)),some (.dat (wm ds es q)),none,none,none,none] ((zv za1).drop 2) {nx:=λ_=>Q (.dat .none),rt:=Q}:=by
  refine yX (.one 5) (uo (by rfl) nb.range (zM ⟨_,rfl,by decide,by decide,?_⟩));refine zZ (λi α=>∃D p l o:Option A,α=[some .tape,some (.dat (zE C cs ds)),some (.dat (zE C cs es)),some (.dat (.list rs)),some (.dat (wm ds es q)),D,p,l,o]) ⟨none,none,none,none,rfl⟩ ?_ ?_
  ·rintro i d α hd ⟨D,p,l,o,rfl⟩;refine⟨_,rfl,?_⟩;refine yb 6 nd (zM ?_);refine xN (λα=>∃e:Int,0<=e/\e<=1000000/\α=[some .tape,some (.dat (zE C cs ds)),some (.dat (zE C cs es)),some (.dat (.list rs)),some (.dat (wm ds es q)),some (.dat d),some (.dat (.int e)),l,o]) ?_ ?_
   ·and_intros;refine eqk nn.shaped rfl nn.nod rfl ?_;rw[lV];cases hE:rs.isEmpty with
    |true=>
     and_intros;exact⟨0,by decide,by decide,rfl⟩
    |false=>
     have pos:0<rs.length:=List.length_pos_iff.mpr λe=>by rw[e]at hE;cases hE
     refine vZ rfl ?_;and_intros;rename_i v v0 v1;have I:v.toNat<rs.length:=by omega
     obtain⟨u,a,b,x,Z,J,S,Y,R,hw⟩:=zV (G _ (zO6 I)).rule;refine ixk rfl rfl (sC v0 I) ?_;rw[J];and_intros;rename_i k T k1;obtain rfl|rfl:k=0\/k=1:=by omega
     ·refine ixk rfl rfl rfl ?_;and_intros;exact⟨a,S,by omega,rfl⟩
     ·refine ixk rfl rfl rfl ?_;and_intros;exact⟨b,by omega,R,rfl⟩
   rintro α ⟨e,e0,e1,rfl⟩;and_intros;refine⟨?_,?_,λc g sb=>?_⟩
   ·repeat split
    all_goals omega
   ·repeat split
    all_goals omega
   cases q with
   |none=>
    and_intros;refine⟨ds,c,g,rfl,z,sb,?_⟩;and_intros;refine⟨es,c,g,rfl,re,sb,?_⟩;and_intros;have B:coO ds c g=coO es c g:=by
     obtain⟨N,cg,O,g1⟩:=id sb;obtain⟨m,rfl⟩:∃m:Nat,g=c+m:=⟨(g-c).toNat,by omega⟩;exact ap m (by omega) (by omega) c N g1
    refine cV ?_;rw[zM8 B];and_intros;exact⟨_,_,_,_,rfl⟩
   |some r=>
    obtain⟨n,d'⟩:=r;have ap:uw ds es n d':=ap;refine yb 8 nd (pC (yR (λ_ _=>rfl) (zb 7 rfl (zM ⟨_,_,_,rfl,rfl,rfl,yR (λ_ _=>rfl) (zb 7 rfl (zM ⟨_,_,_,rfl,rfl,rfl,_,_,rfl,rfl,?_⟩))⟩))));refine xi (EvW.t (fc (wy (zb 4 rfl (zd1 rfl (fA (zu5 hr.units (wc ?_))))))));and_intros;refine⟨_,rfl,rfl,rfl,rfl,by show PyData.depth (.tuple [.int (g-c),.tuple [.int c,.int g]])<=60;simp[PyData.depth,PyData.depthAll],bw (g-c) c g (d'+n-d') d' (d'+n),?_⟩;refine yC (λh=>?_) λh=>?_<;>and_intros
    ·have h:=zS9 h;have B:=dw ap sb (by omega);refine⟨ds,c,g,rfl,z,sb,?_⟩;and_intros;refine⟨es,c,g,rfl,re,sb,?_⟩;and_intros;refine cV ?_;rw[zM8 B];and_intros;exact⟨_,_,_,_,rfl⟩
    ·exact⟨_,_,_,_,rfl⟩
  ·rintro α ⟨D,p,l,o,rfl⟩;and_intros;exact L
 cases q with
 |none=>
  and_intros;exact key
 |some r=>
  obtain⟨n,d⟩:=r;have ap:uw ds es n d:=ap;have sb:vn d (d+n):=⟨ap.lo,by have:=ap.n1;omega,by have:=ap.n2;omega,ap.hi⟩;have ne:=ap.ne;refine xi (EvW.t (sE (kP (zb 4 rfl (gf rfl (qI (fJ hr.units (wc ?_))))))));and_intros;refine⟨ds,d,d+n,rfl,z,sb,?_⟩;and_intros;refine⟨es,d,d+n,rfl,re,sb,zu ⟨_,rfl,zN8 rfl,zr5 (zb 4 rfl ?_)⟩⟩;and_intros;refine⟨λh=>absurd (show HT.sIx 3 0 (some 1)=0 from h.1) (by decide),?_⟩;have j:∀x y:Option Int,PyData.eqv (.tuple [oD x,oD y]) (.tuple [oD x,oD y])=true/\SeqAt.shaped (.tuple [oD x,oD y])=true/\(PyData.tuple [oD x,oD y]).hasDict=false:=λx y=>by
   cases x<;>cases y<;>exact⟨by simp[oD,PyData.eqv,PyData.eqvAll],rfl,rfl⟩
  have j:=j (coO ds d (d+n)) (coO es d (d+n));refine gF j.2.1 j.2.1 j.2.2 j.2.2 j.1 ?_;and_intros;refine cV ?_;rw[zM0 ne];and_intros;exact key
end
end K69
namespace L2
open PySem PySem.Spec PyProof.Rows
section
variable {X:Cx}{pos:Pos}
theorem aw {i j k:Nat}{x y z:Str}{a b c:Expr}{K:TA}{px py r pt:Pos}{kt k2 pt2}(T:X.calm=true)(G:X.N.Nodup)(hi:X.N[i]?=some x)(R:X.N[j]?=some y)(hk:X.N[k]?=some z)(t:i≠j)(m:i≠k)(n:j≠k)
  (J:X.env.scope.names.lookup x=some .local) (hy:X.env.scope.names.lookup y=some .local) (hz:X.env.scope.names.lookup z=some .local) (ha:PA X [a,b,c] K)
  (hw:swappedStores [.Tuple [.Name x px,.Name y py,.Name z r] kt pt] (.Tuple [a,b,c] k2 pt2) X.env=pure (some [x,y,z]))
  (S:swapsWithSole [.Tuple [.Name x px,.Name y py,.Name z r] kt pt] (.Tuple [a,b,c] k2 pt2) pos.line X.env=pure false):
  PS X (.Assign [.Tuple [.Name x px,.Name y py,.Name z r] kt pt] (.Tuple [a,b,c] k2 pt2) pos) (λD σ H=>K σ H λvs H1=>∃u v w,vs=[u,v,w]/\D.nx (((σ.set i (some u)).set j (some v)).set k (some w)) H1):=by
 intro pins s σ H D I h;rw[exec_Assign_arm];refine zI9 (z25 ?_);rw[S];refine zI9 (zJ1 ?_);rw[if_neg (by decide)];refine zI9 (Tuple_ (thn (ha _ pins s σ H _ I h) λus s1 l=>?_));obtain⟨vs,H1,P,U,u,v,w,rfl,l⟩:=l;obtain⟨f,g,d,rfl,V,Q,F⟩:∃f g d,us=[f,g,d]/\RelV u f/\RelV v g/\RelV w d:=by
  cases U with
  |cons p q=>cases q with
   |cons O M=>cases M with
    |cons C E=>cases E;exact⟨_,_,_,rfl,p,O,C⟩
 refine zP0 ?_ (by show 3<=sizeLine;decide);have Z:Inv X pins σ H1 {s1 with heap:=s1.heap.push {cls:=.type "tuple",data:=.seq [f,g,d].toArray}}:=P.kept (t':=s1.toks) λb o e=>zJ0 _ e;rw[hw];refine zI9 (zJ1 ?_);show wpAny (model X.prog X.w) X.A (do rule "assign.swapped-stores";let items <-unpackItems (.ref s1.heap.objs.size) 3 none;assignInOrder [λv=>bindName X.env z v,λv=>bindName X.env y v,λv=>bindName X.env x v] items.reverse;pure Flow.next) _ _ _;refine zI9 (zR8 (zI9 (unpackItems_tuple (items:=#[f,g,d]) (I.ok.hd T) (IsTup.new s1.heap _) λh' B=>?_)));have W:=Z.kept (h':=h') (t':=s1.toks) λb o e=>B b o (zK9 (zK3 e)) e;show wpAny _ _ (assignInOrder [λv=>bindName X.env z v,λv=>bindName X.env y v,λv=>bindName X.env x v] [d,g,f] >>= λ_=>pure Flow.next) _ _ _;refine zI9 (z01 (wpAny_bindName (wt W G hk (.inl hz) F (λs2 I4=>?_) (.inr hz))));refine z01 (wpAny_bindName (wt I4 G R (.inl hy) Q (λs3 Y=>?_) (.inr hy)));refine z01 (wpAny_bindName (wt Y G hi (.inl J) V (λs4 L=>assignInOrder_nil (zJ1 ?_)) (.inr J)));rw[List.set_comm _ _ (zN9 n),List.set_comm _ _ (zN9 m),List.set_comm _ _ (zN9 t)]at L;exact⟨_,H1,L,l⟩
theorem bO {α:Ev}{E:yk}{rest:List Stmt}(i j k:Nat){x y z:Str}{a b c:Expr}{px py t pt:Pos}{kt k2 pt2}(O:X.N.Nodup)(h:EvA X α [a,b,c] λas=>∃d e f,as=[.dat d,.dat e,.dat f]/\SvS X (((α.set i (some (.dat d))).set j (some (.dat e))).set k (some (.dat f))) rest E)
  (hw:swappedStores [.Tuple [.Name x px,.Name y py,.Name z t] kt pt] (.Tuple [a,b,c] k2 pt2) X.env=pure (some [x,y,z]):=by rfl) (J:swapsWithSole [.Tuple [.Name x px,.Name y py,.Name z t] kt pt] (.Tuple [a,b,c] k2 pt2) pos.line X.env=pure false:=by rfl)
  (K:X.calm=true:=by rfl) (hi:X.N[i]?=some x:=by rfl) (I:X.N[j]?=some y:=by rfl) (hk:X.N[k]?=some z:=by rfl) (u:i≠j:=by decide) (n:i≠k:=by decide) (o:j≠k:=by decide)
  (C:X.env.scope.names.lookup x=some .local:=by rfl) (hy:X.env.scope.names.lookup y=some .local:=by rfl) (hz:X.env.scope.names.lookup z=some .local:=by rfl):
  SvS X α (.Assign [.Tuple [.Name x px,.Name y py,.Name z t] kt pt] (.Tuple [a,b,c] k2 pt2) pos::rest) E:=λF σ H D m r=>by
 refine⟨_,zy (aw K O hi I hk u n o C hy hz yy hw J) zI,?_⟩;refine h F σ H _ m λas vs H1 A t1 L l=>?_;obtain⟨d,e,f,rfl,q⟩:=A;have m1:=m.kz L t1;cases l with
 |cons p l=>cases l with
  |cons B l=>cases l with
   |cons w l=>
    cases l;obtain⟨_,_,e1,_,_,M,_,_,Q,R,g⟩:=wM (is:=[i,j,k]) (ds:=[d,e,f]) (xs:=[_,_,_]) rfl m1 (λG s=>.cons (AV.same s p) (.cons (AV.same s B) (.cons (AV.same s w) .nil))) λv P=>q F v H1 D P r;cases e1;cases M;cases Q;exact⟨_,_,_,rfl,g⟩
end
end L2
namespace K69
open PySem PySem.Spec PyProof.Rows L2
abbrev qF :Stmt:=top 66
theorem aY {ds es d:List PyData}{q r:Option (Nat×Int)}(h:Apt ds es none)(a:Apt ds d q)(b:Apt es d r):wm ds d q=wm es d r:=by
 have e:q=r:=by
  refine lR (ds:=es) (es:=d) ?_ b;cases q with
  |none=>exact λm m1 m2 c f g=>(h m m1 m2 c f g).symm.trans (a m m1 m2 c f g)
  |some q=>
   have a:uw ds d q.1 q.2:=a;have s:=h q.1 a.n1 a.n2;exact(⟨a.n1,a.n2,a.lo,a.hi,λe=>a.ne ((s q.2 a.lo a.hi).trans e),λm m1 m2 c f g=>(h m m1 (by have:=a.n2;omega) c f g).symm.trans (a.bef m m1 m2 c f g),λe i e1=>(s e i (by have:=a.hi;omega)).symm.trans (a.least e i e1)⟩:uw es d q.1 q.2)
 subst e;cases q with
 |none=>rfl
 |some q=>
  have a:uw ds d q.1 q.2:=a;show PyData.tuple [_,oD _,_]=.tuple [_,oD _,_];rw[h q.1 a.n1 a.n2 q.2 a.lo a.hi]
theorem nA {ds es f:List PyData}{q r:Option (Nat×Int)}(h:Apt es f none)(a:Apt ds es q)(b:Apt ds f r):wm ds es q=wm ds f r:=by
 have e:q=r:=by
  refine lR (ds:=ds) (es:=f) ?_ b;cases q with
  |none=>exact λm m1 m2 c d g=>(a m m1 m2 c d g).trans (h m m1 m2 c d g)
  |some q=>
   have a:uw ds es q.1 q.2:=a;have s:=h q.1 a.n1 a.n2;exact(⟨a.n1,a.n2,a.lo,a.hi,λe=>a.ne (e.trans (s q.2 a.lo a.hi).symm),λm m1 m2 c d g=>(a.bef m m1 m2 c d g).trans (h m m1 (by have:=a.n2;omega) c d g),λe i e1=>(a.least e i e1).trans (s e i (by have:=a.hi;omega))⟩:uw ds f q.1 q.2)
 subst e;cases q with
 |none=>rfl
 |some q=>
  have a:uw ds es q.1 q.2:=a;show PyData.tuple [_,_,oD _]=.tuple [_,_,oD _];rw[h q.1 a.n1 a.n2 q.2 a.lo a.hi]
theorem ph {ds es fs c:List PyData}{q r:Option (Nat×Int)}{Q:Bool->Prop}(e:wm ds es q=wm fs c r)(h:Q true):rF (wm ds es q) (wm fs c r) Q:=by
 rw[<-e];have k:∀(a b:Int) (x y:Option Int),PyData.eqv (.tuple [.tuple [.int a,.int b],oD x,oD y]) (.tuple [.tuple [.int a,.int b],oD x,oD y])=true/\SeqAt.shaped (.tuple [.tuple [.int a,.int b],oD x,oD y])=true/\(PyData.tuple [.tuple [.int a,.int b],oD x,oD y]).hasDict=false:=λa b x y=>by
  cases x<;>cases y<;>exact⟨by simp[oD,PyData.eqv,PyData.eqvAll],rfl,rfl⟩
 cases q with
 |none=>exact eqk rfl rfl rfl rfl h
 |some q=>
  have k:=k q.2 (q.2+q.1) (coO ds q.2 (q.2+q.1)) (coO es q.2 (q.2+q.1));exact gF k.2.1 k.2.1 k.2.2 k.2.2 k.1 h
section
variable {P:Program}{w:World}{K:PySem.W.Frag}{mg:Str->Option Value}{base:Heap}{cs:Cs}
abbrev nLa :List Str:=["_law_script","_law_cell","_law_row","_law_day_here","_law_rules","_law_others","_law_thirds","_law_one","_law_other","_law_third","_law_some","_law_told","_law_k","_law_mine","_law_theirs"]
theorem zy9 :zS nLa ["_law_script"] (zf qF):=.o
theorem iH {X:Cx}{α α0:Ev}{E:yk}{b:List Stmt}(c:α0.length=α.length)(le:∀(i:Nat) a,α0[i]?=some (some a)->α[i]?=some (some a))(h:SvS X α0 b E):SvS X α b E:=λF σ H D m r=>h F σ H D (m.forget c le) r
theorem aA {α:Ev}{n:Nat}{a:A}(c:α.length=n+2):∀(i:Nat) b,((none:Option A)::some a::List.replicate n none)[i]?=some (some b)->(α.set 1 (some a))[i]?=some (some b):=by
 intro i b h;rcases i with _|_|i
 ·cases h
 ·rw[zR3 (by omega)];exact h
 ·simp only[z06,zR0]at h;split at h<;>cases h
theorem zs0 {f C:Addr}{fd:FuncData}(F:Fun K "law" "law" qF f fd)(nb:NbT mg)(N:Cal P w K mg base "_law_begin" 1 kL)(V:Cal P w K mg base "_law_day" 2 fL)(X:Cal P w K mg base "_law_few" 5 zd2)(J:Cal P w K mg base "_law_turned" 5 dZ)(S:uE P w K mg base "Book" 9 [] (qK C cs))(U:Cal P w K mg base "apart" 7 (zf1 C cs))(R:Cal P w K mg base "_law_two" 8 (zk2 C cs)):yD P w K mg base CX0 11 f fd ["_law_script"] (pQ K):=by
 refine zG1 (k:=10) (j:=1) F zy9 rfl (Or.inl rfl) rfl (Or.inl rfl) (λcdv Y outer s H E zs hr T=>?_);have nd:=zy9.nd;refine zZ (λi α=>α.length=15) (by simp) ?_ ?_
 ·intro i d α hd G;rw[zK8,zM2]at hd;obtain⟨z,hz,rfl⟩:=hd;refine⟨_,rfl,?_⟩;refine iH (α0:=none::some (.dat (.int z))::List.replicate 13 none) (by rw[zO4,G];rfl) (aA G) ?_;refine xQ 2 nd (wD N (hr.mono (by decide)) (by rfl) (zk (zb 1 rfl (zu ⟨z,rfl,λx y M O=>⟨_,rfl,?_⟩⟩))));refine zm4 2 rfl M O ?_;have ln:∀l:Ev,l.length=15->(yP l).length=15:=λl h=>by unfold yP;rw[zJ3];exact h
  refine yb 3 nd ?_;and_intros;refine⟨rfl,λu B D=>?_⟩;and_intros;refine⟨B,D,λds m ld=>?_⟩;and_intros;refine⟨ds,u,rfl,m,by omega,B,D,λes re le=>?_⟩;and_intros;refine⟨es,u,rfl,re,by omega,B,D,λa rt lt=>?_⟩;refine xN (λα=>α=[none,some (.dat (.int z)),some .tape,some (.dat (.int u)),some (.dat (.list ds)),some (.dat (.list es)),some (.dat (.list a)),some (.dat (zE C cs ds)),some (.dat (zE C cs es)),some (.dat (zE C cs a)),none,none,none,none,none]) ?_ ?_
  ·refine bO 7 8 9 nd ?_;and_intros;refine⟨ds,.inl rfl,m.rules,by omega,?_⟩;and_intros;refine⟨es,.inl rfl,re.rules,by omega,?_⟩;and_intros;refine⟨a,.inl rfl,rt.rules,by omega,zu ⟨_,_,_,rfl,zx rfl⟩⟩
  rintro α rfl;refine yb 10 nd (EvL.d (xK (EvL.d (xK (zb 4 rfl (zb 5 rfl ⟨_,_,rfl,rfl,by omega,zb 6 rfl ⟨_,_,rfl,rfl,by simp;omega,?_⟩⟩))))));refine yb 11 nd ?_;and_intros;refine⟨ds,es,rfl,m,re,by omega,by omega,λo a1=>?_⟩;and_intros;refine⟨es,a,rfl,re,rt,by omega,by omega,λn a2=>?_⟩;and_intros;refine⟨ds,a,rfl,m,rt,by omega,by omega,λt r=>?_⟩;and_intros;have ok:∀p∈[(ds,es,o),(es,a,n),(ds,a,t)],zo p.1/\zo p.2.1/\Apt p.1 p.2.1 p.2.2:=λp q=>by
   simp only[zJ6,zL1,zO0]at q;rcases q with rfl|rfl|rfl
   ·exact⟨m,re,a1⟩
   ·exact⟨re,rt,a2⟩
   ·exact⟨m,rt,r⟩
  refine yX (.nest 12 [13,14]) (qR (by rfl) nb.enumerate (EvL.d (xZ (zk (wc (zk (zb 7 rfl (zk (zb 8 rfl (zu ⟨_,rfl,zN8 rfl,zk (wc (zk (zb 8 rfl (zk (zb 9 rfl (zu ⟨_,rfl,zN8 rfl,zk (wc (zk (zb 7 rfl (zk (zb 9 rfl (zu ⟨_,rfl,zN8 rfl,zu ⟨_,rfl,zN8 rfl,_,rfl,?_⟩⟩))))))⟩))))))⟩)))))))))) (hg:=xC rfl rfl (zT (zD nd rfl (Or.inl rfl)) (zT (xC rfl rfl (zT (zD nd rfl (Or.inl rfl)) (zT (zD nd rfl (Or.inl rfl)) xT))) xT)));refine zZ (λi α=>∃c g b:Option A,α=[none,some (.dat (.int z)),some .tape,some (.dat (.int u)),some (.dat (.list ds)),some (.dat (.list es)),some (.dat (.list a)),some (.dat (zE C cs ds)),some (.dat (zE C cs es)),some (.dat (zE C cs a)),some (.dat (.list (ds++es++a))),some (.dat (.list [wm ds es o,wm es a n,wm ds a t])),c,g,b]) ⟨none,none,none,rfl⟩ ?_ ?_
  ·rintro i d α hd ⟨c,g,b,rfl⟩;obtain⟨e,he,rfl⟩:=xD hd;have he:([(ds,es,o),(es,a,n),(ds,a,t)].map λp=>PyData.tuple [zE C cs p.1,zE C cs p.2.1])[i]?=some e:=he;rw[zK8,zM2]at he;obtain⟨p,q,rfl⟩:=he;obtain⟨I,Q,L⟩:=ok p (zO3 q);refine⟨_,rfl,?_⟩;and_intros;refine ixk rfl rfl (xR (j:=0+i) (v:=wm p.1 p.2.1 p.2.2) ?_) ?_
   ·rw[Nat.zero_add];show([(ds,es,o),(es,a,n),(ds,a,t)].map λp=>wm p.1 p.2.1 p.2.2)[i]?=_;rw[zK8,q];rfl
   and_intros;refine⟨p.1,p.2.1,ds++es++a,p.2.2,rfl,I,Q,(m.app re).app rt,by simp;omega,L,?_⟩;and_intros;exact⟨_,_,_,rfl⟩
  ·rintro α ⟨c,g,b,rfl⟩;cases o with
   |none=>
    and_intros;refine ph (aY a1 r a2) ?_;cases n with
    |none=>
     and_intros;refine ph (nA a2 a1 r) ?_;and_intros;exact ln _ rfl
    |some=>
     and_intros;exact ln _ rfl
   |some=>
    cases n with
    |none=>
     and_intros;refine ph (nA a2 a1 r) ?_;and_intros;exact ln _ rfl
    |some=>
     and_intros;exact ln _ rfl
 ·intro α _;exact xy (gh rfl)
end
theorem us1 {α:Type}{p:List α->Prop}(h:∀a,p [a])(us:List α)(b:us.length=1):p us:=by
 obtain⟨a,rfl⟩:=List.length_eq_one_iff.mp b;exact h a
theorem us2 {α:Type}{p:List α->Prop}(h:∀a b,p [a,b])(us:List α)(c:us.length=2):p us:=by
 cases us with
 |nil=>cases c
 |cons a us=>exact us1 (p:=λus=>p (a::us)) (h a) us (Nat.succ.inj c)
theorem us3 {α:Type}{p:List α->Prop}(h:∀a b c,p [a,b,c])(us:List α)(d:us.length=3):p us:=by
 cases us with
 |nil=>cases d
 |cons a us=>exact us2 (p:=λus=>p (a::us)) (h a) us (Nat.succ.inj d)
theorem us4 {α:Type}{p:List α->Prop}(h:∀a b c d,p [a,b,c,d])(us:List α)(e:us.length=4):p us:=by
 cases us with
 |nil=>cases e
 |cons a us=>exact us3 (p:=λus=>p (a::us)) (h a) us (Nat.succ.inj e)
theorem us5 {α:Type}{p:List α->Prop}(h:∀a b c d e,p [a,b,c,d,e])(us:List α)(f:us.length=5):p us:=by
 cases us with
 |nil=>cases f
 |cons a us=>exact us4 (p:=λus=>p (a::us)) (h a) us (Nat.succ.inj f)
def FnF (K:PySem.W.Frag)(f:Addr)(nm a:Str)(st:Stmt)(ps:List Str):Prop:=∃fd,Fun K nm a st f fd/\Binds K fd ps []
section
variable {K:PySem.W.Frag}{h0:Heap}{mg:Str->Option Value}{f:Addr}{nm ql:Str}{st:Stmt}{ps:List Str}{oc kV dc pm cd ct:Value}{od an:Option Addr}{sl:Array (Option Value)}
theorem mkF (l:K.lookup f=some ⟨oc,od,.func (PySem.W.fnOf nm ql (zJ st) (zv st) (zf st) .none kV dc pm an cd ct),sl⟩)(c:PySem.W.codeIn K cd ql=true)(k:PySem.W.keepIn K (.ref f)=true)
  (hb:∀(kV doc pm:Value) (an:Option Addr) (cdv ct:Value) (us:List Value),us.length=ps.length->bindArgs (PySem.W.fnOf nm ql (zJ st) (zv st) (zf st) .none kV doc pm an cdv ct) ⟨us,[]⟩=pure (ps.zip us):=by intro _ _ _ _ _ _;first|exact K69.us1 λ_=>rfl|exact K69.us2 λ_ _=>rfl|exact K69.us3 λ_ _ _=>rfl|exact K69.us4 λ_ _ _ _=>rfl|exact K69.us5 λ_ _ _ _ _=>rfl):FnF K f nm ql st ps:=⟨_,qM l c k,(qM l c k).binds hb⟩
theorem mkG (X:K.In h0)(G:h0.Ns mainGlobals mg)(a:PySem.W.nsIn K mainGlobals nm=some (some (.ref f)))(q:FnF K f nm nm st ps):FnD K mg nm st ps:=by
 obtain⟨_,F,b⟩:=q;exact⟨f,_,F,zO1 X G a,b⟩
end
theorem mkR {K:PySem.W.Frag}{C b gt ge a:Addr}(pg:PySem.W.plainGet K C Str.empty=true)(hd:PySem.W.hasDictIn K C=true)(po:PySem.W.plainOver K C=true)(sa:PySem.W.findIn K (.ref C) "__setattr__"=some (some (.builtin "object.__setattr__")))(n1:PySem.W.findIn K (.ref C) "first"=some none)(n2:PySem.W.findIn K (.ref C) "last"=some none)(e:PySem.W.findIn K (.ref C) "worth"=some none)(mk:PySem.W.makesIn K C=true)(f1:PySem.W.findIn K (.ref C) "__init__"=some (some (.ref b)))(i1:PySem.W.isFn K (.ref b)=true)(d:PySem.W.keepIn K (.ref C)=true)(f2:PySem.W.findIn K (.ref C) "told"=some (some (.ref gt)))(i2:PySem.W.isFn K (.ref gt)=true)(g:PySem.W.keepIn K (.ref gt)=true)(c:PySem.W.findIn K (.ref C) "tells"=some (some (.ref ge)))(i3:PySem.W.isFn K (.ref ge)=true)(f:PySem.W.keepIn K (.ref ge)=true)(f4:PySem.W.findIn K (.ref C) "word"=some (some (.ref a)))(h:PySem.W.isFn K (.ref a)=true)(i:PySem.W.keepIn K (.ref a)=true):uZ K C b gt ge a:=⟨⟨pg,hd,po,sa⟩,n1,n2,e,⟨mk,f1,i1,d⟩,⟨f2,i2,g⟩,⟨c,i3,f⟩,⟨f4,h,i⟩⟩
theorem iF {K:PySem.W.Frag}{dT:Addr}{oc kV doc pm cdv ct:Value}{od an:Option Addr}{n:Nat}{sl:Array (Option Value)}(b:K.lookup dT=some ⟨oc,od,.seq #[.none] n,sl⟩):
  Binds K (PySem.W.fnOf "__init__" "Book.__init__" (zJ yS) (zv yS) (zf yS) (.ref dT) kV doc pm an cdv ct) ["self","rules"] [.none]:=λs us hk a=>by
 match us,(show us.length=1 by rw[zM9]at a;simpa using a)with
 |[u],_=>exact BindsTo.of_defaults (T:=dT) rfl (hk _ _ b) rfl rfl rfl
theorem ig {K:PySem.W.Frag}{dT:Addr}{oc kV doc pm cdv ct:Value}{od an:Option Addr}{n:Nat}{sl:Array (Option Value)}(b:K.lookup dT=some ⟨oc,od,.seq #[.none] n,sl⟩):
  Binds K (PySem.W.fnOf "__init__" "Book.__init__" (zJ yS) (zv yS) (zf yS) (.ref dT) kV doc pm an cdv ct) ["self","rules"] []:=λs us hk a=>by
 rw[zQ3]at a ⊢
 match us,a with
 |[u,v],_=>exact BindsTo.of_defaults (T:=dT) rfl (hk _ _ b) rfl rfl rfl
theorem bK {P:Str->Prop}(h:P "price")(d:P "come")(b:P "go")(g:P "least")(f:P "most")(e:P "deal")(c:P "fee"):∀u∈words,P u:=by
 intro u a;simp only[words,zJ6,zL1,zO0]at a;rcases a with rfl|rfl|rfl|rfl|rfl|rfl|rfl<;>assumption
theorem all_mk {l:PySem.W.OpenLaw}{w:World}{K:PySem.W.Frag}{h:Heap}{mg:Str->Option Value}{fa cC h7 j1 m n g a3 c0 e9 a1 b5 b9 d0 b c L a f d p CB dT j H N dU:Addr}(X:K.In h)(G:h.Ns mainGlobals mg)(r6:mg "law"=some (.ref fa))
  {m5 l1 m6 i8 s1 o6 u0:Option Addr} {l9 k6 u5 t9:Array (Option Value)} {k9 n8 n6 m0 m3 n0 i7 i5 i6 i9 f7 v2 r2 v6 p6 n9 l3 r0:Value} {k2 h0 k4 n5 n3 s2 t8 t6 p5 s3 r7 u2 o8 u6 l8:Tok} {m9 k5 l4 l0 m2 n1 m4:Int} {nT nU:Nat}
  (b3:FnD K mg "is_whole" gW ["thing"])
  (A:FnD K mg "is_whole_within" jc ["thing","lowest","highest"])
  (c3:FnD K mg "is_pair" zg0 ["thing"])
  (d3:FnD K mg "is_day" zy7 ["thing"])
  (B:FnD K mg "is_pair_of_days" zj6 ["thing"])
  (V:FnD K mg "is_stretch" oR ["thing"])
  (c1:FnD K mg "is_coins" dJ ["thing"])
  (c2:FnD K mg "is_deal" lF ["thing"])
  (b6:FnD K mg "is_worth" cX ["word","thing"])
  (c7:FnD K mg "is_rule" ki ["thing"])
  (i4:FnD K mg "made" zf2 ["word","first","last","worth"])
  (c9:FnD K mg "rule_of" lO ["thing"])
  (b1:FnD K mg "nights_of" jf ["stay"])
  (o2:PySem.W.nsIn K mainGlobals "cheapest_first"=some (some (.ref h7)))
  (l7:K.lookup h7=some ⟨k9,m5,.func (PySem.W.fnOf "cheapest_first" "cheapest_first" (zJ yv) (zv yv) (zf yv) .none n8 n6 m0 l1 (.ref cC) m3),l9⟩)
  (l2:PySem.W.codeIn K (.ref cC) "cheapest_first"=true)
  (n2:PySem.W.keepIn K (.ref h7)=true)
  (e1:FnD K mg "marked" vP ["prices","deal"])
  (O:FnD K mg "night_prices" sNP ["book","nights"])
  (i2:FnD K mg "bill" tP ["book","stay"])
  (h5:FnD K mg "bars" oW ["book","stay"])
  (Y:FnD K mg "can_be_had" zy6 ["book","stay"])
  (h3:FnD K mg "cost" ze6 ["book","stay"])
  (Q:FnD K mg "cost_or_none" zC7 ["book","stay"])
  (b7:FnD K mg "turns_by" sTb ["rule","many"])
  (g7:FnD K mg "turns" sTn ["rules","many"])
  (f4:FnD K mg "apart" zz5 ["one","other"])
  (f8:FnD K mg "usual" cO ["word"])
  (T:FnD K mg "kept_rules" zd0 ["things"])
  (U:FnD K mg "_law_begin" gp ["_law_cell"])
  (b0:FnD K mg "_law_take" cG ["_law_row","_law_base"])
  (Z:FnD K mg "_law_coins" lJ ["_law_row"])
  (S:FnD K mg "_law_worth" kD ["_law_row","_law_word"])
  (a9:FnD K mg "_law_rule" gI ["_law_row","_law_day_here"])
  (b8:FnD K mg "_law_day" zg7 ["_law_row"])
  (a7:FnD K mg "_law_stay" cQ ["_law_row","_law_day_here"])
  (b4:FnD K mg "_law_few" zx8 ["_law_row","_law_day_here","_law_most"])
  (R:FnD K mg "_law_turned" zk1 ["_law_row","_law_rules","_law_day_here"])
  (a6:FnD K mg "_law_cost" gH ["_law_book","_law_stay_here"])
  (b2:FnD K mg "_law_two" za1 ["_law_row","_law_one","_law_other","_law_rules","_law_found"])
  (o7:PySem.W.nsIn K mainGlobals "law"=some (some (.ref j1)))
  (t2:K.lookup j1=some ⟨n0,m6,.func (PySem.W.fnOf "law" "law" (zJ qF) (zv qF) (zf qF) .none i7 i5 i6 i8 f7 i9),k6⟩)
  (q5:PySem.W.codeIn K f7 "law"=true)
  (q8:PySem.W.keepIn K (.ref j1)=true)
  (g5:PySem.W.nsIn K mainGlobals "Price"=some (some (.ref b)))
  (i3:PySem.W.nsIn K mainGlobals "Come"=some (some (.ref c)))
  (m7:PySem.W.nsIn K mainGlobals "Go"=some (some (.ref L)))
  (g0:PySem.W.nsIn K mainGlobals "Least"=some (some (.ref a)))
  (h1:PySem.W.nsIn K mainGlobals "Most"=some (some (.ref f)))
  (h4:PySem.W.nsIn K mainGlobals "Deal"=some (some (.ref d)))
  (j8:PySem.W.nsIn K mainGlobals "Fee"=some (some (.ref p)))
  (z:uZ K b m n g a3)
  (M:uZ K c m n g c0)
  (e2:uZ K L m n g e9)
  (y:uZ K a m n g a1)
  (I:uZ K f m n g b5)
  (J:uZ K d m n g b9)
  (a4:uZ K p m n g d0)
  (h2:FnF K m "__init__" "Rule.__init__" zf7 ["self","first","last","worth"])
  (h6:FnF K n "told" "Rule.told" zk4 ["self"])
  (f2:FnF K g "tells" "Rule.tells" cp ["self","day"])
  (d7:FnF K a3 "word" "Price.word" aX ["self"])
  (f6:FnF K c0 "word" "Come.word" zl7 ["self"])
  (j9:FnF K e9 "word" "Go.word" zE7 ["self"])
  (d5:FnF K a1 "word" "Least.word" bA ["self"])
  (g1:FnF K b5 "word" "Most.word" zo8 ["self"])
  (f3:FnF K b9 "word" "Deal.word" zl9 ["self"])
  (g9:FnF K d0 "word" "Fee.word" zy2 ["self"])
  (r1:PySem.W.nsIn K mainGlobals "Book"=some (some (.ref CB)))
  (d8:PySem.W.findIn K (.ref CB) "__init__"=some (some (.ref j)))
  (d6:PySem.W.isFn K (.ref j)=true)
  (f1:K.lookup j=some ⟨v2,s1,.func (PySem.W.fnOf "__init__" "Book.__init__" (zJ yS) (zv yS) (zf yS) (.ref dT) r2 v6 p6 o6 l3 n9),u5⟩)
  (f9:PySem.W.codeIn K l3 "Book.__init__"=true)
  (f0:PySem.W.keepIn K (.ref j)=true)
  (lT:K.lookup dT=some ⟨r0,u0,.seq #[.none] nT,t9⟩)
  (c4:PySem.W.findIn K (.ref CB) "rules"=some (some (.ref H)))
  (c8:PySem.W.isFn K (.ref H)=true)
  (d9:FnF K H "rules" "Book.rules" vQ ["self"])
  (c6:PySem.W.findIn K (.ref CB) "tells_of"=some (some (.ref N)))
  (c5:PySem.W.isFn K (.ref N)=true)
  (e4:FnF K N "tells_of" "Book.tells_of" lX ["self","word","day"])
  (u4:PySem.W.plainGet K CB Str.empty=true)
  (q9:PySem.W.hasDictIn K CB=true)
  (u9:PySem.W.plainOver K CB=true)
  (r3:PySem.W.findIn K (.ref CB) "__setattr__"=some (some (.builtin "object.__setattr__")))
  (v3:PySem.W.makesIn K CB=true)
  (q1:PySem.W.keepIn K (.ref CB)=true)
  (j2:PySem.W.findIn K (.ref CB) "kept"=some none)
  (z1:PySem.W.nsIn K mainGlobals "abs"=some none)
  (z2:PySem.W.nsIn K mainGlobals "list"=some none)
  (z3:PySem.W.nsIn K mainGlobals "len"=some none)
  (z4:PySem.W.nsIn K mainGlobals "range"=some none)
  (z5:PySem.W.nsIn K mainGlobals "min"=some none)
  (z6:PySem.W.nsIn K mainGlobals "max"=some none)
  (z7:PySem.W.nsIn K mainGlobals "sorted"=some none)
  (z8:PySem.W.nsIn K mainGlobals "isinstance"=some none)
  (z9:PySem.W.nsIn K mainGlobals "int"=some none)
  (u7:PySem.W.nsIn K mainGlobals "bool"=some none)
  (o5:PySem.W.nsIn K mainGlobals "str"=some none)
  (s5:PySem.W.nsIn K mainGlobals "tuple"=some none)
  (o9:PySem.W.nsIn K mainGlobals "all"=some none)
  (o0:PySem.W.nsIn K mainGlobals "any"=some none)
  (o3:PySem.W.nsIn K mainGlobals "repr"=some none)
  (s7:PySem.W.nsIn K mainGlobals "zip"=some none)
  (p7:PySem.W.nsIn K mainGlobals "enumerate"=some none)
  (r9:PySem.W.nsIn K mainGlobals "reversed"=some none)
  (v4:PySem.W.nsIn K mainGlobals "sum"=some none)
  (q0:PySem.W.nsIn K mainGlobals "set"=some none)
  (n7:PySem.W.nsIn K mainGlobals "LAST_DAY"=some (some (.int 1000000 k2)))
  (j3:PySem.W.nsIn K mainGlobals "MOST_NIGHTS"=some (some (.int 14 h0)))
  (p2:PySem.W.nsIn K mainGlobals "MOST_COINS"=some (some (.int 1000000000000 k4)))
  (q7:PySem.W.nsIn K mainGlobals "MOST_RULES"=some (some (.int 24 n5)))
  (p8:PySem.W.nsIn K mainGlobals "MOST_RULES_APART"=some (some (.int 12 n3)))
  (aU:PySem.W.nsIn K mainGlobals "USUAL"=some (some (.ref dU)))
  (lU:K.lookup dU=some ⟨.type "dict",none,.dict #[⟨m9,.str "price" s2,.none⟩,⟨k5,.str "come" t8,.bool true⟩,⟨l4,.str "go" t6,.bool true⟩,⟨l0,.str "least" p5,.int 1 o8⟩,⟨m2,.str "most" s3,.int 14 u6⟩,⟨n1,.str "deal" r7,.none⟩,⟨m4,.str "fee" u2,.int 0 l8⟩] nU,#[]⟩)
  (s9:m9=hashStr w "price")
  (v5:k5=hashStr w "come")
  (o4:l4=hashStr w "go")
  (s0:l0=hashStr w "least")
  (u1:m2=hashStr w "most")
  (p4:n1=hashStr w "deal")
  (p3:m4=hashStr w "fee")
  (hhd:PySem.W.codeHdIn K cC yc=true):
  ∃fd:FuncData,(∀(s:Shared) (v:Value),BindsTo s fd ⟨[v],[]⟩ [("_law_script",v)])/\∀base:Heap,K.In base->base.Ns mainGlobals mg->base.BuiltinsAt mg yc->yD l.prog w K mg base CX0 11 fa fd ["_law_script"] (pQ K):=by
 have e:=r6.symm.trans (zO1 X G o7);cases e;have nb:NbT mg:=⟨zM4 X G z1,zM4 X G z2,zM4 X G z3,zM4 X G z4,zM4 X G z5,zM4 X G z6,zM4 X G z7,zM4 X G z8,zM4 X G z9,zM4 X G u7,zM4 X G o5,zM4 X G s5,zM4 X G o9,zM4 X G o0,zM4 X G o3,zM4 X G s7,zM4 X G p7,zM4 X G r9,zM4 X G v4⟩;have j5:mg "set"=none:=zM4 X G q0;have D:mg "cheapest_first"=some (.ref h7):=zO1 X G o2;have F:=qM (st:=yv) l7 l2 n2;have C:=F.binds (ps:=["prices","places"]) λ_ _ _ _ _ _=>us2 λ_ _=>rfl;obtain⟨_,_,E,a8,a5⟩:=b0;have g6:=qM (st:=qF) t2 q5 q8;have p0:=g6.binds (ps:=["_law_script"]) λ_ _ _ _ _ _=>us1 λ_=>rfl;obtain⟨_,q,r⟩:=h2;obtain⟨_,x,t⟩:=h6;obtain⟨_,k,i⟩:=f2;obtain⟨_,e3,e0⟩:=d7;obtain⟨_,g4,g3⟩:=f6;obtain⟨_,j4,k0⟩:=j9;obtain⟨_,d4,e6⟩:=d5;obtain⟨_,f5,g2⟩:=g1;obtain⟨_,e7,e8⟩:=f3;obtain⟨_,h8,i0⟩:=g9;obtain⟨_,a0,e5⟩:=d9;obtain⟨_,a2,d2⟩:=e4;refine⟨PySem.W.fnOf "law" "law" (zJ qF) (zv qF) (zf qF) .none i7 i5 i6 i8 f7 i9,λs v=>.of_eq rfl,λbase KX _ hbi=>?_⟩;have i1:=yJ (P:=l.prog) (w:=w) (base:=base) z (zO1 X G g5) q r;have j7:=yJ (P:=l.prog) (w:=w) (base:=base) M (zO1 X G i3) q r;have v0:=yJ (P:=l.prog) (w:=w) (base:=base) e2 (zO1 X G m7) q r;have h9:=yJ (P:=l.prog) (w:=w) (base:=base) y (zO1 X G g0) q r;have k1:=yJ (P:=l.prog) (w:=w) (base:=base) I (zO1 X G h1) q r;have j6:=yJ (P:=l.prog) (w:=w) (base:=base) J (zO1 X G h4) q r;have k7:=yJ (P:=l.prog) (w:=w) (base:=base) a4 (zO1 X G j8) q r;have t1:=aD (P:=l.prog) (w:=w) (base:=base) b3 nb;have g8:=nJ A t1;have m1:=eU (P:=l.prog) (w:=w) (base:=base) c3 nb;have q2:=jX d3 ⟨k2,zO1 X G n7⟩ g8;have t3:=oE V (dg B m1 q2);have u3:=pU c1 ⟨k4,zO1 X G p2⟩ g8;have q3:=mD c2 ⟨h0,zO1 X G j3⟩ m1 g8;have s4:=mB c7 nb t3 (oI b6 nb ⟨h0,zO1 X G j3⟩ g8 u3 q3);have t0:=lh c9 s4 (gP (cs:=⟨b,c,L,a,f,d,p⟩) i4 i1 j7 v0 h9 k1 j6 k7);have u8:=fB T nb ⟨n5,zO1 X G q7⟩ t0;have cB:Cls K CB:=⟨u4,q9,u9,r3⟩;have l6:=fO (zb7 (st:=yS) f1 f9 f0) cB j2 u8;have d1:mg "Book"=some (.ref CB):=zO1 X G r1;have k3:Mk K CB j:=⟨v3,d8,d6,q1⟩;have o1:uE l.prog w K mg base "Book" 9 [] (qK CB ⟨b,c,L,a,f,d,p⟩):=⟨CB,j,_,_,_,d1,k3,ig lT,.nil,l6⟩;have v7:uE l.prog w K mg base "Book" 9 [.non] (qK CB ⟨b,c,L,a,f,d,p⟩):=⟨CB,j,_,_,_,d1,k3,iF lT,.cons rfl .nil,l6⟩;have OW:∀u∈words,xv l.prog w K mg base ((⟨b,c,L,a,f,d,p⟩:Cs).of u) "word" 1 (pH ((⟨b,c,L,a,f,d,p⟩:Cs).of u) u):=bK (yK z e3 e0 .o rfl) (yK M g4 g3 .o rfl) (yK e2 j4 k0 .o rfl) (yK y d4 e6 .o rfl) (yK I f5 g2 .o rfl) (yK J e7 e8 .o rfl) (yK a4 h8 i0 .o rfl);have OT:∀u∈words,xv l.prog w K mg base ((⟨b,c,L,a,f,d,p⟩:Cs).of u) "told" 2 (mZ ((⟨b,c,L,a,f,d,p⟩:Cs).of u) u):=bK (yE z x t (OW _ (by simp[words]))) (yE M x t (OW _ (by simp[words]))) (yE e2 x t (OW _ (by simp[words]))) (yE y x t (OW _ (by simp[words]))) (yE I x t (OW _ (by simp[words]))) (yE J x t (OW _ (by simp[words]))) (yE a4 x t (OW _ (by simp[words])));have DU:lG K w dU tbU:=⟨_,nU,lU,.cons ⟨s9,⟨_,rfl⟩,rfl⟩ (.cons ⟨v5,⟨_,rfl⟩,rfl⟩ (.cons ⟨o4,⟨_,rfl⟩,rfl⟩ (.cons ⟨s0,⟨_,rfl⟩,⟨_,rfl⟩⟩ (.cons ⟨u1,⟨_,rfl⟩,⟨_,rfl⟩⟩ (.cons ⟨p4,⟨_,rfl⟩,rfl⟩ (.cons ⟨p3,⟨_,rfl⟩,⟨_,rfl⟩⟩ (.nil))))))),by decide +kernel⟩;have CU:=jZ (P:=l.prog) (base:=base) f8 (zO1 X G aU) DU;have q6:∀u∈words,xv l.prog w K mg base ((⟨b,c,L,a,f,d,p⟩:Cs).of u) "tells" 1 (tR ((⟨b,c,L,a,f,d,p⟩:Cs).of u)):=bK (yi z k i) (yi M k i) (yi e2 k i) (yi y k i) (yi I k i) (yi J k i) (yi a4 k i);have OC:∀u∈words,Cls K ((⟨b,c,L,a,f,d,p⟩:Cs).of u)/\yu K ((⟨b,c,L,a,f,d,p⟩:Cs).of u) "worth":=bK (⟨z.cl,z.nw⟩) (⟨M.cl,M.nw⟩) (⟨e2.cl,e2.nw⟩) (⟨y.cl,y.nw⟩) (⟨I.cl,I.nw⟩) (⟨J.cl,J.nw⟩) (⟨a4.cl,a4.nw⟩);have j0:=mw cB j2 ⟨c6,c5,a2.kp⟩ a2 d2 nb CU OW q6 OC;have MR:=lA cB j2 ⟨c4,c8,a0.kp⟩ a0 e5 OT;have CB:=iY (P:=l.prog) (w:=w) (base:=base) U;have CD:Cal l.prog w K mg base "_law_take" 1 xf:=gu a8 E.kp a5 (ai E);have s6:=iR Z CD;have CW:=jI S CD s6;have k8:=fG a9 nb CD CW;have CY:=zc6 b8 CD;have t5:=iG a7 nb CD;have CN:=mN (P:=l.prog) (w:=w) (base:=base) b1 nb;have CC:Cal l.prog w K mg base "cheapest_first" 3 qY:=js l7 l2 n2 D C nb hhd KX hbi;have s8:Cal l.prog w K mg base "marked" 4 tQ:=mW e1 nb CC;have q4:=zr7 O j0;have m8:=jz (gL i2 nb j0 CN q4 s8);have n4:=cE h5 CN j0;have l5:=za8 Y n4;have r4:=eR h3 n4 m8;have p1:=br Q l5 m8;have r8:=zr1 (P:=l.prog) (w:=w) (base:=base) b7 nb;have r5:=zn3 g7 nb j5 ⟨k2,zO1 X G n7⟩ r8;have t7:=bP f4 nb ⟨h0,zO1 X G j3⟩ ⟨n3,zO1 X G p8⟩ MR r5 p1;have CF:=bZ b4 nb CD k8;have t4:=eX R nb CD k8 CW;have p9:=ip a6 l5 r4;have v1:=zb2 b2 nb CD t5 p9;exact zs0 g6 nb CB CY CF t4 o1 t7 v1
theorem walk {l:PySem.W.OpenLaw}{q:Program}{loose:List Str}{p:(Str->Option Value)->Heap->Prop}{g:World->Heap->Prop}{d:DefRec}{K:Params->PySem.W.Frag}{c:Addr}(hn:l.most=some 63)(hdf:d.params.defaults=[])
  (v:∀(w:World) (h:Heap),g w h->(K w.params).In h) (e:∀(w:World) (h:Heap),g w h->h.get? yc=some (PySem.W.tabObj #[]))
  (i:∀w:World,(K w.params).lookup yc=none) (b:∀w:World,∃o vs,(K w.params).lookup c=some o/\o.cls=.type "code"/\o.data=.fields vs/\vs[11]?=some (.ref yc))
  (F:∀(w:World) (mg:Str->Option Value) (j:Addr) (h:Heap),(K w.params).In h->h.Ns mainGlobals mg->mg d.name=some (.ref j)->
   ∃fd:FuncData,(∀(s:Shared) (u:Value),BindsTo s fd ⟨[u],[]⟩ [("_law_script",u)])/\∀base:Heap,(K w.params).In base->base.Ns mainGlobals mg->base.BuiltinsAt mg yc->yD l.prog w (K w.params) mg base CX0 11 j fd ["_law_script"] (pQ (K w.params))):
  PySem.W.WalkO q loose p g l.row.toRowW d [] (λf vs=>PySem.call f vs):=
 L2.dn (n:=63) (k:=11) (x:="_law_script") (CX:=λ_=>CX0) (sp:=λw=>pQ (K w.params)) hn (by decide) hdf ⟨rfl,by decide,by decide,rfl⟩ v e i b F (λ_ H a ns t _ y r=>⟨a,ns,rfl,r,t,⟨#[],y,trivial,λpos cv m=>by cases m⟩,λ_=>rfl⟩) λ_ _ _ _ _ z=>z
end K69
namespace PySem.W.Fast
def tw17889182160754279872:=Nat
def tw9969003222563720897:=Nat
def tw9852505580378511522:=Nat
def tw938560157166773829:=Nat
def tw10149347597672163053:=Nat
def tw2214405503123901249:=Nat
def tw5398549251757890876:=Nat
def tw16475205749097065564:=Nat
def tw11311270988316343436:=Nat
def tw1028692756811895170:=Nat
def tw12531816169166418054:=Nat
def tw995913513564280993:=Nat
def tw11735999382895102599:=Nat
def tw5984485589114344179:=Nat
def tw1064983060493208583:=Nat
def tw384512337160228287:=Nat
def tw10290991297761179152:=Nat
def tw12512917752124425514:=Nat
def tw14969637946177613517:=Nat
def tw1746895104579363320:=Nat
def tw17591177019773173576:=Nat
def tw13643146779307376393:=Nat
def tw8077222274854019650:=Nat
def tw15957673109306778974:=Nat
def tw14493736531440455790:=Nat
def tw15499525649270768259:=Nat
def tw6172133097879779612:=Nat
def tw12660382885380437991:=Nat
def tw13142909917812898512:=Nat
def tw1897251271279167540:=Nat
def tw14273660576809554042:=Nat
def tw9212468826561950258:=Nat
def tw3302291158550213905:=Nat
def tw16002422010071281940:=Nat
def tw9433057322641914750:=Nat
def tw6447243773987203540:=Nat
def tw293132037155589156:=Nat
def tw9997766495415495073:=Nat
def tw2610010676908199448:=Nat
def tw13730977256322348997:=Nat
def tw14761739639189393622:=Nat
def tw4522948702530081550:=Nat
def tw12400648211982599595:=Nat
def tw1707112242796351408:=Nat
def tw3712928445159080813:=Nat
def tw475519724935094647:=Nat
def tw3874883852750355436:=Nat
def tw17798431437231390340:=Nat
def tw17839526511082771571:=Nat
def tw12441631515328075383:=Nat
def tw17695727884051428108:=Nat
def tw1723723455358904353:=Nat
def tw10589226715189073179:=Nat
def tw7401938391252207201:=Nat
def tw4907671018512059244:=Nat
def tw9240102856275364039:=Nat
def tw14234958427122735679:=Nat
def tw12006503869805388502:=Nat
def tw9220059721125598562:=Nat
def tw4571082358660880075:=Nat
def tw2516147864555660418:=Nat
def tw15718023740043328589:=Nat
def tw4606185596313365026:=Nat
def tw12044970042994226124:=Nat
def tw16350645589025463825:=Nat
def tw13552716130660432422:=Nat
def tw13583117177687532603:=Nat
def tw16900614440053001196:=Nat
def tw14585152680706956913:=Nat
def tw15132066390539182851:=Nat
def tw1393250784618074725:=Nat
def tw15040958559181386802:=Nat
def tw10795518613952014409:=Nat
def tw3863465108603354576:=Nat
def tw3347977571841176358:=Nat
def tw18314731183438522982:=Nat
def tw3094025097504437177:=Nat
def tw16038882048466727543:=Nat
def tw9505479605136312999:=Nat
def tw1598734982764891740:=Nat
def tw15535096940830166507:=Nat
def tw7991402402325237598:=Nat
def tw12118878244539175511:=Nat
def tw9392597429428767070:=Nat
def tw6411101109539517855:=Nat
def tw15003553398633246476:=Nat
def tw4495470757670767884:=Nat
def tw12892564847334878815:=Nat
def tw11639390362839991375:=Nat
def tw1457732128411156930:=Nat
def tw12643649147729763512:=Nat
def tw10943300924643123589:=Nat
def tw7293442498894512118:=Nat
def tw8570014030851736737:=Nat
def tw2354499246082034561:=Nat
def tw16825768332882778856:=Nat
def tw4113028140239739876:=Nat
def tw14811928176690404919:=Nat
def tw14736456421797827047:=Nat
def tw14672006643113175469:=Nat
def tw734878962105378398:=Nat
def tw10290827572114640347:=Nat
def tw3638402185634755757:=Nat
def tw2608628201995235178:=Nat
def tw13185187586961802264:=Nat
def tw6710803719214108785:=Nat
def tw9655889025991725867:=Nat
def tw4817218774122781700:=Nat
def tw15629284270144781150:=Nat
def tw4921937519047594412:=Nat
def tw14450083445307802325:=Nat
def tw17843293296252668156:=Nat
def tw8601480919389612117:=Nat
def tw3138157398242855326:=Nat
def tw16518027648754147895:=Nat
def tw13934096217637845436:=Nat
def tw15456179429363043033:=Nat
def tw15734055403444431429:=Nat
def tw13073365010416551088:=Nat
def tw13774617525802626290:=Nat
def tw11875506251041106602:=Nat
def tw15635468175539933444:=Nat
def tw12544173866776072239:=Nat
def tw2689226624830740233:=Nat
def tw16905439311673615969:=Nat
def tw8225714533889837530:=Nat
def tw15243205425216051881:=Nat
def tw3067049585729941759:=Nat
def tw9922147585278138018:=Nat
def tw4582333019235941098:=Nat
def tw13279976091932094692:=Nat
def tw5622227033603128665:=Nat
def tw3937007291799949360:=Nat
def tw8183574401141521697:=Nat
def tw6509205837348437011:=Nat
def tw6908403278028340402:=Nat
def tw7764038591109434573:=Nat
def tw6683068246464785069:=Nat
def tw5050733162583280838:=Nat
def tw12479066581042210383:=Nat
def tw4728850840779746286:=Nat
def tw5510811929121788014:=Nat
def tw3231460302171669263:=Nat
def tw13354259880151091183:=Nat
def tw14192505008062369321:=Nat
def tw6827542021295976741:=Nat
def tw5474175140371132420:=Nat
def tw16080094104212304718:=Nat
def tw9930261348567808150:=Nat
def tw1271281011848251106:=Nat
def tw9271918529038374674:=Nat
def tw10739001875601717709:=Nat
def tw12605108483076044267:=Nat
def tw6280109722669339548:=Nat
def tw16819955888464576727:=Nat
def tw10507098302901343132:=Nat
def tw1604484295144963566:=Nat
def tw15607332001356207647:=Nat
def tw13369949512065054763:=Nat
def tw8839487287602567410:=Nat
def tw5632579416970769172:=Nat
def tw5147294156922411042:=Nat
def tw7197537845301001690:=Nat
def tw14191496698879159832:=Nat
def tw4924204960094738150:=Nat
def tw9206738308097600646:=Nat
def tw7604452046509871006:=Nat
def tw11551283851271206097:=Nat
def tw14462691877741620074:=Nat
def tw11456473774089429363:=Nat
def tw6539049188025893097:=Nat
def tw15067368439904327104:=Nat
def tw5915467146765495705:=Nat
def tw10379750204607041649:=Nat
def tw31088697897480167:=Nat
def tw7977642852004852313:=Nat
def tw2365294219451474412:=Nat
def tw11894506884056713362:=Nat
def tw5559914618415955705:=Nat
def tw2561914127846856970:=Nat
def tw16896222323635355773:=Nat
def tw2698929507092947837:=Nat
def tw1364652563587870057:=Nat
def tw9730458739267232799:=Nat
def tw16164785541157337662:=Nat
def tw4562966768866344233:=Nat
def tw1780561777250786469:=Nat
def tw4995649172187545823:=Nat
def tw14317132530792612869:=Nat
def tw14914588948301326636:=Nat
def tw7596299379355659447:=Nat
def tw1498685524079676440:=Nat
def tw9208353911485794304:=Nat
def tw1532836875626680762:=Nat
def tw12539780156743295045:=Nat
def tw5049212839115584033:=Nat
def tw10774870904401037479:=Nat
def tw8559510758864682358:=Nat
def tw3322597070371636682:=Nat
def tw625183551221796456:=Nat
def tw15645733891515021197:=Nat
def tw54395281949564236:=Nat
def tw5460976487173607141:=Nat
def tw17794606038627454601:=Nat
def tw3275437971848429546:=Nat
def tw16801305303867831234:=Nat
def tw13464766864939575178:=Nat
def tw16164578376174732541:=Nat
def tw4590522125877997561:=Nat
def tw4121419056562277489:=Nat
def tw13981855578723230572:=Nat
def tw7073161170850393508:=Nat
def tw16136101062077347738:=Nat
def tw2081937931976815491:=Nat
def tw9981984590961662312:=Nat
def tw7898214669182618452:=Nat
def tw4889907188516468976:=Nat
def tw5650516472958129933:=Nat
def tw9777274892607029788:=Nat
def tw11615253810093696201:=Nat
def tw8082408143262290717:=Nat
def tw6981096744293888568:=Nat
def tw9903845673618464100:=Nat
def tw17764878989781582393:=Nat
def tw13058192813642805916:=Nat
def tw17861678447624594016:=Nat
def tw10757479875827123840:=Nat
def tw12037842117926491136:=Nat
def tw10822385789334180975:=Nat
def tw8847620780439136969:=Nat
def tw14963174505163423103:=Nat
def tw474416711608565125:=Nat
def tw9285984252888898823:=Nat
def tw14288916321500914124:=Nat
def tw3821995297227369082:=Nat
def tw5957245101262993110:=Nat
def tw1217168117119896366:=Nat
end PySem.W.Fast
open PySem PySem.W PyProof.Rows
set_option maxRecDepth 100000 in
theorem PySem.Challenge.cw_stayprice_k69_whole_alike_for_every_stay_holds : PySem.Challenge.rw_stayprice_k69_whole_alike_for_every_stay.Holds := by
 w_on;o_law;k_head;(case hw=>w_witness2)
 k_fill
 refine K69.walk (l:=PySem.Challenge.rw_stayprice_k69_whole_alike_for_every_stay) (c:=(151:Nat)) rfl rfl (λw h Y=>PySem.W.km_in_of Y) (λw h Y=>PySem.W.km_tabs_of Y _ (zL9.mpr rfl)) ?hno ?htab ?hF
 case hno=>intro w;kernel_rfl
 case htab=>intro w;exact⟨_,_,by k_is,rfl,rfl,rfl⟩
 case hF=>
  intro w mg d h a G b
  refine' K69.all_mk a G b (K69.mkG a G ?_ (K69.mkF ?_ ?_ ?_)) (K69.mkG a G ?_ (K69.mkF ?_ ?_ ?_)) (K69.mkG a G ?_ (K69.mkF ?_ ?_ ?_)) (K69.mkG a G ?_ (K69.mkF ?_ ?_ ?_)) (K69.mkG a G ?_ (K69.mkF ?_ ?_ ?_)) (K69.mkG a G ?_ (K69.mkF ?_ ?_ ?_)) (K69.mkG a G ?_ (K69.mkF ?_ ?_ ?_)) (K69.mkG a G ?_ (K69.mkF ?_ ?_ ?_)) (K69.mkG a G ?_ (K69.mkF ?_ ?_ ?_)) (K69.mkG a G ?_ (K69.mkF ?_ ?_ ?_)) (K69.mkG a G ?_ (K69.mkF ?_ ?_ ?_)) (K69.mkG a G ?_ (K69.mkF ?_ ?_ ?_)) (K69.mkG a G ?_ (K69.mkF ?_ ?_ ?_)) ?_ ?_ ?_ ?_ (K69.mkG a G ?_ (K69.mkF ?_ ?_ ?_)) (K69.mkG a G ?_ (K69.mkF ?_ ?_ ?_)) (K69.mkG a G ?_ (K69.mkF ?_ ?_ ?_)) (K69.mkG a G ?_ (K69.mkF ?_ ?_ ?_)) (K69.mkG a G ?_ (K69.mkF ?_ ?_ ?_)) (K69.mkG a G ?_ (K69.mkF ?_ ?_ ?_)) (K69.mkG a G ?_ (K69.mkF ?_ ?_ ?_)) (K69.mkG a G ?_ (K69.mkF ?_ ?_ ?_)) (K69.mkG a G ?_ (K69.mkF ?_ ?_ ?_)) (K69.mkG a G ?_ (K69.mkF ?_ ?_ ?_)) (K69.mkG a G ?_ (K69.mkF ?_ ?_ ?_)) (K69.mkG a G ?_ (K69.mkF ?_ ?_ ?_)) (K69.mkG a G ?_ (K69.mkF ?_ ?_ ?_)) (K69.mkG a G ?_ (K69.mkF ?_ ?_ ?_)) (K69.mkG a G ?_ (K69.mkF ?_ ?_ ?_)) (K69.mkG a G ?_ (K69.mkF ?_ ?_ ?_)) (K69.mkG a G ?_ (K69.mkF ?_ ?_ ?_)) (K69.mkG a G ?_ (K69.mkF ?_ ?_ ?_)) (K69.mkG a G ?_ (K69.mkF ?_ ?_ ?_)) (K69.mkG a G ?_ (K69.mkF ?_ ?_ ?_)) (K69.mkG a G ?_ (K69.mkF ?_ ?_ ?_)) (K69.mkG a G ?_ (K69.mkF ?_ ?_ ?_)) (K69.mkG a G ?_ (K69.mkF ?_ ?_ ?_)) ?_ ?_ ?_ ?_ ?_ ?_ ?_ ?_ ?_ ?_ ?_ (K69.mkR ?_ ?_ ?_ ?_ ?_ ?_ ?_ ?_ ?_ ?_ ?_ ?_ ?_ ?_ ?_ ?_ ?_ ?_ ?_ ?_) (K69.mkR ?_ ?_ ?_ ?_ ?_ ?_ ?_ ?_ ?_ ?_ ?_ ?_ ?_ ?_ ?_ ?_ ?_ ?_ ?_ ?_) (K69.mkR ?_ ?_ ?_ ?_ ?_ ?_ ?_ ?_ ?_ ?_ ?_ ?_ ?_ ?_ ?_ ?_ ?_ ?_ ?_ ?_) (K69.mkR ?_ ?_ ?_ ?_ ?_ ?_ ?_ ?_ ?_ ?_ ?_ ?_ ?_ ?_ ?_ ?_ ?_ ?_ ?_ ?_) (K69.mkR ?_ ?_ ?_ ?_ ?_ ?_ ?_ ?_ ?_ ?_ ?_ ?_ ?_ ?_ ?_ ?_ ?_ ?_ ?_ ?_) (K69.mkR ?_ ?_ ?_ ?_ ?_ ?_ ?_ ?_ ?_ ?_ ?_ ?_ ?_ ?_ ?_ ?_ ?_ ?_ ?_ ?_) (K69.mkR ?_ ?_ ?_ ?_ ?_ ?_ ?_ ?_ ?_ ?_ ?_ ?_ ?_ ?_ ?_ ?_ ?_ ?_ ?_ ?_) (K69.mkF ?_ ?_ ?_) (K69.mkF ?_ ?_ ?_) (K69.mkF ?_ ?_ ?_) (K69.mkF ?_ ?_ ?_) (K69.mkF ?_ ?_ ?_) (K69.mkF ?_ ?_ ?_) (K69.mkF ?_ ?_ ?_) (K69.mkF ?_ ?_ ?_) (K69.mkF ?_ ?_ ?_) (K69.mkF ?_ ?_ ?_) ?_ ?_ ?_ ?_ ?_ ?_ ?_ ?_ ?_ (K69.mkF ?_ ?_ ?_) ?_ ?_ (K69.mkF ?_ ?_ ?_) ?_ ?_ ?_ ?_ ?_ ?_ ?_ ?_ ?_ ?_ ?_ ?_ ?_ ?_ ?_ ?_ ?_ ?_ ?_ ?_ ?_ ?_ ?_ ?_ ?_ ?_ ?_ ?_ ?_ ?_ ?_ ?_ ?_ ?_ ?_ ?_ ?_ ?_ ?_ ?_ ?_ ?_
  all_goals try (show _=_;first|k_is|kernel_rfl)
